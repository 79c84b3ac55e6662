import PyProof.Rows.All
import Wide.All
import OpenK.AllK
import Wide.FinOn
import Lean
import PyProof.EqAt
import PyProof.EqKinds
import PyProof.TupleCall
import PyProof.CallType
import PyProof.WalkLemmas
import PyProof.StrOps
import PyProof.ForAny
import PyProof.IsInstanceH
import PyProof.IsiFacts
import PyProof.IsiFacts2
import PyProof.FactsAll.object
import PyProof.ListMulRoad
import PyProof.FactsAll.tuple_2
import PyProof.StrLawsIdx
import KE.KDictList
import PyProof.Rows.Range3
import PyProof.EnumMake
import PyProof.EnumFor
import PyProof.CompUse
import PyProof.ListStr
import PyProof.NeKinds
import PyProof.IsInstanceT
import PyProof.FString5
import PyProof.Rows.SeqMore2
import PyProof.IsiPairs
import PyProof.StrCalls3
import KE.KSortTup
import KE.KSortKey
import PyProof.Rows.SortStr
import KE.KLam
import KE.KDictOf
import KE.KEqDict
import KE.KDictSum
import PyProof.AttrMissHeap
import PyProof.DictWalks
import PyProof.Rows.TupTab
import PyProof.DictItems
import PyProof.FactsAll.set_1
import KE.KRevIter
import PySem.Challenge.RW_shardask_k63_while_moving
set_option Elab.async false
set_option linter.all false
set_option maxRecDepth 100000
set_option maxHeartbeats 6400000
local macro_rules|`(tactic|trivial)=>`(tactic|(intro a b c d h;repeat (first|(obtain ⟨e,_⟩:=h;subst e;rfl)|(obtain ⟨_,h⟩:=h)|fail)))
section
open PySem PySem.Spec PySem.Calls PyProof.Rows
def c7:=@wpAny_bind
def d7:=@List.getElem?_eq_getElem
def d8:=@Heap.get?_push_of_some
def d9:=@wpAny_pure
def j0:=@Nat.le_refl
def j4:=@List.getD_eq_getElem?_getD
def j5:=@Heap.get?_push_size
def j6:=@List.mem_cons_self
def j7:=@List.size_toArray
def j8:=@List.mem_cons_of_mem
def j9:=@List.length_map
def m8:=@Array.getElem?_eq_getElem
def m9:=@Heap.lt_size
def t6:=@decide_eq_true
def t7:=@List.mem_of_getElem?
def t8:=@Array.length_toList
def v4:=@Bool.false_ne_true
def v5:=@Nat.ne_of_lt
def v6:=@List.getElem?_map
def v7:=@Array.getD_eq_getD_getElem?
def v8:=@decide_eq_false
def v9:=@List.length_cons
def w6:=@List.not_mem_nil
def bAA:=@Nat.lt_of_lt_of_le
def bAB:=@List.length_append
def bAC:=@List.mem_cons
def bAD:=@List.getElem?_eq_none
def bAE:=@wpAny_call_entry
def bAF:=@List.mem_append_right
def bAG:=@Nat.zero_le
def bAH:=@wpAny_callSpecial?_slot
def bAI:=@wpAny_setField_rec
def bAJ:=@wpAny_field
def bAK:=@wpAny_newObj_type
def bAL:=@List.length_range
def bAM:=@Nat.le_trans
def bAN:=@List.map_cons
def bAO:=@List.length_take
def bAP:=@Option.some.inj
def bAQ:=@PySem.W.mg_none_of
def bAR:=@Int.toNat_natCast
def bAS:=@wpAny_holding
def bAT:=@Bool.and_eq_true
def bAU:=@wpAny_seqItems
def bAV:=@List.getElem_mem
def bAW:=@List.take_of_length_le
def bAX:=@Heap.size_push
def bAY:=@Heap.SameBut.update
def bAZ:=@PyProof.Rows.F.plain_set_update_loop
def bBA:=@Around.under_plainId
def bBB:=@Bool.false_eq_true
def bBC:=@List.getElem_of_mem
def bBD:=@codeAny_builtin
def bBE:=@wpAny_truthy_bool
def bBF:=@Nat.lt_succ_of_lt
def bBG:=@Heap.get?_update_self
def bBH:=@List.length_filter_le
def bBI:=@List.map_append
def bBJ:=@List.getElem?_append_right
def bBK:=@List.take_add_one
def bBL:=@wpAny_setState_of
def bBM:=@List.getElem?_append_left
def bBN:=@wpAny_mono
def bBO:=@Nat.lt_irrefl
def bBP:=@Option.getD_some
def bBQ:=@Array.getElem?_toList
def bBR:=@PyProof.Rows.callWith_type1
def bBS:=@wpAny_Call_Name_kw
def bBT:=@Nat.le_add_right
def bBU:=@PyProof.Rows.F.entry_set_update_loop
def bBV:=@List.eq_of_mem_replicate
def bBW:=@Calls.spliced_cons
def bBX:=@List.mem_append_left
def bBY:=@List.length_drop
def bBZ:=@List.all_eq_true
def bCA:=@List.getElem_toArray
def bCB:=@wpAny_attempt
def bCC:=@PySem.W.mg_of
def bCD:=@wpAny_pyIter_list
def bCE:=@List.ext_getElem?
def bCF:=@List.set_set
def bCG:=@Array.getElem?_eq_none
def bCH:=@List.filterMap_cons
def bCI:=@List.getElem?_range
def bCJ:=@List.append_nil
def bCK:=@List.find?_cons
def bCL:=@PyProof.Rows.slot_tuple_getitem
def bCM:=@Nat.lt_succ_self
def bCN:=@Nat.lt_of_le_of_lt
def bCO:=@wpAny_typeNameOfWhole_itemiter
def bCP:=@codeAny_mono
def bCQ:=@plainId_quiet
def bCR:=@List.eq_nil_of_length_eq_zero
def bCS:=@Bool.eq_iff_iff
def bCT:=@List.length_nil
def bCU:=@Nat.ne_of_gt
def bCV:=@List.lookup_cons
def bCW:=@List.take_length
def bCX:=@wpAny_isInstance
def bCY:=@List.forIn_cons
def bCZ:=@Nat.not_lt_zero
def bDA:=@List.append_assoc
def bDB:=@Nat.zero_add
def bDC:=@List.mem_of_mem_take
def bDD:=@wpAny_rule
def bDE:=@wpAny_onRaise
def bDF:=@Array.toList_append
def bDG:=@List.mem_map_of_mem
def bDH:=@wpAny_setEntries_of
def bDI:=@wpAny_setField
def bDJ:=@List.filter_cons
def bDK:=@wpAny_askSetting
def bDL:=@Nat.le_of_lt
def bDM:=@Heap.get?_update_other
def bDN:=@SeqAt.EqAt.str_str
def bDO:=@Calls.callWith_builtin
def bDP:=@List.filter_filter
def bDQ:=@List.length_replicate
def bDR:=@Array.mem_of_getElem?
def bDS:=@List.getElem?_toArray
def bDT:=@Calls.Name_function_global
def bDU:=@Nat.le_succ
def bDV:=@codeAny_call_builtin
def bDW:=@wpAny_fieldsOf
def bDX:=@List.zipIdx_cons
def bDY:=@List.any_eq_true
def bDZ:=@List.map_map
def bD0:=@List.drop_eq_getElem_cons
def bD1:=@List.take_nil
def bD2:=@List.Pairwise.imp_of_mem
def bD3:=@wpAny_passesOwn
def bD4:=@SeqAt.EqAt.same
def bD5:=@List.zipIdx_nil
def bD6:=@List.nodup_cons
def bD7:=@List.nil_append
def bD8:=@List.filterMap_map
def bD9:=@SeqAt.EqAt.int_int
def bEA:=@List.map_replicate
def bEB:=@Int.emod_lt_of_pos
def bEC:=@wpAny_of_eq
def bED:=@List.length_eraseIdx_le
def bEE:=@List.getElem?_set_self
def bEF:=@Calls.spliced_nil
def bEG:=@wpAny_typeOf
def bEH:=@List.forIn_nil
def bEI:=@wpAny_newTuple
def bEJ:=@Nat.lt_trans
def bEK:=@List.drop_of_length_le
def bEL:=@Array.getElem_mem
def bEM:=@Heap.get?_push_ne
def bEN:=@wpAny_isOneOf_itemiter
def bEO:=@wpAny_pyIter_slot
def bEP:=@Nat.lt_trichotomy
def bEQ:=@List.eraseIdxIfInBounds_toArray
def bER:=@List.length_singleton
def bES:=@List.take_append_drop
def bET:=@wpAny_call
def bEU:=@wpAny_pyIter_zip
def bEV:=@wpAny_forIn_list
def bEW:=@List.any_cons
def bEX:=@wpAny_handled
def bEY:=@Calls.evalArgs_plain
def bEZ:=@wpAny_newFunctionEnv
def bE0:=@wpAny_letGo
def bE1:=@Int.emod_nonneg
def bE2:=@List.length_zipWith
def bE3:=@Nat.le_of_eq
def bE4:=@wpAny_pyIter_tuple
def bE5:=@Nat.lt_or_eq_of_le
def bE6:=@Bool.and_false
def bE7:=@List.mem_singleton
def bE8:=@List.length_eraseIdx_of_lt
def bE9:=@List.perm_ext_iff_of_nodup
def bFA:=@wpAny_letOwnedTupleGo_zip
def bFB:=@wpAny_throw
def bFC:=@Option.isSome_map
def bFD:=@wpAny_dictEntries
def bFE:=@Array.toList_push
def bFF:=@wpAny_storeSet_of
def bFG:=@wpAny_standAt
abbrev bFH:=PySem.W.Frag
abbrev bFI:=Value->Shared->Prop
abbrev bFJ:=List (Addr × Obj)
abbrev bFK:=Str->Option Value
end
local macro_rules
  | `(tactic| trivial) => `(tactic| first | exact Or.inl rfl | exact Or.inr rfl | exact Or.inr (Or.inl rfl) | exact Or.inr (Or.inr rfl) | exact⟨rfl, rfl, rfl, by decide +kernel, rfl, by decide +kernel, by decide +kernel⟩ | exact⟨by decide +kernel, rfl, by decide +kernel, by decide +kernel⟩ | fail)
namespace L2
open PySem PySem.Spec PyProof.Rows
abbrev Key:=Sum Int Str
def wQ:Key->Value->Bool
 |.inl k,v=>Value.isInt k v
 |.inr x,v=>Value.isStrOf x v
def bCz (w:World):Key->Int
 |.inl k=>hashInt k
 |.inr x=>hashStr w x
theorem cU:∀{k:Key} {v:Value},wQ k v=true->(∃i t,k=Sum.inl i/\v=Value.int i t)\/(∃x t,k=Sum.inr x/\v=Value.str x t)
 |.inl i,v,h=>by obtain⟨t,e⟩:=Value.isInt_shape (k:=i) (v:=v) h;exact .inl ⟨i,t,rfl,e⟩
 |.inr x,v,h=>by obtain⟨t,e⟩:=Value.isStrOf_shape (x:=x) (v:=v) h;exact .inr ⟨x,t,rfl,e⟩
def aEi (i:Int)(t:Tok):wQ (.inl i) (.int i t)=true:=by simp[wQ,Value.isInt]
def aE5 (x:Str)(t:Tok):wQ (.inr x) (.str x t)=true:=by simp[wQ,Value.isStrOf]
def bAz (a b:Int):decide ((Sum.inl a:Key)=Sum.inl b)=(a == b):=by
 by_cases e:a=b
 ·subst e;simp
 ·have h:¬ (Sum.inl a:Key)=Sum.inl b:=λq=>e (Sum.inl.inj q);rw[v8 h];exact (beq_eq_false_iff_ne.mpr e).symm
def aY8 (a b:Str):decide ((Sum.inr a:Key)=Sum.inr b)=decide (a=b):=by
 by_cases e:a=b
 ·subst e;simp
 ·have h:¬ (Sum.inr a:Key)=Sum.inr b:=λq=>e (Sum.inr.inj q);rw[v8 h,v8 e]
def bAb (a:Int)(b:Str):decide ((Sum.inl a:Key)=Sum.inr b)=false:=v8 (λq=>nomatch q)
def bAl (a:Str)(b:Int):decide ((Sum.inr a:Key)=Sum.inl b)=false:=v8 (λq=>nomatch q)
def bL (prog:Program)(w:World):PySem.KeyKind prog w Key where
 is:=wQ
 hash:=bCz w
 inj:=λv a b ha hb=>by
  rcases cU ha with⟨i,t,rfl,rfl⟩|⟨x,t,rfl,rfl⟩
  ·rcases cU hb with⟨j,u,rfl,e⟩|⟨y,u,rfl,e⟩
   ·injection e with e1 _;rw[e1]
   ·exact nomatch e
  ·rcases cU hb with⟨j,u,rfl,e⟩|⟨y,u,rfl,e⟩
   ·exact nomatch e
   ·injection e with e1 _;rw[e1]
 byValue:=λk v h=>by rcases cU h with⟨i,t,rfl,rfl⟩|⟨x,t,rfl,rfl⟩ <;> rfl
 pyHash:=λhv h=>by
  rcases cU hv with⟨i,t,rfl,rfl⟩|⟨x,t,rfl,rfl⟩
  ·exact wpAny_pyHash_int h
  ·exact wpAny_pyHash_str h
 eqBool:=λhu hv h=>by
  rcases cU hu with⟨i,t,rfl,rfl⟩|⟨x,t,rfl,rfl⟩
  ·rcases cU hv with⟨j,u,rfl,rfl⟩|⟨y,u,rfl,rfl⟩
   ·rw[bAz] at h;exact wpAny_eqBool_int h
   ·rw[bAb] at h;exact SeqAt.EqAt.int_str i t y u _ _ _ _ h
  ·rcases cU hv with⟨j,u,rfl,rfl⟩|⟨y,u,rfl,rfl⟩
   ·rw[bAl] at h;exact SeqAt.EqAt.str_int x t j u _ _ _ _ h
   ·rw[aY8] at h;exact wpAny_eqBool_str h
 «strs»:=λk x t v h=>by
  rcases cU h with⟨i,u,rfl,e⟩|⟨y,u,rfl,e⟩
  ·exact nomatch e
  ·injection e with e1 _;subst e1;cases v <;> rfl
def aJv (prog:Program)(w:World)(i:Int)(t:Tok):(bL prog w).is (.inl i) (.int i t)=true:=aEi i t
def aKt (prog:Program)(w:World)(x:Str)(t:Tok):(bL prog w).is (.inr x) (.str x t)=true:=aE5 x t
inductive V where
 |non|bl (b:Bool)|int (i:Int)|str (x:Str)|byt (b:Array UInt8)|flt (b:UInt64)|ref (a:Addr)|ty (n:String)
 deriving DecidableEq
def RelV:V->Value->Prop
 |.non,u=>u=Value.none
 |.bl b,u=>u=Value.bool b
 |.int i,u=>∃t,u=Value.int i t
 |.str x,u=>∃t,u=Value.str x t
 |.byt b,u=>∃t,u=Value.bytes b t
 |.flt b,u=>∃t,u=Value.float b t
 |.ref a,u=>u=Value.ref a
 |.ty n,u=>u=Value.type n
abbrev Vals:List V->List Value->Prop:=Paired RelV
theorem Vals.length {xs:List V}{us:List Value}(r:Vals xs us):xs.length=us.length:=Paired.length r
theorem Vals.get:∀{xs:List V} {us:List Value} {i:Nat} {x:V},Vals xs us->xs[i]?=some x->∃u,us[i]?=some u/\RelV x u
 |_,_,_,_,.nil,e=>by simp at e
 |_,_,0,_,.cons r _,e=>by simp at e;subst e;exact⟨_,rfl,r⟩
 |_,_,i+1,x,.cons _ t,e=>by obtain⟨u,a,b⟩:=Vals.get (i:=i) (x:=x) t (by simpa using e);exact⟨u,by simpa using a,b⟩
theorem Vals.set {x:V}{u:Value}(r:RelV x u):∀{xs:List V} {us:List Value} (i:Nat),Vals xs us->Vals (xs.set i x) (us.set i u)
 |_,_,_,.nil=>.nil
 |_,_,0,.cons _ t=>.cons r t
 |_,_,i+1,.cons q t=>.cons q (Vals.set r i t)
theorem Vals.append:∀{xs ys:List V} {us ws:List Value},Vals xs us->Vals ys ws->Vals (xs++ys) (us++ws)
 |_,_,_,_,.nil,s=>s
 |_,_,_,_,.cons r t,s=>.cons r (Vals.append t s)
theorem Vals.take:∀{xs:List V} {us:List Value} (n:Nat),Vals xs us->Vals (xs.take n) (us.take n)
 |_,_,0,_=>.nil
 |_,_,_+1,.nil=>.nil
 |_,_,n+1,.cons r t=>.cons r (Vals.take n t)
theorem Vals.drop:∀{xs:List V} {us:List Value} (n:Nat),Vals xs us->Vals (xs.drop n) (us.drop n)
 |_,_,0,r=>r
 |_,_,_+1,.nil=>.nil
 |_,_,n+1,.cons _ t=>Vals.drop n t
def qR:Option V->Option Value->Prop
 |some v,some u=>RelV v u
 |none,none=>True
 |_,_=>False
def KV {κ:Type}:List (κ × V)->List (κ × Value)->Prop:=Paired λ(p:κ × V) (q:κ × Value)=>p.1=q.1/\RelV p.2 q.2
def kV:Key->V
 |.inl i=>.int i
 |.inr x=>.str x
inductive HO where
  |lst (xs:List V)
  |tup (xs:List V)
  |dK (kvs:List (Key × V))|dT (kvs:List (List Key × V))
  |set (S:Int->Bool) (n:Nat)
  |ins (C dx:Addr) (fs:List (Str × V))
  |own (x:Addr)
  |xd (fs:List (Str × V))
  |met (f x:Addr)
  |rng (lo hi:Int)
  |frz (o:Obj) (u:HO)
  |tbl (ps:Array Value)
  |tab (q:Str)
  |ext (φ:Heap->Prop)
abbrev Hp:=Addr->Option HO
def upd (H:Hp)(a:Addr)(o:HO):Hp:=λb=>if b=a then some o else H b
def aH {H:Hp}{a:Addr}{o:HO}:upd H a o a=some o:=by unfold upd;rw[if_pos rfl]
def aP {H:Hp}{a b:Addr}{o:HO}(h:b≠a):upd H a o b=H b:=by unfold upd;rw[if_neg h]
def aW4 {H:Hp}{a:Addr}{o u:HO}:upd (upd H a o) a u=upd H a u:=by funext b;unfold upd;split <;> rfl
def aKn {H:Hp}{a b:Addr}{o u:HO}(h:H a=some o)(h':H b=some u)(d:o≠u):a≠b:=by intro e;subst e;rw[h] at h';exact d (bAP h')
def aU {H:Hp}{a b:Addr}{o:HO}(h:H a=some o)(h':H b=none):a≠b:=by intro e;subst e;rw[h] at h';cases h'
def aAg (h:Heap)(a:Addr)(items:Array Value):Prop:=IsTup h a items/\∀o,h.get? a=some o->o.dict=none
def aAg.of {h:Heap}{a:Addr}{items:Array Value}{o:Obj}(e:h.get? a=some o)(d:o.dict=none)(x:IsTup h a items):aAg h a items:=⟨x,λc b=>by rw[e] at b;cases b;exact d⟩
theorem aAg.new (h:Heap)(items:Array Value):aAg (h.push { cls:=.type "tuple",data:=.seq items }) h.objs.size items:=.of (j5 _ rfl) rfl (IsTup.new _ _)
def aAg.keep {h h':Heap}{a:Addr}{items:Array Value}(x:aAg h a items)(k:∀o,h.get? a=some o->h'.get? a=some o):aAg h' a items:=by obtain⟨⟨o,e,c⟩,d⟩:=x;exact .of (k o e) (d o e) ⟨o,k o e,c⟩
section
variable (P:Program)(w:World)
def dH (H:Hp)(h:Heap)(a:Addr):HO->Prop
 |.lst xs=>xs.length<=sizeLine/\∃(its:List Value) (n:Nat),Vals xs its/\h.get? a=some { cls:=.type "list",data:=.seq its.toArray n }
 |.tup xs=>xs.length<=sizeLine/\∃its:List Value,Vals xs its/\aAg h a its.toArray
 |.dK kvs=>kvs.length<=sizeLine/\(a == sysModules)=false/\∃vs,KV kvs vs/\h.DictOf (bL P w) a vs
 |.dT kvs=>kvs.length<=sizeLine/\(a == sysModules)=false/\∃xs:List (List Key × Addr × Value),
   Paired (λ(p:List Key × V) (q:List Key × Addr × Value)=>p.1=q.1/\H q.2.1=some (.tup (p.1.map kV))/\RelV p.2 q.2.2) kvs xs /\
   ∃o es ep,h.get? a=some o/\o.ExactDict/\o.data=.dict es ep/\es.toList=xs.map (entryOfKey (tupleKind (bL P w)))/\(xs.map (·.1)).Nodup
 |.set S n=>h.SetOf (intKind P w) a S n
 |.ins C dx fs=>H dx=some (.own a)/\fs.length<=1000/\dx≠a/\h.get? a=some (PySem.W.instObj C dx) /\
   ∃mA,h.Ns1 dx mA/\(∀f,qR (fs.lookup f) (mA f))/\PySem.Within mA (fs.map (·.1))
 |.own _=>∃o,h.get? a=some o
 |.xd fs=>∃mA,h.Ns1 a mA/\∀f,qR (fs.lookup f) (mA f)
 |.rng lo hi=>∃t u v,h.get? a=some { cls:=.type "range",data:=.fields #[.int lo t,.int hi u,.int 1 v] }
 |.frz o u=>h.get? a=some o/\dH H h a u
 |.tbl ps=>h.get? a=some { cls:=.none,data:=.fields ps }
 |.tab q=>∃ps:Array Value,h.get? a=some { cls:=.none,data:=.fields ps }/\TriplesOk ps.toList/\∀(pos:Pos) (cv:Value),codeAmong pos ps.toList=some cv->∃(c:Addr) (oc:Obj) (vs:Array Value) (t:Tok),cv=.ref c/\H c=some (.own a)/\h.get? c=some oc/\oc.data=.fields vs/\vs[1]?=some (.str q t)
 |.met f x=>h.get? a=some (PySem.W.methodObj (.ref f) (.ref x))
 |.ext φ=>φ h/\(∃o,h.get? a=some o)/\∀h1 h2:Heap,φ h1->(∀o,h1.get? a=some o->h2.get? a=some o)->φ h2
def HOk (H:Hp)(h:Heap):Prop:=∀a o,H a=some o->dH P w H h a o
end
section
variable {P:Program}{w:World}{H H':Hp}{h h':Heap}{a:Addr}{o:HO}
theorem dH.lt (x:dH P w H h a o):a<h.objs.size:=by
 cases o with
 |lst xs=>obtain⟨_,_,_,_,e⟩:=x;exact m9 e
 |tup xs=>obtain⟨_,_,_,p⟩:=x;exact p.1.lt
 |dK kvs=>obtain⟨_,_,_,_,o,_,_,e,_⟩:=x;exact m9 e
 |dT kvs=>obtain⟨_,_,_,_,o,_,_,e,_⟩:=x;exact m9 e
 |set S n=>obtain⟨o,_,_,_,e,_⟩:=x;exact m9 e
 |ins C dx fs=>obtain⟨_,_,_,e,_⟩:=x;exact m9 e
 |own y=>obtain⟨_,e⟩:=x;exact m9 e
 |xd fs=>obtain⟨_,⟨_,_,_,e,_⟩,_⟩:=x;exact m9 e
 |rng lo hi=>obtain⟨_,_,_,e⟩:=x;exact m9 e
 |frz ob u=>obtain⟨e,_⟩:=x;exact m9 e
 |tbl ps=>exact m9 (show h.get? a=some _ from x)
 |tab q=>obtain⟨_,e,_⟩:=x;exact m9 e
 |met f y=>exact m9 (show h.get? a=some _ from x)
 |ext φ=>obtain⟨_,⟨_,e⟩,_⟩:=x;exact m9 e
theorem Paired.aZi {α β:Type}{F G:α->β->Prop}:∀{l₁:List α} {l₂:List β},Paired F l₁ l₂->(∀a b,F a b->G a b)->Paired G l₁ l₂
 |_,_,.nil,_=>.nil
 |_,_,.cons r t,f=>.cons (f _ _ r) (Paired.aZi t f)
theorem dH.stay (x:dH P w H h a o)(k:∀b u,(b=a\/H b=some (.own a))->h.get? b=some u->h'.get? b=some u)
  (J:∀b,H b=some (.own a)->H' b=some (.own a)) (K:∀b xs,H b=some (.tup xs)->H' b=some (.tup xs)):dH P w H' h' a o:=by
 induction o with
 |lst xs=>obtain⟨z,l,n,r,e⟩:=x;exact⟨z,l,n,r,k _ _ (.inl rfl) e⟩
 |tup xs=>obtain⟨z,l,r,p⟩:=x;exact⟨z,l,r,p.keep λo e=>k _ _ (.inl rfl) e⟩
 |dK kvs=>obtain⟨z,y,s,r,j,i,g,e,c⟩:=x;exact⟨z,y,s,r,j,i,g,k _ _ (.inl rfl) e,c⟩
 |dT kvs=>obtain⟨z,y,xs,r,j,i,g,e,c⟩:=x;exact⟨z,y,xs,Paired.aZi r λp q z=>⟨z.1,K _ _ z.2.1,z.2.2⟩,j,i,g,k _ _ (.inl rfl) e,c⟩
 |set S n=>obtain⟨j,i,g,t,e,c⟩:=x;exact⟨j,i,g,t,k _ _ (.inl rfl) e,c⟩
 |ins C dx fs=>obtain⟨d,z,G,e,B,⟨A,i,g,I,c⟩,r⟩:=x;exact⟨J _ d,z,G,k _ _ (.inl rfl) e,B,⟨A,i,g,k _ _ (.inr d) I,c⟩,r⟩
 |own y=>obtain⟨j,e⟩:=x;exact⟨j,k _ _ (.inl rfl) e⟩
 |xd fs=>obtain⟨B,⟨A,i,g,e,c⟩,r⟩:=x;exact⟨B,⟨A,i,g,k _ _ (.inl rfl) e,c⟩,r⟩
 |rng lo hi=>obtain⟨t,u,v,e⟩:=x;exact⟨t,u,v,k _ _ (.inl rfl) e⟩
 |frz j u ih=>obtain⟨e,q⟩:=x;exact⟨k _ _ (.inl rfl) e,ih q⟩
 |tab q=>obtain⟨m,e,t,c⟩:=x;exact⟨m,k _ _ (.inl rfl) e,t,λD F q=>let ⟨c',oc,s,tk,a1,a2,a3,a4⟩:=c D F q;⟨c',oc,s,tk,a1,J _ a2,k _ _ (.inr a2) a3,a4⟩⟩
 |tbl m=>have e:h.get? a=some { cls:=.none,data:=.fields m }:=x;show h'.get? a=some { cls:=.none,data:=.fields m };exact k a _ (.inl rfl) e
 |met f y=>have e:h.get? a=some (PySem.W.methodObj (.ref f) (.ref y)):=x;show h'.get? a=some (PySem.W.methodObj (.ref f) (.ref y));exact k a _ (.inl rfl) e
 |ext φ=>obtain⟨p,⟨o,e⟩,E⟩:=x;exact⟨E _ _ p λo q=>k _ _ (.inl rfl) q,⟨o,k _ _ (.inl rfl) e⟩,E⟩
theorem HOk.lt (x:HOk P w H h)(e:H a=some o):a<h.objs.size:=(x a o e).lt
theorem HOk.fresh (x:HOk P w H h)(e:h.objs.size<=a):H a=none:=by
 cases q:H a with
 |none=>rfl
 |some u=>exact absurd (bAA (x.lt q) e) (bBO _)
def HOk.kept (x:HOk P w H h)(k:∀b u,h.get? b=some u->h'.get? b=some u):HOk P w H h':=λa o e=>
 (x a o e).stay (λb u _ q=>k b u q) (λ_ q=>q) λ_ _ q=>q
def HOk.laid (x:HOk P w H h)(k:∀b u,h.get? b=some u->h'.get? b=some u)(i:h.objs.size<=a)(g:dH P w (upd H a o) h' a o):HOk P w (upd H a o) h':=λb u e=>by
 have f:=x.fresh i;by_cases d:b=a
 ·subst d;rw[aH] at e;cases e;exact g
 ·rw[aP d] at e;exact (x b u e).stay (λc v _ q=>k c v q) (λc q=>by rw[aP (aU q f)];exact q) λc j q=>by rw[aP (aU q f)];exact q
end
def Rd (H:Hp)(a:Addr)(u:HO):Prop:=H a=some u\/∃o,H a=some (.frz o u)
def Rd.ok {P:Program}{w:World}{H:Hp}{h:Heap}{a:Addr}{u:HO}(r:Rd H a u)(x:HOk P w H h):dH P w H h a u:=by
 rcases r with r|⟨o,r⟩
 ·exact x a u r
 ·obtain⟨_,q⟩:=x a _ r;exact q
def Mut:Option HO->Prop
 |some (.lst _)=>True
 |some (.dK _)=>True
 |some (.dT _)=>True
 |some (.set _ _)=>True
 |some (.ins _ _ _)=>True
 |some (.ext _)=>True
 |some (.tab _)=>True
 |_=>False
section
variable {P:Program}{w:World}{H:Hp}{h h':Heap}{x e:Addr}{o':HO}
def HOk.write (s:HOk P w H h)(j:Mut (H x))(p:e=x\/H e=some (.own x))(k:∀b u,b≠e->h.get? b=some u->h'.get? b=some u)(n:∃u,h'.get? e=some u)
  (m:dH P w (upd H x o') h' x o'):HOk P w (upd H x o') h':=λb u q=>by
 have d:∀c y,H c=some (.own y)->c≠x:=λc y r z=>by subst z;rw[r] at j;exact j
 have f:∀c g,H c=some (.tup g)->c≠x:=λc g r z=>by subst z;rw[r] at j;exact j
 by_cases i:b=x
 ·subst i;rw[aH] at q;cases q;exact m
 ·rw[aP i] at q;by_cases a:b=e
  ·have l:H b=some (.own x):=by
    rcases p with z|z
    ·exact absurd (a.trans z) i
    ·rw[a];exact z
   rw[q] at l;cases l;obtain⟨v,o⟩:=n;exact⟨v,by rw[a];exact o⟩
  ·refine (s b u q).stay (λc v hc r=>k c v ?_ r) (λc r=>by rw[aP (d c b r)];exact r) λc g r=>by rw[aP (f c g r)];exact r
   rcases hc with rfl|hc
   ·exact a
   ·rintro rfl;rcases p with z|z
    ·exact d c b hc z
    ·rw[hc] at z;cases z;exact i rfl
end
structure Un (fs ex:List Addr)(H H':Hp)(h h':Heap):Prop where
 keep:∀b o,h.get? b=some o->H b=none->b∉fs->b∉ex->h'.get? b=some o
 slot:∀b o,h.get? b=some o->H b=none->b∈fs->b∉ex->∃sl,h'.get? b=some { o with slots:=sl }
 free:∀b o,h.get? b=some o->H b=none->b∉ex->H' b=none
 there:∀b o,h.get? b=some o->b∉ex->∃o',h'.get? b=some o'
 tups:∀b xs,H b=some (.tup xs)->H' b=some (.tup xs)
 frzs:∀b o u,H b=some (.frz o u)->H' b=some (.frz o u)
 tbls:∀b ps,H b=some (.tbl ps)->∃more,H' b=some (.tbl (ps++more))
section
variable {fs fs' ex ex':List Addr}{H H1 H2:Hp}{h h1 h2 h':Heap}{a x e:Addr}{o:HO}
def Un.any (u:Un fs ex H H1 h h1){b:Addr}{a:Obj}(q:h.get? b=some a)(n:H b=none)(d:b∉ex):∃sl,h1.get? b=some { a with slots:=sl }:=by
 by_cases c:b∈fs
 ·exact u.slot b a q n c d
 ·exact⟨a.slots,u.keep b a q n c d⟩
def Un.kept (k:∀b u,h.get? b=some u->h'.get? b=some u):Un fs ex H H h h':=
 ⟨λb a q _ _ _=>k b a q,λb a q _ _ _=>⟨a.slots,k b a q⟩,λ_ _ _ n _=>n,λb a q _=>⟨a,k b a q⟩,λ_ _ q=>q,λ_ _ _ q=>q,λ_ c q=>⟨#[],by rw[q];simp⟩⟩
def Un.refl:Un fs ex H H h h:=Un.kept λ_ _ q=>q
def Un.laid (k:∀b u,h.get? b=some u->h'.get? b=some u)(f:h.objs.size<=a)(c:H a=none):Un fs ex H (upd H a o) h h' where
 keep:=λb u q _ _ _=>k b u q
 slot:=λb u q _ _ _=>⟨u.slots,k b u q⟩
 free:=λb u q n _=>by rw[aP (v5 (bAA (m9 q) f))];exact n
 there:=λb u q _=>⟨u,k b u q⟩
 tups:=λb d q=>by rw[aP (aU q c)];exact q
 frzs:=λb u d q=>by rw[aP (aU q c)];exact q
 tbls:=λb e q=>⟨#[],by rw[aP (aU q c),q];simp⟩
def Un.write (c:Mut (H x))(m:e=x\/H e=some (.own x))(k:∀b u,b≠e->h.get? b=some u->h'.get? b=some u)(i:∃u,h'.get? e=some u):Un fs ex H (upd H x o) h h':=by
 have g:∀b,H b=none->b≠x:=λb n z=>by subst z;rw[n] at c;exact c
 have f:∀b,H b=none->b≠e:=λb n z=>by
  subst z;rcases m with r|r
  ·exact g b n r
  ·rw[n] at r;cases r
 have d:∀b u,H b=some u->¬ Mut (some u)->b≠x:=λb u q nm z=>by subst z;rw[q] at c;exact nm c
 refine⟨λb u q n _ _=>k b u (f b n) q,λb u q n _ _=>⟨u.slots,k b u (f b n) q⟩,λb u q n _=>by rw[aP (g b n)];exact n,λb u q _=>?_,
  λb j q=>by rw[aP (d b _ q λz=>z)];exact q,λb u j q=>by rw[aP (d b _ q λz=>z)];exact q,λb l q=>⟨#[],by rw[aP (d b _ q λz=>z),q];simp⟩⟩
 by_cases a:b=e
 ·subst a;exact i
 ·exact⟨u,k b u a q⟩
end
def trk (h:Heap)(H:Hp):List Addr:=(List.range h.objs.size).filter λa=>(H a).isSome
def aD6 (h:Heap)(H:Hp):Heap:=PySem.W.hideAll h (trk h H)
def aQk (h:Heap)(H:Hp):(aD6 h H).objs.size=h.objs.size:=PySem.W.hideAll_size _ _
def aT1 {h:Heap}{H:Hp}{b:Addr}{o:Obj}(e:h.get? b=some o)(n:H b=none):(aD6 h H).get? b=some o:=
 PySem.W.hideAll_get _ e λa=>by have q:(H b).isSome=true:=(List.mem_filter.mp a).2;rw[n] at q;simp at q
theorem aWb {h:Heap}{H:Hp}{b:Addr}{o:Obj}(e:(aD6 h H).get? b=some o):h.get? b=some o/\H b=none:=by
 have a:h.get? b=some o:=PySem.W.of_hideAll (trk h H) e;refine⟨a,?_⟩;cases q:H b with
 |none=>rfl
 |some x=>have c:b∈trk h H:=List.mem_filter.mpr ⟨List.mem_range.mpr (m9 a),by simp[q]⟩;have z:(aD6 h H).get? b=none:=PySem.W.hideAll_none (trk h H) c;rw[z] at e;cases e
structure Mod (K:bFH)(mg:bFK)(base:Heap):Prop where
 kin:K.In base
 glob:base.Ns mainGlobals mg
 blt:∃mb,base.Ns builtinsNs mb/\∀x:Str,x≠"__name__"->mb x=bootBuiltins x
 nolimit:base.NoLimit
structure Cx where
 prog:Program
 w:World
 K:bFH
 mg:bFK
 base:Heap
 A:Around
 N:List Str
 s₀:Shared
 H₀:Hp
 env:Env
 outer:List Env
 stack:List Env
 ex:List Addr
 fn:Str->Bool
 calm:Bool
 pn:bFJ
 xe:bFI
def frs (l:List Env):List Addr:=l.filterMap (·.frame)
abbrev Cx.fs (X:Cx):List Addr:=frs X.outer
def Vis (sc:Scope)(x:Str):Prop:=sc.names.lookup x=some .local\/sc.names.lookup x=some .cell\/sc.names.lookup x=some .free
def Loc (sc:Scope)(x:Str):Prop:=sc.names.lookup x=some .local\/sc.names.lookup x=some .cell
def Look (env:Env)(h:Heap)(m:bFK)(x:Str)(u:Value):Prop:=
 (env.kindOf x=some .local/\m x=some u)\/((env.kindOf x=some .cell\/env.kindOf x=some .free)/\∃c,env.cells.lookup x=some c/\h.IsCell c (some u))
structure Cx.Ok (X:Cx):Prop where
 mod:Mod X.K X.mg X.base
 kind:X.env.scope.kind=.function
 glob:X.env.globals=mainGlobals
 blt:X.env.builtins=builtinsNs
 above:X.s₀.heap.objs.size<=X.env.locals
 inj:∀x y c,X.env.cells.lookup x=some c->X.env.cells.lookup y=some c->x=y
 has:∀x,(X.env.kindOf x=some .cell\/X.env.kindOf x=some .free)->∃c,X.env.cells.lookup x=some c
 cab:∀x c,X.fn x=true->X.env.cells.lookup x=some c->X.s₀.heap.objs.size<=c
 hd:X.calm=true->X.A.handled=none
 frames:X.A.frames=some X.stack
 stk:X.stack=X.outer\/(X.stack=X.env::X.outer/\X.env.frame=some X.env.locals)
 exf:∀b∈X.ex,b≠X.env.locals/\∀x c,X.env.cells.lookup x=some c->c≠b
 bs:∀b o,X.base.get? b=some o->X.s₀.heap.get? b=some o/\X.H₀ b=none
 bsz:X.base.objs.size<=X.s₀.heap.objs.size
 noex:∀b o,X.base.get? b=some o->b∉X.ex
 exfs:∀b∈X.ex,b∉X.fs
 funs:X.s₀.heap.FunFrames X.base X.outer
 frf:∀b∈X.fs,X.H₀ b=none
structure Inv (X:Cx)(bFL:bFJ)(σ:List (Option V))(H:Hp)(s:Shared):Prop where
 ok:X.Ok
 os:s.os=X.s₀.os
 bare:AllBare s.gens
 base:Un X.fs X.ex X.H₀ H X.s₀.heap s.heap
 loc:∃m,s.heap.Ns X.env.locals m/\∀(i:Nat) (x:Str) (v:V),X.N[i]?=some x->σ[i]?=some (some v)->Vis X.env.scope x->∃u,RelV v u/\Look X.env s.heap m x u
 cell:∀x c,X.env.cells.lookup x=some c->∃v,s.heap.IsCell c v
 free:H X.env.locals=none
 freeC:∀x c,X.env.cells.lookup x=some c->H c=none
 pin:∀p∈X.pn++bFL,s.heap.get? p.1=some p.2/\H p.1=none/\p.1≠X.env.locals/\p.1∉X.fs/\∀v,p.2.data≠.cell v
 hok:HOk X.prog X.w H s.heap
 len:σ.length=X.N.length
section
variable {X:Cx}{bFL:bFJ}{σ:List (Option V)}{H H':Hp}{s:Shared}{h':Heap}
def Cx.Ok.nofr (c:X.Ok){b:Addr}{o:Obj}(e:X.base.get? b=some o):b∉X.fs:=λa=>by have:=(c.funs.mem a).1;rw[e] at this;cases this
theorem Inv.bs (I:Inv X bFL σ H s):∀b o,X.base.get? b=some o->s.heap.get? b=some o/\H b=none:=λb o e=>
 ⟨I.base.keep b o (I.ok.bs b o e).1 (I.ok.bs b o e).2 (I.ok.nofr e) (I.ok.noex b o e),I.base.free b o (I.ok.bs b o e).1 (I.ok.bs b o e).2 (I.ok.noex b o e)⟩
def Inv.bk (I:Inv X bFL σ H s):∀b o,X.base.get? b=some o->s.heap.get? b=some o:=λb o e=>(I.bs b o e).1
theorem Inv.mod (I:Inv X bFL σ H s):Mod X.K X.mg X.base:=I.ok.mod
def Inv.kIn (I:Inv X bFL σ H s):X.K.In s.heap:=I.ok.mod.kin.keeps I.bk
theorem Inv.nolimit (I:Inv X bFL σ H s):s.heap.NoLimit:=I.ok.mod.nolimit.keeps I.bk
theorem Inv.lt (I:Inv X bFL σ H s):X.env.locals<s.heap.objs.size:=let ⟨_,hn,_⟩:=I.loc;hn.lt
def Inv.sz (I:Inv X bFL σ H s):X.s₀.heap.objs.size<=s.heap.objs.size:=bAM I.ok.above (bDL I.lt)
def Inv.nofs (I:Inv X bFL σ H s){a:Addr}(h:s.heap.objs.size<=a):a∉X.fs:=λc=>by obtain⟨_,o,b,_⟩:=I.ok.funs.mem c;exact absurd (bAA (m9 b) (bAM I.sz h)) (bBO _)
def Inv.cne (I:Inv X bFL σ H s):∀x c,X.env.cells.lookup x=some c->c≠X.env.locals:=λx c e z=>by obtain⟨v,o,d,hd⟩:=I.cell x c e;obtain⟨m,⟨f,h,g,a,b,_⟩,_⟩:=I.loc;rw[z,a] at d;cases d;rw[b] at hd;cases hd
theorem Inv.funs (I:Inv X bFL σ H s):s.heap.FunFrames X.base X.outer:=by
 have c:∀(l:List Env),(∀b∈frs l,b∈X.fs)->X.s₀.heap.FunFrames X.base l->s.heap.FunFrames X.base l:=by
  intro l
  induction l with
  |nil=>intro _ _;trivial
  |cons env r ih=>intro g k;obtain⟨m,⟨L,o,a,j,i,hd⟩,h⟩:=k;have f:L∈X.fs:=g L (by unfold frs;rw[bCH,a];exact j6);obtain⟨n,e⟩:=I.base.slot L o i (I.ok.frf L f) f λz=>I.ok.exfs L z f;exact⟨m,⟨L,_,a,j,e,hd⟩,ih (λb d=>g b (by unfold frs;rw[bCH,a];exact j8 _ d)) h⟩
 exact c X.outer (λ_ d=>d) I.ok.funs
theorem Inv.stack (I:Inv X bFL σ H s):s.heap.FunFrames X.base X.stack:=by
 rcases I.ok.stk with e|⟨e,a⟩
 ·rw[e];exact I.funs
 ·rw[e];obtain⟨m,b,_⟩:=I.loc;refine .cons (by rw[I.ok.kind];decide) a b ?_ I.funs;exact Heap.get?_none_of_le (bAM I.ok.bsz I.ok.above)
def Inv.aG1 (I:Inv X bFL σ H s):∀b∈frs X.stack,b∈X.env.locals::X.fs:=λb a=>by
 rcases I.ok.stk with e|⟨e,c⟩
 ·rw[e] at a;exact j8 _ a
 ·rw[e] at a;unfold frs at a;rw[bCH,c] at a;exact a
def Inv.wN (I:Inv X bFL σ H s):∀b∈frs X.stack,H b=none:=λb hb=>by
 rcases List.mem_cons.mp (I.aG1 b hb) with e|hb
 ·rw[e];exact I.free
 ·obtain⟨_,o,a,_⟩:=I.ok.funs.mem hb;exact I.base.free b o a (I.ok.frf b hb) λz=>I.ok.exfs b z hb
def Inv.step {g':Array GenState}{t':Nat}{d':Drawn}{ch:List Addr}(I:Inv X bFL σ H s)
  (y:∀b∈ch,(b∈X.ex\/X.s₀.heap.objs.size<=b)/\b≠X.env.locals/\(∀x c,X.env.cells.lookup x=some c->c≠b)/\∀p∈X.pn++bFL,p.1≠b)
  (A:∀b o,b≠X.env.locals->b∉X.fs->b∉ch->s.heap.get? b=some o->H b=none->h'.get? b=some o)
  (slot:∀b o,b≠X.env.locals->b∈X.fs->b∉ch->s.heap.get? b=some o->H b=none->∃sl,h'.get? b=some { o with slots:=sl }) (g:∀b o,b∉ch->s.heap.get? b=some o->H b=none->H' b=none)
  (G:∀b o,b∉ch->s.heap.get? b=some o->∃o',h'.get? b=some o')
  (L:∀b xs,H b=some (.tup xs)->H' b=some (.tup xs)) (K:∀b o u,H b=some (.frz o u)->H' b=some (.frz o u)) (J:∀b ps,H b=some (.tbl ps)->∃more,H' b=some (.tbl (ps++more)))
  (W:∀m,s.heap.Ns X.env.locals m->h'.Ns X.env.locals m) (V:HOk X.prog X.w H' h') (Y:AllBare g') :
  Inv X bFL σ H' { s with heap:=h',gens:=g',drawn:=d',toks:=t' }:=by
 have E:∀b o,X.s₀.heap.get? b=some o->b≠X.env.locals:=λb o e=>v5 (bAA (m9 e) I.ok.above);have j:∀b o,X.s₀.heap.get? b=some o->b∉X.ex->b∉ch:=λb o e a B=>by
  rcases (y b B).1 with z|z
  ·exact a z
  ·exact absurd (bAA (m9 e) z) (bBO _)
 have f:∀x c,X.env.cells.lookup x=some c->∀v,s.heap.IsCell c v->h'.IsCell c v:=λx c e v ⟨o,C,hd⟩=>by
  have h:c∉ch:=λz=>(y c z).2.2.1 x c e rfl;by_cases N:c∈X.fs
  ·obtain⟨sl,q⟩:=slot c o (I.cne x c e) N h C (I.freeC x c e);exact⟨_,q,hd⟩
  ·exact⟨o,A c o (I.cne x c e) N h C (I.freeC x c e),hd⟩
 refine⟨I.ok,I.os,Y,⟨λb o e n B a=>?_,λb o e n B a=>?_,λb o e n a=>?_,λb o e a=>?_,λb xs e=>L b xs (I.base.tups b xs e),λb o xs e=>K b o xs (I.base.frzs b o xs e),λb ps e=>?_⟩,?_,λx c e=>?_,?_,λx c e=>?_,λp O=>?_,V,I.len⟩
 ·exact A b o (E b o e) B (j b o e a) (I.base.keep b o e n B a) (I.base.free b o e n a)
 ·obtain⟨sl,t⟩:=I.base.slot b o e n B a;obtain⟨F,D⟩:=slot b _ (E b o e) B (j b o e a) t (I.base.free b o e n a);exact⟨F,D⟩
 ·obtain⟨o',t⟩:=I.base.there b o e a;exact g b o' (j b o e a) t (I.base.free b o e n a)
 ·obtain⟨o',t⟩:=I.base.there b o e a;exact G b o' (j b o e a) t
 ·obtain⟨U,t⟩:=I.base.tbls b ps e;obtain⟨T,D⟩:=J b _ t;exact⟨U++T,by rw[D,Array.append_assoc]⟩
 ·obtain⟨m,R,S⟩:=I.loc;refine⟨m,W m R,λi x v t D Q=>?_⟩;obtain⟨u,r,l⟩:=S i x v t D Q;refine⟨u,r,?_⟩;rcases l with l|⟨k,c,e,z⟩
  ·exact .inl l
  ·exact .inr ⟨k,c,e,f x c e _ z⟩
 ·obtain⟨v,z⟩:=I.cell x c e;exact⟨v,f x c e v z⟩
 ·obtain⟨m,⟨o,_,_,C,_⟩,_⟩:=I.loc;exact g _ o (λz=>(y _ z).2.1 rfl) C I.free
 ·obtain⟨v,o,C,hd⟩:=I.cell x c e;exact g c o (λz=>(y c z).2.2.1 x c e rfl) C (I.freeC x c e)
 ·obtain⟨e,n,M,P,d⟩:=I.pin p O;have h:p.1∉ch:=λz=>(y p.1 z).2.2.2 p O rfl;exact⟨A p.1 p.2 M P h e n,g p.1 p.2 h e n,M,P,d⟩
def Inv.un {t':Nat}(I:Inv X bFL σ H s)(u:Un X.fs [] H H' s.heap h')(h:HOk X.prog X.w H' h'):Inv X bFL σ H' { s with heap:=h',toks:=t' }:=by
 obtain⟨m,⟨o,q,p,g,r⟩,_⟩:=id I.loc;obtain⟨v,i⟩:=u.any g I.free (by simp);exact I.step (g':=s.gens) (d':=s.drawn) (ch:=[]) (λ_ z=>nomatch z) (λb o _ d _ e n=>u.keep b o e n d (by simp)) (λb o _ d _ e n=>u.slot b o e n d (by simp)) (λb o _ e n=>u.free b o e n (by simp)) (λb o _ e=>u.there b o e (by simp)) u.tups u.frzs u.tbls (λl k=>by obtain⟨t,f,c,a,j⟩:=k;rw[g] at a;cases a;exact⟨_,f,c,i,j⟩) h I.bare
def Inv.call {g':Array GenState}{t':Nat}{d':Drawn}{ch:List Addr}(I:Inv X bFL σ H s)(u:Un (frs X.stack) ch H H' s.heap h')(k:HOk X.prog X.w H' h')(D:AllBare g')
  (f:∀b∈ch,(b∈X.ex\/X.s₀.heap.objs.size<=b)/\b≠X.env.locals/\(∀x c,X.env.cells.lookup x=some c->c≠b)/\∀p∈X.pn++bFL,p.1≠b) :
  Inv X bFL σ H' { s with heap:=h',gens:=g',drawn:=d',toks:=t' }:=by
 obtain⟨m,⟨o,A,y,j,r⟩,_⟩:=id I.loc;obtain⟨C,h⟩:=u.any j I.free λz=>(f _ z).2.1 rfl;exact I.step (ch:=ch) f (λb o h l a e n=>u.keep b o e n (λz=>(List.mem_cons.mp (I.aG1 b z)).elim h l) a) (λb o _ _ a e n=>u.any e n a) (λb o a e n=>u.free b o e n a) (λb o a e=>u.there b o e a) u.tups u.frzs u.tbls (λv t=>by obtain⟨B,i,g,d,q⟩:=t;rw[j] at d;cases d;exact⟨_,i,g,h,q⟩) k D
def Inv.turned {t':Nat}{it:Addr}(I:Inv X bFL σ H s)(k:∀b o,b≠it->s.heap.get? b=some o->h'.get? b=some o)(B:H it=none)(j:it≠X.env.locals)
  (A:it∈X.ex\/X.s₀.heap.objs.size<=it) (t:∀x c,X.env.cells.lookup x=some c->c≠it) (w:∀p∈X.pn++bFL,p.1≠it):Inv X bFL σ H { s with heap:=h',toks:=t' }:=by
 have d:∀b u,H b=some u->b≠it:=λb u e z=>by rw[z,B] at e;cases e
 refine I.step (g':=s.gens) (d':=s.drawn) (ch:=[it]) (λb i=>?_) (λb o _ _ a e _=>k b o (λz=>a (by simp[z])) e) (λb o _ _ a e _=>⟨o.slots,k b o (λz=>a (by simp[z])) e⟩) (λ_ _ _ _ n=>n)
  (λb o a e=>⟨o,k b o (λz=>a (by simp[z])) e⟩) (λ_ _ e=>e) (λ_ _ _ e=>e) (λb y e=>⟨#[],by rw[e];simp⟩) (λm l=>?_) (λb u e=>?_) I.bare
 ·have e:b=it:=by simpa using i
  subst e;exact⟨A,j,t,w⟩
 ·obtain⟨o,g,f,h,r⟩:=l;exact⟨o,g,f,k _ o (Ne.symm j) h,r⟩
 ·refine (I.hok b u e).stay (λc v a q=>k c v ?_ q) (λ_ q=>q) λ_ _ q=>q;rcases a with z|z
  ·rw[z];exact d b u e
  ·exact d c _ z
def Inv.tok (I:Inv X bFL σ H s)(t:Nat):Inv X bFL σ H { s with toks:=t }:=I.un (h':=s.heap) (t':=t) Un.refl I.hok
theorem Inv.kept {t':Nat}(I:Inv X bFL σ H s)(k:∀b u,s.heap.get? b=some u->h'.get? b=some u):Inv X bFL σ H { s with heap:=h',toks:=t' }:=I.un (Un.kept k) (I.hok.kept k)
theorem Inv.laid {a:Addr}{o:HO}{t':Nat}(I:Inv X bFL σ H s)(k:∀b u,s.heap.get? b=some u->h'.get? b=some u)(c:s.heap.objs.size<=a)(d:dH X.prog X.w (upd H a o) h' a o) :
  Inv X bFL σ (upd H a o) { s with heap:=h',toks:=t' }:=I.un (Un.laid k c (I.hok.fresh c)) (I.hok.laid k c d)
theorem Inv.write {x e:Addr}{o:HO}{t':Nat}(I:Inv X bFL σ H s)(f:Mut (H x))(d:e=x\/H e=some (.own x))(k:∀b u,b≠e->s.heap.get? b=some u->h'.get? b=some u)(a:∃u,h'.get? e=some u)
  (c:dH X.prog X.w (upd H x o) h' x o):Inv X bFL σ (upd H x o) { s with heap:=h',toks:=t' }:=I.un (Un.write f d k a) (I.hok.write f d k a c)
def Inv.aO8 {pins':bFJ}(I:Inv X bFL σ H s)(h:∀p∈pins',s.heap.get? p.1=some p.2/\H p.1=none/\p.1≠X.env.locals/\p.1∉X.fs/\∀v,p.2.data≠.cell v):Inv X pins' σ H s:=
 ⟨I.ok,I.os,I.bare,I.base,I.loc,I.cell,I.free,I.freeC,λp a=>(List.mem_append.mp a).elim (λz=>I.pin p (bBX _ z)) (h p),I.hok,I.len⟩
def aKv {N:List Str}(g:N.Nodup){i j:Nat}{x:Str}(a:N[i]?=some x)(b:N[j]?=some x):i=j:=by obtain⟨e,d⟩:=List.getElem?_eq_some_iff.mp a;obtain⟨f,c⟩:=List.getElem?_eq_some_iff.mp b;exact (List.getElem_inj g).mp (d.trans c.symm)
def aEy {M:Model}{A:Around}{E:bFI}{i:Nat}{x:Str}{v:V}{u:Value}{Q:Unit->Shared->Prop}(I:Inv X bFL σ H s)(hN:X.N.Nodup)(hi:X.N[i]?=some x)(t:Loc X.env.scope x)(r:RelV v u)
  (h:∀s',Inv X bFL (σ.set i (some v)) H s'->(∃a,Heap.SameBut a s.heap s'.heap/\(a=X.env.locals\/X.env.cells.lookup x=some a))->Q () s') (hf:X.fn x=true\/X.env.scope.names.lookup x=some .local:=by first|exact .inl rfl|exact .inr rfl|assumption):wpAny M A (storeName X.env x u) Q E s:=by
 obtain⟨m,hn,hl⟩:=id I.loc;have L:(X.env.scope.kind == .class || (X.env.scope.kind == .module && X.env.locals != X.env.globals))=false:=by rw[I.ok.kind];rfl
 have O:i<σ.length:=by rw[I.len];exact (List.getElem?_eq_some_iff.mp hi).1
 have G:=I.cne;have g:∀{a:Addr} {K:Heap},(∃o,s.heap.get? a=some o/\H a=none)->Heap.SameBut a s.heap K->HOk X.prog X.w H K:=λ{a K} ha f b ob e=>by
  obtain⟨_,_,B⟩:=ha;refine (I.hok b ob e).stay (λc U hc q=>(f.2 c ?_).trans q) (λ_ q=>q) λ_ _ q=>q;rintro rfl;rcases hc with rfl|hc
  ·rw[B] at e;cases e
  ·rw[B] at hc;cases hc
 rcases t with hk|hk
 ·refine wpAny_storeName_local hk hn (λK a0 f=>?_) L;obtain⟨oL,_,_,a1,_⟩:=id hn;refine h _ ⟨I.ok,I.os,I.bare,⟨λb o e n J t=>?_,λb o e n J t=>?_,I.base.free,λb o e t=>?_,I.base.tups,I.base.frzs,I.base.tbls⟩,⟨_,a0,λj y v' l C e3=>?_⟩,λy c e=>?_,I.free,I.freeC,λp hp=>?_,g ⟨oL,a1,I.free⟩ f,by simpa using I.len⟩ ⟨_,f,.inl rfl⟩
  ·exact (f.2 b (v5 (bAA (m9 e) I.ok.above))).trans (I.base.keep b o e n J t)
  ·obtain⟨sl,l⟩:=I.base.slot b o e n J t;exact⟨sl,(f.2 b (v5 (bAA (m9 e) I.ok.above))).trans l⟩
  ·obtain⟨Z,l⟩:=I.base.there b o e t;exact⟨Z,(f.2 b (v5 (bAA (m9 e) I.ok.above))).trans l⟩
  ·by_cases D:j=i
   ·subst D;rw[hi] at l;cases l;rw[bEE O] at C;cases C;exact⟨u,r,.inl ⟨hk,by simp⟩⟩
   ·rw[List.getElem?_set_ne (Ne.symm D)] at C;obtain⟨u',r',q⟩:=hl j y v' l C e3;refine⟨u',r',?_⟩;rcases q with⟨k,e⟩|⟨k,c,e,z⟩
    ·refine .inl ⟨k,?_⟩;have:y≠x:=λe=>D (aKv hN l (e ▸ hi));simp[this,e]
    ·exact .inr ⟨k,c,e,z.sameBut f (G y c e)⟩
  ·obtain⟨U,z⟩:=I.cell y c e;exact⟨U,z.sameBut f (G y c e)⟩
  ·obtain⟨e,n,Y,nf,d⟩:=I.pin p hp;exact⟨(f.2 p.1 Y).trans e,n,Y,nf,d⟩
 ·have F:X.fn x=true:=by
   rcases hf with z|z
   ·exact z
   ·rw[z] at hk;cases hk
  obtain⟨c,hc⟩:=I.ok.has x (.inl hk);obtain⟨U,z⟩:=I.cell x c hc;refine wpAny_storeName_cell I.ok.kind hk hc z (λK R f=>?_);obtain⟨oc,P,S⟩:=id z;refine h { s with heap:=K } ⟨I.ok,I.os,I.bare,⟨λb o e n J t=>?_,λb o e n J t=>?_,I.base.free,λb o e t=>?_,I.base.tups,I.base.frzs,I.base.tbls⟩,⟨m,hn.sameBut f (Ne.symm (G x c hc)),λj y v' l C e3=>?_⟩,λy W e=>?_,I.free,I.freeC,λp hp=>?_,g ⟨oc,P,I.freeC x c hc⟩ f,by simpa using I.len⟩ ⟨c,f,.inr hc⟩
  ·exact (f.2 b (v5 (bAA (m9 e) (I.ok.cab x c F hc)))).trans (I.base.keep b o e n J t)
  ·obtain⟨sl,l⟩:=I.base.slot b o e n J t;exact⟨sl,(f.2 b (v5 (bAA (m9 e) (I.ok.cab x c F hc)))).trans l⟩
  ·obtain⟨Z,l⟩:=I.base.there b o e t;exact⟨Z,(f.2 b (v5 (bAA (m9 e) (I.ok.cab x c F hc)))).trans l⟩
  ·by_cases D:j=i
   ·subst D;rw[hi] at l;cases l;rw[bEE O] at C;cases C;exact⟨u,r,.inr ⟨.inl hk,c,hc,R⟩⟩
   ·rw[List.getElem?_set_ne (Ne.symm D)] at C;obtain⟨u',r',q⟩:=hl j y v' l C e3;refine⟨u',r',?_⟩;rcases q with q|⟨k,W,e,z'⟩
    ·exact .inl q
    ·refine .inr ⟨k,W,e,z'.sameBut f ?_⟩;rintro rfl;exact D (aKv hN l (I.ok.inj _ _ _ e hc ▸ hi))
  ·by_cases T:W=c
   ·subst T;exact⟨_,R⟩
   ·obtain⟨w2,z2⟩:=I.cell y W e;exact⟨w2,z2.sameBut f T⟩
  ·obtain⟨e,n,Y,nf,d⟩:=I.pin p hp;refine⟨(f.2 p.1 ?_).trans e,n,Y,nf,d⟩;intro q;rw[q,P] at e;have q':oc=p.2:=bAP e;exact d U (by rw[<-q'];exact S)
def aJ0 {M:Model}{A:Around}{E:bFI}{i:Nat}{x:Str}{v:V}{u:Value}{Q:Unit->Shared->Prop}(I:Inv X bFL σ H s)(d:X.N.Nodup)(hi:X.N[i]?=some x)(c:Loc X.env.scope x)(r:RelV v u)
  (h:∀s',Inv X bFL (σ.set i (some v)) H s'->Q () s') (b:X.fn x=true\/X.env.scope.names.lookup x=some .local:=by first|exact .inl rfl|exact .inr rfl|assumption):wpAny M A (storeName X.env x u) Q E s:=
 aEy I d hi c r (λs' a _=>h s' a) b
def Inv.call' {s':Shared}{ch:List Addr}(I:Inv X bFL σ H s)(h:s'.os=s.os)(u:Un (frs X.stack) ch H H' s.heap s'.heap)(f:HOk X.prog X.w H' s'.heap)(i:AllBare s'.gens)
  (d:∀b∈ch,(b∈X.ex\/X.s₀.heap.objs.size<=b)/\b≠X.env.locals/\(∀x c,X.env.cells.lookup x=some c->c≠b)/\∀p∈X.pn++bFL,p.1≠b):Inv X bFL σ H' s':=by
 obtain⟨g,g',d',t',a⟩:=s';have e:a=s.os:=h;subst e;exact I.call (g':=g') (t':=t') (d':=d') u f i d
end
abbrev XK:=Value->Option Addr->Hp->Prop
abbrev St:=List (Option V)
abbrev VK:=V->Hp->Prop
abbrev TE:=St->Hp->VK->Prop
abbrev TT:=St->Hp->(Bool->Hp->Prop)->Prop
abbrev TA:=St->Hp->(List V->Hp->Prop)->Prop
structure Ends where
 nx:St->Hp->Prop
 rt:VK
 bk:St->Hp->Prop:=λ_ _=>False
 ct:St->Hp->Prop:=λ_ _=>False
abbrev TS:=Ends->St->Hp->Prop
def EP (X:Cx)(bFL:bFJ)(σ:St)(Q:VK)(u:Value)(s':Shared):Prop:=∃v H',Inv X bFL σ H' s'/\RelV v u/\Q v H'
def TP (X:Cx)(bFL:bFJ)(σ:St)(Q:Bool->Hp->Prop)(b:Bool)(s':Shared):Prop:=∃H',Inv X bFL σ H' s'/\Q b H'
def AP (X:Cx)(bFL:bFJ)(σ:St)(Q:List V->Hp->Prop)(us:List Value)(s':Shared):Prop:=∃vs H',Inv X bFL σ H' s'/\Vals vs us/\Q vs H'
def SP (X:Cx)(bFL:bFJ)(D:Ends)(f:Flow)(s':Shared):Prop:=
 match f with
 |.next=>∃σ' H',Inv X bFL σ' H' s'/\D.nx σ' H'
 |.brk=>∃σ' H',Inv X bFL σ' H' s'/\D.bk σ' H'
 |.cont=>∃σ' H',Inv X bFL σ' H' s'/\D.ct σ' H'
 |.ret u=>∃v σ' H',Inv X bFL σ' H' s'/\RelV v u/\D.rt v H'
def PE (X:Cx)(e:Expr)(t:TE):Prop:=
 ∀(bFL:bFJ) (s:Shared) (σ:St) (H:Hp) (Q:VK),Inv X bFL σ H s->t σ H Q->wpAny (model X.prog X.w) X.A (eval e X.env) (EP X bFL σ Q) X.xe s
def PT (X:Cx)(e:Expr)(t:TT):Prop:=
 ∀(bFL:bFJ) (s:Shared) (σ:St) (H:Hp) (Q:Bool->Hp->Prop),Inv X bFL σ H s->t σ H Q->wpAny (model X.prog X.w) X.A (isTrue e X.env (eval e X.env)) (TP X bFL σ Q) X.xe s
def PW (X:Cx)(e:Expr)(t:TT):Prop:=
 ∀(whole:Sem Value) (bFL:bFJ) (s:Shared) (σ:St) (H:Hp) (Q:Bool->Hp->Prop),Inv X bFL σ H s->t σ H Q->wpAny (model X.prog X.w) X.A (isTrue e X.env whole) (TP X bFL σ Q) X.xe s
def PW.pt {X:Cx}{e:Expr}{t:TT}(h:PW X e t):PT X e t:=h _
def PA (X:Cx)(es:List Expr)(t:TA):Prop:=
 ∀(pos:Pos) (bFL:bFJ) (s:Shared) (σ:St) (H:Hp) (Q:List V->Hp->Prop),Inv X bFL σ H s->t σ H Q->wpAny (model X.prog X.w) X.A (spliced (backTo pos (starEach es X.env))) (AP X bFL σ Q) X.xe s
def PS (X:Cx)(st:Stmt)(t:TS):Prop:=
 ∀(bFL:bFJ) (s:Shared) (σ:St) (H:Hp) (D:Ends),Inv X bFL σ H s->t D σ H->wpAny (model X.prog X.w) X.A (exec st X.env) (SP X bFL D) X.xe s
def PSs (X:Cx)(st:List Stmt)(t:TS):Prop:=
 ∀(bFL:bFJ) (s:Shared) (σ:St) (H:Hp) (D:Ends),Inv X bFL σ H s->t D σ H->wpAny (model X.prog X.w) X.A (execs st X.env) (SP X bFL D) X.xe s
def thn {α:Type}{t:Sem α}{Q Q':α->Shared->Prop}{M:Model}{A:Around}{E:bFI}{s:Shared}(h:wpAny M A t Q E s)(b:∀a s,Q a s->Q' a s):wpAny M A t Q' E s:=bBN h b λ_ _ x=>x
section
variable {X:Cx}
def aQ3 (i:Nat):TE:=fun σ H Q=>∃v,σ[i]?=some (some v)/\Q v H
def tC (v:V):TE:=λ_ H Q=>Q v H
def aZu {i:Nat}{x:Str}{pos:Pos}(k:X.N[i]?=some x)(n:Vis X.env.scope x)(hd:(x == ("__debug__":Str))=false:=by decide)(d:(x == ("__classdict__":Str))=false:=by decide):PE X (.Name x pos) (aQ3 i):=by
 intro b s σ H Q I h;obtain⟨v,e,h⟩:=h;obtain⟨m,f,j⟩:=I.loc;obtain⟨u,r,l⟩:=j i x v k e n;have a:EP X b σ Q u s:=⟨v,H,I,r,h⟩;rcases l with⟨hk,g⟩|⟨hk,c,hc,hcell⟩
 ·exact wpAny_Name (wpAny_loadName_local I.ok.kind hk f g a) hd
 ·rcases hk with hk|hk
  ·exact wpAny_Name (wpAny_loadName_cell I.ok.kind hk hc hcell a) hd
  ·exact wpAny_Name (wpAny_loadName_free I.ok.kind hk hc hcell a d) hd
def aZn {i j pos}:PE X (.Constant (.int i) j pos) (tC (.int i)):=λ_ _ _ H _ I h=>wpAny_Constant_int ⟨.int i,H,I.tok _,⟨_,rfl⟩,h⟩
def bBr {b j pos}:PE X (.Constant (.bool b) j pos) (tC (.bl b)):=λ_ _ _ H _ I h=>Constant_bool ⟨.bl b,H,I,rfl,h⟩
def bAu {j pos}:PE X (.Constant .none j pos) (tC .non):=λ_ _ _ H _ I h=>Constant_none ⟨.non,H,I,rfl,h⟩
def aZ9 {x j pos}:PE X (.Constant (.str x) j pos) (tC (.str x)):=λ_ _ _ H _ I h=>Calls.Constant_str ⟨.str x,H,I.tok _,⟨_,rfl⟩,h⟩
def Gl (X:Cx)(x:Str):Prop:=X.env.kindOf x=some .globalImplicit
def xQ {E:bFI}{bFL:bFJ}{s:Shared}{σ:St}{H:Hp}{x:Str}{u:Value}{pos:Pos}{Q:bFI}(I:Inv X bFL σ H s)(a:Gl X x)(b:X.mg x=some u)(h:Q u s)
  (hd:(x == ("__debug__":Str))=false:=by decide):wpAny (model X.prog X.w) X.A (eval (.Name x pos) X.env) Q E s:=
 bDT I.ok.kind a (Calls.loadGlobal_global (by rw[I.ok.glob];exact I.mod.glob.keeps I.bk) b h) hd
def sY {E:bFI}{bFL:bFJ}{s:Shared}{σ:St}{H:Hp}{x:Str}{u:Value}{pos:Pos}{Q:bFI}(I:Inv X bFL σ H s)(f:Gl X x)(c:X.mg x=none)(g:bootBuiltins x=some u)(h:Q u s)
  (e:x≠"__name__":=by decide) (hd:(x == ("__debug__":Str))=false:=by decide):wpAny (model X.prog X.w) X.A (eval (.Name x pos) X.env) Q E s:=by
 obtain⟨d,a,b⟩:=I.mod.blt;exact bDT I.ok.kind f (Calls.loadGlobal_builtin (by rw[I.ok.glob];exact I.mod.glob.keeps I.bk) c (by rw[I.ok.blt];exact a.keeps I.bk) ((b x e).trans g) h) hd
def aVr {x:Str}{v:V}{u:Value}{pos:Pos}(b:Gl X x)(a:X.mg x=some u)(r:RelV v u)(hd:(x == ("__debug__":Str))=false:=by decide):PE X (.Name x pos) (tC v):=
 λ_ _ _ H _ I h=>xQ I b a ⟨v,H,I,r,h⟩ hd
def aW6 {x:Str}{v:V}{u:Value}{pos:Pos}(d:Gl X x)(a:X.mg x=none)(b:bootBuiltins x=some u)(r:RelV v u)(c:x≠"__name__":=by decide)(hd:(x == ("__debug__":Str))=false:=by decide):PE X (.Name x pos) (tC v):=
 λ_ _ _ H _ I h=>sY I d a b ⟨v,H,I,r,h⟩ c hd
variable {a b:Expr}{ta tb:TE}{pos:Pos}
def PC (X:Cx)(op:CmpOp)(a b:Expr)(t:TE):Prop:=
 ∀(bFL:bFJ) (s:Shared) (σ:St) (H:Hp) (Q:VK),Inv X bFL σ H s->t σ H Q ->
  wpAny (model X.prog X.w) X.A (eval a X.env) (λv s₁=>wpAny (model X.prog X.w) X.A (eval b X.env) (λu s₂=>wpAny (model X.prog X.w) X.A (compareOp op v u) (EP X bFL σ Q) X.xe s₂) X.xe s₁) X.xe s
def tB (t:TE):TT:=fun σ H Q=>t σ H λx H1=>∃c,x=.bl c/\Q c H1
def aSq {op:CmpOp}{t:TE}(h:PC X op a b t)(f:behindInMarks op b=false:=by first|exact nobehind _ (by decide) (by decide)|rfl):PT X (.Compare a [op] [b] pos) (tB t):=by intro e s σ H Q I m;refine wpAny_isTrue_Compare1 (thn (h e s σ H _ I m) λv n f=>thn f λu p g=>thn g λc o ⟨x,k,l,i,j⟩=>?_) f;obtain⟨d,rfl,q⟩:=j;cases i;exact bBE ⟨k,l,q⟩
def aZx {e:Expr}{t:TE}(h:PE X e t)(k:∀whole,isTrue e X.env whole=(do let v <-whole;standAt e.pos;holding [v] (truthy v)):=by intro _;rfl):PT X e (tB t):=by intro a s σ H Q I i;refine isTrue_plain (thn (h a s σ H _ I i) λv j ⟨x,f,g,b,c⟩=>?_) (k _);obtain⟨d,rfl,q⟩:=c;cases b;exact bBE ⟨f,g,q⟩
variable {tA tB':TT}{rest:List Expr}
def bB6 (t u:TT):TT:=fun σ H Q=>t σ H λc H1=>if c=true then u σ H1 Q else Q false H1
def tOr (t u:TT):TT:=fun σ H Q=>t σ H λc H1=>if c=true then Q true H1 else u σ H1 Q
def aZ4 (t:TT):TT:=fun σ H Q=>t σ H λc H1=>Q (!c) H1
theorem aXd (f:PT X a tA):PW X (.BoolOp .And [a] pos) tA:=by
 intro g b s σ H Q I h;refine isTrue_and (thn (f b s σ H Q I h) λc d e=>?_);cases c with
 |true=>exact isTrue_and_nil e
 |false=>exact e
theorem bBh (f:PT X a tA):PW X (.BoolOp .Or [a] pos) tA:=by
 intro g b s σ H Q I h;refine isTrue_or (thn (f b s σ H Q I h) λc d e=>?_);cases c with
 |false=>exact isTrue_or_nil e
 |true=>exact e
theorem aZr (k:PT X a tA)(l:PW X (.BoolOp .And (b::rest) pos) tB'):PW X (.BoolOp .And (a::b::rest) pos) (bB6 tA tB'):=by
 intro j d s σ H Q I h;refine isTrue_and (thn (k d s σ H _ I h) λc i ⟨e,f,g⟩=>?_);cases c with
 |true=>exact l j d i σ e Q f g
 |false=>exact⟨e,f,g⟩
theorem bCf (k:PT X a tA)(l:PW X (.BoolOp .Or (b::rest) pos) tB'):PW X (.BoolOp .Or (a::b::rest) pos) (tOr tA tB'):=by
 intro j d s σ H Q I h;refine isTrue_or (thn (k d s σ H _ I h) λc i ⟨e,f,g⟩=>?_);cases c with
 |true=>exact⟨e,f,g⟩
 |false=>exact l j d i σ e Q f g
def bA6 (e:PT X a tA):PT X (.UnaryOp .Not a pos) (aZ4 tA):=by intro b s σ H Q I h;exact isTrue_not (e b s σ H (λc d=>Q (!c) d) I h)
def aYj (ta tb:TE):TE:=fun σ H Q=>ta σ H λx H1=>∃c,x=.bl c/\if c=true then tb σ H1 Q else Q (.bl false) H1
def bCo (ta tb:TE):TE:=fun σ H Q=>ta σ H λx H1=>∃c,x=.bl c/\if c=true then Q (.bl true) H1 else tb σ H1 Q
def aYh (ta:TE):TE:=fun σ H Q=>ta σ H λx H1=>∃c,x=.bl c/\Q (.bl (!c)) H1
def bAg {op}{t:TE}(h:PE X a t):PE X (.BoolOp op [a] pos) t:=λb s σ H Q I c=>BoolOp_one (h b s σ H Q I c)
theorem bAc (k:PE X a ta)(l:PE X (.BoolOp .And (b::rest) pos) tb):PE X (.BoolOp .And (a::b::rest) pos) (aYj ta tb):=by
 intro d s σ H Q I h;refine BoolOp_and (thn (k d s σ H _ I h) λv j ⟨x,f,g,i,e⟩=>?_);obtain⟨c,rfl,e⟩:=e;cases i;refine bBE ?_;cases c with
 |true=>exact l d j σ f Q g e
 |false=>exact⟨.bl false,f,g,rfl,e⟩
theorem bB9 (k:PE X a ta)(l:PE X (.BoolOp .Or (b::rest) pos) tb):PE X (.BoolOp .Or (a::b::rest) pos) (bCo ta tb):=by
 intro d s σ H Q I h;refine BoolOp_or (thn (k d s σ H _ I h) λv j ⟨x,f,g,i,e⟩=>?_);obtain⟨c,rfl,e⟩:=e;cases i;refine bBE ?_;cases c with
 |false=>exact l d j σ f Q g e
 |true=>exact⟨.bl true,f,g,rfl,e⟩
def bA4 (j:PE X a ta):PE X (.UnaryOp .Not a pos) (aYh ta):=by intro d s σ H Q I h;refine UnaryOp_ (thn (j d s σ H _ I h) λv i ⟨x,f,g,e,b⟩=>?_);obtain⟨c,rfl,b⟩:=b;cases e;exact not_of (bBE ⟨.bl (!c),f,g,rfl,b⟩)
def tIf (t:TT)(ta tb:TE):TE:=fun σ H Q=>t σ H λc H1=>if c=true then ta σ H1 Q else tb σ H1 Q
theorem aTk {c:Expr}(k:PT X c tA)(l:PE X a ta)(m:PE X b tb):PE X (.IfExp c a b pos) (tIf tA ta tb):=by
 intro e s σ H Q I h;refine wpAny_IfExp (thn (k e s σ H _ I h) λd f ⟨g,i,j⟩=>?_);cases d with
 |true=>exact l e f σ g Q i j
 |false=>exact m e f σ g Q i j
end
def SqL (K:bFH)(H:Hp)(a:Addr)(xs:List V):Prop:=
 Rd H a (.lst xs) \/
  ∃(o:Obj) (its:Array Value) (n:Nat),K.lookup a=some o/\o.cls=.type "list"/\o.dict=none/\o.data=.seq its n/\its.size<=sizeLine/\Vals xs its.toList
def SqT (K:bFH)(H:Hp)(a:Addr)(xs:List V):Prop:=
 Rd H a (.tup xs) \/
  ∃(o:Obj) (its:Array Value) (n:Nat),K.lookup a=some o/\o.cls=.type "tuple"/\o.dict=none/\o.data=.seq its n/\its.size<=sizeLine/\Vals xs its.toList
def bDi:Value->Option V
 |.none=>some .non
 |.bool b=>some (.bl b)
 |.int i _=>some (.int i)
 |.str x _=>some (.str x)
 |.bytes b _=>some (.byt b)
 |.float b _=>some (.flt b)
 |.ref a=>some (.ref a)
 |.type n=>some (.ty n)
 |_=>none
theorem RelV.abs {x:V}{u:Value}(r:RelV x u):bDi u=some x:=by
 cases x with
 |non=>cases r;rfl
 |bl _=>cases r;rfl
 |int _=>obtain⟨t,rfl⟩:=r;rfl
 |str _=>obtain⟨t,rfl⟩:=r;rfl
 |byt _=>obtain⟨t,rfl⟩:=r;rfl
 |flt _=>obtain⟨t,rfl⟩:=r;rfl
 |ref _=>cases r;rfl
 |ty _=>cases r;rfl
def RelV.inj {x y:V}{u:Value}(r:RelV x u)(q:RelV y u):x=y:=bAP (r.abs.symm.trans q.abs)
theorem Vals.inj:∀{xs ys:List V} {us:List Value},Vals xs us->Vals ys us->xs=ys
 |_,_,_,.nil,.nil=>rfl
 |_,_,_,.cons r t,.cons r' t'=>by rw[r.inj r',Vals.inj t t']
section
variable {X:Cx}{bFL:bFJ}{σ:St}{H:Hp}{s:Shared}{a:Addr}{xs ys:List V}
def SqL.of {K:bFH}(h:H a=some (.lst xs)):SqL K H a xs:=.inl (.inl h)
def SqT.of {K:bFH}(h:H a=some (.tup xs)):SqT K H a xs:=.inl (.inl h)
def Inv.list (I:Inv X bFL σ H s)(h:SqL X.K H a xs):∃its:List Value,Vals xs its/\PlainL s.heap a its.toArray/\xs.length<=sizeLine:=by
 rcases h with h|⟨o,its,n,d,b,hd,c,f,r⟩
 ·obtain⟨z,its,n,r,e⟩:=h.ok I.hok;exact⟨its,r,⟨_,n,e,rfl,rfl,rfl⟩,z⟩
 ·refine⟨its.toList,r,⟨o,n,I.kIn a o d,b,hd,by simpa using c⟩,?_⟩;have e:=r.length;simp only[t8] at e;lia
def Inv.tuple (I:Inv X bFL σ H s)(h:SqT X.K H a xs):∃its:List Value,Vals xs its/\IsTup s.heap a its.toArray/\xs.length<=sizeLine:=by
 rcases h with h|⟨o,its,n,d,b,hd,c,f,r⟩
 ·obtain⟨z,its,r,p⟩:=h.ok I.hok;exact⟨its,r,p.1,z⟩
 ·refine⟨its.toList,r,⟨o,I.kIn a o d,b,n,by simpa using c⟩,?_⟩;have e:=r.length;simp only[t8] at e;lia
def Inv.aRz (I:Inv X bFL σ H s)(h:SqL X.K H a xs)(h':SqL X.K H a ys):xs=ys:=by
 obtain⟨c,r,⟨o,n,e,_,_,d⟩,_⟩:=I.list h;obtain⟨b,i,⟨j,k,f,_,_,g⟩,_⟩:=I.list h';rw[e] at f;cases f;rw[d] at g;injection g with d1 _;have:c=b:=by simpa using congrArg Array.toList d1
 subst this;exact r.inj i
def Inv.aQb (I:Inv X bFL σ H s)(h:SqT X.K H a xs)(h':SqT X.K H a ys):xs=ys:=by
 obtain⟨c,r,⟨o,e,_,n,d⟩,_⟩:=I.tuple h;obtain⟨b,i,⟨j,f,_,k,g⟩,_⟩:=I.tuple h';rw[e] at f;cases f;rw[d] at g;injection g with d1 _;have:c=b:=by simpa using congrArg Array.toList d1
 subst this;exact r.inj i
end
abbrev Cx.wish (X:Cx)(E:bFI):Cx:={ X with xe:=E }
abbrev Cx.nox (X:Cx):Cx:=X.wish λ_ _=>False
theorem Cx.Ok.wish {X:Cx}(a:X.Ok)(E:bFI):(X.wish E).Ok:=
 ⟨a.mod,a.kind,a.glob,a.blt,a.above,a.inj,a.has,a.cab,a.hd,a.frames,a.stk,a.exf,a.bs,a.bsz,a.noex,a.exfs,a.funs,a.frf⟩
def Cx.Ok.tO {X:Cx}{E:bFI}(a:(X.wish E).Ok):X.Ok:=
 ⟨a.mod,a.kind,a.glob,a.blt,a.above,a.inj,a.has,a.cab,a.hd,a.frames,a.stk,a.exf,a.bs,a.bsz,a.noex,a.exfs,a.funs,a.frf⟩
section
variable {X:Cx}{bFL:bFJ}{σ:St}{H:Hp}{s:Shared}{E:bFI}
theorem Inv.wish (I:Inv X bFL σ H s)(E:bFI):Inv (X.wish E) bFL σ H s:=⟨I.ok.wish E,I.os,I.bare,I.base,I.loc,I.cell,I.free,I.freeC,I.pin,I.hok,I.len⟩
theorem Inv.tO (I:Inv (X.wish E) bFL σ H s):Inv X bFL σ H s:=⟨I.ok.tO,I.os,I.bare,I.base,I.loc,I.cell,I.free,I.freeC,I.pin,I.hok,I.len⟩
theorem SP.tO {D:Ends}{f:Flow}{s':Shared}(h:SP (X.wish E) bFL D f s'):SP X bFL D f s':=by
 cases f with
 |next=>obtain⟨a,b,I,q⟩:=h;exact⟨a,b,I.tO,q⟩
 |brk=>obtain⟨a,b,I,q⟩:=h;exact⟨a,b,I.tO,q⟩
 |cont=>obtain⟨a,b,I,q⟩:=h;exact⟨a,b,I.tO,q⟩
 |ret u=>obtain⟨v,a,b,I,r,q⟩:=h;exact⟨v,a,b,I.tO,r,q⟩
theorem PSs.nox {st:List Stmt}{t:TS}(h:PSs X.nox st t):PSs X st t:=λa s σ H D I b=>
 bBN (h a s σ H D (I.wish _) b) (λ_ _ q=>q.tO) λ_ _ z=>False.elim z
end
section
variable {X:Cx}{st:Stmt}{rest:List Stmt}{t u:TS}{e:Expr}{te:TE}{pos:Pos}
def rZ:TS:=λD σ H=>D.nx σ H
def aDl (t u:TS):TS:=λD σ H=>t { D with nx:=u D } σ H
def aWh:PSs X [] rZ:=λ_ _ σ H _ I h=>wpAny_execs_nil ⟨σ,H,I,h⟩
theorem aTp (g:PS X st t)(i:PSs X rest u):PSs X (st::rest) (aDl t u):=by
 intro a s σ H D I h;refine wpAny_execs_cons (thn (g a s σ H { D with nx:=u D } I h) λf c q=>?_);cases f with
 |next=>obtain⟨d,e,b,q⟩:=q;exact i a c d e D b q
 |ret v=>exact q
 |brk=>exact q
 |cont=>exact q
theorem aWk (b:PS X st t):PSs X [st] t:=by
 intro a s σ H D I h;refine wpAny_execs_cons (thn (b a s σ H D I h) λf c q=>?_);cases f with
 |next=>exact wpAny_execs_nil q
 |ret v=>exact q
 |brk=>exact q
 |cont=>exact q
def Inv.quiet {bFL:bFJ}{σ:St}{H:Hp}{s:Shared}(I:Inv X bFL σ H s):interactive X.env=false:=by simp[interactive,I.ok.kind]
def aYn (te:TE):TS:=λD σ H=>te σ H λ_ H1=>D.nx σ H1
def aXn (j:PE X e te)(i:swapsWith e none pos.line X.env=pure false:=by rfl):PS X (.Expr e pos) (aYn te):=by intro a s σ H D I h;exact wpAny_Expr_any (thn (j a s σ H _ I h) λv f ⟨x,b,c,g,d⟩=>⟨σ,b,c,d⟩) I.quiet i
def tV (te:TE):TS:=λD σ H=>te σ H D.rt
def bA5 (i:PE X e te):PS X (.Return (some e) pos) (tV te):=by intro a s σ H D I h;exact wpAny_Return_some (thn (i a s σ H _ I h) λv g ⟨x,b,c,d,f⟩=>⟨x,σ,b,c,d,f⟩)
def aJ5 (c:TT)(t u:TS):TS:=λD σ H=>c σ H λb H1=>if b=true then t D σ H1 else u D σ H1
theorem bBy {c:Expr}{a b:List Stmt}{tc:TT}(k:PT X c tc)(l:PSs X a t)(m:PSs X b u):PS X (.If c a b pos) (aJ5 tc t u):=by
 intro e s σ H D I h;refine wpAny_If (thn (k e s σ H _ I h) λd f ⟨g,i,j⟩=>?_);cases d with
 |true=>exact l e f σ g D i j
 |false=>exact m e f σ g D i j
def aRt:TS:=λ_ _ _=>False
def aRs:PS X st aRt:=λ_ _ _ _ _ _ h=>h.elim
end
abbrev TG:=V->St->Hp->(St->Hp->Prop)->Prop
abbrev TGs:=List V->St->Hp->(St->Hp->Prop)->Prop
def PG (X:Cx)(target:Expr)(t:TG):Prop:=
 ∀(bFL:bFJ) (s:Shared) (σ:St) (H:Hp) (v:V) (u:Value) (Q:St->Hp->Prop),Inv X bFL σ H s->RelV v u->t v σ H Q ->
  wpAny (model X.prog X.w) X.A (assign target X.env u) (λ_ s'=>∃σ' H',Inv X bFL σ' H' s'/\Q σ' H') X.xe s
def PGs (X:Cx)(ts:List Expr)(t:TGs):Prop:=
 ∀(bFL:bFJ) (s:Shared) (σ:St) (H:Hp) (vs:List V) (us:List Value) (Q:St->Hp->Prop),Inv X bFL σ H s->Vals vs us->t vs σ H Q ->
  wpAny (model X.prog X.w) X.A (assignInOrder ((assignEach ts X.env).map (·.2)) us) (λ_ s'=>∃σ' H',Inv X bFL σ' H' s'/\Q σ' H') X.xe s
abbrev aXv:=V->V->V->Hp->(Hp->Prop)->Prop
def bAw (X:Cx)(t:aXv):Prop:=
 ∀(bFL:bFJ) (s:Shared) (σ:St) (H:Hp) (o i v:V) (ov iv u:Value) (Q:Hp->Prop),Inv X bFL σ H s->RelV o ov->RelV i iv->RelV v u->t o i v H Q ->
  wpAny (model X.prog X.w) X.A (setItem ov iv u) (λ_ s'=>∃H',Inv X bFL σ H' s'/\Q H') X.xe s
section
variable {X:Cx}{pos:Pos}
def cD (i:Nat):TG:=λv σ H Q=>Q (σ.set i (some v)) H
def aXq {i:Nat}{x:Str}(c:X.N.Nodup)(hi:X.N[i]?=some x)(e:Loc X.env.scope x)(d:X.fn x=true\/X.env.scope.names.lookup x=some .local:=by first|exact .inl rfl|exact .inr rfl|assumption):PG X (.Name x pos) (cD i):=by intro b s σ H v u Q I r h;exact wpAny_assign_Name (aJ0 I c hi e r (λf a=>⟨_,H,a,h⟩) d)
def aQj:TGs:=λvs σ H Q=>vs=[]/\Q σ H
def uP (t:TG)(u:TGs):TGs:=λvs σ H Q=>∃v r,vs=v::r/\t v σ H fun σ' H'=>u r σ' H' Q
def aW1:PGs X [] aQj:=by intro a s σ H b c Q I r h;obtain⟨e,h⟩:=h;subst e;cases r;exact assignInOrder_nil ⟨σ,H,I,h⟩
theorem aT3 {e:Expr}{es:List Expr}{t:TG}{u:TGs}(n:PG X e t)(j:PGs X es u)
  (m:(assignEach (e::es) X.env).map (·.2)=assign e X.env::(assignEach es X.env).map (·.2):=by rfl):PGs X (e::es) (uP t u):=by
 intro a s σ H l o Q I r h;obtain⟨v,k,b,h⟩:=h;subst b;cases r with
 |cons r rr=>rw[m];refine assignInOrder_cons (thn (n a s σ H _ _ _ I r h) λ_ f ⟨c,g,i,d⟩=>?_);exact j a f c g _ _ Q i rr d
def aNo (K:bFH)(n:Nat)(t:TGs):TG:=λv σ H Q=>∃a xs,v=.ref a/\SqT K H a xs/\xs.length=n/\t xs σ H Q
def bAa {es:List Expr}{k:Nat}{t:TGs}{n:Nat}(A:X.calm=true)(h:PGs X es t)
  (B:(assignEach es X.env).length=n:=by rfl) (p:(assignEach es X.env).findIdx? (·.1)=none:=by rfl):PG X (.Tuple es k pos) (aNo X.K n t):=by
 intro c s σ H v u Q I r d;obtain⟨a,l,i,x,y,d⟩:=d;subst i;cases r;obtain⟨j,f,m,z⟩:=I.tuple x;refine assign_Tuple_tuple (I.ok.hd A) m (by simp[B,<-y,f.length]) p λg w=>?_;have q:Inv X c σ H { s with heap:=g }:=I.kept (t':=s.toks) λb o e=>w b o (v5 (m9 e)) e;exact h c _ σ H l _ Q q (by simpa using f) d
def bB5 (to ti:TE)(t:aXv):TG:=λv σ H Q=>to σ H λo H1=>ti σ H1 λi H2=>t o i v H2 λH3=>Q σ H3
def aZa {o i:Expr}{to ti:TE}{t:aXv}(z:PE X o to)(hi:PE X i ti)(w:bAw X t)
  (A:∀v,assign (.Subscript o i pos) X.env v=(do
   let ov <-holding [v] (eval o X.env)
   let iv <-holding [v,ov] (eval i X.env)
   standAt pos
   holding [v,ov,iv] (setItem ov iv v)
   release [v,ov,iv] []):=by intro _;rfl):PG X (.Subscript o i pos) (bB5 to ti t):=by
 intro a s σ H v u Q I r h;rw[A];refine c7 (bAS (thn (z a s σ H _ I h) λov l ⟨x,m,n,d,e⟩=>?_));refine c7 (bAS (thn (hi a l σ m _ n e) λiv p ⟨y,k,c,q,j⟩=>?_));refine c7 (bFG (c7 (bAS (thn (w a p σ k x y v ov iv u _ c d q r j) λ_ B ⟨b,g,f⟩=>?_))));exact wpAny_release ⟨σ,b,g,f⟩
def aAm (te:TE)(g:TG):TS:=λD σ H=>te σ H λx H1=>g x σ H1 D.nx
def bAe {tg e:Expr}{te:TE}{g:TG}(m:PE X e te)(l:PG X tg g)(j:swapsWithSole [tg] e pos.line X.env=pure false:=by rfl)(o:swappedStores [tg] e X.env=pure none:=by rfl)
  (k:(assignEach [tg] X.env).map (·.2)=[assign tg X.env]:=by rfl):PS X (.Assign [tg] e pos) (aAm te g):=by
 intro a s σ H D I h;refine wpAny_Assign_stores (thn (m a s σ H _ I h) λv d ⟨x,f,i,b,c⟩=>?_) j o;rw[k];exact thn (l a d σ f x v _ i b c) λ_ n q=>q
def bBb {i:Nat}{x:Str}{e:Expr}{te:TE}{pos':Pos}(p:X.N.Nodup)(hi:X.N[i]?=some x)(m:Loc X.env.scope x)(n:PE X e te)(k:swapsWith e (some (.Name x pos')) pos.line X.env=pure false:=by rfl)(j:X.fn x=true\/X.env.scope.names.lookup x=some .local:=by first|exact .inl rfl|exact .inr rfl|assumption) :
  PS X (.Assign [.Name x pos'] e pos) (aAm te (cD i)):=by
 intro a s σ H D I h;refine wpAny_Assign_Name (thn (n a s σ H _ I h) λv l ⟨y,f,g,c,d⟩=>?_) k;exact aJ0 g p hi m c (λo b=>⟨_,f,b,d⟩) j
end
structure It where
 go:Nat->Hp->Prop
 yld:Nat->Hp->V->Hp->Prop
 stop:Nat->Hp->Prop
def uD (X:Cx)(bFL:bFJ)(H:Hp)(b:Addr):Prop:=
 H b=none/\b≠X.env.locals/\b∉X.fs/\(b∈X.ex\/X.s₀.heap.objs.size<=b)/\(∀x c,X.env.cells.lookup x=some c->c≠b)/\∀p∈X.pn++bFL,p.1≠b
def Inv.aGh {X:Cx}{bFL:bFJ}{σ:St}{H H':Hp}{s:Shared}{b:Addr}(I:Inv X bFL σ H s)(a:s.heap.objs.size<=b)(f:H' b=none):uD X bFL H' b:=by
 refine⟨f,bCU (bAA I.lt a),I.nofs a,.inr (bAM I.sz a),λx c e z=>?_,λp d z=>?_⟩
 ·obtain⟨v,q⟩:=I.cell x c e;exact absurd (bAA q.lt (by rw[z];exact a)) (bBO _)
 ·exact absurd (bAA (m9 (I.pin p d).1) (by rw[z];exact a)) (bBO _)
structure Turn (P:Program)(w:World)(K:bFH)(tg:Expr)(J:It)(fp:List Addr)(it:Addr)(tn:Nat->Heap->Prop):Prop where
 mem:it∈fp
 obj:∀i h,tn i h->∀b∈fp,∃o,h.get? b=some o/\∀v,o.data≠.cell v
 keep:∀i h h',tn i h->(∀b∈fp,∀o,h.get? b=some o->h'.get? b=some o)->tn i h'
 item:∀(X:Cx),X.prog=P->X.w=w->X.K=K->X.calm=true->∀(i:Nat) (bFL:bFJ) (s:Shared) (σ:St) (H:Hp) (E:bFI),Inv X bFL σ H s->(∀b∈fp,uD X bFL H b)->tn i s.heap->J.go i H ->
  wpAny (model P w) X.A (pyNext (.ref it)) (λr s1=>∃u,r=some u /\
   wpAny (model P w) X.A (letOwnedTupleGo tg (.ref it) u) (λ_ s2=>∃x H',Inv X bFL σ H' s2/\RelV x u/\J.yld i H x H'/\tn (i+1) s2.heap/\∀b∈fp,H' b=none) E s1) E s
 done:∀(X:Cx),X.prog=P->X.w=w->X.K=K->X.calm=true->∀(i:Nat) (bFL:bFJ) (s:Shared) (σ:St) (H:Hp) (E:bFI),Inv X bFL σ H s->(∀b∈fp,uD X bFL H b)->tn i s.heap->J.stop i H ->
  wpAny (model P w) X.A (pyNext (.ref it)) (λr s1=>r=none/\Inv X bFL σ H s1) E s
 self:∀(A:Around) (i:Nat) (s:Shared) (Q:bFI) (E:bFI),tn i s.heap->Q (.ref it) s->wpAny (model P w) A (pyIter (.ref it)) Q E s
abbrev TI:=St->Hp->(It->Hp->Prop)->Prop
def PIE (X:Cx)(bFL:bFJ)(σ:St)(tg:Expr)(R:It->Hp->Prop)(itv:Value)(s2:Shared):Prop:=
 ∃(it:Addr) (fp:List Addr) (tn:Nat->Heap->Prop) (J:It) (H':Hp),itv=.ref it/\Inv X bFL σ H' s2/\Turn X.prog X.w X.K tg J fp it tn/\tn 0 s2.heap/\(∀b∈fp,uD X bFL H' b)/\R J H'
def PI (X:Cx)(tg iter:Expr)(wi:TI):Prop:=
 ∀(bFL:bFJ) (s:Shared) (σ:St) (H:Hp) (R:It->Hp->Prop),Inv X bFL σ H s->wi σ H R ->
  wpAny (model X.prog X.w) X.A (eval iter X.env) (λv s1=>wpAny (model X.prog X.w) X.A (pyIter v) (PIE X bFL σ tg R) X.xe s1) X.xe s
def aJj {M:Model}{A:Around}{E:bFI}{s:Shared}{d:Expr}{it:Addr}{u:Value}{o:Obj}{n:String}{vs:Array Value}{Q:Unit->Shared->Prop}(c:s.heap.get? it=some o)(e:o.cls=.type n)(hd:o.data=.fields vs)
  (b:["enumerate","zip","dict_itemiterator","dict_reverseitemiterator","odict_iterator","itertools.zip_longest","itertools.pairwise"].contains n=false) (a:Q () s):wpAny M A (letOwnedTupleGo d (.ref it) u) Q E s:=by
 unfold letOwnedTupleGo;cases d <;> first
  |exact d9 a
  |(cases u <;> first
    |exact d9 a
    |(refine c7 (wpAny_load c ?_);rw[e,hd];show wpAny M A (if (["enumerate","zip","dict_itemiterator","dict_reverseitemiterator","odict_iterator","itertools.zip_longest","itertools.pairwise"].contains n && vs[0]? == some (rawInt _))=true then _ else _) Q E s;rw[if_neg (by intro h;rw[b,Bool.false_and] at h;cases h)];exact d9 a))
def Itl (K:bFH)(a:Addr):It:=
 ⟨λi H=>∃xs x,SqL K H a xs/\xs[i]?=some x,λi H x H'=>H'=H/\∀xs,SqL K H a xs->xs[i]?=some x,λi H=>∃xs,SqL K H a xs/\xs.length<=i⟩
def Itt (K:bFH)(a:Addr):It:=
 ⟨λi H=>∃xs x,SqT K H a xs/\xs[i]?=some x,λi H x H'=>H'=H/\∀xs,SqT K H a xs->xs[i]?=some x,λi H=>∃xs,SqT K H a xs/\xs.length<=i⟩
def Itr (lo:Int)(n:Nat):It:=⟨λi _=>i<n,λi H x H'=>H'=H/\x=.int (lo+i),λi _=>n<=i⟩
def aRf {P:Program}{w:World}{K:bFH}{tg:Expr}(a it:Addr):Turn P w K tg (Itl K a) [it] it (λi h=>h.IsListIter it a i) where
 mem:=by simp
 obj:=λi h f b g=>by
  have e:b=it:=by simpa using g
  subst e;obtain⟨o,e,c,d⟩:=f;exact⟨o,e,λv z=>by rw[d] at z;cases z⟩
 keep:=λi h m f k=>f.at λo e=>k it (by simp) o e
 item:=by intro X r D M N i l s σ H E I n f C;subst r D M;obtain⟨U,x,q,L⟩:=C;obtain⟨y,F,p,Q⟩:=I.list q;obtain⟨u,R,Y⟩:=F.get L;obtain⟨A,t,W,B,J,G⟩:=n it (by simp);refine wpAny_pyNext_list_item f p.isList (x:=u) (by simpa using R) λm j T=>?_;have V:Inv X l σ H { s with heap:=m }:=I.turned (t':=s.toks) (λb o g e=>(T.2 b g).trans e) A t B J G;obtain⟨o,e,c,d⟩:=id j;exact⟨u,rfl,aJj (s:={ s with heap:=m }) e c d (by decide) ⟨x,H,V,Y,⟨rfl,λZ S=>by rw[I.aRz S q];exact L⟩,j,λb g=>(n b g).1⟩⟩
 done:=by intro X r D M N i l s σ H E I n f C;subst r D M;obtain⟨U,q,L⟩:=C;obtain⟨y,F,p,Q⟩:=I.list q;obtain⟨A,t,W,B,J,G⟩:=n it (by simp);have hl:=F.length;exact wpAny_pyNext_list_end (I.ok.hd N) f p.isList (by simp;lia) λm O=>⟨rfl,I.turned (t':=s.toks) (λb o g e=>O b o g e) A t B J G⟩
 self:=λ_ _ _ _ _ f h=>wpAny_pyIter_listiter f h
def aL4 {P:Program}{w:World}{K:bFH}{tg:Expr}(a it:Addr):Turn P w K tg (Itt K a) [it] it (λi h=>h.IsTupleIter it a i) where
 mem:=by simp
 obj:=λi h f b j=>by
  have e:b=it:=by simpa using j
  subst e;obtain⟨o,e,c,d⟩:=f;exact⟨o,e,λv z=>by rw[d] at z;cases z⟩
 keep:=λi h n f k=>f.at λo e=>k it (by simp) o e
 item:=by intro X t D M N i m s σ H E I q f C;subst t D M;obtain⟨U,x,r,L⟩:=C;obtain⟨g,F,p,Q⟩:=I.tuple r;obtain⟨u,R,Y⟩:=F.get L;obtain⟨A,y,W,B,J,G⟩:=q it (by simp);refine wpAny_pyNext_tuple_item f (show s.heap.IsTuple a g.toArray from p) (x:=u) (by simpa using R) λn l T=>?_;have V:Inv X m σ H { s with heap:=n }:=I.turned (t':=s.toks) (λb o j e=>(T.2 b j).trans e) A y B J G;obtain⟨o,e,c,d⟩:=id l;exact⟨u,rfl,aJj (s:={ s with heap:=n }) e c d (by decide) ⟨x,H,V,Y,⟨rfl,λZ S=>by rw[I.aQb S r];exact L⟩,l,λb j=>(q b j).1⟩⟩
 done:=by intro X t D M N i m s σ H E I q f C;subst t D M;obtain⟨U,r,L⟩:=C;obtain⟨g,F,p,Q⟩:=I.tuple r;obtain⟨A,y,W,B,J,G⟩:=q it (by simp);have hl:=F.length;exact wpAny_pyNext_tuple_end (I.ok.hd N) f (show s.heap.IsTuple a g.toArray from p) (by simp;lia) λn O=>⟨rfl,I.turned (t':=s.toks) (λb o j e=>O b o j e) A y B J G⟩
 self:=λ_ _ _ _ _ f h=>wpAny_pyIter_tupleiter f h
def aNn {P:Program}{w:World}{K:bFH}{tg:Expr}(it:Addr)(lo:Int)(n:Nat):Turn P w K tg (Itr lo n) [it] it (λi h=>IsRangeIter h it (lo+(i:Nat) * 1) ((n:Int) - (i:Nat)) 1) where
 mem:=by simp
 obj:=λi h a b c=>by
  have e:b=it:=by simpa using c
  subst e;exact⟨_,a,λv z=>by have D:Data.fields _=Data.cell v:=z;cases D⟩
 keep:=λi h g a k=>k it (by simp) _ a
 item:=by intro X l u B A i f s σ H E I j a r;subst l u B;obtain⟨p,m,M,q,y,x⟩:=j it (by simp);have W:=Walks.range (prog:=X.prog) (w:=X.w) (I.ok.hd A) it lo 1 n;refine W.item i s _ _ r a λv g C F d J=>?_;obtain⟨t,rfl⟩:=F;have L:Inv X f σ H { s with heap:=g,toks:=C }:=I.turned (λb o c e=>J b o (by simpa using c) e) p m q y x;refine⟨_,rfl,aJj (s:={ s with heap:=g,toks:=C }) (n:="range_iterator") d rfl rfl (by decide) ⟨.int (lo+i),H,L,⟨t,?_⟩,⟨rfl,rfl⟩,d,λb c=>(j b c).1⟩⟩;rw[Int.mul_one]
 done:=by intro X l u B A i f s σ H E I j a r;subst l u B;obtain⟨p,m,M,q,y,x⟩:=j it (by simp);exact wpAny_pyNext_range_end (I.ok.hd A) a (by have:n<=i:=r;lia) λg G=>⟨rfl,I.turned (t':=s.toks) (λb o c e=>G b o c e) p m q y x⟩
 self:=λ_ _ _ _ _ a h=>wpAny_pyIter_rangeiter a h
section
variable {X:Cx}{tg:Expr}
def aFb (K:bFH)(tl:TE):TI:=fun σ H R=>tl σ H λx H1=>∃a,x=.ref a/\(∃xs,SqL K H1 a xs)/\R (Itl K a) H1
def aV2 (K:bFH)(tl:TE):TI:=fun σ H R=>tl σ H λx H1=>∃a,x=.ref a/\(∃xs,SqT K H1 a xs)/\R (Itt K a) H1
def aWv {l:Expr}{tl:TE}(w:PE X l tl):PI X tg l (aFb X.K tl):=by
 intro f s σ H R I h;refine thn (w f s σ H _ I h) λv c ⟨x,k,d,g,i⟩=>?_;obtain⟨a,e,⟨t,n⟩,q⟩:=i;subst e;cases g;obtain⟨j,r,p,u⟩:=d.list n;refine bCD p.isList ?_;refine⟨c.heap.objs.size,[c.heap.objs.size],_,_,k,rfl,d.kept (t':=c.toks) λb o e=>d8 _ e,aRf a _,⟨_,j5 _ rfl,rfl,rfl⟩,λb m=>?_,q⟩;have e:b=c.heap.objs.size:=by simpa using m
 subst e;exact d.aGh (j0 _) (d.hok.fresh (j0 _))
def aY5 {l:Expr}{tl:TE}(w:PE X l tl):PI X tg l (aV2 X.K tl):=by
 intro g s σ H R I h;refine thn (w g s σ H _ I h) λv c ⟨x,k,d,i,j⟩=>?_;obtain⟨a,e,⟨t,n⟩,q⟩:=j;subst e;cases i;obtain⟨f,r,p,u⟩:=d.tuple n;refine bE4 (show c.heap.IsTuple a f.toArray from p) ?_;refine⟨c.heap.objs.size,[c.heap.objs.size],_,_,k,rfl,d.kept (t':=c.toks) λb o e=>d8 _ e,aL4 a _,⟨_,j5 _ rfl,rfl,rfl⟩,λb m=>?_,q⟩;have e:b=c.heap.objs.size:=by simpa using m
 subst e;exact d.aGh (j0 _) (d.hok.fresh (j0 _))
def aJ9 {f:bFJ}{σ:St}{H:Hp}{s:Shared}{R:It->Hp->Prop}{E:bFI}{lo hi:Int}{t u v:Tok}{tk:Nat}(I:Inv X f σ H s)(h:-(2 ^ 62)<=lo)(i:lo<2 ^ 62)(j:-(2 ^ 62)<=hi)(k:hi<2 ^ 62)
  (q:R (Itr lo (hi - lo).toNat) H):wpAny (model X.prog X.w) X.A (pyIter (.ref s.heap.objs.size)) (PIE X f σ tg R) E { s with heap:=s.heap.push { cls:=.type "range",data:=.fields #[.int lo t,.int hi u,.int 1 v] },toks:=tk }:=by
 refine wpAny_pyIter_range (IsRange.new ..) (small_one h i j k) ?_;have a:Inv X f σ H { s with heap:=s.heap.push { cls:=.type "range",data:=.fields #[.int lo t,.int hi u,.int 1 v] },toks:=tk }:=I.kept λb o e=>d8 _ e;refine⟨(s.heap.push { cls:=.type "range",data:=.fields #[.int lo t,.int hi u,.int 1 v] }).objs.size,[(s.heap.push { cls:=.type "range",data:=.fields #[.int lo t,.int hi u,.int 1 v] }).objs.size],_,_,H,rfl,
  a.kept (t':=tk) λb o e=>d8 _ e,aNn _ lo (hi - lo).toNat,?_,λb g=>?_,q⟩
 ·have d:lo+((0:Nat):Int) * 1=lo:=by simp
  have c:(((hi - lo).toNat:Nat):Int) - ((0:Nat):Int)=Builtin.Range.rangeSize lo hi 1:=by rw[rangeSize_one];split <;> lia
  show IsRangeIter _ _ (lo+((0:Nat):Int) * 1) ((((hi - lo).toNat:Nat):Int) - ((0:Nat):Int)) 1;rw[d,c];exact j5 _ rfl
 ·have e:b=(s.heap.push { cls:=.type "range",data:=.fields #[.int lo t,.int hi u,.int 1 v] }).objs.size:=by simpa using g
  subst e;exact a.aGh (j0 _) (a.hok.fresh (j0 _))
def aSu (ta:TA):TI:=fun σ H R=>ta σ H λvs H1=>∃j:Int,vs=[.int j]/\-(2 ^ 62)<=j/\j<2 ^ 62/\R (Itr 0 j.toNat) H1
def aYc (ta:TA):TI:=fun σ H R=>ta σ H λvs H1=>∃i j:Int,vs=[.int i,.int j]/\(-(2 ^ 62)<=i/\i<2 ^ 62/\-(2 ^ 62)<=j/\j<2 ^ 62)/\R (Itr i (j - i).toNat) H1
theorem aQf {a:Expr}{ta:TA}{p i:Pos}(v:Gl X "range")(w:X.mg "range"=none)(o:PA X [a] ta)(l:starEach [a] X.env=[(false,eval a X.env)]:=by rfl):PI X tg (.Call (.Name "range" p) [a] [] i) (aSu ta):=by
 intro c s σ H R I h;refine Call_ (sY I v w boot_range (bBR (thn (o i c s σ H _ I h) λu m ⟨k,n,g,d,b⟩=>?_) l rfl));obtain⟨j,e,b,f,q⟩:=b;subst e;cases d with
 |cons r rr=>cases rr;obtain⟨t,rfl⟩:=r;exact call_range_1 (aJ9 g (by lia) (by lia) b f (by simpa using q))
theorem aP1 {a b:Expr}{ta:TA}{p o:Pos}(B:Gl X "range")(C:X.mg "range"=none)(z:PA X [a,b] ta)(w:starEach [a,b] X.env=[(false,eval a X.env),(false,eval b X.env)]:=by rfl)(f:starEach [b] X.env=[(false,eval b X.env)]:=by rfl) :
  PI X tg (.Call (.Name "range" p) [a,b] [] o) (aYc ta):=by
 intro d s σ H R I h;refine Call_ (sY I B C boot_range (bBR (thn (z o d s σ H _ I h) λA x ⟨v,y,m,g,c⟩=>?_) (by rw[w,f]) (by rw[f];rfl)));obtain⟨i,j,e,⟨c,l,k,n⟩,q⟩:=c;subst e;cases g with
 |cons r rr=>
  cases rr with
  |cons r' rr=>cases rr;obtain⟨t,rfl⟩:=r;obtain⟨u,rfl⟩:=r';exact call_range_2 (aJ9 m c l k n q)
def aZ1 (wi:TI)(g:TG)(tb:TS):TS:=λD σ H=>wi σ H λJ H1=>∃W:Nat->Nat->St->Hp->Prop,(∃m,W 0 m σ H1)/\∀i m σ H,W i m σ H ->
 (J.stop i H/\D.nx σ H)\/(J.go i H/\∃N:St->Hp->Prop,(∀σ' H',N σ' H'->∃m',m'<m/\W (i+1) m' σ' H')/\∀x H',J.yld i H x H'->g x σ H' fun σ2 H2=>tb { D with nx:=N,ct:=N,bk:=D.nx } σ2 H2)
def zK (fp:List Addr)(h:Heap):bFJ:=fp.filterMap λb=>(h.get? b).map λo=>(b,o)
def jZ {fp:List Addr}{h:Heap}{b:Addr}{o:Obj}(a:b∈fp)(e:h.get? b=some o):(b,o)∈zK fp h:=List.mem_filterMap.mpr ⟨b,a,by rw[e];rfl⟩
theorem aP6 {fp:List Addr}{h:Heap}{p:Addr × Obj}(d:p∈zK fp h):p.1∈fp/\h.get? p.1=some p.2:=by
 obtain⟨b,c,e⟩:=List.mem_filterMap.mp d;cases q:h.get? b with
 |none=>rw[q] at e;cases e
 |some o=>rw[q] at e;have a:(b,o)=p:=bAP e;subst a;exact⟨c,q⟩
def Inv.pinned {bFL:bFJ}{σ:St}{H:Hp}{s:Shared}{fp:List Addr}(I:Inv X bFL σ H s)(k:∀b∈fp,uD X bFL H b)(j:∀b∈fp,∃o,s.heap.get? b=some o/\∀v,o.data≠.cell v):Inv X (bFL++zK fp s.heap) σ H s:=
 I.aO8 λp g=>(List.mem_append.mp g).elim (λz=>I.pin p (bAF _ z)) λz=>by obtain⟨c,e⟩:=aP6 z;obtain⟨i,f,h,_⟩:=k p.1 c;obtain⟨o,a,d⟩:=j p.1 c;rw[e] at a;cases a;exact⟨e,i,f,h,d⟩
def Inv.mU {bFL pl:bFJ}{σ:St}{H:Hp}{s:Shared}(I:Inv X (bFL++pl) σ H s):Inv X bFL σ H s:=I.aO8 λp a=>I.pin p (bAF _ (bBX _ a))
theorem aZg {iter:Expr}{body:List Stmt}{wi:TI}{g:TG}{tb:TS}{pos:Pos}(F:PassesOwn (model X.prog X.w) X.A X.env X.xe)(hc:X.calm=true)(hi:PI X tg iter wi)(hg:PG X tg g)(q:PSs X body tb)
  (hs:∀x,foldedSetIterable iter X.env x=pure x:=by intro _;rfl):PS X (.For tg iter body [] pos) (aZ1 wi g tb):=by
 intro a s σ H D I h;refine wpAny_For (thn (hi a s σ H _ I h) λv s1 h1=>thn h1 λa0 s2 h2=>?_) hs;obtain⟨it,C,R,J,H2,e,I2,T,O,S,W,⟨Y,w0⟩,z⟩:=h2;subst e;have c:∀{H':Hp},(∀b∈C,H' b=none)->∀b∈C,uD X a H' b:=λhn b q=>⟨hn b q,(S b q).2⟩;refine codeAny_forLoop_any (λn U=>∃i σ' H',Inv X a σ' H' U/\R i U.heap/\(∀b∈C,H' b=none)/\W i n σ' H') ?_ Y ⟨0,σ,H2,I2,O,λb q=>(S b q).1,w0⟩;rintro n s3 ⟨i,σ3,H3,I3,st3,fr3,w3⟩;rcases z i n σ3 H3 w3 with⟨B,qn⟩|⟨go,N,hN,step⟩
 ·refine bD3 F (thn (T.done X rfl rfl rfl hc i a s3 σ3 H3 X.xe I3 (c fr3) st3 B) λr s4 ⟨M,I4⟩=>?_);subst M;exact wpAny_execs_nil ⟨σ3,H3,I4,qn⟩
 ·refine bD3 F (thn (T.item X rfl rfl rfl hc i a s3 σ3 H3 X.xe I3 (c fr3) st3 go) λr s4 ⟨u,M,h4⟩=>?_);subst M;refine bD3 F (thn h4 λ_ P ⟨x,Q,Z,r5,V,y,L⟩=>?_);have K:=Z.pinned (c L) (T.obj _ _ y);refine bD3 F (thn (hg _ P σ3 Q x u _ K r5 (step x Q V)) λ_ s6 ⟨σ6,H6,I6,q6⟩=>?_);refine bD3 F (thn (q _ s6 σ6 H6 _ I6 q6) λf G t=>?_);have l:∀{k:St} {j:Hp},Inv X (a++zK C P.heap) k j G->N k j->∃m,m<n/\∃i σ' H',Inv X a σ' H' G/\R i G.heap/\(∀b∈C,H' b=none)/\W i m σ' H':=λ{k j} p E=>by obtain⟨m',hm,w7⟩:=hN k j E;refine⟨m',hm,i+1,k,j,p.mU,T.keep _ _ _ y λb q o e=>(p.pin (b,o) (bAF _ (bAF _ (jZ q e)))).1,λb q=>?_,w7⟩;obtain⟨o,e,d⟩:=T.obj _ _ y b q;exact (p.pin (b,o) (bAF _ (bAF _ (jZ q e)))).2.1
  cases f with
  |next=>obtain⟨k,j,p,E⟩:=t;exact l p E
  |cont=>obtain⟨k,j,p,E⟩:=t;exact l p E
  |brk=>obtain⟨k,j,p,t⟩:=t;exact⟨k,j,p.mU,t⟩
  |ret v=>obtain⟨x7,k,j,p,r7,t⟩:=t;exact⟨x7,k,j,p.mU,r7,t⟩
end
def aIe {K:bFH}{a:Addr}{xs:List V}{g:TG}{tb:TS}{D:Ends}{σ:St}{H:Hp}(d:Nat->St->Hp->Prop)(f:d 0 σ H)(j:∀i σ H,i<=xs.length->d i σ H->SqL K H a xs)
  (h:∀i x σ H,xs[i]?=some x->d i σ H->g x σ H fun σ2 H2=>tb { D with nx:=d (i+1),ct:=d (i+1),bk:=D.nx } σ2 H2) (hd:∀σ H,d xs.length σ H->D.nx σ H) :
  ∃W:Nat->Nat->St->Hp->Prop,(∃m,W 0 m σ H)/\∀i m σ H,W i m σ H ->
   ((Itl K a).stop i H/\D.nx σ H)\/((Itl K a).go i H/\∃N:St->Hp->Prop,(∀σ' H',N σ' H'->∃m',m'<m/\W (i+1) m' σ' H')/\∀x H',(Itl K a).yld i H x H'->g x σ H' fun σ2 H2=>tb { D with nx:=N,ct:=N,bk:=D.nx } σ2 H2):=by
 refine⟨λi m σ H=>m=xs.length - i/\i<=xs.length/\d i σ H,⟨xs.length,by simp,bAG _,f⟩,?_⟩;rintro i m σ H ⟨rfl,hi,p⟩;have q:=j i σ H hi p;by_cases b:i<xs.length
 ·refine .inr ⟨⟨xs,xs[i],q,by simp[b]⟩,d (i+1),fun σ' H' c=>⟨xs.length - (i+1),by lia,rfl,b,c⟩,λx H' y=>?_⟩;obtain⟨e,y⟩:=y;subst e;exact h i x σ _ (y xs q) p
 ·have e:i=xs.length:=by lia
  subst e;exact .inl ⟨⟨xs,q,j0 _⟩,hd σ H p⟩
def aXh {K:bFH}{a:Addr}{xs:List V}{g:TG}{tb:TS}{D:Ends}{σ:St}{H:Hp}(d:Nat->St->Hp->Prop)(f:d 0 σ H)(j:∀i σ H,i<=xs.length->d i σ H->SqT K H a xs)
  (h:∀i x σ H,xs[i]?=some x->d i σ H->g x σ H fun σ2 H2=>tb { D with nx:=d (i+1),ct:=d (i+1),bk:=D.nx } σ2 H2) (hd:∀σ H,d xs.length σ H->D.nx σ H) :
  ∃W:Nat->Nat->St->Hp->Prop,(∃m,W 0 m σ H)/\∀i m σ H,W i m σ H ->
   ((Itt K a).stop i H/\D.nx σ H)\/((Itt K a).go i H/\∃N:St->Hp->Prop,(∀σ' H',N σ' H'->∃m',m'<m/\W (i+1) m' σ' H')/\∀x H',(Itt K a).yld i H x H'->g x σ H' fun σ2 H2=>tb { D with nx:=N,ct:=N,bk:=D.nx } σ2 H2):=by
 refine⟨λi m σ H=>m=xs.length - i/\i<=xs.length/\d i σ H,⟨xs.length,by simp,bAG _,f⟩,?_⟩;rintro i m σ H ⟨rfl,hi,p⟩;have q:=j i σ H hi p;by_cases b:i<xs.length
 ·refine .inr ⟨⟨xs,xs[i],q,by simp[b]⟩,d (i+1),fun σ' H' c=>⟨xs.length - (i+1),by lia,rfl,b,c⟩,λx H' y=>?_⟩;obtain⟨e,y⟩:=y;subst e;exact h i x σ _ (y xs q) p
 ·have e:i=xs.length:=by lia
  subst e;exact .inl ⟨⟨xs,q,j0 _⟩,hd σ H p⟩
def jV {lo:Int}{n:Nat}{g:TG}{tb:TS}{D:Ends}{σ:St}{H:Hp}(c:Nat->St->Hp->Prop)(d:c 0 σ H)
  (f:∀i σ H,i<n->c i σ H->g (.int (lo+i)) σ H fun σ2 H2=>tb { D with nx:=c (i+1),ct:=c (i+1),bk:=D.nx } σ2 H2) (hd:∀σ H,c n σ H->D.nx σ H) :
  ∃W:Nat->Nat->St->Hp->Prop,(∃m,W 0 m σ H)/\∀i m σ H,W i m σ H ->
   ((Itr lo n).stop i H/\D.nx σ H)\/((Itr lo n).go i H/\∃N:St->Hp->Prop,(∀σ' H',N σ' H'->∃m',m'<m/\W (i+1) m' σ' H')/\∀x H',(Itr lo n).yld i H x H'->g x σ H' fun σ2 H2=>tb { D with nx:=N,ct:=N,bk:=D.nx } σ2 H2):=by
 refine⟨λi m σ H=>m=n - i/\i<=n/\c i σ H,⟨n,by simp,bAG _,d⟩,?_⟩;rintro i m σ H ⟨rfl,hi,p⟩;by_cases a:i<n
 ·refine .inr ⟨a,c (i+1),fun σ' H' b=>⟨n - (i+1),by lia,rfl,a,b⟩,λx H' y=>?_⟩;obtain⟨e,y⟩:=y;subst e y;exact f i σ _ a p
 ·have e:i=n:=by lia
  subst e;exact .inl ⟨j0 _,hd σ H p⟩
abbrev R2:=V->V->Hp->VK->Prop
def OpR (X:Cx)(f:Value->Value->Sem Value)(r:R2):Prop:=
 ∀(bFL:bFJ) (s:Shared) (σ:St) (H:Hp) (x y:V) (v u:Value) (Q:VK),Inv X bFL σ H s->RelV x v->RelV y u->r x y H Q ->
  wpAny (model X.prog X.w) X.A (f v u) (EP X bFL σ Q) X.xe s
def UnR (X:Cx)(f:Value->Sem Value)(r:V->Hp->VK->Prop):Prop:=
 ∀(bFL:bFJ) (s:Shared) (σ:St) (H:Hp) (x:V) (v:Value) (Q:VK),Inv X bFL σ H s->RelV x v->r x H Q ->
  wpAny (model X.prog X.w) X.A (f v) (EP X bFL σ Q) X.xe s
def cO (X:Cx)(f:Value)(r:List V->Hp->VK->Prop):Prop:=
 ∀(bFL:bFJ) (s:Shared) (σ:St) (H:Hp) (xs:List V) (us:List Value) (Q:VK),Inv X bFL σ H s->Vals xs us->r xs H Q ->
  wpAny (model X.prog X.w) X.A (call f us) (EP X bFL σ Q) X.xe s
def bC3 (X:Cx)(r:V->Hp->(Bool->Hp->Prop)->Prop):Prop:=
 ∀(bFL:bFJ) (s:Shared) (σ:St) (H:Hp) (x:V) (v:Value) (Q:Bool->Hp->Prop),Inv X bFL σ H s->RelV x v->r x H Q ->
  wpAny (model X.prog X.w) X.A (truthy v) (TP X bFL σ Q) X.xe s
def tOp (r:R2)(ta tb:TE):TE:=fun σ H Q=>ta σ H λx H1=>tb σ H1 λy H2=>r x y H2 Q
def tUn (r:V->Hp->VK->Prop)(ta:TE):TE:=fun σ H Q=>ta σ H λx H1=>r x H1 Q
def rI (C:Int->Int->Prop)(g:Int->Int->V):R2:=λx y H Q=>∃i j,x=.int i/\y=.int j/\C i j/\Q (g i j) H
def rI0 (g:Int->Int->V):R2:=λx y H Q=>∃i j,x=.int i/\y=.int j/\Q (g i j) H
def rU (g:Int->V):V->Hp->VK->Prop:=λx H Q=>∃i,x=.int i/\Q (g i) H
section
variable {X:Cx}{a b c:Expr}{ta tb tc:TE}{pos:Pos}
def aXc (n:PE X a ta)(o:PE X b tb){c:bFJ}{s:Shared}{σ:St}{H:Hp}{R:V->V->Hp->Prop}(I:Inv X c σ H s)
  (h:ta σ H λx H1=>tb σ H1 λy H2=>R x y H2) {Q:bFI} {f:Value->Value->Sem Value}
  (m:∀v u s2 x y H2,Inv X c σ H2 s2->RelV x v->RelV y u->R x y H2->wpAny (model X.prog X.w) X.A (f v u) Q X.xe s2) :
  wpAny (model X.prog X.w) X.A (eval a X.env) (λv s₁=>wpAny (model X.prog X.w) X.A (eval b X.env) (λu s₂=>wpAny (model X.prog X.w) X.A (f v u) Q X.xe s₂) X.xe s₁) X.xe s:=by
 refine thn (n c s σ H _ I h) λv j ⟨x,H1,k,e,g⟩=>?_;refine thn (o c j σ H1 _ k g) λu s2 ⟨y,H2,d,l,i⟩=>?_;exact m v u s2 x y H2 d e l i
def bB1 {op:Operator}{r:R2}(j:OpR X (binaryOp op) r)(k:PE X a ta)(l:PE X b tb):PE X (.BinOp a op b pos) (tOp r ta tb):=by intro c s σ H Q I h;exact wpAny_BinOp (aXc k l I h λv u i x y f d e g q=>j c i σ f x y v u Q d e g q)
def bBx {op:UnaryOp}{r:V->Hp->VK->Prop}(i:UnR X (unaryOp op) r)(j:PE X a ta):PE X (.UnaryOp op a pos) (tUn r ta):=by intro b s σ H Q I h;exact UnaryOp_ (thn (j b s σ H _ I h) λv c ⟨x,d,e,f,g⟩=>i b c σ d x v Q e f g)
def opI {f:Value->Value->Sem Value}{C:Int->Int->Prop}{g:Int->Int->Int}
  (a:∀(i j:Int) (t u:Tok) (s:Shared) (Q:bFI) (E:bFI),C i j->Q (.int (g i j) s.toks) { s with toks:=s.toks+1 }->wpAny (model X.prog X.w) X.A (f (.int i t) (.int j u)) Q E s) :
  OpR X f (rI C λi j=>.int (g i j)):=by
 intro k s σ H x y v u Q I d b h;obtain⟨i,j,rfl,rfl,e,q⟩:=h;obtain⟨t,rfl⟩:=d;obtain⟨c,rfl⟩:=b;exact a i j t c s _ _ e ⟨.int (g i j),H,I.tok _,⟨_,rfl⟩,q⟩
def bCc {f:Value->Value->Sem Value}{g:Int->Int->Int}
  (a:∀(i j:Int) (t u:Tok) (s:Shared) (Q:bFI) (E:bFI),Q (.int (g i j) s.toks) { s with toks:=s.toks+1 }->wpAny (model X.prog X.w) X.A (f (.int i t) (.int j u)) Q E s) :
  OpR X f (rI0 λi j=>.int (g i j)):=by
 intro e s σ H x y v u Q I d b h;obtain⟨i,j,rfl,rfl,q⟩:=h;obtain⟨t,rfl⟩:=d;obtain⟨c,rfl⟩:=b;exact a i j t c s _ _ ⟨.int (g i j),H,I.tok _,⟨_,rfl⟩,q⟩
def aZp {f:Value->Value->Sem Value}{g:Int->Int->Bool}
  (a:∀(i j:Int) (t u:Tok) (s:Shared) (Q:bFI) (E:bFI),Q (.bool (g i j)) s->wpAny (model X.prog X.w) X.A (f (.int i t) (.int j u)) Q E s) :
  OpR X f (rI0 λi j=>.bl (g i j)):=by
 intro e s σ H x y v u Q I d b h;obtain⟨i,j,rfl,rfl,q⟩:=h;obtain⟨t,rfl⟩:=d;obtain⟨c,rfl⟩:=b;exact a i j t c s _ _ ⟨.bl (g i j),H,I,rfl,q⟩
def bDd (i j:Int):Prop:=0<j/\j<1073741824
def bC1 (i j:Int):Prop:=0<=j/\j<=1000000/\i.natAbs<2 ^ 64
def bBj (i j:Int):Prop:=(-(2 ^ 64)<i/\i<2 ^ 64)\/(-(2 ^ 64)<j/\j<2 ^ 64)
def bBj.ok {i j:Int}(h:bBj i j):IntMulOk i j:=by
 rcases h with⟨a,b⟩|⟨a,b⟩
 ·exact .of_left (intBits_le_64 a b)
 ·exact .of_right (intBits_le_64 a b)
def dX:OpR X (binaryOp .Add) (rI0 λi j=>.int (i+j)):=bCc λ_ _ _ _ _ _ _ q=>add_int q
def aBx:OpR X (binaryOp .Sub) (rI0 λi j=>.int (i - j)):=bCc λ_ _ _ _ _ _ _ q=>sub_int q
def yL:OpR X (binaryOp .Mult) (rI bBj λi j=>.int (i * j)):=opI λ_ _ _ _ _ _ _ a q=>mul_int q a.ok
def aXb:OpR X (binaryOp .FloorDiv) (rI bDd λi j=>.int (i / j)):=opI λi j _ _ _ _ _ a q=>by have b:(0:Int)<j:=a.1;have c:j<1073741824:=a.2;exact floordiv_int (by lia) (by rw[Int.fdiv_eq_ediv_of_nonneg i (by lia)];exact q) (.inl (PyProof.noPylong_small (by lia)))
def qO:OpR X (binaryOp .Mod) (rI (λ_ j=>0<j) λi j=>.int (i % j)):=opI λi j _ _ _ _ _ a q=>by have b:(0:Int)<j:=a;exact mod_int' (by lia) (by rw[Int.fmod_eq_emod_of_nonneg i (by lia)];exact q)
def aHv:OpR X (binaryOp .Pow) (rI bC1 λi j=>.int (i ^ j.toNat)):=opI λ_ _ _ _ _ _ _ a q=>pow_int_small a.1 a.2.1 a.2.2 q
def unI {f:Value->Sem Value}{g:Int->Int}
  (a:∀(i:Int) (t:Tok) (s:Shared) (Q:bFI) (E:bFI),Q (.int (g i) s.toks) { s with toks:=s.toks+1 }->wpAny (model X.prog X.w) X.A (f (.int i t)) Q E s) :
  UnR X f (rU λi=>.int (g i)):=by
 intro b s σ H x v Q I c h;obtain⟨i,rfl,q⟩:=h;obtain⟨t,rfl⟩:=c;exact a i t s _ _ ⟨.int (g i),H,I.tok _,⟨_,rfl⟩,q⟩
def aSv:UnR X (unaryOp .USub) (rU λi=>.int (-i)):=unI λ_ _ _ _ _ q=>neg_int q
end
def scal:V->V->Bool
 |.non,.non=>true|.non,.int _=>true|.int _,.non=>true|.non,.bl _=>true|.bl _,.non=>true|.non,.str _=>true|.str _,.non=>true
 |.int _,.int _=>true|.bl _,.bl _=>true|.str _,.str _=>true|.byt _,.byt _=>true
 |.int _,.str _=>true|.str _,.int _=>true|.bl _,.str _=>true|.str _,.bl _=>true
 |_,_=>false
def rEq:R2:=λx y H Q=>scal x y=true/\Q (.bl (decide (x=y))) H
def rNe:R2:=λx y H Q=>scal x y=true/\Q (.bl (!decide (x=y))) H
def aOr {i j:Int}:decide (V.int i=V.int j)=(i == j):=by rw[bCS];simp
def aUf {i j:Bool}:decide (V.bl i=V.bl j)=(i == j):=by rw[bCS];simp
def aPn {i j:Str}:decide (V.str i=V.str j)=(i == j):=by rw[bCS];simp
def aPm {i j:Array UInt8}:decide (V.byt i=V.byt j)=(i.toList == j.toList):=by rw[bCS];cases i;cases j;simp
section
variable {X:Cx}{a b c:Expr}{ta tb tc:TE}{pos:Pos}
def cC {bFL:bFJ}{σ:St}{H:Hp}{s:Shared}{Q:VK}{k k':Bool}(I:Inv X bFL σ H s)(q:Q (.bl k) H)(e:k=k'):EP X bFL σ Q (.bool k') s:=by subst e;exact⟨.bl k,H,I,rfl,q⟩
theorem dW:OpR X (compareOp .Eq) rEq:=by
 intro e s σ H x y v u Q I d a h;obtain⟨c,q⟩:=h;cases x with
 |non=>
  cases d;cases y with
  |non=>cases a;exact PySem.EqNone.eq_none_none (cC I q (by simp))
  |bl j=>cases a;exact PySem.EqNone.eq_none_bool (cC I q (by simp))
  |int j=>obtain⟨b,rfl⟩:=a;exact PySem.EqNone.eq_none_int (cC I q (by simp))
  |str j=>obtain⟨b,rfl⟩:=a;exact PySem.EqNone.eq_none_str (cC I q (by simp))
  |_=>exact absurd (show false=true from c) v4
 |bl i=>
  cases d;cases y with
  |non=>cases a;exact PySem.EqNone.eq_bool_none (cC I q (by simp))
  |bl j=>cases a;exact eq_bool (cC I q aUf)
  |str j=>obtain⟨b,rfl⟩:=a;exact PySem.EqMixed.eq_bool_str (cC I q (by simp))
  |_=>exact absurd (show false=true from c) v4
 |int i=>
  obtain⟨t,rfl⟩:=d;cases y with
  |non=>cases a;exact PySem.EqNone.eq_int_none (cC I q (by simp))
  |int j=>obtain⟨b,rfl⟩:=a;exact eq_int (cC I q aOr)
  |str j=>obtain⟨b,rfl⟩:=a;exact PySem.EqMixed.eq_int_str (cC I q (by simp))
  |_=>exact absurd (show false=true from c) v4
 |str i=>
  obtain⟨t,rfl⟩:=d;cases y with
  |non=>cases a;exact PySem.EqNone.eq_str_none (cC I q (by simp))
  |bl j=>cases a;exact PySem.EqMixed.eq_str_bool (cC I q (by simp))
  |int j=>obtain⟨b,rfl⟩:=a;exact PySem.EqMixed.eq_str_int (cC I q (by simp))
  |str j=>obtain⟨b,rfl⟩:=a;exact eq_str (cC I q aPn)
  |_=>exact absurd (show false=true from c) v4
 |byt i=>
  obtain⟨t,rfl⟩:=d;cases y with
  |byt j=>obtain⟨b,rfl⟩:=a;exact PySem.W.eq_bytes (cC I q aPm)
  |_=>exact absurd (show false=true from c) v4
 |_=>cases y <;> exact absurd (show false=true from c) v4
theorem aBl:OpR X (compareOp .NotEq) rNe:=by
 intro e s σ H x y v u Q I d a h;obtain⟨c,q⟩:=h;cases x with
 |non=>
  cases d;cases y with
  |non=>cases a;exact PySem.EqNone.ne_none_none (cC I q (by simp))
  |bl j=>cases a;exact PySem.EqNone.ne_none_bool (cC I q (by simp))
  |int j=>obtain⟨b,rfl⟩:=a;exact PySem.EqNone.ne_none_int (cC I q (by simp))
  |str j=>obtain⟨b,rfl⟩:=a;exact PySem.EqNone.ne_none_str (cC I q (by simp))
  |_=>exact absurd (show false=true from c) v4
 |bl i=>
  cases d;cases y with
  |non=>cases a;exact PySem.EqNone.ne_bool_none (cC I q (by simp))
  |bl j=>cases a;exact ne_bool (cC I q (congrArg not aUf))
  |str j=>obtain⟨b,rfl⟩:=a;exact PySem.EqMixed.ne_bool_str (cC I q (by simp))
  |_=>exact absurd (show false=true from c) v4
 |int i=>
  obtain⟨t,rfl⟩:=d;cases y with
  |non=>cases a;exact PySem.EqNone.ne_int_none (cC I q (by simp))
  |int j=>obtain⟨b,rfl⟩:=a;exact ne_int (cC I q (congrArg not aOr))
  |str j=>obtain⟨b,rfl⟩:=a;exact PySem.EqMixed.ne_int_str (cC I q (by simp))
  |_=>exact absurd (show false=true from c) v4
 |str i=>
  obtain⟨t,rfl⟩:=d;cases y with
  |non=>cases a;exact PySem.EqNone.ne_str_none (cC I q (by simp))
  |bl j=>cases a;exact PySem.EqMixed.ne_str_bool (cC I q (by simp))
  |int j=>obtain⟨b,rfl⟩:=a;exact PySem.EqMixed.ne_str_int (cC I q (by simp))
  |str j=>obtain⟨b,rfl⟩:=a;exact ne_str (cC I q (congrArg not aPn))
  |_=>exact absurd (show false=true from c) v4
 |byt i=>
  obtain⟨t,rfl⟩:=d;cases y with
  |byt j=>obtain⟨b,rfl⟩:=a;exact PySem.W.ne_bytes (cC I q (congrArg not aPm))
  |_=>exact absurd (show false=true from c) v4
 |_=>cases y <;> exact absurd (show false=true from c) v4
def aSl:OpR X (compareOp .Lt) (rI0 λi j=>.bl (decide (i<j))):=aZp λ_ _ _ _ _ _ _ q=>lt_int q
def aA5:OpR X (compareOp .LtE) (rI0 λi j=>.bl (decide (i<=j))):=aZp λ_ _ _ _ _ _ _ q=>le_int q
def bCs:OpR X (compareOp .Gt) (rI0 λi j=>.bl (decide (j<i))):=aZp λ_ _ _ _ _ _ _ q=>gt_int q
def aQ5:OpR X (compareOp .In) (λx y H Q=>∃i j,x=.str i/\y=.str j/\Q (.bl (!(Builtin.Str.occurrences j i 0 j.length 1).isEmpty)) H):=by intro c s σ H x y v u Q I b a h;obtain⟨i,j,rfl,rfl,q⟩:=h;obtain⟨t,rfl⟩:=b;obtain⟨d,rfl⟩:=a;exact in_str (cC I q rfl)
def aBc:OpR X (compareOp .Is) (λx y H Q=>y=.non/\Q (.bl (decide (x=.non))) H):=by
 intro b s σ H x y v u Q I a c h;obtain⟨rfl,q⟩:=h;cases c;refine is_none_gen (cC I q ?_);cases x <;> first
  |(cases a;rfl)
  |(obtain⟨t,rfl⟩:=a;rfl)
def aAv:OpR X (compareOp .IsNot) (λx y H Q=>y=.non/\Q (.bl (!decide (x=.non))) H):=by
 intro b s σ H x y v u Q I a c h;obtain⟨rfl,q⟩:=h;cases c;refine isnot_none_gen (cC I q ?_);cases x <;> first
  |(cases a;rfl)
  |(obtain⟨t,rfl⟩:=a;rfl)
def OpR.or {f:Value->Value->Sem Value}{r r':R2}(h:OpR X f r)(h':OpR X f r'):OpR X f (λx y H Q=>r x y H Q\/r' x y H Q):=by
 intro a s σ H x y v u Q I b c q;rcases q with q|q
 ·exact h a s σ H x y v u Q I b c q
 ·exact h' a s σ H x y v u Q I b c q
def aW (b:Expr){op:CmpOp}(h:op≠.In:=by decide)(d:op≠.NotIn:=by decide):behindInMarks op b=false:=by
 have c:(op == CmpOp.In)=false:=by cases op <;> first|rfl|exact absurd rfl h
 have a:(op == CmpOp.NotIn)=false:=by cases op <;> first|rfl|exact absurd rfl d
 cases b <;> simp[behindInMarks,c,a]
def aW7 {op:CmpOp}{r:R2}(j:OpR X (compareOp op) r)(k:PE X a ta)(l:PE X b tb)(m:behindInMarks op b=false):PE X (.Compare a [op] [b] pos) (tOp r ta tb):=by intro c s σ H Q I h;exact wpAny_Compare1 (aXc k l I h λv u i x y f d e g q=>j c i σ f x y v u Q d e g q) m
def aOm (t:TE):TT:=fun σ H Q=>t σ H λx H'=>∃k,x=.bl k/\Q k H'
def aVt {op:CmpOp}{r:R2}(C:OpR X (compareOp op) r)(D:PE X a ta)(E:PE X b tb)(F:behindInMarks op b=false):PT X (.Compare a [op] [b] pos) (aOm (tOp r ta tb)):=by
 intro d s σ H Q I h;refine wpAny_isTrue_Compare1 (thn (D d s σ H _ I h) λv q ⟨x,t,w,i,j⟩=>thn (E d q σ t _ w j) λu A ⟨y,p,g,B,o⟩=>
  thn (C d A σ p x y v u _ g i B o) λc G ⟨z,f,m,n,k,e,l⟩=>?_) F
 subst e;cases n;exact bBE ⟨f,m,l⟩
def aGy (r r':R2)(ta tb tc:TE):TE:=fun σ H Q=>ta σ H λx H1=>tb σ H1 λy H2=>r x y H2 λz H3=>∃k,z=.bl k /\
 (if k=true then tc σ H3 λw' H4=>r' y w' H4 Q else Q (.bl false) H3)
theorem aS8 {op op':CmpOp}{r r':R2}(O:OpR X (compareOp op) r)(C:OpR X (compareOp op') r')(P:PE X a ta)(S:PE X b tb)(R:PE X c tc)
  (T:lastMarks [op,op'] [b,c]=false:=by with_unfolding_all rfl):PE X (.Compare a [op,op'] [b,c] pos) (aGy r r' ta tb tc):=by
 intro f s σ H Q I h;refine Compare_chain (thn (P f s σ H _ I h) λv q ⟨x,K,L,n,D⟩=>chain_link (thn (S f q σ K _ L D) λu F ⟨y,J,B,j,p⟩=>
  thn (O f F σ J x y v u _ B n j p) λd N ⟨z,g,i,G,k,e,l⟩=>?_)) T
 subst e;cases G;refine bBE ?_;cases k with
 |false=>exact ite_ff ⟨.bl false,g,i,rfl,l⟩
 |true=>exact ite_tt (chain_last (thn (R f N σ g _ i l) λA E ⟨m,t,o,w,M⟩=>C f E σ t y m u A Q o j w M))
theorem aR3 {op op':CmpOp}{r r':R2}(W:OpR X (compareOp op) r)(J:OpR X (compareOp op') r')(Y:PE X a ta)(hb:PE X b tb)(hc:PE X c tc)
  (hm:lastMarks [op,op'] [b,c]=false:=by with_unfolding_all rfl):PT X (.Compare a [op,op'] [b,c] pos) (aOm (aGy r r' ta tb tc)):=by
 intro f s σ H Q I h;refine isTrue_chain (thn (Y f s σ H _ I h) λv A ⟨x,R,S,n,L⟩=>test_link (thn (hb f A σ R _ S L) λu M ⟨y,P,F,j,t⟩=>
  thn (W f M σ P x y v u _ F n j t) λd V ⟨z,g,i,O,k,e,l⟩=>?_)) hm
 subst e;cases O;refine bBE ?_;cases k with
 |false=>obtain⟨k',G,C⟩:=l;cases G;exact ite_ff ⟨g,i,C⟩
 |true=>refine ite_tt (test_last (thn (hc f V σ g _ i l) λE N ⟨m,B,o,D,T⟩=>thn (J f N σ B y m u E _ o j D T) λZ s5 ⟨z2,U,q,K,k2,w,p⟩=>?_));subst w;cases K;exact bBE ⟨U,q,p⟩
def bAy (K:bFH)(x:V)(H:Hp)(k:Bool):Prop:=
 match x with
 |.non=>k=false
 |.bl b=>k=b
 |.int i=>k=(i != 0)
 |.str y=>y.length<=sizeLine/\k=((y.length:Int) != 0)
 |.byt y=>y.size<=sizeLine/\k=((y.size:Int) != 0)
 |.ref p=>(∃xs,SqL K H p xs/\k=!xs.isEmpty)\/(∃xs,SqT K H p xs/\k=!xs.isEmpty)\/∃kvs,H p=some (.dK kvs)/\k=!kvs.isEmpty
 |_=>False
def aNp {κ:Type}{kvs:List (κ × V)}{vs:List (κ × Value)}(r:KV kvs vs):(!vs.isEmpty)=!kvs.isEmpty:=by cases r <;> rfl
def aCr {xs:List V}{its:List Value}(r:Vals xs its):(!its.toArray.isEmpty)=!xs.isEmpty:=by cases r <;> simp
def zO:(sizeLine:Nat)<2 ^ 63:=by rw[sizeLine_eq];decide
theorem aY6:bC3 X (λx H Q=>∃k,bAy X.K x H k/\Q k H):=by
 intro z s σ H x v Q I f h;obtain⟨k,e,q⟩:=h;have C:=zO;have B:sizeLine=16777216:=sizeLine_eq;cases x with
 |non=>cases f;have a:k=false:=e;subst a;exact truthy_none ⟨H,I,q⟩
 |bl b=>cases f;have a:k=b:=e;subst a;exact bBE ⟨H,I,q⟩
 |int i=>obtain⟨t,rfl⟩:=f;have a:k=(i != 0):=e;subst a;exact PySem.P.truthy_int ⟨H,I,q⟩
 |str y=>obtain⟨t,rfl⟩:=f;obtain⟨A,a⟩:y.length<=sizeLine/\k=((y.length:Int) != 0):=e;subst a;exact PySem.P.truthy_str (by lia) ⟨H,I.tok _,q⟩
 |byt y=>obtain⟨t,rfl⟩:=f;obtain⟨A,a⟩:y.size<=sizeLine/\k=((y.size:Int) != 0):=e;subst a;exact PySem.W.truthy_bytes (by lia) ⟨H,I.tok _,q⟩
 |ref p=>
  cases f;have a:(∃d,SqL X.K H p d/\k=!d.isEmpty)\/(∃d,SqT X.K H p d/\k=!d.isEmpty)\/∃kvs,H p=some (.dK kvs)/\k=!kvs.isEmpty:=e;rcases a with⟨d,g,a⟩|⟨d,g,a⟩|⟨kvs,g,a⟩
  ·subst a;obtain⟨n,r,l,o⟩:=I.list g;have c:=r.length;exact wpAny_truthy_list l.isList (by simp only[j7];lia) ⟨H,I.tok _,by rw[aCr r];exact q⟩
  ·subst a;obtain⟨n,r,l,o⟩:=I.tuple g;have c:=r.length;exact truthy_tuple l (by simp only[j7];lia) ⟨H,I.tok _,by rw[aCr r];exact q⟩
  ·subst a;obtain⟨o,u,j,r,m⟩:kvs.length<=sizeLine/\(p == sysModules)=false/\∃j,KV kvs j/\s.heap.DictOf (bL X.prog X.w) p j:=I.hok p _ g;have c:kvs.length=j.length:=Paired.length r;exact wpAny_truthy_dict u m (by lia) ⟨H,I.tok _,by rw[aNp r];exact q⟩
 |_=>exact (show False from e).elim
def aTm (i:PE X a ta)(j:∀whole,isTrue a X.env whole=(do let v <-whole;standAt a.pos;holding [v] (truthy v))) :
  PT X a (fun σ H Q=>ta σ H λx H'=>∃k,bAy X.K x H' k/\Q k H'):=by
 intro b s σ H Q I h;exact isTrue_plain (thn (i b s σ H _ I h) λv c ⟨x,d,e,f,g⟩=>aY6 b c σ d x v Q e f g) (j _)
def pX:OpR X (binaryOp .Add) (λx y H Q=>∃i j,x=.str i/\y=.str j/\i.length+j.length<=sizeLine/\Q (.str (i++j)) H):=by intro e s σ H x y v u Q I c a h;obtain⟨i,j,rfl,rfl,d,q⟩:=h;obtain⟨t,rfl⟩:=c;obtain⟨b,rfl⟩:=a;exact add_str (λb f=>⟨.str (i++j),H,I.tok _,⟨_,rfl⟩,q⟩) d
def aJw (b:Expr):Prop:=∀o i,subscripted b false o i=operate [o,i] (getItem o i)
def aK3 (C:PE X a ta)(D:PE X b tb)(B:aJw b) :
  PE X (.Subscript a b pos) (tOp (λx y H Q=>∃z i c,x=.str z/\y=.int i/\0<=i/\i<2 ^ 63/\i<z.length/\z.cps[i.toNat]?=some c/\Q (.str ⟨#[c]⟩) H) ta tb):=by
 intro r s σ H Q I h;refine Subscript_ (aXc C D I h λv u w x y o d k f q=>?_);obtain⟨z,i,c,rfl,rfl,m,j,n,p,q⟩:=q;obtain⟨t,rfl⟩:=k;obtain⟨A,rfl⟩:=f;have e:seqIndex? i z.length=some i.toNat:=PySem.StrLaws.seqIndex_nonneg m n;exact tail_any (typeIs_str w z t) slot_str_getitem.lookup (getItem_str (c:=c) (by have g:decide (i < -(2 ^ 63:Int))=false:=v8 (by lia);have l:decide (i ≥ 2 ^ 63)=false:=v8 (by lia);rw[g,l] <;> rfl) (by rw[e];exact p) ⟨.str ⟨#[c]⟩,o,d.tok _,⟨_,rfl⟩,q⟩) (B _ _)
theorem vals1 {x:V}{us:List Value}(r:Vals [x] us):∃u,us=[u]/\RelV x u:=by
 cases r with
 |cons r1 r2=>cases r2;exact⟨_,rfl,r1⟩
theorem vals2 {x y:V}{us:List Value}(r:Vals [x,y] us):∃u w',us=[u,w']/\RelV x u/\RelV y w':=by
 cases r with
 |cons r1 r2=>
  cases r2 with
  |cons r3 r4=>cases r4;exact⟨_,_,rfl,r1,r3⟩
def aP4 (f:X.calm=true):cO X (.builtin "max") (λxs H Q=>∃i j,xs=[.int i,.int j]/\Q (.int (if j > i then j else i)) H):=by
 intro b s σ H xs g Q I r h;obtain⟨i,j,rfl,q⟩:=h;obtain⟨u,l,rfl,⟨t,rfl⟩,⟨d,rfl⟩⟩:=vals2 r;refine max_two_ints (I.ok.hd f) λc e k=>⟨_,H,I.kept k,?_,q⟩;by_cases a:j > i
 ·rw[if_pos a,if_pos a];exact⟨_,rfl⟩
 ·rw[if_neg a,if_neg a];exact⟨_,rfl⟩
def aFn:cO X (.type "int") (λxs H Q=>(∃i,xs=[.int i]/\Q (.int i) H)\/∃k,xs=[.bl k]/\Q (.int (if k then 1 else 0)) H):=by
 intro b s σ H xs c Q I r h;rcases h with⟨i,rfl,q⟩|⟨k,rfl,q⟩
 ·obtain⟨u,rfl,t,rfl⟩:=vals1 r;exact call_int_int ⟨.int i,H,I,⟨_,rfl⟩,q⟩
 ·obtain⟨u,rfl,a⟩:=vals1 r;cases a;exact call_int_bool ⟨.int (if k then 1 else 0),H,I.tok _,⟨_,rfl⟩,q⟩
end
structure aLm (h:Heap)(x dx C:Addr)(mA:bFK):Prop where
 obj:h.get? x=some (PySem.W.instObj C dx)
 ns:h.Ns1 dx mA
 ne:dx≠x
def aRd {h:Heap}{dx:Addr}{mA:bFK}(n:h.Ns1 dx mA):∃od,h.get? dx=some od/\∀name,PySem.W.lookIn name od=some (mA name):=by
 obtain⟨o,c,k,d,hd,j,_,i⟩:=n;refine⟨o,d,λname=>?_⟩;have e:=i name;unfold nsFind findBy at e;rw[<-Array.find?_toList] at e;unfold PySem.W.lookIn;rw[hd];dsimp only
 split
 ·rename_i y q;rw[q] at e;exact congrArg some e
 ·rename_i q;rw[q] at e;have a:c.toList.any (·.refKey)=false:=by rw[List.any_eq_false];intro y g;obtain⟨z,t,b⟩:=j y (Array.mem_toList_iff.mp g);simp[DictEntry.refKey,b]
  have f:¬ c.toList.any (·.refKey)=true:=by rw[a];exact v4
  rw[if_neg f];exact congrArg some e
def aLm.look {h:Heap}{x dx C:Addr}{mA:bFK}(I:aLm h x dx C mA):∃od,PySem.W.InstAt h x (PySem.W.instObj C dx) C (some od)/\∀name,PySem.W.lookIn name od=some (mA name):=
 let ⟨od,ho,hl⟩:=aRd I.ns
 ⟨od,⟨I.obj,rfl,rfl,ho⟩,hl⟩
section
variable {prog:Program}{w:World}{A:Around}{E:bFI}{s:Shared}{K:bFH}{x dx C f:Addr}{mA:bFK}{name:Str}{v:Value}
def aXm {expr:Bool}{Q:bFI}(X:K.In s.heap)(I:aLm s.heap x dx C mA)(f:PySem.W.plainGet K C name=true)(e:PySem.W.hasDictIn K C=true)
  (d:PySem.W.findIn K (.ref C) name=some none) (g:mA name=some v) (a:PySem.W.handedIn v=true) (h:Q v { s with toks:=s.toks+1 }) :
  wpAny (model prog w) A (getAttr (.ref x) name expr) Q E s:=by
 obtain⟨c,J,b⟩:=I.look;exact PySem.W.get_value X J (PySem.W.plainGet_of f).1 (PySem.W.findObj_own e d rfl (by rw[b,g])) a h
def aU1 {pl:Sem Bool}{Q:Value × List Value->Shared->Prop}(X:K.In s.heap)(I:aLm s.heap x dx C mA)(b:PySem.W.plainGet K C name=true)
  (d:PySem.W.findIn K (.ref C) name=some (some (.ref f))) (g:PySem.W.isFn K (.ref f)=true) (e:mA name=none) (h:Q (.ref f,[.ref x]) s) :
  wpAny (model prog w) A (getMethod (.ref x) name pl) Q E s:=by
 obtain⟨a,J,c⟩:=I.look;exact PySem.W.method_fn X J (PySem.W.plainGet_of b).1 (PySem.W.plainGet_of b).2 d (beq_iff_eq.mp g) (by show (PySem.W.lookIn name a).map (·.isSome)=some false;rw[c,e];rfl) h
def aWq {ns:List Str}{Q:Unit->Shared->Prop}(X:K.In s.heap)(I:aLm s.heap x dx C mA)
  (o:PySem.W.findIn K (.ref C) "__setattr__"=some (some (.builtin "object.__setattr__"))) (z:PySem.W.plainOver K C=true) (p:PySem.W.takerIn K C name=some none) (n:PySem.W.hasDictIn K C=true)
  (D:PySem.Within mA ns) (hsz:ns.length<=sizeLine)
  (h:∀h',aLm h' x dx C (λy=>if y=name then some v else mA y)->Heap.SameBut dx s.heap h'->Q () { s with heap:=h',toks:=s.toks+2 }) :
  wpAny (model prog w) A (setAttr (.ref x) name v) Q E s:=by
 obtain⟨t,J,B⟩:=I.look;refine PySem.W.set_plain X J o (PySem.W.osa_open (s:={ s with toks:=s.toks+1 }) (r:=none) X J z p λb=>?_);obtain⟨q,k,g⟩:=PySem.W.any_some n;have m:s.heap.get? x=some ⟨.ref C,some dx,.plain,#[]⟩:=I.obj;refine c7 (d9 (c7 (c7 (wpAny_loadPart m (c7 (PySem.W.Looks.here (s:={ s with toks:=s.toks+1 }) (PySem.W.looks_clsIn X k) ?_))))));rw[g];refine d9 (a:=some dx) (c7 (d9 (c7 ?_)));refine wpAny_nsSet1 (s:={ s with toks:=s.toks+1 }) I.ns λh' c d=>?_;obtain⟨u,l,j,f,e,i⟩:=c.count (PySem.Within.cons name v D);refine c7 (wpAny_lookBehind f (by rw[e];exact pastItsLine_dict (bAM i (by rw[v9];lia))) ?_);exact d9 (h _ ⟨(d.2 _ (Ne.symm I.ne)).trans I.obj,c,I.ne⟩ d)
def aTo {R:Result->Shared->Prop}{vs:List Value}{kw:List (Str × Value)}(X:K.In s.heap)(i:PySem.W.makesIn K C=true)
  (hi:PySem.W.findIn K (.ref C) "__init__"=some (some (.ref f))) (e:PySem.W.typeIn K (.ref f)=some (.type "function"))
  (h:codeAny (model prog w) (A.under (.builtin "type.__call__" ⟨.ref C::vs,kw⟩)) (.call (.ref f) ⟨.ref (s.heap.objs.size+1)::vs,kw⟩) (PySem.W.InitBack (s.heap.objs.size+1) R)
   { s with heap:=(s.heap.push PySem.W.emptyDict).push (PySem.W.instObj C s.heap.objs.size) }) :
  codeAny (model prog w) A (.call (.ref C) ⟨vs,kw⟩) R s:=by
 obtain⟨b,g,d,t,c⟩:=s;exact PySem.W.make_core (PySem.W.makes_of X i) (PySem.W.looks_findIn X hi) (λa=>PySem.W.bind_fn X a e) (.inl rfl) h
end
def jM (f:Str)(v:V):List (Str × V)->List (Str × V)
 |[]=>[(f,v)]
 |(g,x)::r=>if g=f then (g,v)::r else (g,x)::jM f v r
theorem zZ (f g:Str)(v:V):∀fs:List (Str × V),(jM f v fs).lookup g=if g=f then some v else fs.lookup g
 |[]=>by
  show List.lookup g [(f,v)]=_;by_cases h:g=f
  ·have a:(g == f)=true:=beq_iff_eq.mpr h;simp only[List.lookup,a,if_pos h]
  ·have a:(g == f)=false:=beq_eq_false_iff_ne.mpr h;simp only[List.lookup,a,if_neg h]
 |(k,x)::r=>by
  have c:=zZ f g v r;rw[show jM f v ((k,x)::r)=(if k=f then (k,v)::r else (k,x)::jM f v r) from rfl];by_cases b:k=f
  ·rw[if_pos b];by_cases h:g=k
   ·have a:(g == k)=true:=beq_iff_eq.mpr h;simp only[List.lookup,a,if_pos (h.trans b)]
   ·have a:(g == k)=false:=beq_eq_false_iff_ne.mpr h;simp only[List.lookup,a,if_neg (λe:g=f=>h (e.trans b.symm))]
  ·rw[if_neg b];by_cases h:g=k
   ·have a:(g == k)=true:=beq_iff_eq.mpr h;simp only[List.lookup,a,if_neg (λe:g=f=>b (h.symm.trans e))]
   ·have a:(g == k)=false:=beq_eq_false_iff_ne.mpr h;simp only[List.lookup,a];exact c
theorem yN (f:Str)(v:V):∀fs:List (Str × V),f∈(jM f v fs).map (·.1)/\∀g,g∈fs.map (·.1)->g∈(jM f v fs).map (·.1)
 |[]=>⟨by simp[jM],λg h=>by simp at h⟩
 |(k,x)::r=>by
  obtain⟨c,b⟩:=yN f v r;rw[show jM f v ((k,x)::r)=(if k=f then (k,v)::r else (k,x)::jM f v r) from rfl];by_cases a:k=f
  ·rw[if_pos a];subst a;exact⟨by simp,λg h=>by simpa using h⟩
  ·rw[if_neg a];refine⟨?_,λg h=>?_⟩
   ·rw[bAN];exact j8 _ c
   ·rw[bAN] at h ⊢;rcases List.mem_cons.mp h with e|e
    ·exact List.mem_cons.mpr (.inl e)
    ·exact j8 _ (b g e)
theorem zR (f:Str)(v:V):∀fs:List (Str × V),(jM f v fs).length<=fs.length+1
 |[]=>by simp[jM]
 |(k,x)::r=>by
  have b:=zR f v r;rw[show jM f v ((k,x)::r)=(if k=f then (k,v)::r else (k,x)::jM f v r) from rfl];by_cases a:k=f
  ·rw[if_pos a,v9,v9];lia
  ·rw[if_neg a,v9,v9];lia
theorem qR.some_of {v:V}{o:Option Value}(r:qR (some v) o):∃u,o=some u/\RelV v u:=by
 cases o with
 |none=>exact (show False from r).elim
 |some u=>exact⟨u,rfl,r⟩
theorem qR.none_of {o:Option Value}(r:qR none o):o=none:=by
 cases o with
 |none=>rfl
 |some u=>exact (show False from r).elim
theorem aPx {v:V}{u:Value}(r:RelV v u):PySem.W.handedIn u=true:=by
 cases v with
 |non=>cases (show u=Value.none from r);rfl
 |bl b=>cases (show u=Value.bool b from r);rfl
 |int i=>obtain⟨t,e⟩:=(show ∃t,u=Value.int i t from r);cases e;rfl
 |str x=>obtain⟨t,e⟩:=(show ∃t,u=Value.str x t from r);cases e;rfl
 |byt b=>obtain⟨t,e⟩:=(show ∃t,u=Value.bytes b t from r);cases e;rfl
 |flt b=>obtain⟨t,e⟩:=(show ∃t,u=Value.float b t from r);cases e;rfl
 |ref a=>cases (show u=Value.ref a from r);rfl
 |ty n=>cases (show u=Value.type n from r);rfl
section
variable {P:Program}{w:World}{H H':Hp}{h h':Heap}{a C dx:Addr}{fs fs':List (Str × V)}
def aHe (b:HOk P w H h)(e:H a=some (.ins C dx fs)):∃mA,aLm h a dx C mA/\(∀f,qR (fs.lookup f) (mA f))/\PySem.Within mA (fs.map (·.1))/\fs.length<=1000/\H dx=some (.own a):=by obtain⟨d,z,c,g,mA,n,r,q⟩:=(show dH P w H h a (.ins C dx fs) from b a _ e);exact⟨mA,⟨g,n,c⟩,r,q,z,d⟩
end
structure Cls (K:bFH)(C:Addr):Prop where
 pg:PySem.W.plainGet K C Str.empty=true
 hd:PySem.W.hasDictIn K C=true
 po:PySem.W.plainOver K C=true
 sa:PySem.W.findIn K (.ref C) "__setattr__"=some (some (.builtin "object.__setattr__"))
def Cls.get {K:bFH}{C:Addr}(c:Cls K C)(f:Str):PySem.W.plainGet K C f=true:=c.pg
def bI (K:bFH)(C:Addr)(f:Str):Prop:=PySem.W.findIn K (.ref C) f=some none
def bI.taker {K:bFH}{C:Addr}{f:Str}(n:bI K C f):PySem.W.takerIn K C f=some none:=by unfold PySem.W.takerIn;rw[show PySem.W.findIn K (.ref C) f=some none from n];rfl
structure Meth (K:bFH)(C:Addr)(m:Str)(f:Addr):Prop where
 at_:PySem.W.findIn K (.ref C) m=some (some (.ref f))
 fn:PySem.W.isFn K (.ref f)=true
 kp:PySem.W.keepIn K (.ref f)=true
section
variable {X:Cx}{bFL:bFJ}{σ:St}{H:Hp}{s:Shared}{a C dx:Addr}{fs:List (Str × V)}{f:Str}{v:V}{A:Around}{E:bFI}
def aMv {b:Bool}{Q:bFI}(I:Inv X bFL σ H s)(e:H a=some (.ins C dx fs))(c:Cls X.K C)(n:bI X.K C f)(l:fs.lookup f=some v)
  (h:∀u s',Inv X bFL σ H s'->RelV v u->Q u s'):wpAny (model X.prog X.w) A (getAttr (.ref a) f b) Q E s:=by
 obtain⟨i,O,r,_,_,_⟩:=aHe I.hok e;obtain⟨u,g,d⟩:=qR.some_of (v:=v) (o:=i f) (by rw[<-l];exact r f);exact aXm I.kIn O (c.get f) c.hd n g (aPx d) (h u _ (I.tok _) d)
def aDb {m:Str}{g:Addr}{pl:Sem Bool}{Q:Value × List Value->Shared->Prop}(I:Inv X bFL σ H s)(e:H a=some (.ins C dx fs))(c:Cls X.K C)(k:Meth X.K C m g)(l:fs.lookup m=none)
  (h:Q (.ref g,[.ref a]) s):wpAny (model X.prog X.w) A (getMethod (.ref a) m pl) Q E s:=by
 obtain⟨d,O,r,_,_,_⟩:=aHe I.hok e;have b:d m=none:=qR.none_of (by rw[<-l];exact r m);exact aU1 I.kIn O (c.get m) k.at_ k.fn b h
def aM6 {y:V}{u:Value}{Q:Unit->Shared->Prop}(I:Inv X bFL σ H s)(e:H a=some (.ins C dx fs))(c:Cls X.K C)(n:bI X.K C f)(hl:fs.length<1000)(B:RelV y u)
  (h:∀s',Inv X bFL σ (upd H a (.ins C dx (jM f y fs))) s'->Q () s'):wpAny (model X.prog X.w) A (setAttr (.ref a) f u) Q E s:=by
 obtain⟨k,O,r,i,_,j⟩:=aHe I.hok e;have p:(fs.map (·.1)).length<=sizeLine:=by rw[j9,sizeLine_eq];lia
 refine aWq I.kIn O c.sa c.po n.taker c.hd i p λl d m=>h _ ?_;have hd:∃o,l.get? dx=some o:=let ⟨o,_,_,e',_⟩:=d.ns;⟨o,e'⟩
 refine I.write (x:=a) (e:=dx) (by rw[e];exact True.intro) (.inr j) (λb q t z=>(m.2 b t).trans z) hd ?_;refine⟨by rw[aP O.ne];exact j,?_,O.ne,d.obj,_,d.ns,λg=>?_,λg v=>?_⟩
 ·have:=zR f y fs;lia
 ·show qR ((jM f y fs).lookup g) (if g=f then some u else k g);rw[zZ];by_cases q:g=f
  ·rw[if_pos q,if_pos q];exact B
  ·rw[if_neg q,if_neg q];exact r g
 ·by_cases q:g=f
  ·rw[q];exact (yN f y fs).1
  ·refine (yN f y fs).2 g (i g λz=>v ?_);show (if g=f then some u else k g)=none;rw[if_neg q];exact z
def Inv.made (I:Inv X bFL σ H s):Inv X bFL σ (upd (upd H s.heap.objs.size (.own (s.heap.objs.size+1))) (s.heap.objs.size+1) (.ins C s.heap.objs.size []))
  { s with heap:=(s.heap.push PySem.W.emptyDict).push (PySem.W.instObj C s.heap.objs.size) }:=by
 have c:(s.heap.push PySem.W.emptyDict).get? s.heap.objs.size=some PySem.W.emptyDict:=j5 s.heap rfl;have f:((s.heap.push PySem.W.emptyDict).push (PySem.W.instObj C s.heap.objs.size)).get? (s.heap.objs.size+1)=some (PySem.W.instObj C s.heap.objs.size):=by
  have:=j5 (s.heap.push PySem.W.emptyDict) (o:=PySem.W.instObj C s.heap.objs.size) rfl
  rwa [bAX] at this
 have g:(s.heap.push PySem.W.emptyDict).Ns s.heap.objs.size (λ_=>none):=⟨PySem.W.emptyDict,#[],_,c,rfl,(λe h=>absurd h (by simp)),λ_=>rfl⟩;have i:=I.laid (a:=s.heap.objs.size) (o:=.own (s.heap.objs.size+1)) (h':=s.heap.push PySem.W.emptyDict) (t':=s.toks) (λb u q=>d8 _ q) (j0 _) ⟨_,c⟩;refine i.laid (a:=s.heap.objs.size+1) (o:=.ins C s.heap.objs.size []) (t':=s.toks) (λb u q=>d8 _ q) (bE3 (bAX _ _)) ?_;have d:s.heap.objs.size≠s.heap.objs.size+1:=v5 (bCM _);refine⟨by rw[aP d,aH],bAG _,d,f,λ_=>none,(Heap.Ns1.of_empty g).at λo q=>d8 _ q,λ_=>True.intro,λy j=>absurd rfl j⟩
def aX2 {prog:Program}{w:World}{env:Env}{e:Expr}{f:Str}{pos:Pos}{s:Shared}{Q:bFI}(a:attributeBase e f env (eval e env)=eval e env)
  (h:wpAny (model prog w) A (eval e env) (λo s₁=>wpAny (model prog w) A (getAttr o f true) Q E s₁) E s):wpAny (model prog w) A (eval (.Attribute e f pos) env) Q E s:=
 Attribute_any_ h (by rw[arm_eval_Attribute,a])
end
def bB2 (K:bFH)(ta:TE)(f:Str):TE:=fun σ H Q=>ta σ H λx H1=>∃a C dx fs v,x=.ref a/\H1 a=some (.ins C dx fs)/\Cls K C/\bI K C f/\fs.lookup f=some v/\Q v H1
def bCi (K:bFH)(ta tv:TE)(f:Str):TS:=λD σ H=>tv σ H λy H1=>ta σ H1 λx H2=>∃a C dx fs,x=.ref a/\H2 a=some (.ins C dx fs)/\Cls K C/\bI K C f/\fs.length<1000 /\
 D.nx σ (upd H2 a (.ins C dx (jM f y fs)))
section
variable {X:Cx}{o e value:Expr}{f:Str}{pos pos' tpos:Pos}{ta tv:TE}
def bAv (z:PE X e ta)(y:attributeBase e f X.env (eval e X.env)=eval e X.env):PE X (.Attribute e f pos) (bB2 X.K ta f):=by intro b s σ H Q I h;refine aX2 y (thn (z b s σ H _ I h) λu t ⟨x,i,j,g,a,C,w,r,v,m,o,c,n,l,q⟩=>?_);subst m;obtain rfl:u=Value.ref a:=g;exact aMv j o c n l λp A d k=>⟨v,i,d,k,q⟩
def bBl (z:PE X o ta)(w:PE X value tv)(B:swapsWith value (some (.Attribute o f pos')) pos.line X.env=pure false):PS X (.Assign [.Attribute o f pos'] value pos) (bCi X.K ta tv f):=by intro b s σ H D I h;refine plainObj_wpAny_Assign_Attribute (thn (w b s σ H _ I h) λu i ⟨y,r,t,v,q⟩=>thn (z b i σ r _ t q) λm G ⟨x,E,p,d,a,C,J,A,j,k,c,n,l,g⟩=>?_) B;subst j;obtain rfl:m=Value.ref a:=d;exact aM6 p k c n l v λF e=>⟨σ,_,e,g⟩
end
section
variable {X:Cx}{bFL:bFJ}{σ:St}{H:Hp}{s:Shared}{A:Around}{E:bFI}{Q:bFI}{c:Value}{b:Bool}
end
structure Room (k:Nat)(A:Around):Prop where
 hd:A.handled=none
 dp:A.depth+3 * k+5<recursionLimit
 un:A.units+16 * k+200<cLine
def Room.mono {j k:Nat}{A:Around}(r:Room k A)(h:j<=k):Room j A:=⟨r.hd,by have:=r.dp;lia,by have:=r.un;lia⟩
theorem Room.deeper {k:Nat}{A:Around}(r:Room (k+1) A)(env:Env):Room k (A.deeper env):=
 ⟨r.hd,by have:=r.dp;show A.depth+1+3 * k+5<_;lia,by have:=r.un;show A.units+3+16 * k+200<_;lia⟩
def aLg {A:Around}{C:Addr}{us:List Value}{kw:List (Str × Value)}:(A.under (.builtin "type.__call__" ⟨.ref C::us,kw⟩)).depth=A.depth+1:=by
 first|rfl|simp[Around.under,Code.weight,Code.isCreation,Code.isGuard,Code.isCaller,Code.frames,Code.isFrame,guardIds]
def aMe {A:Around}{C:Addr}{us:List Value}{kw:List (Str × Value)}:(A.under (.builtin "type.__call__" ⟨.ref C::us,kw⟩)).units=A.units+1:=by
 first|rfl|simp[Around.under,Code.cUnits,Code.frames,Code.isFrame]
def Room.make {k:Nat}{A:Around}(r:Room (k+1) A)(C:Addr)(us:List Value)(kw:List (Str × Value)):Room k (A.under (.builtin "type.__call__" ⟨.ref C::us,kw⟩)):=
 ⟨r.hd,by have:=r.dp;rw[aLg];lia,by have:=r.un;rw[aMe];lia⟩
theorem Room.depth {k:Nat}{A:Around}(r:Room k A):A.depth<recursionLimit:=by have:=r.dp;lia
theorem Room.units {k:Nat}{A:Around}(r:Room k A):A.units+64<cLine:=by have:=r.un;lia
def aHp:TA:=λ_ H Q=>Q [] H
def fG (ta:TE)(tr:TA):TA:=fun σ H Q=>ta σ H λx H1=>tr σ H1 λxs H2=>Q (x::xs) H2
section
variable {X:Cx}{e:Expr}{es:List Expr}{te:TE}{t:TA}{pos:Pos}
def bAq:PA X [] aHp:=λ_ _ _ _ H Q I h=>bEF ⟨[],H,I,.nil,h⟩
def aXr (q:PE X e te)(o:PA X es t)(p:starEach (e::es) X.env=(false,eval e X.env)::starEach es X.env:=by rfl):PA X (e::es) (fG te t):=by intro b a s σ H Q I h;rw[p];show wpAny _ _ (spliced ((false,eval e X.env)::backTo b (starEach es X.env))) _ _ s;refine bBW (thn (q a s σ H _ I h) λu k ⟨x,l,m,d,f⟩=>?_);exact thn (o b a k σ l _ m f) λr v ⟨g,j,c,n,i⟩=>⟨x::g,j,c,.cons d n,i⟩
end
abbrev Sp:=List V->Hp->VK->XK->Prop
abbrev CXT:=List Env->Hp->Shared->XK->Value->Shared->Prop
structure aHl (P:Program)(w:World)(K:bFH)(mg:bFK)(base:Heap)(A:Around)(outer:List Env)(s:Shared)(H:Hp):Prop where
 frames:A.frames=some outer
 mod:Mod K mg base
 bs:∀b o,base.get? b=some o->s.heap.get? b=some o/\H b=none
 bsz:base.objs.size<=s.heap.objs.size
 funs:s.heap.FunFrames base outer
 frf:∀b∈frs outer,H b=none
 hok:HOk P w H s.heap
 bare:AllBare s.gens
def CE (outer:List Env)(P:Program)(w:World)(H:Hp)(s:Shared)(Q:VK)(u:Value)(s':Shared):Prop:=
 ∃v H',s'.os=s.os/\AllBare s'.gens/\Un (frs outer) [] H H' s.heap s'.heap/\HOk P w H' s'.heap/\RelV v u/\Q v H'
def CR (CX:CXT)(outer:List Env)(P:Program)(w:World)(H:Hp)(s:Shared)(Q:VK)(E:XK)(r:Result)(s':Shared):Prop:=
 match r with
 |.ok (.ret u)=>CE outer P w H s Q u s'
 |.ok _=>False
 |.error e=>CX outer H s E e s'
structure lX (P:Program)(w:World)(K:bFH)(mg:bFK)(base:Heap)(CX:CXT)(k:Nat)(f:Addr)(fd:FuncData)(ps:List Str)(sp:Sp):Prop where
 len:∀vs H Q E,sp vs H Q E->vs.length=ps.length
 run:∀(A:Around) (outer:List Env) (s:Shared) (H:Hp) (args:Args) (us:List Value) (vs:List V) (Q:VK) (E:XK),Room k A->aHl P w K mg base A outer s H->BindsTo s fd args (ps.zip us)->Vals vs us->sp vs H Q E ->
  codeAny (model P w) A (.call (.ref f) args) (CR CX outer P w H s Q E) s
theorem lX.mono {P:Program}{w:World}{K:bFH}{mg:bFK}{base:Heap}{CX:CXT}{j k:Nat}{f:Addr}{fd:FuncData}{ps:List Str}{sp:Sp}(F:lX P w K mg base CX j f fd ps sp)(h:j<=k) :
  lX P w K mg base CX k f fd ps sp:=⟨F.len,λA a s H b e d Q E c=>F.run A a s H b e d Q E (c.mono h)⟩
def aHl.make {P:Program}{w:World}{K:bFH}{mg:bFK}{base:Heap}{A:Around}{outer:List Env}{s:Shared}{H:Hp}(e:aHl P w K mg base A outer s H)(C:Addr)(us:List Value)(kw:List (Str × Value)) :
  aHl P w K mg base (A.under (.builtin "type.__call__" ⟨.ref C::us,kw⟩)) outer s H:=⟨by first|exact e.frames|(simpa [Around.under,Code.envs,Code.isFrame,pushEnvs] using e.frames),e.mod,e.bs,e.bsz,e.funs,e.frf,e.hok,e.bare⟩
section
variable {X:Cx}{bFL:bFJ}{σ:St}{H:Hp}{s s':Shared}
def Inv.env0 (I:Inv X bFL σ H s):aHl X.prog X.w X.K X.mg X.base X.A X.stack s H:=
 ⟨I.ok.frames,I.ok.mod,I.bs,bAM I.ok.bsz I.sz,I.stack,I.wN,I.hok,I.bare⟩
def Inv.after {Q:VK}{u:Value}(I:Inv X bFL σ H s)(h:CE X.stack X.prog X.w H s Q u s'):EP X bFL σ Q u s':=by obtain⟨v,k,i,a,f,c,r,q⟩:=h;obtain⟨j,g,d,t,e⟩:=s';obtain rfl:e=s.os:=i;exact⟨v,k,I.call (h':=j) (g':=g) (d':=d) (t':=t) (ch:=[]) f c a (λb z=>absurd z (by simp)),r,q⟩
end
def aEp (sp:Sp)(dvs:List V)(E:XK)(t:TA):TE:=fun σ H Q=>t σ H λvs H1=>sp (vs++dvs) H1 Q E
def aOg (C:Addr)(m:Str)(sp:Sp)(dvs:List V)(E:XK)(ta:TE)(t:TA):TE:=fun σ H Q=>ta σ H λx H1=>∃a dx fs,x=.ref a/\H1 a=some (.ins C dx fs)/\fs.lookup m=none /\
 t σ H1 λvs H2=>sp (x::(vs++dvs)) H2 Q E
def aX6 (C:Addr)(sp:Sp)(dvs:List V)(E:XK)(t:TA):TE:=fun σ H Q=>t σ H λvs H1=>∀x dx,H1 x=none->H1 dx=none->dx≠x ->
 sp (.ref x::(vs++dvs)) (upd (upd H1 dx (.own x)) x (.ins C dx [])) (λv H2=>v=.non/\Q (.ref x) H2) E
def Binds (K:bFH)(fd:FuncData)(ps:List Str)(ds:List Value):Prop:=
 ∀(s:Shared) (us:List Value),K.In s.heap->(us++ds).length=ps.length->BindsTo s fd ⟨us,[]⟩ (ps.zip (us++ds))
def Binds.all {K:bFH}{fd:FuncData}{ps:List Str}(h:∀us:List Value,us.length=ps.length->bindArgs fd ⟨us,[]⟩=pure (ps.zip us)):Binds K fd ps []:=λs us _ a=>by rw[bCJ] at a ⊢;exact .of_eq (h us a)
def tD (CX:CXT)(X:Cx)(E:XK):Prop:=∀(bFL:bFJ) (σ:St) (H:Hp) (s:Shared) (e:Value) (s':Shared),Inv X bFL σ H s->CX X.stack H s E e s'->X.xe e s'
section
variable {X:Cx}{CX:CXT}{k:Nat}{f C:Addr}{fd:FuncData}{ps:List Str}{sp:Sp}{dvs:List V}{ds:List Value}{E:XK}{x m:Str}{p pos apos:Pos}{e o:Expr}{es:List Expr}{ta:TE}{t:TA}
theorem aB6 {c:bFJ}{σ:St}{H:Hp}{s:Shared}{Q:VK}{us:List Value}{vs:List V}(F:lX X.prog X.w X.K X.mg X.base CX k f fd ps sp)(i:Room k X.A)(j:Binds X.K fd ps ds)(hd:Vals dvs ds)(l:tD CX X E)
  (I:Inv X c σ H s) (r:Vals vs us) (h:sp (vs++dvs) H Q E):wpAny (model X.prog X.w) X.A (call (.ref f) us) (EP X c σ Q) X.xe s:=by
 have b:Vals (vs++dvs) (us++ds):=r.append hd;have d:(us++ds).length=ps.length:=by rw[<-b.length];exact F.len _ _ _ _ h
 refine bET (bCP (F.run X.A X.stack s H ⟨us,[]⟩ (us++ds) (vs++dvs) Q E i I.env0 (j s us I.kIn d) b h) λr g a=>?_);cases r with
 |error e=>exact l c σ H s e g I a
 |ok fl=>
  cases fl with
  |ret u=>exact I.after a
  |next=>exact False.elim a
  |brk=>exact False.elim a
  |cont=>exact False.elim a
def aWr (F:lX X.prog X.w X.K X.mg X.base CX k f fd ps sp)(g:Room k X.A)(v:Gl X x)(y:X.mg x=some (.ref f))(B:PySem.W.keepIn X.K (.ref f)=true)(n:Binds X.K fd ps ds)(hd:Vals dvs ds)(u:tD CX X E)
  (m:PA X (e::es) t) (c:(x == ("__debug__":Str))=false:=by decide) (z:starEach (e::es) X.env=(false,eval e X.env)::starEach es X.env:=by rfl) (d:(backTo pos (starEach es X.env)).any (·.1)=false:=by rfl) :
  PE X (.Call (.Name x p) (e::es) [] pos) (aEp sp dvs E t):=by
 intro a s σ H Q I h;refine bBS (xQ I v y ?_ c);refine PySem.W.callWith_K (h₀:=X.base) I.ok.mod.kin B (thn (m pos a s σ H _ I h) λo j ⟨i,l,b,r,q⟩=>⟨b.kIn,?_⟩) z d;exact aB6 F g n hd u b r q
def aSo (F:lX X.prog X.w X.K X.mg X.base CX k f fd ps sp)(c:Room k X.A)(i:Gl X x)(d:X.mg x=some (.ref f))(j:PySem.W.keepIn X.K (.ref f)=true)(e:Binds X.K fd ps ds)(hd:Vals dvs ds)(g:tD CX X E)
  (a:(x == ("__debug__":Str))=false:=by decide):PE X (.Call (.Name x p) [] [] pos) (aEp sp dvs E aHp):=by
 intro b s σ H Q I h;refine bBS (xQ I i d ?_ a);exact PySem.W.callWith_K0 I.kIn j (aB6 (us:=[]) F c e hd g I .nil h)
def aWp {pl:Sem Bool}(S:PE X o ta)(c:Cls X.K C)(B:Meth X.K C m f)(F:lX X.prog X.w X.K X.mg X.base CX k f fd ps sp)(G:Room k X.A)(P:Binds X.K fd ps ds)(hd:Vals dvs ds)(R:tD CX X E)(O:PA X (e::es) t)
  (y:starEach (e::es) X.env=(false,eval e X.env)::starEach es X.env:=by rfl) (n:(backTo pos (starEach es X.env)).any (·.1)=false:=by rfl)
  (L:eval (.Call (.Attribute o m apos) (e::es) [] pos) X.env=(do
   let ov <-eval o X.env
   standAt apos.atName
   let (f,first) <-holding [ov] (getMethod ov m pl)
   callWith pos f first (backTo pos (starEach (e::es) X.env)) (backToKw pos (keywordEach [] X.env))):=by rfl) :
  PE X (.Call (.Attribute o m apos) (e::es) [] pos) (aOg C m sp dvs E ta t):=by
 intro b s σ H Q I h;refine PySem.W.methodCall_KW (pl:=pl) (thn (S b s σ H _ I h) λu p ⟨x,v,g,i,a,N,J,z,D,l,q⟩=>?_) L;subst z;obtain rfl:u=Value.ref a:=i;refine aDb g D c B l ?_;refine PySem.W.callWith_K (first:=[.ref a]) (h₀:=X.base) I.ok.mod.kin B.kp (thn (O pos b p σ v _ g q) λus T ⟨vs,M,d,r,j⟩=>⟨d.kIn,?_⟩) y n;exact aB6 (us:=.ref a::us) (vs:=.ref a::vs) F G P hd R d (.cons rfl r) j
def aUv {pl:Sem Bool}(D:PE X o ta)(c:Cls X.K C)(i:Meth X.K C m f)(F:lX X.prog X.w X.K X.mg X.base CX k f fd ps sp)(n:Room k X.A)(z:Binds X.K fd ps ds)(hd:Vals dvs ds)(B:tD CX X E)
  (r:eval (.Call (.Attribute o m apos) [] [] pos) X.env=(do
   let ov <-eval o X.env
   standAt apos.atName
   let (f,first) <-holding [ov] (getMethod ov m pl)
   callWith pos f first (backTo pos (starEach [] X.env)) (backToKw pos (keywordEach [] X.env))):=by rfl) :
  PE X (.Call (.Attribute o m apos) [] [] pos) (aOg C m sp dvs E ta aHp):=by
 intro d s σ H Q I h;refine PySem.W.methodCall_KW (pl:=pl) (thn (D d s σ H _ I h) λu t ⟨x,y,b,e,a,v,p,g,j,l,q⟩=>?_) r;subst g;obtain rfl:u=Value.ref a:=e;refine aDb b j c i l ?_;exact PySem.W.callWith_K0 (first:=[.ref a]) b.kIn i.kp (aB6 (us:=[.ref a]) (vs:=[.ref a]) F n z hd B b (.cons rfl .nil) q)
structure Mk (K:bFH)(C f:Addr):Prop where
 makes:PySem.W.makesIn K C=true
 init:PySem.W.findIn K (.ref C) "__init__"=some (some (.ref f))
 fn:PySem.W.isFn K (.ref f)=true
 kp:PySem.W.keepIn K (.ref C)=true
theorem aTt {n:bFJ}{σ:St}{H:Hp}{s:Shared}{Q:VK}{us:List Value}{vs:List V}(M:Mk X.K C f)(F:lX X.prog X.w X.K X.mg X.base CX k f fd ps sp)(q:Room (k+1) X.A)(t:Binds X.K fd ps ds)(hd:Vals dvs ds)
  (y:tD CX X E) (I:Inv X n σ H s) (r:Vals vs us)
  (h:∀x dx,H x=none->H dx=none->dx≠x->sp (.ref x::(vs++dvs)) (upd (upd H dx (.own x)) x (.ins C dx [])) (λv H2=>v=.non/\Q (.ref x) H2) E) :
  wpAny (model X.prog X.w) X.A (call (.ref C) us) (EP X n σ Q) X.xe s:=by
 have c:=h (s.heap.objs.size+1) s.heap.objs.size (I.hok.fresh (bDU _)) (I.hok.fresh (j0 _)) (v5 (bCM _));have b:=Inv.made (C:=C) I;have d:Vals (V.ref (s.heap.objs.size+1)::(vs++dvs)) (Value.ref (s.heap.objs.size+1)::(us++ds)):=.cons rfl (r.append hd);have o:(Value.ref (s.heap.objs.size+1)::us++ds).length=ps.length:=by have e:=d.length;rw[F.len _ _ _ _ c] at e;exact e.symm
 refine bET (aTo (f:=f) I.kIn M.makes M.init (beq_iff_eq.mp M.fn) (bCP (F.run _ X.stack _ _ ⟨Value.ref (s.heap.objs.size+1)::us,[]⟩ (Value.ref (s.heap.objs.size+1)::(us++ds)) _ _ E (q.make C us [])
  (b.env0.make C us []) (t _ (Value.ref (s.heap.objs.size+1)::us) b.kIn o) d c) λr p a=>?_))
 cases r with
 |error e=>exact y n σ _ _ e p b a
 |ok fl=>
  cases fl with
  |ret u=>obtain⟨v,j,m,g,i,l⟩:=b.after a;subst i;exact⟨g,⟨V.ref (s.heap.objs.size+1),j,m,rfl,l⟩⟩
  |next=>exact False.elim a
  |brk=>exact False.elim a
  |cont=>exact False.elim a
def aV3 (M:Mk X.K C f)(F:lX X.prog X.w X.K X.mg X.base CX k f fd ps sp)(g:Room (k+1) X.A)(v:Gl X x)(y:X.mg x=some (.ref C))(n:Binds X.K fd ps ds)(hd:Vals dvs ds)(u:tD CX X E)
  (m:PA X (e::es) t) (c:(x == ("__debug__":Str))=false:=by decide) (z:starEach (e::es) X.env=(false,eval e X.env)::starEach es X.env:=by rfl) (d:(backTo pos (starEach es X.env)).any (·.1)=false:=by rfl) :
  PE X (.Call (.Name x p) (e::es) [] pos) (aX6 C sp dvs E t):=by
 intro a s σ H Q I h;refine bBS (xQ I v y ?_ c);refine PySem.W.callWith_K (h₀:=X.base) I.ok.mod.kin M.kp (thn (m pos a s σ H _ I h) λo j ⟨i,l,b,r,q⟩=>⟨b.kIn,?_⟩) z d;exact aTt M F g n hd u b r q
end
section
variable {X:Cx}{CX:CXT}{k:Nat}{f C:Addr}{fd:FuncData}{ps ks:List Str}{sp:Sp}{E:XK}{x m:Str}{p pos apos kpos:Pos}{e o:Expr}{es:List Expr}{kws:List Keyword}{te ta:TE}{t tk:TA}{nm:Option Str}
variable {g:List Value->List Value->List Value}{gV:List V->List V->List V}
end
structure aJ (N P:List Str)(sc:Scope):Prop where
 kind:sc.kind=.function
 co:sc.isCoroutine=false
 gen:sc.isGenerator=false
 nd:N.Nodup
 pre:N.take P.length=P
 par:∀x∈P,sc.names.lookup x=some .local\/sc.names.lookup x=some .cell
 nofree:∀y∈sc.names,y.2≠.free
theorem aEh {kindOf:Str->Option NameKind}{x:Str}:∀{binds:List (Str × Value)} {m:bFK},(∀v,(x,v)∉binds)->bindL kindOf binds m x=m x
 |[],_,_=>rfl
 |(n,v)::r,m,h=>by
  unfold bindL;rw[aEh λw a=>h w (j8 _ a)]
  split
  ·have:x≠n:=by rintro rfl;exact h v j6
   simp[this]
  ·rfl
theorem aFh {kindOf:Str->Option NameKind}{x:Str}:∀{binds:List (Str × Value)} {m:bFK},(∀v,(x,v)∉binds)->bindC kindOf binds m x=m x
 |[],_,_=>rfl
 |(n,v)::r,m,h=>by
  unfold bindC;rw[aFh λw a=>h w (j8 _ a)]
  split
  ·rfl
  ·have:x≠n:=by rintro rfl;exact h v j6
   simp[this]
theorem aE4 {a:Str->Option NameKind}{x:Str}{v:Value}:∀{P:List Str} {vs:List Value} {i:Nat} {m:bFK},P.Nodup->P[i]?=some x->vs[i]?=some v->a x=some .local ->
  bindL a (P.zip vs) m x=some v
 |[],_,_,_,_,h,_,_=>by simp at h
 |_::_,[],_,_,_,_,h,_=>by simp at h
 |p::P,w::vs,0,m,nd,h1,h2,hk=>by simp at h1 h2;subst h1;subst h2;show bindL a ((p,w)::P.zip vs) m p=_;unfold bindL;rw[aEh λv b=>(List.nodup_cons.mp nd).1 (List.of_mem_zip b).1,if_pos hk];simp
 |p::P,w::vs,i+1,m,nd,h1,h2,hk=>by show bindL a ((p,w)::P.zip vs) m x=_;unfold bindL;exact aE4 (i:=i) (List.nodup_cons.mp nd).2 (by simpa using h1) (by simpa using h2) hk
theorem aEd {a:Str->Option NameKind}{x:Str}{v:Value}:∀{P:List Str} {vs:List Value} {i:Nat} {m:bFK},P.Nodup->P[i]?=some x->vs[i]?=some v->a x≠some .local ->
  bindC a (P.zip vs) m x=some v
 |[],_,_,_,_,h,_,_=>by simp at h
 |_::_,[],_,_,_,_,h,_=>by simp at h
 |p::P,w::vs,0,m,nd,h1,h2,hk=>by simp at h1 h2;subst h1;subst h2;show bindC a ((p,w)::P.zip vs) m p=_;unfold bindC;rw[aFh λv b=>(List.nodup_cons.mp nd).1 (List.of_mem_zip b).1,if_neg hk];simp
 |p::P,w::vs,i+1,m,nd,h1,h2,hk=>by show bindC a ((p,w)::P.zip vs) m x=_;unfold bindC;exact aEd (i:=i) (List.nodup_cons.mp nd).2 (by simpa using h1) (by simpa using h2) hk
def start (N:List Str)(vs:List V):St:=vs.map some++List.replicate (N.length - vs.length) none
def aB7 (CX:CXT)(P:Program)(w:World)(K:bFH)(mg:bFK)(base:Heap)(N:List Str)(qual:Str)(scope:Scope)(f:Addr)(cd:Value)(A:Around)(outer:List Env)(s:Shared)(H:Hp)(E:XK):Cx where
 prog:=P
 w:=w
 K:=K
 mg:=mg
 base:=base
 A:=A.deeper (envOfC qual scope s.heap.objs.size f cd)
 N:=N
 s₀:=s
 H₀:=H
 env:=envOfC qual scope s.heap.objs.size f cd
 outer:=outer
 stack:=envOfC qual scope s.heap.objs.size f cd::outer
 ex:=[]
 calm:=true
 fn:=λ_=>true
 pn:=[]
 xe:=λe s'=>wpAny (model P w) (A.deeper (envOfC qual scope s.heap.objs.size f cd)) (leaving (envOfC qual scope s.heap.objs.size f cd) e) (λ_ s''=>CX outer H s E e s'') (λe' s''=>CX outer H s E e' s'') s'
def aJ2 {a:Scope}{n:Nat}{x:Str}(h:a.names.lookup x=some .cell):∃c,(cellsFrom n a.names []).lookup x=some c:=by have q:=PySem.W.cellsFrom_some a.names n [] (.inl h);exact Option.isSome_iff_exists.mp q
def aRj {CX:CXT}{P:Program}{w:World}{K:bFH}{mg:bFK}{base:Heap}{N B:List Str}{D:Str}{scope:Scope}{f:Addr}{O:Value}{A:Around}{outer:List Env}{s s1:Shared}{H:Hp}{E:XK}{us:List Value}{vs:List V}
  (S:aJ N B scope) (hd:A.handled=none) (g:aHl P w K mg base A outer s H) (hl:vs.length=B.length) (r:Vals vs us)
  (x:InCallC s s.heap.objs.size (bindL (envOfC D scope s.heap.objs.size f O).kindOf (B.zip us) λ_=>none) (cellsFrom (s.heap.objs.size+1) scope.names []) (bindC (envOfC D scope s.heap.objs.size f O).kindOf (B.zip us) λ_=>none) s1) :
  Inv (aB7 CX P w K mg base N D scope f O A outer s H E) [] (start N vs) H s1:=by
 have I:B.length<=N.length:=by have:=congrArg List.length S.pre;rw[bAO] at this;lia
 obtain⟨o,M,rfl,F⟩:=x.done;have j:∀b:Addr,b∉(aB7 CX P w K mg base N D scope f O A outer s H E).ex:=λb z=>absurd (show b∈([]:List Addr) from z) (by simp);refine⟨⟨g.mod,S.kind,rfl,rfl,j0 _,λy z c o d=>?_,λy hy=>?_,λy c _ h=>?_,λ_=>hd,Around.frames_deeper g.frames,.inr ⟨rfl,rfl⟩,λb z=>absurd z (j b),g.bs,g.bsz,λb _ _=>j b,λb z=>absurd z (j b),g.funs,g.frf⟩,
  rfl,g.bare,Un.kept F,⟨_,x.toInCall.ns,λi y v o d L=>?_⟩,λy c h=>⟨_,x.cell y c h⟩,g.hok.fresh (j0 _),λy c h=>?_,λp l=>absurd (show p∈([]:bFJ) from l) (by simp),g.hok.kept F,?_⟩
 ·exact name_of_addr x.apart (PySem.mem_of_lookup o) (PySem.mem_of_lookup d)
 ·have hy:scope.names.lookup y=some .cell\/scope.names.lookup y=some .free:=hy;rcases hy with hy|hy
  ·exact aJ2 hy
  ·exact absurd rfl (S.nofree _ (PySem.mem_of_lookup hy))
 ·exact bDL (x.above y c (PySem.mem_of_lookup h))
 ·have t:i<vs.length:=by
   unfold start at d;by_cases t:i<vs.length
   ·exact t
   ·rw[bBJ (by simpa using t)] at d;rw[List.getElem?_replicate] at d
    split at d <;> cases d
  have J:vs[i]?=some v:=by
   unfold start at d;rw[bBM (by simpa using t),v6] at d;cases e:vs[i]? with
   |none=>rw[e] at d;cases d
   |some a=>rw[e] at d;cases d;rfl
  obtain⟨u,C,G⟩:=r.get J;have l:B[i]?=some y:=by rw[<-S.pre,List.getElem?_take_of_lt (by lia)];exact o
  have m:B.Nodup:=by rw[<-S.pre];exact S.nd.sublist (List.take_sublist _ _)
  refine⟨u,G,?_⟩;rcases S.par y (t7 l) with k|k
  ·exact .inl ⟨k,aE4 m l C k⟩
  ·obtain⟨c,e⟩:=aJ2 (n:=s.heap.objs.size+1) k;refine .inr ⟨.inl k,c,e,?_⟩;have q:=x.cell y c e;rw[aEd m l C (by show scope.names.lookup y≠_;rw[k];decide)] at q;exact q
 ·exact g.hok.fresh (bDL (x.above y c (PySem.mem_of_lookup h)))
 ·unfold start;show _=N.length;rw[bAB,j9,bDQ];lia
theorem aYd {CX:CXT}{P:Program}{w:World}{K:bFH}{mg:bFK}{base:Heap}{k:Nat}{f:Addr}{name i:Str}{params:Arguments}{body:List Stmt}{scope:Scope}{dV kV doc pm z ct oc:Value}{an od:Option Addr}
  {osl:Array (Option Value)} {N ps:List Str} {sp:Sp} (lk:K.lookup f=some ⟨oc,od,.func (PySem.W.fnOf name i params body scope dV kV doc pm an z ct),osl⟩) (U:PySem.W.codeIn K z i=true) (S:aJ N ps scope)
  (D:∀vs H Q E,sp vs H Q E->vs.length=ps.length)
  (p:∀(A:Around) (outer:List Env) (s:Shared) (H:Hp) (vs:List V) (Q:VK) (E:XK),Room k (A.deeper (envOfC i scope s.heap.objs.size f z))->sp vs H Q E ->
   ∃t,PSs (aB7 CX P w K mg base N i scope f z A outer s H E) body t/\t { nx:=λ_ H'=>Q .non H',rt:=Q } (start N vs) H) :
  lX P w K mg base CX (k+1) f (PySem.W.fnOf name i params body scope dV kV doc pm an z ct) ps sp:=by
 refine⟨D,λA outer s H L Y vs Q E B d X r h=>?_⟩;have hl:=D _ _ _ _ h;have G:K.In s.heap:=d.mod.kin.keeps λb o e=>(d.bs b o e).1;have l:s.heap.NoLimit:=d.mod.nolimit.keeps λb o e=>(d.bs b o e).1;have a:∀y∈ps.zip Y,scope.names.lookup y.1=some .local\/(scope.names.lookup y.1=some .cell/\((cellsFrom (s.heap.objs.size+1) scope.names []).lookup y.1).isSome=true):=λ⟨n,v⟩ R=>by
  rcases S.par n (List.of_mem_zip R).1 with q|q
  ·exact .inl q
  ·exact .inr ⟨q,PySem.W.cellsFrom_some _ _ _ (.inl q)⟩
 refine codeAny_call_function B.depth (G _ _ lk) rfl S.co S.gen rfl (PySem.W.codeRec_of G U) (X _ _ _ _ ?_);refine wpAny_newFunctionEnv_cells S.kind a λM he F x=>?_;subst he;refine⟨l.keeps x.toInCall.keep,codeAny_func ?_⟩;obtain⟨t,O,T⟩:=p A outer s H vs Q E (B.deeper _) h;have I:Inv (aB7 CX P w K mg base N i scope f z A outer s H E) [] (start N vs) H F:=aRj S B.hd d hl r x;refine bBN (O [] F (start N vs) H _ I T) (λZ m c=>?_) λe m c=>c;have g:∀{j:St} {H':Hp} {v:V} {u:Value},Inv (aB7 CX P w K mg base N i scope f z A outer s H E) [] j H' m->RelV v u->Q v H'->CE outer P w H s Q u m:=
  λ{j H' v u} J C q=>⟨v,H',J.os,J.bare,J.base,J.hok,C,q⟩
 cases Z with
 |ret u=>obtain⟨v,j,H',J,C,q⟩:=c;exact g J C q
 |next=>obtain⟨j,H',J,q⟩:=c;exact g (v:=V.non) (u:=Value.none) J rfl q
 |brk=>obtain⟨_,_,_,q⟩:=c;exact False.elim q
 |cont=>obtain⟨_,_,_,q⟩:=c;exact False.elim q
section
variable {X:Cx}{x:Str}{p pos:Pos}{e:Expr}{es:List Expr}{t:TA}{id T:String}{r:List V->Hp->VK->Prop}
def tCB (r:List V->Hp->VK->Prop)(t:TA):TE:=fun σ H Q=>t σ H λvs H1=>r vs H1 Q
def aT9 (n:cO X (.builtin id) r)(u:Gl X x)(v:X.mg x=none)(m:bootBuiltins x=some (.builtin id))(o:PA X (e::es) t)(q:x≠"__name__":=by decide)(b:(x == ("__debug__":Str))=false:=by decide)
  (w:starEach (e::es) X.env=(false,eval e X.env)::starEach es X.env:=by rfl) (g:(backTo pos (starEach es X.env)).any (·.1)=false:=by rfl):PE X (.Call (.Name x p) (e::es) [] pos) (tCB r t):=by
 intro a s σ H Q I h;refine bBS (sY I u v m ?_ q b);exact PyProof.Rows.callWith_builtin1 (thn (o pos a s σ H _ I h) λl i ⟨d,j,k,c,f⟩=>n a i σ j d l Q k c f) w g
def aQ1 (n:cO X (.type T) r)(u:Gl X x)(v:X.mg x=none)(m:bootBuiltins x=some (.type T))(o:PA X (e::es) t)(q:x≠"__name__":=by decide)(b:(x == ("__debug__":Str))=false:=by decide)
  (w:starEach (e::es) X.env=(false,eval e X.env)::starEach es X.env:=by rfl) (g:(backTo pos (starEach es X.env)).any (·.1)=false:=by rfl):PE X (.Call (.Name x p) (e::es) [] pos) (tCB r t):=by
 intro a s σ H Q I h;refine bBS (sY I u v m ?_ q b);exact bBR (thn (o pos a s σ H _ I h) λl i ⟨d,j,k,c,f⟩=>n a i σ j d l Q k c f) w g
end
end L2
namespace HT
open PySem PyProof.Rows
section
open PySem.SeqAt
open PySem.AutoSeq1 (wpAny_loadPart')
open PySem.MeetsSeq PySem.MeetsSeq2 PySem.MeetsSeq3
end
section
variable {prog:Program}{w:World}{A:Around}{E:bFI}{s:Shared}
def aVo {t b:Addr}{vs i:List Value}{Q:bFI}(v:IsTup s.heap t vs.toArray)(y:IsTup s.heap b i.toArray)(r:vs≠[])
  (x:i=[]->Q (.ref t) s) (u:i≠[]->Q (.ref s.heap.objs.size) { s with heap:=s.heap.push { cls:=.type "tuple",data:=.seq (vs++i).toArray } })
  (hsz:vs.length+i.length<=sizeLine):wpAny (model prog w) A (binaryOp .Add (.ref t) (.ref b)) Q E s:=by
 obtain⟨⟨cls,l,data,q⟩,h,m,n,hd⟩:=id v;obtain⟨⟨o,c,k,d⟩,a,g,p,f⟩:=id y;simp only at m hd g f;subst m hd g f;have e:vs.toArray++i.toArray=(vs++i).toArray:=by simp
 by_cases j:i=[]
 ·exact concat_meets ⟨_,h,rfl⟩ ⟨_,a,rfl⟩ noFill_tuple_add seq_tuple_add PySem.F.slot_tuple_add PySem.F.entry_tuple_add (PySem.F.args_tuple_add_2 _ _)
   (tuple_addW1 t b vs.toArray i.toArray n p l c q d (by simpa using r) (by simp[j])) ⟨h,a,x j⟩
 ·refine concat_meets ⟨_,h,rfl⟩ ⟨_,a,rfl⟩ noFill_tuple_add seq_tuple_add PySem.F.slot_tuple_add PySem.F.entry_tuple_add (PySem.F.args_tuple_add_2 _ _)
   (tuple_addW2 t b vs.toArray i.toArray n p l c q d (by simpa using r) (by simpa using j) (by rw[j7,j7];exact hsz)) ⟨h,a,?_⟩
  rw[e];exact u j
def sIx (n d:Nat):Option Int->Nat
 |none=>d
 |some v=>if v<0 then (v+(n:Int)).toNat else min v.toNat n
def aIh (n d:Nat):sIx n d none=d:=rfl
def aOt (n d k:Nat):sIx n d (some (k:Int))=min k n:=by show (if (k:Int)<0 then ((k:Int)+(n:Int)).toNat else min (k:Int).toNat n)=min k n;rw[if_neg (by lia),bAR]
theorem bA2 (n d:Nat)(hd:d<=n)(o:Option Int):sIx n d o<=n:=by
 cases o with
 |none=>exact hd
 |some v=>
  show (if v<0 then (v+(n:Int)).toNat else min v.toNat n)<=n;by_cases a:v<0
  ·rw[if_pos a];lia
  ·rw[if_neg a];exact Nat.min_le_right _ _
def aOp (v:Int)(n d:Nat):(if v<0 then max (v+(n:Int)) 0 else min v (n:Int))=((sIx n d (some v):Nat):Int):=by
 show (if v<0 then max (v+(n:Int)) 0 else min v (n:Int))=(((if v<0 then (v+(n:Int)).toNat else min v.toNat n):Nat):Int);by_cases a:v<0
 ·simp only[if_pos a];lia
 ·simp only[if_neg a];lia
def aMr (lo hi:Option Int)(n:Nat):Builtin.Slice.sliceAdjust lo hi 1 (n:Int)=(((sIx n 0 lo:Nat):Int),((sIx n n hi:Nat):Int)):=by
 have a:¬ ((1:Int)<0):=by lia
 unfold Builtin.Slice.sliceAdjust;simp only[a,if_false];refine Prod.ext ?_ ?_
 ·cases lo with
  |none=>rfl
  |some v=>exact aOp v n 0
 ·cases hi with
  |none=>rfl
  |some v=>exact aOp v n n
def aMj (i j:Nat):Builtin.Slice.slicePlaces (i:Int) (j:Int) 1=j - i:=by
 unfold Builtin.Slice.slicePlaces;have a:(1:Int) > 0:=by lia
 simp only[a,if_true,Int.ediv_one]
 split <;> lia
theorem aB0 {v:Value}{o:Option Int}{Q:Option Int->Shared->Prop}(p:IsPart v o)(h:Q o s):wpAny (model prog w) A (Builtin.Slice.slicePartIndex v) Q E s:=by
 cases p with
 |none=>exact slicePart_none h
 |int i t=>exact slicePart_int h
def oW {sl:Addr}{d e:Value}{lo hi:Option Int}{n:Nat}{Q:Int × Int × Nat->Shared->Prop}(g:s.heap.IsSliceOf sl d e .none)(pl:IsPart d lo)(i:IsPart e hi)
  (h:Q (((sIx n 0 lo:Nat):Int),1,sIx n n hi - sIx n 0 lo) s):wpAny (model prog w) A (Builtin.Slice.sliceApplied (.ref sl) (pure (n:Int))) Q E s:=by
 obtain⟨f,a,c,b⟩:=id g;unfold Builtin.Slice.sliceApplied Builtin.Slice.sliceFields;refine c7 (c7 (bAJ a b (x:=d) rfl (c7 (bAJ a b (x:=e) rfl (c7 (bAJ a b (x:=.none) rfl (d9 ?_)))))));refine c7 (slicePart_none ?_);show wpAny _ _ (if ((1:Int) == 0)=true then _ else _) _ _ s;rw[if_neg (by decide)];refine c7 (aB0 pl (c7 (aB0 i (c7 (d9 ?_)))));show wpAny _ _ (match Builtin.Slice.sliceAdjust lo hi 1 (n:Int) with|(lo,hi)=>pure (lo,(1:Int),Builtin.Slice.slicePlaces lo hi 1)) _ _ s;rw[aMr lo hi n];show wpAny _ _ (pure (((sIx n 0 lo:Nat):Int),(1:Int),Builtin.Slice.slicePlaces ((sIx n 0 lo:Nat):Int) ((sIx n n hi:Nat):Int) 1)) _ _ s;rw[aMj];exact d9 h
def aSx (xs:Array Value)(i k:Nat):((List.range k).filterMap λ(m:Nat)=>xs[((i:Int)+(m:Int) * 1).toNat]?).toArray=((xs.toList.drop i).take k).toArray:=by
 have e:(λ(m:Nat)=>xs[((i:Int)+(m:Int) * 1).toNat]?)=λm=>xs[i+m]?:=by
  funext m;have:((i:Int)+(m:Int) * 1).toNat=i+m:=by lia
  rw[this]
 rw[e];have:=pick_run xs i k;rw[bD8] at this;have a:((λx=>xs[x]?) ∘ λx=>i+x)=λm=>xs[i+m]?:=rfl;rw[a] at this;rw[this]
def xG {t p:Addr}{a:Array Value}{vl vu:Value}{lo hi:Option Int}{Q:bFI}(e:IsTup s.heap t a)(k:s.heap.IsSliceOf p vl vu .none)(pl:IsPart vl lo)(r:IsPart vu hi)
  (u:¬ (sIx a.size 0 lo=0/\sIx a.size a.size hi=a.size))
  (h:Q (.ref s.heap.objs.size) { s with heap:=s.heap.push { cls:=.type "tuple",data:=.seq ((a.toList.drop (sIx a.size 0 lo)).take (sIx a.size a.size hi - sIx a.size 0 lo)).toArray } })
  (hsz:a.size<=sizeLine):wpAny (model prog w) A (getItem (.ref t) (.ref p)) Q E s:=by
 have b:sizeOk (.seq ((a.toList.drop (sIx a.size 0 lo)).take (sIx a.size a.size hi - sIx a.size 0 lo)).toArray):=by show ((a.toList.drop (sIx a.size 0 lo)).take (sIx a.size a.size hi - sIx a.size 0 lo)).toArray.size<=sizeLine;rw[j7,bAO,bBY,t8];lia
 have l:sIx a.size a.size hi<=a.size:=bA2 _ _ (j0 _) hi;obtain⟨j,f,g,i⟩:=id k;have c:s.TypeIs (.ref p) "slice":=⟨j,f,g⟩;unfold getItem
 try with_reducible refine bAS ?_
 first|refine c7 (d9 ?_)|skip
 refine c7 (wpAny_sequenceKey e.typeIs (by decide) ?_);refine c7 (bAH (name:=Str.ofString "__getitem__") e.typeIs bCL
  (bAE bCL e.typeIs entry_tuple_getitem ?_ (args_tuple_getitem _ _)))
 show wpAny _ _ (Builtin.Tuple.tupleItemsOf (.ref t) >>= _) _ _ s;refine c7 (tupleItemsOf_ e ?_);refine c7 (bEG c ?_);rw[if_pos (by decide)];refine c7 (oW k pl r ?_);have d:¬ ((((sIx a.size 0 lo:Nat):Int) == 0 && (1:Int) == 1 && (sIx a.size a.size hi - sIx a.size 0 lo) == a.size)=true):=by intro q;rw[bAT,bAT] at q;have n:((sIx a.size 0 lo:Nat):Int)=0:=eq_of_beq q.1.1;have o:sIx a.size a.size hi - sIx a.size 0 lo=a.size:=eq_of_beq q.2;exact u ⟨by lia,by lia⟩
 show wpAny _ _ (if (((sIx a.size 0 lo:Nat):Int) == 0 && (1:Int) == 1 && (sIx a.size a.size hi - sIx a.size 0 lo) == a.size)=true then _ else _) _ _ s;rw[if_neg d,aSx];first
  |exact c7 (m:=Builtin.Tuple.tupleExact _) (bAK (d9 ⟨_,rfl,d9 h⟩) b)
  |exact c7 (m:=Builtin.Tuple.tupleExact _) (bAK (c7 (d9 (d9 ⟨_,rfl,d9 h⟩))) b)
  |exact c7 (c7 (m:=Builtin.Tuple.tupleExact _) (bAK (d9 (d9 ⟨_,rfl,d9 h⟩)) b))
  |exact c7 (c7 (m:=Builtin.Tuple.tupleExact _) (bAK (d9 ⟨_,rfl,d9 h⟩) b))
end
end HT
namespace L2
open PySem PySem.Spec PyProof.Rows
abbrev TO:=St->Hp->(Option Int->Hp->Prop)->Prop
def PO (X:Cx)(e:Option Expr)(t:TO):Prop:=
 ∀(bFL:bFJ) (s:Shared) (σ:St) (H:Hp) (Q:Option Int->Hp->Prop),Inv X bFL σ H s->t σ H Q ->
  wpAny (model X.prog X.w) X.A (evalPart e X.env) (λu s'=>∃o H',Inv X bFL σ H' s'/\IsPart u o/\Q o H') X.xe s
def aPb:TO:=λ_ H Q=>Q none H
def aYf (t:TE):TO:=fun σ H Q=>t σ H λx H1=>∃i,x=.int i/\Q (some i) H1
section
variable {X:Cx}{e:Expr}{te:TE}{lo hi:Option Expr}{tl th:TO}{pos p2:Pos}
def aVd:PO X none aPb:=by intro a s σ H Q I h;rw[evalPart_none];exact d9 ⟨none,H,I,.none,h⟩
def aWx (h:PE X e te):PO X (some e) (aYf te):=by intro a s σ H Q I g;rw[evalPart_some];refine thn (h a s σ H _ I g) λu j ⟨x,d,f,b,c⟩=>?_;obtain⟨i,rfl,q⟩:=c;obtain⟨t,rfl⟩:=b;exact⟨some i,d,f,.int i t,q⟩
def SlR (X:Cx)(r:V->Option Int->Option Int->Hp->VK->Prop):Prop:=
 ∀(bFL:bFJ) (s:Shared) (σ:St) (H:Hp) (x:V) (v vl vu:Value) (lo hi:Option Int) (sl:Addr) (Q:VK),Inv X bFL σ H s->RelV x v->s.heap.IsSliceOf sl vl vu .none->IsPart vl lo->IsPart vu hi->r x lo hi H Q ->
  ∃T id,typeLookup (.type T) "__getitem__"=pure (some (.builtin id))/\s.TypeIs v T/\wpAny (model X.prog X.w) X.A (getItem v (.ref sl)) (EP X bFL σ Q) X.xe s
def tSl (r:V->Option Int->Option Int->Hp->VK->Prop)(te:TE)(tl th:TO):TE:=fun σ H Q=>te σ H λx H1=>tl σ H1 λl H2=>th σ H2 λu H3=>r x l u H3 Q
def aSs {r:V->Option Int->Option Int->Hp->VK->Prop}(N:SlR X r)(P:PE X e te)(M:PO X lo tl)(L:PO X hi th):PE X (.Subscript e (.Slice lo hi none p2) pos) (tSl r te tl th):=by intro a s σ H Q I h;refine Subscript_ (thn (P a s σ H _ I h) λv t ⟨x,F,G,j,B⟩=>?_);refine wpAny_Slice (thn (M a t σ F _ G B) λd C ⟨l,E,z,i,n⟩=>thn (L a C σ E _ z n) λf c ⟨u,g,m,J,D⟩=>?_);rw[evalPart_none];refine d9 ?_;have k:Inv X a σ g { c with heap:=c.heap.push { cls:=.type "slice",data:=.fields #[d,f,.none] } }:=m.kept (t':=c.toks) λb O q=>d8 _ q;obtain⟨T,K,p,o,y⟩:=N a { c with heap:=c.heap.push { cls:=.type "slice",data:=.fields #[d,f,.none] } } σ g x v d f l u c.heap.objs.size Q k j (Heap.IsSliceOf.new ..) i J D;show wpAny (model X.prog X.w) X.A (subscriptTail e (.Slice lo hi none p2) v (.ref c.heap.objs.size)) (EP X a σ Q) X.xe { c with heap:=c.heap.push { cls:=.type "slice",data:=.fields #[d,f,.none] } };exact tail_any (ops:=[.ref c.heap.objs.size,v]) o p y (by with_unfolding_all rfl)
def pB (xs:List V)(lo hi:Option Int):List V:=(xs.drop (HT.sIx xs.length 0 lo)).take (HT.sIx xs.length xs.length hi - HT.sIx xs.length 0 lo)
def zX (xs:List V)(lo hi:Option Int):(pB xs lo hi).length<=xs.length:=by unfold pB;rw[bAO,bBY];lia
def bDa (K:bFH):V->Option Int->Option Int->Hp->VK->Prop:=λx lo hi H Q=>∃a xs,x=.ref a/\SqT K H a xs /\
 ¬ (HT.sIx xs.length 0 lo=0/\HT.sIx xs.length xs.length hi=xs.length)/\∀p,H p=none->Q (.ref p) (upd H p (.tup (pB xs lo hi)))
def bA8:SlR X (bDa X.K):=by
 intro n s σ H x v w y e g A Q I m l k u h;obtain⟨a,d,rfl,p,t,q⟩:=h;cases m;obtain⟨f,r,i,j⟩:=I.tuple p;have c:f.toArray.size=d.length:=by rw[j7];exact r.length.symm
 refine⟨"tuple",_,PyProof.Rows.slot_tuple_getitem.lookup,i.typeIs,?_⟩;refine HT.xG i l k u (by rw[c];exact t) ?_ (by rw[c];exact j);rw[c];refine⟨.ref s.heap.objs.size,_,I.laid (t':=s.toks) (o:=.tup (pB d e g)) (λb z q=>d8 _ q) (j0 _) ?_,rfl,q _ (I.hok.fresh (j0 _))⟩;exact⟨bAM (zX d e g) j,_,(r.drop (HT.sIx d.length 0 e)).take (HT.sIx d.length d.length g - HT.sIx d.length 0 e),aAg.new _ _⟩
def bCl (K:bFH):R2:=λx y H Q=>∃a b xs ys,x=.ref a/\y=.ref b/\SqT K H a xs/\SqT K H b ys/\xs≠[]/\xs.length+ys.length<=sizeLine /\
 (ys=[]->Q (.ref a) H)/\(ys≠[]->∀p,H p=none->Q (.ref p) (upd H p (.tup (xs++ys))))
theorem Vals.aGf {xs:List V}{us:List Value}(r:Vals xs us):us=[]↔xs=[]:=by
 cases r with
 |nil=>simp
 |cons _ _=>simp
def aV7:OpR X (binaryOp .Add) (bCl X.K):=by intro k s σ H x y v u Q I i C h;obtain⟨a,b,r,t,rfl,rfl,l,A,B,f,p,j⟩:=h;cases i;cases C;obtain⟨g,d,m,_⟩:=I.tuple l;obtain⟨e,c,n,_⟩:=I.tuple A;refine HT.aVo m n (λz=>B (d.aGf.mp z)) (λz=>⟨.ref a,H,I,rfl,p (c.aGf.mp z)⟩) (λz=>?_) (by rw[<-d.length,<-c.length];exact f);refine⟨.ref s.heap.objs.size,_,I.laid (t':=s.toks) (o:=.tup (r++t)) (λb D q=>d8 _ q) (j0 _) ?_,rfl,j (λw=>z (c.aGf.mpr w)) _ (I.hok.fresh (j0 _))⟩;exact⟨by rw[bAB];exact f,_,d.append c,aAg.new _ _⟩
end
def ixN (n:Nat)(i:Int):Option Nat:=if 0<=i then (if i<n then some i.toNat else none) else if -(n:Int)<=i then some (i+n).toNat else none
def atI {α:Type}(xs:List α)(i:Int):Option α:=(ixN xs.length i).bind λj=>xs[j]?
def aOv {n:Nat}{i:Int}{j:Nat}(h:ixN n i=some j):seqIndex? i n=some j/\j<n/\-(n:Int)<=i/\i<n:=by
 unfold ixN at h;by_cases b:0<=i
 ·rw[if_pos b] at h;by_cases a:i<n
  ·rw[if_pos a] at h;have e:i.toNat=j:=bAP h;exact⟨by rw[seqIndex_of b a,e],by lia,by lia,a⟩
  ·rw[if_neg a] at h;cases h
 ·rw[if_neg b] at h;by_cases a:-(n:Int)<=i
  ·rw[if_pos a] at h;have e:(i+n).toNat=j:=bAP h;exact⟨by rw[seqIndex_neg (by lia) a,e],by lia,a,by lia⟩
  ·rw[if_neg a] at h;cases h
theorem aPd {α:Type}{xs:List α}{i:Int}{v:α}(h:atI xs i=some v):∃j,seqIndex? i xs.length=some j/\xs[j]?=some v/\j<xs.length/\-(xs.length:Int)<=i/\i<xs.length:=by
 unfold atI at h;cases e:ixN xs.length i with
 |none=>rw[e] at h;cases h
 |some j=>rw[e] at h;obtain⟨a,b,c,d⟩:=aOv e;exact⟨j,a,h,b,c,d⟩
def bV {α:Type}{xs:List α}{j:Nat}{v:α}(h:xs[j]?=some v):atI xs (j:Int)=some v:=by
 have a:j<xs.length:=(List.getElem?_eq_some_iff.mp h).1;have e:ixN xs.length (j:Int)=some j:=by unfold ixN;rw[if_pos (by lia),if_pos (by lia)];simp
 unfold atI;rw[e];exact h
def aPe (b:Expr):Prop:=∀o i,subscripted b false o i=operate [o,i] (getItem o i)
def IxR (X:Cx)(r:R2):Prop:=
 ∀(value slice:Expr) (bFL:bFJ) (s:Shared) (σ:St) (H:Hp) (x y:V) (v u:Value) (Q:VK),Inv X bFL σ H s->RelV x v->RelV y u->r x y H Q ->
  subscripted slice false v u=operate [v,u] (getItem v u)->wpAny (model X.prog X.w) X.A (subscriptTail value slice v u) (EP X bFL σ Q) X.xe s
def MtR (X:Cx)(id:String)(r:V->List V->Hp->VK->Prop):Prop:=
 ∀(bFL:bFJ) (s:Shared) (σ:St) (H:Hp) (x:V) (xs:List V) (v:Value) (us:List Value) (Q:VK),Inv X bFL σ H s->RelV x v->Vals xs us->r x xs H Q ->
  wpAny (model X.prog X.w) X.A (call (.builtin id) (v::us)) (EP X bFL σ Q) X.xe s
section
variable {X:Cx}{a b:Expr}{ta tb:TE}{pos:Pos}
def bCu {r:R2}(j:IxR X r)(l:PE X a ta)(m:PE X b tb)(k:aPe b):PE X (.Subscript a b pos) (tOp r ta tb):=by intro c s σ H Q I h;exact Subscript_ (aXc l m I h λv u i x y f d e g q=>j a b c i σ f x y v u Q d e g q (k _ _))
def bDf (K:bFH):R2:=λx y H Q=>∃p xs i v,x=.ref p/\y=.int i/\SqL K H p xs/\atI xs i=some v/\Q v H
def bCm (K:bFH):R2:=λx y H Q=>∃p xs i v,x=.ref p/\y=.int i/\SqT K H p xs/\atI xs i=some v/\Q v H
def bK:IxR X (bDf X.K):=by
 intro l f a s σ H x y v u Q I B A h n;obtain⟨p,P,i,z,rfl,rfl,C,G,q⟩:=h;cases B;obtain⟨t,rfl⟩:=A;obtain⟨g,r,e,N⟩:=I.list C;obtain⟨j,c,F,M,E,D⟩:=aPd G;obtain⟨w,m,k⟩:=r.get F;have J:=r.length;have O:=zO;have b:EP X a σ Q w s:=⟨z,H,I,k,q⟩;by_cases o:0<=i
 ·have d:i.toNat=j:=by rw[seqIndex_of o D] at c;exact bAP c
  exact item_listR e.isList o (by lia) (by rw[d];simpa using m) b n
 ·have d:(i+(g.toArray.size:Int)).toNat=j:=by rw[seqIndex_neg (by lia) E] at c;rw[j7,<-J];exact bAP c
  exact subscriptTail_builtinR (x:=w) e.isList.typeIs slot_list_getitem.lookup
   (wpAny_getItem_list_neg (Q:=λr L=>r=w/\EP X a σ Q r L) e.isList (by lia) (by rw[j7] <;> lia) (by lia) (by rw[d];simpa using m) ⟨rfl,b⟩) n
def aX:IxR X (bCm X.K):=by
 intro e b a s σ H x y v u Q I m g h B;obtain⟨p,N,i,z,rfl,rfl,o,C,q⟩:=h;cases m;obtain⟨t,rfl⟩:=g;obtain⟨l,r,f,G⟩:=I.tuple o;obtain⟨j,n,A,F,M,L⟩:=aPd C;obtain⟨w,k,c⟩:=r.get A;have D:=r.length;have J:=zO;have d:EP X a σ Q w s:=⟨z,H,I,c,q⟩;exact subscriptTail_builtinR (x:=w) f.typeIs slot_tuple_getitem.lookup
  (getItem_tuple (j:=j) (Q:=λr E=>r=w/\EP X a σ Q r E) f (by lia) (by lia) (by rw[j7,<-D];exact n) (by simpa using k) ⟨rfl,d⟩) B
def aLy (its:List Value)(n j:Nat)(u:Value):Obj.mapSeq (·.setIfInBounds j u) { cls:=.type "list",data:=.seq its.toArray n }={ cls:=.type "list",data:=.seq (its.set j u).toArray n }:=by simp[Obj.mapSeq]
theorem Inv.lst {bFL:bFJ}{σ:St}{H:Hp}{s:Shared}{p:Addr}{xs:List V}(I:Inv X bFL σ H s)(h:H p=some (.lst xs)) :
  ∃(its:List Value) (n:Nat),Vals xs its/\s.heap.get? p=some { cls:=.type "list",data:=.seq its.toArray n }/\xs.length<=sizeLine:=by
 obtain⟨z,its,n,r,e⟩:=I.hok p _ h;exact⟨its,n,r,e,z⟩
def Inv.aYy {bFL:bFJ}{σ:St}{H:Hp}{s:Shared}{p:Addr}{xs ys:List V}{its its':List Value}{n d:Nat}{f:Obj->Obj}(I:Inv X bFL σ H s)(h:H p=some (.lst xs))
  (g:s.heap.get? p=some { cls:=.type "list",data:=.seq its.toArray n }) (c:f { cls:=.type "list",data:=.seq its.toArray n }={ cls:=.type "list",data:=.seq its'.toArray d }) (r:Vals ys its') (hz:ys.length<=sizeLine) (t:Nat) :
  Inv X bFL σ (upd H p (.lst ys)) { s with heap:=s.heap.update p f,toks:=t }:=by
 have e:(s.heap.update p f).get? p=some { cls:=.type "list",data:=.seq its'.toArray d }:=by rw[bBG f g (by rw[c] <;> rfl),c]
 refine I.write (x:=p) (e:=p) (by rw[h];trivial) (.inl rfl) (λb u a q=>(bDM _ _ (Ne.symm a)).trans q) ⟨_,e⟩ ?_;exact⟨hz,its',d,r,e⟩
def bCk:V->V->V->Hp->(Hp->Prop)->Prop:=λo i v H Q=>∃p xs k j,o=.ref p/\i=.int k/\H p=some (.lst xs)/\ixN xs.length k=some j/\Q (upd H p (.lst (xs.set j v)))
def set_list:bAw X bCk:=by
 intro d s σ H o i v G F u Q I C A B h;obtain⟨p,D,k,j,rfl,rfl,x,y,q⟩:=h;cases C;obtain⟨t,rfl⟩:=A;obtain⟨a,n,r,c,z⟩:=I.lst x;obtain⟨b,J,g,l⟩:=aOv y;have f:=r.length;have E:=zO;have w:Inv X d σ (upd H p (.lst (D.set j v))) { s with heap:=s.heap.update p (Obj.mapSeq (·.setIfInBounds j u)) }:=
  I.aYy x c (aLy a n j u) (r.set B j) (by rw[List.length_set];exact z) s.toks
 by_cases m:0<=k
 ·have e:k.toNat=j:=by rw[seqIndex_of m l] at b;exact bAP b
  exact PySem.W.ki_setAt c m (by lia) (by rw[j7,<-f];exact l) (by rw[e];exact⟨_,w,q⟩)
 ·have e:(k+(a.toArray.size:Int)).toNat=j:=by rw[seqIndex_neg (by lia) g] at b;rw[j7,<-f];exact bAP b
  exact PySem.W.ki_setBack c (by lia) (by rw[j7,<-f];exact g) (by lia) (by rw[e];exact⟨_,w,q⟩)
def aGn (lo hi:Option Int)(n:Nat):(sliceBounds lo hi none n).1=((HT.sIx n 0 lo:Nat):Int)/\(sliceBounds lo hi none n).2.1=((HT.sIx n n hi:Nat):Int)/\(sliceBounds lo hi none n).2.2=1:=by
 refine⟨?_,?_,rfl⟩
 ·cases lo with
  |none=>simp[sliceBounds,HT.sIx]
  |some i=>
   simp only[sliceBounds,HT.sIx,Option.getD_none,show (1:Int) > 0 by decide,if_true];by_cases h:i<0
   ·simp only[h,if_true] <;> lia
   ·simp only[h,if_false] <;> lia
 ·cases hi with
  |none=>simp[sliceBounds,HT.sIx]
  |some i=>
   simp only[sliceBounds,HT.sIx,Option.getD_none,show (1:Int) > 0 by decide,if_true];by_cases h:i<0
   ·simp only[h,if_true] <;> lia
   ·simp only[h,if_false] <;> lia
def aDw (its:List Value)(lo hi:Option Int):slicePick its.toArray lo hi none=((its.drop (HT.sIx its.length 0 lo)).take (HT.sIx its.length its.length hi - HT.sIx its.length 0 lo)).toArray:=by obtain⟨a,b,c⟩:=aGn lo hi its.toArray.size;unfold slicePick;rw[a,b,c];simp only[sliceRange_one,pick_run,j7] <;> rfl
def bC8 (K:bFH):V->Option Int->Option Int->Hp->VK->Prop:=λx lo hi H Q=>∃a xs,x=.ref a/\SqL K H a xs/\∀p,H p=none->Q (.ref p) (upd H p (.lst (pB xs lo hi)))
def aWy:SlR X (bC8 X.K):=by intro n s σ H x v u w e f z Q I l j i t h;obtain⟨a,c,rfl,p,q⟩:=h;cases l;obtain⟨k,r,g,m⟩:=I.list p;have d:=r.length;refine⟨"list",_,slot_list_getitem.lookup,g.isList.typeIs,?_⟩;refine wpAny_getItem_list_slice g.isList j i t .none (by simp) ?_ (by rw[j7] <;> lia);rw[aDw,<-d];refine⟨.ref s.heap.objs.size,_,I.laid (t':=s.toks) (o:=.lst (pB c e f)) (λb y q=>d8 _ q) (j0 _) ?_,rfl,q _ (I.hok.fresh (j0 _))⟩;exact⟨bAM (zX c e f) m,_,0,(r.drop (HT.sIx c.length 0 e)).take (HT.sIx c.length c.length f - HT.sIx c.length 0 e),j5 _ rfl⟩
def lE:V->Bool
 |.non=>true
 |.bl _=>true
 |.int _=>true
 |.str _=>true
 |_=>false
def eqV:V->V->Bool
 |.non,.non=>true
 |.bl a,.bl b=>a == b
 |.bl a,.int b=>(if a then 1 else 0) == b
 |.int a,.bl b=>a == (if b then 1 else 0)
 |.int a,.int b=>a == b
 |.str a,.str b=>a == b
 |_,_=>false
theorem aUs {A:Around}{s:Shared}{y x:V}{u v:Value}(f:RelV y u)(c:RelV x v)(g:lE y=true)(e:lE x=true):SeqAt.EqAt A s u v (eqV y x):=by
 cases y with
 |non=>
  cases f;cases x with
  |non=>cases c;exact bD4 _
  |bl b=>cases c;exact SeqAt.EqAt.none_bool b
  |int b=>obtain⟨t,rfl⟩:=c;exact SeqAt.EqAt.none_int b t
  |str b=>obtain⟨t,rfl⟩:=c;exact SeqAt.EqAt.none_str b t
  |_=>exact absurd (show false=true from e) v4
 |bl a=>
  cases f;cases x with
  |non=>cases c;exact SeqAt.EqAt.bool_none a
  |bl b=>cases c;exact SeqAt.EqAt.bool_bool a b
  |int b=>obtain⟨t,rfl⟩:=c;exact SeqAt.EqAt.bool_int a b t
  |str b=>obtain⟨t,rfl⟩:=c;exact SeqAt.EqAt.bool_str a b t
  |_=>exact absurd (show false=true from e) v4
 |int a=>
  obtain⟨d,rfl⟩:=f;cases x with
  |non=>cases c;exact SeqAt.EqAt.int_none a d
  |bl b=>cases c;exact SeqAt.EqAt.int_bool a d b
  |int b=>obtain⟨t,rfl⟩:=c;exact bD9 a d b t
  |str b=>obtain⟨t,rfl⟩:=c;exact SeqAt.EqAt.int_str a d b t
  |_=>exact absurd (show false=true from e) v4
 |str a=>
  obtain⟨d,rfl⟩:=f;cases x with
  |non=>cases c;exact SeqAt.EqAt.str_none a d
  |bl b=>cases c;exact SeqAt.EqAt.str_bool a d b
  |int b=>obtain⟨t,rfl⟩:=c;exact SeqAt.EqAt.str_int a d b t
  |str b=>obtain⟨t,rfl⟩:=c;exact bDN a d b t
  |_=>exact absurd (show false=true from e) v4
 |_=>exact absurd (show false=true from g) v4
def eqU (x:V)(u:Value):Bool:=match u with
 |.none=>eqV .non x
 |.bool b=>eqV (.bl b) x
 |.int i _=>eqV (.int i) x
 |.str z _=>eqV (.str z) x
 |_=>false
theorem aSf {x y:V}{u:Value}(r:RelV y u)(f:lE y=true):eqU x u=eqV y x:=by
 cases y with
 |non=>cases r;rfl
 |bl b=>cases r;rfl
 |int i=>obtain⟨t,rfl⟩:=r;rfl
 |str z=>obtain⟨t,rfl⟩:=r;rfl
 |_=>exact absurd (show false=true from f) v4
theorem wF {x:V}:∀{xs:List V} {us:List Value},Vals xs us->xs.all lE=true->us.any (eqU x)=xs.any λy=>eqV y x
 |_,_,.nil,_=>rfl
 |y::xs,u::us,.cons r t,f=>by rw[List.all_cons,bAT] at f;rw[bEW,bEW,aSf r f.1,wF t f.2]
theorem rD {A:Around}{s:Shared}{x:V}{v:Value}(a:RelV x v)(b:lE x=true):∀{xs:List V} {us:List Value},Vals xs us->xs.all lE=true->∀u∈us,SeqAt.EqAt A s u v (eqU x u)
 |_,_,.nil,_=>λu hu=>by cases hu
 |y::xs,u::us,.cons r t,f=>λc hu=>by
  rw[List.all_cons,bAT] at f;rcases List.mem_cons.mp hu with rfl|hu
  ·rw[aSf r f.1];exact aUs r a f.1 b
  ·exact rD a b t f.2 c hu
def inV (x:V)(xs:List V):Bool:=xs.any λy=>eqV y x
def rIn (K:bFH)(neg:Bool):R2:=λx y H Q=>∃p xs,y=.ref p/\(SqL K H p xs\/SqT K H p xs)/\lE x=true/\xs.all lE=true/\Q (.bl (if neg then !inV x xs else inV x xs)) H
def zE:OpR X (compareOp .In) (rIn X.K false):=by
 intro i s σ H x y v u Q I f j h;obtain⟨p,k,rfl,hq,e,b,q⟩:=h;cases j;rcases hq with hq|hq
 ·obtain⟨a,r,c,g⟩:=I.list hq;refine SeqAt.in_listAt (eqU x) c.isList (λw d=>rD f e r b w (by simpa using d)) ⟨.bl _,H,I,rfl,?_⟩;rw[show a.toArray.any (eqU x)=a.any (eqU x) by simp,wF r b];exact q
 ·obtain⟨a,r,c,g⟩:=I.tuple hq;refine SeqAt.in_tupleAt (eqU x) c (λw d=>rD f e r b w (by simpa using d)) ⟨.bl _,H,I,rfl,?_⟩;rw[show a.toArray.any (eqU x)=a.any (eqU x) by simp,wF r b];exact q
def aH3:OpR X (compareOp .NotIn) (rIn X.K true):=by
 intro i s σ H x y v u Q I f j h;obtain⟨p,k,rfl,hq,e,b,q⟩:=h;cases j;rcases hq with hq|hq
 ·obtain⟨a,r,c,g⟩:=I.list hq;refine SeqAt.notIn_listAt (eqU x) c.isList (λw d=>rD f e r b w (by simpa using d)) ⟨.bl _,H,I,rfl,?_⟩;rw[show a.toArray.any (eqU x)=a.any (eqU x) by simp,wF r b];exact q
 ·obtain⟨a,r,c,g⟩:=I.tuple hq;refine SeqAt.notIn_tupleAt (eqU x) c (λw d=>rD f e r b w (by simpa using d)) ⟨.bl _,H,I,rfl,?_⟩;rw[show a.toArray.any (eqU x)=a.any (eqU x) by simp,wF r b];exact q
def bB:cO X (.builtin "len") (λxs H Q=>∃p ys,xs=[.ref p]/\(SqL X.K H p ys\/SqT X.K H p ys)/\Q (.int ys.length) H):=by
 intro g s σ H xs j Q I r h;obtain⟨p,ys,rfl,hq,q⟩:=h;obtain⟨u,rfl,e⟩:=vals1 r;cases e;have i:=zO;rcases hq with hq|hq
 ·obtain⟨c,d,b,f⟩:=I.list hq;have a:=d.length;exact Calls.call_len_list b.isList (by simp only[j7] <;> lia) ⟨.int ys.length,H,I.tok _,⟨s.toks+1,by rw[j7,a]⟩,q⟩
 ·obtain⟨c,d,b,f⟩:=I.tuple hq;have a:=d.length;exact len_tuple b (by simp only[j7] <;> lia) ⟨.int ys.length,H,I.tok _,⟨s.toks+1,by rw[j7,a]⟩,q⟩
def wH:cO X (.builtin "len") (λxs H Q=>∃z,xs=[.str z]/\z.length<=sizeLine/\Q (.int z.length) H):=by intro a s σ H xs c Q I r h;obtain⟨z,rfl,b,q⟩:=h;obtain⟨u,rfl,t,rfl⟩:=vals1 r;have d:=zO;exact len_str (by lia) ⟨.int z.length,H,I.tok _,⟨_,rfl⟩,q⟩
def cO.or {f:Value}{r r':List V->Hp->VK->Prop}(h:cO X f r)(h':cO X f r'):cO X f (λxs H Q=>r xs H Q\/r' xs H Q):=by
 intro a s σ H xs c Q I b q;rcases q with q|q
 ·exact h a s σ H xs c Q I b q
 ·exact h' a s σ H xs c Q I b q
def aG8:cO X (.type "list") (λxs H Q=>∃p ys,xs=[.ref p]/\(SqL X.K H p ys\/SqT X.K H p ys)/\∀l,H l=none->Q (.ref l) (upd H l (.lst ys))):=by
 intro v s σ H xs z Q I r h;obtain⟨p,ys,rfl,hq,q⟩:=h;obtain⟨u,rfl,y⟩:=vals1 r;cases y;have j:∀(a:List Value),Vals ys a->ys.length<=sizeLine->∀(c:Heap) (f:Nat),(∀b o',s.heap.get? b=some o'->c.get? b=some o') ->
   c.get? s.heap.objs.size=some { cls:=.type "list",dict:=none,data:=.seq a.toArray f,slots:=#[] }->EP X v σ Q (.ref s.heap.objs.size) { s with heap:=c }:=λa d i c f g e=>
  ⟨.ref s.heap.objs.size,_,I.laid (t':=s.toks) g (j0 _) (show dH X.prog X.w _ c _ (.lst ys) from ⟨i,a,f,d,e⟩),rfl,q _ (I.hok.fresh (j0 _))⟩
 rcases hq with hq|hq
 ·obtain⟨a,d,m,i⟩:=I.list hq;have k:=d.length;obtain⟨o,t,x,n,hd⟩:=m.isList;exact call_list_seq p (.inl rfl) t x hd (λc f g e=>j a d i c f g e) (by simp only[j7] <;> lia)
 ·obtain⟨a,d,m,i⟩:=I.tuple hq;have k:=d.length;obtain⟨o,t,x,n,hd⟩:=m;exact call_list_seq p (.inr rfl) t x hd (λc f g e=>j a d i c f g e) (by simp only[j7] <;> lia)
def aDz:cO X (.type "tuple") (λxs H Q=>∃p ys,xs=[.ref p]/\((SqL X.K H p ys/\∀l,H l=none->Q (.ref l) (upd H l (.tup ys)))\/(SqT X.K H p ys/\Q (.ref p) H))):=by
 intro c s σ H xs x Q I r h;obtain⟨p,ys,rfl,h⟩:=h;obtain⟨u,rfl,v⟩:=vals1 r;cases v;rcases h with⟨i,q⟩|⟨i,q⟩
 ·obtain⟨a,g,f,j⟩:=I.list i;have m:=g.length;refine call_tuple_list f.isList (λd t=>?_) (by simp only[j7] <;> lia);have k:Inv X c σ H { s with heap:=d }:=I.kept (t':=s.toks) t;have n:Inv X c σ (upd H d.objs.size (.tup ys)) { s with heap:=d.push { cls:=.type "tuple",data:=.seq a.toArray } }:=
   k.laid (t':=s.toks) (λb o e=>d8 _ e) (j0 _) (show dH X.prog X.w _ _ _ (.tup ys) from ⟨j,a,g,aAg.new _ _⟩)
  exact⟨.ref d.objs.size,_,n,rfl,q _ (k.hok.fresh (j0 _))⟩
 ·obtain⟨a,g,f,j⟩:=I.tuple i;exact call_tuple_same f ⟨.ref p,H,I,rfl,q⟩
def tyV (K:bFH)(T:String)(x:V)(H:Hp):Prop:=match x with
 |.str _=>T = "str"
 |.int _=>T = "int"
 |.ref p=>(T = "list"/\∃xs,SqL K H p xs)\/(T = "tuple"/\∃o,K.lookup p=some o/\o.cls=.type "tuple"/\o.dict=none) \/
   (T = "dict"/\((∃kvs,H p=some (.dK kvs))\/∃kvs,H p=some (.dT kvs)))\/(T = "set"/\∃S n,H p=some (.set S n))
 |_=>False
theorem aL5 {bFL:bFJ}{σ:St}{H:Hp}{s:Shared}{T:String}{x:V}{v:Value}(I:Inv X bFL σ H s)(r:RelV x v)(h:tyV X.K T x H) :
  s.TypeIs v T/\∀a,v=.ref a->∃ob,s.heap.get? a=some ob/\ob.dict=none:=by
 cases x with
 |str z=>obtain⟨t,rfl⟩:=r;cases (show T = "str" from h);exact⟨typeIs_str s z t,λ_ e=>nomatch e⟩
 |int i=>obtain⟨t,rfl⟩:=r;cases (show T = "int" from h);exact⟨typeIs_int s i t,λ_ e=>nomatch e⟩
 |ref p=>
  cases r;rcases h with⟨rfl,m,l⟩|⟨rfl,o,b,hc,hd⟩|⟨rfl,b⟩|⟨rfl,S,n,b⟩
  ·obtain⟨k,_,j,_⟩:=I.list l;refine⟨j.isList.typeIs,λa e=>?_⟩;cases e;obtain⟨o,n,e,c,hd,_⟩:=j;exact⟨o,e,hd⟩
  ·refine⟨⟨o,I.kIn p o b,hc⟩,λa e=>?_⟩;cases e;exact⟨o,I.kIn _ o b,hd⟩
  ·have z:∃o,s.heap.get? p=some o/\o.ExactDict:=by
    rcases b with⟨f,b⟩|⟨f,b⟩
    ·obtain⟨_,_,_,_,o,_,_,e,d,_⟩:=I.hok p _ b;exact⟨o,e,d⟩
    ·obtain⟨_,_,_,_,o,_,_,e,d,_⟩:=I.hok p _ b;exact⟨o,e,d⟩
   obtain⟨o,e,d⟩:=z;refine⟨⟨o,e,d.1⟩,λa g=>?_⟩;cases g;exact⟨o,e,d.2.1⟩
  ·obtain⟨o,_,_,_,e,d,_⟩:=I.hok p _ b;refine⟨⟨o,e,d.1⟩,λa g=>?_⟩;cases g;exact⟨o,e,d.2.1⟩
 |_=>exact False.elim h
def bCd (K:bFH)(T:String)(r:V->List V->Hp->VK->Prop)(to:TE):TE:=fun σ H Q=>to σ H λx H1=>tyV K T x H1/\r x [] H1 Q
def tBM (K:bFH)(T:String)(r:V->List V->Hp->VK->Prop)(to:TE)(t:TA):TE:=fun σ H Q=>to σ H λx H1=>tyV K T x H1/\t σ H1 λxs H2=>r x xs H2 Q
variable {o e:Expr}{es:List Expr}{to:TE}{t:TA}{name:Str}{apos cpos:Pos}{T id:String}{r:V->List V->Hp->VK->Prop}
def bA9 (q:PlainAttrs T)(slot:Slot T name id)(i:typeOf (.builtin id)=pure (.type "method_descriptor"))(p:MtR X id r)(n:PE X o to)
  (b:attributeBase o name X.env (eval o X.env)=eval o X.env:=by rfl) (c:(apos.endLine == cpos.line)=true:=by rfl):PE X (.Call (.Attribute o name apos) [] [] cpos) (bCd X.K T r to):=by
 intro a s σ H Q I h;refine wpAny_Call_method0_late b c (thn (n a s σ H _ I h) λv k ⟨x,l,e,d,m,g⟩=>?_);obtain⟨j,f⟩:=aL5 e d m;exact⟨T,id,q,slot,i,j,f,bDO rfl (PySem.evalArgs_none (p a k σ l x [] v [] Q e d .nil g))⟩
def bCv (L:PlainAttrs T)(slot:Slot T name id)(p:typeOf (.builtin id)=pure (.type "method_descriptor"))(J:MtR X id r)(F:PE X o to)(G:PA X (e::es) t)
  (c:attributeBase o name X.env (eval o X.env)=eval o X.env:=by rfl)
  (g:((backTo cpos (starEach (e::es) X.env)).all (λx=>!x.1) && (backToKw cpos (keywordEach [] X.env)).all (λx=>x.1.isSome)
   && decide ((e::es).length+([]:List Keyword).length+(if ([]:List Keyword).isEmpty then 0 else 1)<30))=true:=by rfl)
  (d:(apos.endLine == cpos.line)=true:=by rfl) (E:starEach (e::es) X.env=(false,eval e X.env)::starEach es X.env:=by rfl) (b:(backTo cpos (starEach es X.env)).any (·.1)=false:=by rfl) :
  PE X (.Call (.Attribute o name apos) (e::es) [] cpos) (tBM X.K T r to t):=by
 intro a s σ H Q I h;refine wpAny_Call_method_late c g d rfl (thn (F a s σ H _ I h) λv y ⟨x,z,j,f,D,n⟩=>?_);obtain⟨u,l⟩:=aL5 j f D;refine⟨T,id,L,slot,p,u,l,?_⟩;have i:=G cpos a y σ z _ j n;rw[E] at i ⊢;refine bDO (by show (false || (backTo cpos (starEach es X.env)).any (·.1))=false;rw[b] <;> rfl) (bEY ?_);exact thn i λA C ⟨m,w,k,B,q⟩=>J a C σ w x m v A Q k f B q
end
def MtM (X:Cx)(id:String)(r:V->List V->Hp->VK->Prop):Prop:=
 ∀(bFL:bFJ) (s:Shared) (σ:St) (H:Hp) (x:V) (xs:List V) (v:Value) (us:List Value) (Q:VK),Inv X bFL σ H s->RelV x v->Vals xs us->r x xs H Q ->
  wpAny (model X.prog X.w) X.A (call (.builtin id) (v::us)) (EP X bFL σ Q) X.xe s
theorem Vals.one:∀{x:V} {us:List Value},Vals [x] us->∃u,us=[u]/\RelV x u
 |_,_,.cons r .nil=>⟨_,rfl,r⟩
theorem Vals.two:∀{x y:V} {us:List Value},Vals [x,y] us->∃u v,us=[u,v]/\RelV x u/\RelV y v
 |_,_,_,.cons r (.cons q .nil)=>⟨_,_,rfl,r,q⟩
theorem Vals.zero:∀{us:List Value},Vals [] us->us=[]
 |_,.nil=>rfl
theorem Vals.eraseIdx:∀{xs:List V} {us:List Value} (i:Nat),Vals xs us->Vals (xs.eraseIdx i) (us.eraseIdx i)
 |_,_,_,.nil=>.nil
 |_,_,0,.cons _ t=>t
 |_,_,i+1,.cons r t=>.cons r (Vals.eraseIdx i t)
theorem Vals.reverse {xs:List V}{us:List Value}(h:Vals xs us):Vals xs.reverse us.reverse:=by
 induction h with
 |nil=>exact .nil
 |cons r t ih=>rw[List.reverse_cons,List.reverse_cons];exact Vals.append ih (.cons r .nil)
theorem aEb {α:Type}:∀(l:List α) (i:Nat),(l.eraseIdx i).length<=l.length
 |[],_=>j0 _
 |_::_,0=>bDU _
 |_::r,i+1=>Nat.succ_le_succ (aEb r i)
section
variable {X:Cx}{bFL:bFJ}{σ:St}{H:Hp}{s:Shared}{l b:Addr}{xs ys zs:List V}
def Inv.lset {its its':List Value}{n:Nat}{f:Array Value->Array Value}{t':Nat}(I:Inv X bFL σ H s)(c:H l=some (.lst xs))
  (e:s.heap.get? l=some { cls:=.type "list",data:=.seq its.toArray n }) (d:f its.toArray=its'.toArray) (h:Vals ys its') (hz:ys.length<=sizeLine) :
  Inv X bFL σ (upd H l (.lst ys)) { s with heap:=s.heap.update l (Obj.mapSeq f),toks:=t' }:=by
 have q:=PySem.IsL.update e f;rw[d] at q;refine I.write (x:=l) (e:=l) (by rw[c];exact trivial) (.inl rfl) (λg u b a=>(bDM s.heap (Obj.mapSeq f) (Ne.symm b)).trans a) ⟨_,q⟩ ?_;exact⟨hz,its',_,h,q⟩
def Inv.lnew {its:List Value}{t':Nat}(I:Inv X bFL σ H s)(a:Vals ys its)(hz:ys.length<=sizeLine) :
  Inv X bFL σ (upd H s.heap.objs.size (.lst ys)) { s with heap:=s.heap.push { cls:=.type "list",data:=.seq its.toArray },toks:=t' }:=
 I.laid (λ_ _ q=>d8 _ q) (j0 _) ⟨hz,its,0,a,j5 _ rfl⟩
theorem Inv.fresh (I:Inv X bFL σ H s):H s.heap.objs.size=none:=I.hok.fresh (j0 _)
def Inv.aQw (I:Inv X bFL σ H s)(a:H l=some (.lst xs)):xs.length<=sizeLine/\∃(its:List Value) (n:Nat),Vals xs its/\xs.length=its.length/\s.heap.get? l=some { cls:=.type "list",data:=.seq its.toArray n }:=by obtain⟨z,its,n,r,e⟩:=I.hok l _ a;exact⟨z,its,n,r,r.length,e⟩
end
section
variable {X:Cx}
def aPp:V->List V->Hp->VK->Prop:=λx vs H Q=>∃l xs y,x=.ref l/\vs=[y]/\H l=some (.lst xs)/\xs.length<sizeLine/\Q .non (upd H l (.lst (xs++[y])))
def xZ:MtM X "list.append" aPp:=by intro f s σ H x i v m Q I d c h;obtain⟨l,j,y,rfl,rfl,b,k,q⟩:=h;cases d;obtain⟨u,rfl,g⟩:=c.one;obtain⟨z,a,n,r,o,e⟩:=I.aQw b;refine call_meets F.slot_list_append ⟨_,e,rfl⟩ F.entry_list_append (F.args_list_append_2 _ _) (PySem.list_append l a.toArray n u (by rw[j7];lia)) ⟨e,?_⟩;refine⟨.non,_,I.lset (its':=a++[u]) b e (by simp) (r.append (.cons g .nil)) ?_,rfl,q⟩;rw[bAB,bER];lia
def aU7:V->List V->Hp->VK->Prop:=λx vs H Q=>∃l xs i k y,x=.ref l/\vs=[.int i]/\H l=some (.lst xs)/\-(2 ^ 63)<=i/\i<2 ^ 63/\seqIndex? i xs.length=some k/\xs[k]?=some y/\Q y (upd H l (.lst (xs.eraseIdx k)))
def aVb:MtM X "list.pop" aU7:=by
 intro g s σ H x E v G Q I d A h;obtain⟨l,B,i,k,y,rfl,rfl,c,f,p,m,j,q⟩:=h;cases d;obtain⟨u,rfl,C⟩:=A.one;obtain⟨t,rfl⟩:=C;obtain⟨z,a,n,r,D,e⟩:=I.aQw c;obtain⟨w,o,b⟩:=r.get j;refine call_meets F.slot_list_pop ⟨_,e,rfl⟩ F.entry_list_pop (F.args_list_pop_2 _ _)
  (MeetsSeq.list_pop_at l a.toArray n i t k w (fitsIndex_both f p) (by rw[j7,<-D];exact m) (by rw[<-bBQ];exact o) (by rw[j7];lia)) ⟨e,?_⟩
 refine⟨y,_,I.lset (its':=a.eraseIdx k) c e ?_ (r.eraseIdx k) ?_,b,q⟩
 ·show a.toArray.eraseIdxIfInBounds k=(a.eraseIdx k).toArray;rw[bEQ]
 ·have:=aEb B k;lia
def aKj:V->List V->Hp->VK->Prop:=λx vs H Q=>∃l xs,x=.ref l/\vs=[]/\H l=some (.lst xs)/\Q .non (upd H l (.lst xs.reverse))
def aNw:MtM X "list.reverse" aKj:=by intro g s σ H x i v k Q I f d h;obtain⟨l,j,rfl,rfl,c,q⟩:=h;cases f;have b:=d.zero;subst b;obtain⟨z,a,n,r,m,e⟩:=I.aQw c;refine call_meets F.slot_list_reverse ⟨_,e,rfl⟩ F.entry_list_reverse (F.args_list_reverse_1 _) (AutoSeq1.list_reverse_list_0 l a.toArray n (by rw[j7];lia)) ⟨e,?_⟩;refine⟨.non,_,I.lset (its':=a.reverse) c e (by simp) r.reverse ?_,rfl,q⟩;rw[List.length_reverse];lia
def bC2:R2:=λx y H Q=>∃l b xs zs,x=.ref l/\y=.ref b/\H l=some (.lst xs)/\H b=some (.lst zs)/\xs.length+zs.length<=sizeLine/\∀p,H p=none->Q (.ref p) (upd H p (.lst (xs++zs)))
def bAo:OpR X (binaryOp .Add) bC2:=by
 intro k s σ H x y v u Q I f p h;obtain⟨l,b,A,t,rfl,rfl,d,i,w,q⟩:=h;cases f;cases p;obtain⟨z,c,n,r,D,e⟩:=I.aQw d;obtain⟨B,a,C,m,j,g⟩:=I.aQw i;refine PySem.P.add_list e g ?_ (by rw[j7,j7];lia);have o:c.toArray++a.toArray=(c++a).toArray:=by simp
 rw[o];exact⟨.ref _,_,I.lnew (t':=s.toks) (r.append m) (by rw[bAB];lia),rfl,q _ I.fresh⟩
end
section
variable {prog:Program}{w:World}{A:Around}{E:bFI}{s:Shared}
end
section
variable {X:Cx}
end
end L2
namespace Att
open PySem PySem.W PySem.Calls PyProof.Rows
theorem aAe {P:Params}{h:Heap}:∀(ns:List Int) (vs:List Value),WellAll P h vs (ns.map WData.int)->IntsAre vs ns:=by
 intro ns
 induction ns with
 |nil=>intro vs w;rw[List.map_nil] at w;cases w;exact .nil
 |cons n ns ih=>
  intro vs w;rw[bAN] at w;cases w with
  |cons a b=>cases a;exact .cons _ _ (ih _ b)
theorem aRk {l:OpenLaw}{n:Nat}(t:l.most=some n){P:Params}{h:Heap}{args:List WData}{vals:List Value}
  (b:l.row.toRowW.claim.pre args=true) (m:WellAll P h vals args) :
  ∃a vs ns,vals=[Value.ref a]/\args=[WData.list (ns.map WData.int)]/\h.get? a=some { cls:=.type "list",data:=.seq vs.toArray }/\IntsAre vs ns/\ns.length<=n:=by
 have g:WShape.hasAll [] args [.list .int]=true:=(pre_splitW b).1;have i:l.pre.holds [] { args:=args }=true:=(pre_splitW b).2;obtain⟨d,r,rfl,o,j⟩:=hasAllW_cons g;obtain rfl:=hasAllW_nil j;obtain⟨s,rfl,k⟩:=hasW_list o;obtain⟨ns,rfl⟩:=items_int k;have c:ns.length<=n:=by
  unfold OpenLaw.pre at i;have f:(WTm.not (.lt (.lit (.int (n:Int))) (.len (.arg 0)))).holds [] { args:=[.list (ns.map .int)] }=true:=by have f:=(holds_andW i).1;rw[t] at f;exact f
  have e:=condW_of f (w_not (w_lt w_lit (w_len_list (w_arg rfl))));rw[j9] at e;refine Nat.le_of_not_lt λq=>?_;have p:(n:Int)<((ns.length:Nat):Int):=by lia
  first
   |(rw[t6 p] at e;exact absurd e (by decide))
   |(simp at e;lia)
 cases m with
 |cons w1 w2=>
  cases w2;cases w1 with
  |list ho hall=>exact⟨_,_,ns,rfl,rfl,ho,aAe ns _ hall,c⟩
def aQi (l:OpenLaw)(args:List WData):l.row.toRowW.claim.post args (.bool true) args=true:=
 postW_of (r:=l.row.toRowW) (X:=(true == true))
  (show WShape.has [] (.bool true) .bool=true by first|rfl|decide|simp[WShape.has,WShape.arms,WShape.armsAll])
  (show (WTm.eq .res (.lit (.bool true))).value [] { args:=args,res:=some (.bool true),after:=args }=some (.bool (true == true)) from w_eq_bool (w_res rfl) w_lit) rfl
def aI8 {l:OpenLaw}{n:Nat}{q:Program}{loose:List Str}{XP:(bFK)->Heap->Prop}{YP:World->Heap->Prop}{d:DefRec}
  (I:l.most=some n) (F:d.params.defaults=[])
  (p:∀(w:World) (s₀ s₁:Shared) (mg mb:bFK) (fa:Addr) (o:Obj) (pm cd doc:Value) (a:Addr) (vs:List Value) (ns:List Int),
   Ground q loose [] XP w s₀ mg mb s₁.heap->YP w s₁.heap ->
   s₁.heap.get? fa=some o->o.data=.func (docDef d.name d.params d.body d.scope pm cd doc)->s₁.heap.CodeRec cd d.name->mg d.name=some (.ref fa) ->
   s₁.heap.get? a=some { cls:=.type "list",data:=.seq vs.toArray }->IntsAre vs ns->ns.length<=n->s₁.gens=#[] ->
   codeAny (model l.prog w) callerA (.call (.ref fa) ⟨[.ref a],[]⟩) (λr s'=>r=.ok (.ret (.bool true))/\OldK s₁.heap s'.heap/\s'.os=s₁.os/\AllBare s'.gens) s₁) :
  WalkO q loose XP YP l.row.toRowW d [] (λf vs=>PySem.call f vs):=by
 intro w s₀ s₁ mg mb G Y fa o pm cd doc z kV y hd j t i A m s H e k u h x;obtain rfl:z=.none:=Dflts.none t F;obtain rfl:kV=.none:=Dflts.noKw t;obtain⟨a,vs,ns,rfl,rfl,c,b,g⟩:=aRk I e h;refine enter_call (bCP (p w s₀ s₁ mg mb fa o pm cd doc a vs ns G Y y (fd_plain hd) j i c b g A) λr s' B=>?_);obtain⟨rfl,E,v,C⟩:=B;exact⟨.inl ⟨.bool true,.bool true,[],rfl,λ_=>rfl,.bool true,aQi l _,λ_=>⟨List.Pairwise.nil,λ_ D=>(nomatch D)⟩⟩,E,v,C⟩
section
variable {prog:Program}{w:World}{A:Around}{E:bFI}{s:Shared}{K:Frag}
end
end Att
namespace L2
open PySem PySem.Spec PyProof.Rows
theorem aE1:∀{vs:List Value} {ns:List Int},IntsAre vs ns->Vals (ns.map V.int) vs
 |_,_,.nil=>.nil
 |_,_,.cons n t h=>.cons ⟨t,rfl⟩ (aE1 h)
abbrev KOf {K:bFH}{h:Heap}(_:K.In h):bFH:=K
def nF (s:Stmt):Arguments:=match s with
 |.FunctionDef _ a _ _ _ _ _ _ _ _=>a
 |_=>{ posonlyargs:=[],args:=[],vararg:=none,kwonlyargs:=[],kw_defaults:=[],kwarg:=none,defaults:=[] }
def fC (s:Stmt):List Stmt:=match s with
 |.FunctionDef _ _ b _ _ _ _ _ _ _=>b
 |_=>[]
def aF (s:Stmt):Scope:=match s with
 |.FunctionDef _ _ _ _ _ _ sc _ _ _=>sc
 |_=>{ kind:=.function,names:=[],isGenerator:=false,isCoroutine:=false }
abbrev CX0:CXT:=λ_ _ _ _ _ _=>False
abbrev E0:XK:=λ_ _ _=>False
def aEg {X:Cx}:tD CX0 X E0:=λ_ _ _ _ _ _ _ h=>h.elim
structure Fun (K:bFH)(x qual:Str)(st:Stmt)(f:Addr)(fd:FuncData):Prop where
 ex:∃(oc:Value) (od:Option Addr) (kV doc pm:Value) (an:Option Addr) (cdv ct:Value) (osl:Array (Option Value)),
  fd=PySem.W.fnOf x qual (nF st) (fC st) (aF st) .none kV doc pm an cdv ct/\K.lookup f=some ⟨oc,od,.func fd,osl⟩/\PySem.W.codeIn K cdv qual=true
 kp:PySem.W.keepIn K (.ref f)=true
section
variable {P:Program}{w:World}{K:bFH}{mg:bFK}{base:Heap}
def Fun.ok {x qual:Str}{st:Stmt}{f:Addr}{fd:FuncData}{N ps:List Str}{k:Nat}{sp:Sp}(F:Fun K x qual st f fd)(S:aJ N ps (aF st))(j:∀vs H Q E,sp vs H Q E->vs.length=ps.length)
  (a:∀(cdv:Value) (A:Around) (outer:List Env) (s:Shared) (H:Hp) (vs:List V) (Q:VK) (E:XK),Room k (A.deeper (envOfC qual (aF st) s.heap.objs.size f cdv))->sp vs H Q E ->
   ∃t,PSs (aB7 CX0 P w K mg base N qual (aF st) f cdv A outer s H E).nox (fC st) t/\t { nx:=λ_ H'=>Q .non H',rt:=Q } (start N vs) H):lX P w K mg base CX0 (k+1) f fd ps sp:=by
 obtain⟨l,n,kV,e,m,p,cdv,o,i,rfl,g,c⟩:=F.ex;refine aYd g c S j λA outer s H vs Q E d b=>?_;obtain⟨t,h,q⟩:=a cdv A outer s H vs Q E d b;exact⟨t,h.nox,q⟩
def Fun.binds {x qual:Str}{st:Stmt}{f:Addr}{fd:FuncData}{ps:List Str}(F:Fun K x qual st f fd)
  (h:∀(kV doc pm:Value) (an:Option Addr) (cdv ct:Value) (us:List Value),us.length=ps.length->bindArgs (PySem.W.fnOf x qual (nF st) (fC st) (aF st) .none kV doc pm an cdv ct) ⟨us,[]⟩=pure (ps.zip us)):Binds K fd ps []:=by
 obtain⟨c,e,kV,doc,pm,an,cdv,ct,a,rfl,d,b⟩:=F.ex;exact .all (h kV doc pm an cdv ct)
def aHm {x qual:Str}{st:Stmt}{f:Addr}{e:Value}{g h:Option Addr}{a:Array (Option Value)}{kV b i d ct:Value}(l:K.lookup f=some ⟨e,g,.func (PySem.W.fnOf x qual (nF st) (fC st) (aF st) .none kV b i h d ct),a⟩)
  (c:PySem.W.codeIn K d qual=true) (k:PySem.W.keepIn K (.ref f)=true):Fun K x qual st f (PySem.W.fnOf x qual (nF st) (fC st) (aF st) .none kV b i h d ct):=⟨⟨e,g,kV,b,i,h,d,ct,a,rfl,l,c⟩,k⟩
end
def sU {A:Around}{k:Nat}(a:Room k A):A.units+1<cLine:=bCN (Nat.add_le_add_left (by decide:1<=64) _) a.units
def oU {n:Nat}(h:n<=1000):n<sizeLine:=bCN h (by decide)
section
variable {X:Cx}
def pv (i:Nat){x:Str}{pos:Pos}(c:X.N[i]?=some x:=by rfl)(b:Vis X.env.scope x:=by trivial)(hd:(x == ("__debug__":Str))=false:=by decide)
  (a:(x == ("__classdict__":Str))=false:=by decide):PE X (.Name x pos) (aQ3 i):=aZu c b hd a
end
def bZ {A B:Prop}(h:B):if false=true then A else B:=by rw[if_neg v4];exact h
def eU {A B:Prop}(h:A):if true=true then A else B:=by rw[if_pos rfl];exact h
def aMf {c A B:Prop}[Decidable c](a:c->A)(b:¬ c->B):if c then A else B:=by
 by_cases h:c
 ·rw[if_pos h];exact a h
 ·rw[if_neg h];exact b h
def Same (H H':Hp):Prop:=∀b o,H b=some o->H' b=some o
def Same.refl (H:Hp):Same H H:=λ_ _ h=>h
def Same.trans {H H1 H2:Hp}(a:Same H H1)(b:Same H1 H2):Same H H2:=λc o h=>b c o (a c o h)
theorem Same.free {H H':Hp}(e:Same H H'){l:Addr}(h:H' l=Option.none):H l=Option.none:=by
 cases q:H l with
 |none=>rfl
 |some o=>rw[e l o q] at h;cases h
def Same.seq {K:bFH}{H H':Hp}{a:Addr}{xs:List V}(e:Same H H')(h:SqL K H a xs):SqL K H' a xs:=by
 rcases h with (h|⟨o,h⟩)|h
 ·exact .inl (.inl (e _ _ h))
 ·exact .inl (.inr ⟨o,e _ _ h⟩)
 ·exact .inr h
end L2
namespace PySem
namespace RvF
end RvF
section
variable {prog:Program}{w:World}{A:Around}{E:bFI}{s:Shared}
end
end PySem
namespace L2
open PySem PySem.Spec PyProof.Rows
def aMm:bootBuiltins "int"=some (.type "int"):=by decide +kernel
def aXg:bootBuiltins "bool"=some (.type "bool"):=by decide +kernel
def aVa:bootBuiltins "str"=some (.type "str"):=by decide +kernel
def wB:bootBuiltins "list"=some (.type "list"):=by decide +kernel
def gQ:bootBuiltins "tuple"=some (.type "tuple"):=by decide +kernel
def aN3:bootBuiltins "dict"=some (.type "dict"):=by decide +kernel
def aG4:bootBuiltins "set"=some (.type "set"):=by decide +kernel
def aU5:bootBuiltins "zip"=some (.type "zip"):=by decide +kernel
def aGk:bootBuiltins "enumerate"=some (.type "enumerate"):=by decide +kernel
def bU:bootBuiltins "isinstance"=some (.builtin "isinstance"):=by decide +kernel
def cY:bootBuiltins "len"=some (.builtin "len"):=by decide +kernel
def vK:bootBuiltins "all"=some (.builtin "all"):=by decide +kernel
def aZo:bootBuiltins "any"=some (.builtin "any"):=by decide +kernel
def bAk:bootBuiltins "max"=some (.builtin "max"):=by decide +kernel
def dG:bootBuiltins "sorted"=some (.builtin "sorted"):=by decide +kernel
def aWc {J:It}{n:Nat}{item:Nat->V}{g:TG}{tb:TS}{D:Ends}{σ:St}{H:Hp}(h:Nat->St->Hp->Prop)
  (j:∀i H,i<n->J.go i H) (d:∀H,J.stop n H) (o:∀i H x H',i<n->J.yld i H x H'->H'=H/\x=item i) (l:h 0 σ H)
  (k:∀i σ H,i<n->h i σ H->g (item i) σ H fun σ2 H2=>tb { D with nx:=h (i+1),ct:=h (i+1),bk:=D.nx } σ2 H2) (hd:∀σ H,h n σ H->D.nx σ H) :
  ∃W:Nat->Nat->St->Hp->Prop,(∃m,W 0 m σ H)/\∀i m σ H,W i m σ H ->
   (J.stop i H/\D.nx σ H)\/(J.go i H/\∃N:St->Hp->Prop,(∀σ' H',N σ' H'->∃m',m'<m/\W (i+1) m' σ' H')/\∀x H',J.yld i H x H'->g x σ H' fun σ2 H2=>tb { D with nx:=N,ct:=N,bk:=D.nx } σ2 H2):=by
 refine⟨λi m σ H=>m=n - i/\i<=n/\h i σ H,⟨n,by simp,bAG _,l⟩,?_⟩;rintro i m σ H ⟨rfl,hi,p⟩;by_cases a:i<n
 ·refine .inr ⟨j i H a,h (i+1),fun σ' H' f=>⟨n - (i+1),by lia,rfl,a,f⟩,λx H' y=>?_⟩;obtain⟨b,c⟩:=o i H x H' a y;subst b c;exact k i σ _ a p
 ·have e:i=n:=by lia
  subst e;exact .inl ⟨d H,hd σ H p⟩
def sgn (x:Str)(i:Nat):Str:=⟨#[x.cps.getD i 0]⟩
def aR9 {x:Str}{i c:Nat}(h:x.cps[i]?=some c):(⟨#[c]⟩:Str)=sgn x i:=by unfold sgn;rw[v7,h];rfl
def Its (x:Str):It:=⟨λi _=>i<x.cps.size,λi H v H'=>H'=H/\v=.str (sgn x i),λi _=>x.cps.size<=i⟩
def aRo {P:Program}{w:World}{K:bFH}{tg:Expr}(it:Addr)(x:Str)(t:Tok):Turn P w K tg (Its x) [it] it (λi h=>h.IsStrIter it "str_ascii_iterator" x t i) where
 mem:=by simp
 obj:=λi h a b f=>by
  have e:b=it:=by simpa using f
  subst e;obtain⟨o,e,c,d⟩:=a;exact⟨o,e,λv z=>by rw[d] at z;cases z⟩
 keep:=λi h l a k=>let ⟨o,ho,r⟩:=a;⟨o,k it (by simp) o ho,r⟩
 item:=by intro X n C J G i j s σ H E I m a B;subst n C J;obtain⟨y,p,S,A,F,D⟩:=m it (by simp);refine (Walks.strAscii (prog:=X.prog) (w:=X.w) (I.ok.hd G) it x t).item i s _ _ B a λv l L M g O=>?_;obtain⟨c,u,q,rfl⟩:=M;have R:Inv X j σ H { s with heap:=l,toks:=L }:=I.turned (λb o f e=>O b o (by simpa using f) e) y p A F D;obtain⟨o,e,Q,d⟩:=id g;exact⟨_,rfl,aJj (s:={ s with heap:=l,toks:=L }) e Q d (by decide) ⟨.str ⟨#[c]⟩,H,R,⟨u,rfl⟩,⟨rfl,by rw[aR9 q]⟩,g,λb f=>(m b f).1⟩⟩
 done:=by intro X n C J G i j s σ H E I m a B;subst n C J;obtain⟨y,p,S,A,F,D⟩:=m it (by simp);exact wpAny_pyNext_ascii_end (I.ok.hd G) a (Array.getElem?_eq_none_iff.mpr B) λl N=>⟨rfl,I.turned (t':=s.toks) (λb o f e=>N b o f e) y p A F D⟩
 self:=λ_ _ _ _ _ a h=>wpAny_pyIter_striter_ascii a h
def aQo {P:Program}{w:World}{K:bFH}{tg:Expr}(it:Addr)(x:Str)(t:Tok):Turn P w K tg (Its x) [it] it (λi h=>h.IsStrIter it "str_iterator" x t i) where
 mem:=by simp
 obj:=λi h a b f=>by
  have e:b=it:=by simpa using f
  subst e;obtain⟨o,e,c,d⟩:=a;exact⟨o,e,λv z=>by rw[d] at z;cases z⟩
 keep:=λi h l a k=>let ⟨o,ho,r⟩:=a;⟨o,k it (by simp) o ho,r⟩
 item:=by intro X n C J G i j s σ H E I m a B;subst n C J;obtain⟨y,p,S,A,F,D⟩:=m it (by simp);refine (Walks.strWide (prog:=X.prog) (w:=X.w) (I.ok.hd G) it x t).item i s _ _ B a λv l L M g O=>?_;obtain⟨c,u,q,rfl⟩:=M;have R:Inv X j σ H { s with heap:=l,toks:=L }:=I.turned (λb o f e=>O b o (by simpa using f) e) y p A F D;obtain⟨o,e,Q,d⟩:=id g;exact⟨_,rfl,aJj (s:={ s with heap:=l,toks:=L }) e Q d (by decide) ⟨.str ⟨#[c]⟩,H,R,⟨u,rfl⟩,⟨rfl,by rw[aR9 q]⟩,g,λb f=>(m b f).1⟩⟩
 done:=by intro X n C J G i j s σ H E I m a B;subst n C J;obtain⟨y,p,S,A,F,D⟩:=m it (by simp);exact wpAny_pyNext_wide_end (I.ok.hd G) a (Array.getElem?_eq_none_iff.mpr B) λl N=>⟨rfl,I.turned (t':=s.toks) (λb o f e=>N b o f e) y p A F D⟩
 self:=λ_ _ _ _ _ a h=>wpAny_pyIter_striter_wide a h
section
variable {X:Cx}{tg:Expr}
def aY2 (tl:TE):TI:=fun σ H R=>tl σ H λx H1=>∃z,x=.str z/\R (Its z) H1
def bA3 {l:Expr}{tl:TE}(n:PE X l tl):PI X tg l (aY2 tl):=by
 intro c s σ H R I h;refine thn (n c s σ H _ I h) λv a ⟨x,f,d,j,k⟩=>?_;obtain⟨z,e,q⟩:=k;subst e;obtain⟨t,rfl⟩:=j;have g:∀b∈[a.heap.objs.size],uD X c f b:=λb m=>by
  have e:b=a.heap.objs.size:=by simpa using m
  subst e;exact d.aGh (j0 _) (d.hok.fresh (j0 _))
 cases i:z.cps.all (·<128)
 ·exact wpAny_pyIter_wide i ⟨a.heap.objs.size,[a.heap.objs.size],_,_,f,rfl,d.kept (t':=a.toks) λb o e=>d8 _ e,aQo _ z t,⟨_,j5 _ rfl,rfl,rfl⟩,g,q⟩
 ·exact wpAny_pyIter_ascii i ⟨a.heap.objs.size,[a.heap.objs.size],_,_,f,rfl,d.kept (t':=a.toks) λb o e=>d8 _ e,aRo _ z t,⟨_,j5 _ rfl,rfl,rfl⟩,g,q⟩
def aXt {x:Str}{g:TG}{tb:TS}{D:Ends}{σ:St}{H:Hp}(b:Nat->St->Hp->Prop)(a:b 0 σ H)
  (c:∀i σ H,i<x.cps.size->b i σ H->g (.str (sgn x i)) σ H fun σ2 H2=>tb { D with nx:=b (i+1),ct:=b (i+1),bk:=D.nx } σ2 H2) (hd:∀σ H,b x.cps.size σ H->D.nx σ H) :
  ∃W:Nat->Nat->St->Hp->Prop,(∃m,W 0 m σ H)/\∀i m σ H,W i m σ H ->
   ((Its x).stop i H/\D.nx σ H)\/((Its x).go i H/\∃N:St->Hp->Prop,(∀σ' H',N σ' H'->∃m',m'<m/\W (i+1) m' σ' H')/\∀v H',(Its x).yld i H v H'->g v σ H' fun σ2 H2=>tb { D with nx:=N,ct:=N,bk:=D.nx } σ2 H2):=
 aWc (item:=λi=>.str (sgn x i)) b (λi H h=>h) (λH=>j0 _) (λi H v H' _ y=>y) a c hd
def bAx:V->List V->Hp->VK->Prop:=λx vs H Q=>∃a b i rest,x=.str a/\vs=[.str b]/\Builtin.Str.occurrences a b 0 a.length 1=i::rest/\Q (.int (i:Nat)) H
def aTa:MtR X "str.index" bAx:=by intro g s σ H x k v l Q I e d h;obtain⟨a,b,i,c,rfl,rfl,f,q⟩:=h;obtain⟨t,rfl⟩:=e;obtain⟨u,rfl,j,rfl⟩:=d.one;exact SC.index f ⟨.int (i:Nat),H,I.tok _,⟨_,rfl⟩,q⟩
def aLx (x:V)(T:String):Option Bool:=match x with
 |.int _=>if T = "int" then some true else if T = "bool" then some false else if T = "str" then some false else none
 |.str _=>if T = "int" then some false else if T = "bool" then some false else if T = "str" then some true else none
 |.bl _=>if T = "int" then some true else if T = "bool" then some true else if T = "str" then some false else none
 |_=>none
def bB8:List V->Hp->VK->Prop:=λxs H Q=>∃x T b,xs=[x,.ty T]/\aLx x T=some b/\Q (.bl b) H
theorem xN:cO X (.builtin "isinstance") bB8:=by
 intro d s σ H l m Q I r h;obtain⟨x,T,b,rfl,e,q⟩:=h;obtain⟨u,v,rfl,g,j⟩:=r.two;cases j;have f:∀{k:Bool},some k=some b->EP X d σ Q (.bool k) s:=λe=>by cases e;exact⟨.bl _,H,I,rfl,q⟩
 have c:∀{k:Bool},some k=some b->EP X d σ Q (.bool k) { s with toks:=s.toks+1 }:=λe=>by cases e;exact⟨.bl _,H,I.tok _,rfl,q⟩
 cases x with
 |int i=>
  obtain⟨t,rfl⟩:=g;unfold aLx at e;dsimp only at e
  split at e
  ·rename_i a;subst a;exact IsiPair.int_int (f e)
  split at e
  ·rename_i a;subst a;exact IsiPair.int_bool (c e)
  split at e
  ·rename_i a;subst a;exact IsiPair.int_str (c e)
  ·cases e
 |str z=>
  obtain⟨t,rfl⟩:=g;unfold aLx at e;dsimp only at e
  split at e
  ·rename_i a;subst a;exact IsiPair.str_int (c e)
  split at e
  ·rename_i a;subst a;exact IsiPair.str_bool (c e)
  split at e
  ·rename_i a;subst a;exact IsiPair.str_str (f e)
  ·cases e
 |bl z=>
  cases g;unfold aLx at e;dsimp only at e
  split at e
  ·rename_i a;subst a;exact IsiPair.bool_int (f e)
  split at e
  ·rename_i a;subst a;exact IsiPair.bool_bool (f e)
  split at e
  ·rename_i a;subst a;exact IsiPair.bool_str (c e)
  ·cases e
 |_=>cases (show (none:Option Bool)=some b from e)
end
def small {n:Nat}(h:n<=1000):n<=sizeLine:=bDL (oU h)
def aDf:Vals [] []:=.nil
def nZ {x:V}{u:Value}{xs:List V}{us:List Value}(r:RelV x u)(t:Vals xs us):Vals (x::xs) (u::us):=.cons r t
def dB:Expr->Bool
 |.Starred ..=>false
 |_=>true
def aR {e:Expr}{es:List Expr}{env:Env}(h:dB e=true):starEach (e::es) env=(false,eval e env)::starEach es env:=by cases e <;> first|rfl|cases h
def bDc {X:Cx}{e:Expr}{es:List Expr}{te:TE}{t:TA}(b:PE X e te)(a:PA X es t)(c:dB e=true:=by rfl) :
  PA X (e::es) (fG te t):=aXr b a (aR c)
def bCw {X:Cx}{x:Str}{v:V}{pos:Pos}(b:Gl X x)(a:∃u,X.mg x=some u/\RelV v u)(hd:(x == ("__debug__":Str))=false:=by decide):PE X (.Name x pos) (tC v):=by obtain⟨u,a,r⟩:=a;exact aVr b a r hd
section
variable {P:Program}{w:World}{K:bFH}{mg:bFK}{base:Heap}
def Dn (K:bFH)(mg:bFK)(x:Str)(st:Stmt)(ps:List Str):Prop:=∃f fd,Fun K x x st f fd/\Binds K fd ps []/\mg x=some (.ref f)
def Ok (P:Program)(w:World)(K:bFH)(mg:bFK)(base:Heap)(k:Nat)(x:Str)(ps:List Str)(sp:Sp):Prop:=
 ∃f fd,mg x=some (.ref f)/\PySem.W.keepIn K (.ref f)=true/\Binds K fd ps []/\lX P w K mg base CX0 k f fd ps sp
theorem Ok.mono {j k:Nat}{x:Str}{ps:List Str}{sp:Sp}(h:Ok P w K mg base j x ps sp)(g:j<=k):Ok P w K mg base k x ps sp:=by obtain⟨f,c,a,b,d,e⟩:=h;exact⟨f,c,a,b,d,e.mono g⟩
def Ok.of {x:Str}{st:Stmt}{N ps:List Str}{k:Nat}{sp:Sp}(D:Dn K mg x st ps)(S:aJ N ps (aF st))(d:∀vs H Q E,sp vs H Q E->vs.length=ps.length)
  (a:∀(f:Addr) (cdv:Value) (A:Around) (outer:List Env) (s:Shared) (H:Hp) (vs:List V) (Q:VK) (E:XK),Room k (A.deeper (envOfC x (aF st) s.heap.objs.size f cdv))->sp vs H Q E ->
   ∃t,PSs (aB7 CX0 P w K mg base N x (aF st) f cdv A outer s H E).nox (fC st) t/\t { nx:=λ_ H'=>Q .non H',rt:=Q } (start N vs) H):Ok P w K mg base (k+1) x ps sp:=by
 obtain⟨f,c,F,B,m⟩:=D;exact⟨f,c,m,F.kp,B,F.ok S d λcdv A outer s H vs Q E b h=>a f cdv A outer s H vs Q E b h⟩
end
section
variable {X:Cx}{k:Nat}{ps:List Str}{sp:Sp}{x:Str}{p pos:Pos}{e:Expr}{es:List Expr}{t:TA}
def bCb (G:Ok X.prog X.w X.K X.mg X.base k x ps sp)(i:Room k X.A)(m:Gl X x)(l:PA X (e::es) t)(c:(x == ("__debug__":Str))=false:=by decide)
  (n:starEach (e::es) X.env=(false,eval e X.env)::starEach es X.env:=by rfl) (g:(backTo pos (starEach es X.env)).any (·.1)=false:=by rfl) :
  PE X (.Call (.Name x p) (e::es) [] pos) (aEp sp [] E0 t):=by
 obtain⟨f,j,a,b,d,h⟩:=G;exact aWr h i m a b d .nil aEg l c n g
def aYz (G:Ok X.prog X.w X.K X.mg X.base k x ps sp)(g:Room k X.A)(i:Gl X x)(c:(x == ("__debug__":Str))=false:=by decide) :
  PE X (.Call (.Name x p) [] [] pos) (aEp sp [] E0 aHp):=by
 obtain⟨f,h,a,b,d,e⟩:=G;exact aSo e g i a b d .nil aEg c
end
theorem vJ {env:Env}(f:Str × NameKind->List (Str × Addr)->Sem (ForInStep (List (Str × Addr))))
  (j:∀n r,f (n,.free) r=(cellOf env n >>= λa=>pure (.yield ((n,a)::r)))) (i:∀n k r,k≠.free->f (n,k) r=pure (.yield r)) :
  ∀(names:List (Str × NameKind)) (acc:List (Str × Addr)),(∀y∈names,y.2=.free->∃c,env.cells.lookup y.1=some c) ->
  ∃cl,forIn names acc f=(pure (cl++acc):Sem _)/\(∀p∈cl,env.cells.lookup p.1=some p.2/\(p.1,NameKind.free)∈names)/\∀y,(y,NameKind.free)∈names->∃c,(y,c)∈cl
 |[],acc,_=>⟨[],by simp,λ_ h=>(nomatch h),λ_ h=>(nomatch h)⟩
 |(n,k)::r,acc,h=>by
  by_cases g:k=.free
  ·subst g;obtain⟨c,l⟩:=h (n,.free) j6 rfl;obtain⟨cl,e,b,d⟩:=vJ f j i r ((n,c)::acc) λy hy=>h y (j8 _ hy);refine⟨cl++[(n,c)],?_,λp hp=>?_,λy hy=>?_⟩
   ·rw[bCY,j];have o:cellOf env n=pure c:=by unfold cellOf;rw[l]
    rw[o,pure_bind,pure_bind];show forIn r ((n,c)::acc) f=_;rw[e,bDA];rfl
   ·rcases List.mem_append.mp hp with hp|hp
    ·exact⟨(b p hp).1,j8 _ (b p hp).2⟩
    ·obtain rfl:=List.mem_singleton.mp hp;exact⟨l,j6⟩
   ·rcases List.mem_cons.mp hy with e|hy
    ·cases e;exact⟨c,by simp⟩
    ·obtain⟨m,q⟩:=d y hy;exact⟨m,bBX _ q⟩
  ·obtain⟨cl,e,b,d⟩:=vJ f j i r acc λy hy=>h y (j8 _ hy);refine⟨cl,?_,λp hp=>⟨(b p hp).1,j8 _ (b p hp).2⟩,λy hy=>?_⟩
   ·rw[bCY,i n k acc g,pure_bind];exact e
   ·rcases List.mem_cons.mp hy with e|hy
    ·cases e;exact absurd rfl g
    ·exact d y hy
theorem aBg {scope:Scope}{env:Env}(h:∀y∈scope.names,y.2=.free->∃c,env.cells.lookup y.1=some c) :
  ∃cl,closureFor scope env=pure cl/\(∀p∈cl,env.cells.lookup p.1=some p.2/\(p.1,NameKind.free)∈scope.names)/\∀y,(y,NameKind.free)∈scope.names->∃c,(y,c)∈cl:=by
 unfold closureFor;obtain⟨cl,e,d,b⟩:=vJ (env:=env) (λx r=>match x with|(name,kind)=>if (kind == NameKind.free)=true then do let a <-cellOf env name;pure (.yield ((name,a)::r)) else pure (.yield r))
  (λn r=>rfl) (λn k r f=>by
   have:(k == NameKind.free)=false:=by simpa using f
   simp only[this,bBB,if_false]) scope.names [] h
 refine⟨cl,?_,d,b⟩;rw[bCJ] at e;refine Eq.trans ?_ e;first
 |rfl
 |simp
theorem lookup_mem {α β:Type}[BEq α][LawfulBEq α]{a:α}{b:β}:∀{l:List (α × β)},(a,b)∈l->∃b',l.lookup a=some b'
 |(x,y)::r,h=>by
  rw[bCV];by_cases e:(a == x)=true
  ·exact⟨y,by rw[e]⟩
  ·have c:(a == x)=false:=by simpa using e
   rw[c];rcases List.mem_cons.mp h with z|z
   ·cases z;simp at e
   ·exact lookup_mem z
theorem wR {env:Env}{y:Str}{k:NameKind}:∀{names:List (Str × NameKind)},names.lookup y=some .free ->
  (names.map λ(x:Str × NameKind)=>match x with|(n,k)=>if (k == NameKind.free && env.scope.kind == ScopeKind.function && env.kindOf n == some NameKind.cell) then (n,NameKind.cell) else (n,k)).lookup y=some .cell \/
  (names.map λ(x:Str × NameKind)=>match x with|(n,k)=>if (k == NameKind.free && env.scope.kind == ScopeKind.function && env.kindOf n == some NameKind.cell) then (n,NameKind.cell) else (n,k)).lookup y=some .free
 |[],h=>by simp at h
 |(n,k')::r,h=>by
  rw[bAN];rw[bCV] at h;by_cases e:(y == n)=true
  ·rw[e] at h;cases h;by_cases q:((NameKind.free == NameKind.free) && env.scope.kind == ScopeKind.function && env.kindOf n == some NameKind.cell)=true
   ·left;simp only[q,if_true,bCV,e]
   ·right;have g:=Bool.eq_false_iff.mpr q;simp only[g,bBB,if_false,bCV,e]
  ·have b:(y == n)=false:=by simpa using e
   rw[b] at h;have c:=wR (env:=env) (k:=k) h;have a:∀z:Str × NameKind,z.1=n->(List.lookup y (z::(r.map λ(x:Str × NameKind)=>match x with|(n,k)=>if (k == NameKind.free && env.scope.kind == ScopeKind.function && env.kindOf n == some NameKind.cell) then (n,NameKind.cell) else (n,k)))) =
     List.lookup y (r.map λ(x:Str × NameKind)=>match x with|(n,k)=>if (k == NameKind.free && env.scope.kind == ScopeKind.function && env.kindOf n == some NameKind.cell) then (n,NameKind.cell) else (n,k)):=λz d=>by
    obtain⟨i,j⟩:=z;cases d;rw[bCV,b]
   have f:(match ((n,k'):Str × NameKind) with|(n,k)=>if (k == NameKind.free && env.scope.kind == ScopeKind.function && env.kindOf n == some NameKind.cell) then (n,NameKind.cell) else (n,k)).1=n:=by
    dsimp only
    split <;> rfl
   rw[a _ f];exact c
theorem xM {env:Env}{y:Str}:∀{names:List (Str × NameKind)},(∀z∈names,z.2≠.cell) ->
  ((names.map λ(x:Str × NameKind)=>match x with|(n,k)=>if (k == NameKind.free && env.scope.kind == ScopeKind.function && env.kindOf n == some NameKind.cell) then (n,NameKind.cell) else (n,k)).lookup y=some .cell \/
  (names.map λ(x:Str × NameKind)=>match x with|(n,k)=>if (k == NameKind.free && env.scope.kind == ScopeKind.function && env.kindOf n == some NameKind.cell) then (n,NameKind.cell) else (n,k)).lookup y=some .free)->(y,NameKind.free)∈names
 |[],_,h=>by simp at h
 |(n,k')::r,hc,h=>by
  rw[bAN] at h;by_cases e:(y == n)=true
  ·have g:y=n:=by simpa using e
   subst g;have i:k'=.free:=by
    by_cases q:((k' == NameKind.free) && env.scope.kind == ScopeKind.function && env.kindOf y == some NameKind.cell)=true
    ·rw[bAT,bAT] at q;simpa using q.1.1
    ·have f:=Bool.eq_false_iff.mpr q;simp only[f,bBB,if_false,bCV,e] at h;rcases h with h|h
     ·cases h;exact absurd rfl (hc (y,.cell) j6)
     ·cases h;rfl
   subst i;exact j6
  ·have d:(y == n)=false:=by simpa using e
   have b:∀z:Str × NameKind,z.1=n->(List.lookup y (z::(r.map λ(x:Str × NameKind)=>match x with|(n,k)=>if (k == NameKind.free && env.scope.kind == ScopeKind.function && env.kindOf n == some NameKind.cell) then (n,NameKind.cell) else (n,k)))) =
     List.lookup y (r.map λ(x:Str × NameKind)=>match x with|(n,k)=>if (k == NameKind.free && env.scope.kind == ScopeKind.function && env.kindOf n == some NameKind.cell) then (n,NameKind.cell) else (n,k)):=λz a=>by
    obtain⟨j,l⟩:=z;cases a;rw[bCV,d]
   have c:(match ((n,k'):Str × NameKind) with|(n,k)=>if (k == NameKind.free && env.scope.kind == ScopeKind.function && env.kindOf n == some NameKind.cell) then (n,NameKind.cell) else (n,k)).1=n:=by
    dsimp only
    split <;> rfl
   rw[b _ c] at h;exact j8 _ (xM (λz a=>hc z (j8 _ a)) h)
section
variable {prog:Program}{w:World}{A:Around}{E:bFI}{R:Result->Shared->Prop}{s:Shared}
theorem aFe {t b j:Expr}{l:List Expr}{scope:Scope}{u:Pos}{it k:Value}{env:Env}(I:Nat->Shared->Prop)
  (g:∀n s,I n s->wpAny (model prog w) A (pyNext it) (λr s₁=>match r with
   |none=>R (.ok .next) s₁
   |some v=>wpAny (model prog w) A (letOwnedTupleGo b it v) (λ_ s'=>wpAny (model prog w) A (assign b env v) (λ_ s₂=>
     wpAny (model prog w) A (forIn l true λc r=>if r=true then do let ok <-isTrue c env (eval c env);pure (ForInStep.yield ok) else pure (ForInStep.yield r)) (λok s₃=>
      if ok=true then wpAny (model prog w) A (eval t env) (λx s₄=>
       wpAny (model prog w) A (call (.builtin "list.append") [k,x]) (λ_ s₅=>∃m,m<n/\I m s₅) (notedBy (model prog w) A env λe s'=>R (.error e) s') s₄) (notedBy (model prog w) A env λe s'=>R (.error e) s') s₃
      else ∃m,m<n/\I m s₃) (notedBy (model prog w) A env λe s'=>R (.error e) s') s₂) (notedBy (model prog w) A env λe s'=>R (.error e) s') s') (notedBy (model prog w) A env λe s'=>R (.error e) s') s₁)
   (notedBy (model prog w) A env λe s'=>R (.error e) s') s)
  (n:Nat) (h:I n s):codeAny (model prog w) A (.compLoop (.ListComp t [⟨b,j,l,0⟩] scope u) 0 it k env) R s:=by
 refine codeAny_loop rfl I (λn s y=>?_) n h;show wpAny _ A ((compTurn (.ListComp t [⟨b,j,l,0⟩] scope u) 0 it k env).onRaise (λx=>do noteFrame x env;theTreesLotGoes x)) _ _ s;refine wpAny_noted ?_;rw[compTurn_list];refine c7 (bFG (c7 (bBN (g n s y) (λr s₁ f=>?_) λ_ _ a=>a)));cases r with
 |none=>exact d9 f
 |some v=>
  refine c7 (bBN f (λ_ s' d=>c7 (bBN d (λ_ s₂ q=>c7 (bBN q (λok s₃ i=>?_) λ_ _ a=>a)) λ_ _ a=>a)) λ_ _ a=>a);cases ok with
  |false=>exact d9 ⟨rfl,i⟩
  |true=>exact c7 (c7 (bBN i (λx s₄ o=>c7 (bBN o (λ_ s₅ p=>d9 (d9 ⟨rfl,p⟩)) λ_ _ a=>a)) λ_ _ a=>a))
end
def cxC (X:Cx)(N:List Str)(scope:Scope)(cl:List (Str × Addr))(s:Shared)(H:Hp)(fp:List Addr):Cx:=
 { X with N:=N,s₀:=s,H₀:=H,env:=compEnvC scope cl s.heap.objs.size X.env,outer:=X.stack,stack:=X.stack,ex:=fp,fn:=λ_=>false,pn:=[],xe:=λ_ _=>False }
def aSc (X:Cx)(ifs:List Expr)(tt:TT):Prop:=
 ∀(bFL:bFJ) (s:Shared) (σ:St) (H:Hp) (Q:Bool->Hp->Prop),Inv X bFL σ H s->tt σ H Q ->
  wpAny (model X.prog X.w) X.A (forIn ifs true λc r=>if r=true then do let ok <-isTrue c X.env (eval c X.env);pure (ForInStep.yield ok) else pure (ForInStep.yield r)) (TP X bFL σ Q) X.xe s
def oR:TT:=λ_ H Q=>Q true H
def aZs {X:Cx}:aSc X [] oR:=λ_ _ _ H _ I h=>wpAny_tests_nil ⟨H,I,h⟩
def aZ2 {X:Cx}{c:Expr}{tc:TT}(h:PT X c tc):aSc X [c] tc:=λa s σ H Q I q=>wpAny_tests_one (h a s σ H Q I q)
structure aCw (scope:Scope)(N:List Str):Prop where
 cell:∀y∈scope.names,y.2≠.cell
 kind:scope.kind=.function
 names:∀y∈scope.names,y.2=.local->scope.names.lookup y.1=some .local
 free:∀y∈scope.names,y.2=.free->scope.names.lookup y.1=some .free
def Cap (X:Cx)(scope:Scope)(N:List Str)(σ σ':St):Prop:=
 σ'.length=N.length/\∀(i:Nat) (y:Str) (v:V),N[i]?=some y->σ'[i]?=some (some v)->(y,NameKind.free)∈scope.names/\∃j:Nat,X.N[j]?=some y/\σ[j]?=some (some v)/\Vis X.env.scope y
def aIl {X:Cx}{bFL:bFJ}{σ σ':St}{H:Hp}{s:Shared}{scope:Scope}{N:List Str}{cl:List (Str × Addr)}{fp:List Addr}{Q:Heap}{tk:Nat}{m1:bFK}
  (I:Inv X bFL σ H s) (C:aCw scope N) (S:∀y,(y,NameKind.free)∈scope.names->X.env.kindOf y=some .cell\/X.env.kindOf y=some .free)
  (p1:∀p∈cl,X.env.cells.lookup p.1=some p.2/\(p.1,NameKind.free)∈scope.names) (p2:∀y,(y,NameKind.free)∈scope.names->∃c,(y,c)∈cl)
  (G:Cap X scope N σ σ') (K:∀b∈fp,uD X bFL H b) (T:∀b∈fp,b<s.heap.objs.size)
  (hn:Q.Ns s.heap.objs.size m1) (E:∀b o,s.heap.get? b=some o->Q.get? b=some o) :
  Inv (cxC X N scope cl s H fp) [] σ' H { s with heap:=Q,toks:=tk }:=by
 have a:=I.ok;have f:∀y c,cl.lookup y=some c->X.env.cells.lookup y=some c:=λy c e=>(p1 _ (PySem.mem_of_lookup e)).1;have t:∀y,(y,NameKind.free)∈scope.names->∃c,cl.lookup y=some c/\X.env.cells.lookup y=some c:=λy d=>by obtain⟨c,hc⟩:=p2 y d;obtain⟨F,e⟩:=lookup_mem hc;exact⟨F,e,f y F e⟩
 have w:∀b∈fp,b∉frs X.stack:=λb g z=>by
  obtain⟨L,A,J,_⟩:=K b g;rcases List.mem_cons.mp (I.aG1 b z) with e|e
  ·exact A e
  ·exact J e
 have D:(cxC X N scope cl s H fp).Ok:=by
  refine⟨a.mod,C.kind,a.glob,a.blt,j0 _,λx y c Q V=>a.inj x y c (f x c Q) (f y c V),λy d=>?_,λy c h _=>?_,a.hd,a.frames,.inl rfl,λb g=>?_,I.bs,bAM a.bsz I.sz,
   λb o e g=>?_,w,I.stack,I.wN⟩
  ·obtain⟨c,e,_⟩:=t y (xM (env:=X.env) C.cell d);exact⟨c,e⟩
  ·exact absurd (show false=true from h) v4
  ·obtain⟨L,A,J,M,O,f5⟩:=K b g;exact⟨v5 (T b g),λx c e=>O x c (f x c e)⟩
  ·obtain⟨L,A,J,M,O,f5⟩:=K b g;rcases M with z|z
   ·exact a.noex b o e z
   ·exact absurd (bAA (m9 e) (bAM a.bsz z)) (bBO _)
 refine⟨D,rfl,I.bare,Un.kept E,⟨m1,hn,λi y v Z P e3=>?_⟩,λy c e=>?_,I.hok.fresh (j0 _),λy c e=>I.freeC y c (f y c e),λp hp=>absurd (show p∈([]:bFJ) from hp) (by simp),I.hok.kept E,G.1⟩
 ·obtain⟨d,j,R,Y,e6⟩:=G.2 i y v Z P;obtain⟨m,_,U⟩:=I.loc;obtain⟨u,r,l⟩:=U j y v R Y e6;refine⟨u,r,.inr ?_⟩;rcases l with⟨k,_⟩|⟨k,c,e,z⟩
  ·rcases S y d with q|q <;> (rw[k] at q;cases q)
  ·obtain⟨F,W,n⟩:=t y d;rw[e] at n;cases n;have rl:=wR (env:=X.env) (k:=.free) (C.free (y,.free) d rfl);refine⟨rl,c,W,?_⟩;obtain⟨o,B,hd⟩:=z;exact⟨o,E _ _ B,hd⟩
 ·obtain⟨v,o,B,hd⟩:=I.cell y c (f y c e);exact⟨v,o,E _ _ B,hd⟩
def lN (X:Cx)(scope:Scope)(N:List Str)(wi:TI)(g:TG)(tt:TT)(te:TE):TE:=fun σ H Q=>∃σ0,Cap X scope N σ σ0/\wi σ H λJ H1=>∀D,H1 D=none->∃W:Nat->Nat->St->Hp->List V->Prop,(∃m,W 0 m σ0 (upd H1 D (.lst [])) []) /\
 ∀i m σ' H' ys,W i m σ' H' ys->H' D=some (.lst ys)/\((J.stop i H'/\Q (.ref D) H')\/(J.go i H'/\∀x H2,J.yld i H' x H2->g x σ' H2 fun σ3 H3=>tt σ3 H3 λb H4=>
  if b=true then te σ3 H4 λy H5=>H5 D=some (.lst ys)/\ys.length<sizeLine/\∃m',m'<m/\W (i+1) m' σ3 (upd H5 D (.lst (ys++[y]))) (ys++[y]) else H4 D=some (.lst ys)/\∃m',m'<m/\W (i+1) m' σ3 H4 ys))
theorem aW3 {X:Cx}{ax a8 aq:Expr}{aw:List Expr}{scope:Scope}{au:Pos}{N:List Str}{wi:TI}{g:TG}{tt:TT}{te:TE}
  (C:aCw scope N) (ab:∀y,(y,NameKind.free)∈scope.names->X.env.kindOf y=some .cell\/X.env.kindOf y=some .free) (hc:X.calm=true)
  (hi:PI X a8 aq wi)
  (a:∀cl s H fp,PG (cxC X N scope cl s H fp) a8 g/\aSc (cxC X N scope cl s H fp) aw tt/\PE (cxC X N scope cl s H fp) ax te)
  (hs:∀x,foldedSetIterable aq X.env x=pure x:=by intro _;rfl) :
  PE X (.ListComp ax [⟨a8,aq,aw,0⟩] scope au) (lN X scope N wi g tt te):=by
 intro D s σ H Q I hq;obtain⟨σ0,an,hq⟩:=hq;obtain⟨cl,aj,p1,p2⟩:=aBg (scope:=scope) (env:=X.env) (λy hy hk=>by obtain⟨n,k⟩:=y;cases hk;exact I.ok.has n (ab n hy))
 rw[eval_ListComp];refine wpAny_comprehension_free (use:=none) rfl hs aj C.kind C.names (thn (hi D s σ H _ I hq) λxv s1 h1=>thn h1 λar f h2=>?_);obtain⟨it,fp,tn,J,G,rfl,I2,T,a7,f2,q2⟩:=h2;refine bAK (bEZ C.cell (by intro y hy;simp at hy) (λh₁ B F=>?_) C.kind);dsimp only at B F ⊢;have hD:G f.heap.objs.size=none:=I2.hok.fresh (j0 _);have I3:Inv X D σ (upd G f.heap.objs.size (.lst [])) { f with heap:=f.heap.push { cls:=.type "list",dict:=none,data:=.seq ([]:List Value).toArray } }:=
  I2.laid (t':=f.toks) (λb u e=>d8 _ e) (j0 _) ⟨bAG _,[],0,.nil,j5 _ rfl⟩
 generalize a3:({ f with heap:=f.heap.push { cls:=.type "list",dict:=none,data:=.seq ([]:List Value).toArray } }:Shared)=s3 at I3;have V:f.heap.push { cls:=.type "list",dict:=none,data:=.seq ([]:List Value).toArray }=s3.heap:=by rw[<-a3]
 rw[V] at B F;have a4:∀b∈fp,b<f.heap.objs.size:=λb a=>by obtain⟨o,e,_⟩:=T.obj _ _ a7 b a;exact m9 e
 have a9:∀b∈fp,b<s3.heap.objs.size:=λb a=>by rw[<-V,bAX];exact bBF (a4 b a)
 have f3:∀b∈fp,uD X D (upd G f.heap.objs.size (.lst [])) b:=λb a=>by obtain⟨f0,fr⟩:=f2 b a;exact⟨by rw[aP (v5 (a4 b a))];exact f0,fr⟩
 have E:∀b o,s3.heap.get? b=some o->h₁.get? b=some o:=λb o e=>F.extBut b o (v5 (m9 e)) (d8 _ e);have I4:=aIl (tk:=s3.toks) I3 C ab p1 p2 an f3 a9 B E;have a6:tn 0 h₁:=T.keep _ _ _ a7 λb a o e=>E b o (by rw[<-V];exact d8 _ e);obtain⟨W,⟨m0,w0⟩,a5⟩:=q2 f.heap.objs.size hD;have S:∀{U:Hp},(∀b∈fp,U b=none)->∀b∈fp,uD (cxC X N scope cl s3 (upd G f.heap.objs.size (.lst [])) fp) [] U b:=λ{U} hn b a=>by obtain⟨e1,e2⟩:=I4.ok.exf b a;exact⟨hn b a,e1,I4.ok.exfs b a,.inl a,e2,λp hp=>absurd (show p∈([]:bFJ) from hp) (by simp)⟩
 have L:∀s4:Shared,s4={ s3 with heap:=h₁,toks:=s3.toks } ->
   codeAny (model X.prog X.w) X.A (.compLoop (.ListComp ax [⟨a8,aq,aw,0⟩] scope au) 0 (.ref it) (.ref f.heap.objs.size) (compEnvC scope cl s3.heap.objs.size X.env))
    (compPost (model X.prog X.w) X.A X.xe none (EP X D σ Q) (.ref f.heap.objs.size) s3.heap.objs.size) s4:=by
  rintro s4 rfl;refine aFe (λn s'=>∃i σ' U ys,Inv (cxC X N scope cl s3 (upd G f.heap.objs.size (.lst [])) fp) [] σ' U s'/\tn i s'.heap/\(∀b∈fp,U b=none)/\W i n σ' U ys) ?_ m0 ⟨0,σ0,_,[],I4,a6,λb a=>(f3 b a).1,w0⟩;rintro n s5 ⟨i,σ5,H5,ys,I5,st5,fr5,w5⟩;obtain⟨ap,w5⟩:=a5 i n σ5 H5 ys w5;have j:∀{α:Type} {t:Sem α} {Q':α->Shared->Prop} {E':bFI} {s':Shared},wpAny (model X.prog X.w) X.A t Q' (λ_ _=>False) s'->wpAny (model X.prog X.w) X.A t Q' E' s':=λh=>bBN h (λ_ _ q=>q) λ_ _ z=>z.elim;rcases w5 with⟨a0,qn⟩|⟨go,step⟩
  ·refine j (thn (T.done (cxC X N scope cl s3 (upd G f.heap.objs.size (.lst [])) fp) rfl rfl rfl hc i [] s5 σ5 H5 _ I5 (S fr5) st5 a0) λr s6 ⟨hr,Y⟩=>?_);subst hr;obtain⟨m6,ad,_⟩:=Y.loc;refine⟨m6,ad,λh' sb=>?_⟩;have kp:∀b o,b≠s3.heap.objs.size->s6.heap.get? b=some o->h'.get? b=some o:=λb o a e=>sb.extBut b o a e;have O:∀b o,s3.heap.get? b=some o->b≠s3.heap.objs.size:=λb o e=>v5 (m9 e);have un:Un (frs X.stack) fp (upd G f.heap.objs.size (.lst [])) H5 s3.heap h':=by
    have u:=Y.base;exact⟨λb o e n a hx=>kp b o (O b o e) (u.keep b o e n a hx),λb o e n a hx=>by
     obtain⟨sl,e1⟩:=u.slot b o e n a hx;exact⟨sl,kp b _ (O b o e) e1⟩,u.free,λb o e hx=>by
     obtain⟨o',e1⟩:=u.there b o e hx;exact⟨o',kp b _ (O b o e) e1⟩,u.tups,u.frzs,u.tbls⟩
   have ak:HOk X.prog X.w H5 h':=λb u e=>by
    refine (Y.hok b u e).stay (λc v ag q=>kp c v ?_ q) (λ_ q=>q) λ_ _ q=>q;have l:H5 s3.heap.objs.size=none:=Y.free;rintro rfl;rcases ag with z|z
    ·rw[z] at l;rw[l] at e;cases e
    ·rw[l] at z;cases z
   have I7:Inv X D σ H5 { s6 with heap:=h' }:=by refine I3.call' (s':={ s6 with heap:=h' }) Y.os un ak Y.bare λb a=>?_;obtain⟨f0,f1,av,ao,f4,f5⟩:=f3 b a;exact⟨ao,f1,f4,f5⟩
   exact⟨.ref f.heap.objs.size,H5,I7,rfl,qn⟩
  ·refine j (thn (T.item (cxC X N scope cl s3 (upd G f.heap.objs.size (.lst [])) fp) rfl rfl rfl hc i [] s5 σ5 H5 (λ_ _=>False) I5 (S fr5) st5 go) λr s6 ⟨u,hr,h6⟩=>?_);subst hr;refine j (thn h6 λ_ s7 ⟨x,H7,I7,r7,y7,R,am⟩=>?_);obtain⟨hg,ht,he⟩:=a cl s3 (upd G f.heap.objs.size (.lst [])) fp;have ah:=I7.pinned (S am) (T.obj _ _ R);have m:∀{M:St} {H8:Hp} {s8:Shared},Inv (cxC X N scope cl s3 (upd G f.heap.objs.size (.lst [])) fp) ([]++zK fp s7.heap) M H8 s8->tn (i+1) s8.heap/\∀b∈fp,H8 b=none:=λ{M H8 s8} I8=>
    ⟨T.keep _ _ _ R λb a o e=>(I8.pin (b,o) (bAF _ (bAF _ (jZ a e)))).1,λb a=>by obtain⟨o,e,d⟩:=T.obj _ _ R b a;exact (I8.pin (b,o) (bAF _ (bAF _ (jZ a e)))).2.1⟩
   refine j (thn (hg _ s7 σ5 H7 x u _ ah r7 (step x H7 y7)) λ_ s8 ⟨M,H8,I8,q8⟩=>?_);refine j (thn (ht _ s8 M H8 _ I8 q8) λb s9 ⟨H9,I9,q9⟩=>?_);cases b with
   |false=>rw[if_neg v4] at q9 ⊢;obtain⟨_,m',hm,w9⟩:=q9;exact⟨m',hm,i+1,M,H9,ys,I9.mU,(m I9).1,(m I9).2,w9⟩
   |true=>rw[if_pos rfl] at q9 ⊢;refine j (thn (he _ s9 M H9 _ I9 q9) λyv ai ⟨y,Z,ae,af,K,a1,m',hm,aa⟩=>?_);refine j (thn (xZ _ ai M Z (.ref f.heap.objs.size) [y] (.ref f.heap.objs.size) [yv] (λ_ a2=>a2=upd Z f.heap.objs.size (.lst (ys++[y]))) ae rfl (.cons af .nil) ⟨_,_,_,rfl,rfl,K,a1,rfl⟩) λ_ as ⟨z,a2,P,_,al⟩=>?_);subst al;exact⟨m',hm,i+1,M,_,ys++[y],P.mU,(m P).1,(m P).2,aa⟩
 have ac:=codeAny_compStart_list (L { s3 with heap:=h₁,toks:=s3.toks } rfl) (T.self _ _ _ _ _ a6 (L { s3 with heap:=h₁,toks:=s3.toks } rfl));subst a3;exact ac
end L2
namespace PySem
open Sem (wp)
namespace IfF
def aRx:typeLookup (.type "function") "__class__"=pure (some (.builtin "object.__class__")):=by rw[typeLookup_type,builtinLookup_eq_fast];kernel_rfl
def aAu:Slot "function" "__getattribute__" "object.__getattribute__":=
 .of (owner:="object") (n:="__getattribute__") (by rw[typeLookup_type,builtinLookup_eq_fast];kernel_rfl) (by decide +kernel) (by decide +kernel) (by decide +kernel)
  (by first|exact .inl (by decide +kernel)|exact .inr (by decide +kernel)) (by rw[isSubtype_type];kernel_rfl)
def aUk:entryFor table "object.__getattribute__"=some Builtin.«object.__getattribute__»:=entryFor_of_tree (by kernel_rfl)
def aAs:isSubtype (.type "function") (.type (".".intercalate ("object.__class__".cutAt '.').dropLast))=pure true:=by rw[F.owner_object_class,isSubtype_type];kernel_rfl
def sub_int:isSubtype (.type "function") (.type "int")=pure false:=by rw[isSubtype_type];kernel_rfl
def sub_bool:isSubtype (.type "function") (.type "bool")=pure false:=by rw[isSubtype_type];kernel_rfl
def aWl:isSubtype (.type "function") (.type "str")=pure false:=by rw[isSubtype_type];kernel_rfl
end IfF
section
variable {prog:Program}{w:World}{A:Around}{E:bFI}{h:Heap}{g:Array GenState}{d:Drawn}{t:Nat}{os:OsState}{a:Addr}{o:Obj}
def aHc {R:Result->Shared->Prop}(e:h.get? a=some o)(c:o.cls=.type "function")(hq:R (.ok (.ret (.type "function"))) ⟨h,g,d,t,os⟩) :
  codeAny (model prog w) A (.call (.builtin "getset_descriptor.__get__") ⟨[.builtin "object.__class__",.ref a,.type "function"],[]⟩) R ⟨h,g,d,t,os⟩:=by
 have f:(⟨h,g,d,t,os⟩:Shared).TypeIs (.ref a) "function":=⟨_,e,c⟩;have b:(⟨h,g,d,t,os⟩:Shared).TypeIs (.builtin "object.__class__") "getset_descriptor":=F.typeOf_object_class;have i:=IfF.aAs;refine bDV F.slot_gs_get.plain F.entry_gs_get (F.slot_gs_get.check _ _ _ _ _ _ _ _ b (F.args_gs_get _ _ _) ?_)
 repeat (any_goals (first|assumption|wp_step))
 refine⟨Code.quiet_builtin _ (by decide +kernel),bBD F.entry_object_class ?_⟩
 repeat (any_goals (first|assumption|wp_step))
def aBt {tk:Tok}{Q:Fin->Shared->Prop}(e:h.get? a=some o)(c:o.cls=.type "function")(hq:Q (.done (.ret (.type "function"))) ⟨h,g,d,t,os⟩) :
  wpAny (model prog w) A (Builtin.«object.__getattribute__» ⟨[.ref a,.str "__class__" tk],[]⟩) Q E ⟨h,g,d,t,os⟩:=by
 have f:(⟨h,g,d,t,os⟩:Shared).TypeIs (.ref a) "function":=⟨_,e,c⟩;have b:(⟨h,g,d,t,os⟩:Shared).TypeIs (.builtin "object.__class__") "getset_descriptor":=F.typeOf_object_class;have i:=IfF.aRx;have j:=F.typeOf_object_class;have k:=F.slot_gs_get.lookup;have l:=F.slot_gs_set.lookup
 repeat (any_goals (first|assumption|wp_step))
 refine aHc e c ?_
 repeat (any_goals (first|assumption|wp_step))
def aKb {tk:Tok}{Q:bFI}(c:h.get? a=some o)(e:o.cls=.type "function")(hq:Q (.type "function") ⟨h,g,d,t,os⟩):wpAny (model prog w) A (getAttrBy (.ref a) (.str "__class__" tk) false) Q E ⟨h,g,d,t,os⟩:=by
 have b:(⟨h,g,d,t,os⟩:Shared).TypeIs (.ref a) "function":=⟨_,c,e⟩;have f:=IfF.aAu.lookup;have i:=IfF.aAu.bind (.ref a)
 repeat (any_goals (first|assumption|wp_step))
 refine bDV IfF.aAu.plain IfF.aUk (IfF.aAu.check _ _ _ _ _ _ _ _ b (F.args_object_getattribute_2 _ _) (aBt c e ?_))
 repeat (any_goals (first|assumption|wp_step))
def aD4 {Q:Option Value->Shared->Prop}(b:h.get? a=some o)(c:o.cls=.type "function")(hq:Q (some (.type "function")) ⟨h,g,d,t+1,os⟩):wpAny (model prog w) A (getAttr? (.ref a) "__class__") Q E ⟨h,g,d,t,os⟩:=by
 unfold getAttr? getAttrBy?
 repeat (any_goals (first|assumption|with_reducible apply aKb b c|wp_step))
def aDn {T:String}{dep:Int}{tk:Tok}{Q:Fin->Shared->Prop}(c:h.get? a=some o)(b:o.cls=.type "function")(hne:(Value.type "function" == Value.type T)=false)(hty:typeOf (.type T)=pure (.type "type"))
  (hsub:isSubtype (.type "function") (.type T)=pure false) (hq:Q (.done (.ret (.bool false))) ⟨h,g,d,t+1,os⟩) :
  wpAny (model prog w) A (Builtin.«isinstance.nested» ⟨[.ref a,.type T,.int dep tk],[]⟩) Q E ⟨h,g,d,t,os⟩:=by
 have e:(⟨h,g,d,t,os⟩:Shared).TypeIs (.ref a) "function":=⟨_,c,b⟩
 repeat (any_goals (first|assumption|with_reducible apply aD4 c b|wp_step))
end
def qD {a:Addr}{T:String}(e:(Value.type "function" == Value.type T)=false)(k:typeOf (.type T)=pure (.type "type"))(b:isSubtype (.type "function") (.type T)=pure false) :
  Meets (Builtin.«isinstance» ⟨[.ref a,.type T],[]⟩) (λ_ R s=>(∃o,s.heap.get? a=some o/\o.cls=.type "function")/\R (.ok (.ret (.bool false))) { s with toks:=s.toks+1 }):=
 λ_ _ _ _ s f=>by obtain⟨h,g,d,t,l⟩:=s;obtain⟨⟨o,i,c⟩,j⟩:=f;exact isinstance_outer (aDn i c e k b j)
section
variable {prog:Program}{w:World}{A:Around}{E:bFI}{s:Shared}{Q:bFI}{a:Addr}{o:Obj}
def aNe (b:s.heap.get? a=some o)(c:o.cls=.type "function")(h:Q (.bool false) { s with toks:=s.toks+1 }):wpAny (model prog w) A (call (.builtin "isinstance") [.ref a,.type "int"]) Q E s:=
 call_isinstance (qD (by decide) F.isi_meta_int IfF.sub_int) ⟨⟨o,b,c⟩,h⟩
def aJh (b:s.heap.get? a=some o)(c:o.cls=.type "function")(h:Q (.bool false) { s with toks:=s.toks+1 }):wpAny (model prog w) A (call (.builtin "isinstance") [.ref a,.type "bool"]) Q E s:=
 call_isinstance (qD (by decide) F.isi_meta_bool IfF.sub_bool) ⟨⟨o,b,c⟩,h⟩
def aL7 (b:s.heap.get? a=some o)(c:o.cls=.type "function")(h:Q (.bool false) { s with toks:=s.toks+1 }):wpAny (model prog w) A (call (.builtin "isinstance") [.ref a,.type "str"]) Q E s:=
 call_isinstance (qD (by decide) F.isi_meta_str IfF.aWl) ⟨⟨o,b,c⟩,h⟩
end
end PySem
namespace L2
open PySem PySem.Spec PyProof.Rows
section
variable {X:Cx}
def PE.imp {e:Expr}{t t':TE}(h:PE X e t)(k:∀σ H Q,t' σ H Q->t σ H Q):PE X e t':=λa s σ H Q I q=>h a s σ H Q I (k σ H Q q)
def bC9 (K:bFH):List V->Hp->VK->Prop:=λxs H Q=>∃(p:Addr) (bs:List Bool),xs=[.ref p]/\SqL K H p (bs.map V.bl)/\Q (.bl (bs.all id)) H
def all_range (bs:List Bool):(List.range bs.length).all (λi=>bs.getD i false)=bs.all id:=by
 rw[bCS,bBZ,bBZ];constructor
 ·intro h b c;obtain⟨i,a,e⟩:=List.mem_iff_getElem.mp c;have:=h i (List.mem_range.mpr a);rw[j4,d7 a] at this;rw[<-e];exact this
 ·intro h i a;have a:=List.mem_range.mp a;rw[j4,d7 a];exact h _ (bAV a)
def mQ (R:X.calm=true):cO X (.builtin "all") (bC9 X.K):=by
 intro E s σ H P S Q I r h;obtain⟨p,a,rfl,F,q⟩:=h;obtain⟨u,rfl,B⟩:=r.one;cases B;obtain⟨d,n,g,N⟩:=I.list F;have l:=n.length;rw[j9] at l;have k:p≠s.heap.objs.size:=by obtain⟨o,D,_⟩:=g.isList;exact v5 (m9 D)
 refine call_all_walk (bCD g.isList ?_);refine⟨s.heap.objs.size,_,_,_,_,_,λi=>a.getD i false,rfl,Walks.list (show X.A.in1.handled=none from I.ok.hd R) _ p k d.toArray,⟨⟨_,j5 _ rfl,rfl,rfl⟩,?_⟩,?_,λL M w=>?_⟩
 ·exact g.isList.at λo e=>d8 _ e
 ·intro i v J y O C c;have f:d[i]?=some v:=by simpa using C
  have t:i<a.length:=by rw[l];exact (List.getElem?_eq_some_iff.mp f).1
  obtain⟨u,m,G⟩:=n.get (i:=i) (x:=.bl a[i]) (by rw[v6,d7 t];rfl);rw[f] at m;cases m;cases G;have e:a.getD i false=a[i]:=by rw[j4,d7 t];rfl
  replace c:y (a.getD i false) J:=c;rw[e] at c;exact bBE c
 ·have e:(List.range d.toArray.size).all (λi=>a.getD i false)=a.all id:=by rw[j7,<-l];exact all_range a
  rw[e];refine⟨.bl (a.all id),H,?_,rfl,q⟩;exact I.kept λb o j=>w b o (by
   intro z;have:b=s.heap.objs.size:=by simpa using z
   rw[this] at j;exact absurd (m9 j) (bBO _)) (d8 _ j)
inductive Rk (K:bFH)(H:Hp):V->String->Prop
 |non:Rk K H .non "NoneType"
 |lst {a xs}:SqL K H a xs->Rk K H (.ref a) "list"
 |tup {a xs}:SqT K H a xs->Rk K H (.ref a) "tuple"
 |dct {a kvs}:H a=some (.dK kvs)->Rk K H (.ref a) "dict"
 |fn {a o}:K.lookup a=some o->o.cls=.type "function"->Rk K H (.ref a) "function"
def aYt (K:bFH):List V->Hp->VK->Prop:=λxs H Q=>∃x k T,xs=[x,.ty T]/\Rk K H x k/\(T = "int"\/T = "bool"\/T = "str")/\Q (.bl false) H
theorem tX:cO X (.builtin "isinstance") (aYt X.K):=by
 intro g s σ H t w Q I r h;obtain⟨x,k,T,rfl,m,d,q⟩:=h;obtain⟨u,v,rfl,b,p⟩:=r.two;cases p;have a:EP X g σ Q (.bool false) { s with toks:=s.toks+1 }:=⟨.bl _,H,I.tok _,rfl,q⟩;cases m with
 |non=>
  cases b;rcases d with rfl|rfl|rfl
  ·exact IsiPair.NoneType_int a
  ·exact IsiPair.NoneType_bool a
  ·exact IsiPair.NoneType_str a
 |lst hq=>
  cases b;obtain⟨f,j,⟨o,n,e,c,_⟩,l⟩:=I.list hq;rcases d with rfl|rfl|rfl
  ·exact IsiPair.list_int e c a
  ·exact IsiPair.list_bool e c a
  ·exact IsiPair.list_str e c a
 |tup hq=>
  cases b;obtain⟨f,j,⟨o,e,c,_⟩,l⟩:=I.tuple hq;rcases d with rfl|rfl|rfl
  ·exact IsiPair.tuple_int e c a
  ·exact IsiPair.tuple_bool e c a
  ·exact IsiPair.tuple_str e c a
 |dct hq=>
  cases b;obtain⟨_,_,_,_,o,_,_,e,i,_⟩:=I.hok _ _ hq;rcases d with rfl|rfl|rfl
  ·exact IsiPair.dict_int e i.1 a
  ·exact IsiPair.dict_bool e i.1 a
  ·exact IsiPair.dict_str e i.1 a
 |fn hk hc=>
  cases b;have e:=I.kIn _ _ hk;rcases d with rfl|rfl|rfl
  ·exact aNe e hc a
  ·exact aJh e hc a
  ·exact aL7 e hc a
end
def mO {X:Cx}{scope:Scope}(h:∀z∈scope.names,z.2≠.free):∀y,(y,NameKind.free)∈scope.names->X.env.kindOf y=some .cell\/X.env.kindOf y=some .free:=λy a=>absurd rfl (h _ a)
def dZ {X:Cx}{scope:Scope}(sc:Scope)(e:X.env.scope=sc)(h:∀z∈scope.names,z.2=.free->sc.names.lookup z.1=some .cell\/sc.names.lookup z.1=some .free) :
  ∀y,(y,NameKind.free)∈scope.names->X.env.kindOf y=some .cell\/X.env.kindOf y=some .free:=λy a=>by
 show X.env.scope.names.lookup y=some .cell\/X.env.scope.names.lookup y=some .free;rw[e];exact h _ a rfl
def Same.bA {K:bFH}{H H':Hp}{a:Addr}{xs:List V}(e:Same H H')(h:SqT K H a xs):SqT K H' a xs:=by
 rcases h with (h|⟨o,h⟩)|h
 ·exact .inl (.inl (e _ _ h))
 ·exact .inl (.inr ⟨o,e _ _ h⟩)
 ·exact .inr h
def bC {H:Hp}{p:Addr}(h:H p=none)(o:HO):Same H (upd H p o):=λb u q=>by rw[aP (aU q h)];exact q
theorem Rk.same {K:bFH}{H H':Hp}{v:V}{k:String}(e:Same H H')(h:Rk K H v k):Rk K H' v k:=by
 cases h with
 |non=>exact .non
 |lst q=>exact .lst (e.seq q)
 |tup q=>exact .tup (e.bA q)
 |dct q=>exact .dct (e _ _ q)
 |fn q c=>exact .fn q c
theorem yC {X:Cx}{scope:Scope}{x:Str}{σ:St}:Cap X scope [x] σ [none]:=⟨rfl,λi y v _ a=>by
 cases i with
 |zero=>cases a
 |succ i=>cases a⟩
section
def aQl {X:Cx}{scope:Scope}{N:List Str}{wi:TI}{te:TE}{σ:St}{H:Hp}{Q:VK}(xs:List V)(f:V->V)(p:St)(r:Cap X scope N σ p)(hsz:xs.length<=sizeLine)
  (w:∀R:It->Hp->Prop,(∀J:It,(∀H' i x,Same H H'->xs[i]?=some x->J.go i H'/\∀y H2,J.yld i H' y H2->H2=H'/\y=x)->(∀H',Same H H'->J.stop xs.length H')->R J H)->wi σ H R)
  (v:∀x∈xs,∀H' R l,Same H H'->R (f x) H'->te ((p.set 0 l).set 0 (some x)) H' R) (u:p[0]?=some none)
  (q:∀D,H D=none->Q (.ref D) (upd H D (.lst (xs.map f)))) :
  lN X scope N wi (cD 0) oR te σ H Q:=by
 refine⟨p,r,w _ λJ go stop D h=>?_⟩;have d:∀c:List V,Same H (upd H D (.lst c)):=λc b o e=>by rw[aP (aU e h)];exact e
 refine⟨λi m g H' c=>i<=xs.length/\m=xs.length - i/\(∃l,g=p.set 0 l)/\H'=upd H D (.lst c)/\c=(xs.take i).map f,⟨xs.length,bAG _,rfl,⟨none,?_⟩,rfl,rfl⟩,?_⟩
 ·refine (bCE λj=>?_);rw[List.getElem?_set]
  split
  ·rename_i k;subst k
   split
   ·exact u
   ·rename_i a;exact List.getElem?_eq_none_iff.mpr (by lia)
  ·rfl
 ·rintro i m g H' c ⟨hi,rfl,⟨l,rfl⟩,rfl,rfl⟩;refine⟨aH,?_⟩;by_cases a:i<xs.length
  ·right;obtain⟨n,s⟩:=go (upd H D (.lst ((xs.take i).map f))) i xs[i] (d _) (d7 a);refine⟨n,λx H2 t=>?_⟩;obtain⟨rfl,rfl⟩:=s x H2 t;unfold cD oR;dsimp only;rw[if_pos rfl];refine v xs[i] (bAV a) _ _ l (d _) ⟨aH,?_,xs.length - (i+1),by lia,a,rfl,⟨some xs[i],?_⟩,?_,?_⟩
   ·rw[j9,bAO];lia
   ·rw[bCF]
   ·rw[aW4]
   ·rw[bBK,d7 a,bBI];rfl
  ·left;have e:i=xs.length:=by lia
   subst e;refine⟨stop _ (d _),?_⟩;rw[bCW];exact q D h
def aYx {z:Str}{tl:TE}{σ:St}{H:Hp}(h:∀R:VK,R (.str z) H->tl σ H R)(R:It->Hp->Prop)
  (q:∀J:It,(∀H' i x,Same H H'->((List.range z.cps.size).map λi=>V.str (sgn z i))[i]?=some x->J.go i H'/\∀y H2,J.yld i H' y H2->H2=H'/\y=x) ->
   (∀H',Same H H'->J.stop ((List.range z.cps.size).map λi=>V.str (sgn z i)).length H')->R J H):aY2 tl σ H R:=by
 refine h _ ⟨z,rfl,q _ (λH' i x _ e=>?_) λH' _=>?_⟩
 ·rw[v6] at e;have b:i<z.cps.size:=by
   cases a:(List.range z.cps.size)[i]? with
   |none=>rw[a] at e;cases e
   |some j=>have:=(List.getElem?_eq_some_iff.mp a).1;rwa [bAL] at this
  rw[bCI b] at e;cases e;exact⟨b,λy H2 c=>c⟩
 ·rw[j9,bAL];exact j0 _
def aOz {K:bFH}{a:Addr}{xs:List V}{tl:TE}{σ:St}{H:Hp}(b:∀H',Same H H'->SqL K H' a xs)(h:∀R:VK,R (.ref a) H->tl σ H R)(R:It->Hp->Prop)
  (q:∀J:It,(∀H' i x,Same H H'->xs[i]?=some x->J.go i H'/\∀y H2,J.yld i H' y H2->H2=H'/\y=x)->(∀H',Same H H'->J.stop xs.length H')->R J H):aFb K tl σ H R:=by
 refine h _ ⟨a,rfl,⟨xs,b H (Same.refl H)⟩,q _ (λH' i x s e=>⟨⟨xs,x,b H' s,e⟩,λy H2 g=>?_⟩) λH' s=>⟨xs,b H' s,j0 _⟩⟩;obtain⟨f,d⟩:=g;have c:=d xs (b H' s);rw[e] at c;cases c;exact⟨f,rfl⟩
end
end L2
namespace PySem
abbrev uI (t:Addr)(i:Nat):Obj:={ cls:=.type "tuple_iterator",data:=.fields #[.ref t,.int (i:Int) 0] }
abbrev jJ (f0:Value)(TI TO:Addr):Obj:={ cls:=.type "zip",dict:=none,data:=.fields #[f0,.bool false,.bool false,.ref TI,.ref TO],slots:=#[] }
abbrev dU (a b:Value):Obj:={ cls:=.type "tuple",data:=.seq #[a,b] }
section
variable {prog:Program}{w:World}{A:Around}{E:bFI}{s:Shared}
def aB5 {it t:Addr}{i:Nat}{its:Array Value}{x:Value}{Q:bFI}(a:s.heap.get? it=some (uI t i))(e:s.heap.IsTuple t its)(g:its[i]?=some x)
  (q:∀h',h'.get? it=some (uI t (i+1))->Heap.SameBut it s.heap h'->Q x { s with heap:=h' }):wpAny (model prog w) A (Builtin.SmallTypes.nextOf (.ref it)) Q E s:=by
 have d:s.TypeIs (.ref it) "tuple_iterator":=⟨_,a,rfl⟩;obtain⟨h,c,_,f,b⟩:=e;unfold Builtin.SmallTypes.nextOf;refine c7 (bAH (name:=Str.ofString "__next__") d F.slot_tuple_iterator_next (bAE F.slot_tuple_iterator_next d F.entry_tuple_iterator_next ?_ (F.args_tuple_iterator_next_1 _)));refine c7 (m:=field (.ref it) 0) (bAJ a rfl (x:=.ref t) rfl ?_);refine (if_neg (show ¬ ((Value.ref t == Value.none)=true) from v4)).symm ▸ ?_;refine c7 (m:=field (.ref it) 1) (bAJ a rfl (x:=.int i 0) rfl ?_);refine c7 (m:=seqItems? (.ref t)) (bAU c b ?_);simp only[bAR,g];refine c7 (bDI a rfl (by simp) (d9 ⟨x,rfl,d9 (q _ ?_ (bAY ..))⟩));exact bBG _ a rfl
def aBd {it t:Addr}{i:Nat}{its:Array Value}{Q:bFI}(g:A.handled=none)(b:s.heap.get? it=some (uI t i))(h:s.heap.IsTuple t its)(k:its[i]?=none)
  (q:∀h' e,Heap.ExtBut it s.heap h'->(∃o,h'.get? e=some o/\o.cls=.type "StopIteration")->E (.ref e) { s with heap:=h' }):wpAny (model prog w) A (Builtin.SmallTypes.nextOf (.ref it)) Q E s:=by
 have f:s.TypeIs (.ref it) "tuple_iterator":=⟨_,b,rfl⟩;obtain⟨l,d,_,j,c⟩:=h;unfold Builtin.SmallTypes.nextOf;refine c7 (bAH (name:=Str.ofString "__next__") f F.slot_tuple_iterator_next (bAE F.slot_tuple_iterator_next f F.entry_tuple_iterator_next ?_ (F.args_tuple_iterator_next_1 _)));refine c7 (m:=field (.ref it) 0) (bAJ b rfl (x:=.ref t) rfl ?_);refine (if_neg (show ¬ ((Value.ref t == Value.none)=true) from v4)).symm ▸ ?_;refine c7 (m:=field (.ref it) 1) (bAJ b rfl (x:=.int i 0) rfl ?_);refine c7 (m:=seqItems? (.ref t)) (bAU d c ?_);simp only[bAR,k];refine c7 (bDD (c7 (bDI b rfl (by simp) ?_)));unfold Builtin.SmallTypes.stopIteration;refine c7 ?_;simp only[newExc,newTuple];refine c7 (bAK ?_ (by size_fits));refine c7 (m:=firstArgMember _ _) (bEC (a:=Value.none) (by first|rfl|(simp only[firstArgMember];rfl)) ?_);refine bAK ?_ (by size_fits);simp only[raiseNew];refine c7 (bEX ?_);first|rw[show A.in1.handled=none from g]|rw[g]
 refine c7 (d9 (bFB ?_));exact q _ _ (((bAY ..).extBut.push _).push _) ⟨_,j5 _ rfl,rfl⟩
structure qK (z TI TO a b:Addr):Prop where
 h1:TI≠z
 h2:TO≠z
 h3:a≠z
 h4:b≠z
 h5:TI≠TO
 h6:TI≠a
 h7:TI≠b
 h8:TO≠a
 h9:TO≠b
 h10:a≠b
def wC {T:Addr}{a b x:Value}{k:Nat}{Q:Unit->Shared->Prop}(c:s.heap.get? T=some (dU a b))
  (q:∀h',h'.get? T=some { cls:=.type "tuple",data:=.seq ((#[a,b]:Array Value).setIfInBounds k x) }->Heap.SameBut T s.heap h'->Q () { s with heap:=h' }) :
  wpAny (model prog w) A (updateSeq T (·.setIfInBounds k x)) Q E s:=by
 refine wpAny_updateSeq c rfl (q _ ?_ (bAY ..));rw[bBG _ c rfl];simp[Obj.mapSeq]
def aP5 {z TI TO i1 i2 t u:Addr}{k:Nat}{xs ys:Array Value}{x y a b:Value}{Q:Option Value->Shared->Prop}(D:qK z TI TO i1 i2)
  (hz:s.heap.get? z=some (jJ .none TI TO)) (a0:s.heap.get? TI=some (dU (.ref i1) (.ref i2))) (a1:s.heap.get? TO=some (dU a b))
  (g1:s.heap.get? i1=some (uI t k)) (g2:s.heap.get? i2=some (uI u k)) (ht:s.heap.IsTuple t xs) (hu:s.heap.IsTuple u ys) (hx:xs[k]?=some x) (hy:ys[k]?=some y)
  (t1:t≠z) (t2:t≠TO) (t3:t≠i1) (t4:t≠i2) (u1:u≠z) (u2:u≠TO) (u3:u≠i1) (u4:u≠i2)
  (q:∀h',h'.get? z=some (jJ (rawInt s.heap.objs.size) TI TO)->h'.get? TO=some (dU x y)->h'.get? i1=some (uI t (k+1))->h'.get? i2=some (uI u (k+1))->h'.get? s.heap.objs.size=some (dU x y) ->
   (∀c o,c≠z->c≠TO->c≠i1->c≠i2->s.heap.get? c=some o->h'.get? c=some o)->Q (some (.ref s.heap.objs.size)) { s with heap:=h' }) :
  wpAny (model prog w) A (pyNext (.ref z)) Q E s:=by
 have W:s.TypeIs (.ref z) "zip":=⟨_,hz,rfl⟩;unfold pyNext;refine c7 (bCB (bAH (name:=Str.ofString "__next__") W F.slot_zip_next (bAE F.slot_zip_next W F.entry_zip_next ?_ (F.args_zip_next_1 _))));refine c7 (m:=field (.ref z) 2) (bAJ hz rfl (x:=.bool false) rfl ?_);refine c7 (m:=field (.ref z) 3) (bAJ hz rfl (x:=.ref TI) rfl (c7 (bAU a0 rfl ?_)));refine c7 (m:=Builtin.SmallTypes.ownedTupleIsFree (.ref z)) ?_;unfold Builtin.SmallTypes.ownedTupleIsFree;refine c7 (bAJ hz rfl (x:=.none) rfl (d9 ?_));simp only[if_true];refine c7 (bDD (c7 (bAJ hz rfl (x:=.ref TO) rfl (c7 (bAI hz (by simp) λV O g=>?_)))));replace O:V.get? z=some (jJ .ellipsis TI TO):=O;refine c7 ?_;simp only[bDX,bD5,bCY,bEH];refine c7 (c7 (bDE ?_));refine c7 (m:=Builtin.SmallTypes.nextOf (.ref i1)) (aB5 (s:={ s with heap:=V }) (g.extBut _ _ D.h3 g1) (ht.extBut g.extBut t1) hx λZ M j=>d9 ?_);have p:Z.get? TO=some (dU a b):=j.extBut _ _ D.h8 (g.extBut _ _ D.h2 a1);refine c7 (bAU p rfl (c7 (wC (s:={ s with heap:=Z }) p λU i l=>c7 (bE0 (d9 ?_)))));replace i:U.get? TO=some (dU x b):=i;refine c7 (c7 (bDE ?_));refine c7 (m:=Builtin.SmallTypes.nextOf (.ref i2)) (aB5 (s:={ s with heap:=U }) (l.extBut _ _ D.h9.symm (j.extBut _ _ D.h10.symm (g.extBut _ _ D.h4 g2))) (((hu.extBut g.extBut u1).extBut j.extBut u3).extBut l.extBut u2) hy λY L r=>d9 ?_);have B:Y.get? TO=some (dU x b):=r.extBut _ _ D.h9 i;refine c7 (bAU B rfl (c7 (wC (s:={ s with heap:=Y }) B λd f v=>c7 (bE0 (d9 (d9 ?_))))));replace f:d.get? TO=some (dU x y):=f;refine c7 (bAU f rfl (c7 (bEI ?_)));have n:d.objs.size=s.heap.objs.size:=by rw[v.1,r.1,l.1,j.1,g.1]
 have X:d.get? z=some (jJ .ellipsis TI TO):=v.extBut _ _ D.h2.symm (r.extBut _ _ D.h4.symm (l.extBut _ _ D.h2.symm (j.extBut _ _ D.h3.symm O)));have kp:∀c o,c≠z->c≠TO->c≠i1->c≠i2->s.heap.get? c=some o->d.get? c=some o:=λc o h H N P e=>v.extBut _ _ H (r.extBut _ _ P (l.extBut _ _ H (j.extBut _ _ N (g.extBut _ _ h e))));have K:d.get? i1=some (uI t (k+1)):=v.extBut _ _ D.h8.symm (r.extBut _ _ D.h10 (l.extBut _ _ D.h8.symm M));have J:d.get? i2=some (uI u (k+1)):=v.extBut _ _ D.h9.symm L;refine c7 (m:=Builtin.SmallTypes.ownedTupleHandOut (.ref z) (.ref d.objs.size)) ?_;unfold Builtin.SmallTypes.ownedTupleHandOut;have z6:(d.push (dU x y)).get? z=some (jJ .ellipsis TI TO):=d8 _ X;refine c7 (bAI z6 (by simp) λh7 R T=>?_);replace R:h7.get? z=some (jJ (rawInt d.objs.size) TI TO):=R;refine bAI R (by simp) λI G s8=>?_;replace G:I.get? z=some (jJ (rawInt d.objs.size) TI TO):=G;have C:∀c o,c≠z->d.get? c=some o->I.get? c=some o:=λc o h e=>s8.extBut _ _ h (T.extBut _ _ h (d8 _ e));have S:d.objs.size≠z:=bCU (m9 X);have T8:I.get? d.objs.size=some (dU x y):=s8.extBut _ _ S (T.extBut _ _ S (j5 _ rfl));rw[n] at G T8;refine d9 ⟨_,rfl,d9 ?_⟩;show Q (some (.ref d.objs.size)) _;rw[n];exact q I G (C _ _ D.h2 f) (C _ _ D.h3 K) (C _ _ D.h4 J) T8 λc o h H N P e=>C c o h (kp c o h H N P e)
def aS1 {z TI TO L i2 t:Addr}{k:Nat}{xs:Array Value}{a b:Value}{Q:Option Value->Shared->Prop}(I:A.handled=none)(D:qK z TI TO L i2)
  (hz:s.heap.get? z=some (jJ .none TI TO)) (y:s.heap.get? TI=some (dU (.ref L) (.ref i2))) (hTO:s.heap.get? TO=some (dU a b))
  (J:s.heap.get? L=some (uI t k)) (K:s.heap.IsTuple t xs) (M:xs[k]?=none) (N:t≠z)
  (q:∀h',(∀c o,c≠z->c≠TO->c≠L->c≠i2->s.heap.get? c=some o->h'.get? c=some o)->Q none { s with heap:=h' }) :
  wpAny (model prog w) A (pyNext (.ref z)) Q E s:=by
 have l:s.TypeIs (.ref z) "zip":=⟨_,hz,rfl⟩;unfold pyNext;refine c7 (bCB (bAH (name:=Str.ofString "__next__") l F.slot_zip_next (bAE F.slot_zip_next l F.entry_zip_next ?_ (F.args_zip_next_1 _))));refine c7 (m:=field (.ref z) 2) (bAJ hz rfl (x:=.bool false) rfl ?_);refine c7 (m:=field (.ref z) 3) (bAJ hz rfl (x:=.ref TI) rfl (c7 (bAU y rfl ?_)));refine c7 (m:=Builtin.SmallTypes.ownedTupleIsFree (.ref z)) ?_;unfold Builtin.SmallTypes.ownedTupleIsFree;refine c7 (bAJ hz rfl (x:=.none) rfl (d9 ?_));simp only[if_true];refine c7 (bDD (c7 (bAJ hz rfl (x:=.ref TO) rfl (c7 (bAI hz (by simp) λj g h=>?_)))));replace g:j.get? z=some (jJ .ellipsis TI TO):=g;refine c7 ?_;simp only[bDX,bD5,bCY,bEH];refine c7 (c7 (bDE ?_));refine c7 (m:=Builtin.SmallTypes.nextOf (.ref L)) (aBd (s:={ s with heap:=j }) I (h.extBut _ _ D.h3 J) (K.extBut h.extBut N) M λv e r G=>?_);obtain⟨C,d,f⟩:=G;have n:v.get? z=some (jJ .ellipsis TI TO):=r _ _ D.h3.symm g;have i:e≠z:=λx=>by subst x;rw[n] at d;cases d;simp at f
 refine bAI n (by simp) λH _ p=>?_;refine c7 (bCX (T:="StopIteration") (b:=true) ⟨C,p.extBut _ _ i d,f⟩ isSubtype_stop ?_);exact d9 (q _ λc o u _ B _ x=>p.extBut _ _ u (r _ _ B (h.extBut _ _ u x)))
end
end PySem
namespace PySem
section
variable {prog:Program}{w:World}{A:Around}{E:bFI}{s:Shared}
abbrev zT1 (h:Heap)(t:Addr):Heap:=h.push (uI t 0)
abbrev zT2 (h:Heap)(t u:Addr):Heap:=(zT1 h t).push (uI u 0)
abbrev zT3 (h:Heap)(t u:Addr):Heap:=(zT2 h t u).push (dU (.ref h.objs.size) (.ref (zT1 h t).objs.size))
abbrev zT4 (h:Heap)(t u:Addr):Heap:=(zT3 h t u).push (dU .none .none)
abbrev zT5 (h:Heap)(t u:Addr):Heap:=(zT4 h t u).push (jJ .none (zT2 h t u).objs.size (zT3 h t u).objs.size)
def aLv (t u:Addr)(xs ys:Array Value):Meets (Builtin.«zip.__new__» ⟨[.type "zip",.ref t,.ref u],[]⟩)
  (λ_ R s=>s.heap.IsTuple t xs/\s.heap.IsTuple u ys/\R (.ok (.ret (.ref (zT4 s.heap t u).objs.size))) { s with heap:=zT5 s.heap t u }):=
 .of_wp λc w A R s h=>by
  obtain⟨f,g,d,b,a⟩:=s;obtain⟨k,m,h⟩:=h;have e:=sub_zip;have i:Heap.IsTuple (Shared.heap ⟨f,g,d,b,a⟩) t xs:=k;have j:Heap.IsTuple (Shared.heap ⟨f.push { cls:=.type "tuple_iterator",data:=.fields #[.ref t,.int 0 0] },g,d,b,a⟩) u ys:=by obtain⟨o,l,r⟩:=m;exact⟨o,d8 _ l,r⟩
  wp_walk using bE4 i,bE4 j;exact⟨_,rfl,h⟩
def aQ9 {t u:Addr}{xs ys:Array Value}{Q:bFI}(c:s.heap.IsTuple t xs)(b:s.heap.IsTuple u ys)(q:Q (.ref (zT4 s.heap t u).objs.size) { s with heap:=zT5 s.heap t u }) :
  wpAny (model prog w) A (call (.type "zip") [.ref t,.ref u]) Q E s:=by
 refine callType_new F.called_zip (by decide) (F.typeCall_zip_2 _ _) (F.newCall_zip_2 _ _) (λa=>F.args_object_init_3 a _ _) F.entry_zip_new (aLv t u xs ys) ⟨c,b,?_⟩;exact⟨⟨_,j5 _ rfl,rfl⟩,q⟩
end
end PySem
namespace L2
open PySem PySem.Spec PyProof.Rows
section
variable {X:Cx}{bFL:bFJ}{σ:St}{H:Hp}{s:Shared}
def Inv.tup_ne {t b:Addr}{xs:List V}(I:Inv X bFL σ H s)(h:SqT X.K H t xs)(f:uD X bFL H b):t≠b:=by
 rintro rfl;obtain⟨a,i,j,c,_⟩:=f;rcases h with (h|⟨o,h⟩)|⟨o,g,n,d,_⟩
 ·rw[a] at h;cases h
 ·rw[a] at h;cases h
 ·have e:=I.ok.mod.kin t o d;rcases c with z|z
  ·exact I.ok.noex t o e z
  ·exact absurd (bAA (m9 e) (bAM I.ok.bsz z)) (bBO _)
theorem Inv.drawn {ch:List Addr}{h':Heap}{vs:List V}{its:List Value}{T:Addr}(I:Inv X bFL σ H s)(f:∀b∈ch,uD X bFL H b)(h:∀b o,b∉ch->s.heap.get? b=some o->h'.get? b=some o)
  (B:s.heap.objs.size<=T) (E:Vals vs its) (hz:vs.length<=sizeLine) (G:aAg h' T its.toArray) (hth:∀b∈ch,∃o,h'.get? b=some o):Inv X bFL σ (upd H T (.tup vs)) { s with heap:=h' }:=by
 have d:H T=none:=I.hok.fresh B;have t:∀b o,s.heap.get? b=some o->b≠T:=λb o e=>v5 (bAA (m9 e) B);have g:∀b u,H b=some u->b∉ch:=λb u e z=>by rw[(f b z).1] at e;cases e
 refine I.step (g':=s.gens) (d':=s.drawn) (t':=s.toks) (ch:=ch) (λb i=>?_) (λb o _ _ a e _=>h b o a e) (λb o _ _ a e _=>⟨o.slots,h b o a e⟩) (λb o a e n=>by rw[aP (t b o e)];exact n)
  (λb o a e=>⟨o,h b o a e⟩) (λb y e=>by rw[aP (aU e d)];exact e) (λb o u e=>by rw[aP (aU e d)];exact e) (λb F e=>⟨#[],by rw[aP (aU e d),e];simp⟩) (λm D=>?_) (λb u e=>?_) I.bare
 ·obtain⟨_,l,_,C,A,w⟩:=f b i;exact⟨C,l,A,w⟩
 ·obtain⟨o,x,p,k,r⟩:=D;exact⟨o,x,p,h _ o (λz=>(f _ z).2.1 rfl) k,r⟩
 ·by_cases i:b=T
  ·subst i;rw[aH] at e;cases e;exact⟨hz,its,E,G⟩
  ·rw[aP i] at e;refine (I.hok b u e).stay (λc v j q=>h c v ?_ q) (λc q=>by rw[aP (aU q d)];exact q) λc y q=>by rw[aP (aU q d)];exact q
   rcases j with z|z
   ·rw[z];exact g b u e
   ·exact g c _ z
def Inv.aGw {ch:List Addr}{h':Heap}(I:Inv X bFL σ H s)(d:∀b∈ch,uD X bFL H b)(g:∀b o,b∉ch->s.heap.get? b=some o->h'.get? b=some o):Inv X bFL σ H { s with heap:=h' }:=by
 have f:∀b u,H b=some u->b∉ch:=λb u e z=>by rw[(d b z).1] at e;cases e
 refine I.step (g':=s.gens) (d':=s.drawn) (t':=s.toks) (ch:=ch) (λb w=>?_) (λb o _ _ a e _=>g b o a e) (λb o _ _ a e _=>⟨o.slots,g b o a e⟩) (λ_ _ _ _ n=>n)
  (λb o a e=>⟨o,g b o a e⟩) (λ_ _ e=>e) (λ_ _ _ e=>e) (λb A e=>⟨#[],by rw[e];simp⟩) (λm y=>?_) (λb u e=>?_) I.bare
 ·obtain⟨_,j,_,x,t,l⟩:=d b w;exact⟨x,j,t,l⟩
 ·obtain⟨o,p,k,i,r⟩:=y;exact⟨o,p,k,g _ o (λz=>(d _ z).2.1 rfl) i,r⟩
 ·refine (I.hok b u e).stay (λc v h q=>g c v ?_ q) (λ_ q=>q) λ_ _ q=>q;rcases h with z|z
  ·rw[z];exact f b u e
  ·exact f c _ z
end
def Itz (K:bFH)(t u:Addr)(xs ys:List V):It:=
 ⟨λi H=>SqT K H t xs/\SqT K H u ys/\i<xs.length/\i<ys.length,λi H v H'=>∃T a b,H T=none/\v=.ref T/\H'=upd H T (.tup [a,b])/\xs[i]?=some a/\ys[i]?=some b,λi H=>SqT K H t xs/\xs.length<=i⟩
def ztn (z TI TO i1 i2 t u:Addr)(i:Nat)(h:Heap):Prop:=
 h.get? z=some (jJ .none TI TO)/\h.get? TI=some (dU (.ref i1) (.ref i2))/\(∃a b,h.get? TO=some (dU a b))/\h.get? i1=some (uI t i)/\h.get? i2=some (uI u i)
def aUq {P:Program}{w:World}{K:bFH}{elts:List Expr}{kt:Nat}{pos:Pos}{z TI TO J F t u:Addr}{xs ys:List V}(D:qK z TI TO J F) :
  Turn P w K (.Tuple elts kt pos) (Itz K t u xs ys) [z,TI,TO,J,F] z (ztn z TI TO J F t u) where
 mem:=by simp
 obj:=λi h f b d=>by
  obtain⟨p,g,⟨a,c,l⟩,n,r⟩:=f;simp only[bAC,w6,or_false] at d;rcases d with rfl|rfl|rfl|rfl|rfl
  ·exact⟨_,p,λv z=>by cases (show Data.fields _=Data.cell v from z)⟩
  ·exact⟨_,g,λv z=>by cases (show Data.seq _ _=Data.cell v from z)⟩
  ·exact⟨_,l,λv z=>by cases (show Data.seq _ _=Data.cell v from z)⟩
  ·exact⟨_,n,λv z=>by cases (show Data.fields _=Data.cell v from z)⟩
  ·exact⟨_,r,λv z=>by cases (show Data.fields _=Data.cell v from z)⟩
 keep:=λi h C f k=>by obtain⟨p,g,⟨a,c,l⟩,n,r⟩:=f;exact⟨k z (by simp) _ p,k TI (by simp) _ g,⟨a,c,k TO (by simp) _ l⟩,k J (by simp) _ n,k F (by simp) _ r⟩
 item:=by
  intro X L S Q hc i q s σ H E I j f R;subst L S Q;obtain⟨p,g,⟨a0,c0,l⟩,n,r⟩:=f;obtain⟨m,A,l1,l2⟩:=R;obtain⟨its,N,O,hz⟩:=I.tuple m;obtain⟨U,M,pu,a7⟩:=I.tuple A;obtain⟨x,hx,rx⟩:=N.get (d7 l1);obtain⟨y,hy,ry⟩:=M.get (d7 l2);have T:=j z (by simp);have fO:=j TO (by simp);have W:=j J (by simp);have f2:=j F (by simp);refine aP5 D p g l n r (show s.heap.IsTuple t its.toArray from O) (show s.heap.IsTuple u U.toArray from pu) (by simpa using hx) (by simpa using hy) (I.tup_ne m T) (I.tup_ne m fO) (I.tup_ne m W) (I.tup_ne m f2)
   (I.tup_ne A T) (I.tup_ne A fO) (I.tup_ne A W) (I.tup_ne A f2) λC a1 a2 Y a4 Z G=>?_
  refine⟨_,rfl,?_⟩;have fT:H s.heap.objs.size=none:=I.hok.fresh (j0 _);have I1:Inv X q σ (upd H s.heap.objs.size (.tup [xs[i],ys[i]])) { s with heap:=C }:=by
   refine I.drawn (ch:=[z,TO,J,F]) (its:=[x,y]) (λb d=>?_) (λb o d e=>?_) (j0 _) (.cons rx (.cons ry .nil)) (small (by simp)) (.of Z rfl ⟨_,Z,rfl,_,rfl⟩) (λb d=>?_)
   ·refine j b ?_;simp only[bAC,w6,or_false] at d ⊢;rcases d with h|h|h|h <;> simp[h]
   ·simp only[bAC,w6,or_false,not_or] at d;exact G b o d.1 d.2.1 d.2.2.1 d.2.2.2 e
   ·simp only[bAC,w6,or_false] at d;rcases d with rfl|rfl|rfl|rfl
    ·exact⟨_,a1⟩
    ·exact⟨_,a2⟩
    ·exact⟨_,Y⟩
    ·exact⟨_,a4⟩
  have nT:∀b∈[z,TI,TO,J,F],b≠s.heap.objs.size:=λb d=>by
   have e:∃o,s.heap.get? b=some o:=by
    simp only[bAC,w6,or_false] at d;rcases d with rfl|rfl|rfl|rfl|rfl
    ·exact⟨_,p⟩
    ·exact⟨_,g⟩
    ·exact⟨_,l⟩
    ·exact⟨_,n⟩
    ·exact⟨_,r⟩
   obtain⟨o,e⟩:=e;exact v5 (m9 e)
  refine bFA (s:={ s with heap:=C }) a1 λh2 z2 B=>?_;obtain⟨g0,g1,g2,g3,g4,g5⟩:=T;have I2:Inv X q σ (upd H s.heap.objs.size (.tup [xs[i],ys[i]])) { s with heap:=h2 }:=Inv.turned (s:={ s with heap:=C }) I1 (t':=s.toks) (it:=z) (λb o d e=>(B.2 b d).trans e) (by rw[aP (nT z (by simp))];exact g0) g1 g3 g4 g5;refine⟨.ref s.heap.objs.size,_,I2,rfl,⟨_,_,_,fT,rfl,rfl,d7 l1,d7 l2⟩,?_,λb d=>by rw[aP (nT b d)];exact (j b d).1⟩;exact⟨z2,B.extBut _ _ D.h1 (G TI _ D.h1 D.h5 D.h6 D.h7 g),⟨_,_,B.extBut _ _ D.h2 a2⟩,B.extBut _ _ D.h3 Y,B.extBut _ _ D.h4 a4⟩
 done:=by
  intro X L S Q hc i q s σ H E I j f R;subst L S Q;obtain⟨p,g,⟨a0,c0,l⟩,n,r⟩:=f;obtain⟨m,hl⟩:=R;obtain⟨its,N,O,hz⟩:=I.tuple m;have a6:=N.length;refine aS1 (I.ok.hd hc) D p g l n (show s.heap.IsTuple t its.toArray from O) (by simp;lia) (I.tup_ne m (j z (by simp))) λC G=>⟨rfl,?_⟩;refine Inv.aGw (ch:=[z,TO,J,F]) I (λb d=>j b ?_) λb o d e=>?_
  ·simp only[bAC,w6,or_false] at d ⊢;rcases d with h|h|h|h <;> simp[h]
  ·simp only[bAC,w6,or_false,not_or] at d;exact G b o d.1 d.2.1 d.2.2.1 d.2.2.2 e
 self:=λ_ _ _ _ _ f h=>bEU f.1 h
section
variable {X:Cx}
def aTn (K:bFH)(ta:TA):TI:=fun σ H R=>ta σ H λvs H1=>∃t u xs ys,vs=[.ref t,.ref u]/\SqT K H1 t xs/\SqT K H1 u ys/\R (Itz K t u xs ys) H1
theorem aW0 {elts:List Expr}{kt:Nat}{tp:Pos}{a b:Expr}{ta:TA}{p O:Pos}(U:Gl X "zip")(hm:X.mg "zip"=none)(T:PA X [a,b] ta)(Y:starEach [a,b] X.env=(false,eval a X.env)::starEach [b] X.env:=by rfl)
  (P:starEach [b] X.env=[(false,eval b X.env)]:=by rfl):PI X (.Tuple elts kt tp) (.Call (.Name "zip" p) [a,b] [] O) (aTn X.K ta):=by
 intro d s σ H R I h;refine Call_ (sY I U hm aU5 (bBR (thn (T O d s σ H _ I h) λZ c ⟨W,w,g,y,G⟩=>?_) Y (by rw[P];rfl)));obtain⟨t,u,xs,ys,e,A,B,q⟩:=G;subst e;obtain⟨j,V,N,S⟩:=g.tuple A;obtain⟨l,E,Q,L⟩:=g.tuple B;cases y with
 |cons r rr=>
  cases rr with
  |cons r' rr'=>
   cases rr';cases r;cases r';refine aQ9 (show c.heap.IsTuple t j.toArray from N) (show c.heap.IsTuple u l.toArray from Q) ?_;have k:(zT1 c.heap t).objs.size=c.heap.objs.size+1:=bAX ..;have m:(zT2 c.heap t u).objs.size=c.heap.objs.size+2:=by rw[bAX,k]
   have i:(zT3 c.heap t u).objs.size=c.heap.objs.size+3:=by rw[bAX,m]
   have n:(zT4 c.heap t u).objs.size=c.heap.objs.size+4:=by rw[bAX,i]
   have D:qK (zT4 c.heap t u).objs.size (zT2 c.heap t u).objs.size (zT3 c.heap t u).objs.size c.heap.objs.size (zT1 c.heap t).objs.size:=by constructor <;> (show (_:Nat)≠(_:Nat);rw[Ne];intro h;simp only[k,m,i,n] at h;lia)
   have v:(zT5 c.heap t u).get? (zT4 c.heap t u).objs.size=some (jJ .none (zT2 c.heap t u).objs.size (zT3 c.heap t u).objs.size):=j5 _ rfl;have J:(zT5 c.heap t u).get? (zT3 c.heap t u).objs.size=some (dU .none .none):=d8 _ (j5 _ rfl);have C:(zT5 c.heap t u).get? (zT2 c.heap t u).objs.size=some (dU (.ref c.heap.objs.size) (.ref (zT1 c.heap t).objs.size)):=d8 _ (d8 _ (j5 _ rfl));have M:(zT5 c.heap t u).get? (zT1 c.heap t).objs.size=some (uI u 0):=d8 _ (d8 _ (d8 _ (j5 _ rfl)));have z:(zT5 c.heap t u).get? c.heap.objs.size=some (uI t 0):=d8 _ (d8 _ (d8 _ (d8 _ (j5 _ rfl))));have F:Inv X d σ w { c with heap:=zT5 c.heap t u }:=g.kept (t':=c.toks) λb o e=>d8 _ (d8 _ (d8 _ (d8 _ (d8 _ e))));refine bEU (s:={ c with heap:=zT5 c.heap t u }) v ⟨_,_,_,_,w,rfl,F,aUq (xs:=xs) (ys:=ys) D,⟨v,C,⟨_,_,J⟩,z,M⟩,λb x=>?_,q⟩;have f:c.heap.objs.size<=b:=by
    simp only[bAC,w6,or_false] at x;rcases x with rfl|rfl|rfl|rfl|rfl
    ·rw[n];exact bBT ..
    ·rw[m];exact bBT ..
    ·rw[i];exact bBT ..
    ·exact j0 _
    ·rw[k];exact bBT ..
   exact g.aGh f (g.hok.fresh f)
inductive Tk (K:bFH)(H:Hp):V->Bool->Prop
 |int {i}:Tk K H (.int i) false
 |str {x}:Tk K H (.str x) false
 |bl {b}:Tk K H (.bl b) false
 |non:Tk K H .non false
 |lst {a xs}:SqL K H a xs->Tk K H (.ref a) false
 |dct {a kvs}:H a=some (.dK kvs)->Tk K H (.ref a) false
 |tup {a xs}:SqT K H a xs->Tk K H (.ref a) true
def bCy (K:bFH):List V->Hp->VK->Prop:=λxs H Q=>∃x b,xs=[x,.ty "tuple"]/\Tk K H x b/\Q (.bl b) H
theorem jR:cO X (.builtin "isinstance") (bCy X.K):=by
 intro f s σ H w y Q I r h;obtain⟨x,b,rfl,l,q⟩:=h;obtain⟨u,v,rfl,a,p⟩:=r.two;cases p;have k:EP X f σ Q (.bool b) s:=⟨.bl _,H,I,rfl,q⟩;have d:EP X f σ Q (.bool b) { s with toks:=s.toks+1 }:=⟨.bl _,H,I.tok _,rfl,q⟩;cases l with
 |int=>obtain⟨t,rfl⟩:=a;exact IsiPair.int_tuple d
 |str=>obtain⟨t,rfl⟩:=a;exact IsiPair.str_tuple d
 |bl=>cases a;exact IsiPair.bool_tuple d
 |non=>cases a;exact IsiPair.NoneType_tuple d
 |lst hq=>cases a;obtain⟨g,i,⟨o,n,e,c,_⟩,j⟩:=I.list hq;exact IsiPair.list_tuple e c d
 |dct hq=>cases a;obtain⟨_,_,_,_,o,_,_,e,m,_⟩:=I.hok _ _ hq;exact IsiPair.dict_tuple e m.1 d
 |tup hq=>cases a;obtain⟨g,i,⟨o,e,c,_⟩,j⟩:=I.tuple hq;exact IsiPair.tuple_tuple e c k
end
section
variable {X:Cx}{scope:Scope}{N:List Str}{wi:TI}{te:TE}{σ:St}{H:Hp}{Q:VK}
def mG {σ0:St}{j:Nat}(c:σ0[j]?=some none):σ0=σ0.set j none:=by
 refine (bCE λi=>?_);rw[List.getElem?_set]
 split
 ·rename_i a;subst a
  split
  ·exact c
  ·rename_i b;exact List.getElem?_eq_none_iff.mpr (by lia)
 ·rfl
def aEu (xs:List V)(f:V->V)(k:St)(n:Cap X scope N σ k)(hsz:xs.length<=sizeLine)
  (v:∀R:It->Hp->Prop,(∀J:It,(∀H' i x,Same H H'->xs[i]?=some x->J.go i H'/\∀y H2,J.yld i H' y H2->H2=H'/\y=x)->(∀H',Same H H'->J.stop xs.length H')->R J H)->wi σ H R)
  (u:∀x∈xs,∀H' R l,Same H H'->(∀H2,Same H' H2->R (f x) H2)->te ((k.set 0 l).set 0 (some x)) H' R) (t:k[0]?=some none)
  (q:∀D H',Same H H'->H' D=some (.lst (xs.map f))->Q (.ref D) H') :
  lN X scope N wi (cD 0) oR te σ H Q:=by
 refine⟨k,n,v _ λJ go stop D h=>?_⟩;refine⟨λi m d H' c=>i<=xs.length/\m=xs.length - i/\(∃l,d=k.set 0 l)/\Same H H'/\H' D=some (.lst c)/\c=(xs.take i).map f,⟨xs.length,bAG _,rfl,⟨none,mG t⟩,bC h _,aH,rfl⟩,?_⟩;rintro i m d H' c ⟨hi,rfl,⟨l,rfl⟩,sm,hL,rfl⟩;refine⟨hL,?_⟩;by_cases a:i<xs.length
 ·right;obtain⟨j,p⟩:=go H' i xs[i] sm (d7 a);refine⟨j,λx H2 r=>?_⟩;obtain⟨rfl,rfl⟩:=p x H2 r;unfold cD oR;dsimp only;rw[if_pos rfl];refine u xs[i] (bAV a) _ _ l sm λs g=>⟨g _ _ hL,?_,xs.length - (i+1),by lia,a,rfl,⟨some xs[i],?_⟩,?_,aH,?_⟩
  ·rw[j9,bAO];lia
  ·rw[bCF]
  ·intro b o e;rw[aP (aU e h)];exact g _ _ (sm _ _ e)
  ·rw[bBK,d7 a,bBI];rfl
 ·left;have e:i=xs.length:=by lia
  subst e;refine⟨stop _ sm,?_⟩;rw[bCW] at hL;exact q D _ sm hL
def aRw {K:bFH}{tl:TA}{t u:Addr}(xs ys:List V)(f:V->V->V)(s:St)(w:Cap X scope N σ s)(hsz:xs.length<=sizeLine)(hl:xs.length=ys.length)
  (j:SqT K H t xs) (A:SqT K H u ys) (I:∀R:List V->Hp->Prop,R [.ref t,.ref u] H->tl σ H R)
  (G:∀(i:Nat) (x y:V),xs[i]?=some x->ys[i]?=some y->∀H' R l1 l2,Same H H'->(∀H2,Same H' H2->R (f x y) H2)->te ((((s.set 0 l1).set 1 l2).set 0 (some x)).set 1 (some y)) H' R) (E:s[0]?=some none) (F:s[1]?=some none)
  (q:∀D H',Same H H'->H' D=some (.lst (List.zipWith f xs ys))->Q (.ref D) H') :
  lN X scope N (aTn K tl) (aNo K 2 (uP (cD 0) (uP (cD 1) aQj))) oR te σ H Q:=by
 refine⟨s,w,I _ ⟨t,u,xs,ys,rfl,j,A,λD r=>?_⟩⟩;refine⟨λi m n H' g=>i<=xs.length/\m=xs.length - i/\(∃l1 l2,n=(s.set 0 l1).set 1 l2)/\Same H H'/\H' D=some (.lst g)/\g=(List.zipWith f xs ys).take i,⟨xs.length,bAG _,rfl,⟨none,none,?_⟩,bC r _,aH,rfl⟩,?_⟩
 ·rw[<-mG E];exact mG F
 rintro i m n H' g ⟨hi,rfl,⟨l1,l2,rfl⟩,sm,hL,rfl⟩;refine⟨hL,?_⟩;by_cases d:i<xs.length
 ·right;refine⟨⟨sm.bA j,sm.bA A,d,by lia⟩,λv H2 B=>?_⟩;obtain⟨T,a,b,z,rfl,rfl,k,l⟩:=B;have h:Same H' (upd H' T (.tup [a,b])):=bC z _;refine⟨T,[a,b],rfl,.inl (.inl aH),rfl,a,[b],rfl,b,[],rfl,rfl,?_⟩;unfold oR;dsimp only;rw[if_pos rfl];refine G i a b k l _ _ l1 l2 (λb o e=>h _ _ (sm _ _ e)) λC p=>⟨p _ _ (h _ _ hL),?_,xs.length - (i+1),by lia,d,rfl,⟨some a,some b,?_⟩,?_,aH,?_⟩
  ·rw[bAO,bE2];lia
  ·rw[List.set_comm _ _ (show (1:Nat)≠0 by decide),bCF,bCF]
  ·intro c o e;rw[aP (aU e r)];exact p _ _ (h _ _ (sm _ _ e))
  ·rw[bBK,List.getElem?_zipWith,k,l];rfl
 ·left;have e:i=xs.length:=by lia
  subst e;refine⟨⟨sm.bA j,j0 _⟩,?_⟩;rw[bAW (by rw[bE2];lia)] at hL;exact q D _ sm hL
def aMw {K:bFH}{a:Addr}{xs:List V}{tl:TE}(b:SqT K H a xs)(h:∀R:VK,R (.ref a) H->tl σ H R)(R:It->Hp->Prop)
  (q:∀J:It,(∀H' i x,Same H H'->xs[i]?=some x->J.go i H'/\∀y H2,J.yld i H' y H2->H2=H'/\y=x)->(∀H',Same H H'->J.stop xs.length H')->R J H):aV2 K tl σ H R:=by
 refine h _ ⟨a,rfl,⟨xs,b⟩,q _ (λH' i x s e=>⟨⟨xs,x,s.bA b,e⟩,λy H2 g=>?_⟩) λH' s=>⟨xs,s.bA b,j0 _⟩⟩;obtain⟨f,d⟩:=g;have c:=d xs (s.bA b);rw[e] at c;cases c;exact⟨f,rfl⟩
end
section
variable {κ:Type}[DecidableEq κ]
def qX (kvs:List (κ × V))(k:κ):Option V:=(kvs.find? λkv=>decide (kv.1=k)).map (·.2)
def putK (kvs:List (κ × V))(k:κ)(v:V):List (κ × V):=
 if (kvs.any λkv=>decide (kv.1=k))=true then kvs.map (λkv=>if kv.1=k then (kv.1,v) else kv) else kvs++[(k,v)]
def sX {p:κ × V}{r:List (κ × V)}{k:κ}(e:p.1=k):qX (p::r) k=some p.2:=by simp[qX,bCK,e]
def wV {p:κ × V}{r:List (κ × V)}{k:κ}(e:¬ p.1=k):qX (p::r) k=qX r k:=by simp[qX,bCK,e]
theorem vZ (k:κ):∀kvs:List (κ × V),(kvs.any λkv=>decide (kv.1=k))=(qX kvs k).isSome
 |[]=>rfl
 |p::r=>by
  rw[bEW];by_cases e:p.1=k
  ·simp only[sX e,t6 e,Bool.true_or,Option.isSome_some]
  ·rw[wV e,v8 e,Bool.false_or];exact vZ k r
def qY (kvs:List (κ × V))(k:κ)(v:V):(putK kvs k v).length<=kvs.length+1:=by
 unfold putK
 split
 ·rw[j9];lia
 ·rw[bAB,v9,bCT];lia
def aSh {kvs:List (κ × V)}{k:κ}(v:V)(h:qX kvs k=none):putK kvs k v=kvs++[(k,v)]:=by unfold putK;rw[vZ,h];exact if_neg (by decide)
theorem qR.pC {o:Option V}{u:Option Value}(r:qR o u):o.isSome=u.isSome:=by
 cases o with
 |none=>cases u with
  |none=>rfl
  |some _=>exact (show False from r).elim
 |some _=>cases u with
  |none=>exact (show False from r).elim
  |some _=>rfl
theorem qR.getD {o:Option V}{u:Option Value}{d:V}{d':Value}(r:qR o u)(a:RelV d d'):RelV (o.getD d) (u.getD d'):=by
 cases o with
 |none=>cases u with
  |none=>exact a
  |some _=>exact (show False from r).elim
 |some _=>cases u with
  |none=>exact (show False from r).elim
  |some _=>exact r
theorem KV.val {kvs:List (κ × V)}{vs:List (κ × Value)}(r:KV kvs vs)(k:κ):qR (qX kvs k) (valueAt vs k):=by
 unfold KV at r
 induction r with
 |nil=>exact True.intro
 |@cons p q ps qs h t ih=>
  obtain⟨c,d⟩:=h;by_cases e:p.1=k
  ·have a:q.1=k:=c.symm.trans e;have b:valueAt (q::qs) k=some q.2:=by simp[valueAt,bCK,a]
   rw[sX e,b];exact d
  ·have a:¬ q.1=k:=λz=>e (c.trans z);have b:valueAt (q::qs) k=valueAt qs k:=by simp[valueAt,bCK,a]
   rw[wV e,b];exact ih
theorem KV.any {kvs:List (κ × V)}{vs:List (κ × Value)}(r:KV kvs vs)(k:κ):(kvs.any λkv=>decide (kv.1=k))=vs.any λkv=>decide (kv.1=k):=by
 unfold KV at r
 induction r with
 |nil=>rfl
 |cons h t ih=>rw[bEW,bEW,ih,h.1]
theorem KV.repl {kvs:List (κ × V)}{vs:List (κ × Value)}(r:KV kvs vs)(k:κ){y:V}{u:Value}(c:RelV y u) :
  KV (kvs.map λkv=>if kv.1=k then (kv.1,y) else kv) (vs.map λkv=>if kv.1=k then (kv.1,u) else kv):=by
 unfold KV at r ⊢
 induction r with
 |nil=>exact .nil
 |@cons p q ps qs h t ih=>
  rw[bAN,bAN];refine .cons ?_ ih;obtain⟨a,b⟩:=h;by_cases e:p.1=k
  ·rw[if_pos e,if_pos (a.symm.trans e)];exact⟨a,c⟩
  ·rw[if_neg e,if_neg (λz=>e (a.trans z))];exact⟨a,b⟩
def KV.put {kvs:List (κ × V)}{vs:List (κ × Value)}(r:KV kvs vs)(k:κ){y:V}{u:Value}(a:RelV y u):KV (putK kvs k y) (stored vs k u):=by
 unfold putK stored;rw[r.any k];by_cases e:(vs.any λb=>decide (b.1=k))=true
 ·rw[if_pos e,if_pos e];exact r.repl k a
 ·rw[if_neg e,if_neg e];exact Paired.snoc r ⟨rfl,a⟩
theorem KV.length {kvs:List (κ × V)}{vs:List (κ × Value)}(r:KV kvs vs):kvs.length=vs.length:=Paired.length r
end
theorem aAc {P:Program}{w:World}{k:Key}{u:Value}(r:RelV (kV k) u):(bL P w).is k u=true:=by
 cases k with
 |inl i=>obtain⟨t,e⟩:=(show ∃t,u=Value.int i t from r);subst e;exact aJv P w i t
 |inr x=>obtain⟨t,e⟩:=(show ∃t,u=Value.str x t from r);subst e;exact aKt P w x t
theorem aZj {a b:Key}(e:kV a=kV b):a=b:=by
 cases a with
 |inl i=>cases b with
  |inl j=>have c:V.int i=V.int j:=e;injection c with c;rw[c]
  |inr y=>exact nomatch (show V.int i=V.str y from e)
 |inr x=>cases b with
  |inl j=>exact nomatch (show V.str x=V.int j from e)
  |inr y=>have c:V.str x=V.str y:=e;injection c with c;rw[c]
theorem aEc {P:Program}{w:World}:∀{ks:List Key} {us:List Value},Vals (ks.map kV) us->ItemsAre (bL P w) ks us
 |[],_,r=>by rw[List.map_nil] at r;cases r;exact .nil
 |k::ks,_,r=>by
  rw[bAN] at r;cases r with
  |cons h t=>exact .cons (aAc h) (aEc t)
abbrev KT (H:Hp):List (List Key × V)->List (List Key × Addr × Value)->Prop:=Paired λp q=>p.1=q.1/\H q.2.1=some (.tup (p.1.map kV))/\RelV p.2 q.2.2
theorem KT.val {H:Hp}{kvs:List (List Key × V)}{xs:List (List Key × Addr × Value)}(r:KT H kvs xs)(k:List Key):qR (qX kvs k) ((atKey xs k).map (·.2)):=by
 induction r with
 |nil=>exact True.intro
 |@cons p q ps qs h t ih=>
  obtain⟨c,_,d⟩:=h;by_cases e:p.1=k
  ·have a:q.1=k:=c.symm.trans e;have b:atKey (q::qs) k=some q.2:=by simp[atKey,bCK,a]
   rw[sX e,b];exact d
  ·have a:¬ q.1=k:=λz=>e (c.trans z);have b:atKey (q::qs) k=atKey qs k:=by simp[atKey,bCK,a]
   rw[wV e,b];exact ih
theorem KT.repl {H:Hp}{kvs:List (List Key × V)}{xs:List (List Key × Addr × Value)}(r:KT H kvs xs)(k:List Key){y:V}{u:Value}(d:RelV y u) :
  KT H (kvs.map λkv=>if kv.1=k then (kv.1,y) else kv) (xs.map (putAt k u)):=by
 induction r with
 |nil=>exact .nil
 |@cons p q ps qs h t ih=>
  rw[bAN,bAN];refine .cons ?_ ih;obtain⟨a,b,c⟩:=h;unfold putAt;by_cases e:p.1=k
  ·rw[if_pos e,if_pos (a.symm.trans e)];exact⟨a,b,d⟩
  ·rw[if_neg e,if_neg (λz=>e (a.trans z))];exact⟨a,b,c⟩
def KT.put {H:Hp}{kvs:List (List Key × V)}{xs:List (List Key × Addr × Value)}(r:KT H kvs xs)(k:List Key){b:Addr}{y:V}{u:Value}(d:H b=some (.tup (k.map kV)))(a:RelV y u) :
  KT H (putK kvs k y) (storedH xs k b u):=by
 have e:(kvs.any λc=>decide (c.1=k))=(atKey xs k).isSome:=by rw[vZ,(r.val k).pC,bFC]
 unfold putK storedH;rw[e];by_cases q:(atKey xs k).isSome=true
 ·rw[if_pos q,if_pos q];exact r.repl k a
 ·rw[if_neg q,if_neg q];exact Paired.snoc r ⟨rfl,d,a⟩
def KT.keeps {H H':Hp}{kvs:List (List Key × V)}{xs:List (List Key × Addr × Value)}(r:KT H kvs xs)(a:∀b ys,H b=some (.tup ys)->H' b=some (.tup ys)):KT H' kvs xs:=
 Paired.aZi r λ_ _ z=>⟨z.1,a _ _ z.2.1,z.2.2⟩
section
variable {P:Program}{w:World}{H:Hp}{h:Heap}{a:Addr}
def aYe {u:HO}(b:HOk P w H h)(e:Rd H a u):dH P w H h a u:=e.ok b
def aDa {kvs:List (Key × V)}(b:HOk P w H h)(e:Rd H a (.dK kvs)):kvs.length<=sizeLine/\(a == sysModules)=false/\∃vs,KV kvs vs/\h.DictOf (bL P w) a vs:=
 show dH P w H h a (.dK kvs) from aYe b e
def aN2 {kvs:List (Key × V)}(b:HOk P w H h)(e:H a=some (.dK kvs)):kvs.length<=sizeLine/\(a == sysModules)=false/\∃vs,KV kvs vs/\h.DictOf (bL P w) a vs:=aDa b (.inl e)
def yQ {ks:List Key}(g:HOk P w H h)(e:H a=some (.tup (ks.map kV))):(tupleKind (bL P w)).is h ks a:=by obtain⟨_,b,r,⟨o,c,d,n,f⟩,_⟩:=(show dH P w H h a (.tup (ks.map kV)) from g a _ e);exact⟨o,b.toArray,n,c,d,f,by simpa using aEc r⟩
def aC5 {kvs:List (List Key × V)}(i:HOk P w H h)(e:Rd H a (.dT kvs)):kvs.length<=sizeLine/\(a == sysModules)=false /\
  ∃xs,KT H kvs xs/\h.DictOfH (tupleKind (bL P w)) a xs:=by
 obtain⟨z,y,xs,r,o,g,d,j,c,f,n,k⟩:=(show dH P w H h a (.dT kvs) from aYe i e);refine⟨z,y,xs,r,o,g,d,j,c,f,n,λx hx=>?_,k⟩;have b:∀{l:List (List Key × V)} {m:List (List Key × Addr × Value)},KT H l m->∀x∈m,(tupleKind (bL P w)).is h x.1 x.2.1:=by
  intro l m q
  induction q with
  |nil=>intro x hx;exact nomatch hx
  |@cons p q ps qs hq t ih=>
   intro x hx;rcases List.mem_cons.mp hx with e|hx
   ·subst e;exact yQ i (by rw[<-hq.1];exact hq.2.1)
   ·exact ih x hx
 exact b r x hx
def bCx {kvs:List (List Key × V)}(b:HOk P w H h)(e:H a=some (.dT kvs)):kvs.length<=sizeLine/\(a == sysModules)=false /\
  ∃xs,KT H kvs xs/\h.DictOfH (tupleKind (bL P w)) a xs:=aC5 b (.inl e)
end
def aH0 (H:Hp)(a:Addr)(y:V)(r:Option V):Prop:=
 (∃kvs k,Rd H a (.dK kvs)/\y=kV k/\r=qX kvs k)\/∃kvs k b,Rd H a (.dT kvs)/\y=.ref b/\H b=some (.tup (k.map kV))/\r=qX kvs k
def aJ1 (H:Hp)(a:Addr)(y v:V)(H':Hp):Prop:=
 (∃kvs k,H a=some (.dK kvs)/\y=kV k/\kvs.length<sizeLine/\H'=upd H a (.dK (putK kvs k v))) \/
 ∃kvs k b,H a=some (.dT kvs)/\y=.ref b/\H b=some (.tup (k.map kV))/\kvs.length<sizeLine/\H'=upd H a (.dT (putK kvs k v))
theorem aJ1.k {H:Hp}{a:Addr}{kvs:List (Key × V)}{k:Key}{v:V}(e:H a=some (.dK kvs))(b:kvs.length<sizeLine):aJ1 H a (kV k) v (upd H a (.dK (putK kvs k v))):=.inl ⟨kvs,k,e,rfl,b,rfl⟩
section
variable {X:Cx}{bFL:bFJ}{σ:St}{H:Hp}{s:Shared}{a:Addr}{y v:V}{u r:Value}{o:Option V}{A:Around}{E:bFI}
def Inv.big (I:Inv X bFL σ H s):sysModules<s.heap.objs.size:=by have h:mainGlobals<s.heap.objs.size:=(I.mod.glob.keeps I.bk).lt;exact bEJ (by decide) h
def aQr {Q:bFI}(B:A.units+1<cLine)(I:Inv X bFL σ H s)(g:aH0 H a y (some v))(x:RelV y u)(h:∀w' s',Inv X bFL σ H s'->RelV v w'->Q w' s') :
  wpAny (model X.prog X.w) A (getItem (.ref a) u) Q E s:=by
 rcases g with⟨f,k,e,m,l⟩|⟨f,k,b,e,m,eb,l⟩
 ·subst m;obtain⟨z,hd,q,c,i⟩:=aDa I.hok e;obtain⟨w',j,d⟩:=qR.some_of (v:=v) (o:=valueAt q k) (by rw[l];exact c.val k);exact wpAny_getItem_of (aAc x) i.mapOf j (h w' _ (I.tok _) d)
 ·subst m;cases (show u=Value.ref b from x);obtain⟨z,hd,r,c,i⟩:=aC5 I.hok e;obtain⟨w',j,d⟩:=qR.some_of (v:=v) (o:=(atKey r k).map (·.2)) (by rw[l];exact c.val k);obtain⟨p,t,n⟩:=Option.map_eq_some_iff.mp j;refine wpAny_getItem_heap (tupleKind_room_in1 B) (yQ I.hok eb) i t ?_;rw[n];exact h w' _ (I.tok _) d
def bDh {Q:bFI}(m:A.units+1<cLine)(I:Inv X bFL σ H s)(g:aH0 H a y o)(j:RelV y u)(h:∀s',Inv X bFL σ H s'->Q (.bool o.isSome) s') :
  wpAny (model X.prog X.w) A (compareOp .In u (.ref a)) Q E s:=by
 rcases g with⟨d,k,e,i,l⟩|⟨d,k,b,e,i,eb,l⟩
 ·subst i;obtain⟨z,hd,p,c,f⟩:=aDa I.hok e;refine wpAny_in_of (aAc j) hd f.mapOf ?_;rw[<-(c.val k).pC,<-l];exact h _ (I.tok _)
 ·subst i;cases (show u=Value.ref b from j);obtain⟨z,hd,n,c,f⟩:=aC5 I.hok e;refine wpAny_in_heap (tupleKind_room_in1 m) (yQ I.hok eb) hd f ?_;have q:=(c.val k).pC;rw[bFC] at q;rw[<-q,<-l];exact h _ (I.tok _)
def aWn {Q:bFI}(m:A.units+1<cLine)(I:Inv X bFL σ H s)(g:aH0 H a y o)(j:RelV y u)(h:∀s',Inv X bFL σ H s'->Q (.bool (!o.isSome)) s') :
  wpAny (model X.prog X.w) A (compareOp .NotIn u (.ref a)) Q E s:=by
 rcases g with⟨d,k,e,i,l⟩|⟨d,k,b,e,i,eb,l⟩
 ·subst i;obtain⟨z,hd,p,c,f⟩:=aDa I.hok e;refine wpAny_notIn_of (aAc j) hd f.mapOf ?_;rw[<-(c.val k).pC,<-l];exact h _ (I.tok _)
 ·subst i;cases (show u=Value.ref b from j);obtain⟨z,hd,n,c,f⟩:=aC5 I.hok e;refine wpAny_notIn_heap (tupleKind_room_in1 m) (yQ I.hok eb) hd f ?_;have q:=(c.val k).pC;rw[bFC] at q;rw[<-q,<-l];exact h _ (I.tok _)
def aHq {h':Heap}{t':Nat}{ob:HO}(I:Inv X bFL σ H s)(f:Mut (H a))(g:Heap.SameBut a s.heap h')(h:∃q,h'.get? a=some q)(c:dH X.prog X.w (upd H a ob) h' a ob) :
  Inv X bFL σ (upd H a ob) { s with heap:=h',toks:=t' }:=
 I.write (x:=a) (e:=a) f (.inl rfl) (λb q d z=>(g.2 b d).trans z) h c
def aUu {P:Program}{w:World}{H':Hp}{h':Heap}{kvs:List (Key × V)}{vs:List (Key × Value)}(z:kvs.length<=sizeLine)(hd:(a == sysModules)=false)(b:KV kvs vs)(c:h'.DictOf (bL P w) a vs) :
  dH P w H' h' a (.dK kvs):=⟨z,hd,vs,b,c⟩
theorem aQx {H':Hp}{Q:Unit->Shared->Prop}(S:A.units+1<cLine)(I:Inv X bFL σ H s)(g:aJ1 H a y v H')(G:RelV y u)(J:RelV v r)(h:∀s',Inv X bFL σ H' s'->Q () s') :
  wpAny (model X.prog X.w) A (setItem (.ref a) u r) Q E s:=by
 rcases g with⟨d,k,e,x,l,p⟩|⟨d,k,b,e,x,eb,l,p⟩
 ·subst x p;obtain⟨z,hd,M,f,m⟩:=aN2 I.hok e;have o:M.length<=sizeLine:=by rw[<-f.length];exact z
  have t:(putK d k v).length<=sizeLine:=by have:=qY d k v;lia
  refine wpAny_setItem_pairs (hsz:=o) (aAc G) m λB i n=>h _ ?_;have F:∃q,B.get? a=some q:=let ⟨q,_,_,j,_⟩:=i;⟨q,j⟩
  exact aHq I (by rw[e];exact True.intro) n F (aUu t hd (f.put k J) i)
 ·subst x p;cases (show u=Value.ref b from G);obtain⟨z,hd,P,f,m⟩:=bCx I.hok e;have o:P.length<=sizeLine:=by rw[<-Paired.length f];exact z
  have t:(putK d k v).length<=sizeLine:=by have:=qY d k v;lia
  refine wpAny_setItem_heap (hsz:=o) (tupleKind_room_in1 S) (yQ I.hok eb) m λB i n=>h _ ?_;obtain⟨q,N,K,j,D,L,R,_,O⟩:=i;refine aHq I (by rw[e];exact True.intro) n ⟨q,j⟩ ⟨t,hd,_,(f.put k eb J).keeps λc T C=>?_,q,N,K,j,D,L,R,O⟩;rw[aP (aKn C e (λz=>nomatch z))];exact C
end
section
variable {X:Cx}{bFL:bFJ}{σ:St}{H:Hp}{s:Shared}{a:Addr}{kvs:List (Key × V)}{k:Key}{u:Value}{A:Around}{E:bFI}
end
def bAm (i:Expr):Prop:=∀ov iv,subscripted i false ov iv=operate [ov,iv] (getItem ov iv)
def aWg {prog:Program}{w:World}{A:Around}{E:bFI}{s:Shared}{env:Env}{c b:Expr}{pos:Pos}{T id:String}{Q:bFI}
  (l:typeLookup (.type T) "__getitem__"=pure (some (.builtin id))) (k:bAm b)
  (h:wpAny (model prog w) A (eval c env) (λo s₁=>wpAny (model prog w) A (eval b env) (λi s₂=>s₂.TypeIs o T/\wpAny (model prog w) A (getItem o i) Q E s₂) E s₁) E s) :
  wpAny (model prog w) A (eval (.Subscript c b pos) env) Q E s:=by
 refine Subscript_ (bBN h (λo s₁ g=>bBN g (λi s₂ d=>?_) λ_ _ x=>x) λ_ _ x=>x);obtain⟨e,d⟩:=d;unfold subscriptTail;refine c7 ?_;rw[getitemInPython_of_ne e.not_modules];refine c7 (wpAny_specialOf e l ?_);have a:wpAny (model prog w) A (subscripted b false o i) (λr f=>wpAny (model prog w) A (letTemporaryGo c o r >>= λ_=>pure r) Q E f) E s₂:=by rw[k o i];exact wpAny_operating (bBN d (λr f j=>c7 (wpAny_letTemporaryGo (d9 j))) λ_ _ x=>x)
 first
  |exact d9 (c7 a)
  |exact c7 (d9 (c7 a))
  |exact c7 a
def aLb {X:Cx}{bFL:bFJ}{σ:St}{H:Hp}{s:Shared}{a:Addr}{y:V}{o:Option V}(I:Inv X bFL σ H s)(g:aH0 H a y o):s.TypeIs (.ref a) "dict":=by
 rcases g with⟨c,k,e,_,_⟩|⟨c,k,b,e,_,_,_⟩
 ·obtain⟨_,_,f,_,d⟩:=aDa I.hok e;exact d.typeIs
 ·obtain⟨_,_,h,_,d⟩:=aC5 I.hok e;exact d.typeIs
def aYp (td ty:TE):TE:=fun σ H Q=>td σ H λx H1=>ty σ H1 λy H2=>∃a v,x=.ref a/\aH0 H2 a y (some v)/\Q v H2
def bCq (ty td:TE):TE:=fun σ H Q=>ty σ H λy H1=>td σ H1 λx H2=>∃a o,x=.ref a/\aH0 H2 a y o/\Q (.bl o.isSome) H2
def aO6 (ty td:TE):TE:=fun σ H Q=>ty σ H λy H1=>td σ H1 λx H2=>∃a o,x=.ref a/\aH0 H2 a y o/\Q (.bl (!o.isSome)) H2
def aYm (td ty tv:TE):TS:=λD σ H=>tv σ H λv H1=>td σ H1 λx H2=>ty σ H2 λy H3=>∃a H4,x=.ref a/\aJ1 H3 a y v H4/\D.nx σ H4
section
variable {X:Cx}{o i e value:Expr}{pos pos' tpos:Pos}{td ty tv:TE}
def aXl (w:X.A.units+1<cLine)(z:PE X o td)(hi:PE X i ty)(t:bAm i):PE X (.Subscript o i pos) (aYp td ty):=by intro b s σ H Q I h;refine aWg PySem.F.slot_dict_getitem.lookup t (thn (z b s σ H _ I h) λu m ⟨x,n,p,f,e⟩=>thn (hi b m σ n _ p e) λD C ⟨y,l,d,r,a,v,q,g,k⟩=>?_);subst q;obtain rfl:u=Value.ref a:=f;exact⟨aLb d g,aQr w d g r λE B j c=>⟨v,l,j,c,k⟩⟩
def aZe (t:X.A.units+1<cLine)(hi:PE X i ty)(v:PE X o td):PC X .In i o (bCq ty td):=by intro b s σ H Q I h;refine thn (hi b s σ H _ I h) λB m ⟨y,n,p,r,e⟩=>thn (v b m σ n _ p e) λu z ⟨x,l,d,f,a,c,q,g,k⟩=>?_;subst q;obtain rfl:u=Value.ref a:=f;exact bDh t d g r λw j=>⟨.bl c.isSome,l,j,rfl,k⟩
def aQz (t:X.A.units+1<cLine)(hi:PE X i ty)(v:PE X o td):PC X .NotIn i o (aO6 ty td):=by intro b s σ H Q I h;refine thn (hi b s σ H _ I h) λB m ⟨y,n,p,r,e⟩=>thn (v b m σ n _ p e) λu z ⟨x,l,d,f,a,c,q,g,k⟩=>?_;subst q;obtain rfl:u=Value.ref a:=f;exact aWn t d g r λw j=>⟨.bl (!c.isSome),l,j,rfl,k⟩
def aWs (J:X.A.units+1<cLine)(G:PE X o td)(hi:PE X i ty)(F:PE X value tv)(M:swapsWith value (some (.Subscript o i pos')) pos.line X.env=pure false) :
  PS X (.Assign [.Subscript o i pos'] value pos) (aYm td ty tv):=by
 intro b s σ H D I h;refine wpAny_Assign_Subscript (thn (F b s σ H _ I h) λr j ⟨v,w,z,n,p⟩=>thn (G b j σ w _ z p) λu C ⟨x,t,m,d,f⟩=>thn (hi b C σ t _ m f) λK N ⟨y,E,e,B,a,k,l,g,q⟩=>?_) M;subst l;obtain rfl:u=Value.ref a:=d;exact aQx J e g B n λL c=>⟨σ,k,c,q⟩
end
def aJt {P:Program}{w:World}{H:Hp}(h:Heap)(a:sysModules<h.objs.size):dH P w H (h.push { cls:=.type "dict",data:=.dict #[] }) h.objs.size (.dK []):=
 ⟨bAG _,beq_eq_false_iff_ne.mpr (Ne.symm (v5 a)),[],.nil,Heap.DictOf.new h⟩
def aUp:TE:=λ_ H Q=>∀p,H p=none->Q (.ref p) (upd H p (.dK []))
section
variable {X:Cx}{pos:Pos}
def aTv:PE X (.Dict [] [] pos) aUp:=λb s σ H Q I h=>
 wpAny_Dict_empty ⟨.ref s.heap.objs.size,_,I.laid (a:=s.heap.objs.size) (o:=.dK []) (t':=s.toks) (λ_ _ q=>d8 _ q) (j0 _) (aJt s.heap I.big),rfl,h _ (I.hok.fresh (j0 _))⟩
end
def aLl:List (TE × TE)->St->Hp->(List (V × V)->Hp->Prop)->Prop
 |[],_,H,Q=>Q [] H
 |(tk,tv)::r,σ,H,Q=>tk σ H λx H1=>tv σ H1 λy H2=>aLl r σ H2 λps H3=>Q ((x,y)::ps) H3
abbrev VV:List (V × V)->List (Value × Value)->Prop:=Paired λp q=>RelV p.1 q.1/\RelV p.2 q.2
def PPs (X:Cx)(pos:Pos)(keys:List (Option Expr))(values:List Expr)(trs:List (TE × TE)):Prop:=
 ∀(bFL:bFJ) (s:Shared) (σ:St) (H:Hp) (Q:List (V × V)->Hp->Prop),Inv X bFL σ H s->aLl trs σ H Q ->
  wpAny (model X.prog X.w) X.A (evalPairs (pairTrees keys values X.env pos)) (λvs s'=>∃ps H',Inv X bFL σ H' s'/\VV ps vs/\Q ps H') X.xe s
def aWt {X:Cx}{pos:Pos}:PPs X pos [] [] []:=λa s σ H Q I h=>pairTrees_nil_walk ⟨[],H,I,.nil,h⟩
def aR8 {X:Cx}{pos:Pos}{k v:Expr}{ks:List (Option Expr)}{vs:List Expr}{tk tv:TE}{trs:List (TE × TE)}(C:PE X k tk)(w:PE X v tv)(t:PPs X pos ks vs trs) :
  PPs X pos (some k::ks) (v::vs) ((tk,tv)::trs):=λa s σ H Q I h=>
 pairTrees_cons_walk (thn (C a s σ H _ I h) λu n ⟨x,o,p,f,e⟩=>thn (w a n σ o _ p e) λz r ⟨y,m,d,q,j⟩=>
  thn (t a r σ m _ d j) λB A ⟨l,c,g,b,i⟩=>⟨(x,y)::l,c,g,.cons ⟨f,q⟩ b,i⟩)
def mY (kvs more:List (Key × V)):List (Key × V):=more.foldl (λacc kv=>putK acc kv.1 kv.2) kvs
theorem KV.merge:∀{more:List (Key × V)} {rs:List (Key × Value)} {kvs:List (Key × V)} {vs:List (Key × Value)},KV more rs->KV kvs vs->KV (mY kvs more) (merged vs rs):=by
 intro more rs kvs vs r;unfold KV at r
 induction r generalizing kvs vs with
 |nil=>intro q;exact q
 |@cons p q ps qs h t ih=>
  intro a;have e:KV (putK kvs p.1 p.2) (stored vs q.1 q.2):=by have:=a.put p.1 h.2;rw[<-h.1];exact this
  exact ih e
theorem oN:∀(more kvs:List (Key × V)),(mY kvs more).length<=kvs.length+more.length
 |[],kvs=>by show kvs.length<=kvs.length+0;lia
 |p::r,kvs=>by have a:=oN r (putK kvs p.1 p.2);have b:=qY kvs p.1 p.2;show (mY (putK kvs p.1 p.2) r).length<=_;rw[v9];lia
theorem aC7 {P:Program}{w:World}:∀{kvs:List (Key × V)} {ws:List (Value × Value)},VV (kvs.map λkv=>(kV kv.1,kv.2)) ws->∃rs,Carries (bL P w) ws rs/\KV kvs rs
 |[],_,r=>by rw[List.map_nil] at r;cases r;exact⟨[],True.intro,.nil⟩
 |p::kvs,_,r=>by
  rw[bAN] at r;cases r with
  |@cons a b as bs h t=>obtain⟨rs,c,q⟩:=aC7 (P:=P) (w:=w) t;obtain⟨e,d⟩:=b;exact⟨(p.1,d)::rs,⟨aAc h.1,rfl,c⟩,.cons ⟨rfl,h.2⟩ q⟩
def aYs (trs:List (TE × TE)):TE:=fun σ H Q=>∀p,H p=none->aLl trs σ (upd H p (.dK [])) λps H2=>H2 p=some (.dK [])/\∃kvs:List (Key × V),ps=kvs.map (λkv=>(kV kv.1,kv.2))/\kvs.length<=15/\Q (.ref p) (upd H2 p (.dK (mY [] kvs)))
def aVu {X:Cx}{pos:Pos}{keys:List (Option Expr)}{values:List Expr}{trs:List (TE × TE)}(h:PPs X pos keys values trs)(j:keys.all (·.isSome)=true)(E:keys.length=values.length)(K:keys≠[])
  (B:keys.length<=15):PE X (.Dict keys values pos) (aYs trs):=by
 intro f s σ H Q I q;have t:=I.hok.fresh (j0 s.heap.objs.size);have y:=I.laid (a:=s.heap.objs.size) (o:=.dK []) (h':=s.heap.push { cls:=.type "dict",data:=.dict #[] }) (t':=s.toks) (λ_ _ q=>d8 _ q) (j0 _) (aJt s.heap I.big);refine wpAny_Dict_walk (knd:=bL X.prog X.w) j E K B (thn (h f _ σ _ _ y (q _ t)) λF L ⟨D,G,i,g,e,b,u,J,l⟩=>?_);subst u;obtain⟨A,c,r⟩:=aC7 (P:=X.prog) (w:=X.w) g;obtain⟨z,hd,x,p,k⟩:=aN2 i.hok e;cases p;refine⟨A,c,k,λh' d v=>⟨.ref s.heap.objs.size,_,?_,rfl,l⟩⟩;have n:(mY [] b).length<=sizeLine:=by have m:=oN b [];rw[bCT] at m;rw[sizeLine_eq];lia
 have C:∃q,h'.get? s.heap.objs.size=some q:=let ⟨q,_,_,hq,_⟩:=d;⟨q,hq⟩
 exact aHq i (by rw[e];exact True.intro) v C (aUu n hd (r.merge .nil) d)
structure M1 (X:Cx)(o:Expr)(m:Str)(apos:Pos)(e:Expr)(cpos:Pos):Prop where
 base:attributeBase o m X.env (eval o X.env)=eval o X.env
 few:((backTo cpos (starEach [e] X.env)).all (λx=>!x.1) && (backToKw cpos (keywordEach [] X.env)).all (λx=>x.1.isSome)
  && decide (([e]:List Expr).length+([]:List Keyword).length+(if ([]:List Keyword).isEmpty then 0 else 1)<30))=true
 line:(apos.endLine == cpos.line)=true
 trees:backTo cpos (starEach [e] X.env)=[(false,eval e X.env)]
def IsD (H:Hp)(a:Addr):Prop:=(∃kvs,Rd H a (.dK kvs))\/∃kvs,Rd H a (.dT kvs)
def bAn {X:Cx}{bFL:bFJ}{σ:St}{H:Hp}{s:Shared}{a:Addr}(I:Inv X bFL σ H s)(d:IsD H a) :
  s.TypeIs (.ref a) "dict"/\(∀b,Value.ref a=.ref b->∃ob,s.heap.get? b=some ob/\ob.dict=none)/\(a == sysModules)=false:=by
 rcases d with⟨f,e⟩|⟨f,e⟩
 ·obtain⟨_,hd,i,_,c⟩:=aDa I.hok e;refine⟨c.typeIs,λb q=>?_,hd⟩;cases q;obtain⟨ob,_,_,g,h,_⟩:=c;exact⟨ob,g,h.2.1⟩
 ·obtain⟨_,hd,j,_,c⟩:=aC5 I.hok e;refine⟨c.typeIs,λb q=>?_,hd⟩;cases q;obtain⟨ob,_,_,g,h,_⟩:=c;exact⟨ob,g,h.2.1⟩
section
variable {X:Cx}{bFL:bFJ}{σ:St}{H:Hp}{s:Shared}{a:Addr}{y d:V}{u r:Value}{o:Option V}{A:Around}{E:bFI}
def bAr {Q:bFI}(n:A.units+1<cLine)(I:Inv X bFL σ H s)(g:aH0 H a y o)(m:RelV y u)(h:∀w' s',Inv X bFL σ H s'->RelV (o.getD .non) w'->Q w' s') :
  wpAny (model X.prog X.w) A (call (.builtin "dict.get") [.ref a,u]) Q E s:=by
 rcases g with⟨f,k,e,i,l⟩|⟨f,k,b,e,i,eb,l⟩
 ·subst i;obtain⟨z,hd,p,c,d⟩:=aDa I.hok e;refine call_meetsIn PySem.F.slot_dict_get d.typeIs PySem.F.entry_dict_get (PySem.F.args_dict_get_2 _ _) (meets_dict_get (bL X.prog X.w) a (aAc m) hd) ⟨_,d.mapOf,h _ _ (I.tok _) ?_⟩;rw[l];exact (c.val k).getD rfl
 ·subst i;cases (show u=Value.ref b from m);obtain⟨z,hd,j,c,d⟩:=aC5 I.hok e;refine call_meetsIn PySem.F.slot_dict_get d.typeIs PySem.F.entry_dict_get (PySem.F.args_dict_get_2 _ _) (meetsH_dict_get (tupleKind (bL X.prog X.w)) a b hd) ⟨tupleKind_room_in1 n,k,j,yQ I.hok eb,d,h _ _ (I.tok _) ?_⟩;rw[l];exact (c.val k).getD rfl
end
def aTu (td ty:TE):TE:=fun σ H Q=>td σ H λx H1=>∃a,x=.ref a/\IsD H1 a/\ty σ H1 λy H2=>∃o,aH0 H2 a y o/\Q (o.getD .non) H2
section
variable {X:Cx}{o e f:Expr}{apos cpos:Pos}{td ty tx:TE}
def aRy (C:X.A.units+1<cLine)(B:PE X o td)(J:PE X e ty)(m:M1 X o "get" apos e cpos):PE X (.Call (.Attribute o "get" apos) [e] [] cpos) (aTu td ty):=by intro b s σ H Q I h;refine wpAny_Call_method m.base m.few m.line PySem.F.plainAttrs_dict PySem.F.slot_dict_get PySem.F.type_dict_get (thn (B b s σ H _ I h) λu l ⟨x,v,f,i,a,n,d,r⟩=>?_);subst n;obtain rfl:u=Value.ref a:=i;obtain⟨w,q,_⟩:=bAn f d;refine⟨w,q,?_⟩;rw[m.trees];refine bDO rfl (bEY (bBW (thn (J b l σ v _ f r) λD L ⟨y,t,p,z,G,g,k⟩=>bEF ?_)));exact bAr C p g z λE K j c=>⟨_,t,j,c,k⟩
end
section
variable {X:Cx}{bFL:bFJ}{σ:St}{H:Hp}{s:Shared}{a:Addr}{kvs:List (Key × V)}{A:Around}{E:bFI}
end
section
variable {X:Cx}{bFL:bFJ}{σ:St}{H:Hp}{s:Shared}{a:Addr}{y:V}{u:Value}{A:Around}{E:bFI}
end
section
variable {X:Cx}
end
section
variable {κ:Type}[DecidableEq κ]
def aV4 {kvs:List (κ × V)}{k:κ}{v:V}(h:qX kvs k=some v):k∈kvs.map (·.1):=by
 have q:(kvs.any λa=>decide (a.1=k))=true:=by rw[vZ,h];all_goals rfl
 obtain⟨p,b,e⟩:=List.any_eq_true.mp q;exact List.mem_map.mpr ⟨p,b,of_decide_eq_true e⟩
end
structure VE (X:Cx)(e:Expr)(t:TE):Prop where
 out:PE X e t
structure VT (X:Cx)(e:Expr)(t:TT):Prop where
 out:PT X e t
structure VW (X:Cx)(e:Expr)(t:TT):Prop where
 out:PW X e t
structure VA (X:Cx)(es:List Expr)(t:TA):Prop where
 out:PA X es t
structure VS (X:Cx)(st:Stmt)(t:TS):Prop where
 out:PS X st t
structure VSs (X:Cx)(st:List Stmt)(t:TS):Prop where
 out:PSs X st t
structure VI (X:Cx)(tg iter:Expr)(t:TI):Prop where
 out:PI X tg iter t
structure VG (X:Cx)(tg:Expr)(t:TG):Prop where
 out:PG X tg t
structure VGs (X:Cx)(tg:List Expr)(t:TGs):Prop where
 out:PGs X tg t
structure VO (X:Cx)(e:Option Expr)(t:TO):Prop where
 out:PO X e t
structure VF (X:Cx)(ifs:List Expr)(t:TT):Prop where
 out:aSc X ifs t
structure VP (X:Cx)(pos:Pos)(keys:List (Option Expr))(values:List Expr)(trs:List (TE × TE)):Prop where
 out:PPs X pos keys values trs
section
variable {X:Cx}{a b c e:Expr}{es:List Expr}{ta tb tc te:TE}{t:TA}{tA tB':TT}{pos p:Pos}{x:Str}
def vv (i:Nat){x:Str}{pos:Pos}(c:X.N[i]?=some x:=by rfl)(b:Vis X.env.scope x:=by trivial)(hd:(x == ("__debug__":Str))=false:=by decide)
  (a:(x == ("__classdict__":Str))=false:=by decide):VE X (.Name x pos) (aQ3 i):=⟨pv i c b hd a⟩
def uL {v:V}(b:Gl X x)(a:∃u,X.mg x=some u/\RelV v u)(hd:(x == ("__debug__":Str))=false:=by decide):VE X (.Name x pos) (tC v):=⟨bCw b a hd⟩
def fX {v:V}{u:Value}(d:Gl X x)(a:X.mg x=none)(b:bootBuiltins x=some u)(r:RelV v u)(c:x≠"__name__":=by decide)(hd:(x == ("__debug__":Str))=false:=by decide):VE X (.Name x pos) (tC v):=⟨aW6 d a b r c hd⟩
def aC {i j}:VE X (.Constant (.int i) j pos) (tC (.int i)):=⟨aZn⟩
def jO {b j}:VE X (.Constant (.bool b) j pos) (tC (.bl b)):=⟨bBr⟩
def jU {j}:VE X (.Constant .none j pos) (tC .non):=⟨bAu⟩
def bN {x j}:VE X (.Constant (.str x) j pos) (tC (.str x)):=⟨aZ9⟩
def bO {op:Operator}{r:R2}(c:OpR X (binaryOp op) r)(d:VE X a ta)(e:VE X b tb):VE X (.BinOp a op b pos) (tOp r ta tb):=⟨bB1 c d.1 e.1⟩
def aYa {op:UnaryOp}{r:V->Hp->VK->Prop}(b:UnR X (unaryOp op) r)(c:VE X a ta):VE X (.UnaryOp op a pos) (tUn r ta):=⟨bBx b c.1⟩
def cR {op:CmpOp}{r:R2}(d:OpR X (compareOp op) r)(e:VE X a ta)(f:VE X b tb)(c:behindInMarks op b=false):VE X (.Compare a [op] [b] pos) (tOp r ta tb):=⟨aW7 d e.1 f.1 c⟩
def aY {op:CmpOp}{r:R2}(d:OpR X (compareOp op) r)(e:VE X a ta)(f:VE X b tb)(c:behindInMarks op b=false):VT X (.Compare a [op] [b] pos) (aOm (tOp r ta tb)):=⟨aVt d e.1 f.1 c⟩
def aTr {op op':CmpOp}{r r':R2}(e:OpR X (compareOp op) r)(d:OpR X (compareOp op') r')(g:VE X a ta)(h:VE X b tb)(f:VE X c tc)
  (i:lastMarks [op,op'] [b,c]=false:=by with_unfolding_all rfl):VE X (.Compare a [op,op'] [b,c] pos) (aGy r r' ta tb tc):=⟨aS8 e d g.1 h.1 f.1 i⟩
def aBv {op op':CmpOp}{r r':R2}(e:OpR X (compareOp op) r)(d:OpR X (compareOp op') r')(g:VE X a ta)(h:VE X b tb)(f:VE X c tc)
  (i:lastMarks [op,op'] [b,c]=false:=by with_unfolding_all rfl):VT X (.Compare a [op,op'] [b,c] pos) (aOm (aGy r r' ta tb tc)):=⟨aR3 e d g.1 h.1 f.1 i⟩
def iY {op}(h:VE X a te):VE X (.BoolOp op [a] pos) te:=⟨bAg h.1⟩
def iZ {rest:List Expr}(c:VE X a ta)(d:VE X (.BoolOp .And (b::rest) pos) tb):VE X (.BoolOp .And (a::b::rest) pos) (aYj ta tb):=⟨bAc c.1 d.1⟩
def aX9 {rest:List Expr}(c:VE X a ta)(d:VE X (.BoolOp .Or (b::rest) pos) tb):VE X (.BoolOp .Or (a::b::rest) pos) (bCo ta tb):=⟨bB9 c.1 d.1⟩
def aZk (b:VE X a ta):VE X (.UnaryOp .Not a pos) (aYh ta):=⟨bA4 b.1⟩
def aJa (f:VT X c tA)(e:VE X a ta)(d:VE X b tb):VE X (.IfExp c a b pos) (tIf tA ta tb):=⟨aTk f.1 e.1 d.1⟩
def aA:VA X [] aHp:=⟨bAq⟩
def aB (b:VE X e te)(a:VA X es t)(c:dB e=true:=by rfl):VA X (e::es) (fG te t):=⟨bDc b.1 a.1 c⟩
def aN {k:Nat}{ps:List Str}{sp:Sp}(G:Ok X.prog X.w X.K X.mg X.base k x ps sp)(c:Room k X.A)(g:Gl X x)(d:VA X (e::es) t)(a:(x == ("__debug__":Str))=false:=by decide)
  (f:dB e=true:=by rfl) (b:(backTo pos (starEach es X.env)).any (·.1)=false:=by rfl) :
  VE X (.Call (.Name x p) (e::es) [] pos) (aEp sp [] E0 t):=⟨bCb G c g d.1 a (aR f) b⟩
def bBc {k:Nat}{ps:List Str}{sp:Sp}(G:Ok X.prog X.w X.K X.mg X.base k x ps sp)(b:Room k X.A)(c:Gl X x)(a:(x == ("__debug__":Str))=false:=by decide) :
  VE X (.Call (.Name x p) [] [] pos) (aEp sp [] E0 aHp):=⟨aYz G b c a⟩
def aM {id:String}{r:List V->Hp->VK->Prop}(c:cO X (.builtin id) r)(i:Gl X x)(j:X.mg x=none)(d:bootBuiltins x=some (.builtin id))(f:VA X (e::es) t)(h:x≠"__name__":=by decide)(a:(x == ("__debug__":Str))=false:=by decide)
  (g:dB e=true:=by rfl) (b:(backTo pos (starEach es X.env)).any (·.1)=false:=by rfl):VE X (.Call (.Name x p) (e::es) [] pos) (tCB r t):=⟨aT9 c i j d f.1 h a (aR g) b⟩
def cX {T:String}{r:List V->Hp->VK->Prop}(c:cO X (.type T) r)(i:Gl X x)(j:X.mg x=none)(d:bootBuiltins x=some (.type T))(f:VA X (e::es) t)(h:x≠"__name__":=by decide)(a:(x == ("__debug__":Str))=false:=by decide)
  (g:dB e=true:=by rfl) (b:(backTo pos (starEach es X.env)).any (·.1)=false:=by rfl):VE X (.Call (.Name x p) (e::es) [] pos) (tCB r t):=⟨aQ1 c i j d f.1 h a (aR g) b⟩
def wU {o:Expr}{to:TE}{name:Str}{apos cpos:Pos}{T id:String}{r:V->List V->Hp->VK->Prop}(k:PlainAttrs T)(slot:Slot T name id)(f:typeOf (.builtin id)=pure (.type "method_descriptor"))(j:MtR X id r)(g:VE X o to)(h:VA X (e::es) t)
  (b:attributeBase o name X.env (eval o X.env)=eval o X.env:=by rfl)
  (d:((backTo cpos (starEach (e::es) X.env)).all (λx=>!x.1) && (backToKw cpos (keywordEach [] X.env)).all (λx=>x.1.isSome)
   && decide ((e::es).length+([]:List Keyword).length+(if ([]:List Keyword).isEmpty then 0 else 1)<30))=true:=by rfl)
  (c:(apos.endLine == cpos.line)=true:=by rfl) (i:dB e=true:=by rfl) (a:(backTo cpos (starEach es X.env)).any (·.1)=false:=by rfl) :
  VE X (.Call (.Attribute o name apos) (e::es) [] cpos) (tBM X.K T r to t):=⟨bCv k slot f j g.1 h.1 b d c (aR i) a⟩
def rR (e:VE X a ta)(f:VE X b tb)(d:aJw b) :
  VE X (.Subscript a b pos) (tOp (λx y H Q=>∃z i c,x=.str z/\y=.int i/\0<=i/\i<2 ^ 63/\i<z.length/\z.cps[i.toNat]?=some c/\Q (.str ⟨#[c]⟩) H) ta tb):=⟨aK3 e.1 f.1 d⟩
def lA:VO X none aPb:=⟨aVd⟩
def iD (h:VE X e te):VO X (some e) (aYf te):=⟨aWx h.1⟩
def fQ {r:V->Option Int->Option Int->Hp->VK->Prop}{lo hi:Option Expr}{tl th:TO}{p2:Pos}(a:SlR X r)(c:VE X e te)(d:VO X lo tl)(b:VO X hi th):VE X (.Subscript e (.Slice lo hi none p2) pos) (tSl r te tl th):=⟨aSs a c.1 d.1 b.1⟩
def aK {r:R2}(d:IxR X r)(e:VE X a ta)(f:VE X b tb)(c:aPe b):VE X (.Subscript a b pos) (tOp r ta tb):=⟨bCu d e.1 f.1 c⟩
def aS5:VE X (.Dict [] [] pos) aUp:=⟨aTv⟩
def aXu:VP X pos [] [] []:=⟨aWt⟩
def aU9 {k v:Expr}{ks:List (Option Expr)}{vs:List Expr}{tk tv:TE}{trs:List (TE × TE)}(c:VE X k tk)(b:VE X v tv)(a:VP X pos ks vs trs):VP X pos (some k::ks) (v::vs) ((tk,tv)::trs):=⟨aR8 c.1 b.1 a.1⟩
def aWi {keys:List (Option Expr)}{values:List Expr}{trs:List (TE × TE)}(h:VP X pos keys values trs)(a:keys.all (·.isSome)=true)(d:keys.length=values.length)(c:keys≠[])(b:keys.length<=15):VE X (.Dict keys values pos) (aYs trs):=⟨aVu h.1 a d c b⟩
theorem VE.imp {t t':TE}(h:VE X e t)(k:∀σ H Q,t' σ H Q->t σ H Q):VE X e t':=⟨PE.imp h.1 k⟩
def aA1 (b:VT X a tA):VW X (.BoolOp .And [a] pos) tA:=⟨aXd b.1⟩
def eZ (b:VT X a tA):VW X (.BoolOp .Or [a] pos) tA:=⟨bBh b.1⟩
def aCp {rest:List Expr}(c:VT X a tA)(d:VW X (.BoolOp .And (b::rest) pos) tB'):VW X (.BoolOp .And (a::b::rest) pos) (bB6 tA tB'):=⟨aZr c.1 d.1⟩
def gJ {rest:List Expr}(c:VT X a tA)(d:VW X (.BoolOp .Or (b::rest) pos) tB'):VW X (.BoolOp .Or (a::b::rest) pos) (tOr tA tB'):=⟨bCf c.1 d.1⟩
theorem VW.pt (h:VW X e tA):VT X e tA:=⟨h.1.pt⟩
def cP (b:VT X a tA):VT X (.UnaryOp .Not a pos) (aZ4 tA):=⟨bA6 b.1⟩
def cG (h:VE X e te)(a:∀whole,isTrue e X.env whole=(do let v <-whole;standAt e.pos;holding [v] (truthy v)):=by intro _;rfl):VT X e (tB te):=⟨aZx h.1 a⟩
def aR5 (c:VE X a ta)(b:∀whole,isTrue a X.env whole=(do let v <-whole;standAt a.pos;holding [v] (truthy v)):=by intro _;rfl) :
  VT X a (fun σ H Q=>ta σ H λx H'=>∃k,bAy X.K x H' k/\Q k H'):=⟨aTm c.1 b⟩
variable {st:Stmt}{rest:List Stmt}{u w':TS}
def aZ:VSs X [] rZ:=⟨aWh⟩
def aD (a:VS X st u)(b:VSs X rest w'):VSs X (st::rest) (aDl u w'):=⟨aTp a.1 b.1⟩
def aG (a:VS X st u):VSs X [st] u:=⟨aWk a.1⟩
def aL (a:VE X e te):VS X (.Return (some e) pos) (tV te):=⟨bA5 a.1⟩
def cA {a b:List Stmt}(d:VT X c tA)(e:VSs X a u)(f:VSs X b w'):VS X (.If c a b pos) (aJ5 tA u w'):=⟨bBy d.1 e.1 f.1⟩
def aV {i:Nat}{pos':Pos}(f:X.N.Nodup)(hi:X.N[i]?=some x)(b:Loc X.env.scope x)(d:VE X e te)(c:swapsWith e (some (.Name x pos')) pos.line X.env=pure false:=by rfl)(a:X.fn x=true\/X.env.scope.names.lookup x=some .local:=by first|exact .inl rfl|exact .inr rfl|assumption) :
  VS X (.Assign [.Name x pos'] e pos) (aAm te (cD i)):=⟨bBb f hi b d.1 c a⟩
def iR (a:VE X e te)(b:swapsWith e none pos.line X.env=pure false:=by rfl):VS X (.Expr e pos) (aYn te):=⟨aXn a.1 b⟩
def jT {tg iter:Expr}{body:List Stmt}{wi:TI}{g:TG}{tb:TS}(b:PassesOwn (model X.prog X.w) X.A X.env X.xe)(a:X.calm=true)(hi:VI X tg iter wi)(e:VG X tg g)(c:VSs X body tb)
  (d:∀x,foldedSetIterable iter X.env x=pure x:=by intro _;rfl):VS X (.For tg iter body [] pos) (aZ1 wi g tb):=⟨aZg b a hi.1 e.1 c.1 d⟩
def aO {i:Nat}(c:X.N.Nodup)(hi:X.N[i]?=some x)(b:Loc X.env.scope x)(a:X.fn x=true\/X.env.scope.names.lookup x=some .local:=by first|exact .inl rfl|exact .inr rfl|assumption):VG X (.Name x pos) (cD i):=⟨aXq c hi b a⟩
def fV:VGs X [] aQj:=⟨aW1⟩
def bH {t:TG}{u:TGs}(a:VG X e t)(c:VGs X es u)(b:(assignEach (e::es) X.env).map (·.2)=assign e X.env::(assignEach es X.env).map (·.2):=by rfl):VGs X (e::es) (uP t u):=⟨aT3 a.1 c.1 b⟩
def zF {k:Nat}{t:TGs}{n:Nat}(c:X.calm=true)(h:VGs X es t)(b:(assignEach es X.env).length=n:=by rfl)(a:(assignEach es X.env).findIdx? (·.1)=none:=by rfl):VG X (.Tuple es k pos) (aNo X.K n t):=⟨bAa c h.1 b a⟩
variable {tg:Expr}
def eN (h:VE X e te):VI X tg e (aFb X.K te):=⟨aWv h.1⟩
def rB (h:VE X e te):VI X tg e (aV2 X.K te):=⟨aY5 h.1⟩
def aUb (h:VE X e te):VI X tg e (aY2 te):=⟨bA3 h.1⟩
def iI (d:Gl X "range")(b:X.mg "range"=none)(c:VA X [a] t)(e:dB a=true:=by rfl):VI X tg (.Call (.Name "range" p) [a] [] pos) (aSu t):=⟨aQf d b c.1 (aR (es:=[]) e)⟩
def iH:VF X [] oR:=⟨aZs⟩
def mJ (h:VT X c tA):VF X [c] tA:=⟨aZ2 h.1⟩
def cL {elt target iter:Expr}{ifs:List Expr}{scope:Scope}{N:List Str}{wi:TI}{g:TG}{tt:TT}
  (C:aCw scope N) (b:∀y,(y,NameKind.free)∈scope.names->X.env.kindOf y=some .cell\/X.env.kindOf y=some .free) (c:X.calm=true)
  (hi:VI X target iter wi)
  (a:∀cl s H fp,VG (cxC X N scope cl s H fp) target g/\VF (cxC X N scope cl s H fp) ifs tt/\VE (cxC X N scope cl s H fp) elt te)
  (d:∀x,foldedSetIterable iter X.env x=pure x:=by intro _;rfl) :
  VE X (.ListComp elt [⟨target,iter,ifs,0⟩] scope pos) (lN X scope N wi g tt te):=
 ⟨aW3 C b c hi.1 (λcl s H fp=>⟨(a cl s H fp).1.1,(a cl s H fp).2.1.1,(a cl s H fp).2.2.1⟩) d⟩
end
section
variable {P:Program}{w:World}{K:bFH}{mg:bFK}{base:Heap}
def Fun.okV {x qual:Str}{st:Stmt}{f:Addr}{fd:FuncData}{N ps:List Str}{k:Nat}{sp:Sp}(F:Fun K x qual st f fd)(S:aJ N ps (aF st))(c:∀vs H Q E,sp vs H Q E->vs.length=ps.length)
  (a:∀(cdv:Value) (A:Around) (outer:List Env) (s:Shared) (H:Hp) (vs:List V) (Q:VK) (E:XK),Room k (A.deeper (envOfC qual (aF st) s.heap.objs.size f cdv))->sp vs H Q E ->
   ∃t,VSs (aB7 CX0 P w K mg base N qual (aF st) f cdv A outer s H E).nox (fC st) t/\t { nx:=λ_ H'=>Q .non H',rt:=Q } (start N vs) H):lX P w K mg base CX0 (k+1) f fd ps sp:=
 F.ok S c λcdv A outer s H vs Q E b h=>let ⟨t,h1,h2⟩:=a cdv A outer s H vs Q E b h;⟨t,h1.1,h2⟩
def Ok.ofV {x:Str}{st:Stmt}{N ps:List Str}{k:Nat}{sp:Sp}(D:Dn K mg x st ps)(S:aJ N ps (aF st))(c:∀vs H Q E,sp vs H Q E->vs.length=ps.length)
  (a:∀(f:Addr) (cdv:Value) (A:Around) (outer:List Env) (s:Shared) (H:Hp) (vs:List V) (Q:VK) (E:XK),Room k (A.deeper (envOfC x (aF st) s.heap.objs.size f cdv))->sp vs H Q E ->
   ∃t,VSs (aB7 CX0 P w K mg base N x (aF st) f cdv A outer s H E).nox (fC st) t/\t { nx:=λ_ H'=>Q .non H',rt:=Q } (start N vs) H):Ok P w K mg base (k+1) x ps sp:=
 Ok.of D S c λf cdv A outer s H vs Q E b h=>let ⟨t,h1,h2⟩:=a f cdv A outer s H vs Q E b h;⟨t,h1.1,h2⟩
end
def Held (P:Program)(w:World)(K:bFH)(mg:bFK)(base:Heap)(k:Nat)(f:Addr)(ps:List Str)(sp:Sp):Prop:=
 ∃fd,PySem.W.keepIn K (.ref f)=true/\Binds K fd ps []/\lX P w K mg base CX0 k f fd ps sp
def Ok.held {P:Program}{w:World}{K:bFH}{mg:bFK}{base:Heap}{k:Nat}{x:Str}{ps:List Str}{sp:Sp}(G:Ok P w K mg base k x ps sp):∃f,mg x=some (.ref f)/\Held P w K mg base k f ps sp:=by obtain⟨f,c,a,b,d,e⟩:=G;exact⟨f,a,c,b,d,e⟩
section
variable {X:Cx}{x:Str}{p pos:Pos}{e:Expr}{es:List Expr}{te:TE}{t:TA}
def aU3 (P:Program)(w:World)(K:bFH)(mg:bFK)(base:Heap)(k:Nat)(te:TE)(t:TA):TE:=fun σ H Q=>te σ H λv H1=>∃f ps sp,v=.ref f/\Held P w K mg base k f ps sp/\t σ H1 λvs H2=>sp vs H2 Q E0
def aVl {k:Nat}(y:Room k X.A)(C:PE X (.Name x p) te)(L:PA X (e::es) t)
  (N:starEach (e::es) X.env=(false,eval e X.env)::starEach es X.env:=by rfl) (j:(backTo pos (starEach es X.env)).any (·.1)=false:=by rfl) :
  PE X (.Call (.Name x p) (e::es) [] pos) (aU3 X.prog X.w X.K X.mg X.base k te t):=by
 intro a s σ H Q I h;refine bBS (thn (C a s σ H _ I h) λu l ⟨v,m,c,d,g⟩=>?_);obtain⟨f,E,D,rfl,⟨J,o,n,F⟩,q⟩:=g;obtain rfl:u=Value.ref f:=d;refine PySem.W.callWith_K (h₀:=X.base) c.ok.mod.kin o (thn (L pos a l σ m _ c q) λM B ⟨z,G,b,r,i⟩=>⟨b.kIn,?_⟩) N j;exact aB6 F y n .nil aEg b r (by simpa using i)
end
end L2
namespace PySem
end PySem
namespace L2
open PySem PySem.Spec PyProof.Rows
section
variable {X:Cx}
def aVv:OpR X (binaryOp .Add) (λx y H Q=>∃a b ys,x=.ref a/\y=.ref b/\SqT X.K H a []/\SqT X.K H b ys/\Q (.ref b) H):=by
 intro z s σ H x y v u Q I w L h;obtain⟨a,b,ys,rfl,rfl,A,G,q⟩:=h;cases w;cases L;obtain⟨t,r,B,_⟩:=I.tuple A;obtain⟨d,M,D,_⟩:=I.tuple G;cases r;obtain⟨⟨C,p,k,J⟩,l,m,n,hd⟩:=id B;obtain⟨⟨o,g,j,i⟩,c,f,E,e⟩:=id D;simp only at m hd f e;subst m hd f e;exact concat_meets ⟨_,l,rfl⟩ ⟨_,c,rfl⟩ noFill_tuple_add seq_tuple_add PySem.F.slot_tuple_add PySem.F.entry_tuple_add (PySem.F.args_tuple_add_2 _ _)
  (tuple_addW0 a b #[] d.toArray n E p g J i rfl) ⟨l,c,⟨.ref b,H,I,rfl,q⟩⟩
end
end L2
namespace PySem
def aCy (σ:List Str)(v:Str):List Str:=if v∈σ then σ else σ++[v]
def pA (ss:List Str):List Str:=ss.foldl aCy []
def aFa (ss:List Str)(v:Str):pA (ss++[v])=aCy (pA ss) v:=by unfold pA;rw[List.foldl_append];rfl
def wA (σ:List Str)(v k:Str):k∈aCy σ v↔k∈σ\/k=v:=by
 unfold aCy;by_cases h:v∈σ
 ·rw[if_pos h];exact⟨.inl,λq=>q.elim id λe=>e ▸ h⟩
 ·rw[if_neg h];simp
def aA6 (σ:List Str)(v:Str):(aCy σ v).length=if v∈σ then σ.length else σ.length+1:=by
 unfold aCy
 split <;> simp
theorem zL:∀(ss σ:List Str),(ss.foldl aCy σ).length<=σ.length+ss.length
 |[],σ=>by simp
 |v::r,σ=>by
  rw[List.foldl_cons,v9];have h:=zL r (aCy σ v);rw[aA6] at h
  split at h <;> lia
def aSd (a:List Str):(pA a).length<=a.length:=by have h:=zL a [];unfold pA;simpa using h
theorem aC6:∀(ss σ:List Str),(ss.foldl aCy σ).length=σ.length+ss.length↔ss.Nodup/\∀v∈ss,v∉σ
 |[],σ=>by simp
 |v::r,σ=>by
  rw[List.foldl_cons,v9,bD6];have a:=zL r (aCy σ v);have b:=aC6 r (aCy σ v);rw[aA6] at b a;by_cases h:v∈σ
  ·rw[if_pos h] at b a;constructor
   ·intro q;lia
   ·intro q;exact absurd h (q.2 v j6)
  ·rw[if_neg h] at b a;have e:σ.length+(r.length+1)=σ.length+1+r.length:=by lia
   rw[e,b];constructor
   ·rintro⟨d,c⟩;refine⟨⟨λm=>c v m ((wA σ v v).mpr (.inr rfl)),d⟩,λy hy=>?_⟩;rcases List.mem_cons.mp hy with rfl|hy
    ·exact h
    ·exact λm=>c y hy ((wA σ v y).mpr (.inl m))
   ·rintro⟨⟨d,c⟩,f⟩;refine⟨c,λy hy m=>?_⟩;rcases (wA σ v y).mp m with m|rfl
    ·exact f y (j8 _ hy) m
    ·exact d hy
def aRn (a:List Str):(pA a).length=a.length↔a.Nodup:=by have h:=aC6 a [];simp only[bCT,bDB,w6,not_false_eq_true,implies_true,and_true] at h;exact h
section
variable {prog:Program}{w:World}
def dM (prog:Program)(w:World)(h:Heap)(D:Addr)(ss:List Str):Prop:=h.SetOf (strKind prog w) D (λy=>decide (y∈pA ss)) (pA ss).length
def dM.at {h h':Heap}{D:Addr}{ss:List Str}(x:dM prog w h D ss)(e:∀o,h.get? D=some o->h'.get? D=some o):dM prog w h' D ss:=by obtain⟨o,a,c,t,b,r⟩:=x;exact⟨o,a,c,t,e o b,r⟩
def dM.congr {h:Heap}{D:Addr}{S:Str->Bool}{n:Nat}{a:List Str}(x:h.SetOf (strKind prog w) D S n)(c:∀y,S y=decide (y∈pA a))(b:n=(pA a).length):dM prog w h D a:=by have e:S=λy=>decide (y∈pA a):=funext c;subst e b;exact x
theorem aC2 {A:Around}{R:Result->Shared->Prop}{I:Addr}{fp M:List Addr}{n:Nat}{P:Nat->Value->Prop}{St:Nat->Heap->Prop}(W:Walks prog w A.in1 I fp M n P St)(D:Addr)(S:D∉fp)
  (a:List Str) (L:a.length=n) (H:∀i v,P i v->∃t,v=.str (a.getD i "") t) (Q:n+1<scanBound) :
  ∀(k i:Nat) (s:Shared),i+k=n->St i s.heap->dM prog w s.heap D (a.take i) ->
   (∀h' tk,(∀b o,b∉D::M->s.heap.get? b=some o->h'.get? b=some o)->dM prog w h' D a->R (.ok (.ret .none)) { s with heap:=h',toks:=tk }) ->
   codeAny (model prog w) A (.builtin "set.update.loop" ⟨[.ref D,.ref I],[]⟩) R s:=by
 have j:D∉M:=λq=>S (W.sub _ q);intro k
 induction k with
 |zero=>
  intro i s O r m q;obtain rfl:i=n:=by lia
  refine bBD bBU ?_;rw[bBA bAZ _];show wpAny _ A.in1 (pyNext (.ref I) >>= _) _ _ _;refine c7 (W.done s _ _ r λh' tk l=>?_);refine d9 (q h' tk (λb o c e=>l b o (λz=>c (j8 _ z)) e) ?_);rw[bAW (bE3 L)] at m;exact m.at λo e=>l D o j e
 |succ k ih=>
  intro i s O r m q;refine bBD bBU ?_;rw[bBA bAZ _];show wpAny _ A.in1 (pyNext (.ref I) >>= _) _ _ _;refine c7 (W.item i s _ _ (by lia) r λv G N K F f=>?_);obtain⟨t,rfl⟩:=H i v K;have B:dM prog w G D (a.take i):=m.at λo e=>f D o j e;show wpAny _ A.in1 (holding [Value.str (a.getD i "") t] (setAdd D (.str (a.getD i "") t)) >>= _) _ _ _;refine c7 (bAS ?_);unfold setAdd;refine bAS (c7 ((strKind prog w).pyHash (k:=a.getD i "") (strKind_is _ _ _ _) ?_));have d:(pA (a.take i)).length+1<scanBound:=by
   have G:=aSd (a.take i);have E:(a.take i).length<=a.length:=by rw[bAO];exact Nat.min_le_right _ _
   lia
  refine wpAny_setAddHashed_of (knd:=strKind prog w) (strKind_is _ _ _ _) rfl B d λE h C=>?_;have g:i<a.length:=by lia
  have J:a.take (i+1)=a.take i++[a.getD i ""]:=by rw[bBK,d7 g,j4,d7 g];rfl
  have u:dM prog w E D (a.take (i+1)):=by
   refine dM.congr C (λy=>?_) ?_
   ·rw[J,aFa,bCS,Bool.or_eq_true,decide_eq_true_eq,decide_eq_true_eq,decide_eq_true_eq,wA]
   ·rw[J,aFa,aA6];by_cases z:a.getD i ""∈pA (a.take i)
    ·rw[if_pos z,if_pos (t6 z)]
    ·rw[if_neg z,if_neg (by rw[v8 z];exact v4)]
  have x:∀b o,b∉D::M->s.heap.get? b=some o->E.get? b=some o:=λb o c e=>by rw[h.2 b (λz=>c (by rw[z];exact j6))];exact f b o (λz=>c (j8 _ z)) e
  refine d9 ⟨bCQ bAZ _,ih (i+1) _ (by lia) (W.frame _ _ _ F λb Q o e=>?_) u λh' tk l p=>q h' tk (λb o c e=>l b o c (x b o c e)) p⟩;rw[h.2 b (λz=>S (by rw[<-z];exact Q))];exact e
variable {A:Around}{E:bFI}{s:Shared}
abbrev bF (led:Bool):Obj:={ cls:=.type "set",dict:=none,data:=.set #[] 0 (.fresh 0 0 led) }
theorem aMn {A:Around}{R:Fin->Shared->Prop}{E:bFI}{s:Shared}{l:Addr}{its:Array Value}{P:List Str}(a:Bool)(I:A.handled=none)(S:s.heap.IsList l its)(C:P.length=its.size)
  (B:∀(i:Nat) (v:Value),its[i]?=some v->∃t,v=Value.str (P.getD i "") t) (O:its.size+1<scanBound)
  (q:∀h' tk,dM prog w h' s.heap.objs.size P->(∀b o,b<s.heap.objs.size->s.heap.get? b=some o->h'.get? b=some o)->R (.done (.ret .none)) { s with heap:=h',toks:=tk }) :
  wpAny (model prog w) A (Builtin.«set.__init__» ⟨[.ref s.heap.objs.size,.ref l],[]⟩) R E { s with heap:=s.heap.push (bF a) }:=by
 obtain⟨⟨J,G,M,r⟩,j,g,y,h⟩:=id S;simp only at g h;subst g h;have z:(s.heap.push (bF a)).get? s.heap.objs.size=some (bF a):=j5 _ rfl;have L:Shared.TypeIs { s with heap:=s.heap.push (bF a) } (.ref s.heap.objs.size) "set":=⟨_,z,rfl⟩;have f:(s.heap.push (bF a)).get? l=some { cls:=.type "list",dict:=G,data:=.seq its y,slots:=r }:=d8 _ j;have K:=F.sub_list_set;have Q:=F.sub_list_frozenset;have N:(Value.type "list" == Value.type "dict")=false:=by decide
 have d:(s.heap.push (bF a)).IsList l its:=⟨_,f,rfl,y,rfl⟩;have c:l<s.heap.objs.size:=m9 j;unfold Builtin.«set.__init__» noKeywords Builtin.Frozenset.updateFrom;generalize x:pyIter=PI;wp_walk;subst x;refine bCD d ?_;refine c7 (wpAny_runValue ?_);have p:(s.heap.push (bF a)).objs.size=s.heap.objs.size+1:=bAX ..;have u:l≠(s.heap.push (bF a)).objs.size:=by rw[p];exact v5 (bBF c)
 have m:s.heap.objs.size∉[(s.heap.push (bF a)).objs.size,l]:=by rw[p];simp only[bAC,w6,or_false,not_or];exact⟨v5 (bCM _),bCU c⟩
 refine aC2 (Walks.list (by first|exact I|simp[I]) _ l u its) s.heap.objs.size m P C B O its.size 0 _ (by lia) ⟨⟨_,j5 _ rfl,rfl,rfl⟩,d.push _⟩ ?_ λh' tk D n=>?_
 ·have H:((s.heap.push (bF a)).push { cls:=.type "list_iterator",data:=.fields #[.ref l,.int 0 0] }).get? s.heap.objs.size=some (bF a):=d8 _ z;exact dM.congr ((PyProof.Rows.setObjOf_fresh (knd:=strKind prog w) a).setOf H (by unfold scanBound;lia)) (λ_=>rfl) rfl
 ·refine d9 (d9 (q h' tk n λb o k e=>D b o ?_ (d8 _ (d8 _ e))));rw[p];simp only[bAC,w6,or_false,not_or];exact⟨v5 k,v5 (bBF k)⟩
def aCu {l:Addr}{its:Array Value}{K:List Str}{Q:bFI}(u:A.handled=none)(D:s.heap.IsList l its)(m:K.length=its.size)
  (n:∀(i:Nat) (v:Value),its[i]?=some v->∃t,v=Value.str (K.getD i "") t) (J:its.size+1<scanBound)
  (q:∀h' tk,dM prog w h' s.heap.objs.size K->(∀b o,b<s.heap.objs.size->s.heap.get? b=some o->h'.get? b=some o)->Q (.ref s.heap.objs.size) { s with heap:=h',toks:=tk }) :
  wpAny (model prog w) A (call (.type "set") [.ref l]) Q E s:=by
 have f:=F.called_set;obtain⟨c,B,j⟩:=f.mro;have G:=f.made;have I:=f.sub;have M:=f.notType;have H:=f.canCreate;have N:=F.typeCall_set_1 (.ref l);refine bET (codeAny_of_tree (show wpAny _ _ (callAny (.type "set") _) _ _ _ from d9 ⟨Code.quiet_builtin _ (by decide +kernel),bBD F.entry_type_call ?_⟩));rw[Around.under_plain (weight_type_call_type "set" [.ref l] []) (by rfl)]
 repeat (any_goals (first|assumption|wp_step))
 refine bCP (code_set_new_1 (.ref l) (Q₁:=λobj k=>∃a:Bool,obj=.ref s.heap.objs.size/\k={ s with heap:=s.heap.push (bF a) }) (E:=E) λa=>⟨a,rfl,rfl⟩) λr k g=>?_;rcases r with e|fl
 ·exact g
 rcases fl with _|_|_|obj
 ·exact g.elim
 ·exact g.elim
 ·exact g.elim
 obtain⟨a,rfl,rfl⟩:=g;have y:Shared.TypeIs { s with heap:=s.heap.push (bF a) } (.ref s.heap.objs.size) "set":=⟨_,j5 _ rfl,rfl⟩;have L:=f.init.lookup;have C:=f.init.bind (.ref s.heap.objs.size)
 repeat (any_goals (first|assumption|wp_step))
 refine bCP (bDV (R:=wants (λr p=>r=.none/\∃h' tk,p={ s with heap:=h',toks:=tk }/\dM prog w h' s.heap.objs.size K/\∀b o,b<s.heap.objs.size->s.heap.get? b=some o->h'.get? b=some o) E)
  f.init.plain F.entry_set_init (check_set_init_1 y (aMn a (by first|exact u|simp[u]) D m n J λh' tk x h=>⟨rfl,h',tk,rfl,x,h⟩))) λz p d=>?_
 rcases z with e|fl
 ·exact d
 rcases fl with _|_|_|v
 ·exact d.elim
 ·exact d.elim
 ·exact d.elim
 obtain⟨rfl,h',tk,rfl,x,h⟩:=d
 repeat (any_goals (first|assumption|wp_step))
 exact q h' tk x h
def aQc {D:Addr}{ss:List Str}{Q:bFI}(x:dM prog w s.heap D ss)(q:Q (.int ((pA ss).length:Nat) (s.toks+1)) { s with toks:=s.toks+1+1 }):wpAny (model prog w) A (call (.builtin "len") [.ref D]) Q E s:=by
 obtain⟨o,i,h,t,c,a,hd,d,b,e,f,g⟩:=x;refine call_len_set c a hd f ?_ ?_
 ·unfold scanBound at e;lia
 ·rw[g];exact q
end
end PySem
namespace L2
open PySem PySem.Spec PyProof.Rows
def aT7 (P:Program)(w:World)(D:Addr)(ss:List Str):HO:=.ext λh=>dM P w h D ss
section
variable {X:Cx}
def aZm (P:Program)(w:World)(K:bFH):List V->Hp->VK->Prop:=λxs H Q=>∃(p:Addr) (ss:List Str),xs=[.ref p]/\SqL K H p (ss.map V.str)/\ss.length<=1000/\∀D,H D=none->Q (.ref D) (upd H D (aT7 P w D ss))
def aNu (O:X.calm=true):cO X (.type "set") (aZm X.prog X.w X.K):=by
 intro E s σ H N P Q I r h;obtain⟨p,d,rfl,F,R,q⟩:=h;obtain⟨u,rfl,B⟩:=r.one;cases B;obtain⟨f,l,z,L⟩:=I.list F;have a:=l.length;rw[j9] at a;refine aCu (I.ok.hd O) z.isList (by rw[j7];exact a) (λi v C=>?_) (by rw[j7,<-a];unfold scanBound;lia) λg G x A=>?_
 ·have c:f[i]?=some v:=by simpa using C
  have n:i<d.length:=by rw[a];exact (List.getElem?_eq_some_iff.mp c).1
  obtain⟨u,j,t,rfl⟩:=l.get (i:=i) (x:=.str d[i]) (by rw[v6,d7 n];rfl);rw[c] at j;cases j;exact⟨t,by rw[j4,d7 n];rfl⟩
 ·have e:∃o,g.get? s.heap.objs.size=some o:=by obtain⟨o,_,_,_,D,_⟩:=x;exact⟨o,D⟩
  exact⟨.ref s.heap.objs.size,_,I.laid (o:=aT7 X.prog X.w s.heap.objs.size d) (λb o m=>A b o (m9 m) m) (j0 _) (show dM X.prog X.w g s.heap.objs.size d/\_/\_ from ⟨x,e,λJ M y k=>y.at k⟩),rfl,q _ (I.hok.fresh (j0 _))⟩
def aLo:cO X (.builtin "len") (λxs H Q=>∃(D:Addr) (ss:List Str),xs=[.ref D]/\H D=some (aT7 X.prog X.w D ss)/\Q (.int ((pA ss).length:Nat)) H):=by intro b s σ H xs d Q I r h;obtain⟨D,ss,rfl,c,q⟩:=h;obtain⟨u,rfl,a⟩:=r.one;cases a;obtain⟨x,_⟩:=I.hok D _ c;exact aQc x ⟨.int ((pA ss).length:Nat),H,I.tok _,⟨_,rfl⟩,q⟩
end
def lB {X:Cx}{scope:Scope}{x y:Str}{σ:St}{v:V}(j:Nat)(d:(y,NameKind.free)∈scope.names)(c:X.N[j]?=some y)(e:σ[j]?=some (some v))(f:Vis X.env.scope y):Cap X scope [x,y] σ [none,some v]:=
 ⟨rfl,λi z u a b=>by
  match i,a,b with
  |0,_,b=>cases b
  |1,a,b=>cases a;cases b;exact⟨d,j,c,e,f⟩
  |i+2,a,_=>cases a⟩
def uB {X:Cx}{scope:Scope}{x y:Str}{σ:St}:Cap X scope [x,y] σ [none,none]:=⟨rfl,λi z u b a=>by
  match i,b,a with
  |0,_,a=>cases a
  |1,_,a=>cases a
  |i+2,b,_=>cases b⟩
section
variable {X:Cx}{a b e:Expr}{es:List Expr}{te:TE}{t:TA}{pos p:Pos}{x:Str}
def aVg {k:Nat}(c:Room k X.A)(b:VE X (.Name x p) te)(d:VA X (e::es) t)(f:dB e=true:=by rfl)(a:(backTo pos (starEach es X.env)).any (·.1)=false:=by rfl) :
  VE X (.Call (.Name x p) (e::es) [] pos) (aU3 X.prog X.w X.K X.mg X.base k te t):=⟨aVl c b.1 d.1 (aR f) a⟩
def aT8 {P:Program}{w:World}{K:bFH}{mg:bFK}{base:Heap}{k:Nat}(c:Room k X.A)(j:VE X (.Name x p) te)(g:VA X (e::es) t)(h:dB e=true:=by rfl)(a:(backTo pos (starEach es X.env)).any (·.1)=false:=by rfl)
  (b:X.prog=P:=by rfl) (d:X.w=w:=by rfl) (f:X.K=K:=by rfl) (i:X.mg=mg:=by rfl) (l:X.base=base:=by rfl) :
  VE X (.Call (.Name x p) (e::es) [] pos) (aU3 P w K mg base k te t):=by
 subst b d f i l;exact aVg c j g h a
def bR {K:bFH}(h:X.K=K:=by rfl):IxR X (bCm K):=by subst h;exact aX
def tY {K:bFH}{k:Nat}{u:TGs}{n:Nat}(c:X.calm=true)(h:VGs X es u)(b:(assignEach es X.env).length=n:=by rfl)(a:(assignEach es X.env).findIdx? (·.1)=none:=by rfl)(d:X.K=K:=by rfl):VG X (.Tuple es k pos) (aNo K n u):=by subst d;exact zF c h b a
def aVz {elts:List Expr}{kt:Nat}{tp:Pos}(g:Gl X "zip")(d:X.mg "zip"=none)(e:VA X [a,b] t)(f:dB a=true:=by rfl)(c:dB b=true:=by rfl) :
  VI X (.Tuple elts kt tp) (.Call (.Name "zip" p) [a,b] [] pos) (aTn X.K t):=⟨aW0 g d e.1 (aR f) (aR (es:=[]) c)⟩
def rY {tg:Expr}{g:TG}(d:VE X e te)(c:VG X tg g)(b:swapsWithSole [tg] e pos.line X.env=pure false:=by rfl)(f:swappedStores [tg] e X.env=pure none:=by rfl)
  (a:(assignEach [tg] X.env).map (·.2)=[assign tg X.env]:=by rfl):VS X (.Assign [tg] e pos) (aAm te g):=⟨bAe d.1 c.1 b f a⟩
end
section
variable {X:Cx}
def bC0:V->Option Int->Option Int->Hp->VK->Prop:=λx lo hi H Q=>∃z,x=.str z/\z.length<=sizeLine/\Q (.str (Txt.slice z lo hi)) H
theorem aG3:SlR X bC0:=by
 intro e s σ H x v J K r E g Q I p D n m h;obtain⟨z,rfl,B,q⟩:=h;obtain⟨t,rfl⟩:=p;have a:∀l u:Option (Int × Tok),l.map (·.1)=r->u.map (·.1)=E->s.heap.IsSlice g l u none->wpAny (model X.prog X.w) X.A (getItem (.str z t) (.ref g)) (EP X e σ Q) X.xe s:=λl u C y d=>by subst C y;refine wpAny_getItem_str_slice (st:=none) d rfl ?_;unfold sliceMade;have f:=Txt.slice_le z (l.map (·.1)) (u.map (·.1));exact post_val_or_str ⟨bAM f B,λG k=>⟨.str (Txt.slice z (l.map (·.1)) (u.map (·.1))),H,I.tok _,⟨_,rfl⟩,q⟩⟩
 refine⟨"str",_,F.slot_str_getitem.lookup,typeIs_str _ _ _,?_⟩;obtain⟨o,b,c,hd⟩:=D;cases n with
 |none=>
  cases m with
  |none=>exact a none none rfl rfl ⟨o,b,c,hd⟩
  |int j u=>exact a none (some (j,u)) rfl rfl ⟨o,b,c,hd⟩
 |int i t=>
  cases m with
  |none=>exact a (some (i,t)) none rfl rfl ⟨o,b,c,hd⟩
  |int j u=>exact a (some (i,t)) (some (j,u)) rfl rfl ⟨o,b,c,hd⟩
end
def aU4 {x:Str}{j:Nat}(h:j<=x.length):(Txt.slice x none (some (j:Int))).cps.toList=x.cps.toList.take j:=by have e:=StrLaws.sliceText_to (x:=x) (j:=(j:Int)) ⟨by lia,by rw[t8];exact Int.ofNat_le.mpr h⟩;show (StrLaws.sliceText x none (some (j:Int))).cps.toList=_;rw[e];simp
def aLq {x:Str}{j:Nat}(h:j<=x.length):(Txt.slice x (some (j:Int)) none).cps.toList=x.cps.toList.drop j:=by have e:=StrLaws.sliceText_from (x:=x) (i:=(j:Int)) ⟨by lia,by rw[t8];exact Int.ofNat_le.mpr h⟩;show (StrLaws.sliceText x (some (j:Int)) none).cps.toList=_;rw[e];simp only[bAR];refine bAW ?_;rw[bBY];lia
def put (x:Str)(a:Nat)(c:Nat):Str:=Txt.slice x none (some (a:Int))++⟨#[c]⟩++Txt.slice x (some (a:Int)) none
def aF6 {x:Str}{a c:Nat}(h:a<=x.length):(put x a c).cps.toList=x.cps.toList.take a++c::x.cps.toList.drop a:=by show ((Txt.slice x none (some (a:Int))).cps++#[c]++(Txt.slice x (some (a:Int)) none).cps).toList=_;rw[bDF,bDF,aU4 h,aLq h];simp
def aVw {x:Str}{a c d:Nat}(h:a<=x.length)(e:put x a c=put x a d):c=d:=by have b:=congrArg (λy:Str=>y.cps.toList) e;simp only[aF6 h] at b;have f:=List.append_cancel_left b;exact (List.cons.inj f).1
def aWd {x:Str}{a c:Nat}(h:a<=x.length):(put x a c).length=x.length+1:=by
 have e:=congrArg List.length (aF6 (c:=c) h);have l:x.length=x.cps.toList.length:=by rw[t8];rfl
 rw[t8,bAB,v9,bAO,bBY] at e;show (put x a c).cps.size=_;lia
def aV8 {x:Str}{a c d:Nat}(h:a<=x.length)(m:d∈(put x a c).cps):d=c\/d∈x.cps:=by
 have b:d∈(put x a c).cps.toList:=Array.mem_toList_iff.mpr m;rw[aF6 h] at b;rcases List.mem_append.mp b with z|z
 ·exact .inr (Array.mem_toList_iff.mp (bDC z))
 ·rcases List.mem_cons.mp z with z|z
  ·exact .inl z
  ·exact .inr (Array.mem_toList_iff.mp (List.mem_of_mem_drop z))
section
variable {X:Cx}{scope:Scope}{N:List Str}{wi:TI}{te:TE}{σ:St}{H:Hp}{Q:VK}
end
section
variable {X:Cx}{e:Expr}{es:List Expr}{t:TA}{pos:Pos}
def bB7 (t:TA):TE:=fun σ H Q=>t σ H λxs H1=>xs.length<=sizeLine/\∀p H',H1 p=none->Same H1 H'->H' p=some (.tup xs)->Q (.ref p) H'
def bCr (t:TA):TE:=fun σ H Q=>t σ H λxs H1=>xs.length<=sizeLine/\∀p H',H1 p=none->Same H1 H'->H' p=some (.lst xs)->Q (.ref p) H'
def aZ5:TE:=λ_ H Q=>∀p H',H p=none->Same H H'->H' p=some (.dK [])->Q (.ref p) H'
def dR {x1}(h:VA X es t):VE X (.Tuple es x1 pos) (bB7 t):=⟨by intro c s σ H Q I k;refine wpAny_Tuple_spliced (thn (h.1 pos c s σ H _ I k) λj a ⟨i,f,g,r,z,q⟩=>⟨by rw[<-r.length];exact z,?_⟩);have d:f a.heap.objs.size=none:=g.hok.fresh (j0 _);refine⟨.ref a.heap.objs.size,upd f a.heap.objs.size (.tup i),g.laid (t':=a.toks) (λb u e=>d8 _ e) (j0 _) ?_,rfl,q _ _ d (bC d _) aH⟩;exact⟨z,j,r,.of (j5 _ rfl) rfl ⟨_,j5 _ rfl,rfl,_,rfl⟩⟩⟩
def dJ (h:VA X es t):VE X (.List es pos) (bCr t):=⟨by intro c s σ H Q I k;refine wpAny_List_spliced (thn (h.1 pos c s σ H _ I k) λj a ⟨i,f,g,r,z,q⟩=>⟨by rw[<-r.length];exact z,?_⟩);have d:f a.heap.objs.size=none:=g.hok.fresh (j0 _);refine⟨.ref a.heap.objs.size,upd f a.heap.objs.size (.lst i),g.laid (t':=a.toks) (λb u e=>d8 _ e) (j0 _) ?_,rfl,q _ _ d (bC d _) aH⟩;exact⟨z,j,0,r,j5 _ rfl⟩⟩
def aSm:VE X (.Dict [] [] pos) aZ5:=VE.imp aS5 fun σ H Q h p a=>h p _ a (bC a _) aH
def OpR.imp {f:Value->Value->Sem Value}{r r':R2}(h:OpR X f r)(k:∀x y H Q,r' x y H Q->r x y H Q):OpR X f r':=λa s σ H x y v u Q I b c q=>h a s σ H x y v u Q I b c (k _ _ _ _ q)
def cO.imp {f:Value}{r r':List V->Hp->VK->Prop}(h:cO X f r)(k:∀xs H Q,r' xs H Q->r xs H Q):cO X f r':=λa s σ H xs c Q I b q=>h a s σ H xs c Q I b (k _ _ _ q)
def bCg (K:bFH):R2:=λx y H Q=>∃a b xs ys,x=.ref a/\y=.ref b/\SqT K H a xs/\SqT K H b ys/\xs.length+ys.length<=sizeLine/\∀r H',Same H H'->SqT K H' r (xs++ys)->Q (.ref r) H'
def aNx:OpR X (binaryOp .Add) (bCg X.K):=OpR.imp (aV7.or aVv) λx y H Q ⟨a,b,e,f,g,i,c,d,j,q⟩=>by
 by_cases h:e=[]
 ·subst h;exact .inr ⟨a,b,f,g,i,c,d,q b H (Same.refl H) d⟩
 ·refine .inl ⟨a,b,e,f,g,i,c,d,h,j,λz=>?_,λ_ p k=>q p _ (bC k _) (SqT.of aH)⟩;subst z;exact q a H (Same.refl H) (by rw[bCJ];exact c)
def bDe (K:bFH):V->Option Int->Option Int->Hp->VK->Prop:=λx lo hi H Q=>∃a xs,x=.ref a/\SqT K H a xs /\
 ¬ (HT.sIx xs.length 0 lo=0/\HT.sIx xs.length xs.length hi=xs.length)/\∀p H',Same H H'->H' p=some (.tup (pB xs lo hi))->Q (.ref p) H'
def aHt:SlR X (bDe X.K):=λb s σ H x v c f j l o Q I h g d r ⟨a,i,e,k,n,q⟩=>
 bA8 b s σ H x v c f j l o Q I h g d r ⟨a,i,e,k,n,λp m=>q p _ (bC m _) aH⟩
def aZb:R2:=λx y H Q=>∃l b xs zs,x=.ref l/\y=.ref b/\H l=some (.lst xs)/\H b=some (.lst zs)/\xs.length+zs.length<=sizeLine/\∀p H',H p=none->Same H H'->H' p=some (.lst (xs++zs))->Q (.ref p) H'
def sS:OpR X (binaryOp .Add) aZb:=OpR.imp bAo λx y H Q ⟨l,b,d,c,g,h,i,f,e,q⟩=>⟨l,b,d,c,g,h,i,f,e,λp a=>q p _ a (bC a _) aH⟩
def aSj (K:bFH):List V->Hp->VK->Prop:=λxs H Q=>∃p ys,xs=[.ref p]/\(SqL K H p ys\/SqT K H p ys)/\∀l H',H l=none->Same H H'->H' l=some (.lst ys)->Q (.ref l) H'
def vN:cO X (.type "list") (aSj X.K):=cO.imp aG8 λc H Q ⟨p,b,e,h,q⟩=>⟨p,b,e,h,λl a=>q l _ a (bC a _) aH⟩
def aVp (K:bFH):List V->Hp->VK->Prop:=λxs H Q=>∃p ys,xs=[.ref p]/\SqL K H p ys/\∀l H',H l=none->Same H H'->H' l=some (.tup ys)->Q (.ref l) H'
def rP:cO X (.type "tuple") (aVp X.K):=cO.imp aDz λc H Q ⟨p,b,e,h,q⟩=>⟨p,b,e,.inl ⟨h,λl a=>q l _ a (bC a _) aH⟩⟩
def pZ:MtR X "list.append" aPp:=xZ
def lG {H H':Hp}{D:Addr}{o:HO}(f:H D=none)(s:Same H H'):Same H (upd H' D o):=λb u e=>by rw[aP (aU e f)];exact s _ _ e
end
end L2
namespace PySem
section
variable {prog:Program}{w:World}{A:Around}{E:bFI}{s:Shared}{T:String}{r d:Addr}{n:Nat}{P:Nat->Value->Prop}{OK:Heap->Prop}
end
end PySem
namespace L2
open PySem PySem.Spec PyProof.Rows
section
variable {X:Cx}
end
section
variable {X:Cx}{bFL:bFJ}{σ:St}{H:Hp}{s:Shared}
def Inv.jY {t b:Addr}{xs:List V}(I:Inv X bFL σ H s)(h:SqL X.K H t xs)(f:uD X bFL H b):t≠b:=by
 rintro rfl;obtain⟨a,i,j,c,_⟩:=f;rcases h with (h|⟨o,h⟩)|⟨o,g,n,d,_⟩
 ·rw[a] at h;cases h
 ·rw[a] at h;cases h
 ·have e:=I.ok.mod.kin t o d;rcases c with z|z
  ·exact I.ok.noex t o e z
  ·exact absurd (bAA (m9 e) (bAM I.ok.bsz z)) (bBO _)
end
def Ite (K:bFH)(l:Addr)(xs:List V):It:=
 ⟨λi H=>SqL K H l xs/\i<xs.length,λi H v H'=>∃T a,H T=none/\v=.ref T/\H'=upd H T (.tup [.int (i:Nat),a])/\xs[i]?=some a,λi H=>SqL K H l xs/\xs.length<=i⟩
def etn (e it l:Addr)(i:Nat)(h:Heap):Prop:=(∃old,IsEnum h e it (i:Int) old)/\h.IsListIter it l i
def aP3 {P:Program}{w:World}{K:bFH}{elts:List Expr}{kt:Nat}{pos:Pos}{e it l:Addr}{xs:List V}(F:e≠it) :
  Turn P w K (.Tuple elts kt pos) (Ite K l xs) [e,it] e (etn e it l) where
 mem:=by simp
 obj:=λi h f b a=>by
  obtain⟨⟨c,d⟩,o,j,c2,d2⟩:=f;simp only[bAC,w6,or_false] at a;rcases a with rfl|rfl
  ·exact⟨_,d,λv z=>by cases (show Data.fields _=Data.cell v from z)⟩
  ·exact⟨_,j,λv z=>by rw[d2] at z;cases z⟩
 keep:=λi h m f k=>by obtain⟨⟨c,d⟩,o,j,r⟩:=f;exact⟨⟨c,k e (by simp) _ d⟩,o,k it (by simp) _ j,r⟩
 item:=by
  intro X p D u T i g s σ H E I n f C;subst p D u;obtain⟨⟨c,d⟩,j⟩:=f;obtain⟨G,S⟩:=C;obtain⟨its,q,y,W⟩:=I.list G;obtain⟨x,hx,U⟩:=q.get (d7 S);have Z:=n e (by simp);have fi:=n it (by simp);refine wpAny_pyNext_enum_item d j y.isList (by simpa using hx) F λm R O L a4 A=>?_;refine⟨_,rfl,?_⟩;have fT:H s.heap.objs.size=none:=I.hok.fresh (j0 _);obtain⟨oi,B,_⟩:=id j;obtain⟨a0,J,_⟩:=id O;have I1:Inv X g σ (upd H s.heap.objs.size (.tup [.int (i:Nat),xs[i]])) { s with heap:=m }:=by
   refine I.drawn (ch:=[e,it]) (its:=[.int i s.toks,x]) (λb a=>n b a) (λb o a z=>?_) (j0 _) (.cons ⟨_,rfl⟩ (.cons U .nil)) (small (by simp)) (.of L rfl ⟨_,L,rfl,_,rfl⟩) (λb a=>?_)
   ·simp only[bAC,w6,or_false,not_or] at a;exact A b o a.1 a.2 z
   ·simp only[bAC,w6,or_false] at a;rcases a with rfl|rfl
    ·exact⟨_,R⟩
    ·exact⟨_,J⟩
  have t:Inv X g σ (upd H s.heap.objs.size (.tup [.int (i:Nat),xs[i]])) { s with heap:=m,toks:=s.toks+1 }:=I1.tok _;have Q:∀b∈[e,it],b≠s.heap.objs.size:=λb a=>by
   simp only[bAC,w6,or_false] at a;rcases a with rfl|rfl
   ·exact v5 (m9 d)
   ·exact v5 (m9 B)
  refine wpAny_letOwnedTupleGo_enum (s:={ s with heap:=m,toks:=s.toks+1 }) R λh2 z2 N=>?_;obtain⟨g0,g1,g2,g3,g4,g5⟩:=Z;have I2:Inv X g σ (upd H s.heap.objs.size (.tup [.int (i:Nat),xs[i]])) { s with heap:=h2,toks:=s.toks+1 }:=Inv.turned (s:={ s with heap:=m,toks:=s.toks+1 }) t (t':=s.toks+1) (it:=e) (λb o a z=>(N.2 b a).trans z) (by rw[aP (Q e (by simp))];exact g0) g1 g3 g4 g5;refine⟨.ref s.heap.objs.size,_,I2,rfl,⟨_,_,fT,rfl,rfl,d7 S⟩,⟨⟨x,?_⟩,?_⟩,λb a=>by rw[aP (Q b a)];exact (n b a).1⟩
  ·rw[show ((i+1:Nat):Int)=(i:Int)+1 from by lia];exact z2
  ·obtain⟨o,Y,r⟩:=O;exact⟨o,(N.2 it (Ne.symm F)).trans Y,r⟩
 done:=by intro X p D u T i g s σ H E I n f C;subst p D u;obtain⟨⟨c,d⟩,j⟩:=f;obtain⟨G,hi⟩:=C;obtain⟨its,q,y,W⟩:=I.list G;have M:=q.length;refine wpAny_pyNext_enum_end (I.ok.hd T) d j y.isList (by simp;lia) λm A=>⟨rfl,?_⟩;refine Inv.aGw (ch:=[it]) I (λb a=>n b (j8 _ a)) λb o a z=>A b o (by simpa using a) z
 self:=λ_ _ _ _ _ f h=>by obtain⟨⟨c,d⟩,_⟩:=f;exact wpAny_pyIter_enum d h
section
variable {X:Cx}
def aYb (K:bFH)(ta:TA):TI:=fun σ H R=>ta σ H λvs H1=>∃l xs,vs=[.ref l]/\SqL K H1 l xs/\R (Ite K l xs) H1
def aXo {elts:List Expr}{kt:Nat}{tp:Pos}{a:Expr}{ta:TA}{p z:Pos}(E:Gl X "enumerate")(M:X.mg "enumerate"=none)(D:PA X [a] ta)(J:starEach [a] X.env=[(false,eval a X.env)]:=by rfl) :
  PI X (.Tuple elts kt tp) (.Call (.Name "enumerate" p) [a] [] z) (aYb X.K ta):=by
 intro c s σ H R I h;refine Call_ (sY I E M aGk (bBR (thn (D z c s σ H _ I h) λL f ⟨G,k,g,r,x⟩=>?_) J (by rfl)));obtain⟨l,xs,e,A,q⟩:=x;subst e;obtain⟨t,F,n,C⟩:=g.list A;obtain⟨u,rfl,y⟩:=vals1 r;cases y;refine call_enumerate_list n.isList λi j v B o=>?_;have w:Inv X c σ k { f with heap:=i }:=g.kept (t':=f.toks) o;refine wpAny_pyIter_enum (s:={ f with heap:=i }) j ⟨_,_,_,_,k,rfl,w,aP3 (xs:=xs) (l:=l) (bCU (bCM _)),⟨⟨_,j⟩,v⟩,λb m=>?_,q⟩;have d:f.heap.objs.size<=b:=by
  simp only[bAC,w6,or_false] at m;rcases m with rfl|rfl
  ·exact bDU _
  ·exact j0 _
 exact g.aGh d (g.hok.fresh d)
def aVc {K:bFH}{l:Addr}{xs:List V}{g:TG}{tb:TS}{D:Ends}{σ:St}{H:Hp}(f:Nat->St->Hp->Prop)(n:f 0 σ H)(j:∀i σ H,i<=xs.length->f i σ H->SqL K H l xs)
  (k:∀i σ H a T H',xs[i]?=some a->f i σ H->H T=none->H'=upd H T (.tup [.int (i:Nat),a])->g (.ref T) σ H' fun σ2 H2=>tb { D with nx:=f (i+1),ct:=f (i+1),bk:=D.nx } σ2 H2) (hd:∀σ H,f xs.length σ H->D.nx σ H) :
  ∃W:Nat->Nat->St->Hp->Prop,(∃m,W 0 m σ H)/\∀i m σ H,W i m σ H ->
   ((Ite K l xs).stop i H/\D.nx σ H)\/((Ite K l xs).go i H/\∃N:St->Hp->Prop,(∀σ' H',N σ' H'->∃m',m'<m/\W (i+1) m' σ' H')/\∀x H',(Ite K l xs).yld i H x H'->g x σ H' fun σ2 H2=>tb { D with nx:=N,ct:=N,bk:=D.nx } σ2 H2):=by
 refine⟨λi m σ H=>m=xs.length - i/\i<=xs.length/\f i σ H,⟨xs.length,by simp,bAG _,n⟩,?_⟩;rintro i m σ H ⟨rfl,hi,p⟩;by_cases b:i<xs.length
 ·refine .inr ⟨⟨j i σ H hi p,b⟩,f (i+1),fun σ' H' d=>⟨xs.length - (i+1),by lia,rfl,b,d⟩,λx H' y=>?_⟩;obtain⟨T,a,c,rfl,e,h⟩:=y;exact k i σ H a T H' h p c e
 ·have e:i=xs.length:=by lia
  subst e;exact .inl ⟨⟨j _ σ H hi p,j0 _⟩,hd σ H p⟩
end
section
variable {X:Cx}{a c e:Expr}{st:Stmt}{body:List Stmt}{tc:TT}{tb:TS}{t:TA}{te:TE}{pos p:Pos}
def eV:VS X st aRt:=⟨aRs⟩
def aW8 {elts:List Expr}{kt:Nat}{tp:Pos}(b:Gl X "enumerate")(c:X.mg "enumerate"=none)(d:VA X [a] t)(e:dB a=true:=by rfl) :
  VI X (.Tuple elts kt tp) (.Call (.Name "enumerate" p) [a] [] pos) (aYb X.K t):=⟨aXo b c d.1 (aR (es:=[]) e)⟩
def aY4 {o:Expr}{to:TE}{name:Str}{apos cpos:Pos}{T id:String}{r:V->List V->Hp->VK->Prop}(f:PlainAttrs T)(slot:Slot T name id)(c:typeOf (.builtin id)=pure (.type "method_descriptor"))(e:MtR X id r)(d:VE X o to)
  (a:attributeBase o name X.env (eval o X.env)=eval o X.env:=by rfl) (b:(apos.endLine == cpos.line)=true:=by rfl):VE X (.Call (.Attribute o name apos) [] [] cpos) (bCd X.K T r to):=⟨bA9 f slot c e d.1 a b⟩
end
section
variable {P:Program}{w:World}{K:bFH}{mg:bFK}{base:Heap}
end
section
variable {X:Cx}{scope:Scope}{N:List Str}{wi:TI}{te:TE}{σ:St}{H:Hp}{Q:VK}
def aRm (xs:List V)(t:Nat->Hp->V->Prop)(st:∀{i H1 H2 y},Same H1 H2->t i H1 y->t i H2 y)(E:∀{i H1 D ys zs y},H1 D=some (.lst ys)->t i H1 y->t i (upd H1 D (.lst zs)) y)
  (s:St) (v:Cap X scope N σ s) (hsz:xs.length<=sizeLine)
  (C:∀R:It->Hp->Prop,(∀J:It,(∀H' i x,Same H H'->xs[i]?=some x->J.go i H'/\∀y H2,J.yld i H' y H2->H2=H'/\y=x)->(∀H',Same H H'->J.stop xs.length H')->R J H)->wi σ H R)
  (G:∀(i:Nat) (x:V),xs[i]?=some x->∀H' R l,Same H H'->(∀y H2,Same H' H2->t i H2 y->R y H2)->te ((s.set 0 l).set 0 (some x)) H' R) (F:s[0]?=some none)
  (q:∀D H' ys,Same H H'->H' D=some (.lst ys)->ys.length=xs.length->(∀(i:Nat) (y:V),ys[i]?=some y->t i H' y)->Q (.ref D) H') :
  lN X scope N wi (cD 0) oR te σ H Q:=by
 refine⟨s,v,C _ λJ go stop D k=>?_⟩;refine⟨λi m h H' ys=>i<=xs.length/\m=xs.length - i/\(∃l,h=s.set 0 l)/\Same H H'/\H' D=some (.lst ys)/\ys.length=i/\∀(j:Nat) (y:V),ys[j]?=some y->t j H' y,⟨xs.length,bAG _,rfl,⟨none,mG F⟩,bC k _,aH,rfl,λj y e=>by simp at e⟩,?_⟩;rintro i m h H' ys ⟨hi,rfl,⟨l,rfl⟩,sm,hL,hl,hR⟩;refine⟨hL,?_⟩;by_cases c:i<xs.length
 ·right;obtain⟨r,A⟩:=go H' i xs[i] sm (d7 c);refine⟨r,λx H2 u=>?_⟩;obtain⟨rfl,rfl⟩:=A x H2 u;unfold cD oR;dsimp only;rw[if_pos rfl];refine G i xs[i] (d7 c) _ _ l sm λy B d w=>⟨d _ _ hL,by lia,xs.length - (i+1),by lia,c,rfl,⟨some xs[i],?_⟩,?_,aH,?_,?_⟩
  ·rw[bCF]
  ·intro b o e;rw[aP (aU e k)];exact d _ _ (sm _ _ e)
  ·rw[bAB,bER,hl]
  ·intro j z a;refine E (d _ _ hL) ?_;by_cases n:j<ys.length
   ·rw[bBM n] at a;exact st d (hR j z a)
   ·rw[bBJ (by lia)] at a;have f:j - ys.length=0:=by
     by_cases p:j - ys.length=0
     ·exact p
     ·rw[bAD (by simp;lia)] at a;cases a
    have g:j=i:=by lia
    subst g;rw[f] at a;cases a;exact w
 ·left;have e:i=xs.length:=by lia
  subst e;exact⟨stop _ sm,q D _ ys sm hL hl hR⟩
def aWa (xs ys:List V)(f:ys.length=xs.length)(n:St)(j:Cap X scope N σ n)(hsz:xs.length<=sizeLine)
  (p:∀R:It->Hp->Prop,(∀J:It,(∀H' i x,Same H H'->xs[i]?=some x->J.go i H'/\∀y H2,J.yld i H' y H2->H2=H'/\y=x)->(∀H',Same H H'->J.stop xs.length H')->R J H)->wi σ H R)
  (s:∀(i:Nat) (x y:V),xs[i]?=some x->ys[i]?=some y->∀H' R l,Same H H'->(∀H2,Same H' H2->R y H2)->te ((n.set 0 l).set 0 (some x)) H' R) (o:n[0]?=some none)
  (q:∀D H',Same H H'->H' D=some (.lst ys)->Q (.ref D) H') :
  lN X scope N wi (cD 0) oR te σ H Q:=by
 refine aRm xs (λi _ y=>ys[i]?=some y) (λ_ h=>h) (λ_ h=>h) n j hsz p (λi x d H' R l c r=>?_) o λD H' b c m t k=>?_
 ·have a:i<ys.length:=by rw[f];exact (List.getElem?_eq_some_iff.mp d).1
  exact s i x ys[i] d (d7 a) H' R l c λH2 g=>r _ H2 g (d7 a)
 ·have e:b=ys:=by
   refine bCE λi=>?_;by_cases a:i<b.length
   ·rw[k i b[i] (d7 a),d7 a]
   ·rw[bAD (by lia),bAD (by lia)]
  subst e;exact q D H' c m
end
section
variable {X:Cx}{tg e o i:Expr}{te td ty:TE}{pos:Pos}
def aA0 (a:X.A.units+1<cLine)(c:VE X o td)(hi:VE X i ty)(b:bAm i):VE X (.Subscript o i pos) (aYp td ty):=⟨aXl a c.1 hi.1 b⟩
end
def aEq {X:Cx}{i o:Expr}{td ty:TE}{pos:Pos}(c:X.A.units+1<cLine)(hi:VE X i ty)(b:VE X o td)(a:behindInMarks .NotIn o=false:=by first|exact nobehind _ (by decide) (by decide)|rfl):VT X (.Compare i [.NotIn] [o] pos) (tB (aO6 ty td)):=⟨aSq (aQz c hi.1 b.1) a⟩
end L2
namespace L2
open PySem PySem.Spec PyProof.Rows
def sel {α:Type}(p:Nat->Bool):Nat->List α->List α
 |_,[]=>[]
 |i,x::r=>if p i then x::sel p (i+1) r else sel p (i+1) r
theorem aB9 {α:Type}(p:Nat->Bool)(x:α):∀(k:Nat) (xs:List α),sel p k (xs++[x])=sel p k xs++(if p (k+xs.length) then [x] else [])
 |k,[]=>by show (if p k then x::sel p (k+1) [] else sel p (k+1) [])=[]++(if p (k+0) then [x] else []);rw[Nat.add_zero,bD7];rfl
 |k,y::r=>by
  show (if p k then y::sel p (k+1) (r++[x]) else sel p (k+1) (r++[x]))=(if p k then y::sel p (k+1) r else sel p (k+1) r)++_;rw[aB9 p x (k+1) r,v9,show k+1+r.length=k+(r.length+1) by lia]
  split <;> rfl
theorem aHk {α:Type}(p:Nat->Bool):∀(k:Nat) (xs:List α),(sel p k xs).length<=xs.length
 |_,[]=>j0 _
 |k,y::r=>by
  have:=aHk p (k+1) r;show (if p k then y::sel p (k+1) r else sel p (k+1) r).length<=r.length+1
  split
  ·rw[v9];lia
  ·lia
section
variable {X:Cx}{scope:Scope}{N:List Str}{wi:TI}{te:TE}{σ:L2.St}{H:Hp}{Q:VK}
end
def aX5 {X:Cx}{i0:Nat}{x0:Str}{F spos:Pos}{aw O U:Expr}{aq:List Expr}{scope:Scope}{ap:Pos}{N:List Str}{wi:TI}{g:TG}{tt:TT}{te:TE}
  (hN:X.N.Nodup) (b4:X.N[i0]?=some x0) (b2:Loc X.env.scope x0) (C:aCw scope N) (af:∀y,(y,NameKind.free)∈scope.names->X.env.kindOf y=some .cell\/X.env.kindOf y=some .free) (hc:X.calm=true)
  (hi:PI X O U wi)
  (f:∀cl s H fp,PG (cxC X N scope cl s H fp) O g/\aSc (cxC X N scope cl s H fp) aq tt/\PE (cxC X N scope cl s H fp) aw te)
  (hs:∀x,foldedSetIterable U X.env x=pure x:=by intro _;rfl) (b1:swapsWith (.ListComp aw [⟨O,U,aq,0⟩] scope ap) (some (.Name x0 F)) spos.line X.env=pure true:=by rfl)
  (hf:X.fn x0=true\/X.env.scope.names.lookup x0=some .local:=by first|exact .inl rfl|exact .inr rfl|assumption) :
  PS X (.Assign [.Name x0 F] (.ListComp aw [⟨O,U,aq,0⟩] scope ap) spos) (aAm (lN X scope N wi g tt te) (cD i0)):=by
 intro D s σ H Dn I hq;obtain⟨σ0,au,hq⟩:=hq;obtain⟨cl,an,p1,p2⟩:=aBg (scope:=scope) (env:=X.env) (λy hy hk=>by obtain⟨n,k⟩:=y;cases hk;exact I.ok.has n (af n hy))
 rw[exec_Assign_Name_used _ _ _ _ b1];refine c7 (bFG (c7 ?_));show wpAny _ X.A (do let _ <-comprehension (.ListComp aw [⟨O,U,aq,0⟩] scope ap) scope X.env _ (newList []) false (eval U X.env) (some (assign (.Name x0 F) X.env))) _ _ s;refine c7 (bBN (wpAny_comprehension_free (use:=some (assign (.Name x0 F) X.env)) (Q:=λ_ s'=>SP X D Dn .next s') rfl hs an C.kind C.names (thn (hi D s σ H _ I hq) λxv s1 h1=>thn h1 λaz j h2=>?_))
  (λ_ s' hq=>d9 (d9 hq)) λ_ _ e=>e)
 obtain⟨it,fp,tn,J,L,rfl,I2,T,ab,f2,q2⟩:=h2;refine bAK (bEZ C.cell (by intro y hy;simp at hy) (λh₁ E K=>?_) C.kind);dsimp only at E K ⊢;have hD:L j.heap.objs.size=none:=I2.hok.fresh (j0 _);have I3:Inv X D σ (upd L j.heap.objs.size (.lst [])) { j with heap:=j.heap.push { cls:=.type "list",dict:=none,data:=.seq ([]:List Value).toArray } }:=
  I2.laid (t':=j.toks) (λb u e=>d8 _ e) (j0 _) ⟨bAG _,[],0,.nil,j5 _ rfl⟩
 generalize a7:({ j with heap:=j.heap.push { cls:=.type "list",dict:=none,data:=.seq ([]:List Value).toArray } }:Shared)=s3 at I3;have a2:j.heap.push { cls:=.type "list",dict:=none,data:=.seq ([]:List Value).toArray }=s3.heap:=by rw[<-a7]
 rw[a2] at E K;have a8:∀b∈fp,b<j.heap.objs.size:=λb f=>by obtain⟨o,e,_⟩:=T.obj _ _ ab b f;exact m9 e
 have ac:∀b∈fp,b<s3.heap.objs.size:=λb f=>by rw[<-a2,bAX];exact bBF (a8 b f)
 have f3:∀b∈fp,uD X D (upd L j.heap.objs.size (.lst [])) b:=λb f=>by obtain⟨f0,fr⟩:=f2 b f;exact⟨by rw[aP (v5 (a8 b f))];exact f0,fr⟩
 have G:∀b o,s3.heap.get? b=some o->h₁.get? b=some o:=λb o e=>K.extBut b o (v5 (m9 e)) (d8 _ e);have I4:=aIl (tk:=s3.toks) I3 C af p1 p2 au f3 ac E G;have aa:tn 0 h₁:=T.keep _ _ _ ab λb f o e=>G b o (by rw[<-a2];exact d8 _ e);obtain⟨W,⟨m0,w0⟩,a9⟩:=q2 j.heap.objs.size hD;have a1:∀{H':Hp},(∀b∈fp,H' b=none)->∀b∈fp,uD (cxC X N scope cl s3 (upd L j.heap.objs.size (.lst [])) fp) [] H' b:=λ{H'} hn b f=>by obtain⟨e1,e2⟩:=I4.ok.exf b f;exact⟨hn b f,e1,I4.ok.exfs b f,.inl f,e2,λp hp=>absurd (show p∈([]:bFJ) from hp) (by simp)⟩
 have P:∀s4:Shared,s4={ s3 with heap:=h₁,toks:=s3.toks } ->
   codeAny (model X.prog X.w) X.A (.compLoop (.ListComp aw [⟨O,U,aq,0⟩] scope ap) 0 (.ref it) (.ref j.heap.objs.size) (compEnvC scope cl s3.heap.objs.size X.env))
    (compPost (model X.prog X.w) X.A X.xe (some (assign (.Name x0 F) X.env)) (λ_ s'=>SP X D Dn .next s') (.ref j.heap.objs.size) s3.heap.objs.size) s4:=by
  rintro s4 rfl;refine aFe (λn s'=>∃i σ' H' ys,Inv (cxC X N scope cl s3 (upd L j.heap.objs.size (.lst [])) fp) [] σ' H' s'/\tn i s'.heap/\(∀b∈fp,H' b=none)/\W i n σ' H' ys) ?_ m0 ⟨0,σ0,_,[],I4,aa,λb f=>(f3 b f).1,w0⟩;rintro n s5 ⟨i,σ5,H5,ys,I5,st5,fr5,w5⟩;obtain⟨ay,w5⟩:=a9 i n σ5 H5 ys w5;have m:∀{α:Type} {t:Sem α} {Q':α->Shared->Prop} {E':bFI} {s':Shared},wpAny (model X.prog X.w) X.A t Q' (λ_ _=>False) s'->wpAny (model X.prog X.w) X.A t Q' E' s':=λh=>bBN h (λ_ _ q=>q) λ_ _ z=>z.elim;rcases w5 with⟨a4,qn⟩|⟨go,step⟩
  ·refine m (thn (T.done (cxC X N scope cl s3 (upd L j.heap.objs.size (.lst [])) fp) rfl rfl rfl hc i [] s5 σ5 H5 _ I5 (a1 fr5) st5 a4) λr S ⟨hr,I6⟩=>?_);subst hr;obtain⟨m6,ah,_⟩:=I6.loc;have kp:∀b o,b≠s3.heap.objs.size->S.heap.get? b=some o->S.heap.get? b=some o:=λb o f e=>e;have Y:∀b o,s3.heap.get? b=some o->b≠s3.heap.objs.size:=λb o e=>v5 (m9 e);have un:Un (frs X.stack) fp (upd L j.heap.objs.size (.lst [])) H5 s3.heap S.heap:=by
    have u:=I6.base;exact⟨λb o e n f hx=>kp b o (Y b o e) (u.keep b o e n f hx),λb o e n f hx=>by
     obtain⟨sl,e1⟩:=u.slot b o e n f hx;exact⟨sl,kp b _ (Y b o e) e1⟩,u.free,λb o e hx=>by
     obtain⟨o',e1⟩:=u.there b o e hx;exact⟨o',kp b _ (Y b o e) e1⟩,u.tups,u.frzs,u.tbls⟩
   have ao:HOk X.prog X.w H5 S.heap:=λb u e=>by
    refine (I6.hok b u e).stay (λc v ak q=>kp c v ?_ q) (λ_ q=>q) λ_ _ q=>q;have l:H5 s3.heap.objs.size=none:=I6.free;rintro rfl;rcases ak with z|z
    ·rw[z] at l;rw[l] at e;cases e
    ·rw[l] at z;cases z
   have I7:Inv X D σ H5 S:=by refine I3.call' (s':=S) I6.os un ao I6.bare λb f=>?_;obtain⟨f0,f1,b3,av,f4,f5⟩:=f3 b f;exact⟨av,f1,f4,f5⟩
   have l:H5 s3.heap.objs.size=none:=I6.free;obtain⟨g0,g1,g2,g3,g4,g5⟩:=I3.aGh (j0 _) l;show wpAny (model X.prog X.w) X.A (assign (.Name x0 F) X.env (.ref j.heap.objs.size)) _ _ S;refine wpAny_assign_Name (aEy I7 hN b4 b2 (v:=.ref j.heap.objs.size) rfl (λV I8 ⟨a,sb,ha⟩=>?_) hf);have ad:s3.heap.objs.size≠a:=by
    rcases ha with z|z
    ·rw[z];exact g1
    ·exact λe=>g4 x0 a z e.symm
   refine⟨m6,ah.sameBut sb ad,λh' ax=>?_⟩;exact⟨_,H5,Inv.turned I8 (t':=V.toks) (it:=s3.heap.objs.size) (λb o f e=>ax.extBut b o f e) g0 g1 g3 g4 g5,qn⟩
  ·refine m (thn (T.item (cxC X N scope cl s3 (upd L j.heap.objs.size (.lst [])) fp) rfl rfl rfl hc i [] s5 σ5 H5 (λ_ _=>False) I5 (a1 fr5) st5 go) λr S ⟨u,hr,h6⟩=>?_);subst hr;refine m (thn h6 λ_ s7 ⟨x,H7,I7,r7,y7,a0,as⟩=>?_);obtain⟨hg,ht,he⟩:=f cl s3 (upd L j.heap.objs.size (.lst [])) fp;have al:=I7.pinned (a1 as) (T.obj _ _ a0);have B:∀{R:St} {H8:Hp} {V:Shared},Inv (cxC X N scope cl s3 (upd L j.heap.objs.size (.lst [])) fp) ([]++zK fp s7.heap) R H8 V->tn (i+1) V.heap/\∀b∈fp,H8 b=none:=λ{R H8 V} I8=>
    ⟨T.keep _ _ _ a0 λb f o e=>(I8.pin (b,o) (bAF _ (bAF _ (jZ f e)))).1,λb f=>by obtain⟨o,e,d⟩:=T.obj _ _ a0 b f;exact (I8.pin (b,o) (bAF _ (bAF _ (jZ f e)))).2.1⟩
   refine m (thn (hg _ s7 σ5 H7 x u _ al r7 (step x H7 y7)) λ_ V ⟨R,H8,I8,q8⟩=>?_);refine m (thn (ht _ V R H8 _ I8 q8) λb s9 ⟨H9,I9,q9⟩=>?_);cases b with
   |false=>rw[if_neg v4] at q9 ⊢;obtain⟨_,m',hm,w9⟩:=q9;exact⟨m',hm,i+1,R,H9,ys,I9.mU,(B I9).1,(B I9).2,w9⟩
   |true=>rw[if_pos rfl] at q9 ⊢;refine m (thn (he _ s9 R H9 _ I9 q9) λyv am ⟨y,a3,ai,aj,M,a5,m',hm,ae⟩=>?_);refine m (thn (xZ _ am R a3 (.ref j.heap.objs.size) [y] (.ref j.heap.objs.size) [yv] (λ_ a6=>a6=upd a3 j.heap.objs.size (.lst (ys++[y]))) ai rfl (.cons aj .nil) ⟨_,_,_,rfl,rfl,M,a5,rfl⟩) λ_ b0 ⟨z,a6,Z,_,ar⟩=>?_);subst ar;exact⟨m',hm,i+1,R,_,ys++[y],Z.mU,(B Z).1,(B Z).2,ae⟩
 have ag:=codeAny_compStart_list (P { s3 with heap:=h₁,toks:=s3.toks } rfl) (T.self _ _ _ _ _ aa (P { s3 with heap:=h₁,toks:=s3.toks } rfl));subst a7;exact ag
def aOf {X:Cx}{i0:Nat}{x0:Str}{pos' spos:Pos}{elt target iter:Expr}{ifs:List Expr}{scope:Scope}{pos:Pos}{N:List Str}{wi:TI}{g:TG}{tt:TT}{te:TE}
  (j:X.N.Nodup) (d:X.N[i0]?=some x0) (e:Loc X.env.scope x0) (C:aCw scope N) (c:∀y,(y,NameKind.free)∈scope.names->X.env.kindOf y=some .cell\/X.env.kindOf y=some .free) (i:X.calm=true)
  (hi:VI X target iter wi)
  (a:∀cl s H fp,VG (cxC X N scope cl s H fp) target g/\VF (cxC X N scope cl s H fp) ifs tt/\VE (cxC X N scope cl s H fp) elt te)
  (h:∀x,foldedSetIterable iter X.env x=pure x:=by intro _;rfl) (b:swapsWith (.ListComp elt [⟨target,iter,ifs,0⟩] scope pos) (some (.Name x0 pos')) spos.line X.env=pure true:=by rfl)
  (f:X.fn x0=true\/X.env.scope.names.lookup x0=some .local:=by first|exact .inl rfl|exact .inr rfl|assumption) :
  VS X (.Assign [.Name x0 pos'] (.ListComp elt [⟨target,iter,ifs,0⟩] scope pos) spos) (aAm (lN X scope N wi g tt te) (cD i0)):=
 ⟨aX5 j d e C c i hi.1 (λcl s H fp=>⟨(a cl s H fp).1.1,(a cl s H fp).2.1.1,(a cl s H fp).2.2.1⟩) h b f⟩
section
variable {te:TE}{H:Hp}{Q:VK}
def aLn (xs:List V)(t:Nat->Hp->V->Prop)(st:∀{i H1 H2 y},Same H1 H2->t i H1 y->t i H2 y)(B:∀{i H1 D ys zs y},H1 D=some (.lst ys)->t i H1 y->t i (upd H1 D (.lst zs)) y)
  (A:St) (hsz:xs.length<=sizeLine)
  (J:It) (w:∀H' i x,Same H H'->xs[i]?=some x->J.go i H'/\∀y H2,J.yld i H' y H2->H2=H'/\y=x) (h:∀H',Same H H'->J.stop xs.length H')
  (E:∀(i:Nat) (x:V),xs[i]?=some x->∀H' R l,Same H H'->(∀y H2,Same H' H2->t i H2 y->R y H2)->te ((A.set 0 l).set 0 (some x)) H' R) (C:A[0]?=some none)
  (q:∀D H' ys,Same H H'->H' D=some (.lst ys)->ys.length=xs.length->(∀(i:Nat) (y:V),ys[i]?=some y->t i H' y)->Q (.ref D) H') :
  ∀D,H D=none->∃W:Nat->Nat->St->Hp->List V->Prop,(∃m,W 0 m A (upd H D (.lst [])) []) /\
   ∀i m σ' H' ys,W i m σ' H' ys->H' D=some (.lst ys)/\((J.stop i H'/\Q (.ref D) H')\/(J.go i H'/\∀x H2,J.yld i H' x H2->cD 0 x σ' H2 fun σ3 H3=>oR σ3 H3 λb H4=>
    if b=true then te σ3 H4 λy H5=>H5 D=some (.lst ys)/\ys.length<sizeLine/\∃m',m'<m/\W (i+1) m' σ3 (upd H5 D (.lst (ys++[y]))) (ys++[y]) else H4 D=some (.lst ys)/\∃m',m'<m/\W (i+1) m' σ3 H4 ys)):=by
 intro D k;refine⟨λi m σ' H' ys=>i<=xs.length/\m=xs.length - i/\(∃l,σ'=A.set 0 l)/\Same H H'/\H' D=some (.lst ys)/\ys.length=i/\∀(j:Nat) (y:V),ys[j]?=some y->t j H' y,⟨xs.length,bAG _,rfl,⟨none,mG C⟩,bC k _,aH,rfl,λj y e=>by simp at e⟩,?_⟩;rintro i m σ' H' ys ⟨hi,rfl,⟨l,rfl⟩,sm,hL,hl,hR⟩;refine⟨hL,?_⟩;by_cases a:i<xs.length
 ·right;obtain⟨r,u⟩:=w H' i xs[i] sm (d7 a);refine⟨r,λx H2 v=>?_⟩;obtain⟨rfl,rfl⟩:=u x H2 v;unfold cD oR;dsimp only;rw[if_pos rfl];refine E i xs[i] (d7 a) _ _ l sm λy H3 d s=>⟨d _ _ hL,by lia,xs.length - (i+1),by lia,a,rfl,⟨some xs[i],?_⟩,?_,aH,?_,?_⟩
  ·rw[bCF]
  ·intro b o e;rw[aP (aU e k)];exact d _ _ (sm _ _ e)
  ·rw[bAB,bER,hl]
  ·intro j z c;refine B (d _ _ hL) ?_;by_cases n:j<ys.length
   ·rw[bBM n] at c;exact st d (hR j z c)
   ·rw[bBJ (by lia)] at c;have g:j - ys.length=0:=by
     by_cases p:j - ys.length=0
     ·exact p
     ·rw[bAD (by simp;lia)] at c;cases c
    have f:j=i:=by lia
    subst f;rw[g] at c;cases c;exact s
 ·left;have e:i=xs.length:=by lia
  subst e;exact⟨h _ sm,q D _ ys sm hL hl hR⟩
end
section
variable {K:bFH}
def aM7 {a:Addr}{xs:List V}{H:Hp}(d:∀H',Same H H'->SqL K H' a xs):∀H' i x,Same H H'->xs[i]?=some x->(Itl K a).go i H'/\∀y H2,(Itl K a).yld i H' y H2->H2=H'/\y=x:=λH' i x s e=>
 ⟨⟨xs,x,d H' s,e⟩,λy H2 g=>by obtain⟨f,c⟩:=g;have b:=c xs (d H' s);rw[e] at b;cases b;exact⟨f,rfl⟩⟩
def aBn {a:Addr}{xs:List V}{H:Hp}(b:∀H',Same H H'->SqL K H' a xs):∀H',Same H H'->(Itl K a).stop xs.length H':=λH' s=>⟨xs,b H' s,j0 _⟩
end
section
variable {X:Cx}{K:bFH}{scope:Scope}{N:List Str}{tl te:TE}{σ:L2.St}{H:Hp}{Q:VK}
def aQg (Pr:List V->Prop)(f:Nat->Hp->V->Prop)(st:∀{i H1 H2 y},Same H1 H2->f i H1 y->f i H2 y)(k:∀{i H1 D ys zs y},H1 D=some (.lst ys)->f i H1 y->f i (upd H1 D (.lst zs)) y)
  (d:L2.St) (e:Cap X scope N σ d) (m:d[0]?=some none)
  (n:∀R:VK,(∀D H1 us,Same H H1->H1 D=some (.lst us)->Pr us->R (.ref D) H1)->tl σ H R)
  (hsz:∀us,Pr us->us.length<=sizeLine)
  (j:∀us,Pr us->∀(i:Nat) (x:V),us[i]?=some x->∀H' R l,Same H H'->(∀y H2,Same H' H2->f i H2 y->R y H2)->te ((d.set 0 l).set 0 (some x)) H' R)
  (q:∀us,Pr us->∀D H' ys,Same H H'->H' D=some (.lst ys)->ys.length=us.length->(∀(i:Nat) (y:V),ys[i]?=some y->f i H' y)->Q (.ref D) H') :
  lN X scope N (aFb K tl) (cD 0) oR te σ H Q:=
 ⟨d,e,n _ λD H1 us c b p=>⟨D,rfl,⟨us,SqL.of b⟩,aLn us f st k d (hsz us p) (Itl K D) (aM7 λH' a=>SqL.of (a _ _ b)) (aBn λH' a=>SqL.of (a _ _ b))
  (λi x g H' R l a r=>j us p i x g H' R l (c.trans a) r) m λh H' ys a=>q us p h H' ys (c.trans a)⟩⟩
end
def SqT.mV {K:bFH}{H:Hp}{a D:Addr}{xs ys zs:List V}(b:H D=some (.lst ys))(h:SqT K H a xs):SqT K (upd H D (.lst zs)) a xs:=by
 rcases h with (h|⟨o,h⟩)|h
 ·exact .inl (.inl (by rw[aP (aKn h b (by intro z;cases z))];exact h))
 ·exact .inl (.inr ⟨o,by rw[aP (aKn h b (by intro z;cases z))];exact h⟩)
 ·exact .inr h
end L2
namespace PySem
end PySem
namespace L2
open PySem PySem.Spec PyProof.Rows
def classAt:Stmt->Nat->Stmt
 |.ClassDef _ _ _ body _ _ _ _ _ _ _,j=>body.getD j (.Pass ⟨0,0,0,0⟩)
 |st,_=>st
structure aVs (K:bFH)(mg:bFK)(x:Str)(C:Addr):Prop where
 at_:mg x=some (.ref C)
 cls:Cls K C
 mks:PySem.W.makesIn K C=true
 kp:PySem.W.keepIn K (.ref C)=true
def fU (K:bFH)(C:Addr)(m qual:Str)(st:Stmt)(ps:List Str):Prop:=∃f fd,Meth K C m f/\Fun K m qual st f fd/\Binds K fd ps []
section
variable {P:Program}{w:World}{K:bFH}{mg:bFK}{base:Heap}
def OkM (P:Program)(w:World)(K:bFH)(mg:bFK)(base:Heap)(C:Addr)(k:Nat)(m:Str)(ps:List Str)(sp:Sp):Prop:=
 ∃f fd,Cls K C/\Meth K C m f/\Binds K fd ps []/\lX P w K mg base CX0 k f fd ps sp
theorem OkM.mono {C:Addr}{j k:Nat}{m:Str}{ps:List Str}{sp:Sp}(h:OkM P w K mg base C j m ps sp)(g:j<=k):OkM P w K mg base C k m ps sp:=by obtain⟨f,c,a,b,d,e⟩:=h;exact⟨f,c,a,b,d,e.mono g⟩
def OkM.ofV {C:Addr}{m qual:Str}{st:Stmt}{N ps:List Str}{k:Nat}{sp:Sp}(c:Cls K C)(D:fU K C m qual st ps)(S:aJ N ps (aF st))(e:∀vs H Q E,sp vs H Q E->vs.length=ps.length)
  (a:∀(f:Addr) (cdv:Value) (A:Around) (outer:List Env) (s:Shared) (H:Hp) (vs:List V) (Q:VK) (E:XK),Room k (A.deeper (envOfC qual (aF st) s.heap.objs.size f cdv))->sp vs H Q E ->
   ∃t,VSs (aB7 CX0 P w K mg base N qual (aF st) f cdv A outer s H E).nox (fC st) t/\t { nx:=λ_ H'=>Q .non H',rt:=Q } (start N vs) H):OkM P w K mg base C (k+1) m ps sp:=by
 obtain⟨f,d,g,F,B⟩:=D;exact⟨f,d,c,g,B,Fun.okV F S e λcdv A outer s H vs Q E b h=>a f cdv A outer s H vs Q E b h⟩
def OkC (P:Program)(w:World)(K:bFH)(mg:bFK)(base:Heap)(C:Addr)(k:Nat)(x:Str)(ps:List Str)(sp:Sp):Prop:=
 ∃f fd,mg x=some (.ref C)/\Mk K C f/\Binds K fd ps []/\lX P w K mg base CX0 k f fd ps sp
theorem OkC.mono {C:Addr}{j k:Nat}{x:Str}{ps:List Str}{sp:Sp}(h:OkC P w K mg base C j x ps sp)(g:j<=k):OkC P w K mg base C k x ps sp:=by obtain⟨f,c,a,b,d,e⟩:=h;exact⟨f,c,a,b,d,e.mono g⟩
def OkM.make {C:Addr}{k:Nat}{x:Str}{ps:List Str}{sp:Sp}(c:aVs K mg x C)(h:OkM P w K mg base C k "__init__" ps sp):OkC P w K mg base C k x ps sp:=by obtain⟨f,b,g,a,d,e⟩:=h;exact⟨f,b,c.at_,⟨c.mks,a.at_,a.fn,c.kp⟩,d,e⟩
end
section
variable {X:Cx}{e o value:Expr}{es:List Expr}{f m x:Str}{p pos pos' apos:Pos}{ta tv:TE}{t:TA}{C:Addr}{k:Nat}{ps:List Str}{sp:Sp}
def dC {K:bFH}(a:VE X e ta)(b:attributeBase e f X.env (eval e X.env)=eval e X.env:=by rfl)(h:X.K=K:=by rfl):VE X (.Attribute e f pos) (bB2 K ta f):=by subst h;exact⟨bAv a.1 b⟩
def aA8 {K:bFH}(c:VE X o ta)(a:VE X value tv)(b:swapsWith value (some (.Attribute o f pos')) pos.line X.env=pure false:=by rfl)(h:X.K=K:=by rfl):VS X (.Assign [.Attribute o f pos'] value pos) (bCi K ta tv f):=by subst h;exact⟨bBl c.1 a.1 b⟩
def dO {pl:Sem Bool}(G:OkM X.prog X.w X.K X.mg X.base C k m ps sp)(i:Room k X.A)(p:VE X o ta)(n:VA X (e::es) t)
  (l:dB e=true:=by rfl) (d:(backTo pos (starEach es X.env)).any (·.1)=false:=by rfl)
  (h:eval (.Call (.Attribute o m apos) (e::es) [] pos) X.env=(do
   let ov <-eval o X.env
   standAt apos.atName
   let (f,first) <-holding [ov] (getMethod ov m pl)
   callWith pos f first (backTo pos (starEach (e::es) X.env)) (backToKw pos (keywordEach [] X.env))):=by rfl):VE X (.Call (.Attribute o m apos) (e::es) [] pos) (aOg C m sp [] E0 ta t):=by
 obtain⟨f,j,a,b,c,g⟩:=G;exact⟨aWp p.1 a b g i c .nil aEg n.1 (aR l) d h⟩
def aR4 {pl:Sem Bool}(G:OkM X.prog X.w X.K X.mg X.base C k m ps sp)(g:Room k X.A)(i:VE X o ta)
  (e:eval (.Call (.Attribute o m apos) [] [] pos) X.env=(do
   let ov <-eval o X.env
   standAt apos.atName
   let (f,first) <-holding [ov] (getMethod ov m pl)
   callWith pos f first (backTo pos (starEach [] X.env)) (backToKw pos (keywordEach [] X.env))):=by rfl):VE X (.Call (.Attribute o m apos) [] [] pos) (aOg C m sp [] E0 ta aHp):=by
 obtain⟨f,h,a,b,c,d⟩:=G;exact⟨aUv i.1 a b d g c .nil aEg e⟩
def aNy (G:OkC X.prog X.w X.K X.mg X.base C k x ps sp)(i:Room (k+1) X.A)(n:Gl X x)(l:VA X (e::es) t)(c:(x == ("__debug__":Str))=false:=by decide)(m:dB e=true:=by rfl)(g:(backTo pos (starEach es X.env)).any (·.1)=false:=by rfl) :
  VE X (.Call (.Name x p) (e::es) [] pos) (aX6 C sp [] E0 t):=by
 obtain⟨f,j,a,b,d,h⟩:=G;exact⟨aV3 b h i n a d .nil aEg l.1 c (aR m) g⟩
end
section
variable {X:Cx}
def bC5 (K:bFH):List V->Hp->VK->Prop:=λxs H Q=>∃(p:Addr) (bs:List Bool),xs=[.ref p]/\SqL K H p (bs.map V.bl)/\Q (.bl (bs.any id)) H
def any_range (d:List Bool):(List.range d.length).any (λi=>d.getD i false)=d.any id:=by
 rw[bCS,bDY,bDY];constructor
 ·rintro⟨i,a,h⟩;have a:=List.mem_range.mp a;rw[j4,d7 a] at h;exact⟨_,bAV a,h⟩
 ·rintro⟨b,c,h⟩;obtain⟨i,a,e⟩:=List.mem_iff_getElem.mp c;refine⟨i,List.mem_range.mpr a,?_⟩;rw[j4,d7 a];show d[i]=true;rw[e];exact h
def aR1 (R:X.calm=true):cO X (.builtin "any") (bC5 X.K):=by
 intro E s σ H P S Q I r h;obtain⟨p,a,rfl,F,q⟩:=h;obtain⟨u,rfl,B⟩:=r.one;cases B;obtain⟨d,n,g,N⟩:=I.list F;have l:=n.length;rw[j9] at l;have k:p≠s.heap.objs.size:=by obtain⟨o,D,_⟩:=g.isList;exact v5 (m9 D)
 refine call_any_walk (bCD g.isList ?_);refine⟨s.heap.objs.size,_,_,_,_,_,λi=>a.getD i false,rfl,Walks.list (show X.A.in1.handled=none from I.ok.hd R) _ p k d.toArray,⟨⟨_,j5 _ rfl,rfl,rfl⟩,?_⟩,?_,λL M w=>?_⟩
 ·exact g.isList.at λo e=>d8 _ e
 ·intro i v J y O C c;have f:d[i]?=some v:=by simpa using C
  have t:i<a.length:=by rw[l];exact (List.getElem?_eq_some_iff.mp f).1
  obtain⟨u,m,G⟩:=n.get (i:=i) (x:=.bl a[i]) (by rw[v6,d7 t];rfl);rw[f] at m;cases m;cases G;have e:a.getD i false=a[i]:=by rw[j4,d7 t];rfl
  replace c:y (a.getD i false) J:=c;rw[e] at c;exact bBE c
 ·have e:(List.range d.toArray.size).any (λi=>a.getD i false)=a.any id:=by rw[j7,<-l];exact any_range a
  rw[e];refine⟨.bl (a.any id),H,?_,rfl,q⟩;exact I.kept λb o j=>w b o (by
   intro z;have:b=s.heap.objs.size:=by simpa using z
   rw[this] at j;exact absurd (m9 j) (bBO _)) (d8 _ j)
def aZc:List V->Hp->VK->Prop:=λxs H Q=>∃z:Str,xs=[.str z]/\z.length<=1000/\∀l H',H l=none->Same H H'->H' l=some (.lst ((List.range z.cps.size).map λi=>V.str (sgn z i)))->Q (.ref l) H'
theorem aBy (z:Str):∀(n k:Nat) (vs:List Value),vs.length=n->(∀(j:Nat) (v:Value),vs[j]?=some v->∃t,v=.str (sgn z (k+j)) t)->Vals ((List.range' k n).map λi=>V.str (sgn z i)) vs
 |0,k,[],_,_=>.nil
 |n+1,k,v::vs,hl,h=>by obtain⟨t,rfl⟩:=h 0 v rfl;rw[List.range'_succ,bAN];refine .cons ⟨t,rfl⟩ (aBy z n (k+1) vs (by simpa using hl) λj u e=>?_);obtain⟨b,a⟩:=h (j+1) u e;exact⟨b,by rw[a,show k+(j+1)=k+1+j by lia]⟩
def aNc (D:X.calm=true):cO X (.type "list") aZc:=by
 intro w s σ H C E Q I r h;obtain⟨z,rfl,g,q⟩:=h;obtain⟨u,rfl,t,rfl⟩:=vals1 r;refine call_list_str (I.ok.hd D) z t (λB n a y l m b=>?_) (small g);have f:=aBy z z.cps.size 0 a.toList (by rw[t8];exact b.1) λj v e=>by have k:=b.2 j v (by rw[<-bBQ];exact e);obtain⟨c,t',A,p⟩:=k;refine⟨t',?_⟩;rw[p];unfold sgn;rw[bDB,v7,A];rfl
 rw[<-List.range_eq_range'] at f;have x:a.toList.toArray=a:=by simp
 have d:H s.heap.objs.size=none:=I.hok.fresh (j0 _);refine⟨.ref s.heap.objs.size,_,I.laid (t':=n) (o:=.lst ((List.range z.cps.size).map λi=>V.str (sgn z i))) l (j0 _) ?_,rfl,q _ _ d (bC d _) aH⟩;refine⟨by rw[j9,bAL];exact small g,a.toList,y,f,?_⟩;rw[x];exact m
end
def aMo {X:Cx}{K:bFH}(h:X.K=K:=by rfl):OpR X (compareOp .In) (rIn K false):=by subst h;exact zE
structure bAf (E:Hp->Hp->Prop)(H:Hp):Prop where
 new:∀D o,H D=none->E H (upd H D o)
 trans:∀{H1 H2},E H H1->E H1 H2->E H H2
 upd:∀D o H',H D=none->E H H'->E H (upd H' D o)
 keep:∀D H1 H2 xs,H D=none->E H H1->H1 D=some (.lst xs)->E H1 H2->H2 D=some (.lst xs)
def aOo (H:Hp):bAf Same H:=⟨λD o h=>bC h o,λa b=>a.trans b,λD o e h s=>lG h s,λD d c f _ _ h s=>s _ _ h⟩
def tK (J:It)(H1:Hp)(σ0:L2.St)(g:TG)(tt:TT)(te:TE)(Q:VK):Prop:=∀D,H1 D=none->∃W:Nat->Nat->L2.St->Hp->List V->Prop,(∃m,W 0 m σ0 (L2.upd H1 D (.lst [])) []) /\
 ∀i m σ' H' ys,W i m σ' H' ys->H' D=some (.lst ys)/\((J.stop i H'/\Q (.ref D) H')\/(J.go i H'/\∀x H2,J.yld i H' x H2->g x σ' H2 fun σ3 H3=>tt σ3 H3 λb H4=>
  if b=true then te σ3 H4 λy H5=>H5 D=some (.lst ys)/\ys.length<sizeLine/\∃m',m'<m/\W (i+1) m' σ3 (L2.upd H5 D (.lst (ys++[y]))) (ys++[y]) else H4 D=some (.lst ys)/\∃m',m'<m/\W (i+1) m' σ3 H4 ys))
section
variable {X:Cx}{K:bFH}{scope:Scope}{N:List Str}{tl te:TE}{tt:TT}{g:TG}{σ:L2.St}{H:Hp}{Q:VK}
def iW (c:L2.St)(b:Cap X scope N σ c)(h:tl σ H λv H1=>∃a,v=.ref a/\(∃xs,SqL K H1 a xs)/\tK (Itl K a) H1 c g tt te Q):lN X scope N (aFb K tl) g tt te σ H Q:=⟨c,b,h⟩
def xK (c:L2.St)(b:Cap X scope N σ c)(h:tl σ H λv H1=>∃a,v=.ref a/\(∃xs,SqT K H1 a xs)/\tK (Itt K a) H1 c g tt te Q):lN X scope N (aV2 K tl) g tt te σ H Q:=⟨c,b,h⟩
def aF7 {a:Addr}{xs:List V}{E:Hp->Hp->Prop}(d:∀H',E H H'->SqT K H' a xs):∀H' i x,E H H'->xs[i]?=some x->(Itt K a).go i H'/\∀y H2,(Itt K a).yld i H' y H2->H2=H'/\y=x:=λH' i x s e=>
 ⟨⟨xs,x,d H' s,e⟩,λy H2 g=>by obtain⟨f,c⟩:=g;have b:=c xs (d H' s);rw[e] at b;cases b;exact⟨f,rfl⟩⟩
def xT {a:Addr}{xs:List V}{E:Hp->Hp->Prop}(b:∀H',E H H'->SqT K H' a xs):∀H',E H H'->(Itt K a).stop xs.length H':=λH' s=>⟨xs,b H' s,j0 _⟩
def aVh {a:Addr}{xs:List V}{E:Hp->Hp->Prop}(d:∀H',E H H'->SqL K H' a xs):∀H' i x,E H H'->xs[i]?=some x->(Itl K a).go i H'/\∀y H2,(Itl K a).yld i H' y H2->H2=H'/\y=x:=λH' i x s e=>
 ⟨⟨xs,x,d H' s,e⟩,λy H2 g=>by obtain⟨f,c⟩:=g;have b:=c xs (d H' s);rw[e] at b;cases b;exact⟨f,rfl⟩⟩
def aQu {a:Addr}{xs:List V}{E:Hp->Hp->Prop}(b:∀H',E H H'->SqL K H' a xs):∀H',E H H'->(Itl K a).stop xs.length H':=λH' s=>⟨xs,b H' s,j0 _⟩
inductive uJ (R:Nat->V->Prop):List Nat->List V->Prop
 |nil:uJ R [] []
 |cons {i y is ys}:R i y->uJ R is ys->uJ R (i::is) (y::ys)
theorem uJ.snoc {R:Nat->V->Prop}{is:List Nat}{ys:List V}{i:Nat}{y:V}(h:uJ R is ys)(r:R i y):uJ R (is++[i]) (ys++[y]):=by
 induction h with
 |nil=>exact .cons r .nil
 |cons r' _ ih=>exact .cons r' ih
theorem uJ.imp {R S:Nat->V->Prop}{is:List Nat}{ys:List V}(h:uJ R is ys)(k:∀i y,R i y->S i y):uJ S is ys:=by
 induction h with
 |nil=>exact .nil
 |cons r _ ih=>exact .cons (k _ _ r) ih
theorem uJ.len {R:Nat->V->Prop}{is:List Nat}{ys:List V}(h:uJ R is ys):is.length=ys.length:=by
 induction h with
 |nil=>rfl
 |cons _ _ ih=>rw[v9,v9,ih]
def aJb {σ0:L2.St}(E:Hp->Hp->Prop)(n:bAf E H)(xs:List V)(p:Nat->Bool)(B:Nat->Hp->V->Prop)
  (st:∀{i H1 H2 y},E H H1->E H1 H2->B i H1 y->B i H2 y) (I:∀{i H1 D ys zs y},H D=none->E H H1->H1 D=some (.lst ys)->B i H1 y->B i (L2.upd H1 D (.lst zs)) y)
  (At:Nat->L2.St->Prop) (S:L2.St->Prop) (U:S σ0) (hsz:xs.length<=sizeLine)
  (J:It) (M:∀H' i x,E H H'->xs[i]?=some x->J.go i H'/\∀y H2,J.yld i H' y H2->H2=H'/\y=x) (w:∀H',E H H'->J.stop xs.length H')
  (T:∀(i:Nat) (x:V) σ' H' Q',xs[i]?=some x->S σ'->E H H'->(∀σ2,S σ2->At i σ2->Q' σ2 H')->g x σ' H' Q')
  (O:∀(i:Nat) (x:V) σ2,xs[i]?=some x->At i σ2->∀H' R,E H H'->(∀H2,E H' H2->R (p i) H2)->tt σ2 H' R)
  (W:∀(i:Nat) (x:V) σ2,xs[i]?=some x->At i σ2->p i=true->∀H' R,E H H'->(∀y H2,E H' H2->B i H2 y->R y H2)->te σ2 H' R)
  (q:∀D H' ys,E H H'->H D=none->H' D=some (.lst ys)->uJ (λi y=>B i H' y) (sel p 0 (List.range xs.length)) ys->Q (.ref D) H'):tK J H σ0 g tt te Q:=by
 intro D h;refine⟨λi m σ' H' ys=>i<=xs.length/\m=xs.length - i/\S σ'/\E H H'/\H' D=some (.lst ys)/\uJ (λi y=>B i H' y) (sel p 0 (List.range i)) ys,⟨xs.length,bAG _,rfl,U,n.new _ _ h,aH,.nil⟩,?_⟩;rintro i m σ' H' ys ⟨hi,rfl,hps,sm,hL,hR⟩;refine⟨hL,?_⟩;by_cases b:i<xs.length
 ·right;have o:=d7 b;obtain⟨A,K⟩:=M H' i xs[i] sm o;refine⟨A,λx H2 C=>?_⟩;obtain⟨rfl,rfl⟩:=K x H2 C;have v:sel p 0 (List.range (i+1))=sel p 0 (List.range i)++(if p i then [i] else []):=by rw[List.range_succ,aB9,bAL,bDB]
  have N:=hR.len;have G:=aHk p 0 (List.range i);rw[bAL] at G;refine T i xs[i] σ' _ _ o hps sm fun σ2 l k=>?_;refine O i xs[i] σ2 o k _ _ sm λL s=>?_;have a:=n.trans sm s;have c:=n.keep D _ _ _ h sm hL s;cases u:p i with
  |true=>rw[if_pos rfl];refine W i xs[i] σ2 o k u _ _ a λy P t F=>?_;have f:=n.trans a t;have d:=n.keep D _ _ _ h a c t;refine⟨d,by lia,xs.length - (i+1),by lia,b,rfl,l,n.upd D _ _ h f,aH,?_⟩;rw[v,u];exact uJ.snoc (hR.imp λj z r=>I h f d (st a t (st sm s r))) (I h f d F)
  |false=>rw[if_neg (by simp)];refine⟨c,xs.length - (i+1),by lia,b,rfl,l,a,c,?_⟩;rw[v,u];simp only[bBB,if_false,bCJ];exact hR.imp λj z r=>st sm s r
 ·left;have e:i=xs.length:=by lia
  subst e;exact⟨w _ sm,q D _ ys sm h hL hR⟩
end
def At1 (σ0:L2.St)(v:V)(σ:L2.St):Prop:=∃l,σ=(σ0.set 0 l).set 0 (some v)
def Ps1 (σ0:L2.St)(σ:L2.St):Prop:=∃l,σ=σ0.set 0 l
def At2 (σ0:L2.St)(a b:V)(σ:L2.St):Prop:=σ=(σ0.set 0 (some a)).set 1 (some b)
def Ps2 (σ0:L2.St)(σ:L2.St):Prop:=∃l m,σ=(σ0.set 0 l).set 1 m
def hg1 {σ0:L2.St}{i:Nat}{x:V}{σ':L2.St}{H':Hp}{Q':L2.St->Hp->Prop}(h:Ps1 σ0 σ')(q:∀σ2,Ps1 σ0 σ2->At1 σ0 x σ2->Q' σ2 H'):cD 0 x σ' H' Q':=by obtain⟨l,rfl⟩:=h;exact q _ ⟨some x,by rw[bCF]⟩ ⟨l,rfl⟩
def hg2 {K:bFH}{c:L2.St}{p:Addr}{a b:V}{σ':L2.St}{g:Hp}{d:L2.St->Hp->Prop}(f:SqT K g p [a,b])(h:Ps2 c σ')(q:∀σ2,Ps2 c σ2->At2 c a b σ2->d σ2 g):aNo K 2 (uP (cD 0) (uP (cD 1) aQj)) (.ref p) σ' g d:=by
 obtain⟨l,m,rfl⟩:=h;have e:(((c.set 0 l).set 1 m).set 0 (some a)).set 1 (some b)=(c.set 0 (some a)).set 1 (some b):=by rw[List.set_comm _ _ (show (1:Nat)≠0 by decide),bCF,bCF]
 refine⟨p,_,rfl,f,rfl,_,_,rfl,_,_,rfl,rfl,?_⟩;show d ((((c.set 0 l).set 1 m).set 0 (some a)).set 1 (some b)) g;rw[e];exact q _ ⟨some a,some b,rfl⟩ rfl
def wK (xs:List V)(n:Nat):pB xs none (some (n:Int))=xs.take n:=by
 unfold pB;rw[HT.aIh,HT.aOt,List.drop_zero,Nat.sub_zero];by_cases h:n<=xs.length
 ·rw[Nat.min_eq_left h]
 ·rw[Nat.min_eq_right (by lia),bCW,bAW (by lia)]
def zQ (xs:List V)(n:Nat):pB xs (some (n:Int)) none=xs.drop n:=by
 unfold pB;rw[HT.aIh,HT.aOt];by_cases h:n<=xs.length
 ·rw[Nat.min_eq_left h];exact bAW (by rw[bBY];lia)
 ·rw[Nat.min_eq_right (by lia),List.drop_length,bEK (by lia),bD1]
def bBq (K:bFH):V->Option Int->Option Int->Hp->VK->Prop:=λx lo hi H Q=>∃a xs,x=.ref a/\SqL K H a xs/\∀p H',H p=none->Same H H'->H' p=some (.lst (pB xs lo hi))->Q (.ref p) H'
def wG {X:Cx}:SlR X (bBq X.K):=λb s σ H x v d g k m n Q I i h f o ⟨a,j,e,l,q⟩=>
 aWy b s σ H x v d g k m n Q I i h f o ⟨a,j,e,l,λp c=>q p _ c (bC c _) aH⟩
end L2
namespace L2
open PySem PySem.Spec PyProof.Rows
inductive Al2 {α β:Type}(R:α->β->Prop):List α->List β->Prop
 |nil:Al2 R [] []
 |cons {a b as bs}:R a b->Al2 R as bs->Al2 R (a::as) (b::bs)
theorem Al2.len {α β:Type}{R:α->β->Prop}{as:List α}{bs:List β}(h:Al2 R as bs):as.length=bs.length:=by
 induction h with
 |nil=>rfl
 |cons _ _ ih=>rw[v9,v9,ih]
theorem Al2.at {α β:Type}{R:α->β->Prop}{as:List α}{bs:List β}(h:Al2 R as bs):∀{j:Nat} {a:α},as[j]?=some a->∃b,bs[j]?=some b/\R a b:=by
 induction h with
 |nil=>intro j a e;simp at e
 |cons r _ ih=>
  intro j a e;cases j with
  |zero=>cases e;exact⟨_,rfl,r⟩
  |succ j=>exact ih (by simpa using e)
def DEq (K:bFH)(H:Hp):Nat->V->V->Prop
 |0,x,y=>lE x=true/\x=y
 |n+1,x,y=>(lE x=true/\x=y)\/∃a b xs ys,x=.ref a/\y=.ref b/\SqT K H a xs/\SqT K H b ys/\Al2 (DEq K H n) xs ys
theorem aEn {A:Around}{s:Shared}{x:V}{v u:Value}(h:lE x=true)(c:RelV x v)(a:RelV x u):SeqAt.EqAt A s v u true:=by
 cases x with
 |non=>cases c;cases a;exact bD4 _
 |bl b=>cases c;cases a;exact bD4 _
 |int i=>obtain⟨t,rfl⟩:=c;obtain⟨d,rfl⟩:=a;have z:=bD9 (A:=A) (s:=s) i t i d;simpa using z
 |str y=>obtain⟨t,rfl⟩:=c;obtain⟨d,rfl⟩:=a;have z:=bDN (A:=A) (s:=s) y t y d;simpa using z
 |_=>cases h
section
variable {X:Cx}{bFL:bFJ}{σ:L2.St}{H:Hp}{s:Shared}
def vU (I:Inv X bFL σ H s){n:Nat}{A:Around}{xs ys:List V}{its jts:List Value}(f:Vals xs its)(o:Vals ys jts)(h:Al2 (DEq X.K H n) xs ys)
  (q:∀{x y v u},DEq X.K H n x y->RelV x v->RelV y u->SeqAt.EqAt A s v u true):∀(j:Nat) (h1:j<its.toArray.size) (h2:j<jts.toArray.size),SeqAt.EqAt A s its.toArray[j] jts.toArray[j] ((λ_=>true) j):=λj h1 h2=>by
 have r:=f.length;have a:j<xs.length:=by rw[j7] at h1;lia
 obtain⟨y,l,d⟩:=h.at (d7 a);obtain⟨e,c,g⟩:=f.get (d7 a);obtain⟨m,b,p⟩:=o.get l;have i:its.toArray[j]=e:=by rw[bCA];exact (List.getElem?_eq_some_iff.mp c).2
 have k:jts.toArray[j]=m:=by rw[bCA];exact (List.getElem?_eq_some_iff.mp b).2
 rw[i,k];exact q d g p
def wZ (n:Nat):(List.range n).all (λ_=>true)=true:=by rw[bBZ];intro _ _;rfl
theorem yU (I:Inv X bFL σ H s):∀(n:Nat) {A:Around} {x y:V} {v u:Value},DEq X.K H n x y->RelV x v->RelV y u->A.units+n<cLine->SeqAt.EqAt A s v u true
 |0,A,x,y,v,u,h,rv,ru,_=>by obtain⟨h,rfl⟩:=h;exact aEn h rv ru
 |n+1,A,x,y,v,u,h,rv,ru,hu=>by
  rcases h with⟨h,rfl⟩|⟨a,b,xs,ys,rfl,rfl,ha,hb,h⟩
  ·exact aEn h rv ru
  cases rv;cases ru;by_cases e:a=b
  ·subst e;exact bD4 _
  obtain⟨c,g,j,p⟩:=I.tuple ha;obtain⟨f,i,l,q⟩:=I.tuple hb;refine SeqAt.EqAt.of_refs e ?_;have z:=SeqAt.RcAt.tuples (A:=A) (e:=λ_=>true) (show s.heap.IsTuple a c.toArray from j) (show s.heap.IsTuple b f.toArray from l) (by lia) (vU I g i h λd k m=>yU I n d k m (by show A.units+1+n<cLine;lia));have o:(c.toArray.size == f.toArray.size)=true:=by rw[j7,j7];have:=g.length;have:=i.length;have:=h.len;simp;lia
  rw[wZ,o] at z;exact z
end
def bC6 (K:bFH)(r:Bool):R2:=λx y H Q=>∃a b xs ys,x=.ref a/\y=.ref b/\SqT K H a xs/\SqT K H b ys/\Al2 (DEq K H 40) xs ys/\Q (.bl r) H
def aTx {X:Cx}(hu:X.A.units+64<cLine):OpR X (compareOp .NotEq) (bC6 X.K false):=by
 intro m s σ H x y v u Q I k w h;obtain⟨a,b,C,D,rfl,rfl,n,t,h,q⟩:=h;cases k;cases w;obtain⟨c,g,j,z⟩:=I.tuple n;obtain⟨f,i,p,B⟩:=I.tuple t;refine SeqAt.RcNeAt.tuples (e:=λ_=>true) (show s.heap.IsTuple a c.toArray from j) (show s.heap.IsTuple b f.toArray from p) (by lia) (vU I g i h λd o l=>yU I 40 d o l (by show X.A.units+1+40<cLine;lia)) _ _ _ _ ?_;have r:(c.toArray.size == f.toArray.size)=true:=by rw[j7,j7];have:=g.length;have:=i.length;have:=h.len;simp;lia
 rw[wZ,r];exact⟨.bl _,H,I,rfl,q⟩
section
variable {X:Cx}
def bCj:R2:=λx y H Q=>(∃a b,x=.int a/\y=.int b/\Q (.bl (decide (a<b))) H)\/∃a b:Str,x=.str a/\y=.str b/\Q (.bl (decide (a.cps.toList<b.cps.toList))) H
def bAp:OpR X (compareOp .Lt) bCj:=by
 intro f s σ H x y v u Q I c d h;rcases h with⟨a,b,rfl,rfl,q⟩|⟨a,b,rfl,rfl,q⟩
 ·obtain⟨t,rfl⟩:=c;obtain⟨e,rfl⟩:=d;exact lt_int ⟨.bl _,H,I,rfl,q⟩
 ·obtain⟨t,rfl⟩:=c;obtain⟨e,rfl⟩:=d;exact lt_str ⟨.bl _,H,I,rfl,q⟩
def aW2 (K:bFH):V->List V->Hp->VK->Prop:=λx vs H Q=>∃(l:Addr) (ss:List Str) (n:Str) (i:Nat),x=.ref l/\vs=[.str n]/\SqL K H l (ss.map V.str)/\ss.length<=1000/\ss[i]?=some n/\(∀(j:Nat) (m:Str),j<i->ss[j]?=some m->m≠n)/\Q (.int (i:Nat)) H
def aMp (n:Str):Value->Bool
 |.str x _=>x == n
 |_=>false
def aEw:MtR X "list.index" (aW2 X.K):=by
 intro O s σ H x vs v us Q I N T h;obtain⟨l,k,n,i,rfl,rfl,J,p,G,o,q⟩:=h;cases N;obtain⟨u,rfl,W⟩:=T.one;obtain⟨t,rfl⟩:=W;obtain⟨a,r,L,hz⟩:=I.list J;have U:=r.length;rw[j9] at U;obtain⟨⟨P,M,C,Y⟩,D,E,Z,hd⟩:=id L.isList;simp only at E hd;subst E hd;have S:=(List.getElem?_eq_some_iff.mp G).1;have c:∀{j:Nat} (d:j<a.length),∃m b,k[j]?=some m/\a[j]=.str m b:=λ{j} d=>by
  have g:j<k.length:=by lia
  obtain⟨w,R,B⟩:=r.get (show (k.map V.str)[j]?=some (.str k[j]) by rw[v6,d7 g];rfl);obtain⟨b,rfl⟩:=B;exact⟨k[j],b,d7 g,(List.getElem?_eq_some_iff.mp R).2⟩
 refine call_meets PySem.F.slot_list_index ⟨_,D,rfl⟩ PySem.F.entry_list_index (PySem.F.args_list_index_2 _ _)
  (SeqAt.list_indexAt l a.toArray Z M Y (.str n t) (aMp n) i (by rw[j7];lia) (by lia) ?_ ?_) ⟨D,λy z=>?_,⟨.int _,H,I.tok _,⟨_,rfl⟩,q⟩⟩
 ·obtain⟨m,b,e,f⟩:=c (j:=i) (by lia);rw[G] at e;cases e;show aMp n a[i]=true;rw[f];show (n == n)=true;simp
 ·intro j d A;obtain⟨m,b,e,f⟩:=c (j:=j) (by simpa using d);show aMp n a[j]=false;rw[f];have:=o j m A e;show (m == n)=false;simpa using this
 ·have z:y∈a:=by simpa using z
  obtain⟨j,d,rfl⟩:=bBC z;obtain⟨m,b,e,f⟩:=c (j:=j) d;rw[f];exact bDN m b n t
end
end L2
namespace L2
open PySem PySem.Spec PyProof.Rows Builtin
section
variable {prog:Program}{w:World}{A:Around}{E:bFI}{s:Shared}
end
section
variable {X:Cx}
def bCt (K:bFH):List V->Hp->VK->Prop:=λxs H Q=>∃l us,xs=[.ref l,.ty "list"]/\SqL K H l us/\Q (.bl true) H
def aQq:cO X (.builtin "isinstance") (bCt X.K):=by intro f s σ H m n Q I r h;obtain⟨l,k,rfl,g,q⟩:=h;obtain⟨u,v,rfl,c,i⟩:=r.two;obtain rfl:v=Value.type "list":=i;obtain rfl:u=Value.ref l:=c;obtain⟨b,j,a,_⟩:=I.list g;obtain⟨o,d,e,_⟩:=id a.isList;exact call_isinstance (isinstance_true F.isi_meta_list F.isi_self_list) ⟨⟨o,d,e⟩,⟨.bl true,H,I,rfl,q⟩⟩
end
variable {X:Cx}
end L2
namespace My
open PySem PySem.Spec PyProof.Rows L2
def top (i:Nat):Stmt:=PySem.Challenge.pw_shardask_k63_while_moving.main.body.getD i (.Pass ⟨0,0,0,0⟩)
abbrev vB:Stmt:=top 18
abbrev jC:Stmt:=top 19
abbrev zN:Stmt:=top 20
abbrev rJ:Stmt:=top 21
abbrev gH:Stmt:=top 22
abbrev qM:Stmt:=top 23
abbrev vM:Stmt:=top 24
abbrev yI:Stmt:=top 25
abbrev vW:Stmt:=top 26
abbrev yK:Stmt:=top 27
abbrev oH:Stmt:=top 28
abbrev sJ:Stmt:=top 29
abbrev zP:Stmt:=top 30
abbrev aBu:Stmt:=top 31
abbrev oO:Stmt:=top 32
abbrev aNj:Stmt:=top 33
abbrev yE:Stmt:=top 35
abbrev uW:Stmt:=top 37
abbrev aCs:Stmt:=top 41
abbrev qN:Stmt:=top 42
abbrev mK:Stmt:=top 43
abbrev pP:Stmt:=top 44
abbrev pN:Stmt:=top 45
abbrev uU:Stmt:=top 46
abbrev sH:Stmt:=top 47
abbrev lK:Stmt:=top 48
abbrev vI:Stmt:=top 49
abbrev aC1:Stmt:=top 50
abbrev rQ:Stmt:=top 51
abbrev tW:Stmt:=top 52
abbrev gZ:Stmt:=classAt (top 53) 0
abbrev jG:Stmt:=classAt (top 53) 3
abbrev lZ:Stmt:=classAt (top 53) 4
abbrev nY:Stmt:=classAt (top 53) 6
abbrev sZ:Stmt:=top 55
abbrev nO:Stmt:=top 56
abbrev uV:Stmt:=top 57
abbrev gA:Stmt:=classAt (top 58) 0
abbrev fH:Stmt:=classAt (top 58) 2
abbrev dY:Stmt:=classAt (top 58) 3
abbrev iC:Stmt:=classAt (top 58) 4
abbrev nC:Stmt:=classAt (top 58) 5
abbrev lV:Stmt:=classAt (top 58) 6
abbrev lQ:Stmt:=classAt (top 58) 8
abbrev cT:Stmt:=classAt (top 58) 9
abbrev kZ:Stmt:=classAt (top 58) 10
abbrev iT:Stmt:=classAt (top 58) 12
abbrev fJ:Stmt:=classAt (top 58) 13
abbrev mF:Stmt:=classAt (top 58) 14
abbrev tQ:Stmt:=top 60
abbrev qW:Stmt:=top 61
abbrev pK:Stmt:=top 62
abbrev lO:Stmt:=top 63
abbrev pQ:Stmt:=top 64
abbrev qG:Stmt:=top 65
abbrev tR:Stmt:=top 66
abbrev qI:Stmt:=top 67
abbrev rM:Stmt:=top 68
abbrev nU:Stmt:=top 69
abbrev rW:Stmt:=top 70
abbrev iQ:Stmt:=top 71
abbrev jA:Stmt:=top 72
abbrev kY:Stmt:=top 73
abbrev dD:Stmt:=top 74
abbrev sW:Stmt:=top 75
abbrev mC:Stmt:=top 76
abbrev pJ:Stmt:=top 77
abbrev jF:Stmt:=top 78
abbrev tE:Stmt:=top 79
abbrev aOy:Stmt:=top 80
structure Txt (w:World)(K:bFH)(mg:bFK):Prop where
 aWj:mg "ValueError"=none
 aBh:mg "all"=none
 bBz:mg "any"=none
 aYv:mg "bool"=none
 aTs:mg "dict"=none
 aKp:mg "enumerate"=none
 aSy:mg "int"=none
 cB:mg "isinstance"=none
 eX:mg "len"=none
 aA4:mg "list"=none
 bBu:mg "max"=none
 lU:mg "range"=none
 aO7:mg "set"=none
 eO:mg "sorted"=none
 aYg:mg "str"=none
 kO:mg "tuple"=none
 aX7:mg "zip"=none
 jW:∃a,mg "QUESTION_WORDS"=some (.ref a)/\∀H,SqT K H a [.str "and",.str "by",.str "count",.str "down",.str "first",.str "group",.str "join",.str "keep",.str "least",.str "most",.str "named",.str "on",.str "sum",.str "table",.str "up",.str "where",.str "with"]
 aEv:∃u,mg "LETTERS"=some u/\RelV (.str "abcdefghijklmnopqrstuvwxyz") u
 aFq:∃a,mg "KINDS"=some (.ref a)/\∀H,SqT K H a [.str "number",.str "word"]
 aBf:∃u,mg "MOST_LETTERS"=some u/\RelV (.int 8) u
 aCm:∃u,mg "MOST_COLUMNS"=some u/\RelV (.int 8) u
 aIm:∃u,mg "WORD_BASE"=some u/\RelV (.int 27) u
 aD3:∃u,mg "MOST_HOUSES"=some u/\RelV (.int 6) u
 aIr:∃u,mg "MOST_CUTS"=some u/\RelV (.int 8) u
 aAb:∃f o,(∃u,mg "is_column"=some u/\RelV (.ref f) u)/\K.lookup f=some o/\o.cls=.type "function"
 aMk:Dn K mg "is_whole" vB ["thing"]
 wW:Dn K mg "is_number_below" jC ["thing","many"]
 aPu:Dn K mg "is_word" zN ["thing"]
 aJr:Dn K mg "is_one_of" rJ ["thing","texts"]
 uO:Dn K mg "is_tuple_of" gH ["thing","least","most","is_part"]
 aGj:Dn K mg "are_unlike" qM ["names"]
 aNt:Dn K mg "names_of" vM ["head"]
 aRg:Dn K mg "is_name" yI ["thing"]
 aNb:Dn K mg "is_value" vW ["thing"]
 aQn:Dn K mg "kind_of" yK ["value"]
 aD1:Dn K mg "is_value_of" oH ["thing","kind"]
 aI3:Dn K mg "is_column" sJ ["thing"]
 aP8:Dn K mg "is_head" zP ["thing"]
 aSr:Dn K mg "is_row" aBu ["head","thing"]
 aDt:Dn K mg "word_number" oO ["word"]
 aZt:Dn K mg "home" aNj ["value","houses"]
 aP2:Dn K mg "kind_in" yE ["head","name"]
 aNg:Dn K mg "place_of" uW ["head","name"]
 aUi:Dn K mg "is_cut" aCs ["thing","houses"]
 aNa:Dn K mg "are_cuts" qN ["thing","kind","houses"]
 aC8:Dn K mg "is_column_in" mK ["head","thing"]
 aHj:Dn K mg "is_placing" pP ["thing","head","houses"]
 aL3:Dn K mg "are_rows" pN ["thing","head"]
 aLk:Dn K mg "is_table" uU ["thing","houses"]
 aJs:Dn K mg "need_town" sH ["houses","tables"]
 aAl:Dn K mg "placed_tables" lK ["houses","tables"]
 aLh:Dn K mg "table_in" vI ["placed","name"]
 aS3:Dn K mg "cut_of" aC1 ["cuts","value"]
 aJp:Dn K mg "stands_at" rQ ["head","placing","row","house","houses"]
 aRe:Dn K mg "rows_at" tW ["table","house","houses"]
 aK6:Dn K mg "with_rows" sZ ["table","rows"]
 aKc:Dn K mg "span_rows" nO ["table","number"]
 aM5:Dn K mg "is_above" uV ["row","mark"]
 aJz:Dn K mg "_law_seed" tQ ["_law_script"]
 aJg:Dn K mg "_law_next" qW ["_law_state","_law_many"]
 aHx:Dn K mg "_law_words" pK []
 aF4:Dn K mg "_law_names" lO ["_law_state","_law_many"]
 aHb:Dn K mg "_law_great" pQ ["_law_state"]
 aG0:Dn K mg "_law_value" qG ["_law_state","_law_kind"]
 aJn:Dn K mg "_law_head" tR ["_law_state","_law_names_here"]
 aNr:Dn K mg "_law_row" qI ["_law_state","_law_head_here"]
 aIq:Dn K mg "_law_home" rM ["_law_value_here","_law_houses"]
 aIz:Dn K mg "_law_span" nU ["_law_cuts","_law_value_here"]
 aI5:Dn K mg "_law_spot" rW ["_law_head_here","_law_name"]
 aF1:Dn K mg "_law_stood" iQ ["_law_table","_law_houses","_law_house"]
 aBs:Dn K mg "_law_of_span" jA ["_law_table"]
 aD2:Dn K mg "_law_stands" kY ["_law_table","_law_houses","_law_house"]
 vR:Dn K mg "_law_spans_begun" dD ["_law_state","_law_names_here","_law_most"]
 aH5:Dn K mg "_law_lent" sW ["_law_state","_law_table","_law_houses"]
 aGv:Dn K mg "_law_above" mC ["_law_table"]
 aGe:Dn K mg "_law_right" pJ ["_law_store","_law_name","_law_table","_law_houses"]
 aB8:Dn K mg "_law_carried" jF ["_law_store","_law_name","_law_table","_law_many"]
 aIs:Dn K mg "_law_deed" tE ["_law_state","_law_store","_law_name","_law_table"]
 bCh:Dn K mg "law" aOy ["_law_script"]
 bBg:∃C,aVs K mg "Town" C/\fU K C "__init__" "Town.__init__" gZ ["self","houses","tables"]/\fU K C "placing" "Town.placing" jG ["self","name"]/\fU K C "whole" "Town.whole" lZ ["self","name"]/\fU K C "part" "Town.part" nY ["self","name","house"]/\bI K C "placed"/\bI K C "house_count"
 aVx:∃C,aVs K mg "Store" C/\fU K C "__init__" "Store.__init__" gA ["self","houses","tables"]/\fU K C "cut_table" "Store.cut_table" fH ["self","name"]/\fU K C "need_still" "Store.need_still" dY ["self","name"]/\fU K C "move_of" "Store.move_of" iC ["self","name"]/\fU K C "put" "Store.put" nC ["self","name","row"]/\fU K C "drop" "Store.drop" lV ["self","name","row"]/\fU K C "lend" "Store.lend" lQ ["self","name","number","house"]/\fU K C "rows_to_come" "Store.rows_to_come" cT ["self","name"]/\fU K C "carry" "Store.carry" kZ ["self","name","many"]/\fU K C "moving" "Store.moving" iT ["self","name"]/\fU K C "stands" "Store.stands" fJ ["self","name","house"]/\fU K C "town" "Store.town" mF ["self"]/\bI K C "placed"/\bI K C "house_count"/\bI K C "moves"
abbrev abc:Str:="abcdefghijklmnopqrstuvwxyz"
abbrev words:List V:=[.str "and",.str "by",.str "count",.str "down",.str "first",.str "group",.str "join",.str "keep",.str "least",.str "most",.str "named",.str "on",.str "sum",.str "table",.str "up",.str "where",.str "with"]
def Th (K:bFH)(H:Hp)(v:V):Prop:=(∃x,v=.str x/\x.length<=1000)\/(∃i,v=.int i)\/(∃b,v=.bl b)\/∃k,Rk K H v k
theorem Th.same {K:bFH}{H H':Hp}{v:V}(e:Same H H')(h:Th K H v):Th K H' v:=by
 rcases h with h|h|h|⟨k,h⟩
 ·exact .inl h
 ·exact .inr (.inl h)
 ·exact .inr (.inr (.inl h))
 ·exact .inr (.inr (.inr ⟨k,h.same e⟩))
def aWe:V->String->Bool
 |.int _,T=>T == "int"
 |.str _,T=>T == "str"
 |.bl _,T=>T == "int" || T == "bool"
 |_,_=>false
def isS:V->Bool
 |.str _=>true
 |_=>false
def whole:V->Bool
 |.int _=>true
 |_=>false
def wI {K:bFH}{H:Hp}{v:V}{T:String}{Q:VK}(c:Th K H v)(a:T = "int"\/T = "bool"\/T = "str")(q:Q (.bl (aWe v T)) H):bB8 [v,.ty T] H Q\/aYt K [v,.ty T] H Q:=by
 rcases c with⟨x,rfl,_⟩|⟨i,rfl⟩|⟨b,rfl⟩|⟨k,h⟩
 ·refine .inl ⟨_,_,_,rfl,?_,q⟩;rcases a with rfl|rfl|rfl <;> simp[aLx,aWe]
 ·refine .inl ⟨_,_,_,rfl,?_,q⟩;rcases a with rfl|rfl|rfl <;> simp[aLx,aWe]
 ·refine .inl ⟨_,_,_,rfl,?_,q⟩;rcases a with rfl|rfl|rfl <;> simp[aLx,aWe]
 ·refine .inr ⟨_,_,_,rfl,h,a,?_⟩;cases h <;> exact q
def inA (y:Str):Bool:=!(Builtin.Str.occurrences abc y 0 abc.length 1).isEmpty
def allIn (x:Str):Bool:=((List.range x.cps.size).map λi=>inA (sgn x i)).all id
def uG (l:Nat):V->Bool
 |.str x=>decide (l<=x.length) && (decide (x.length<=8) && allIn x)
 |_=>false
def nameB (v:V):Bool:=uG 1 v && !inV v words
def aM9 (v:V):Bool:=whole v || uG 0 v
def pG (K:bFH):Sp:=λvs H Q _=>∃v,vs=[v]/\Th K H v/\Q (.bl (whole v)) H
def aD8 (K:bFH)(f:V->Bool):Sp:=λvs H Q _=>∃v,vs=[v]/\Th K H v/\∀H',Same H H'->Q (.bl (f v)) H'
def aO4 (K:bFH):Sp:=λvs H Q _=>∃v,vs=[v]/\Th K H v/\Q (.str (if whole v then "number" else "word")) H
def aY9 (K:bFH):Sp:=λvs H Q _=>∃(a:Addr) (ns:List Int),vs=[.ref a]/\SqL K H a (ns.map V.int)/\ns.length<=63/\∀H',Q (.bl true) H'
def bBm {K:bFH}{H:Hp}{a:Addr}{c:List Int}(h:c.length<=63)(b:SqL K H a (c.map V.int)):aY9 K [.ref a] H (λv _=>v=.bl true) λ_ _ _=>False:=
 ⟨a,c,rfl,b,h,λ_=>rfl⟩
def aKx:aJ ["thing"] ["thing"] (aF vB):=by trivial
def vY:aJ ["thing","many"] ["thing","many"] (aF jC):=by trivial
def aMd:aJ ["thing"] ["thing"] (aF zN):=by trivial
def aF2:aJ ["thing","texts"] ["thing","texts"] (aF rJ):=by trivial
def sV:aJ ["thing","least","most","is_part"] ["thing","least","most","is_part"] (aF gH):=by trivial
def aDy:aJ ["names"] ["names"] (aF qM):=by trivial
def aKs:aJ ["head"] ["head"] (aF vM):=by trivial
def aLw:aJ ["thing"] ["thing"] (aF yI):=by trivial
def aKo:aJ ["thing"] ["thing"] (aF vW):=by trivial
def aLi:aJ ["value"] ["value"] (aF yK):=by trivial
def aCf:aJ ["thing","kind"] ["thing","kind"] (aF oH):=by trivial
def aF9:aJ ["thing"] ["thing"] (aF sJ):=by trivial
def aMy:aJ ["thing"] ["thing"] (aF zP):=by trivial
def aQv:aJ ["head","thing"] ["head","thing"] (aF aBu):=by trivial
def iU:aJ ["word","number","letter"] ["word"] (aF oO):=by trivial
def aOs:aJ ["value","houses","number"] ["value","houses"] (aF aNj):=by trivial
def aCa:aJ ["head","name","column"] ["head","name"] (aF yE):=by trivial
def aKr:aJ ["head","name"] ["head","name"] (aF uW):=by trivial
def aQ0:aJ ["thing","houses"] ["thing","houses"] (aF aCs):=by trivial
def zW:aJ ["thing","kind","houses","lows"] ["thing","kind","houses"] (aF qN):=by trivial
def aAp:aJ ["head","thing"] ["head","thing"] (aF mK):=by trivial
def aDh:aJ ["thing","head","houses"] ["thing","head","houses"] (aF pP):=by trivial
def aK7:aJ ["thing","head"] ["thing","head"] (aF pN):=by trivial
def aJ8:aJ ["thing","houses"] ["thing","houses"] (aF uU):=by trivial
def pR:aJ ["houses","tables","name","table"] ["houses","tables"] (aF sH):=by trivial
def zG:aJ ["houses","tables"] ["houses","tables"] (aF lK):=by trivial
def aH7:aJ ["placed","name"] ["placed","name"] (aF vI):=by trivial
def uA:aJ ["cuts","value","number","place"] ["cuts","value"] (aF aC1):=by trivial
def qL:aJ ["head","placing","row","house","houses","value","cuts"] ["head","placing","row","house","houses"] (aF rQ):=by trivial
def aM4:aJ ["table","house","houses"] ["table","house","houses"] (aF tW):=by trivial
def yP:aJ ["self","houses","tables"] ["self","houses","tables"] (aF gZ):=by trivial
def aAq:aJ ["self","name"] ["self","name"] (aF jG):=by trivial
def aDm:aJ ["self","name"] ["self","name"] (aF lZ):=by trivial
def aGm:aJ ["self","name","house"] ["self","name","house"] (aF nY):=by trivial
def aG9:aJ ["table","rows"] ["table","rows"] (aF sZ):=by trivial
def xF:aJ ["table","number","place"] ["table","number"] (aF nO):=by trivial
def aIv:aJ ["row","mark"] ["row","mark"] (aF uV):=by trivial
def wM:aJ ["self","houses","tables"] ["self","houses","tables"] (aF gA):=by trivial
def mW:aJ ["self","name","table"] ["self","name"] (aF fH):=by trivial
def uH:aJ ["self","name"] ["self","name"] (aF dY):=by trivial
def yO:aJ ["self","name"] ["self","name"] (aF iC):=by trivial
def xR:aJ ["self","name","row","table"] ["self","name","row"] (aF nC):=by trivial
def oJ:aJ ["self","name","row","table","rows"] ["self","name","row"] (aF lV):=by trivial
def uT:aJ ["self","name","number","house","cuts"] ["self","name","number","house"] (aF lQ):=by trivial
def jP:aJ ["self","name","move"] ["self","name"] (aF cT):=by trivial
def jH:aJ ["self","name","many","move","waiting","unlike"] ["self","name","many"] (aF kZ):=by trivial
def aAj:aJ ["self","name"] ["self","name"] (aF iT):=by trivial
def iB:aJ ["self","name","house","table","rows","move"] ["self","name","house"] (aF fJ):=by trivial
def aDq:aJ ["self"] ["self"] (aF mF):=by trivial
def jL:aJ ["_law_script","_law_seed_here","_law_k","_law_cell"] ["_law_script"] (aF tQ):=by trivial
def aGd:aJ ["_law_state","_law_many"] ["_law_state","_law_many"] (aF qW):=by trivial
def uK:aJ ["_law_words_here"] [] (aF pK):=by trivial
def cN:aJ ["_law_state","_law_many","_law_small","_law_odd","_law_base","_law_k","_law_at","_law_names_here"] ["_law_state","_law_many"] (aF lO):=by trivial
def kI:aJ ["_law_state","_law_number","_law_k"] ["_law_state"] (aF pQ):=by trivial
def gK:aJ ["_law_state","_law_kind","_law_way","_law_word","_law_k"] ["_law_state","_law_kind"] (aF qG):=by trivial
def jD:aJ ["_law_state","_law_names_here","_law_start","_law_head_here","_law_k","_law_kind"] ["_law_state","_law_names_here"] (aF tR):=by trivial
def aI2:aJ ["_law_state","_law_head_here"] ["_law_state","_law_head_here"] (aF qI):=by trivial
def aGo:aJ ["_law_value_here","_law_houses","_law_number","_law_letter"] ["_law_value_here","_law_houses"] (aF rM):=by trivial
def aHh:aJ ["_law_cuts","_law_value_here"] ["_law_cuts","_law_value_here"] (aF nU):=by trivial
def aGp:aJ ["_law_head_here","_law_name"] ["_law_head_here","_law_name"] (aF rW):=by trivial
def eY:aJ ["_law_table","_law_houses","_law_house","_law_head_here","_law_placing","_law_rows","_law_move","_law_spot_here"] ["_law_table","_law_houses","_law_house"] (aF iQ):=by trivial
def dF:aJ ["_law_table","_law_head_here","_law_placing","_law_rows","_law_move","_law_spot_here"] ["_law_table"] (aF jA):=by trivial
def iV:aJ ["_law_table","_law_houses","_law_house","_law_found","_law_move"] ["_law_table","_law_houses","_law_house"] (aF kY):=by trivial
def bJ:aJ ["_law_state","_law_names_here","_law_most","_law_houses","_law_head_here","_law_column","_law_kind","_law_cuts","_law_low","_law_placing","_law_rows","_law_store"] ["_law_state","_law_names_here","_law_most"] (aF dD):=by trivial
def pO:aJ ["_law_state","_law_table","_law_houses","_law_number","_law_house"] ["_law_state","_law_table","_law_houses"] (aF sW):=by trivial
def kJ:aJ ["_law_table","_law_number","_law_house","_law_mark"] ["_law_table"] (aF mC):=by trivial
def oE:aJ ["_law_store","_law_name","_law_table","_law_houses","_law_town","_law_house"] ["_law_store","_law_name","_law_table","_law_houses"] (aF pJ):=by trivial
def iG:aJ ["_law_store","_law_name","_law_table","_law_many","_law_some","_law_found","_law_due"] ["_law_store","_law_name","_law_table","_law_many"] (aF jF):=by trivial
def fY:aJ ["_law_state","_law_store","_law_name","_law_table","_law_way","_law_row_here"] ["_law_state","_law_store","_law_name","_law_table"] (aF tE):=by trivial
def rH:aJ ["_law_script","_law_state","_law_names_here","_law_store","_law_table","_law_houses","_law_cell"] ["_law_script"] (aF aOy):=by trivial
section
variable {P:Program}{w:World}{K:bFH}{mg:bFK}{base:Heap}
def aKl (T:Txt w K mg):Ok P w K mg base 1 "is_whole" ["thing"] (pG K):=by
 refine Ok.ofV T.aMk aKx (by trivial) (λf d A c s H g Q E e h=>?_)
 obtain⟨v,rfl,a,q⟩:=h;refine⟨_,(aG (aL (iZ (aM (xN.or tX) (by rfl) T.cB bU (aB (vv 0) (aB (fX (v:=.ty "int") (by rfl) T.aSy aMm rfl) aA))) (iY (aZk (aM (xN.or tX) (by rfl) T.cB bU (aB (vv 0) (aB (fX (v:=.ty "bool") (by rfl) T.aYv aXg rfl) aA)))))))),?_⟩;refine⟨_,rfl,wI a (.inl rfl) ⟨_,rfl,?_⟩⟩;rcases id a with⟨x,rfl,_⟩|⟨i,rfl⟩|⟨b,rfl⟩|⟨k,h⟩
 ·exact bZ q
 ·exact eU ⟨_,rfl,wI a (.inr (.inl rfl)) ⟨_,rfl,q⟩⟩
 ·exact eU ⟨_,rfl,wI a (.inr (.inl rfl)) ⟨_,rfl,q⟩⟩
 ·cases h <;> exact bZ q
def aSb (x:Str):(((List.range x.cps.size).map λi=>V.str (sgn x i)).map λv=>match v with|.str y=>V.bl (inA y)|_=>.bl false)=(((List.range x.cps.size).map λi=>inA (sgn x i)).map V.bl):=by rw[bDZ,bDZ];rfl
def aL0 (T:Txt w K mg):Ok P w K mg base 1 "is_word" ["thing"] (aD8 K (uG 0)):=by
 refine Ok.ofV T.aPu aMd (by trivial) (λf o A d s H L Q E J h=>?_)
 obtain⟨v,rfl,j,q⟩:=h;refine⟨_,(aD (cA (VW.pt (gJ (cP (cG (aM (xN.or tX) (by rfl) T.cB bU (aB (vv 0) (aB (fX (v:=.ty "str") (by rfl) T.aYg aVa rfl) aA))))) (eZ (aY bCs (aM wH (by rfl) T.eX cY (aB (vv 0) aA)) (uL (by rfl) T.aBf) (aW _))))) (aG (aL jO)) aZ) (aG (aL (aM (mQ rfl) (by rfl) T.aBh vK (aB (cL (N:=["sign"]) (by trivial) (mO (by decide +kernel)) rfl (aUb (vv 0)) (λI M u C=>⟨(aO (i:=0) (show (["sign"]:List Str).Nodup from by decide +kernel) rfl (Or.inl rfl)),iH,(cR aQ5 (vv 0) (uL (by rfl) T.aEv) (by with_unfolding_all rfl))⟩)) aA))))),?_⟩;refine⟨_,rfl,wI j (.inr (.inr rfl)) ⟨_,rfl,?_⟩⟩;have a:isS v=false->Q (.bl false) H:=λe=>by
  have z:uG 0 v=false:=by cases v <;> first|rfl|cases e
  rw[<-z];exact q H (Same.refl H)
 rcases id j with⟨x,rfl,m⟩|⟨i,rfl⟩|⟨b,rfl⟩|⟨k,h⟩
 ·refine bZ ⟨_,rfl,_,rfl,small m,_,_,rfl,rfl,_,rfl,?_⟩;refine aMf (λc=>?_) (λc=>?_)
  ·have t:(8:Int)<x.length:=of_decide_eq_true c;have z:uG 0 (.str x)=false:=by show (decide (0<=x.length) && (decide (x.length<=8) && allIn x))=false;rw[v8 (p:=x.length<=8) (by lia)];simp
   rw[<-z];exact q H (Same.refl H)
  ·have t:¬ (8:Int)<x.length:=of_decide_eq_false (Bool.eq_false_iff.mpr c);dsimp only[rZ,tV,tCB,fG];refine aQl ((List.range x.cps.size).map λi=>V.str (sgn x i)) (λv=>match v with|.str y=>V.bl (inA y)|_=>.bl false) [none] yC ?_
    (λR r=>aYx (z:=x) (λG n=>⟨_,rfl,n⟩) R r) (λv g u R l F r=>?_) rfl λD B=>?_
   ·rw[j9,bAL];exact small m
   ·obtain⟨i,_,rfl⟩:=List.mem_map.mp g;exact⟨_,rfl,_,_,rfl,rfl,r⟩
   ·refine⟨D,(List.range x.cps.size).map λi=>inA (sgn x i),rfl,SqL.of (by rw[aH,aSb]),?_⟩;have z:uG 0 (.str x)=allIn x:=by show (decide (0<=x.length) && (decide (x.length<=8) && allIn x))=allIn x;rw[t6 (p:=x.length<=8) (by lia)];simp
    show Q (.bl (allIn x)) _;rw[<-z];exact q _ (bC B _)
 ·exact eU (a rfl)
 ·exact eU (a rfl)
 ·cases h <;> exact eU (a rfl)
theorem aGi {v:V}{l:Nat}(h:uG l v=true):∃x,v=.str x/\l<=x.length/\x.length<=8/\allIn x=true:=by
 cases v with
 |str x=>have h:(decide (l<=x.length) && (decide (x.length<=8) && allIn x))=true:=h;rw[bAT,bAT] at h;exact⟨x,rfl,of_decide_eq_true h.1,of_decide_eq_true h.2.1,h.2.2⟩
 |_=>cases h
def aFl {x:Str}:x=("":Str)↔x.length=0:=by
 constructor
 ·rintro rfl;decide +kernel
 ·intro h;obtain⟨a⟩:=x;have h:a.size=0:=h;rw[Array.size_eq_zero_iff] at h;subst h;decide +kernel
def aCz:words.all lE=true:=rfl
def aNk (T:Txt w K mg)(F:Ok P w K mg base 1 "is_word" ["thing"] (aD8 K (uG 0))):Ok P w K mg base 2 "is_name" ["thing"] (aD8 K nameB):=by
 refine Ok.ofV T.aRg aLw (by trivial) (λf y A g s H G Q E B h=>?_)
 obtain⟨v,rfl,n,q⟩:=h;obtain⟨l,r,b⟩:=T.jW;have m:∃u,mg "QUESTION_WORDS"=some u/\RelV (.ref l) u:=⟨_,r,rfl⟩;refine⟨_,(aG (aL (iZ (aN (F.mono (by decide)) B (by rfl) (aB (vv 0) aA)) (iZ (cR aBl (vv 0) bN (aW _)) (iY (cR aH3 (vv 0) (uL (by rfl) m) (by with_unfolding_all rfl))))))),?_⟩;refine⟨_,rfl,_,rfl,n,λa d=>⟨_,rfl,?_⟩⟩;refine aMf (λc=>?_) (λc=>?_)
 ·obtain⟨x,rfl,_,k,i⟩:=aGi c;refine⟨_,rfl,rfl,_,rfl,?_⟩;by_cases e:x.length=0
  ·have t:=aFl.mpr e;subst t;refine bZ ?_;have z:nameB (.str "")=false:=by decide +kernel
   rw[<-z];exact q a d
  ·have C:¬ (V.str x=V.str ""):=λz=>e (aFl.mp (V.str.inj z));have o:(!decide (V.str x=V.str ""))=true:=by rw[v8 C];rfl
   rw[o];refine eU ⟨_,rfl,l,words,rfl,.inr (b _),rfl,aCz,?_⟩;have z:nameB (.str x)=!inV (.str x) words:=by show ((decide (1<=x.length) && (decide (x.length<=8) && allIn x)) && !inV (.str x) words)=!inV (.str x) words;rw[t6 (p:=1<=x.length) (by lia),t6 k,i];rfl
   show Q (.bl (!inV (.str x) words)) a;rw[<-z];exact q a d
 ·have z:nameB v=false:=by
   show (uG 1 v && !inV v words)=false;cases j:uG 1 v with
   |false=>rfl
   |true=>obtain⟨x,rfl,D,k,i⟩:=aGi j;refine absurd ?_ c;show (decide (0<=x.length) && (decide (x.length<=8) && allIn x))=true;rw[t6 k,i,t6 (bAG _)];rfl
  rw[<-z];exact q a d
theorem aH8 (T:Txt w K mg)(l:Ok P w K mg base 1 "is_whole" ["thing"] (pG K))(k:Ok P w K mg base 1 "is_word" ["thing"] (aD8 K (uG 0))) :
  Ok P w K mg base 2 "is_value" ["thing"] (aD8 K aM9):=by
 refine Ok.ofV T.aNb aKo (by trivial) (λf i A a s H j Q E b h=>?_)
 obtain⟨v,rfl,c,q⟩:=h;refine⟨_,(aG (aL (aX9 (aN (l.mono (by decide)) b (by rfl) (aB (vv 0) aA)) (iY (aN (k.mono (by decide)) b (by rfl) (aB (vv 0) aA)))))),?_⟩;refine⟨_,rfl,_,rfl,c,_,rfl,?_⟩;cases d:whole v with
 |true=>
  refine eU ?_;have z:aM9 v=true:=by show (whole v || uG 0 v)=true;rw[d];rfl
  rw[<-z];exact q H (Same.refl H)
 |false=>
  refine bZ ⟨_,rfl,_,rfl,c,λg e=>?_⟩;have z:aM9 v=uG 0 v:=by show (whole v || uG 0 v)=uG 0 v;rw[d];rfl
  rw[<-z];exact q g e
theorem aNm (T:Txt w K mg)(i:Ok P w K mg base 1 "is_whole" ["thing"] (pG K)):Ok P w K mg base 2 "kind_of" ["value"] (aO4 K):=by
 refine Ok.ofV T.aQn aLi (by trivial) (λf e A a s H g Q E c h=>?_)
 obtain⟨v,rfl,d,q⟩:=h;refine⟨_,(aG (aL (aJa (cG (aN (i.mono (by decide)) c (by rfl) (aB (vv 0) aA))) bN bN))),?_⟩;refine⟨_,rfl,_,rfl,d,_,rfl,?_⟩;cases b:whole v with
 |true=>rw[b] at q;exact eU q
 |false=>rw[b] at q;exact bZ q
def at0 (x:V)(r:List V):atI (x::r) 0=some x:=by unfold atI ixN;simp
def at1 (x y:V)(r:List V):atI (x::y::r) 1=some y:=by unfold atI ixN;simp only[v9];rw[if_pos (by lia),if_pos (by lia)];rfl
theorem Tk.same {K:bFH}{H H':Hp}{v:V}{b:Bool}(e:Same H H')(h:Tk K H v b):Tk K H' v b:=by
 cases h with
 |int=>exact .int
 |str=>exact .str
 |bl=>exact .bl
 |non=>exact .non
 |lst q=>exact .lst (e.seq q)
 |dct q=>exact .dct (e _ _ q)
 |tup q=>exact .tup (e.bA q)
structure Tells (R:Hp->V->Bool->Prop):Prop where
 same:∀{H H' v b},Same H H'->R H v b->R H' v b
def bA7 (R:Hp->V->Bool->Prop):Sp:=λvs H Q _=>∃v b,vs=[v]/\R H v b/\∀H',Same H H'->Q (.bl b) H'
inductive aEx (K:bFH)(R:Hp->V->Bool->Prop)(lo hi:Nat)(H:Hp):V->Bool->Prop
 |no {v}:Tk K H v false->aEx K R lo hi H v false
 |len {a xs}:SqT K H a xs->¬ (lo<=xs.length/\xs.length<=hi)->aEx K R lo hi H (.ref a) false
 |yes {a xs} (f:V->Bool):SqT K H a xs->lo<=xs.length->xs.length<=hi->(∀x∈xs,R H x (f x))->aEx K R lo hi H (.ref a) (xs.all f)
def aLr (K:bFH):Sp:=λvs H Q _=>∃v a xs,vs=[v,.ref a]/\Th K H v/\SqT K H a xs/\xs.all lE=true/\Q (.bl (isS v && inV v xs)) H
def aK4 (P:Program)(w:World)(K:bFH)(mg:bFK)(base:Heap)(k:Nat):Sp:=λvs H Q _=>∃v lo hi f ps R b,vs=[v,.int (lo:Nat),.int (hi:Nat),.ref f]/\hi<=1000/\Held P w K mg base k f ps (bA7 R)/\Tells R/\aEx K R lo hi H v b/\∀H',Same H H'->Q (.bl b) H'
def aEo (K:bFH):Sp:=λvs H Q _=>∃a ss,vs=[.ref a]/\SqL K H a (ss.map V.str)/\ss.length<=1000/\∀H',Same H H'->Q (.bl (decide ((pA ss).length=ss.length))) H'
def aFx (T:Txt w K mg):Ok P w K mg base 1 "is_one_of" ["thing","texts"] (aLr K):=by
 refine Ok.ofV T.aJr aF2 (by trivial) (λf l A c s H n Q E m h=>?_)
 obtain⟨v,a,g,rfl,d,j,e,q⟩:=h;refine⟨_,(aG (aL (iZ (aM (xN.or tX) (by rfl) T.cB bU (aB (vv 0) (aB (fX (v:=.ty "str") (by rfl) T.aYg aVa rfl) aA))) (iY (cR zE (vv 0) (vv 1) (by with_unfolding_all rfl)))))),?_⟩;refine⟨_,rfl,wI d (.inr (.inr rfl)) ⟨_,rfl,?_⟩⟩;rcases id d with⟨x,rfl,_⟩|⟨i,rfl⟩|⟨b,rfl⟩|⟨k,h⟩
 ·exact eU ⟨_,rfl,_,rfl,a,g,rfl,.inr j,rfl,e,q⟩
 ·exact bZ q
 ·exact bZ q
 ·cases h <;> exact bZ q
theorem aDc {k:Nat}(T:Txt w K mg):Ok P w K mg base (k+1) "is_tuple_of" ["thing","least","most","is_part"] (aK4 P w K mg base k):=by
 refine Ok.ofV T.uO sV (by trivial) (λf J A m s H X Q E L h=>?_)
 obtain⟨v,p,u,g,C,R,b,rfl,d,G,F,y,q⟩:=h;refine⟨_,(aD (cA (VW.pt (gJ (cP (cG (aM jR (by rfl) T.cB bU (aB (vv 0) (aB (fX (v:=.ty "tuple") (by rfl) T.kO gQ rfl) aA))))) (eZ (cP (aBv aA5 aA5 (vv 1) (aM bB (by rfl) T.eX cY (aB (vv 0) aA)) (vv 2)))))) (aG (aL jO)) aZ) (aG (aL (aM (mQ rfl) (by rfl) T.aBh vK (aB (cL (N:=["part","is_part"]) (by trivial) (dZ (aF gH) rfl (by decide +kernel)) rfl (rB (vv 0)) (λU Y n S=>⟨(aO (i:=0) (show (["part","is_part"]:List Str).Nodup from by decide +kernel) rfl (Or.inl rfl)),iH,(aT8 (P:=P) (w:=w) (K:=K) (mg:=mg) (base:=base) L (vv 1) (aB (vv 0) aA))⟩)) aA))))),?_⟩;cases y with
 |no h=>exact⟨_,rfl,_,_,rfl,h,_,rfl,eU (q H (Same.refl H))⟩
 |@len a xs ha hn=>refine⟨_,rfl,_,_,rfl,.tup ha,_,rfl,bZ ?_⟩;refine⟨_,rfl,_,rfl,_,_,rfl,.inr ha,_,_,rfl,rfl,_,rfl,?_⟩;refine aMf (λc=>⟨_,rfl,_,_,rfl,rfl,_,rfl,?_⟩) (λc=>⟨_,rfl,eU (q H (Same.refl H))⟩);have W:(p:Int)<=xs.length:=of_decide_eq_true c;have e:decide ((xs.length:Int)<=(u:Int))=false:=v8 λz=>hn ⟨by lia,by lia⟩;rw[e];exact eU (q H (Same.refl H))
 |@yes a xs t ha h1 h2 hx=>
  refine⟨_,rfl,_,_,rfl,.tup ha,_,rfl,bZ ?_⟩;refine⟨_,rfl,_,rfl,_,_,rfl,.inr ha,_,_,rfl,rfl,_,rfl,?_⟩;have M:decide ((p:Int)<=(xs.length:Int))=true:=t6 (by lia);have B:decide ((xs.length:Int)<=(u:Int))=true:=t6 (by lia);rw[M];refine eU ⟨_,rfl,_,_,rfl,rfl,_,rfl,?_⟩;rw[B];refine bZ ?_;dsimp only[rZ,tV,tCB,fG];refine aEu xs (λx=>.bl (t x)) [none,some (.ref g)] ?_ (small (by lia)) (λR r=>aMw ha (λV I=>⟨_,rfl,I⟩) R r) (λx o n R l j r=>?_) rfl λD n j O=>?_
  ·exact lB 3 (by decide +kernel) rfl rfl (by trivial)
  ·exact⟨_,rfl,g,C,_,rfl,G,_,rfl,x,t x,rfl,F.same j (hx x o),r⟩
  ·refine⟨D,xs.map t,rfl,SqL.of (by rw[O,bDZ];rfl),?_⟩;rw[List.all_map];exact q n j
def aD9 (T:Txt w K mg):Ok P w K mg base 1 "are_unlike" ["names"] (aEo K):=by
 refine Ok.ofV T.aGj aDy (by trivial) (λf i A c s H l Q E k h=>?_)
 obtain⟨a,b,rfl,d,j,q⟩:=h;refine⟨_,(aG (aL (cR dW (aM aLo (by rfl) T.eX cY (aB (cX (aNu rfl) (by rfl) T.aO7 aG4 (aB (vv 0) aA)) aA)) (aM bB (by rfl) T.eX cY (aB (vv 0) aA)) (aW _)))),?_⟩;refine⟨_,rfl,a,b,rfl,d,j,λD g=>⟨D,b,rfl,aH,_,rfl,a,_,rfl,.inl ((bC g _).seq d),rfl,?_⟩⟩;have e:decide (V.int ((pA b).length:Nat)=V.int (b.map V.str).length)=decide ((pA b).length=b.length):=by
  rw[j9];by_cases z:(pA b).length=b.length
  ·rw[z];simp
  ·rw[v8 z,v8 (by intro y;apply z;have:=V.int.inj y;lia)]
 rw[e];exact q _ (bC g _)
abbrev kinds:List V:=[.str "number",.str "word"]
inductive aGz (K:bFH)(H:Hp):V->Bool->Prop
 |no {v}:Tk K H v false->aGz K H v false
 |len {a xs}:SqT K H a xs->xs.length≠2->aGz K H (.ref a) false
 |two {a x y}:SqT K H a [x,y]->Th K H x->Th K H y->aGz K H (.ref a) (nameB x && (isS y && inV y kinds))
theorem aRc (K:bFH):Tells (aGz K):=⟨λe h=>by
 cases h with
 |no q=>exact .no (Tk.same e q)
 |len q n=>exact .len (e.bA q) n
 |two q x y=>exact .two (e.bA q) (x.same e) (y.same e)⟩
theorem aGu (T:Txt w K mg)(z:Ok P w K mg base 2 "is_name" ["thing"] (aD8 K nameB))(t:Ok P w K mg base 1 "is_one_of" ["thing","texts"] (aLr K)):Ok P w K mg base 3 "is_column" ["thing"] (bA7 (aGz K)):=by
 refine Ok.ofV T.aI3 aF9 (by trivial) (λf p A j s H r Q E l h=>?_)
 obtain⟨v,b,rfl,n,q⟩:=h;obtain⟨k,o,g⟩:=T.aFq;have i:∃u,mg "KINDS"=some u/\RelV (.ref k) u:=⟨_,o,rfl⟩;refine⟨_,(aD (cA (VW.pt (gJ (cP (cG (aM jR (by rfl) T.cB bU (aB (vv 0) (aB (fX (v:=.ty "tuple") (by rfl) T.kO gQ rfl) aA))))) (eZ (aY aBl (aM bB (by rfl) T.eX cY (aB (vv 0) aA)) aC (aW _))))) (aG (aL jO)) aZ) (aG (aL (iZ (aN (z.mono (by decide)) l (by rfl) (aB (aK aX (vv 0) aC (λ_ _=>rfl)) aA)) (iY (aN (t.mono (by decide)) l (by rfl) (aB (aK aX (vv 0) aC (λ_ _=>rfl)) (aB (uL (by rfl) i) aA)))))))),?_⟩;cases n with
 |no h=>exact⟨_,rfl,_,_,rfl,h,_,rfl,eU (q H (Same.refl H))⟩
 |@len a xs ha d=>
  refine⟨_,rfl,_,_,rfl,.tup ha,_,rfl,bZ ?_⟩;refine⟨_,rfl,_,_,rfl,.inr ha,rfl,_,rfl,?_⟩;have e:(!decide (V.int (xs.length:Nat)=V.int 2))=true:=by rw[v8 (by intro y;apply d;have:=V.int.inj y;lia)];rfl
  rw[e];exact eU (q H (Same.refl H))
 |@two a x y ha hx hy=>
  refine⟨_,rfl,_,_,rfl,.tup ha,_,rfl,bZ ?_⟩;refine⟨_,rfl,_,_,rfl,.inr ha,rfl,_,rfl,bZ ?_⟩;refine⟨_,rfl,a,_,0,_,rfl,rfl,ha,at0 _ _,x,rfl,hx,λm c=>⟨_,rfl,?_⟩⟩;cases d:nameB x with
  |false=>rw[d] at q;exact bZ (q m c)
  |true=>rw[d] at q;refine eU ⟨_,rfl,a,_,1,_,rfl,rfl,c.bA ha,at1 _ _ _,y,k,kinds,rfl,hy.same c,g _,rfl,q m c⟩
def kindS (v:V):Str:=if whole v then "number" else "word"
def aLf (K:bFH):Sp:=λvs H Q _=>∃v k,vs=[v,.str k]/\Th K H v/\∀H',Same H H'->Q (.bl (aM9 v && decide (kindS v=k))) H'
theorem aBb (T:Txt w K mg)(j:Ok P w K mg base 2 "is_value" ["thing"] (aD8 K aM9))(i:Ok P w K mg base 2 "kind_of" ["value"] (aO4 K)):Ok P w K mg base 3 "is_value_of" ["thing","kind"] (aLf K):=by
 refine Ok.ofV T.aD1 aCf (by trivial) (λf l A c s H m Q E d h=>?_)
 obtain⟨v,k,rfl,e,q⟩:=h;refine⟨_,(aG (aL (iZ (aN (j.mono (by decide)) d (by rfl) (aB (vv 0) aA)) (iY (cR dW (aN (i.mono (by decide)) d (by rfl) (aB (vv 0) aA)) (vv 1) (aW _)))))),?_⟩;refine⟨_,rfl,v,rfl,e,λg b=>⟨_,rfl,?_⟩⟩;cases a:aM9 v with
 |false=>rw[a] at q;exact bZ (q g b)
 |true=>rw[a] at q;refine eU ⟨_,rfl,v,rfl,e.same b,_,rfl,rfl,?_⟩;have z:decide (V.str (if whole v then "number" else "word")=V.str k)=decide (kindS v=k):=decide_eq_decide.mpr ⟨λy=>V.str.inj y,λy=>congrArg V.str y⟩;rw[z];exact q g b
def at2 (x y z:V)(r:List V):atI (x::y::z::r) 2=some z:=by unfold atI ixN;simp only[v9];rw[if_pos (by lia),if_pos (by lia)];rfl
def aMi {K:bFH}{H:Hp}{x:Str}(h:x.length<=8):Th K H (.str x):=.inl ⟨x,rfl,by lia⟩
def Nm (x:Str):Prop:=nameB (.str x)=true
def aTg {x:Str}(h:nameB (.str x)=true):x.length<=8:=by have h:(uG 1 (.str x) && !inV (.str x) words)=true:=h;rw[bAT] at h;obtain⟨y,e,_,a,_⟩:=aGi h.1;cases e;exact a
def Nm.th {K:bFH}{H:Hp}{x:Str}(h:Nm x):Th K H (.str x):=aMi (aTg h)
inductive cV {α β:Type}(R:α->β->Prop):List α->List β->Prop
 |nil:cV R [] []
 |cons {a b as bs}:R a b->cV R as bs->cV R (a::as) (b::bs)
theorem cV.len {α β:Type}{R:α->β->Prop}{as:List α}{bs:List β}(h:cV R as bs):as.length=bs.length:=by
 induction h with
 |nil=>rfl
 |cons _ _ ih=>rw[v9,v9,ih]
theorem cV.imp {α β:Type}{R S:α->β->Prop}{as:List α}{bs:List β}(h:cV R as bs)(k:∀a b,R a b->S a b):cV S as bs:=by
 induction h with
 |nil=>exact .nil
 |cons r _ ih=>exact .cons (k _ _ r) ih
theorem cV.mem {α β:Type}{R:α->β->Prop}{as:List α}{bs:List β}(h:cV R as bs){a:α}(m:a∈as):∃b,b∈bs/\R a b:=by
 induction h with
 |nil=>cases m
 |cons r _ ih=>
  rcases List.mem_cons.mp m with rfl|m
  ·exact⟨_,j6 ..,r⟩
  ·obtain⟨b,c,q⟩:=ih m;exact⟨b,j8 _ c,q⟩
theorem cV.app {α β:Type}{R:α->β->Prop}{as cs:List α}{bs ds:List β}(h:cV R as bs)(k:cV R cs ds):cV R (as++cs) (bs++ds):=by
 induction h with
 |nil=>exact k
 |cons r _ ih=>exact .cons r ih
def rG {α:Type}(K:bFH)(H:Hp)(R:V->α->Prop)(v:V)(xs:List α):Prop:=∃a vs,v=.ref a/\SqT K H a vs/\cV R vs xs
def rG.same {α:Type}{K:bFH}{H H':Hp}{R S:V->α->Prop}{v:V}{xs:List α}(e:Same H H')(k:∀a b,R a b->S a b)(h:rG K H R v xs):rG K H' S v xs:=by obtain⟨a,f,rfl,c,d⟩:=h;exact⟨a,f,rfl,e.bA c,d.imp k⟩
abbrev Hdr:=List (Str × Str)
def IsC (K:bFH)(H:Hp)(v:V)(c:Str × Str):Prop:=∃p,v=.ref p/\SqT K H p [.str c.1,.str c.2]
def IsC.same {K:bFH}{H H':Hp}{v:V}{c:Str × Str}(e:Same H H')(h:IsC K H v c):IsC K H' v c:=by obtain⟨p,rfl,a⟩:=h;exact⟨p,rfl,e.bA a⟩
def lJ (K:bFH)(H:Hp)(v:V)(hd:Hdr):Prop:=rG K H (IsC K H) v hd
theorem lJ.same {K:bFH}{H H':Hp}{v:V}{hd:Hdr}(e:Same H H')(h:lJ K H v hd):lJ K H' v hd:=rG.same e (λ_ _ q=>q.same e) h
def look (hd:Hdr)(n:Str):Option Str:=(hd.find? λc=>decide (c.1=n)).map (·.2)
theorem aF0 {n k:Str}:∀{hd:Hdr},look hd n=some k->∃i,hd[i]?=some (n,k)/\∀(j:Nat) (c:Str × Str),j<i->hd[j]?=some c->c.1≠n
 |[],h=>by cases h
 |(m,j)::r,h=>by
  unfold look at h;rw[bCK] at h;by_cases e:m=n
  ·rw[t6 (p:=(m,j).1=n) e] at h;have g:j=k:=bAP h;subst e g;exact⟨0,rfl,λj c b=>absurd b (bCZ _)⟩
  ·rw[v8 (p:=(m,j).1=n) e] at h;obtain⟨i,f,l⟩:=aF0 (hd:=r) h;refine⟨i+1,by simpa using f,λa c b d=>?_⟩;cases a with
   |zero=>cases d;exact e
   |succ a=>exact l a c (by lia) (by simpa using d)
theorem cJ {α β:Type}{R:α->β->Prop}:∀{as:List α} {bs:List β},cV R as bs->∀{i:Nat} {a:α},as[i]?=some a->∃b,bs[i]?=some b/\R a b
 |_,_,.cons r t,0,_,h1=>by cases h1;exact⟨_,rfl,r⟩
 |_,_,.cons r t,i+1,a,h1=>by obtain⟨b,e,q⟩:=cJ t (i:=i) (a:=a) (by simpa using h1);exact⟨b,by simpa using e,q⟩
def aUz (K:bFH):Sp:=λvs H Q _=>∃vh n hd k,vs=[vh,.str n]/\lJ K H vh hd/\look hd n=some k/\Q (.str k) H
def aMh (T:Txt w K mg):Ok P w K mg base 1 "kind_in" ["head","name"] (aUz K):=by
 refine Ok.ofV T.aP2 aCa (by trivial) (λf C A g s H G Q E F h=>?_)
 obtain⟨I,n,hd,k,rfl,⟨a,u,rfl,o,m⟩,D,q⟩:=h;refine⟨_,(aD (jT PassesOwn.never rfl (rB (vv 0)) (aO (i:=2) aCa.nd rfl (by trivial)) (aG (cA (aY dW (aK (bR (K:=K)) (vv 2) aC (λ_ _=>rfl)) (vv 1) (aW _)) (aG (aL (aK (bR (K:=K)) (vv 2) aC (λ_ _=>rfl)))) aZ))) (aG eV)),?_⟩;obtain⟨d,r,v⟩:=aF0 D;have y:d<u.length:=by rw[m.len];exact (List.getElem?_eq_some_iff.mp r).1
 refine⟨_,rfl,a,rfl,⟨_,o⟩,aXh (xs:=u) (λi σ b=>b=H/\i<=d/\∃l,σ=[some (.ref a),some (.str n),l]) ⟨rfl,bAG _,_,rfl⟩ (λi σ b _ ⟨e,_⟩=>by rw[e];exact o) ?_ ?_⟩
 ·rintro i x σ b hx ⟨rfl,hi,l,rfl⟩;obtain⟨c,j,p,rfl,t⟩:=cJ m hx;refine⟨_,rfl,p,_,0,_,rfl,rfl,t,at0 _ _,_,rfl,rfl,_,rfl,?_⟩;by_cases e:i=d
  ·subst e;rw[r] at j;cases j;rw[t6 rfl];exact eU ⟨_,rfl,p,_,1,_,rfl,rfl,t,at1 _ _ _,q⟩
  ·have B:=v i c (by lia) j;rw[v8 (by intro z;exact B (V.str.inj z))];exact bZ ⟨rfl,by lia,_,rfl⟩
 ·rintro σ b ⟨rfl,hi,_⟩;lia
theorem aUe {α:Type}{f:α->V}{xs:List α}{i:Nat}{y:V}(h:(xs.map f)[i]?=some y):∃x,xs[i]?=some x/\y=f x:=by
 rw[v6] at h;cases e:xs[i]? with
 |none=>rw[e] at h;cases h
 |some x=>rw[e] at h;cases h;exact⟨x,rfl,rfl⟩
def Good (hd:Hdr):Prop:=(hd.map (·.1)).Nodup/\1<=hd.length/\hd.length<=8
def aFw (K:bFH):Sp:=λvs H Q _=>∃v hd,vs=[v]/\lJ K H v hd/\hd.length<=1000/\∀D H',Same H H'->H' D=some (.lst ((hd.map (·.1)).map V.str))->Q (.ref D) H'
def aFt (T:Txt w K mg):Ok P w K mg base 1 "names_of" ["head"] (aFw K):=by
 refine Ok.ofV T.aNt aKs (by trivial) (λf u A e s H M Q E L h=>?_)
 obtain⟨v,hd,rfl,⟨a,C,rfl,k,g⟩,S,q⟩:=h;refine⟨_,(aG (aL (cL (N:=["column"]) (by trivial) (mO (by decide +kernel)) rfl (rB (vv 0)) (λJ U b G=>⟨(aO (i:=0) (show (["column"]:List Str).Nodup from by decide +kernel) rfl (Or.inl rfl)),iH,(aK (bR (K:=K)) (vv 0) aC (λ_ _=>rfl))⟩)))),?_⟩;have O:=g.len;refine aWa C ((hd.map (·.1)).map V.str) (by rw[j9,j9];lia) [none] yC (small (by lia)) (λR r=>aMw k (λI m=>⟨_,rfl,m⟩) R r) (λi x y o t b R l d r=>?_) rfl λD b d F=>q D b d F;obtain⟨c,z,p,rfl,B⟩:=cJ g o;obtain⟨n,j,rfl⟩:=aUe t;rw[v6,z] at j;cases j;exact⟨_,rfl,p,_,0,_,rfl,rfl,d.bA B,at0 _ _,r b (Same.refl b)⟩
def plc:Hdr->Str->Nat
 |[],_=>0
 |c::r,n=>if c.1=n then 0 else plc r n+1
theorem aFz {n k:Str}:∀{hd:Hdr},look hd n=some k->hd[plc hd n]?=some (n,k)/\∀(j:Nat) (c:Str × Str),j<plc hd n->hd[j]?=some c->c.1≠n
 |[],h=>by cases h
 |(m,q)::r,h=>by
  unfold look at h;rw[bCK] at h;by_cases e:m=n
  ·rw[t6 (p:=(m,q).1=n) e] at h;have f:q=k:=bAP h;subst e f;have z:plc ((m,q)::r) m=0:=if_pos rfl;rw[z];exact⟨rfl,λj c a=>absurd a (bCZ _)⟩
  ·rw[v8 (p:=(m,q).1=n) e] at h;obtain⟨d,g⟩:=aFz (hd:=r) h;have z:plc ((m,q)::r) n=plc r n+1:=if_neg e;rw[z];refine⟨by simpa using d,λj c a b=>?_⟩;cases j with
   |zero=>cases b;exact e
   |succ j=>exact g j c (by lia) (by simpa using b)
def oZ (K:bFH):Sp:=λvs H Q _=>∃vh n hd k,vs=[vh,.str n]/\lJ K H vh hd/\hd.length<=1000/\look hd n=some k/\∀H',Same H H'->Q (.int (plc hd n:Nat)) H'
def aAa (T:Txt w K mg)(z:Ok P w K mg base 1 "names_of" ["head"] (aFw K)):Ok P w K mg base 2 "place_of" ["head","name"] (oZ K):=by
 refine Ok.ofV T.aNg aKr (by trivial) (λf p A a s H B Q E t h=>?_)
 obtain⟨v,n,hd,k,rfl,o,d,r,q⟩:=h;obtain⟨i,u⟩:=aFz r;refine⟨_,(aG (aL (wU PySem.F.plainAttrs_list PySem.F.slot_list_index PySem.F.type_list_index aEw (aN (z.mono (by decide)) t (by rfl) (aB (vv 0) aA)) (aB (vv 1) aA)))),?_⟩;refine⟨_,rfl,v,hd,rfl,o,d,λD y l b=>?_⟩;refine⟨.inl ⟨rfl,_,SqL.of b⟩,_,rfl,D,hd.map (·.1),n,plc hd n,rfl,rfl,SqL.of b,by rw[j9];exact d,by rw[v6,i];rfl,λj m g e=>?_,q y l⟩;rw[v6] at e;obtain⟨c,x,rfl⟩:=Option.map_eq_some_iff.mp e;exact u j c g x
def aO9 {n:Str}{ss:List Str}:inV (.str n) (ss.map V.str)=decide (n∈ss):=by
 unfold inV;rw[bCS,bDY,decide_eq_true_eq];constructor
 ·rintro⟨v,d,e⟩;obtain⟨z,b,rfl⟩:=List.mem_map.mp d;have a:(z == n)=true:=e;have c:z=n:=by simpa using a
  rw[<-c];exact b
 ·intro h;refine⟨.str n,List.mem_map.mpr ⟨n,h,rfl⟩,?_⟩;show (n == n)=true;simp
def aJk {ss:List Str}:(ss.map V.str).all lE=true:=by rw[bBZ];intro v a;obtain⟨z,_,rfl⟩:=List.mem_map.mp a;rfl
def aO3 {z:Str}{j:Int}(h0:0<=j)(h1:j<z.length):∃c,z.cps[j.toNat]?=some c:=
 ⟨_,m8 (by show j.toNat<z.length;lia)⟩
def aHf (x y:Str):(x++y).length=x.length+y.length:=by show (x.cps++y.cps).size=_;rw[Array.size_append];rfl
def at_of {xs:List V}{j:Int}(h0:0<=j)(h1:j<xs.length):∃v,atI xs j=some v/\v∈xs:=by
 have b:j.toNat<xs.length:=by lia
 refine⟨xs[j.toNat],?_,bAV b⟩;have a:atI xs ((j.toNat:Nat):Int)=some xs[j.toNat]:=bV (d7 b);rw[show ((j.toNat:Nat):Int)=j by lia] at a;exact a
def Lets (x:Str):Prop:=∀c∈x.cps,97<=c/\c<=122
def aWm:∀k:_root_.Fin 26,inA ⟨#[97+k.val]⟩=true:=by decide +kernel
def bBi {c:Nat}(h1:97<=c)(h2:c<=122):inA ⟨#[c]⟩=true:=by have:=aWm ⟨c - 97,by lia⟩;simp only at this;rw[show 97+(c - 97)=c by lia] at this;exact this
def allIn_of {x:Str}(h:Lets x):allIn x=true:=by
 unfold allIn;rw[bBZ];intro b g;obtain⟨i,f,rfl⟩:=List.mem_map.mp g;have a:i<x.cps.size:=List.mem_range.mp f;have e:x.cps.getD i 0=x.cps[i]:=by rw[v7,m8 a];rfl
 obtain⟨c,d⟩:=h _ (bEL a);show inA (sgn x i)=true;unfold sgn;rw[e];exact bBi c d
def Lets.add {x y:Str}(d:Lets x)(b:Lets y):Lets (x++y):=λc a=>by
 have a:c∈x.cps++y.cps:=a;rcases Array.mem_append.mp a with h|h
 ·exact d c h
 ·exact b c h
def Lets.one {z:Str}{i c:Nat}(hz:Lets z)(h:z.cps[i]?=some c):Lets ⟨#[c]⟩:=λd hd=>by
 have hd:d∈#[c]:=hd;have e:d=c:=by simpa using hd
 subst e;exact hz _ (bDR h)
def aH6:Lets abc:=by
 have h:(abc.cps.all λc=>decide (97<=c) && decide (c<=122))=true:=by decide +kernel
 intro c a;have:=(Array.all_eq_true_iff_forall_mem.mp h) c a;rw[bAT] at this;exact⟨of_decide_eq_true this.1,of_decide_eq_true this.2⟩
inductive cM:Str->V->Prop
 |num {i}:cM "number" (.int i)
 |wrd {x}:Lets x->x.length<=8->cM "word" (.str x)
def val (c:Nat):Int:=(c:Int) - 96
def num (x:Str):Nat->Int
 |0=>0
 |n+1=>num x n * 27+val (x.cps.getD n 0)
def aWf:∀k:_root_.Fin 26,Builtin.Str.occurrences abc ⟨#[97+k.val]⟩ 0 abc.length 1=[k.val]:=by decide +kernel
def occ {c:Nat}(h1:97<=c)(h2:c<=122):Builtin.Str.occurrences abc ⟨#[c]⟩ 0 abc.length 1=[c - 97]:=by
 have h:=aWf ⟨c - 97,by lia⟩;have e:97+(c - 97)=c:=by lia
 simpa [e] using h
def Vl (v:V):Prop:=(∃i,v=.int i)\/∃x,v=.str x/\Lets x/\x.length<=8
def nm:V->Int
 |.int i=>i
 |.str x=>num x x.cps.size
 |_=>0
def Lets.at {x:Str}(h:Lets x){i:Nat}(hi:i<x.cps.size):97<=x.cps.getD i 0/\x.cps.getD i 0<=122:=by rw[v7,m8 hi];exact h _ (bEL hi)
def Vl.th {K:bFH}{H:Hp}{v:V}(h:Vl v):Th K H v:=by
 rcases h with⟨i,rfl⟩|⟨x,rfl,_,h8⟩
 ·exact .inr (.inl ⟨i,rfl⟩)
 ·exact .inl ⟨x,rfl,by lia⟩
def aPi:Sp:=λvs H Q _=>∃x,vs=[.str x]/\Lets x/\Q (.int (num x x.cps.size)) H
def aOa:Sp:=λvs H Q _=>∃v h,vs=[v,.int h]/\Vl v/\0<h/\Q (.int (nm v % h)) H
def aCv (T:Txt w K mg):Ok P w K mg base 1 "word_number" ["word"] aPi:=by
 refine Ok.ofV T.aDt iU (by trivial) (λf j A b s H m Q E k h=>?_)
 obtain⟨x,rfl,g,q⟩:=h;refine⟨_,(aD (aV (i:=1) iU.nd rfl (by trivial) aC) (aD (jT PassesOwn.never rfl (aUb (vv 0)) (aO (i:=2) iU.nd rfl (by trivial)) (aG (aV (i:=1) iU.nd rfl (by trivial) (bO dX (bO dX (bO yL (vv 1) (uL (by rfl) T.aIm)) (wU PySem.F.plainAttrs_str PySem.F.slot_str_index PySem.F.type_str_index aTa (uL (by rfl) T.aEv) (aB (vv 2) aA))) aC)))) (aG (aL (vv 1))))),?_⟩;refine⟨_,rfl,_,rfl,aXt (x:=x) (λi σ a=>a=H/\∃l,σ=[some (.str x),some (.int (num x i)),l]) ⟨rfl,_,rfl⟩ ?_ ?_⟩
 ·rintro i σ a hi ⟨rfl,l,rfl⟩;obtain⟨d,c⟩:=g.at hi;refine⟨_,rfl,_,_,rfl,rfl,.inr ⟨by decide,by decide⟩,rfl,_,rfl,_,_,_,_,rfl,rfl,occ d c,_,_,rfl,rfl,_,_,rfl,rfl,rfl,some (.str (sgn x i)),?_⟩;have e:num x i * 27+((x.cps.getD i 0 - 97:Nat):Int)+1=num x (i+1):=by show num x i * 27+((x.cps.getD i 0 - 97:Nat):Int)+1=num x i * 27+((x.cps.getD i 0:Int) - 96);lia
  exact congrArg (λn=>[some (V.str x),some (V.int n),some (V.str (sgn x i))]) e
 ·rintro σ a ⟨rfl,l,rfl⟩;exact⟨_,rfl,q⟩
def aV6 (T:Txt w K mg)(l:Ok P w K mg base 1 "is_whole" ["thing"] (pG K))(g:Ok P w K mg base 1 "word_number" ["word"] aPi):Ok P w K mg base 2 "home" ["value","houses"] aOa:=by
 refine Ok.ofV T.aZt aOs (by trivial) (λf j A a s H k Q E b h=>?_)
 obtain⟨v,h,rfl,c,e,q⟩:=h;refine⟨_,(aD (aV (i:=2) aOs.nd rfl (by trivial) (aJa (cG (aN (l.mono (by decide)) b (by rfl) (aB (vv 0) aA))) (vv 0) (aN (g.mono (by decide)) b (by rfl) (aB (vv 0) aA)))) (aG (aL (bO qO (vv 2) (vv 1))))),?_⟩;have d:=c.th (K:=K) (H:=H);rcases c with⟨i,rfl⟩|⟨x,rfl,hx,h8⟩
 ·exact⟨_,rfl,_,rfl,d,_,rfl,eU ⟨_,rfl,_,rfl,_,rfl,_,_,rfl,rfl,e,q⟩⟩
 ·exact⟨_,rfl,_,rfl,d,_,rfl,bZ ⟨_,rfl,_,rfl,hx,_,rfl,_,rfl,_,_,rfl,rfl,e,q⟩⟩
def wL:Sp:=λvs H Q _=>∃i m:Int,vs=[.int i,.int m]/\Q (.bl (decide (0<=i) && decide (i<m))) H
theorem vX (T:Txt w K mg)(g:Ok P w K mg base 1 "is_whole" ["thing"] (pG K)):Ok P w K mg base 2 "is_number_below" ["thing","many"] wL:=by
 refine Ok.ofV T.wW vY (by trivial) (λf d A a s H e Q E c h=>?_)
 obtain⟨i,m,rfl,q⟩:=h;refine⟨_,(aG (aL (iZ (aN (g.mono (by decide)) c (by rfl) (aB (vv 0) aA)) (iY (aTr aA5 aSl aC (vv 0) (vv 1)))))),?_⟩;refine⟨_,rfl,_,rfl,.inr (.inl ⟨i,rfl⟩),_,rfl,eU ?_⟩;refine⟨_,rfl,_,_,rfl,rfl,_,rfl,?_⟩;cases b:decide (0<=i) with
 |false=>rw[b] at q;exact bZ q
 |true=>rw[b] at q;exact eU ⟨_,rfl,_,_,rfl,rfl,q⟩
end
end My
namespace PySem.W
open PySem PySem.Calls PyProof.Rows
def KasT.ev {α:Type}(f:Nat->Nat->Bool):KasT α->α
 |.ret a=>a
 |.ask i j k=>(k (f i j)).ev f
inductive KasT.Low {α:Type}(n:Nat)(P:α->Prop):KasT α->Prop
 |ret {a}:P a->KasT.Low n P (.ret a)
 |ask {i j k}:i<n->j<n->(∀b,KasT.Low n P (k b))->KasT.Low n P (.ask i j k)
theorem KasT.Low.bind {α β:Type}{n:Nat}{P:α->Prop}{R:β->Prop}{t:KasT α}{f:α->KasT β}(h:t.Low n P)(c:∀a,P a->(f a).Low n R):(t.bind f).Low n R:=by
 induction h with
 |ret h=>exact c _ h
 |ask a b _ ih=>exact .ask a b ih
theorem KasT.Low.of {α:Type}{n:Nat}{P:α->Prop}{t:KasT α}(h:t.Low n P)(f:Nat->Nat->Bool):P (t.ev f):=by
 induction h with
 |ret h=>exact h
 |@ask i j k a b _ ih=>exact ih (f i j)
theorem aZh {α:Type}{n:Nat}{P:α->Prop}{f:Nat->Nat->Bool}{cmp:Nat->Nat->(Bool->Shared->Prop)->Shared->Prop}{s:Shared}(c:∀i j C,i<n->j<n->C (f i j) s->cmp i j C s){t:KasT α}(h:t.Low n P){Q:α->Shared->Prop}(q:Q (t.ev f) s):t.kasWp cmp Q s:=by
 induction h with
 |ret h=>exact q
 |@ask i j k a b _ ih=>exact c i j _ a b (ih (f i j) q)
def Pl (n:Nat)(p:Array Nat):Prop:=p.size=n/\∀k,p.getD k 0<n
def Pl.perm {n:Nat}{p q:Array Nat}(h:Pl n p)(e:q.Perm p)(g:0<n):Pl n q:=by
 refine⟨e.size_eq.trans h.1,λk=>?_⟩;by_cases f:k<q.size
 ·have d:q[k]∈p.toList:=(Array.perm_iff_toList_perm.mp e).mem_iff.mp (by simp);obtain⟨j,b,c⟩:=bBC d;have a:j<p.size:=by simpa using b
  have:=h.2 j;rw[v7,m8 a,bBP] at this;rw[v7,m8 f,bBP,<-c];simpa using this
 ·rw[v7,bCG (by lia)];exact g
theorem aHd {n:Nat}{p:Array Nat}(h:Pl n p):∀f m,(kas_asc p f m).Low n (λr=>m<=r/\r<=m+f)
 |0,m=>.ret ⟨j0 _,j0 _⟩
 |f+1,m=>by
  refine .ask (h.2 _) (h.2 _) λc=>?_;by_cases e:c=true
  ·rw[if_pos e];exact .ret ⟨j0 _,by lia⟩
  ·rw[if_neg e];have z:=aHd h f (m+1);generalize kas_asc p f (m+1)=t at z
   induction z with
   |ret q=>exact .ret ⟨by lia,by lia⟩
   |ask a b _ ih=>exact .ask a b ih
theorem wO {n:Nat}(a:0<n):∀(f:Nat) (p:Array Nat) (m q:Nat),Pl n p->(kas_desc f p m q).Low n (λr=>Pl n r.1)
 |0,p,m,q,h=>.ret h
 |f+1,p,m,q,h=>by
  refine .ask (h.2 _) (h.2 _) λc=>?_;by_cases e:c=true
  ·rw[if_pos e];by_cases b:q > 0
   ·rw[if_pos b];exact wO a f _ _ _ (h.perm (mirror_perm _ _ _ _) a)
   ·rw[if_neg b];exact wO a f _ _ _ h
  ·rw[if_neg e];refine .ask (h.2 _) (h.2 _) λd=>?_;by_cases g:d=true
   ·rw[if_pos g];exact .ret h
   ·rw[if_neg g];exact wO a f _ _ _ h
def aFi {n:Nat}(b:0<n){p:Array Nat}(h:Pl n p)(m nrem:Nat):(kas_tail3 m nrem p).Low n (λr=>Pl n r.2):=by have a:Pl n (kas_rev p 0 m):=h.perm (mirror_perm _ _ _ _) b;exact (aHd a _ _).bind λ_ _=>.ret a
def xH {n:Nat}(a:0<n){p:Array Nat}(h:Pl n p)(m nrem:Nat):(kas_descPart m nrem p).Low n (λr=>Pl n r.2):=by
 refine (wO a _ _ _ _ h).bind λr b=>?_;by_cases e:r.2.2 > 0
 ·rw[if_pos e];exact aFi a (b.perm (mirror_perm _ _ _ _) a) _ _
 ·rw[if_neg e];exact aFi a b _ _
def aRq {n:Nat}(b:0<n){p:Array Nat}(h:Pl n p)(f:Nat):(kas_count f p).Low n (λr=>Pl n r.2):=by
 refine (aHd h _ _).bind λm _=>?_;by_cases e:(m == f)=true
 ·rw[if_pos e];exact .ret h
 ·rw[if_neg e];by_cases a:m > 1
  ·rw[if_pos a];refine .ask (h.2 _) (h.2 _) λc=>?_;by_cases d:c=true
   ·rw[if_pos d];exact .ret h
   ·rw[if_neg d];exact xH b (h.perm (mirror_perm _ _ _ _) b) _ _
  ·rw[if_neg a];exact xH b h _ _
theorem zA {n:Nat}{p:Array Nat}(h:Pl n p)(k:Nat):∀f l r,(kas_place p k f l r).Low n (λ_=>True)
 |0,l,r=>.ret trivial
 |f+1,l,r=>by
  unfold kas_place;by_cases e:l ≥ r
  ·rw[if_pos e];exact .ret trivial
  ·rw[if_neg e];refine .ask (h.2 _) (h.2 _) λc=>?_;by_cases a:c=true
   ·rw[if_pos a];exact zA h k f _ _
   ·rw[if_neg a];exact zA h k f _ _
theorem aOx {n:Nat}(a:0<n):∀(f:Nat) (p:Array Nat) (k:Nat),Pl n p->(kas_bin f p k).Low n (Pl n)
 |0,p,k,h=>.ret h
 |f+1,p,k,h=>(zA h k k 0 k).bind λl _=>aOx a f _ _ (h.perm (bubble_perm _ _ _) a)
def aTe {n:Nat}(a:0<n):Pl n (List.toArray (List.range n)):=by
 refine⟨by simp,λk=>?_⟩;rw[v7,bDS];by_cases h:k<n
 ·rw[bCI h];exact h
 ·rw[bAD (by simpa using h)];exact a
def xU {n:Nat}(a:0<n):(kas_sort n).Low n (Pl n):=by
 refine (aRq a (aTe a) n).bind λr b=>?_;by_cases e:r.1<n
 ·rw[if_pos e];exact aOx a _ _ _ b
 ·rw[if_neg e];exact .ret b
def dN (n:Nat)(f:Nat->Nat->Bool):List Nat:=if n<2 then List.range n else ((kas_sort n).ev f).toList
def uC (n:Nat)(f:Nat->Nat->Bool):(dN n f).length=n:=by
 unfold dN;by_cases h:n<2
 ·rw[if_pos h,bAL]
 ·rw[if_neg h,t8];exact ((xU (by lia)).of f).1
def oV {n:Nat}{f:Nat->Nat->Bool}{i:Nat}(h:i∈dN n f):i<n:=by
 unfold dN at h;by_cases b:n<2
 ·rw[if_pos b] at h;exact List.mem_range.mp h
 ·rw[if_neg b] at h;have z:=(xU (n:=n) (by lia)).of f;obtain⟨j,c,e⟩:=bBC h;have a:j<((kas_sort n).ev f).size:=by simpa using c
  have:=z.2 j;rw[v7,m8 a,bBP] at this;rw[<-e];simpa using this
section
variable {prog:Program}{w:World}{A:Around}{E:bFI}{s:Shared}{f:Nat->Nat->Bool}
def qP {a:Addr}{vs:List Value}{n:Nat}{P:PySem.Fin->Shared->Prop}(B:s.heap.get? a=some (seqObj "list" vs.toArray n))(K:vs.length<64)
  (H:2<=vs.length->∀h',(∀b o,b≠a->s.heap.get? b=some o->h'.get? b=some o)->∃κ,(∀(Q:SortKind->Shared->Prop),Q κ { s with heap:=h' }->wpAny (model prog w) A (keyKind' vs.toArray) Q (λ_ _=>False) { s with heap:=h' })/\∀i j (C:Bool->Shared->Prop),i<vs.length->j<vs.length->C (f i j) { s with heap:=h' }->kas_ask prog w A κ vs i j C { s with heap:=h' })
  (h:P (.done (.ret .none)) { s with heap:=sortedHeap s.heap a vs (List.toArray ((dN vs.length f).map λi=>vs.getD i Value.none)) }) :
  wpAny (model prog w) A (Builtin.«list.sort» ⟨[.ref a],[]⟩) P E s:=by
 rw[list_sort_plain];have F:a<s.heap.objs.size:=m9 B;refine c7 (listItems_at B rfl ?_);refine c7 (listUpdate_at B rfl ?_ (by rw[j7,sizeLine_eq];lia) (bAG _));obtain⟨y,v⟩:∃y,(s.heap.update a (Obj.mapSeq λ_=>#[])).get? a=some (seqObj "list" #[] y):=⟨_,get?_update_seq B (λ_=>#[])⟩;refine c7 (seqEpoch_at v rfl ?_);refine c7 (bEI ?_ (by show vs.length<=_;rw[sizeLine_eq];lia));refine c7 (wpAny_newList ?_ (bAG _));refine bAS ?_;have g:(((s.heap.update a (Obj.mapSeq λ_=>#[])).push (seqObj "tuple" vs.toArray 0)).push (seqObj "list" #[] 0)).get? a=some (seqObj "list" #[] y):=by rw[bEM _ _ _ (by rw[size_push',Heap.size_update];exact v5 (bBF F)),bEM _ _ _ (by rw[Heap.size_update];exact v5 F)];exact v
 have m:∀b o,b≠a->s.heap.get? b=some o->(((s.heap.update a (Obj.mapSeq λ_=>(#[]:Array Value))).push (seqObj "tuple" vs.toArray 0)).push (seqObj "list" #[] 0)).get? b=some o:=λb o L q=>by refine d8 _ (d8 _ ?_);rw[Heap.get?_update_ne _ _ _ _ L];exact q
 show wpAny (model prog w) A _ P E { s with heap:=((s.heap.update a (Obj.mapSeq λ_=>#[])).push (seqObj "tuple" vs.toArray 0)).push (seqObj "list" #[] 0) };dsimp only;have l:vs.toArray.size=vs.length:=by simp
 by_cases k:vs.toArray.size<2
 ·rw[if_pos k,if_pos k];refine c7 (d9 ?_);rw[StateT.run_pure];refine c7 (d9 ?_);dsimp only;refine c7 (seqEpoch_at g rfl ?_);refine c7 (listUpdate_at g rfl ?_ (hsz2:=by rw[Array.size_map];show (pairsOf vs).size<=_;rw[pairsOf_size,sizeLine_eq];lia));simp only[bne_self_eq_false,bBB,if_false];refine d9 ?_;have e:((arrOf (SortSt.mk' general' (vs.toArray.zip vs.toArray) #[] 7 none)).map (·.2))=List.toArray ((dN vs.length f).map λi=>vs.getD i Value.none):=by
   show ((vs.toArray.zip vs.toArray).map (·.2))=_;unfold dN;rw[if_pos (by lia)]
   match vs,l,k with
   |[],_,_=>simp
   |[x],_,_=>simp[List.range,List.range.loop]
   |_::_::_,l,k=>rw[l,v9,v9] at k;lia
  rw[e];exact h
 ·rw[if_neg k,if_neg k];have u:2<=vs.length:=by lia
  obtain⟨κ,D,z⟩:=H u _ m;refine c7 (bBN (D (fun G c=>(kas_sort vs.length).kasWp (kas_ask prog w A G vs) (λp c=>c={ s with heap:=((s.heap.update a (Obj.mapSeq λ_=>#[])).push (seqObj "tuple" vs.toArray 0)).push (seqObj "list" #[] 0) }/\p=(kas_sort vs.length).ev f) c) (aZh (n:=vs.length) (P:=Pl vs.length) (f:=f) (cmp:=kas_ask prog w A κ vs) (t:=kas_sort vs.length) z (xU (by lia)) (Q:=λp c=>c={ s with heap:=((s.heap.update a (Obj.mapSeq λ_=>#[])).push (seqObj "tuple" vs.toArray 0)).push (seqObj "list" #[] 0) }/\p=(kas_sort vs.length).ev f) ⟨rfl,rfl⟩)) (fun G R H=>?_) λ_ _ x=>x.elim);refine c7 (bBN (kat_run (Q:=λd c=>∃p:Array Nat,p.size=vs.length/\arrOf d=p.map (kas_item (vs.toArray.zip vs.toArray))/\failedOf d=none/\c={ s with heap:=((s.heap.update a (Obj.mapSeq λ_=>#[])).push (seqObj "tuple" vs.toArray 0)).push (seqObj "list" #[] 0) }/\p=(kas_sort vs.length).ev f)
   rfl u K (λN d c M O I J=>⟨N,M,O,I,J⟩) H) ?_ λ_ _ e=>e)
  rintro⟨⟨⟩,d⟩ c ⟨p,hp,har,hf,rfl,rfl⟩;dsimp only;have r:=kat_snds rfl har;rw[r];refine c7 (seqEpoch_at g rfl ?_);refine c7 (listUpdate_at g rfl ?_ (bAG _) (by rw[j7,j9,t8,hp,sizeLine_eq];lia));rw[hf];simp only[bne_self_eq_false,bBB,if_false];refine d9 ?_;have e:dN vs.length f=((kas_sort vs.length).ev f).toList:=by unfold dN;rw[if_neg (by lia)]
  rw[e] at h;exact h
def aFu {l:Addr}{vs:List Value}{Q:bFI}(r:s.heap.IsList l vs.toArray)(n:vs.length<64)
  (p:2<=vs.length->∀h',(∀b o,s.heap.get? b=some o->h'.get? b=some o)->∃κ,(∀(Q:SortKind->Shared->Prop),Q κ { s with heap:=h' }->wpAny (model prog w) A.in1.in1 (keyKind' vs.toArray) Q (λ_ _=>False) { s with heap:=h' })/\∀i j (C:Bool->Shared->Prop),i<vs.length->j<vs.length->C (f i j) { s with heap:=h' }->kas_ask prog w A.in1.in1 κ vs i j C { s with heap:=h' })
  (h:Q (.ref (s.heap.objs.size+1)) { s with heap:=sortedAll s.heap vs (List.toArray ((dN vs.length f).map λi=>vs.getD i Value.none)) }) :
  wpAny (model prog w) A (call (.builtin "sorted") [.ref l]) Q E s:=by
 refine Calls.call_function_entry kind_sorted plain_sorted entry_sorted (args_sorted1 _) ?_;unfold Builtin.«sorted»;refine c7 (m:=checkCount "sorted" 1 1 _) (d9 ?_);refine c7 (collect_list r ?_ (by rw[sizeLine_eq];lia));refine c7 (wpAny_newList ?_ (by rw[sizeLine_eq];lia));have a:((s.heap.push (seqObj "list" #[] 0)).update s.heap.objs.size (Obj.mapSeq (·++vs.toArray))).objs.size=s.heap.objs.size+1:=by rw[Heap.size_update,size_push']
 have e:(((s.heap.push (seqObj "list" #[] 0)).update s.heap.objs.size (Obj.mapSeq (·++vs.toArray))).push (seqObj "list" vs.toArray 0)).get? (s.heap.objs.size+1)=some (seqObj "list" vs.toArray 0):=by rw[<-a];exact j5 _ rfl
 have d:∀b o,s.heap.get? b=some o->(((s.heap.push (seqObj "list" #[] 0)).update s.heap.objs.size (Obj.mapSeq (·++vs.toArray))).push (seqObj "list" vs.toArray 0)).get? b=some o:=λb o q=>by have c:b<s.heap.objs.size:=m9 q;rw[bEM _ _ _ (by rw[a];exact v5 (bBF c)),Heap.get?_update_ne _ _ _ _ (v5 c),bEM _ _ _ (v5 c)];exact q
 show wpAny _ _ _ _ _ { s with heap:=((s.heap.push (seqObj "list" #[] 0)).update s.heap.objs.size (Obj.mapSeq (·++vs.toArray))).push (seqObj "list" vs.toArray 0) };rw[a];refine c7 (bAS (bAE slot_list_sort ⟨_,e,rfl⟩ entry_list_sort (qP (f:=f) (s:={ s with heap:=((s.heap.push (seqObj "list" #[] 0)).update s.heap.objs.size (Obj.mapSeq (·++vs.toArray))).push (seqObj "list" vs.toArray 0) }) e n (λk h' g=>p k h' λb o q=>g b o (v5 (bBF (m9 q))) (d b o q)) ⟨_,rfl,?_⟩) (args_list_sort _)));exact d9 ⟨_,rfl,h⟩
end
end PySem.W
namespace PySem.W
open PySem PySem.Calls PyProof.Rows
structure Swo (f:Nat->Nat->Bool):Prop where
 asym:∀{i j},f i j=true->f j i=false
 tr:∀{i j k},f j i=false->f k j=false->f k i=false
def Pre (f:Nat->Nat->Bool)(i j:Nat):Prop:=f j i=false/\(f i j=true\/i<j)
section
variable {f:Nat->Nat->Bool}
theorem Swo.lt1 (S:Swo f){i j k:Nat}(a:f i j=true)(b:f k j=false):f i k=true:=by
 cases e:f i k with
 |true=>rfl
 |false=>have:=S.tr (i:=j) (j:=k) (k:=i) b e;rw[a] at this;cases this
theorem Swo.lt2 (S:Swo f){i j k:Nat}(a:f j i=false)(b:f j k=true):f i k=true:=by
 cases e:f i k with
 |true=>rfl
 |false=>have:=S.tr (i:=k) (j:=i) (k:=j) e a;rw[b] at this;cases this
def Pre.trans (S:Swo f){i j k:Nat}(c:Pre f i j)(d:Pre f j k):Pre f i k:=by
 refine⟨S.tr c.1 d.1,?_⟩;rcases c.2 with a|a
 ·exact .inl (S.lt1 a d.1)
 ·rcases d.2 with b|b
  ·exact .inl (S.lt2 c.1 b)
  ·exact .inr (by lia)
def Pre.of (S:Swo f){i j:Nat}(h:f i j=true):Pre f i j:=⟨S.asym h,.inl h⟩
theorem KasT.tZ {α β:Type}{f:Nat->Nat->Bool}{g:α->KasT β}:∀t:KasT α,(t.bind g).ev f=(g (t.ev f)).ev f
 |.ret a=>rfl
 |.ask i j k=>KasT.tZ (k (f i j))
def rF {p:Array Nat}{i j:Nat}(a:j<=p.size)(k:Nat):(kas_rev p i j).getD k 0=if i<=k/\k<j then p.getD (i+j - 1 - k) 0 else p.getD k 0:=by
 unfold kas_rev;rw[v7,getElem?_mirror_all a]
 split <;> rw[v7]
def aY3 {p:Array Nat}{k d:Nat}(c:k<p.size)(hd:d<=k)(x:Nat):(bubble p k d).getD x 0=if x=k - d then p.getD k 0 else if k - d<x/\x<=k then p.getD (x - 1) 0 else p.getD x 0:=by
 rw[v7,getElem?_bubble c d hd,v7,v7,v7];by_cases a:x=k - d
 ·rw[if_pos a,if_pos a]
 ·rw[if_neg a,if_neg a];by_cases b:k - d<x/\x<=k
  ·rw[if_pos b,if_pos b]
  ·rw[if_neg b,if_neg b]
structure Ld (N:Nat)(p:Array Nat)(m:Nat):Prop where
 sz:p.size=N
 lo:∀k,k<m->p.getD k 0<m
 hi:∀k,m<=k->k<N->p.getD k 0=k
 pm:p.Perm (List.range N).toArray
def Asc (f:Nat->Nat->Bool)(p:Array Nat)(m:Nat):Prop:=∀i j,i<j->j<m->Pre f (p.getD i 0) (p.getD j 0)
def Fds (f:Nat->Nat->Bool)(p:Array Nat)(m:Nat):Prop:=∀i j,i<j->j<m->Pre f (p.getD j 0) (p.getD i 0)
def Ld.rev {N m i j:Nat}{p:Array Nat}(L:Ld N p m)(hij:i<=j)(hj:j<=m)(hm:m<=N):Ld N (kas_rev p i j) m:=by
 have a:j<=p.size:=by rw[L.sz];lia
 refine⟨by unfold kas_rev;rw[mirror_size];exact L.sz,λk d=>?_,λk b c=>?_,(mirror_perm _ _ _ _).trans L.pm⟩
 ·rw[rF a];split
  ·exact L.lo _ (by lia)
  ·exact L.lo _ d
 ·rw[rF a,if_neg (by lia)];exact L.hi k b c
theorem aMs (p:Array Nat):∀fu m,m<=(kas_asc p fu m).ev f/\(kas_asc p fu m).ev f<=m+fu/\(∀k,m<=k->k<(kas_asc p fu m).ev f->f (p.getD k 0) (p.getD (k - 1) 0)=false)/\((kas_asc p fu m).ev f<m+fu->f (p.getD ((kas_asc p fu m).ev f) 0) (p.getD ((kas_asc p fu m).ev f - 1) 0)=true)
 |0,m=>⟨j0 _,j0 _,λk b a=>absurd (show k<m from a) (by lia),λh=>absurd (show m<m+0 from h) (by lia)⟩
 |fu+1,m=>by
  show m<=(if f (p.getD m 0) (p.getD (m - 1) 0)=true then KasT.ret m else kas_asc p fu (m+1)).ev f/\(if f (p.getD m 0) (p.getD (m - 1) 0)=true then KasT.ret m else kas_asc p fu (m+1)).ev f<=m+(fu+1)/\(∀k,m<=k->k<(if f (p.getD m 0) (p.getD (m - 1) 0)=true then KasT.ret m else kas_asc p fu (m+1)).ev f->f (p.getD k 0) (p.getD (k - 1) 0)=false)/\((if f (p.getD m 0) (p.getD (m - 1) 0)=true then KasT.ret m else kas_asc p fu (m+1)).ev f<m+(fu+1)->f (p.getD ((if f (p.getD m 0) (p.getD (m - 1) 0)=true then KasT.ret m else kas_asc p fu (m+1)).ev f) 0) (p.getD ((if f (p.getD m 0) (p.getD (m - 1) 0)=true then KasT.ret m else kas_asc p fu (m+1)).ev f - 1) 0)=true);by_cases e:f (p.getD m 0) (p.getD (m - 1) 0)=true
  ·simp only[if_pos e];exact⟨j0 _,bBT _ _,λk b a=>absurd (show k<m from a) (by lia),λ_=>e⟩
  ·simp only[if_neg e];obtain⟨b,a,d,g⟩:=aMs p fu (m+1);refine⟨by lia,by lia,λk i c=>?_,λh=>g (by lia)⟩;by_cases z:k=m
   ·subst z;simpa using e
   ·exact d k (by lia) c
theorem aGg (S:Swo f){N m:Nat}{p:Array Nat}(L:Ld N p m)(o:Asc f p m)(s:1<=m):∀d,m+d<=N->(∀k,m<=k->k<m+d->f (p.getD k 0) (p.getD (k - 1) 0)=false)->Ld N p (m+d)/\Asc f p (m+d)
 |0,_,_=>⟨L,o⟩
 |d+1,hN,h=>by
  obtain⟨n,g⟩:=aGg S L o s d (by lia) λk a b=>h k a (by lia);have e:p.getD (m+d) 0=m+d:=L.hi _ (by lia) (by lia);have q:=n.lo (m+d - 1) (by lia);have l:Pre f (p.getD (m+d - 1) 0) (p.getD (m+d) 0):=⟨h _ (by lia) (by lia),.inr (by lia)⟩;refine⟨⟨L.sz,λk t=>?_,λk a b=>L.hi k (by lia) b,L.pm⟩,λi j c r=>?_⟩
  ·by_cases z:k=m+d
   ·subst z;lia
   ·have:=n.lo k (by lia);lia
  ·by_cases z:j=m+d
   ·subst z;by_cases y:i=m+d - 1
    ·subst y;exact l
    ·exact (g i (m+d - 1) (by lia) (by lia)).trans S l
   ·exact g i j c (by lia)
structure Dsc (f:Nat->Nat->Bool)(N:Nat)(p:Array Nat)(n q:Nat):Prop where
 ld:Ld N p n
 hq:q+1<=n
 hn:n<=N
 a1:∀i j,i<j->j<n - (q+1)->Pre f (p.getD j 0) (p.getD i 0)
 a2:∀i j,i<n - (q+1)->n - (q+1)<=j->j<n->f (p.getD j 0) (p.getD i 0)=true
 a3:∀i j,n - (q+1)<=i->i<j->j<n->f (p.getD i 0) (p.getD j 0)=false/\f (p.getD j 0) (p.getD i 0)=false/\p.getD i 0<p.getD j 0
def sE (p:Array Nat)(n q:Nat):Array Nat:=if q > 0 then kas_rev p (n - (q+1)) n else p
def Dsc.close (S:Swo f){N n q:Nat}{p:Array Nat}(D:Dsc f N p n q):Ld N (sE p n q) n/\Fds f (sE p n q) n/\∀k,k<n->∃k',k'<n/\(sE p n q).getD k 0=p.getD k' 0:=by
 have s:=D.hq;have g:n<=p.size:=by rw[D.ld.sz];exact D.hn
 by_cases h:q > 0
 ·unfold sE;rw[if_pos h];refine⟨D.ld.rev (by lia) (j0 _) D.hn,λi j c d=>?_,λk l=>?_⟩
  ·rw[rF g,rF g];by_cases a:n - (q+1)<=i
   ·rw[if_pos ⟨by lia,d⟩,if_pos ⟨a,by lia⟩];obtain⟨r,m,o⟩:=D.a3 (n - (q+1)+n - 1 - j) (n - (q+1)+n - 1 - i) (by lia) (by lia) (by lia);exact⟨m,.inr o⟩
   ·rw[if_neg (show ¬ (n - (q+1)<=i/\i<n) by lia)];by_cases b:n - (q+1)<=j
    ·rw[if_pos ⟨b,d⟩];exact .of S (D.a2 i _ (by lia) (by lia) (by lia))
    ·rw[if_neg (by lia)];exact D.a1 i j c (by lia)
  ·rw[rF g]
   split
   ·exact⟨_,by lia,rfl⟩
   ·exact⟨k,l,rfl⟩
 ·have e:q=0:=by lia
  subst e;unfold sE;rw[if_neg h];refine⟨D.ld,λi j c d=>?_,λk l=>⟨k,l,rfl⟩⟩;by_cases b:n - 1<=j
  ·exact .of S (D.a2 i j (by lia) (by lia) d)
  ·exact D.a1 i j c (by lia)
def Dsc.down (S:Swo f){N n q:Nat}{p:Array Nat}(D:Dsc f N p n q)(m:n<N)(h:f (p.getD n 0) (p.getD (n - 1) 0)=true):Dsc f N (sE p n q) (n+1) 0:=by
 obtain⟨L,F,R⟩:=D.close S;have x:=D.hq;have e:=D.ld.hi n (j0 _) m;have r:=L.hi n (j0 _) m;rw[e] at h;have l:∀k,k<n->f n (p.getD k 0)=true:=λk v=>by
  by_cases a:n - (q+1)<=k
  ·by_cases z:k=n - 1
   ·subst z;exact h
   ·exact S.lt1 h (D.a3 k (n - 1) a (by lia) (by lia)).1
  ·have:=D.a2 k (n - 1) (by lia) (by lia) (by lia);exact S.lt1 h (S.asym this)
 refine⟨⟨L.sz,λk v=>?_,λk a b=>L.hi k (by lia) b,L.pm⟩,by lia,m,λi j d o=>F i j d (by lia),λi j w o u=>?_,λi j a b c=>by lia⟩
 ·by_cases z:k=n
  ·subst z;lia
  ·have:=L.lo k (by lia);lia
 ·have z:j=n:=by lia
  subst z;obtain⟨s,g,t⟩:=R i (by lia);rw[r,t];exact l s g
def Dsc.flat (S:Swo f){N n q:Nat}{p:Array Nat}(D:Dsc f N p n q)(u:n<N)(o:f (p.getD n 0) (p.getD (n - 1) 0)=false)(g:f (p.getD (n - 1) 0) (p.getD n 0)=false):Dsc f N p (n+1) (q+1):=by
 have x:=D.hq;have e:=D.ld.hi n (j0 _) u;have m:n+1 - (q+1+1)=n - (q+1):=by lia
 rw[e] at o g;refine⟨⟨D.ld.sz,λk w=>?_,λk a b=>D.ld.hi k (by lia) b,D.ld.pm⟩,by lia,u,λi j h d=>D.a1 i j h (by lia),λi j l d v=>?_,λi j a b c=>?_⟩
 ·by_cases z:k=n
  ·subst z;lia
  ·have:=D.ld.lo k (by lia);lia
 ·rw[m] at l d;by_cases z:j=n
  ·subst z;rw[e];exact S.lt2 g (D.a2 i (j - 1) l (by lia) (by lia))
  ·exact D.a2 i j l d (by lia)
 ·rw[m] at a;by_cases z:j=n
  ·subst z;rw[e];have r:=D.ld.lo i b;by_cases y:i=j - 1
   ·subst y;exact⟨g,o,r⟩
   ·obtain⟨s,t,_⟩:=D.a3 i (j - 1) a (by lia) (by lia);exact⟨S.tr g s,S.tr t o,r⟩
  ·exact D.a3 i j a b (by lia)
theorem aA2 (S:Swo f){N:Nat}:∀(fu:Nat) (p:Array Nat) (n q:Nat),Dsc f N p n q->n+fu<=N->Dsc f N ((kas_desc fu p n q).ev f).1 ((kas_desc fu p n q).ev f).2.1 ((kas_desc fu p n q).ev f).2.2
 |0,p,n,q,D,_=>D
 |fu+1,p,n,q,D,h=>by
  show Dsc f N ((if f (p.getD n 0) (p.getD (n - 1) 0)=true then (if q > 0 then kas_desc fu (kas_rev p (n - (q+1)) n) (n+1) 0 else kas_desc fu p (n+1) 0) else .ask (p.getD (n - 1) 0) (p.getD n 0) λd=>if d=true then .ret (p,n,q) else kas_desc fu p (n+1) (q+1)).ev f).1 ((if f (p.getD n 0) (p.getD (n - 1) 0)=true then (if q > 0 then kas_desc fu (kas_rev p (n - (q+1)) n) (n+1) 0 else kas_desc fu p (n+1) 0) else .ask (p.getD (n - 1) 0) (p.getD n 0) λd=>if d=true then .ret (p,n,q) else kas_desc fu p (n+1) (q+1)).ev f).2.1 ((if f (p.getD n 0) (p.getD (n - 1) 0)=true then (if q > 0 then kas_desc fu (kas_rev p (n - (q+1)) n) (n+1) 0 else kas_desc fu p (n+1) 0) else .ask (p.getD (n - 1) 0) (p.getD n 0) λd=>if d=true then .ret (p,n,q) else kas_desc fu p (n+1) (q+1)).ev f).2.2;by_cases e:f (p.getD n 0) (p.getD (n - 1) 0)=true
  ·have a:=D.down S (by lia) e;unfold sE at a;simp only[if_pos e];by_cases c:q > 0
   ·simp only[if_pos c] at a ⊢;exact aA2 S fu _ _ _ a (by lia)
   ·simp only[if_neg c] at a ⊢;exact aA2 S fu _ _ _ a (by lia)
  ·simp only[if_neg e];show Dsc f N ((if f (p.getD (n - 1) 0) (p.getD n 0)=true then KasT.ret (p,n,q) else kas_desc fu p (n+1) (q+1)).ev f).1 ((if f (p.getD (n - 1) 0) (p.getD n 0)=true then KasT.ret (p,n,q) else kas_desc fu p (n+1) (q+1)).ev f).2.1 ((if f (p.getD (n - 1) 0) (p.getD n 0)=true then KasT.ret (p,n,q) else kas_desc fu p (n+1) (q+1)).ev f).2.2;by_cases b:f (p.getD (n - 1) 0) (p.getD n 0)=true
   ·simp only[if_pos b];exact D
   ·simp only[if_neg b];exact aA2 S fu _ _ _ (D.flat S (by lia) (by simpa using e) (by simpa using b)) (by lia)
def aK8 (f:Nat->Nat->Bool)(N:Nat)(r:Nat × Array Nat):Prop:=1<=r.1/\r.1<=N/\Ld N r.2 r.1/\Asc f r.2 r.1
def aJd (S:Swo f){N n:Nat}{p:Array Nat}(L:Ld N p n)(F:Fds f p n)(q:1<=n)(o:n<=N):aK8 f N ((kas_tail3 n N p).ev f):=by
 unfold kas_tail3;rw[KasT.tZ];have a:n<=p.size:=by rw[L.sz];exact o
 have m:Ld N (kas_rev p 0 n) n:=L.rev (bAG _) (j0 _) o;have g:Asc f (kas_rev p 0 n) n:=λi j k e=>by rw[rF a,rF a,if_pos ⟨bAG _,by lia⟩,if_pos ⟨bAG _,e⟩];exact F _ _ (by lia) (by lia)
 obtain⟨r,c,b,_⟩:=aMs (f:=f) (kas_rev p 0 n) (N - n) n;obtain⟨d,hd⟩:∃d,(kas_asc (kas_rev p 0 n) (N - n) n).ev f=n+d:=⟨(kas_asc (kas_rev p 0 n) (N - n) n).ev f - n,by lia⟩;show aK8 f N ((kas_asc (kas_rev p 0 n) (N - n) n).ev f,kas_rev p 0 n);rw[hd] at c b ⊢;obtain⟨h,l⟩:=aGg S m g q d (by lia) b;exact⟨by show 1<=n+d;lia,by show n+d<=N;lia,h,l⟩
def zU (S:Swo f){N n:Nat}{p:Array Nat}(D:Dsc f N p (n+1) 0):aK8 f N ((kas_descPart n N p).ev f):=by
 unfold kas_descPart;rw[KasT.tZ];have a:=aA2 S (N - (n+1)) p (n+1) 0 D (by have:=D.hn;lia);generalize (kas_desc (N - (n+1)) p (n+1) 0).ev f=r at a;obtain⟨L,F,_⟩:=a.close S;have b:=a.hq;unfold sE at L F;by_cases h:r.2.2 > 0
 ·simp only[if_pos h] at L F ⊢;exact aJd S L F (by lia) a.hn
 ·simp only[if_neg h] at L F ⊢;exact aJd S L F (by lia) a.hn
def gU {N k:Nat}(h:k<N):(List.range N).toArray.getD k 0=k:=by rw[v7,bDS,bCI h];rfl
def aTl (S:Swo f){N:Nat}(h1:1<=N):aK8 f N ((kas_count N (List.range N).toArray).ev f):=by
 unfold kas_count;rw[KasT.tZ];have v:Ld N (List.range N).toArray 1:=⟨by simp,λk l=>by rw[gU (by lia)];exact l,λk _ h=>gU h,.refl _⟩;obtain⟨s,G,B,D⟩:=aMs (f:=f) (List.range N).toArray (N - 1) 1;generalize I:(kas_asc (List.range N).toArray (N - 1) 1).ev f=m at s G B D;obtain⟨d,rfl⟩:∃d,m=1+d:=⟨m - 1,by lia⟩;obtain⟨L,A⟩:=aGg S v (λi j g p=>by lia) (j0 _) d (by lia) B;by_cases e:(1+d == N)=true
 ·simp only[if_pos e];exact⟨s,by show 1+d<=N;lia,L,A⟩
 ·simp only[if_neg e];have n:1+d<N:=by
   have:1+d≠N:=by simpa using e
   lia
  have hd:=D (by lia);have E:(List.range N).toArray.getD (1+d) 0=1+d:=gU n;have x:(List.range N).toArray.getD (1+d - 1) 0=d:=by rw[gU (by lia)];lia
  rw[E,x] at hd;by_cases C:1+d > 1
  ·simp only[if_pos C];show aK8 f N ((if f ((List.range N).toArray.getD 0 0) ((List.range N).toArray.getD (1+d - 1) 0)=true then KasT.ret (1+d,(List.range N).toArray) else kas_descPart (1+d) N (kas_rev (List.range N).toArray 0 (1+d))).ev f);rw[x,gU (show 0<N by lia)];by_cases r:f 0 d=true
   ·simp only[if_pos r];exact⟨s,by show 1+d<=N;lia,L,A⟩
   ·simp only[if_neg r];have r:f 0 d=false:=by simpa using r
    have q:Ld N (kas_rev (List.range N).toArray 0 (1+d)) (1+d):=L.rev (bAG _) (j0 _) (by lia);have F:1+d<=(List.range N).toArray.size:=by simp;lia
    have o:∀k,k<1+d->(kas_rev (List.range N).toArray 0 (1+d)).getD k 0=d - k:=λk l=>by rw[rF F,if_pos ⟨bAG _,l⟩,gU (by lia)];lia
    have w:∀i j,i<j->j<1+d->f j i=false:=λi j g p=>by have:=(A i j g p).1;rw[gU (by lia),gU (by lia)] at this;exact this
    have t:∀k,k<1+d->f (1+d) k=true:=λk l=>by
     by_cases z:k=d
     ·subst z;exact hd
     ·refine S.lt1 hd ?_;by_cases y:k=0
      ·subst y;exact r
      ·exact S.tr r (w 0 k (by lia) l)
    refine zU S ⟨⟨q.sz,λk l=>?_,λk a b=>q.hi k (by lia) b,q.pm⟩,by lia,by lia,λi j g p=>?_,λi j H p u=>?_,λi j a b c=>by lia⟩
    ·by_cases z:k=1+d
     ·subst z;rw[q.hi _ (j0 _) n];lia
     ·have:=q.lo k (by lia);lia
    ·rw[o i (by lia),o j (by lia)];exact⟨w _ _ (by lia) (by lia),.inr (by lia)⟩
    ·have z:j=1+d:=by lia
     subst z;rw[q.hi _ (j0 _) n,o i (by lia)];exact t _ (by lia)
  ·have z:d=0:=by lia
   subst z;simp only[if_neg C];refine zU S ⟨⟨v.sz,λk l=>by rw[gU (by lia)];exact l,λk a b=>gU b,v.pm⟩,by lia,by lia,λi j g p=>by lia,λi j H p u=>?_,λi j a b c=>by lia⟩;have z:j=1:=by lia
   have y:i=0:=by lia
   subst z y;rw[gU (by lia),gU (by lia)];exact hd
theorem aDg (S:Swo f){p:Array Nat}{k:Nat}(A:Asc f p k):∀fu l r,l<=r->r<=k->r - l<=fu->(∀i,i<l->f (p.getD k 0) (p.getD i 0)=false)->(∀i,r<=i->i<k->f (p.getD k 0) (p.getD i 0)=true) ->
  (kas_place p k fu l r).ev f<=k/\(∀i,i<(kas_place p k fu l r).ev f->f (p.getD k 0) (p.getD i 0)=false)/\∀i,(kas_place p k fu l r).ev f<=i->i<k->f (p.getD k 0) (p.getD i 0)=true
 |0,l,r,g,d,h3,a,b=>by
  have z:l=r:=by lia
  subst z;exact⟨d,a,b⟩
 |fu+1,l,r,g,d,h3,a,b=>by
  unfold kas_place;by_cases e:l ≥ r
  ·have z:l=r:=by lia
   subst z;simp only[if_pos e];exact⟨d,a,b⟩
  ·simp only[if_neg e];show ((if f (p.getD k 0) (p.getD ((l+r) / 2) 0)=true then kas_place p k fu l ((l+r) / 2) else kas_place p k fu ((l+r) / 2+1) r).ev f<=k/\_);by_cases c:f (p.getD k 0) (p.getD ((l+r) / 2) 0)=true
   ·have n:∀i,(l+r) / 2<=i->i<k->f (p.getD k 0) (p.getD i 0)=true:=λi g d=>by
     by_cases z:i=(l+r) / 2
     ·subst z;exact c
     ·exact S.lt1 c (A _ i (by lia) d).1
    have:=aDg S A fu l ((l+r) / 2) (by lia) (by lia) (by lia) a n;simpa only [KasT.ev,if_pos c] using this
   ·have j:f (p.getD k 0) (p.getD ((l+r) / 2) 0)=false:=by simpa using c
    have m:∀i,i<(l+r) / 2+1->f (p.getD k 0) (p.getD i 0)=false:=λi h=>by
     by_cases z:i=(l+r) / 2
     ·subst z;exact j
     ·exact S.tr (A i _ (by lia) (by lia)).1 j
    have:=aDg S A fu ((l+r) / 2+1) r (by lia) d (by lia) m b;simpa only [KasT.ev,if_neg c] using this
theorem aUo (S:Swo f){N:Nat}:∀(fu:Nat) (p:Array Nat) (k:Nat),Ld N p k->Asc f p k->1<=k->k+fu=N->Ld N ((kas_bin fu p k).ev f) N/\Asc f ((kas_bin fu p k).ev f) N
 |0,p,k,L,A,_,e=>by
  have z:k=N:=by lia
  subst z;exact⟨L,A⟩
 |fu+1,p,k,L,A,h1,e=>by
  unfold kas_bin;rw[KasT.tZ];obtain⟨u,o,r⟩:=aDg S A k 0 k (bAG _) (j0 _) (by lia) (λi h=>by lia) (λi h w=>by lia);generalize (kas_place p k k 0 k).ev f=l at u o r;have v:k<p.size:=by rw[L.sz];lia
  have B:p.getD k 0=k:=L.hi k (j0 _) (by lia);have c:=λx=>aY3 (p:=p) (k:=k) (d:=k - l) v (by lia) x;have t:k - (k - l)=l:=by lia
  rw[t] at c;refine aUo S fu _ (k+1) ⟨by rw[bubble_size];exact L.sz,λx C=>?_,λx a b=>?_,(bubble_perm _ _ _).trans L.pm⟩ (λi j g y=>?_) (by lia) (by lia)
  ·rw[c];by_cases a:x=l
   ·rw[if_pos a];lia
   ·rw[if_neg a];by_cases b:l<x/\x<=k
    ·rw[if_pos b];have:=L.lo (x - 1) (by lia);lia
    ·rw[if_neg b];have:=L.lo x (by lia);lia
  ·rw[c,if_neg (by lia),if_neg (by lia)];exact L.hi x (by lia) b
  ·rw[c i,c j];by_cases s:i=l
   ·rw[if_pos s,if_neg (by lia),if_pos (by lia)];exact .of S (r _ (by lia) (by lia))
   ·rw[if_neg s];by_cases q:l<i/\i<=k
    ·rw[if_pos q,if_neg (by lia),if_pos (by lia)];exact A _ _ (by lia) (by lia)
    ·rw[if_neg q];by_cases m:j=l
     ·rw[if_pos m];have:=L.lo i (by lia);exact⟨o i (by lia),.inr (by lia)⟩
     ·rw[if_neg m];by_cases n:l<j/\j<=k
      ·rw[if_pos n];exact A _ _ (by lia) (by lia)
      ·rw[if_neg n];exact A _ _ g (by lia)
def aXp (S:Swo f){N:Nat}(b:1<=N):Ld N ((kas_sort N).ev f) N/\Asc f ((kas_sort N).ev f) N:=by
 unfold kas_sort;rw[KasT.tZ];have R:=aTl S b;generalize (kas_count N (List.range N).toArray).ev f=r at R;obtain⟨a,c,L,A⟩:=R;by_cases e:r.1<N
 ·simp only[if_pos e];have z:max r.1 1=r.1:=by lia
  rw[z];exact aUo S _ _ _ L A a (by lia)
 ·simp only[if_neg e];have z:r.1=N:=by lia
  rw[z] at L A;exact⟨L,A⟩
end
theorem KasT.Low.same {α:Type}{n:Nat}{P:α->Prop}{t:KasT α}(h:t.Low n P){f g:Nat->Nat->Bool}(e:∀i j,i<n->j<n->f i j=g i j):t.ev f=t.ev g:=by
 induction h with
 |ret h=>rfl
 |@ask i j k a b _ ih=>show (k (f i j)).ev f=(k (g i j)).ev g;rw[e i j a b];exact ih (g i j)
def aMu {n:Nat}{f g:Nat->Nat->Bool}(e:∀i j,i<n->j<n->f i j=g i j):dN n f=dN n g:=by
 unfold dN;by_cases h:n<2
 ·rw[if_pos h,if_pos h]
 ·rw[if_neg h,if_neg h,(xU (by lia)).same e]
def aIp {n:Nat}{f:Nat->Nat->Bool}(S:Swo f):(dN n f).Perm (List.range n)/\(dN n f).Pairwise (Pre f):=by
 unfold dN;by_cases h:n<2
 ·rw[if_pos h];refine⟨.refl _,?_⟩
  match n,h with
  |0,_=>exact .nil
  |1,_=>exact List.pairwise_singleton _ _
 ·rw[if_neg h];obtain⟨L,A⟩:=aXp S (show 1<=n by lia);generalize (kas_sort n).ev f=p at L A;refine⟨?_,List.pairwise_iff_getElem.mpr λi j e d b=>?_⟩
  ·have:=Array.perm_iff_toList_perm.mp L.pm;simpa using this
  ·have c:i<p.size:=by simpa using e
   have a:j<p.size:=by simpa using d
   have:=A i j b (by rw[<-L.sz];exact a);rw[v7,v7,m8 c,m8 a] at this;simpa using this
end PySem.W
namespace PySem.W
open PySem PySem.Calls PyProof.Rows
section
variable {prog:Program}{w:World}{A:Around}{E:bFI}{s:Shared}{f:Nat->Nat->Bool}
end
end PySem.W
namespace PySem.W
open PySem PySem.Calls PyProof.Rows
theorem aBw {pos:Pos}{a b:Int}{c cv:Value}(l:List Value)(h:TriplesOk l)(d:codeAmong pos (l++[rawInt a,rawInt b,c])=some cv):codeAmong pos l=some cv\/cv=c:=by
 fun_induction TriplesOk l with
 |case1=>
  simp only[bD7,codeAmong,rawInt] at d
  split at d
  ·exact .inr (bAP d).symm
  ·cases d
 |case2 a' t b' u x rest ih=>
  simp only[List.cons_append,codeAmong] at d ⊢
  split at d
  ·rename_i e;rw[if_pos e];exact .inl d
  ·rename_i e;rw[if_neg e];exact ih h d
 |case3 l h1 h2=>exact h.elim
section
variable {prog:Program}{w:World}{A:Around}{E:bFI}{s:Shared}
end
end PySem.W
namespace L2
open PySem PySem.Spec PyProof.Rows
def BM (mg:bFK)(base:Heap):Prop:=∃bm ob,mg "__builtins__"=some (.ref bm)/\bm≠builtinsNs/\base.get? bm=some ob/\ob.cls=.type "module"/\ob.dict=some builtinsNs/\ob.data=.plain
section
variable {X:Cx}{bFL:bFJ}{σ:List (Option V)}{H:Hp}{s:Shared}
end
def ExO (a:Addr)(o:Obj):HO:=.ext λh=>h.get? a=some o
def bBa {P:Program}{w:World}{H:Hp}{h:Heap}{a:Addr}{o:Obj}(e:h.get? a=some o):dH P w H h a (ExO a o):=⟨e,⟨o,e⟩,λ_ _ b k=>k o b⟩
def bC7 (g x y:Str)(p0 p1 p2 p3:Pos):Expr:=.Call (.Name g p0) [.Name x p1,.Name y p2] [] p3
structure aZl (qual g x y:Str)(params:Arguments)(bd:Expr)(scope:Scope):Prop where
 body:∃p0 p1 p2 p3,bd=bC7 g x y p0 p1 p2 p3
 bind:∀(cp c':Addr) (pm ctv v:Value),bindArgs (PySem.W.kla_fn "<lambda>" qual params bd scope [(y,cp)] pm (.ref c') ctv) ⟨[v],[]⟩=pure [(x,v)]
 co:scope.isCoroutine=false
 gen:scope.isGenerator=false
 kind:scope.kind=.function
 cell:∀z∈scope.names,z.2≠.cell
 hx:scope.names.lookup x=some .local
 hy:scope.names.lookup y=some .free
 hg:scope.names.lookup g=some .globalImplicit
 dx:(x == ("__debug__":Str))=false
 dy:(y == ("__debug__":Str))=false
 dg:(g == ("__debug__":Str))=false
 cy:(y == ("__classdict__":Str))=false
 xy:(y == x)=false
def xJ (H:Hp)(f:Addr)(qual g x y:Str)(v:V):Prop:=∃(params:Arguments) (body:Expr) (scope:Scope) (cp c':Addr) (pm ctv:Value) (oc ol:Obj) (u:Value) (vs:Array Value) (t:Tok),
 aZl qual g x y params body scope/\H f=some (ExO f (PySem.W.kla_obj "<lambda>" qual params body scope [(y,cp)] pm c' ctv))/\H cp=some (ExO cp ol)/\(∀h:Heap,h.get? cp=some ol->h.IsCell cp (some u))/\RelV v u/\H c'=some (ExO c' oc)/\oc.data=.fields vs/\vs[1]?=some (.str qual t)
def xJ.same {H H':Hp}{f:Addr}{qual g x y:Str}{v:V}(L:xJ H f qual g x y v)(s:Same H H'):xJ H' f qual g x y v:=by obtain⟨o,l,r,n,c,i,a,b,p,u,h,t,S,k,d,e,w,q,m,j⟩:=L;exact⟨o,l,r,n,c,i,a,b,p,u,h,t,S,s _ _ k,s _ _ d,e,w,s _ _ q,m,j⟩
section
variable {X:Cx}
theorem aXs {bFL:bFJ}{σ:St}{H:Hp}{s:Shared}{Q:VK}{f ga:Addr}{qual g x y:Str}{v a:V}{E:Value}{k:Nat}{fd:FuncData}{ps:List Str}{sp:Sp}
  (L:xJ H f qual g x y v) (hr:Room (k+1) X.A) (hm:X.mg g=some (.ref ga)) (hk:PySem.W.keepIn X.K (.ref ga)=true) (hb:Binds X.K fd ps []) (F:lX X.prog X.w X.K X.mg X.base CX0 k ga fd ps sp)
  (I:Inv X bFL σ H s) (r:RelV a E) (h:sp [a,v] H Q E0):wpAny (model X.prog X.w) X.A (call (.ref f) [E]) (EP X bFL σ Q) X.xe s:=by
 obtain⟨pa,bo,sc,T,O,pm,a0,oc,ol,u,vs,t,S,h1,h2,h3,h4,h5,h6,h7⟩:=L;have e1:s.heap.get? f=some _:=(I.hok f _ h1).1;have e2:s.heap.get? T=some ol:=(I.hok T _ h2).1;have e5:s.heap.get? O=some oc:=(I.hok O _ h5).1;refine bET (PySem.W.kla_callFunE hr.depth e1 rfl S.co S.gen rfl ⟨O,oc,vs,t,rfl,e5,h6,h7⟩ ?_);rw[S.bind];refine d9 (bEZ S.cell (λz hz=>?_) (λB M D=>⟨I.nolimit.fresh _ D,?_⟩) S.kind)
 ·have e:z=(x,E):=by simpa using hz
  rw[e];exact S.hx
 have d:∀b o,s.heap.get? b=some o->B.get? b=some o:=λb o e=>D.extBut b o (v5 (m9 e)) (d8 _ e);have Z:s.heap.objs.size<=B.objs.size:=by have:=D.1;rw[bAX] at this;lia
 refine PySem.W.kla_codeExpr ?_;obtain⟨p0,p1,p2,p3,rfl⟩:=S.body;have hG:B.Ns mainGlobals X.mg:=(I.mod.glob.keeps I.bk).keeps d;refine bBS (bDT S.kind S.hg (Calls.loadGlobal_global hG hm ?_) S.dg);refine PySem.W.callWith_K (h₀:=X.base) I.ok.mod.kin hk (bBW (wpAny_Name (wpAny_loadName_local S.kind S.hx M (v:=E) (by simp) ?_) S.dx)) rfl rfl;refine bBW (wpAny_Name (wpAny_loadName_free S.kind S.hy (c:=T) (by simp[newEnv,PySem.W.kla_fn]) (v:=u) (h3 B (d _ _ e2)) ?_ S.cy) S.dy);have G:X.K.In B:=I.kIn.keeps d;refine bEF ⟨G,?_⟩;generalize j:newEnv _ s.heap.objs.size _ _ _ _ _ _ _=env;have p:env.frame=some s.heap.objs.size:=by rw[<-j];rfl
 have Y:env.scope.kind≠.module:=by rw[<-j];show sc.kind≠_;rw[S.kind];decide
 have m:X.base.get? s.heap.objs.size=none:=Heap.get?_none_of_le (bAM I.ok.bsz I.sz);have i:H s.heap.objs.size=none:=I.hok.fresh (j0 _);have E1:aHl X.prog X.w X.K X.mg X.base (X.A.deeper env) (env::X.stack) { s with heap:=B,toks:=s.toks+1 } H:=by
  refine⟨Around.frames_deeper I.ok.frames,I.ok.mod,λb o e=>⟨d _ _ (I.bs b o e).1,(I.bs b o e).2⟩,bAM (bAM I.ok.bsz I.sz) Z,.cons Y p M m ?_,?_,I.hok.kept d,I.bare⟩
  ·exact I.stack.of_keeps λb o e _=>⟨o,d _ _ e,rfl⟩
  ·intro b hb;unfold frs at hb;rw[bCH,p] at hb;rcases List.mem_cons.mp hb with e|hb
   ·rw[e];exact i
   ·exact I.wN b hb
 have r2:Vals [a,v] [E,u]:=.cons r (.cons h4 .nil);have hl:([E,u]++([]:List Value)).length=ps.length:=by rw[bCJ,<-r2.length];exact F.len _ _ _ _ h
 refine bET (bCP (F.run (X.A.deeper env) (env::X.stack) _ H ⟨[E,u],[]⟩ [E,u] [a,v] Q E0 (hr.deeper env) E1 (by simpa using hb { s with heap:=B,toks:=s.toks+1 } [E,u] G hl) r2 h) λrr s' J=>?_);cases rr with
 |error e=>exact J.elim
 |ok fl=>
  cases fl with
  |next=>exact False.elim J
  |brk=>exact False.elim J
  |cont=>exact False.elim J
  |ret uu=>
   obtain⟨v',H',os,N,l,R,P,q⟩:=J;refine I.after (Q:=Q) (u:=uu) (s':=s') ⟨v',H',os,N,?_,R,P,q⟩;have U:∀b o,s.heap.get? b=some o->b≠s.heap.objs.size:=λb o e=>v5 (m9 e);have fe:frs (env::X.stack)=s.heap.objs.size::frs X.stack:=by unfold frs;rw[bCH,p]
   rw[fe] at l;exact⟨λb o e n hb C=>l.keep b o (d b o e) n (λz=>(List.mem_cons.mp z).elim (U b o e) hb) C,λb o e n hb C=>l.slot b o (d b o e) n (j8 _ hb) C,λb o e n C=>l.free b o (d b o e) n C,λb o e C=>l.there b o (d b o e) C,l.tups,l.frzs,l.tbls⟩
def aSp (P:Program)(w:World)(K:bFH)(mg:bFK)(base:Heap)(k:Nat)(te:TE)(t:TA):TE:=fun σ H Q=>te σ H λv H1=>∃(f:Addr) (qual g x y:Str) (z:V) (ps:List Str) (sp:Sp),v=.ref f/\xJ H1 f qual g x y z/\Ok P w K mg base k g ps sp /\
 t σ H1 λvs H2=>∃a,vs=[a]/\xJ H2 f qual g x y z/\sp [a,z] H2 Q E0
theorem aUd {n:Str}{p B:Pos}{e:Expr}{es:List Expr}{te:TE}{t:TA}{k:Nat}(hr:Room (k+1) X.A)(hf:PE X (.Name n p) te)(ha:PA X (e::es) t)
  (he:starEach (e::es) X.env=(false,eval e X.env)::starEach es X.env:=by rfl) (O:(backTo B (starEach es X.env)).any (·.1)=false:=by rfl) :
  PE X (.Call (.Name n p) (e::es) [] B) (aSp X.prog X.w X.K X.mg X.base k te t):=by
 intro c s σ H Q I h;refine bBS (thn (hf c s σ H _ I h) λu T ⟨v,H1,I1,M,Z⟩=>?_);obtain⟨f,d,g,x,y,z,ps,sp,rfl,L,G,q⟩:=Z;obtain rfl:u=Value.ref f:=M;obtain⟨ga,fd,hm,V,hb,F⟩:=G;have J:=ha B c T σ H1 _ I1 q;rw[he] at J ⊢;refine PySem.W.callWith_of (P:=λh=>∃j i o D m l b,h.get? f=some (PySem.W.kla_obj "<lambda>" d j i o D m l b)) (by show ((false || (backTo B (starEach es X.env)).any (·.1)) || false)=false;rw[O];rfl) (λh ⟨j,i,o,D,m,l,b,U⟩=>⟨.frame,.inl rfl,(PySem.W.Looks.ld (part:=none) U).andThen .now⟩) (bEY (thn J λus s2 ⟨Y,H2,E,r,N⟩=>?_));obtain⟨a,rfl,C,q3⟩:=N;cases r with
 |cons r rn=>cases rn;refine⟨?_,aXs C hr hm V hb F E r q3⟩;obtain⟨j,i,o,cp,l,m,b,oc,ol,u,Y,t,S,R,_⟩:=C;exact⟨j,i,o,_,m,l,b,(E.hok f _ R).1⟩
end
section
variable {X:Cx}{bFL:bFJ}{σ:List (Option V)}{H:Hp}{s:Shared}
theorem aQs {i:Arguments}{N:Expr}{scope:Scope}{a6:Pos}{c P:Addr}{J:List (Str × Addr)}{Q:bFI}{E:bFI}
  (I:Inv X bFL σ H s) (x:X.env.code=.ref c) (CH:PySem.W.CodeHd X.base c P) (j:H P=some (.tab (X.env.qual++"<lambda>"))) (aa:BM X.mg X.base) (a1:closureFor scope X.env=pure J) (a9:defaultsOf i X.env=([],[]))
  (q:∀f c' pm ctv H' h' tk,Inv X bFL σ H' { s with heap:=h',toks:=tk }->Same H H'->s.heap.objs.size<=f->H' f=none->H' c'=some (.own P)->H' P=some (.tab (X.env.qual++"<lambda>"))->h'.get? f=some (PySem.W.kla_obj "<lambda>" (X.env.qual++"<lambda>") i N scope J pm c' ctv)->h'.CodeRec (.ref c') (X.env.qual++"<lambda>")->Q (.ref f) { s with heap:=h',toks:=tk }) :
  wpAny (model X.prog X.w) X.A (eval (.Lambda i N scope a6) X.env) Q E s:=by
 obtain⟨ps,hp,S,g⟩:=I.hok P _ j;have hg:s.heap.Ns mainGlobals X.mg:=I.mod.glob.keeps I.bk;obtain⟨T,ob,b1,b2,U,b4,b5,b6⟩:=aa;have bG:T≠mainGlobals:=λz=>by obtain⟨o,es,ep,e,d,_⟩:=I.mod.glob;rw[z,e] at U;cases U;rw[d] at b6;cases b6
 have bP:T≠P:=λz=>by have:=(I.bs T ob U).2;rw[z,j] at this;cases this
 have gP:mainGlobals≠P:=λz=>by obtain⟨o,es,ep,e,d,_⟩:=I.mod.glob;have:=(I.bs _ o e).2;rw[z,j] at this;cases this
 have hB:s.heap.BuiltinsAt X.mg P:=⟨T,ob,b1,b2,bG,bP,I.bk _ _ U,b4,b5,b6⟩;refine PySem.W.kla_eval a9 ?_;cases k:codeAmong a6 ps.toList with
 |some cv=>obtain⟨c',D,O,t,rfl,L,V,a4,Y⟩:=g a6 cv k;refine PySem.W.kla_makeFunctionHit (mg:=X.mg) a1 I.ok.glob hg x (CH.keeps I.bk) hp S k hB λctv h' tk hk G=>?_;exact q _ c' _ ctv H _ tk (I.kept (t':=tk) λb o e=>d8 _ (hk b o e)) (λ_ _ e=>e) G (I.hok.fresh G) L j (j5 _ rfl) ⟨c',D,O,t,rfl,d8 _ (hk _ _ V),a4,Y⟩
 |none=>
  refine PySem.W.kla_makeFunction (mg:=X.mg) a1 I.ok.glob hg x (CH.keeps I.bk) hp S k gP hB λc' ctv h' tk hx h p F K=>?_;obtain⟨c2,D,O,t,e2,l,hd,hv⟩:=F;cases e2;have nc:H c'=none:=I.hok.fresh h;have ab:∀b u,b≠P->H b=some u->∀o,s.heap.get? b=some o->(h'.push (PySem.W.kla_obj "<lambda>" (X.env.qual++"<lambda>") i N scope J ((X.mg "__name__").getD .none) c' ctv)).get? b=some o:=λb u hb _ o e=>d8 _ (hx b o hb e);have C:∀b o,b≠P->s.heap.get? b=some o->(h'.push (PySem.W.kla_obj "<lambda>" (X.env.qual++"<lambda>") i N scope J ((X.mg "__name__").getD .none) c' ctv)).get? b=some o:=λb o hb e=>d8 _ (hx b o hb e);have B:∀b,H b=none->b≠P:=λb e z=>by rw[z,j] at e;cases e
  have a:∀{b u},H b=some u->upd H c' (.own P) b=some u:=λ{b u} e=>by rw[aP (aU e nc)];exact e
  refine q _ c' _ ctv (upd H c' (.own P)) _ tk (I.step (g':=s.gens) (d':=s.drawn) (ch:=[]) (λ_ z=>nomatch z) (λb o _ _ _ e n=>C b o (B b n) e) (λb o _ _ _ e n=>⟨o.slots,C b o (B b n) e⟩) (λb o _ e n=>?_) (λb o _ e=>?_)
   (λb xs e=>a e) (λb o u e=>a e) (λb qs e=>⟨#[],by rw[a e];simp⟩) (λm hm=>?_) (λb u e=>?_) I.bare) (λb o e=>a e) (bDL (bCN h p)) (by rw[aP (bCU p)];exact I.hok.fresh (bDL (bCN h p))) aH (a j) (j5 _ rfl) ⟨c',D,O,t,rfl,d8 _ l,hd,hv⟩
  ·rw[aP (v5 (bAA (m9 e) h))];exact n
  ·by_cases z:b=P
   ·subst z;exact⟨_,d8 _ K⟩
   ·exact⟨o,C b o z e⟩
  ·obtain⟨o,es,ep,e,r⟩:=hm;exact⟨o,es,ep,C _ o (B _ I.free) e,r⟩
  ·by_cases z:b=c'
   ·subst z;rw[aH] at e;cases e;exact⟨D,d8 _ l⟩
   ·rw[aP z] at e;by_cases y:b=P
    ·subst y;rw[j] at e;cases e;refine⟨_,d8 _ K,by rw[bDF];exact TriplesOk_snoc _ _ _ _ S,λM a0 R=>?_⟩;rw[bDF] at R;rcases PySem.W.aBw _ S R with R|rfl
     ·obtain⟨c2,a8,Z,t2,rfl,L,V,a4,Y⟩:=g M a0 R;exact⟨c2,a8,Z,t2,rfl,a L,C _ _ (λz=>by rw[z,j] at L;cases L) V,a4,Y⟩
     ·exact⟨c',D,O,t,rfl,aH,d8 _ l,hd,hv⟩
    ·refine (I.hok b u e).stay (λd v a7 r=>C d v ?_ r) (λd r=>a r) λd xs r=>a r;rcases a7 with rfl|r'
     ·exact y
     ·intro z;rw[z,j] at r';cases r'
open Classical in
noncomputable def aDp (S:Addr->Prop) (h:Heap) (H:Hp):Hp:=λb=>if S b then (h.get? b).map (ExO b) else H b
open Classical in
noncomputable def aFf (S:Addr->Prop) (H Z:Hp):Hp:=λb=>if S b then H b else Z b
def pI {S:Addr->Prop}{h:Heap}{b:Addr}{o:Obj}(a:S b)(e:h.get? b=some o):aDp S h H b=some (ExO b o):=by unfold aDp;rw[if_pos a,e];rfl
def dI {S:Addr->Prop}{h:Heap}{b:Addr}(a:¬ S b):aDp S h H b=H b:=by unfold aDp;rw[if_neg a]
def aCi {S:Addr->Prop}{Z:Hp}{b:Addr}(a:S b):aFf S H Z b=H b:=by unfold aFf;rw[if_pos a]
def iJ {S:Addr->Prop}{Z:Hp}{b:Addr}(a:¬ S b):aFf S H Z b=Z b:=by unfold aFf;rw[if_neg a]
structure aCe (X:Cx)(H:Hp)(h:Heap)(S:Addr->Prop):Prop where
 there:∀b,S b->∃o,h.get? b=some o
 own:∀d a o,¬ S a->H a=some o->H d=some (.own a)->¬ S d
 own2:∀d a o,S a->H a=some o->(∃e,o=.own e)\/(H d=some (.own a)->S d)
 tup:∀d xs,H d=some (.tup xs)->¬ S d
 frz:∀d o u,H d=some (.frz o u)->¬ S d
 tbl:∀d ps,H d=some (.tbl ps)->¬ S d
 base:∀b o,X.base.get? b=some o->¬ S b
 frs:∀b∈frs X.stack,¬ S b
theorem aCe.hok {S:Addr->Prop}(p:aCe X H s.heap S)(I:Inv X bFL σ H s):HOk X.prog X.w (aDp S s.heap H) s.heap:=by
 intro b o e;by_cases a:S b
 ·obtain⟨g,c⟩:=p.there b a;rw[pI a c] at e;cases e;exact bBa c
 ·rw[dI a] at e;refine (I.hok b o e).stay (λ_ _ _ q=>q) (λd q=>?_) λd f q=>?_
  ·rw[dI (p.own d b o a e q)];exact q
  ·rw[dI (p.tup d f q)];exact q
def aCe.env0 {S:Addr->Prop}(p:aCe X H s.heap S)(I:Inv X bFL σ H s):aHl X.prog X.w X.K X.mg X.base X.A X.stack s (aDp S s.heap H):=
 ⟨I.ok.frames,I.ok.mod,λb o e=>⟨(I.bs b o e).1,by rw[dI (p.base b o e)];exact (I.bs b o e).2⟩,bAM I.ok.bsz I.sz,I.stack,λb a=>by rw[dI (p.frs b a)];exact I.wN b a,p.hok I,I.bare⟩
theorem aCe.after {S:Addr->Prop}{Q:VK}{u:Value}{s':Shared}(p:aCe X H s.heap S)(I:Inv X bFL σ H s)(h:CE X.stack X.prog X.w (aDp S s.heap H) s (λv Z=>Same (aDp S s.heap H) Z/\∀H4,Same H H4->Q v H4) u s'):EP X bFL σ Q u s':=by
 obtain⟨v,Z,F,m,i,t,C,A,q⟩:=h;have l:∀b o,S b->s.heap.get? b=some o->s'.heap.get? b=some o:=λb o g e=>(t b _ (A _ _ (pI g e))).1;have f:Same H (aFf S H Z):=λb o e=>by
  by_cases g:S b
  ·rw[aCi g];exact e
  ·rw[iJ g];exact A _ _ (by rw[dI g];exact e)
 refine I.after (Q:=Q) ⟨v,aFf S H Z,F,m,⟨λb o e n g y=>?_,λb o e n g y=>?_,λb o e n y=>?_,i.there,λb r e=>?_,λb o u e=>?_,λb B e=>?_⟩,λb o e=>?_,C,q _ f⟩
 ·by_cases a:S b
  ·exact l b o a e
  ·exact i.keep b o e (by rw[dI a];exact n) g y
 ·exact i.slot b o e (by rw[dI (p.frs b g)];exact n) g y
 ·by_cases a:S b
  ·rw[aCi a];exact n
  ·rw[iJ a];exact i.free b o e (by rw[dI a];exact n) y
 ·rw[iJ (p.tup b r e)];exact i.tups b r (by rw[dI (p.tup b r e)];exact e)
 ·rw[iJ (p.frz b o u e)];exact i.frzs b o u (by rw[dI (p.frz b o u e)];exact e)
 ·rw[iJ (p.tbl b B e)];exact i.tbls b B (by rw[dI (p.tbl b B e)];exact e)
 ·by_cases a:S b
  ·rw[aCi a] at e;rcases p.own2 b b o a e with⟨x,rfl⟩|_
   ·obtain⟨k,j⟩:=p.there b a;exact⟨k,l b k a j⟩
   ·by_cases D:∃x,o=.own x
    ·obtain⟨x,rfl⟩:=D;obtain⟨k,j⟩:=p.there b a;exact⟨k,l b k a j⟩
    ·refine (I.hok b o e).stay (λc u hc E=>?_) (λd q=>f _ _ q) λd r q=>f _ _ q;rcases hc with rfl|hc
     ·exact l _ _ a E
     ·rcases p.own2 c b o a e with z|z
      ·exact absurd z D
      ·exact l _ _ (z hc) E
  ·rw[iJ a] at e;refine (t b o e).stay (λ_ _ _ q=>q) (λd q=>?_) λd r q=>?_
   ·by_cases hd:S d
    ·obtain⟨k,j⟩:=p.there d hd;rw[A _ _ (pI hd j)] at q;cases q
    ·rw[iJ hd];exact q
   ·by_cases hd:S d
    ·obtain⟨k,j⟩:=p.there d hd;rw[A _ _ (pI hd j)] at q;cases q
    ·rw[iJ hd];exact q
end
section
variable {X:Cx}
def aTy (X:Cx)(iy:Nat)(P:Addr)(g x y:Str)(sp:Sp)(t:TA):TE:=fun σ H Q=>t σ H λvs H1=>∃z,σ[iy]?=some (some z)/\H1 P=some (.tab (X.env.qual++"<lambda>")) /\
 ∀f H2,xJ H2 f (X.env.qual++"<lambda>") g x y z->(∀a xs,SqT X.K H1 a xs->SqT X.K H2 a xs)->sp (vs++[.ref f]) H2 (λr H3=>Same H2 H3/\∀H4,Same H1 H4->Q r H4) E0
theorem aLj {fn g x y:Str}{p pos lpos:Pos}{e1 e2 e3:Expr}{te1 te2 te3:TE}{a2:Arguments}{ah:Expr}{scope:Scope}{iy k:Nat}{c P E fa:Addr}{fd:FuncData}{ps:List Str}{sp:Sp}
  (F:lX X.prog X.w X.K X.mg X.base CX0 k fa fd ps sp) (hr:Room k X.A) (al:Gl X fn) (hm:X.mg fn=some (.ref fa)) (hk:PySem.W.keepIn X.K (.ref fa)=true) (hb:Binds X.K fd ps [])
  (h1:PE X e1 te1) (h2:PE X e2 te2) (h3:PE X e3 te3)
  (ad:X.env.code=.ref c) (CH:PySem.W.CodeHd X.base c P) (am:BM X.mg X.base) (S:aZl (X.env.qual++"<lambda>") g x y a2 ah scope) (hN:X.N[iy]?=some y) (a3:X.env.kindOf y=some .cell) (D:X.env.cells.lookup y=some E) (a4:X.fn y=true) (ak:closureFor scope X.env=pure [(y,E)]) (ai:defaultsOf a2 X.env=([],[]))
  (an:(fn == ("__debug__":Str))=false:=by decide)
  (a5:starEach [e1,e2,e3,.Lambda a2 ah scope lpos] X.env=[(false,eval e1 X.env),(false,eval e2 X.env),(false,eval e3 X.env),(false,eval (.Lambda a2 ah scope lpos) X.env)]:=by rfl)
  (ac:starEach [e2,e3,.Lambda a2 ah scope lpos] X.env=[(false,eval e2 X.env),(false,eval e3 X.env),(false,eval (.Lambda a2 ah scope lpos) X.env)]:=by rfl) :
  PE X (.Call (.Name fn p) [e1,e2,e3,.Lambda a2 ah scope lpos] [] pos) (aTy X iy P g x y sp (fG te1 (fG te2 (fG te3 aHp)))):=by
 intro G s σ H Q I h;refine bBS (xQ I al hm ?_ an);refine PySem.W.callWith_K (h₀:=X.base) I.ok.mod.kin hk ?_ (by rw[a5,ac]) (by rw[ac];rfl);rw[a5];refine bBW (thn (h1 G s σ H _ I h) λu1 s1 ⟨v1,H1,I1,r1,q1⟩=>?_);refine bBW (thn (h2 G s1 σ H1 _ I1 q1) λY s2 ⟨v2,H2,I2,r2,q2⟩=>?_);refine bBW (thn (h3 G s2 σ H2 _ I2 q2) λu3 s3 ⟨v3,H3,I3,r3,q3⟩=>?_);obtain⟨z,hz,hP,q⟩:=q3;refine bBW (aQs I3 ad CH hP am ak ai λf c' pm a7 O h' tk v s4 J V a6 l ef R=>bEF ⟨v.kIn,?_⟩);generalize ab:({ s3 with heap:=h',toks:=tk }:Shared)=s4' at v;have hh:s4'.heap=h':=by rw[<-ab]
 rw[<-hh] at ef R;obtain⟨m,hn,hl⟩:=v.loc;obtain⟨u,ru,lk⟩:=hl iy y z hN hz (.inr (.inl a3));have L:s4'.heap.IsCell E (some u):=by
  rcases lk with⟨k',_⟩|⟨_,c2,e,hc⟩
  ·rw[a3] at k';cases k'
  ·rw[D] at e;cases e;exact hc
 obtain⟨ol,M,T⟩:=id L;obtain⟨c2,oc,vs,t,af,ag,ae,hv⟩:=R;cases af;have j:O E=none:=v.freeC y E D;obtain⟨v0,ov,aa,_⟩:=I3.cell y E D;have aj:E<f:=bAA (m9 aa) J;have PO:aCe X O s4'.heap (λb=>b=f\/b=E\/b=P\/O b=some (.own P)):=by
  refine⟨λb hb=>?_,λd a o ha n C hd=>?_,λd a o ha n=>?_,λd xs e hd=>?_,λd o u e hd=>?_,λd ps e hd=>?_,λb o e hd=>?_,λb hb hd=>?_⟩
  ·rcases hb with rfl|rfl|rfl|hb
   ·exact⟨_,ef⟩
   ·exact⟨_,M⟩
   ·obtain⟨ps,e,_⟩:=v.hok _ _ l;exact⟨_,e⟩
   ·exact v.hok _ _ hb
  ·rcases hd with rfl|rfl|rfl|hd
   ·rw[V] at C;cases C
   ·rw[j] at C;cases C
   ·rw[l] at C;cases C
   ·rw[hd] at C;cases C;exact ha (.inr (.inr (.inl rfl)))
  ·rcases ha with rfl|rfl|rfl|ha
   ·rw[V] at n;cases n
   ·rw[j] at n;cases n
   ·exact .inr λq=>.inr (.inr (.inr q))
   ·rw[ha] at n;cases n;exact .inl ⟨_,rfl⟩
  ·rcases hd with rfl|rfl|rfl|hd
   ·rw[V] at e;cases e
   ·rw[j] at e;cases e
   ·rw[l] at e;cases e
   ·rw[hd] at e;cases e
  ·rcases hd with rfl|rfl|rfl|hd
   ·rw[V] at e;cases e
   ·rw[j] at e;cases e
   ·rw[l] at e;cases e
   ·rw[hd] at e;cases e
  ·rcases hd with rfl|rfl|rfl|hd
   ·rw[V] at e;cases e
   ·rw[j] at e;cases e
   ·rw[l] at e;cases e
   ·rw[hd] at e;cases e
  ·have i:=(v.bs b o e).2;have a0:b<X.s₀.heap.objs.size:=bAA (m9 e) I.ok.bsz;rcases hd with rfl|rfl|rfl|hd
   ·exact absurd (bAA a0 (bAM I3.sz J)) (bBO _)
   ·exact absurd (bAA a0 (I.ok.cab y _ a4 D)) (bBO _)
   ·rw[l] at i;cases i
   ·rw[hd] at i;cases i
  ·have i:=v.wN b hb;rcases hd with rfl|rfl|rfl|hd
   ·obtain⟨_,o,n,_⟩:=I3.stack.mem hb;exact absurd (bAA (m9 n) J) (bBO _)
   ·rcases List.mem_cons.mp (v.aG1 _ hb) with e|hb'
    ·obtain⟨o,es,ep,n,C,_⟩:=hn;rw[<-e,M] at n;cases n;rw[T] at C;cases C
    ·obtain⟨_,o,n,_⟩:=I.ok.funs.mem hb';exact absurd (bAA (m9 n) (I.ok.cab y _ a4 D)) (bBO _)
   ·rw[l] at i;cases i
   ·rw[hd] at i;cases i
 have LA:xJ (aDp (λb=>b=f\/b=E\/b=P\/O b=some (.own P)) s4'.heap O) f (X.env.qual++"<lambda>") g x y z:=
  ⟨a2,ah,scope,E,c',pm,a7,oc,ol,u,vs,t,S,pI (.inl rfl) ef,pI (.inr (.inl rfl)) M,λh e=>⟨ol,e,T⟩,ru,pI (.inr (.inr (.inr a6))) ag,ae,hv⟩
 have hq:=q f _ LA λb xs e=>by
  rcases s4.bA e with (e|⟨ob,e⟩)|e
  ·exact .inl (.inl (by rw[dI (PO.tup b xs e)];exact e))
  ·exact .inl (.inr ⟨ob,by rw[dI (PO.frz b ob _ e)];exact e⟩)
  ·exact .inr e
 have r:Vals [v1,v2,v3,.ref f] [u1,Y,u3,.ref f]:=.cons r1 (.cons r2 (.cons r3 (.cons rfl .nil)));have U:([u1,Y,u3,Value.ref f]++([]:List Value)).length=ps.length:=by rw[bCJ,<-r.length];exact F.len _ _ _ _ hq
 refine bET (bCP (F.run X.A X.stack s4' (aDp (λb=>b=f\/b=E\/b=P\/O b=some (.own P)) s4'.heap O) ⟨[u1,Y,u3,.ref f],[]⟩ [u1,Y,u3,.ref f] [v1,v2,v3,.ref f] _ E0 hr (PO.env0 v) (by simpa using hb s4' [u1,Y,u3,.ref f] v.kIn U) r hq) λrr s' B=>?_);cases rr with
 |error e=>exact B.elim
 |ok fl=>
  cases fl with
  |next=>exact False.elim B
  |brk=>exact False.elim B
  |cont=>exact False.elim B
  |ret uu=>obtain⟨v',Z,os,a1,un,a9,a8,sm,qq⟩:=B;exact PO.after v ⟨v',Z,os,a1,un,a9,a8,sm,λH4 s5=>qq H4 (s4.trans s5)⟩
def aRi {n:Str}{p pos:Pos}{e:Expr}{es:List Expr}{te:TE}{t:TA}{P:Program}{w:World}{K:bFH}{mg:bFK}{base:Heap}{k:Nat}(c:Room (k+1) X.A)(i:VE X (.Name n p) te)(g:VA X (e::es) t)(h:dB e=true:=by rfl)(a:(backTo pos (starEach es X.env)).any (·.1)=false:=by rfl)
  (b:X.prog=P:=by rfl) (d:X.w=w:=by rfl) (f:X.K=K:=by rfl) (l:X.mg=mg:=by rfl) (j:X.base=base:=by rfl) :
  VE X (.Call (.Name n p) (e::es) [] pos) (aSp P w K mg base k te t):=by
 subst b d f l j;exact⟨aUd c i.1 g.1 (aR h) a⟩
def aMx {fn g x y:Str}{p pos lpos:Pos}{e1 e2 e3:Expr}{te1 te2 te3:TE}{params:Arguments}{body:Expr}{scope:Scope}{iy k:Nat}{c P cp:Addr}{ps:List Str}{sp:Sp}
  (G:Ok X.prog X.w X.K X.mg X.base k fn ps sp) (F:Room k X.A) (t:Gl X fn) (z:VE X e1 te1) (H:VE X e2 te2) (v:VE X e3 te3)
  (b:X.env.code=.ref c) (D:PySem.W.CodeHd X.base c P) (j:BM X.mg X.base) (S:aZl (X.env.qual++"<lambda>") g x y params body scope) (E:X.N[iy]?=some y) (f:X.env.kindOf y=some .cell) (l:X.env.cells.lookup y=some cp) (i:X.fn y=true) (r:closureFor scope X.env=pure [(y,cp)]) (e:defaultsOf params X.env=([],[]))
  (m:dB e1=true:=by rfl) (a:dB e2=true:=by rfl) (d:dB e3=true:=by rfl) (o:(fn == ("__debug__":Str))=false:=by decide)
  (u:starEach [.Lambda params body scope lpos] X.env=[(false,eval (.Lambda params body scope lpos) X.env)]:=by rfl) :
  VE X (.Call (.Name fn p) [e1,e2,e3,.Lambda params body scope lpos] [] pos) (aTy X iy P g x y sp (fG te1 (fG te2 (fG te3 aHp)))):=by
 obtain⟨C,B,h,s,n,q⟩:=G;refine⟨aLj q F t h s n z.1 H.1 v.1 b D j S E f l i r e o ?_ ?_⟩
 ·rw[aR m,aR a,aR d,u]
 ·rw[aR a,aR d,u]
end
end L2
namespace HT
open PySem PySem.Spec PyProof.Rows L2
section
variable {prog:Program}{w:World}{A:Around}{E:bFI}{s:Shared}
def uF {t B:Addr}{a:Array Value}{vl vu:Value}{lo hi:Option Int}{Q:bFI}(c:IsTup s.heap t a)(p:s.heap.IsSliceOf B vl vu .none)(pl:IsPart vl lo)(C:IsPart vu hi)
  (v:sIx a.size 0 lo=0/\sIx a.size a.size hi=a.size) (h:Q (.ref t) s):wpAny (model prog w) A (getItem (.ref t) (.ref B)) Q E s:=by
 obtain⟨m,f,i,l⟩:=id p;have e:s.TypeIs (.ref B) "slice":=⟨m,f,i⟩;obtain⟨⟨r,x,j,o⟩,q,k,n,hd⟩:=id c;simp only at k hd;subst k hd;unfold getItem
 try with_reducible refine bAS ?_
 first|refine c7 (d9 ?_)|skip
 refine c7 (wpAny_sequenceKey c.typeIs (by decide) ?_);refine c7 (bAH (name:=Str.ofString "__getitem__") c.typeIs bCL
  (bAE bCL c.typeIs entry_tuple_getitem ?_ (args_tuple_getitem _ _)))
 show wpAny _ _ (Builtin.Tuple.tupleItemsOf (.ref t) >>= _) _ _ s;refine c7 (tupleItemsOf_ c ?_);refine c7 (bEG e ?_);rw[if_pos (by decide)];refine c7 (oW p pl C ?_);have b:((((sIx a.size 0 lo:Nat):Int) == 0 && (1:Int) == 1 && (sIx a.size a.size hi - sIx a.size 0 lo) == a.size)=true):=by rw[v.1,v.2];simp
 show wpAny _ _ (if (((sIx a.size 0 lo:Nat):Int) == 0 && (1:Int) == 1 && (sIx a.size a.size hi - sIx a.size 0 lo) == a.size)=true then _ else _) _ _ s;rw[if_pos b];obtain⟨z,g,d,y,u⟩:=s;wp_walk using AutoSeq1.wpAny_loadPart' q;exact⟨_,rfl,d9 h⟩
end
end HT
namespace L2
open PySem PySem.Spec PyProof.Rows
def bDb (K:bFH):V->Option Int->Option Int->Hp->VK->Prop:=λx lo hi H Q=>∃a xs,x=.ref a/\SqT K H a xs/\∀p H',Same H H'->SqT K H' p (pB xs lo hi)->Q (.ref p) H'
def aPl {X:Cx}:SlR X (bDb X.K):=by
 intro i s σ H x v w y g j A Q I m o l t h;obtain⟨a,b,rfl,k,q⟩:=h;by_cases d:HT.sIx b.length 0 g=0/\HT.sIx b.length b.length j=b.length
 ·cases m;obtain⟨f,r,n,C⟩:=I.tuple k;have c:f.toArray.size=b.length:=by rw[j7];exact r.length.symm
  refine⟨"tuple",_,PyProof.Rows.slot_tuple_getitem.lookup,n.typeIs,?_⟩;refine HT.uF n o l t (by rw[c];exact d) ⟨.ref a,H,I,rfl,q a H (Same.refl H) ?_⟩;have e:pB b g j=b:=by unfold pB;rw[d.1,d.2,List.drop_zero,Nat.sub_zero,bCW]
  rw[e];exact k
 ·exact aHt i s σ H _ v w y g j A Q I m o l t ⟨a,b,rfl,k,d,λp z B u=>q p z B (SqT.of u)⟩
end L2
namespace L2
open PySem PySem.Spec PyProof.Rows
section
variable {X:Cx}
end
inductive PH (P:Program)(w:World):List DictEntry->List (Str × Value)->Prop
 |nil:PH P w [] []
 |cons {e:DictEntry} {kv:Str × Value} {es:List DictEntry} {kvs:List (Str × Value)}:(strKind P w).is kv.1 e.key=true->e.hash=(strKind P w).hash kv.1->e.val=kv.2->PH P w es kvs->PH P w (e::es) (kv::kvs)
end L2
namespace PySem
def aCq:typeLookup (.type "list") "keys"=pure none:=am_miss_of_fast (by decide +kernel)
section
variable {prog:Program}{w:World}{A:Around}{E:bFI}{s:Shared}
end
end PySem
namespace PySem
def jK:entryFor table "dict.update.loop"=some Builtin.«dict.update.loop»:=entryFor_of_tree (by kernel_rfl)
def cZ:plainId "dict.update.loop"=true:=by decide +kernel
section
variable {prog:Program}{w:World}{κ:Type}[DecidableEq κ]{knd:KeyKind prog w κ}
def vV (knd:KeyKind prog w κ)(h:Heap)(v:Value)(kv:κ × Value):Prop:=∃p key,v=.ref p/\PyProof.Rows.IsTup h p #[key,kv.2]/\knd.is kv.1 key=true
def vV.at {h h':Heap}{v:Value}{kv:κ × Value}(x:vV knd h v kv)(k:∀p,v=.ref p->∀o,h.get? p=some o->h'.get? p=some o):vV knd h' v kv:=by obtain⟨p,a,rfl,⟨o,b,r⟩,c⟩:=x;exact⟨p,a,rfl,⟨o,k p rfl o b,r⟩,c⟩
theorem aAo {A:Around}{R:Result->Shared->Prop}{I:Addr}{fp wr:List Addr}{n:Nat}{P:Nat->Value->Prop}{St:Nat->Heap->Prop}(W:Walks prog w A.in1 I fp wr n P St)(D:Addr)(hD:D∉fp)
  (kvs:List (κ × Value)) (Y:kvs.length=n) (hb:n<=1000) (hP:∀i v,P i v->∀p,v=.ref p->p∉D::wr) :
  ∀(k i:Nat) (s:Shared) (t:Tok),i+k=n->St i s.heap->s.heap.DictOf knd D (merged [] (kvs.take i))->(∀j v kv,P j v->kvs[j]?=some kv->vV knd s.heap v kv) ->
   (∀h' tk,(∀b o,b∉D::wr->s.heap.get? b=some o->h'.get? b=some o)->h'.DictOf knd D (merged [] kvs)->R (.ok (.ret .none)) { s with heap:=h',toks:=tk }) ->
   codeAny (model prog w) A (.builtin "dict.update.loop" ⟨[.ref D,.ref I,.int (i:Nat) t,.none],[]⟩) R s:=by
 have F:D∉wr:=λq=>hD (W.sub _ q);intro k
 induction k with
 |zero=>
  intro i s t hi J hd hp q;obtain rfl:i=n:=by lia
  refine bBD jK ?_;rw[bBA cZ _];show wpAny _ A.in1 (pyNext (.ref I) >>= _) _ _ _;refine c7 (W.done s _ _ J λh' tk G=>?_);show wpAny _ _ (Builtin.Dict.addKeywords D [] >>= _) _ _ _;refine c7 (d9 (d9 (q h' tk (λb o u e=>G b o (λz=>u (j8 _ z)) e) ?_)));rw[bAW (bE3 Y)] at hd;exact hd.at λo e=>G D o F e
 |succ k ih=>
  intro i s t hi J hd hp q;refine bBD jK ?_;rw[bBA cZ _];show wpAny _ A.in1 (pyNext (.ref I) >>= _) _ _ _;refine c7 (W.item i s _ _ (by lia) J λv c a hv X f=>?_);have T:i<kvs.length:=by lia
  have C:=d7 T;have K:c.DictOf knd D (merged [] (kvs.take i)):=hd.at λo e=>f D o F e;have y:∀j v kv,P j v->kvs[j]?=some kv->vV knd c v kv:=λj v kv pj e=>(hp j v kv pj e).at λp H o L=>f p o (λz=>hP j v pj p H (j8 _ z)) L;obtain⟨p,l,rfl,⟨⟨oc,od,ox,a0⟩,ho,hc,m,Z⟩,hk⟩:=y i v _ hv C;simp only at hc Z;subst hc Z;have U:(merged [] (kvs.take i)).length<=i:=by have:=merged_length_le [] (kvs.take i);rw[bAO] at this;simp only[bCT] at this;lia
  obtain⟨V,g,d,tk,x⟩:=s;have hT:(⟨c,g,d,a,x⟩:Shared).TypeIs (.ref p) "tuple":=⟨_,ho,rfl⟩;have M:∀(Q:List Value->Shared->Prop) (E:bFI),Q [l,kvs[i].2] ⟨c,g,d,a,x⟩->wpAny (model prog w) A.in1 (Builtin.Dict.pairItems (.ref p)) Q E ⟨c,g,d,a,x⟩:=by intro Q E h;unfold Builtin.Dict.pairItems;wp_walk;exact h
  show wpAny _ A.in1 (holding [.ref p] _ >>= _) _ _ ⟨c,g,d,a,x⟩;refine c7 (bAS (c7 (wpAny_tryCatch (M _ _ ?_))));show wpAny _ A.in1 (holding [l,kvs[i].2] (dictSet D l kvs[i].2)) _ _ ⟨c,g,d,a,x⟩;refine bAS (wpAny_dictSet_pairs (s:=⟨c,g,d,a,x⟩) hk K (λh2 B r=>?_) (bAM U (bAM (by lia) (show 1000<=sizeLine by decide))));have e1:merged [] (kvs.take (i+1))=stored (merged [] (kvs.take i)) kvs[i].1 kvs[i].2:=merged_take_succ [] kvs i _ C;rw[<-e1] at B;refine d9 ⟨bCQ cZ _,?_⟩;have N:∀b o,b∉D::wr->V.get? b=some o->h2.get? b=some o:=λb o u e=>by rw[r.2 b (λz=>u (by rw[z];exact j6))];exact f b o (λz=>u (j8 _ z)) e
  refine ih (i+1) _ _ (by lia) (W.frame _ _ _ X λb hb o e=>?_) B (λj v kv pj e=>(y j v kv pj e).at λp' H o L=>?_) λh' O G S=>q h' O (λb o u e=>G b o u (N b o u e)) S
  ·rw[r.2 b (λz=>hD (by rw[<-z];exact hb))];exact e
  ·rw[r.2 p' (λz=>hP j v pj p' H (by rw[z];exact j6))];exact L
end
end PySem
namespace PySem
section
variable {prog:Program}{w:World}{κ:Type}[DecidableEq κ]{knd:KeyKind prog w κ}{A:Around}{E:bFI}{s:Shared}
end
end PySem
namespace PySem
open PySem.Calls PyProof.Rows
section
variable {prog:Program}{w:World}{κ:Type}[DecidableEq κ]{knd:PySem.KeyKind prog w κ}{A:Around}{E:bFI}{s:Shared}
end
end PySem
namespace L2
open PySem PySem.Spec PyProof.Rows
section
variable {X:Cx}
abbrev aUh (K:bFH)(H:Hp):List V->List (Key × V)->Prop:=Paired λu kv=>∃p,u=.ref p/\SqT K H p [kV kv.1,kv.2]
theorem aY1 {bFL:bFJ}{σ:L2.St}{H:Hp}{s:Shared}(I:Inv X bFL σ H s){us:List V}{kvs:List (Key × V)}(h:aUh X.K H us kvs):∀{its:List Value},Vals us its ->
  ∃vs:List (Key × Value),KV kvs vs/\vs.length=its.length/\∀(j:Nat) (v:Value) (kv:Key × Value),its[j]?=some v->vs[j]?=some kv->vV (bL X.prog X.w) s.heap v kv:=by
 induction h with
 |nil=>intro its b;cases b;exact⟨[],.nil,rfl,λj v kv e _=>by simp at e⟩
 |@cons u kv us kvs r t ih=>
  intro its b;cases b with
  |cons q z=>
   obtain⟨p,rfl,n⟩:=r;cases q;obtain⟨x,i,f,y⟩:=I.tuple n;obtain⟨vs,m,g,k⟩:=ih z;obtain⟨a,val,rfl,o,l⟩:=vals2 i;refine⟨(kv.1,val)::vs,.cons ⟨rfl,l⟩ m,by rw[v9,v9,g],λj v c e d=>?_⟩;cases j with
   |zero=>cases e;cases d;exact⟨p,a,rfl,f,aAc o⟩
   |succ j=>exact k j v c (by simpa using e) (by simpa using d)
theorem aCg:∀(kvs acc:List (Key × V)),((acc++kvs).map (·.1)).Nodup->mY acc kvs=acc++kvs
 |[],acc,_=>by simp[mY]
 |kv::r,acc,h=>by
  have a:qX acc kv.1=none:=by
   cases e:qX acc kv.1 with
   |none=>rfl
   |some v=>exfalso;have:=aV4 e;rw[bBI,List.nodup_append] at h;exact h.2.2 _ this _ (by rw[bAN];exact j6 ..) rfl
  show mY (putK acc kv.1 kv.2) r=_;rw[aSh _ a,aCg r _ (by rw[bDA];exact h),bDA];rfl
end
section
variable {X:Cx}{e st:Expr}{te ts:TE}{pos p2:Pos}
end
section
variable {X:Cx}{o i value:Expr}{td ty tv:TE}{pos pos':Pos}
def aAz (a:X.A.units+1<cLine)(d:VE X o td)(hi:VE X i ty)(b:VE X value tv)(c:swapsWith value (some (.Subscript o i pos')) pos.line X.env=pure false:=by rfl):VS X (.Assign [.Subscript o i pos'] value pos) (aYm td ty tv):=⟨aWs a d.1 hi.1 b.1 c⟩
end
def aLs {X:Cx}{pos:Pos}{o i:Expr}{to ti:TE}{t:aXv}(b:VE X o to)(hi:VE X i ti)(a:bAw X t)
  (c:∀v,assign (.Subscript o i pos) X.env v=(do
   let ov <-holding [v] (eval o X.env)
   let iv <-holding [v,ov] (eval i X.env)
   standAt pos
   holding [v,ov,iv] (setItem ov iv v)
   release [v,ov,iv] []):=by intro _;rfl):VG X (.Subscript o i pos) (bB5 to ti t):=⟨aZa b.1 hi.1 a c⟩
def aKw {X:Cx}:MtR X "list.reverse" aKj:=aNw
end L2
namespace PySem
abbrev qU (t:Addr)(i:Nat):Obj:={ cls:=.type "list_iterator",data:=.fields #[.ref t,.int (i:Int) 0] }
section
variable {prog:Program}{w:World}{A:Around}{E:bFI}{s:Shared}
def vH {it t:Addr}{i:Nat}{its:Array Value}{x:Value}{Q:bFI}(a:s.heap.get? it=some (qU t i))(e:s.heap.IsList t its)(g:its[i]?=some x)
  (q:∀h',h'.get? it=some (qU t (i+1))->Heap.SameBut it s.heap h'->Q x { s with heap:=h' }):wpAny (model prog w) A (Builtin.SmallTypes.nextOf (.ref it)) Q E s:=by
 have d:s.TypeIs (.ref it) "list_iterator":=⟨_,a,rfl⟩;obtain⟨h,c,_,f,b⟩:=e;unfold Builtin.SmallTypes.nextOf;refine c7 (bAH (name:=Str.ofString "__next__") d slot_listiter_next (bAE slot_listiter_next d entry_listiter_next ?_ (args_listiter_next _)));refine c7 (m:=field (.ref it) 0) (bAJ a rfl (x:=.ref t) rfl ?_);refine (if_neg (show ¬ ((Value.ref t == Value.none)=true) from v4)).symm ▸ ?_;refine c7 (m:=field (.ref it) 1) (bAJ a rfl (x:=.int i 0) rfl ?_);refine c7 (m:=seqItems? (.ref t)) (bAU c b ?_);simp only[bAR,g];refine c7 (bDI a rfl (by simp) (d9 ⟨x,rfl,d9 (q _ ?_ (bAY ..))⟩));exact bBG _ a rfl
end
section
variable {prog:Program}{w:World}{κ:Type}[DecidableEq κ]{knd:KeyKind prog w κ}
end
end PySem
namespace PySem
section
variable {prog:Program}{w:World}{A:Around}{E:bFI}{s:Shared}
end
section
variable {prog:Program}{w:World}{κ:Type}[DecidableEq κ]{knd:KeyKind prog w κ}{A:Around}{E:bFI}{s:Shared}
end
end PySem
namespace L2
open PySem PySem.Spec PyProof.Rows
section
variable {X:Cx}{a b:Expr}{ta:TA}{pos p pos2 p2:Pos}
end
end L2
namespace PySem
section
variable {prog:Program}{w:World}{A:Around}{E:bFI}{s:Shared}
def tM {it t:Addr}{i:Nat}{its:Array Value}{Q:bFI}(g:A.handled=none)(b:s.heap.get? it=some (qU t i))(h:s.heap.IsList t its)(k:its[i]?=none)
  (q:∀h' e,Heap.ExtBut it s.heap h'->(∃o,h'.get? e=some o/\o.cls=.type "StopIteration")->E (.ref e) { s with heap:=h' }):wpAny (model prog w) A (Builtin.SmallTypes.nextOf (.ref it)) Q E s:=by
 have f:s.TypeIs (.ref it) "list_iterator":=⟨_,b,rfl⟩;obtain⟨l,d,_,j,c⟩:=h;unfold Builtin.SmallTypes.nextOf;refine c7 (bAH (name:=Str.ofString "__next__") f slot_listiter_next (bAE slot_listiter_next f entry_listiter_next ?_ (args_listiter_next _)));refine c7 (m:=field (.ref it) 0) (bAJ b rfl (x:=.ref t) rfl ?_);refine (if_neg (show ¬ ((Value.ref t == Value.none)=true) from v4)).symm ▸ ?_;refine c7 (m:=field (.ref it) 1) (bAJ b rfl (x:=.int i 0) rfl ?_);refine c7 (m:=seqItems? (.ref t)) (bAU d c ?_);simp only[bAR,k];refine c7 (bDD (c7 (bDI b rfl (by simp) ?_)));unfold Builtin.SmallTypes.stopIteration;refine c7 ?_;simp only[newExc,newTuple];refine c7 (bAK ?_ (by size_fits));refine c7 (m:=firstArgMember _ _) (bEC (a:=Value.none) (by first|rfl|(simp only[firstArgMember];rfl)) ?_);refine bAK ?_ (by size_fits);simp only[raiseNew];refine c7 (bEX ?_);first|rw[show A.in1.handled=none from g]|rw[g]
 refine c7 (d9 (bFB ?_));exact q _ _ (((bAY ..).extBut.push _).push _) ⟨_,j5 _ rfl,rfl⟩
def aMb {z TI TO i1 i2 t u:Addr}{k:Nat}{xs ys:Array Value}{x y a b:Value}{Q:Option Value->Shared->Prop}(D:qK z TI TO i1 i2)
  (hz:s.heap.get? z=some (jJ .none TI TO)) (a0:s.heap.get? TI=some (dU (.ref i1) (.ref i2))) (a1:s.heap.get? TO=some (dU a b))
  (g1:s.heap.get? i1=some (qU t k)) (g2:s.heap.get? i2=some (qU u k)) (ht:s.heap.IsList t xs) (hu:s.heap.IsList u ys) (hx:xs[k]?=some x) (hy:ys[k]?=some y)
  (t1:t≠z) (t2:t≠TO) (t3:t≠i1) (t4:t≠i2) (u1:u≠z) (u2:u≠TO) (u3:u≠i1) (u4:u≠i2)
  (q:∀h',h'.get? z=some (jJ (rawInt s.heap.objs.size) TI TO)->h'.get? TO=some (dU x y)->h'.get? i1=some (qU t (k+1))->h'.get? i2=some (qU u (k+1))->h'.get? s.heap.objs.size=some (dU x y) ->
   (∀c o,c≠z->c≠TO->c≠i1->c≠i2->s.heap.get? c=some o->h'.get? c=some o)->Q (some (.ref s.heap.objs.size)) { s with heap:=h' }) :
  wpAny (model prog w) A (pyNext (.ref z)) Q E s:=by
 have W:s.TypeIs (.ref z) "zip":=⟨_,hz,rfl⟩;unfold pyNext;refine c7 (bCB (bAH (name:=Str.ofString "__next__") W F.slot_zip_next (bAE F.slot_zip_next W F.entry_zip_next ?_ (F.args_zip_next_1 _))));refine c7 (m:=field (.ref z) 2) (bAJ hz rfl (x:=.bool false) rfl ?_);refine c7 (m:=field (.ref z) 3) (bAJ hz rfl (x:=.ref TI) rfl (c7 (bAU a0 rfl ?_)));refine c7 (m:=Builtin.SmallTypes.ownedTupleIsFree (.ref z)) ?_;unfold Builtin.SmallTypes.ownedTupleIsFree;refine c7 (bAJ hz rfl (x:=.none) rfl (d9 ?_));simp only[if_true];refine c7 (bDD (c7 (bAJ hz rfl (x:=.ref TO) rfl (c7 (bAI hz (by simp) λV O g=>?_)))));replace O:V.get? z=some (jJ .ellipsis TI TO):=O;refine c7 ?_;simp only[bDX,bD5,bCY,bEH];refine c7 (c7 (bDE ?_));refine c7 (m:=Builtin.SmallTypes.nextOf (.ref i1)) (vH (s:={ s with heap:=V }) (g.extBut _ _ D.h3 g1) (ht.extBut g.extBut t1) hx λZ M j=>d9 ?_);have p:Z.get? TO=some (dU a b):=j.extBut _ _ D.h8 (g.extBut _ _ D.h2 a1);refine c7 (bAU p rfl (c7 (wC (s:={ s with heap:=Z }) p λU i l=>c7 (bE0 (d9 ?_)))));replace i:U.get? TO=some (dU x b):=i;refine c7 (c7 (bDE ?_));refine c7 (m:=Builtin.SmallTypes.nextOf (.ref i2)) (vH (s:={ s with heap:=U }) (l.extBut _ _ D.h9.symm (j.extBut _ _ D.h10.symm (g.extBut _ _ D.h4 g2))) (((hu.extBut g.extBut u1).extBut j.extBut u3).extBut l.extBut u2) hy λY L r=>d9 ?_);have B:Y.get? TO=some (dU x b):=r.extBut _ _ D.h9 i;refine c7 (bAU B rfl (c7 (wC (s:={ s with heap:=Y }) B λd f v=>c7 (bE0 (d9 (d9 ?_))))));replace f:d.get? TO=some (dU x y):=f;refine c7 (bAU f rfl (c7 (bEI ?_)));have n:d.objs.size=s.heap.objs.size:=by rw[v.1,r.1,l.1,j.1,g.1]
 have X:d.get? z=some (jJ .ellipsis TI TO):=v.extBut _ _ D.h2.symm (r.extBut _ _ D.h4.symm (l.extBut _ _ D.h2.symm (j.extBut _ _ D.h3.symm O)));have kp:∀c o,c≠z->c≠TO->c≠i1->c≠i2->s.heap.get? c=some o->d.get? c=some o:=λc o h H N P e=>v.extBut _ _ H (r.extBut _ _ P (l.extBut _ _ H (j.extBut _ _ N (g.extBut _ _ h e))));have K:d.get? i1=some (qU t (k+1)):=v.extBut _ _ D.h8.symm (r.extBut _ _ D.h10 (l.extBut _ _ D.h8.symm M));have J:d.get? i2=some (qU u (k+1)):=v.extBut _ _ D.h9.symm L;refine c7 (m:=Builtin.SmallTypes.ownedTupleHandOut (.ref z) (.ref d.objs.size)) ?_;unfold Builtin.SmallTypes.ownedTupleHandOut;have z6:(d.push (dU x y)).get? z=some (jJ .ellipsis TI TO):=d8 _ X;refine c7 (bAI z6 (by simp) λh7 R T=>?_);replace R:h7.get? z=some (jJ (rawInt d.objs.size) TI TO):=R;refine bAI R (by simp) λI G s8=>?_;replace G:I.get? z=some (jJ (rawInt d.objs.size) TI TO):=G;have C:∀c o,c≠z->d.get? c=some o->I.get? c=some o:=λc o h e=>s8.extBut _ _ h (T.extBut _ _ h (d8 _ e));have S:d.objs.size≠z:=bCU (m9 X);have T8:I.get? d.objs.size=some (dU x y):=s8.extBut _ _ S (T.extBut _ _ S (j5 _ rfl));rw[n] at G T8;refine d9 ⟨_,rfl,d9 ?_⟩;show Q (some (.ref d.objs.size)) _;rw[n];exact q I G (C _ _ D.h2 f) (C _ _ D.h3 K) (C _ _ D.h4 J) T8 λc o h H N P e=>C c o h (kp c o h H N P e)
def aQp {z TI TO i1 i2 t u:Addr}{k:Nat}{xs ys:Array Value}{x a b:Value}{Q:Option Value->Shared->Prop}(hh:A.handled=none)(D:qK z TI TO i1 i2)
  (hz:s.heap.get? z=some (jJ .none TI TO)) (K:s.heap.get? TI=some (dU (.ref i1) (.ref i2))) (N:s.heap.get? TO=some (dU a b))
  (U:s.heap.get? i1=some (qU t k)) (g2:s.heap.get? i2=some (qU u k)) (V:s.heap.IsList t xs) (W:s.heap.IsList u ys) (hx:xs[k]?=some x) (X:ys[k]?=none) (t1:t≠z) (u1:u≠z) (Y:u≠TO) (u3:u≠i1)
  (q:∀h',(∀c o,c≠z->c≠TO->c≠i1->c≠i2->s.heap.get? c=some o->h'.get? c=some o)->Q none { s with heap:=h' }) :
  wpAny (model prog w) A (pyNext (.ref z)) Q E s:=by
 have B:s.TypeIs (.ref z) "zip":=⟨_,hz,rfl⟩;unfold pyNext;refine c7 (bCB (bAH (name:=Str.ofString "__next__") B F.slot_zip_next (bAE F.slot_zip_next B F.entry_zip_next ?_ (F.args_zip_next_1 _))));refine c7 (m:=field (.ref z) 2) (bAJ hz rfl (x:=.bool false) rfl ?_);refine c7 (m:=field (.ref z) 3) (bAJ hz rfl (x:=.ref TI) rfl (c7 (bAU K rfl ?_)));refine c7 (m:=Builtin.SmallTypes.ownedTupleIsFree (.ref z)) ?_;unfold Builtin.SmallTypes.ownedTupleIsFree;refine c7 (bAJ hz rfl (x:=.none) rfl (d9 ?_));simp only[if_true];refine c7 (bDD (c7 (bAJ hz rfl (x:=.ref TO) rfl (c7 (bAI hz (by simp) λy p f=>?_)))));replace p:y.get? z=some (jJ .ellipsis TI TO):=p;refine c7 ?_;simp only[bDX,bD5,bCY,bEH];refine c7 (c7 (bDE ?_));refine c7 (m:=Builtin.SmallTypes.nextOf (.ref i1)) (vH (s:={ s with heap:=y }) (f.extBut _ _ D.h3 U) (V.extBut f.extBut t1) hx λG J i=>d9 ?_);have h:G.get? TO=some (dU a b):=i.extBut _ _ D.h8 (f.extBut _ _ D.h2 N);refine c7 (bAU h rfl (c7 (wC (s:={ s with heap:=G }) h λr j l=>c7 (bE0 (d9 ?_)))));replace j:r.get? TO=some (dU x b):=j;refine c7 (c7 (bDE ?_));refine c7 (m:=Builtin.SmallTypes.nextOf (.ref i2)) (tM (s:={ s with heap:=r }) hh (l.extBut _ _ D.h9.symm (i.extBut _ _ D.h10.symm (f.extBut _ _ D.h4 g2))) (((W.extBut f.extBut u1).extBut i.extBut u3).extBut l.extBut Y) X λL e H S=>?_);obtain⟨R,d,g⟩:=S;have v:L.get? z=some (jJ .ellipsis TI TO):=H _ _ D.h4.symm (l.extBut _ _ D.h2.symm (i.extBut _ _ D.h3.symm p));have n:e≠z:=λx=>by subst x;rw[v] at d;cases d;simp at g
 refine bAI v (by simp) λZ _ I=>?_;refine c7 (bCX (T:="StopIteration") (b:=true) ⟨R,I.extBut _ _ n d,g⟩ isSubtype_stop ?_);exact d9 (q _ λc o C P M O x=>I.extBut _ _ C (H _ _ O (l.extBut _ _ P (i.extBut _ _ M (f.extBut _ _ C x)))))
def aNl {z TI TO L i2 t:Addr}{k:Nat}{xs:Array Value}{a b:Value}{Q:Option Value->Shared->Prop}(I:A.handled=none)(D:qK z TI TO L i2)
  (hz:s.heap.get? z=some (jJ .none TI TO)) (y:s.heap.get? TI=some (dU (.ref L) (.ref i2))) (hTO:s.heap.get? TO=some (dU a b))
  (J:s.heap.get? L=some (qU t k)) (K:s.heap.IsList t xs) (M:xs[k]?=none) (N:t≠z)
  (q:∀h',(∀c o,c≠z->c≠TO->c≠L->c≠i2->s.heap.get? c=some o->h'.get? c=some o)->Q none { s with heap:=h' }) :
  wpAny (model prog w) A (pyNext (.ref z)) Q E s:=by
 have l:s.TypeIs (.ref z) "zip":=⟨_,hz,rfl⟩;unfold pyNext;refine c7 (bCB (bAH (name:=Str.ofString "__next__") l F.slot_zip_next (bAE F.slot_zip_next l F.entry_zip_next ?_ (F.args_zip_next_1 _))));refine c7 (m:=field (.ref z) 2) (bAJ hz rfl (x:=.bool false) rfl ?_);refine c7 (m:=field (.ref z) 3) (bAJ hz rfl (x:=.ref TI) rfl (c7 (bAU y rfl ?_)));refine c7 (m:=Builtin.SmallTypes.ownedTupleIsFree (.ref z)) ?_;unfold Builtin.SmallTypes.ownedTupleIsFree;refine c7 (bAJ hz rfl (x:=.none) rfl (d9 ?_));simp only[if_true];refine c7 (bDD (c7 (bAJ hz rfl (x:=.ref TO) rfl (c7 (bAI hz (by simp) λj g h=>?_)))));replace g:j.get? z=some (jJ .ellipsis TI TO):=g;refine c7 ?_;simp only[bDX,bD5,bCY,bEH];refine c7 (c7 (bDE ?_));refine c7 (m:=Builtin.SmallTypes.nextOf (.ref L)) (tM (s:={ s with heap:=j }) I (h.extBut _ _ D.h3 J) (K.extBut h.extBut N) M λv e r G=>?_);obtain⟨C,d,f⟩:=G;have n:v.get? z=some (jJ .ellipsis TI TO):=r _ _ D.h3.symm g;have i:e≠z:=λx=>by subst x;rw[n] at d;cases d;simp at f
 refine bAI n (by simp) λH _ p=>?_;refine c7 (bCX (T:="StopIteration") (b:=true) ⟨C,p.extBut _ _ i d,f⟩ isSubtype_stop ?_);exact d9 (q _ λc o u _ B _ x=>p.extBut _ _ u (r _ _ B (h.extBut _ _ u x)))
abbrev zM1 (h:Heap)(t:Addr):Heap:=h.push (qU t 0)
abbrev zM2 (h:Heap)(t u:Addr):Heap:=(zM1 h t).push (qU u 0)
abbrev zM3 (h:Heap)(t u:Addr):Heap:=(zM2 h t u).push (dU (.ref h.objs.size) (.ref (zM1 h t).objs.size))
abbrev zM4 (h:Heap)(t u:Addr):Heap:=(zM3 h t u).push (dU .none .none)
abbrev zM5 (h:Heap)(t u:Addr):Heap:=(zM4 h t u).push (jJ .none (zM2 h t u).objs.size (zM3 h t u).objs.size)
def aIi (t u:Addr)(xs ys:Array Value):Meets (Builtin.«zip.__new__» ⟨[.type "zip",.ref t,.ref u],[]⟩)
  (λ_ R s=>s.heap.IsList t xs/\s.heap.IsList u ys/\R (.ok (.ret (.ref (zM4 s.heap t u).objs.size))) { s with heap:=zM5 s.heap t u }):=
 .of_wp λc w A R s h=>by
  obtain⟨f,g,d,b,a⟩:=s;obtain⟨k,m,h⟩:=h;have e:=sub_zip;have i:Heap.IsList (Shared.heap ⟨f,g,d,b,a⟩) t xs:=k;have j:Heap.IsList (Shared.heap ⟨f.push { cls:=.type "list_iterator",data:=.fields #[.ref t,.int 0 0] },g,d,b,a⟩) u ys:=by obtain⟨o,l,r⟩:=m;exact⟨o,d8 _ l,r⟩
  wp_walk using bCD i,bCD j;exact⟨_,rfl,h⟩
def aM8 {t u:Addr}{xs ys:Array Value}{Q:bFI}(c:s.heap.IsList t xs)(b:s.heap.IsList u ys)(q:Q (.ref (zM4 s.heap t u).objs.size) { s with heap:=zM5 s.heap t u }) :
  wpAny (model prog w) A (call (.type "zip") [.ref t,.ref u]) Q E s:=by
 refine callType_new F.called_zip (by decide) (F.typeCall_zip_2 _ _) (F.newCall_zip_2 _ _) (λa=>F.args_object_init_3 a _ _) F.entry_zip_new (aIi t u xs ys) ⟨c,b,?_⟩;exact⟨⟨_,j5 _ rfl,rfl⟩,q⟩
end
end PySem
namespace L2
open PySem PySem.Spec PyProof.Rows
section
variable {X:Cx}{bFL:bFJ}{σ:St}{H:Hp}{s:Shared}
end
def Itw (K:bFH)(t u:Addr)(xs ys:List V):It:=
 ⟨λi H=>SqL K H t xs/\SqL K H u ys/\i<xs.length/\i<ys.length,λi H v H'=>∃T a b,H T=none/\v=.ref T/\H'=upd H T (.tup [a,b])/\xs[i]?=some a/\ys[i]?=some b,λi H=>SqL K H t xs/\SqL K H u ys/\i=ys.length/\ys.length<=xs.length⟩
def wtn (z TI TO i1 i2 t u:Addr)(i:Nat)(h:Heap):Prop:=
 h.get? z=some (jJ .none TI TO)/\h.get? TI=some (dU (.ref i1) (.ref i2))/\(∃a b,h.get? TO=some (dU a b))/\h.get? i1=some (qU t i)/\h.get? i2=some (qU u i)
def aM0 {P:Program}{w:World}{K:bFH}{elts:List Expr}{kt:Nat}{pos:Pos}{z TI TO J L t u:Addr}{xs ys:List V}(D:qK z TI TO J L) :
  Turn P w K (.Tuple elts kt pos) (Itw K t u xs ys) [z,TI,TO,J,L] z (wtn z TI TO J L t u) where
 mem:=by simp
 obj:=λi h m b d=>by
  obtain⟨A,j,⟨a,c,n⟩,r,B⟩:=m;simp only[bAC,w6,or_false] at d;rcases d with rfl|rfl|rfl|rfl|rfl
  ·exact⟨_,A,λv z=>by cases (show Data.fields _=Data.cell v from z)⟩
  ·exact⟨_,j,λv z=>by cases (show Data.seq _ _=Data.cell v from z)⟩
  ·exact⟨_,n,λv z=>by cases (show Data.seq _ _=Data.cell v from z)⟩
  ·exact⟨_,r,λv z=>by cases (show Data.fields _=Data.cell v from z)⟩
  ·exact⟨_,B,λv z=>by cases (show Data.fields _=Data.cell v from z)⟩
 keep:=λi h f m k=>by obtain⟨A,j,⟨a,c,n⟩,r,B⟩:=m;exact⟨k z (by simp) _ A,k TI (by simp) _ j,⟨a,c,k TO (by simp) _ n⟩,k J (by simp) _ r,k L (by simp) _ B⟩
 item:=by
  intro X S hw Z hc i p s σ H E I g m hg;subst S hw Z;obtain⟨A,j,⟨a0,c0,n⟩,r,B⟩:=m;obtain⟨q,l,l1,l2⟩:=hg;obtain⟨its,U,O,hz⟩:=I.list q;obtain⟨a6,F,Y,W⟩:=I.list l;obtain⟨x,R,rx⟩:=U.get (d7 l1);obtain⟨y,hy,ry⟩:=F.get (d7 l2);have G:=g z (by simp);have Q:=g TO (by simp);have N:=g J (by simp);have f2:=g L (by simp);refine aMb D A j n r B O.isList Y.isList (by simpa using R) (by simpa using hy) (I.jY q G) (I.jY q Q) (I.jY q N) (I.jY q f2)
   (I.jY l G) (I.jY l Q) (I.jY l N) (I.jY l f2) λf a1 a2 a3 a4 a5 C=>?_
  refine⟨_,rfl,?_⟩;have fT:H s.heap.objs.size=none:=I.hok.fresh (j0 _);have I1:Inv X p σ (upd H s.heap.objs.size (.tup [xs[i],ys[i]])) { s with heap:=f }:=by
   refine I.drawn (ch:=[z,TO,J,L]) (its:=[x,y]) (λb d=>?_) (λb o d e=>?_) (j0 _) (.cons rx (.cons ry .nil)) (small (by simp)) (.of a5 rfl ⟨_,a5,rfl,_,rfl⟩) (λb d=>?_)
   ·refine g b ?_;simp only[bAC,w6,or_false] at d ⊢;rcases d with h|h|h|h <;> simp[h]
   ·simp only[bAC,w6,or_false,not_or] at d;exact C b o d.1 d.2.1 d.2.2.1 d.2.2.2 e
   ·simp only[bAC,w6,or_false] at d;rcases d with rfl|rfl|rfl|rfl
    ·exact⟨_,a1⟩
    ·exact⟨_,a2⟩
    ·exact⟨_,a3⟩
    ·exact⟨_,a4⟩
  have nT:∀b∈[z,TI,TO,J,L],b≠s.heap.objs.size:=λb d=>by
   have e:∃o,s.heap.get? b=some o:=by
    simp only[bAC,w6,or_false] at d;rcases d with rfl|rfl|rfl|rfl|rfl
    ·exact⟨_,A⟩
    ·exact⟨_,j⟩
    ·exact⟨_,n⟩
    ·exact⟨_,r⟩
    ·exact⟨_,B⟩
   obtain⟨o,e⟩:=e;exact v5 (m9 e)
  refine bFA (s:={ s with heap:=f }) a1 λh2 z2 M=>?_;obtain⟨g0,g1,g2,g3,g4,g5⟩:=G;have I2:Inv X p σ (upd H s.heap.objs.size (.tup [xs[i],ys[i]])) { s with heap:=h2 }:=Inv.turned (s:={ s with heap:=f }) I1 (t':=s.toks) (it:=z) (λb o d e=>(M.2 b d).trans e) (by rw[aP (nT z (by simp))];exact g0) g1 g3 g4 g5;refine⟨.ref s.heap.objs.size,_,I2,rfl,⟨_,_,_,fT,rfl,rfl,d7 l1,d7 l2⟩,?_,λb d=>by rw[aP (nT b d)];exact (g b d).1⟩;exact⟨z2,M.extBut _ _ D.h1 (C TI _ D.h1 D.h5 D.h6 D.h7 j),⟨_,_,M.extBut _ _ D.h2 a2⟩,M.extBut _ _ D.h3 a3,M.extBut _ _ D.h4 a4⟩
 done:=by
  intro X S hw Z hc i p s σ H E I g m hg;subst S hw Z;obtain⟨A,j,⟨a0,c0,n⟩,r,B⟩:=m;obtain⟨q,l,hl,a8⟩:=hg;obtain⟨its,U,O,hz⟩:=I.list q;obtain⟨a6,F,Y,W⟩:=I.list l;have a7:=U.length;have T:=F.length;have G:=g z (by simp);have Q:=g TO (by simp);have N:=g J (by simp);refine (λ(go:∀f,(∀c o,c≠z->c≠TO->c≠J->c≠L->s.heap.get? c=some o->f.get? c=some o)->_)=>?_:_->_) (λf C=>(⟨rfl,?_⟩:(none:Option Value)=none/\Inv X p σ H { s with heap:=f }))
  ·cases R:its[i]? with
   |none=>exact aNl (I.ok.hd hc) D A j n r O.isList (by simpa using R) (I.jY q G) λf C=>go f C
   |some x=>exact aQp (I.ok.hd hc) D A j n r B O.isList Y.isList (by simpa using R) (by simp;lia) (I.jY q G) (I.jY l G) (I.jY l Q) (I.jY l N) λf C=>go f C
  refine Inv.aGw (ch:=[z,TO,J,L]) I (λb d=>g b ?_) λb o d e=>?_
  ·simp only[bAC,w6,or_false] at d ⊢;rcases d with h|h|h|h <;> simp[h]
  ·simp only[bAC,w6,or_false,not_or] at d;exact C b o d.1 d.2.1 d.2.2.1 d.2.2.2 e
 self:=λ_ _ _ _ _ m h=>bEU m.1 h
section
variable {X:Cx}
def aLp (K:bFH)(ta:TA):TI:=fun σ H R=>ta σ H λvs H1=>∃t u xs ys,vs=[.ref t,.ref u]/\SqL K H1 t xs/\SqL K H1 u ys/\R (Itw K t u xs ys) H1
theorem aT6 {elts:List Expr}{kt:Nat}{tp:Pos}{a b:Expr}{ta:TA}{p O:Pos}(U:Gl X "zip")(hm:X.mg "zip"=none)(T:PA X [a,b] ta)(Y:starEach [a,b] X.env=(false,eval a X.env)::starEach [b] X.env:=by rfl)
  (P:starEach [b] X.env=[(false,eval b X.env)]:=by rfl):PI X (.Tuple elts kt tp) (.Call (.Name "zip" p) [a,b] [] O) (aLp X.K ta):=by
 intro d s σ H R I h;refine Call_ (sY I U hm aU5 (bBR (thn (T O d s σ H _ I h) λZ c ⟨W,n,g,w,F⟩=>?_) Y (by rw[P];rfl)));obtain⟨t,u,xs,ys,e,z,A,q⟩:=F;subst e;obtain⟨y,V,N,S⟩:=g.list z;obtain⟨M,C,Q,J⟩:=g.list A;cases w with
 |cons r rr=>
  cases rr with
  |cons r' rr'=>
   cases rr';cases r;cases r';refine aM8 N.isList Q.isList ?_;have j:(zM1 c.heap t).objs.size=c.heap.objs.size+1:=bAX ..;have k:(zM2 c.heap t u).objs.size=c.heap.objs.size+2:=by rw[bAX,j]
   have i:(zM3 c.heap t u).objs.size=c.heap.objs.size+3:=by rw[bAX,k]
   have l:(zM4 c.heap t u).objs.size=c.heap.objs.size+4:=by rw[bAX,i]
   have D:qK (zM4 c.heap t u).objs.size (zM2 c.heap t u).objs.size (zM3 c.heap t u).objs.size c.heap.objs.size (zM1 c.heap t).objs.size:=by constructor <;> (show (_:Nat)≠(_:Nat);rw[Ne];intro h;simp only[j,k,i,l] at h;lia)
   have m:(zM5 c.heap t u).get? (zM4 c.heap t u).objs.size=some (jJ .none (zM2 c.heap t u).objs.size (zM3 c.heap t u).objs.size):=j5 _ rfl;have G:(zM5 c.heap t u).get? (zM3 c.heap t u).objs.size=some (dU .none .none):=d8 _ (j5 _ rfl);have B:(zM5 c.heap t u).get? (zM2 c.heap t u).objs.size=some (dU (.ref c.heap.objs.size) (.ref (zM1 c.heap t).objs.size)):=d8 _ (d8 _ (j5 _ rfl));have L:(zM5 c.heap t u).get? (zM1 c.heap t).objs.size=some (qU u 0):=d8 _ (d8 _ (d8 _ (j5 _ rfl)));have x:(zM5 c.heap t u).get? c.heap.objs.size=some (qU t 0):=d8 _ (d8 _ (d8 _ (d8 _ (j5 _ rfl))));have E:Inv X d σ n { c with heap:=zM5 c.heap t u }:=g.kept (t':=c.toks) λb o e=>d8 _ (d8 _ (d8 _ (d8 _ (d8 _ e))));refine bEU (s:={ c with heap:=zM5 c.heap t u }) m ⟨_,_,_,_,n,rfl,E,aM0 (xs:=xs) (ys:=ys) D,⟨m,B,⟨_,_,G⟩,x,L⟩,λb v=>?_,q⟩;have f:c.heap.objs.size<=b:=by
    simp only[bAC,w6,or_false] at v;rcases v with rfl|rfl|rfl|rfl|rfl
    ·rw[l];exact bBT ..
    ·rw[k];exact bBT ..
    ·rw[i];exact bBT ..
    ·exact j0 _
    ·rw[j];exact bBT ..
   exact g.aGh f (g.hok.fresh f)
def aTj {elts:List Expr}{kt:Nat}{tp:Pos}{a b:Expr}{t:TA}{p pos:Pos}(g:Gl X "zip")(d:X.mg "zip"=none)(e:VA X [a,b] t)(f:dB a=true:=by rfl)(c:dB b=true:=by rfl) :
  VI X (.Tuple elts kt tp) (.Call (.Name "zip" p) [a,b] [] pos) (aLp X.K t):=⟨aT6 g d e.1 (aR f) (aR (es:=[]) c)⟩
end
def aIo {K:bFH}{t u:Addr}{xs ys:List V}{H:Hp}{F:L2.St}{te:TE}{Q:VK}(B:SqL K H t xs)(C:SqL K H u ys)(A:ys.length<=xs.length)(E:Ps2 F F)(hsz:ys.length<=1000)(g:List V)(hzl:g.length=ys.length)
  (G:∀(i:Nat) (x y z:V),xs[i]?=some x->ys[i]?=some y->g[i]?=some z->∀H' R,Same H H'->(∀H2,Same H' H2->R z H2)->te ((F.set 0 (some x)).set 1 (some y)) H' R)
  (q:∀D H',Same H H'->H' D=some (.lst g)->Q (.ref D) H'):tK (Itw K t u xs ys) H F (aNo K 2 (uP (cD 0) (uP (cD 1) aQj))) oR te Q:=by
 intro D r;refine⟨λi m p H' j=>m=ys.length - i/\i<=ys.length/\Same H H'/\H' D=some (.lst j)/\j=g.take i/\Ps2 F p,⟨ys.length,by simp,bAG _,bC r _,aH,rfl,E⟩,?_⟩;rintro i m p H' j ⟨rfl,hi,sm,gD,rfl,hps⟩;refine⟨gD,?_⟩;by_cases l:i<ys.length
 ·right;refine⟨⟨sm.seq B,sm.seq C,by lia,l⟩,?_⟩;rintro v H2 ⟨T,a,b,hT,rfl,rfl,ha,hb⟩;have n:Same H' (L2.upd H' T (.tup [a,b])):=bC hT _;refine hg2 (SqT.of aH) hps fun w d k=>?_;have c:w=_:=k;subst c;dsimp only[oR];rw[if_pos rfl];have f:i<g.length:=by lia
  refine G i a b g[i] ha hb (d7 f) _ _ (sm.trans n) λs o=>?_;have h:s D=some (.lst (g.take i)):=o _ _ (n _ _ gD);refine⟨h,bCN (show (g.take i).length<=1000 by rw[bAO];lia) (by decide),ys.length - (i+1),by lia,rfl,by lia,lG r (sm.trans (n.trans o)),aH,?_,d⟩;rw[bBK,d7 f];rfl
 ·left;have e:i=ys.length:=by lia
  subst e;rw[bAW (by lia)] at gD;exact⟨⟨sm.seq B,sm.seq C,rfl,A⟩,q D H' sm gD⟩
def aM2 {J:It}{H:Hp}{xs:List V}{w:L2.St}{te:TE}{Q:VK}(t:∀H' i x,Same H H'->xs[i]?=some x->J.go i H'/\∀y H2,J.yld i H' y H2->H2=H'/\y=x)(j:∀H',Same H H'->J.stop xs.length H')(A:Ps1 w w)(hsz:xs.length<=1000)
  (g:List V) (hzl:g.length=xs.length) (B:∀(i:Nat) (x z:V),xs[i]?=some x->g[i]?=some z->∀H' R l,Same H H'->(∀H2,Same H' H2->R z H2)->te ((w.set 0 l).set 0 (some x)) H' R)
  (q:∀D H',Same H H'->H D=none->H' D=some (.lst g)->Q (.ref D) H'):tK J H w (cD 0) oR te Q:=by
 intro D h;refine⟨λi m k H' d=>m=xs.length - i/\i<=xs.length/\Same H H'/\H' D=some (.lst d)/\d=g.take i/\Ps1 w k,⟨xs.length,by simp,bAG _,bC h _,aH,rfl,A⟩,?_⟩;rintro i m k H' d ⟨rfl,hi,sm,gD,rfl,hps⟩;refine⟨gD,?_⟩;by_cases a:i<xs.length
 ·right;obtain⟨o,p⟩:=t H' i xs[i] sm (d7 a);refine⟨o,λv H2 r=>?_⟩;obtain⟨rfl,rfl⟩:=p v H2 r;refine hg1 (i:=i) hps fun u b f=>?_;obtain⟨l,rfl⟩:=f;dsimp only[oR];rw[if_pos rfl];have c:i<g.length:=by lia
  refine B i _ g[i] (d7 a) (d7 c) _ _ l sm λs n=>?_;refine⟨n _ _ gD,bCN (show (g.take i).length<=1000 by rw[bAO];lia) (by decide),xs.length - (i+1),by lia,rfl,by lia,lG h (sm.trans n),aH,?_,b⟩;rw[bBK,d7 c];rfl
 ·left;have e:i=xs.length:=by lia
  subst e;rw[bAW (by lia)] at gD;exact⟨j H' sm,q D H' sm h gD⟩
def aUg {X:Cx}{K:bFH}{scope:Scope}{N:List Str}{tl:TA}{te:TE}{tt:TT}{g:TG}{σ:L2.St}{H:Hp}{Q:VK}(b:L2.St)(a:Cap X scope N σ b)(h:tl σ H λvs H1=>∃t u xs ys,vs=[.ref t,.ref u]/\SqL K H1 t xs/\SqL K H1 u ys/\tK (Itw K t u xs ys) H1 b g tt te Q):lN X scope N (aLp K tl) g tt te σ H Q:=⟨b,a,h⟩
def uQ (ts:List (Addr × Str))(H:Hp):Prop:=∀p∈ts,H p.1=some (.tab p.2)
def mZ:List (Addr × Str)->Addr->Option Str
 |[],_=>none
 |p::r,b=>if b=p.1 then some p.2 else mZ r b
theorem aEr {b:Addr}:∀{ts:List (Addr × Str)},(∀p∈ts,b≠p.1)->mZ ts b=none
 |[],_=>rfl
 |p::r,h=>by unfold mZ;rw[if_neg (h p j6)];exact aEr λq a=>h q (j8 _ a)
theorem tH {b:Addr}{q:Str}:∀{ts:List (Addr × Str)},mZ ts b=some q->∃p∈ts,p.1=b/\p.2=q
 |p::r,h=>by
  unfold mZ at h;by_cases e:b=p.1
  ·rw[if_pos e] at h;exact⟨p,j6,e.symm,bAP h⟩
  ·rw[if_neg e] at h;obtain⟨d,a,c⟩:=tH h;exact⟨d,j8 _ a,c⟩
theorem aPg:∀{ts:List (Addr × Str)},(ts.map (·.1)).Nodup->∀{p:Addr × Str},p∈ts->mZ ts p.1=some p.2
 |p::r,nd,q,hq=>by
  rw[bAN,bD6] at nd;unfold mZ;rcases List.mem_cons.mp hq with rfl|hq
  ·rw[if_pos rfl]
  ·rw[if_neg λz=>nd.1 (by rw[<-z];exact List.mem_map.mpr ⟨q,hq,rfl⟩)];exact aPg nd.2 hq
theorem aPt {P:Program}{w:World}{K:bFH}{mg mb:bFK}{CX:CXT}{k:Nat}{fa a:Addr}{fd:FuncData}{x:Str}{sp:Sp}{i:Shared}{vs:List Value}{ns:List Int}
  (KX:K.In i.heap) (a0:i.heap.Ns mainGlobals mg) (f:i.heap.Ns builtinsNs mb) (a5:∀x:Str,x≠"__name__"->mb x=bootBuiltins x) (a2:i.heap.NoLimit) (hg:i.gens=#[])
  (L:i.heap.get? a=some { cls:=.type "list",data:=.seq vs.toArray }) (hi:IntsAre vs ns) (hl:ns.length<=sizeLine) (hr:Room k callerA)
  (ts:List (Addr × Str)) (l:∀p∈ts,i.heap.get? p.1=some { cls:=.none,data:=.fields #[] }/\isCodeTable i.heap p.1/\K.lookup p.1=none) (a7:(ts.map (·.1)).Nodup) (a6:BM mg i.heap)
  (F:∀base:Heap,K.In base->base.Ns mainGlobals mg->BM mg base->lX P w K mg base CX k fa fd [x] sp) (U:∀(s:Shared) (u:Value),BindsTo s fd ⟨[u],[]⟩ [(x,u)])
  (a8:∀H:Hp,uQ ts H->SqL K H a (ns.map V.int)->sp [.ref a] H (λv H'=>v=.bl true/\uQ ts H') λ_ _ _=>False)
  (a3:∀H e s',CX [] H i (λ_ _ _=>False) e s'->False) :
  codeAny (model P w) callerA (.call (.ref fa) ⟨[.ref a],[]⟩) (λr s'=>r=.ok (.ret (.bool true))/\OldK i.heap s'.heap/\s'.os=i.os/\AllBare s'.gens) i:=by
 have rv:=aE1 hi;have O:=hi.length;have B:∀H:Hp,uQ ts H->(∀b,(∀p∈ts,b≠p.1)->H b=none\/∃o xs,H b=some (.frz o (.lst xs)))->SqL K H a (ns.map V.int)->HOk P w H i.heap->(∀b,H b≠none->b=a\/∃p∈ts,b=p.1)->(H a≠none->K.lookup a=none) ->
   codeAny (model P w) callerA (.call (.ref fa) ⟨[.ref a],[]⟩) (λr s'=>r=.ok (.ret (.bool true))/\OldK i.heap s'.heap/\s'.os=i.os/\AllBare s'.gens) i:=by
  intro H hT hO hS M hA hK;have g:∀{b:Addr} {o:Obj},i.heap.get? b=some o->H b=none->(aD6 i.heap H).get? b=some o:=λe n=>aT1 e n;have a1:∀{b:Addr} {o:Obj} {E:Array DictEntry} {D:Nat},i.heap.get? b=some o->o.data=.dict E D->H b=none:=λ{b o E D} e d=>by
   cases q:H b with
   |none=>rfl
   |some u=>
    rcases hA b (by rw[q];simp) with e'|⟨p,c,e'⟩
    ·subst e';rw[L] at e;cases e;have T:Data.seq vs.toArray _=Data.dict E D:=d;cases T
    ·subst e';rw[(l p c).1] at e;cases e;have T:Data.fields _=Data.dict E D:=d;cases T
  have y:∀{b:Addr} {m:bFK},i.heap.Ns b m->(aD6 i.heap H).Ns b m:=λ{b m} ⟨o,E,D,e,d,r⟩=>⟨o,E,D,g e (a1 e d),d,r⟩;have G:K.In (aD6 i.heap H):=λb o e=>g (KX b o e) (by
   cases q:H b with
   |none=>rfl
   |some u=>
    rcases hA b (by rw[q];simp) with e'|⟨p,c,e'⟩
    ·subst e';rw[hK (by rw[q];simp)] at e;cases e
    ·subst e';rw[(l p c).2.2] at e;cases e)
  have N:BM mg (aD6 i.heap H):=by
   obtain⟨bm,ob,b1,b2,R,b4,b5,X⟩:=a6;refine⟨bm,ob,b1,b2,g R ?_,b4,b5,X⟩;cases q:H bm with
   |none=>rfl
   |some u=>
    rcases hA bm (by rw[q];simp) with e'|⟨p,c,e'⟩
    ·rw[e',L] at R;cases R;cases (show Data.seq vs.toArray _=Data.plain from X)
    ·rw[e',(l p c).1] at R;cases R;cases (show Data.fields _=Data.plain from X)
  have hM:Mod K mg (aD6 i.heap H):=⟨G,y a0,⟨mb,y f,a5⟩,let ⟨mc,h1,h2⟩:=a2;⟨mc,y h1,h2⟩⟩;have e0:aHl P w K mg (aD6 i.heap H) callerA [] i H:=⟨rfl,hM,λb o e=>aWb e,bE3 (aQk _ _),trivial,λb f=>absurd (show b∈([]:List Addr) from f) (by simp),M,.of_eq hg⟩;refine bCP ((F _ G (y a0) N).run callerA [] i H ⟨[.ref a],[]⟩ [.ref a] [.ref a] _ _ hr e0 (U i (.ref a)) (.cons rfl .nil) (a8 H hT hS)) λr s' h=>?_;cases r with
  |error e=>exact (a3 H e s' h).elim
  |ok fl=>
   cases fl with
   |next=>exact False.elim h
   |brk=>exact False.elim h
   |cont=>exact False.elim h
   |ret u=>
    obtain⟨v,H',os,S,un,t,r',q⟩:=h;obtain⟨q',qT⟩:=(show v=.bl true/\uQ ts H' from q);subst q';obtain rfl:u=Value.bool true:=r';have kp:∀b o,i.heap.get? b=some o->(∀p∈ts,b≠p.1)->s'.heap.get? b=some o:=λb o e f=>by
     cases q:H b with
     |none=>exact un.keep b o e q (by intro z;exact absurd (show b∈([]:List Addr) from z) (by simp)) (by simp)
     |some u=>
      rcases hO b f with z|⟨ob,xs,z⟩
      ·rw[q] at z;cases z
      ·have z2:=un.frzs b ob _ z;obtain⟨j,_⟩:=M b _ z;obtain⟨I,_⟩:=t b _ z2;rw[e] at j;cases j;exact I
    refine⟨rfl,⟨λb o e=>?_,λb o e=>?_⟩,os,S⟩
    ·by_cases f:∃p∈ts,b=p.1
     ·obtain⟨p,c,rfl⟩:=f;obtain⟨ps,j,_⟩:=t p.1 _ (qT p c);rw[(l p c).1] at e;cases e;exact .inr (.inl ⟨(l p c).2.1,rfl,#[],ps,rfl,by rw[j];simp⟩)
     ·exact .inl (kp b o e λp c z=>f ⟨p,c,z⟩)
    ·by_cases f:∃p∈ts,b=p.1
     ·obtain⟨p,c,rfl⟩:=f;obtain⟨ps,j,_⟩:=t p.1 _ (qT p c);exact⟨_,j⟩
     ·exact⟨o,kp b o e λp c z=>f ⟨p,c,z⟩⟩
 have aT:∀p∈ts,p.1≠a:=λp c z=>by have:=(l p c).1;rw[z,L] at this;cases this
 have Q:∀p∈ts,mZ ts p.1=some p.2:=λp c=>aPg a7 c;have C:∀b,(∀p∈ts,b≠p.1)->mZ ts b=none:=λb f=>aEr f;have J:∀(H:Hp) (p:Addr × Str),p∈ts->dH P w H i.heap p.1 (.tab p.2):=λH p c=>⟨#[],(l p c).1,trivial,λa4 cv z=>by cases z⟩;cases W:K.lookup a with
 |some o=>
  have e:=KX a o W;rw[L] at e;cases e;refine B (λb=>(mZ ts b).map .tab) (λp c=>by show (mZ ts p.1).map _=_;rw[Q p c];rfl) (λb f=>.inl (by show (mZ ts b).map _=_;rw[C b f];rfl)) (.inr ⟨_,vs.toArray,_,W,rfl,rfl,rfl,by rw[j7,O];exact hl,by simpa using rv⟩) (λb u z=>?_) (λb z=>?_) λz=>?_
  ·obtain⟨Y,A,rfl⟩:=Option.map_eq_some_iff.mp (show (mZ ts b).map .tab=some u from z);obtain⟨p,c,j,I⟩:=tH A;subst j I;exact J _ p c
  ·refine .inr ?_;cases A:mZ ts b with
   |none=>exact absurd (show (mZ ts b).map HO.tab=none by rw[A];rfl) z
   |some Y=>obtain⟨p,c,j,_⟩:=tH A;exact⟨p,c,j.symm⟩
  ·exact absurd (show (mZ ts a).map HO.tab=none by rw[C a λp c z=>aT p c z.symm];rfl) z
 |none=>
  refine B (λb=>if b=a then some (.frz { cls:=.type "list",data:=.seq vs.toArray } (.lst (ns.map V.int))) else (mZ ts b).map .tab) (λp c=>by show (if p.1=a then _ else (mZ ts p.1).map HO.tab)=_;rw[if_neg (aT p c),Q p c];rfl) (λb f=>?_) (.inl (.inr ⟨{ cls:=.type "list",data:=.seq vs.toArray },if_pos rfl⟩)) (λb u z=>?_) (λb z=>?_) λ_=>W
  ·by_cases h:b=a
   ·exact .inr ⟨_,_,if_pos h⟩
   ·exact .inl (by show (if b=a then _ else (mZ ts b).map HO.tab)=_;rw[if_neg h,C b f];rfl)
  ·by_cases f:b=a
   ·have Z:=(if_pos f).symm.trans z;cases Z;subst f;exact⟨L,by rw[j9];exact hl,vs,_,rv,L⟩
   ·have Z:(mZ ts b).map HO.tab=some u:=(if_neg f).symm.trans z;obtain⟨Y,A,rfl⟩:=Option.map_eq_some_iff.mp Z;obtain⟨p,c,j,I⟩:=tH A;subst j I;exact J _ p c
  ·by_cases f:b=a
   ·exact .inl f
   ·refine .inr ?_;cases A:mZ ts b with
    |none=>exact absurd (show (if b=a then _ else (mZ ts b).map HO.tab)=none by rw[if_neg f,A];rfl) z
    |some Y=>obtain⟨p,c,j,_⟩:=tH A;exact⟨p,c,j.symm⟩
def aSk {l:PySem.W.OpenLaw}{n k:Nat}{q:Program}{loose:List Str}{XP:(bFK)->Heap->Prop}{YP:World->Heap->Prop}{d:DefRec}{K:Params->bFH}{CX:World->CXT}{sp:World->Sp}{x:Str}
  (hn:l.most=some n) (B:n<=sizeLine) (P:d.params.defaults=[]) (hr:Room k callerA)
  (ts:List (Addr × Str)) (M:(ts.map (·.1)).Nodup)
  (U:∀(w:World) (h:Heap),YP w h->(K w.params).In h/\∀p∈ts,h.get? p.1=some { cls:=.none,data:=.fields #[] })
  (J:∀(w:World),∀p∈ts,(∃c,PySem.W.codeHdIn (K w.params) c p.1=true)/\(K w.params).lookup p.1=none)
  (F:∀(w:World) (mg:bFK) (fa:Addr) (h:Heap),(K w.params).In h->h.Ns mainGlobals mg->mg d.name=some (.ref fa) ->
   ∃fd:FuncData,(∀(s:Shared) (u:Value),BindsTo s fd ⟨[u],[]⟩ [(x,u)]) /\
    ∀base:Heap,(K w.params).In base->base.Ns mainGlobals mg->BM mg base->lX l.prog w (K w.params) mg base (CX w) k fa fd [x] (sp w))
  (N:∀(w:World) (H:Hp) (a:Addr) (ns:List Int),ns.length<=n->uQ ts H->SqL (K w.params) H a (ns.map V.int)->sp w [.ref a] H (λv H'=>v=.bl true/\uQ ts H') λ_ _ _=>False)
  (E:∀(w:World) (H:Hp) (s:Shared) (e:Value) (s':Shared),CX w [] H s (λ_ _ _=>False) e s'->False) :
  PySem.W.WalkO q loose XP YP l.row.toRowW d [] (λf vs=>PySem.call f vs):=by
 refine Att.aI8 hn P λw s₀ D mg mb fa o pm Z L a vs ns G Y X hd S z r m j I=>?_;obtain⟨y,i⟩:=U w _ Y;obtain⟨fd,Q,R⟩:=F w mg fa _ y G.T.g z;refine aPt y G.T.g G.T.b G.T.builtins G.T.nolimit I r m (bAM j B) hr ts (λp t=>⟨i p t,?_,(J w p t).2⟩) M G.T.bmain R Q (λH C A=>N w H a ns j C A) λH e s'=>E w H D e s';obtain⟨c,O⟩:=(J w p t).1;exact Heap.TableAt.isCodeTable ((PySem.W.codeHd_of_K y O).tab (i p t))
def cI (K:bFH)(H:Hp)(u:V)(r:List V):Prop:=∃a,u=.ref a/\SqT K H a r
def cI.same {K:bFH}{H H':Hp}{u:V}{r:List V}(e:Same H H')(h:cI K H u r):cI K H' u r:=by obtain⟨a,rfl,b⟩:=h;exact⟨a,rfl,e.bA b⟩
def KdV:Bool->V->Prop
 |true,x=>∃i,x=.int i
 |false,x=>∃z,x=.str z
def KdR (ks:List Bool)(r:List V):Prop:=Al2 KdV ks r
def rlt:List V->List V->Bool
 |.int a::xs,.int b::ys=>if (a == b)=true then rlt xs ys else decide (a<b)
 |.str a::xs,.str b::ys=>if (a == b)=true then rlt xs ys else decide (a.cps.toList<b.cps.toList)
 |_,_=>false
def srt (rs:List (List V)):List (List V):=(PySem.W.dN rs.length λi j=>rlt (rs.getD i []) (rs.getD j [])).map λi=>rs.getD i []
def qH (rs:List (List V)):(srt rs).length=rs.length:=by unfold srt;rw[j9,PySem.W.uC]
def fZ {rs:List (List V)}{r:List V}(h:r∈srt rs):r∈rs:=by
 obtain⟨i,a,rfl⟩:=List.mem_map.mp h;have:=PySem.W.oV a;have e:rs.getD i []=rs[i]:=by simp[this]
 rw[e];exact bAV this
def Al2.get {α β:Type}{R:α->β->Prop}{as:List α}{bs:List β}(h:Al2 R as bs){i:Nat}{a:α}{b:β}(c:as[i]?=some a)(d:bs[i]?=some b):R a b:=by obtain⟨f,e,r⟩:=h.at c;rw[d] at e;cases e;exact r
theorem Al2.of {α β:Type}{R:α->β->Prop}:∀{as:List α} {bs:List β},as.length=bs.length->(∀(i:Nat) (a:α) (b:β),as[i]?=some a->bs[i]?=some b->R a b)->Al2 R as bs
 |[],[],_,_=>.nil
 |a::as,b::bs,hl,h=>.cons (h 0 a b rfl rfl) (Al2.of (by simpa using hl) λi x y c d=>h (i+1) x y (by simpa using c) (by simpa using d))
theorem Al2.imp {α β:Type}{R S:α->β->Prop}{as:List α}{bs:List β}(h:Al2 R as bs)(k:∀a b,R a b->S a b):Al2 S as bs:=by
 induction h with
 |nil=>exact .nil
 |cons r _ ih=>exact .cons (k _ _ r) ih
section
variable {prog:Program}{w:World}{A:Around}{s:Shared}{b:Bool}{Q:Bool->Shared->Prop}
theorem aW9 (ks:List Bool):∀{r1 r2:List V} {i1 i2:List Value},KdR ks r1->KdR ks r2->Vals r1 i1->Vals r2 i2->∀i:Nat,Q (rlt r1 r2) s->PySem.W.KatLex prog w A b false Q (i1.zip i2) i s:=by
 induction ks with
 |nil=>intro r1 r2 i1 i2 f c d a i q;cases f;cases c;cases d;cases a;exact q
 |cons k ks ih=>
  intro r1 r2 i1 i2 f c d a i q;cases f with
  |cons a1 t1=>
   cases c with
   |cons a2 t2=>
    cases d with
    |cons p1 w1=>
     cases a with
     |cons p2 w2=>
      cases k with
      |true=>
       obtain⟨x,rfl⟩:=a1;obtain⟨y,rfl⟩:=a2;obtain⟨t,rfl⟩:=p1;obtain⟨u,rfl⟩:=p2;refine (bD9 x t y u) prog w _ _ ?_;unfold rlt at q;by_cases e:(x == y)=true
       ·rw[e,if_pos rfl];rw[if_pos e] at q;exact ih t1 t2 w1 w2 (i+1) q
       ·rw[if_neg e] at q;rw[Bool.not_eq_true] at e;rw[e,if_neg (by decide)];cases g:(b && i == 0) with
        |true=>exact oneLt_int q
        |false=>exact PySem.W.kat_one _ _ (lt_int q)
      |false=>
       obtain⟨x,rfl⟩:=a1;obtain⟨y,rfl⟩:=a2;obtain⟨t,rfl⟩:=p1;obtain⟨u,rfl⟩:=p2;refine (bDN x t y u) prog w _ _ ?_;unfold rlt at q;by_cases e:(x == y)=true
       ·rw[e,if_pos rfl];rw[if_pos e] at q;exact ih t1 t2 w1 w2 (i+1) q
       ·rw[if_neg e] at q;rw[Bool.not_eq_true] at e;rw[e,if_neg (by decide)];cases g:(b && i == 0) with
        |true=>exact oneLt_str q
        |false=>exact PySem.W.kat_one _ _ (lt_str q)
end
section
variable {X:Cx}
def aL9 (K:bFH):List V->Hp->VK->Prop:=λxs H Q=>∃(l:Addr) (us:List V) (rs:List (List V)) (ks:List Bool),xs=[.ref l]/\SqL K H l us/\Al2 (cI K H) us rs/\us.length<64/\ks≠[]/\(∀r∈rs,KdR ks r) /\
 ∀D H' us',H D=none->Same H H'->H' D=some (.lst us')->Al2 (cI K H) us' (srt rs)->Q (.ref D) H'
theorem aO1 {bFL:bFJ}{σ:L2.St}{H:Hp}{s:Shared}{h':Heap}{k:Bool}{ks:List Bool}(I:Inv X bFL σ H s)(e:∀b o,s.heap.get? b=some o->h'.get? b=some o):∀{us:List V} {rs:List (List V)} {its:List Value},Al2 (cI X.K H) us rs->Vals us its->(∀r∈rs,KdR (k::ks) r) ->
  ∃fs,PySem.W.KatTups h' its fs/\fs.length=its.length/\∀f∈fs,∀M:Model,PySem.W.Looks M h' (typeOf f) (.type (if k=true then "int" else "str"))
 |_,_,_,.nil,.nil,_=>⟨[],.nil,rfl,λf h=>by cases h⟩
 |_,_,_,.cons (b:=r) hr t,.cons q z,hk=>by
  obtain⟨fs,v,d,l⟩:=aO1 I e t z λr m=>hk r (j8 _ m);obtain⟨a,rfl,y⟩:=hr;cases q;obtain⟨p,j,⟨o,w,x,n,hd⟩,_⟩:=I.tuple y;have c:=hk r (j6 ..);cases c with
  |cons hx _=>
   cases j with
   |@cons _ f _ fr rx _=>
    refine⟨f::fs,.cons (e _ _ w) x hd (by simp) v,by rw[v9,v9,d],λg hg M=>?_⟩;rcases List.mem_cons.mp hg with rfl|hg
    ·cases k with
     |true=>obtain⟨i,rfl⟩:=hx;obtain⟨u,rfl⟩:=rx;exact .now
     |false=>obtain⟨i,rfl⟩:=hx;obtain⟨u,rfl⟩:=rx;exact .now
    ·exact l g hg M
def aIu {bFL:bFJ}{σ:L2.St}{H:Hp}{s:Shared}{us:List V}{rs:List (List V)}{ks:List Bool}{its:List Value}(I:Inv X bFL σ H s)(D:Vals us its)(B:Al2 (cI X.K H) us rs)(a0:ks≠[])(Y:∀r∈rs,KdR ks r)(A:Around)(h2:2<=its.length)(h':Heap)(L:∀b o,s.heap.get? b=some o->h'.get? b=some o) :
  ∃κ,(∀(Q:SortKind->Shared->Prop),Q κ { s with heap:=h' }->wpAny (model X.prog X.w) A (keyKind' its.toArray) Q (λ_ _=>False) { s with heap:=h' })/\∀i j (C:Bool->Shared->Prop),i<its.length->j<its.length->C (rlt (rs.getD i []) (rs.getD j [])) { s with heap:=h' }->PySem.W.kas_ask X.prog X.w A κ its i j C { s with heap:=h' }:=by
 have e1:=D.length;have e2:=B.len;obtain⟨k,c,rfl⟩:∃k c,ks=k::c:=by
  cases ks with
  |nil=>exact absurd rfl a0
  |cons k c=>exact⟨k,c,rfl⟩
 obtain⟨fs,t1,t2,t3⟩:=aO1 I L B D Y;refine⟨_,λQ S=>PySem.W.kat_kind (s:={ s with heap:=h' }) (T:=.type (if k=true then "int" else "str")) t1 (by lia) (λv m=>t3 v m _) (by simp) S,λi j C G J E=>?_⟩;have f:∀{i:Nat},i<its.length->∃a o r l n,its.getD i Value.none=.ref a/\h'.get? a=some o/\o.data=.seq (List.toArray l) n/\Vals r l/\rs.getD i []=r/\KdR (k::c) r:=λ{i} G=>by
  have g:i<us.length:=by lia
  have d:i<rs.length:=by lia
  obtain⟨a,Z,O⟩:=B.get (d7 g) (d7 d);obtain⟨v,m,y⟩:=D.get (d7 g);rw[Z] at y;cases y;obtain⟨l,rr,⟨o,N,hc,n,hd⟩,_⟩:=I.tuple O;refine⟨a,o,rs[i],l,n,?_,L _ _ N,hd,rr,by simp[d],Y _ (bAV d)⟩;rw[j4,m];rfl
 obtain⟨a,o,r1,P,n1,M,g2,R,F,U,z⟩:=f G;obtain⟨b,o',r2,x2,n2,u,x,q,e,p,h⟩:=f J;show wpAny _ _ (keyLt' _ (its.getD i Value.none) (its.getD j Value.none)) C _ _;rw[M,u];refine PySem.W.kat_lt (s:={ s with heap:=h' }) g2 R x q ?_;have t:decide ((List.toArray P).size<(List.toArray x2).size)=false:=by rw[j7,j7];have:=F.length;have:=e.length;have:=Al2.len z;have:=Al2.len h;exact v8 (by lia)
 rw[t];refine aW9 (k::c) z h F e 0 ?_;rw[U,p] at E;exact E
theorem aFc {us:List V}{its:List Value}(f:Vals us its):∀L:List Nat,(∀i∈L,i<us.length)->Vals (L.map λi=>us.getD i .non) (L.map λi=>its.getD i Value.none):=by
 intro L
 induction L with
 |nil=>intro _;exact .nil
 |cons i L ih=>intro b;have a:=b i (j6 ..);obtain⟨v,d,e⟩:=f.get (d7 a);refine .cons ?_ (ih λj c=>b j (j8 _ c));show RelV (us.getD i .non) (its.getD i Value.none);rw[j4,d7 a,j4,d];exact e
theorem aEj {K:bFH}{H:Hp}{us:List V}{rs:List (List V)}(e:Al2 (cI K H) us rs):∀L:List Nat,(∀i∈L,i<us.length)->Al2 (cI K H) (L.map λi=>us.getD i .non) (L.map λi=>rs.getD i []):=by
 intro L
 induction L with
 |nil=>intro _;exact .nil
 |cons i L ih=>
  intro b;have c:=b i (j6 ..);have a:i<rs.length:=by have:=e.len;lia
  refine .cons ?_ (ih λj d=>b j (j8 _ d));show cI K H (us.getD i .non) (rs.getD i []);rw[j4,d7 c,j4,d7 a];exact e.get (d7 c) (d7 a)
def eG:cO X (.builtin "sorted") (aL9 X.K):=by
 intro w s σ H J v Q I r h;obtain⟨l,z,c,G,rfl,C,d,t,k,x,q⟩:=h;obtain⟨u,rfl,A⟩:=vals1 r;cases A;obtain⟨a,g,p,E⟩:=I.list C;have F:=g.length;have D:=d.len;refine PySem.W.aFu (f:=λi j=>rlt (c.getD i []) (c.getD j [])) p.isList (by lia) (aIu I g d k x _) ?_;obtain⟨e,B⟩:=sortedAll_at s.heap a (List.toArray ((PySem.W.dN a.length λi j=>rlt (c.getD i []) (c.getD j [])).map λi=>a.getD i Value.none));have n:H (s.heap.objs.size+1)=none:=I.hok.fresh (bDU _);have y:a.length=c.length:=by lia
 refine⟨.ref (s.heap.objs.size+1),_,I.laid (t':=s.toks) (o:=.lst ((PySem.W.dN c.length λi j=>rlt (c.getD i []) (c.getD j [])).map λi=>z.getD i .non)) (λb o q=>sortedAll_old q) (bDU _) ?_,rfl,q _ _ _ n (bC n _) aH (aEj d _ λi m=>by have:=PySem.W.oV m;lia)⟩;refine⟨small (by rw[j9,PySem.W.uC];lia),_,e,?_,B⟩;rw[y];exact aFc g _ λi m=>by have:=PySem.W.oV m;lia
end
def kvlt:V->V->Bool
 |.int a,.int b=>decide (a<b)
 |.str a,.str b=>decide (a.cps.toList<b.cps.toList)
 |_,_=>false
section
variable {X:Cx}{bFL:bFJ}{σ:List (Option V)}{H:Hp}{s:Shared}
end
section
variable {X:Cx}
end
section
variable {P:Program}{w:World}{K:bFH}{mg:bFK}{base:Heap}
def aSz (K:bFH)(mg:bFK)(x:Str)(Pt:Addr):Prop:=∃f o fd c,mg x=some (.ref f)/\K.lookup f=some o/\o.data=.func fd/\fd.code=.ref c/\PySem.W.codeHdIn K c Pt=true
def Ok.bDg {x:Str}{st:Stmt}{N ps:List Str}{k:Nat}{sp:Sp}{Pt:Addr}(D:Dn K mg x st ps)(C:aSz K mg x Pt)(U:K.In base)(S:aJ N ps (aF st))(G:∀vs H Q E,sp vs H Q E->vs.length=ps.length)
  (b:∀(f c:Addr) (A:Around) (outer:List Env) (s:Shared) (H:Hp) (vs:List V) (Q:VK) (E:XK),PySem.W.CodeHd base c Pt->Room k (A.deeper (envOfC x (aF st) s.heap.objs.size f (.ref c)))->sp vs H Q E ->
   ∃t,VSs (aB7 CX0 P w K mg base N x (aF st) f (.ref c) A outer s H E).nox (fC st) t/\t { nx:=λ_ H'=>Q .non H',rt:=Q } (start N vs) H):Ok P w K mg base (k+1) x ps sp:=by
 obtain⟨f,u,F,B,m⟩:=D;obtain⟨L,J,p,c,n,a,d,i,z⟩:=C;rw[m] at n;cases n;refine⟨f,u,m,F.kp,B,?_⟩;obtain⟨I,M,kV,y,O,T,g,R,r,rfl,o,l⟩:=F.ex;rw[o] at a;cases a;cases d;have e:g=.ref c:=i;subst e;refine aYd o l S G λA outer s H vs Q E v j=>?_;obtain⟨t,h,q⟩:=b f c A outer s H vs Q E (PySem.W.codeHd_of_K U z) v j;exact⟨t,h.1.nox,q⟩
end
section
variable {X:Cx}
end
end L2
namespace My
open PySem PySem.Spec PyProof.Rows L2
section
variable {P:Program}{w:World}{K:bFH}{mg:bFK}{base:Heap}
def vlt:V->V->Bool
 |.int a,.int b=>decide (a<b)
 |.str a,.str b=>decide (a.cps.toList<b.cps.toList)
 |_,_=>false
def aRa (k:Str):Prop:=k = "number"\/k = "word"
def qC:Str:="are_cuts.<locals>.<lambda>"
def aO0 (P:Program)(w:World)(K:bFH)(mg:bFK)(base:Heap)(k:Nat):Sp:=λvs H Q _=>∃(a:Addr) (lo hi:Nat) (f:Addr) (xs:List V) (qual g x y:Str) (z:V) (ps:List Str) (sp:Sp),vs=[.ref a,.int (lo:Nat),.int (hi:Nat),.ref f]/\SqT K H a xs/\lo<=xs.length/\xs.length<=hi/\hi<=1000/\xJ H f qual g x y z/\Ok P w K mg base k g ps sp /\
 (∀v∈xs,∀(H':Hp) (R:VK),Same H H'->(∀H2,Same H' H2->R (.bl true) H2)->sp [v,z] H' R E0)/\∀H',Same H H'->Q (.bl true) H'
def aAr {k:Nat}(T:Txt w K mg):Ok P w K mg base (k+2) "is_tuple_of" ["thing","least","most","is_part"] (aO0 P w K mg base k):=by
 refine Ok.ofV T.uO sV (by trivial) (λf I A n s H vs Q E J h=>?_)
 obtain⟨a,B,S,g,c,d,U,x,y,z,F,O,rfl,m,W,Z,j,p,M,o,q⟩:=h;refine⟨_,(aD (cA (VW.pt (gJ (cP (cG (aM jR (by rfl) T.cB bU (aB (vv 0) (aB (fX (v:=.ty "tuple") (by rfl) T.kO gQ rfl) aA))))) (eZ (cP (aBv aA5 aA5 (vv 1) (aM bB (by rfl) T.eX cY (aB (vv 0) aA)) (vv 2)))))) (aG (aL jO)) aZ) (aG (aL (aM (mQ rfl) (by rfl) T.aBh vK (aB (cL (N:=["part","is_part"]) (by trivial) (dZ (aF gH) rfl (by decide +kernel)) rfl (rB (vv 0)) (λY s' e V=>⟨(aO (i:=0) (show (["part","is_part"]:List Str).Nodup from by decide +kernel) rfl (Or.inl rfl)),iH,(aRi (P:=P) (w:=w) (K:=K) (mg:=mg) (base:=base) J (vv 1) (aB (vv 0) aA))⟩)) aA))))),?_⟩;refine⟨_,rfl,_,_,rfl,.tup m,_,rfl,bZ ?_⟩;refine⟨_,rfl,_,rfl,_,_,rfl,.inr m,_,_,rfl,rfl,_,rfl,?_⟩;have L:decide ((B:Int)<=(c.length:Int))=true:=t6 (by lia);have C:decide ((c.length:Int)<=(S:Int))=true:=t6 (by lia);rw[L];refine eU ⟨_,rfl,_,_,rfl,rfl,_,rfl,?_⟩;rw[C];refine bZ ?_;dsimp only[rZ,tV,tCB,fG];refine aEu c (λ_=>.bl true) [none,some (.ref g)] ?_ (small (by lia)) (λR r=>aMw m (λX G=>⟨_,rfl,G⟩) R r) (λv u e R l b r=>?_) rfl λD e b t=>?_
 ·exact lB 3 (by decide +kernel) rfl rfl (by trivial)
 ·exact⟨_,rfl,g,d,U,x,y,z,F,O,rfl,p.same b,M,_,rfl,v,rfl,p.same b,o v u e R b r⟩
 ·refine⟨D,c.map λ_=>true,rfl,SqL.of (by rw[t,bDZ];rfl),?_⟩;rw[show (c.map λ_=>true).all id=true by rw[List.all_map];exact List.all_eq_true.mpr λ_ _=>rfl];exact q e b
def aUj (K:bFH):Sp:=λvs H Q _=>∃(p:Addr) (v:V) (h m:Int),vs=[.ref p,.int m]/\SqT K H p [v,.int h]/\0<=h/\h<m/\∀H',Same H H'->Q (.bl true) H'
def aQy (T:Txt w K mg)(i:Ok P w K mg base 2 "is_number_below" ["thing","many"] wL):Ok P w K mg base 3 "is_cut" ["thing","houses"] (aUj K):=by
 refine Ok.ofV T.aUi aQ0 (by trivial) (λf g A a s H j Q E c h=>?_)
 obtain⟨p,v,h,m,rfl,b,d,e,q⟩:=h;refine⟨_,(aG (aL (iZ (aM jR (by rfl) T.cB bU (aB (vv 0) (aB (fX (v:=.ty "tuple") (by rfl) T.kO gQ rfl) aA))) (iZ (cR dW (aM bB (by rfl) T.eX cY (aB (vv 0) aA)) aC (aW _)) (iY (aN (i.mono (by decide)) c (by rfl) (aB (aK aX (vv 0) aC (λ_ _=>rfl)) (aB (vv 1) aA)))))))),?_⟩;refine⟨_,rfl,_,_,rfl,.tup b,_,rfl,eU ⟨_,rfl,_,_,rfl,.inr b,rfl,_,rfl,?_⟩⟩;refine eU ⟨_,rfl,p,_,1,_,rfl,rfl,b,at1 _ _ _,_,rfl,h,m,rfl,?_⟩;rw[t6 d,t6 e];exact q H (Same.refl H)
def aTb {x g y:Str}{env:Env}{b:Addr}(h:env.cells.lookup y=some b):closureFor { kind:=.function,names:=[(x,.local),(y,.free),(g,.globalImplicit)],isGenerator:=false,isCoroutine:=false,more:=[] } env=pure [(y,b)]:=by
 have a:cellOf env y=pure b:=by unfold cellOf;rw[h]
 simp[closureFor,a]
def lC (K:bFH)(H:Hp)(v:V)(c:V × Int):Prop:=∃p,v=.ref p/\SqT K H p [c.1,.int c.2]
def lC.same {K:bFH}{H H':Hp}{v:V}{c:V × Int}(e:Same H H')(h:lC K H v c):lC K H' v c:=by obtain⟨p,rfl,a⟩:=h;exact⟨p,rfl,e.bA a⟩
structure aHa (kd:Str)(m:Int)(h0:Int)(cs:List (V × Int)):Prop where
 first:0<=h0/\h0<m
 each:∀c∈cs,cM kd c.1/\0<=c.2/\c.2<m
 up:(cs.map (·.1)).Pairwise λa b=>vlt a b=true
 few:cs.length<=7
theorem aB2 {kd:Str}{v:V}(h:cM kd v):aM9 v=true/\kindS v=kd:=by
 cases h with
 |num=>exact⟨rfl,rfl⟩
 |@wrd x hx h8=>refine⟨?_,rfl⟩;show (false || (decide (0<=x.length) && (decide (x.length<=8) && allIn x)))=true;rw[allIn_of hx,t6 h8];rfl
theorem yR {kd:Str}{v:V}(h:cM kd v):Vl v:=by
 cases h with
 |num=>exact .inl ⟨_,rfl⟩
 |wrd hx h8=>exact .inr ⟨_,rfl,hx,h8⟩
def aYw {a b:V}{H:Hp}{Q:VK}(h:vlt a b=true)(q:Q (.bl true) H):bCj a b H Q:=by
 unfold vlt at h
 split at h
 ·exact .inl ⟨_,_,rfl,rfl,by rw[h];exact q⟩
 ·exact .inr ⟨_,_,rfl,rfl,by rw[h];exact q⟩
 ·cases h
def aPa (K:bFH)(Pt:Addr):Sp:=λvs H Q _=>∃(v:V) (kd:Str) (m h0:Int) (cs:List (V × Int)),vs=[v,.str kd,.int m]/\rG K H (lC K H) v ((.non,h0)::cs)/\aRa kd/\aHa kd m h0 cs/\H Pt=some (.tab qC)/\∀H',Same H H'->Q (.bl true) H'
def aKh (T:Txt w K mg){Pt:Addr}(C:aSz K mg "are_cuts" Pt)(hK:K.In base)(a4:BM mg base)(oG:Ok P w K mg base 5 "is_tuple_of" ["thing","least","most","is_part"] (aO0 P w K mg base 3))(a5:Ok P w K mg base 3 "is_cut" ["thing","houses"] (aUj K))
  (oM:Ok P w K mg base 3 "is_value_of" ["thing","kind"] (aLf K)):Ok P w K mg base 6 "are_cuts" ["thing","kind","houses"] (aPa K Pt):=by
 refine Ok.bDg T.aNa C hK zW (λvs H Q E h=>?_) (λf c A a0 s H vs Q E CH hr h=>?_)
 ·obtain⟨v,X,m,h0,o,rfl,_⟩:=h;rfl
 obtain⟨v,X,m,h0,o,rfl,⟨a,us,rfl,Z,Y⟩,a7,G,hP,q⟩:=h;have a3:=sU hr;refine⟨_,(aD (cA (VW.pt (gJ (cP (cG (aMx (iy:=2) oG hr (by rfl) (vv 0) aC (uL (by rfl) T.aIr) rfl CH a4 ⟨⟨_,_,_,_,rfl⟩,λ_ _ _ _ _=>rfl,rfl,rfl,rfl,by decide +kernel,rfl,rfl,rfl,by decide +kernel,by decide +kernel,by decide +kernel,by decide +kernel,by decide +kernel⟩ rfl rfl rfl rfl (aTb rfl) rfl))) (eZ (aY aAv (aK aX (aK aX (vv 0) aC (λ_ _=>rfl)) aC (λ_ _=>rfl)) jU (aW _))))) (aG (aL jO)) aZ) (aD (aOf (i0:=3) zW.nd rfl (by trivial) (N:=["cut"]) (by trivial) (mO (by decide +kernel)) rfl (rB (fQ aPl (vv 0) (iD aC) lA)) (λcl e d fp=>⟨(aO (i:=0) (show (["cut"]:List Str).Nodup from by decide +kernel) rfl (Or.inl rfl)),iH,(aK (bR (K:=K)) (vv 0) aC (λ_ _=>rfl))⟩)) (aD (cA (cP (cG (aM (mQ rfl) (by rfl) T.aBh vK (aB (cL (N:=["low","kind"]) (by trivial) (dZ (aF qN) rfl (by decide +kernel)) rfl (eN (vv 3)) (λcl e d fp=>⟨(aO (i:=0) (show (["low","kind"]:List Str).Nodup from by decide +kernel) rfl (Or.inl rfl)),iH,(aN (oM.mono (by decide)) hr (by rfl) (aB (vv 0) (aB (vv 1) aA)))⟩)) aA)))) (aG (aL jO)) aZ) (aG (aL (aM (mQ rfl) (by rfl) T.aBh vK (aB (cL (N:=["low","after"]) (by trivial) (mO (by decide +kernel)) rfl (aTj (by rfl) T.aX7 (aB (vv 3) (aB (fQ wG (vv 3) (iD aC) lA) aA))) (λcl e d fp=>⟨(tY (K:=K) (n:=2) rfl (bH (aO (i:=0) (show (["low","after"]:List Str).Nodup from by decide +kernel) rfl (Or.inl rfl)) (bH (aO (i:=1) (show (["low","after"]:List Str).Nodup from by decide +kernel) rfl (Or.inl rfl)) fV))),iH,(cR bAp (vv 0) (vv 1) (aW _))⟩)) aA))))))),?_⟩;have lu:=Y.len;have a6:=G.few;rw[v9] at lu;refine⟨_,rfl,.int m,rfl,hP,λlf U hL hT=>⟨a,1,8,lf,us,_,_,_,_,_,_,_,rfl,hT _ _ Z,by lia,by lia,by decide,hL,a5,λv hv d R I r=>?_,λH3 s3=>⟨s3,λH4 M=>?_⟩⟩⟩
 ·obtain⟨c,hc,p,rfl,hp⟩:=Y.mem hv;have V:0<=c.2/\c.2<m:=by
   rcases List.mem_cons.mp hc with rfl|hc
   ·exact G.first
   ·exact (G.each c hc).2
  exact⟨p,c.1,c.2,m,rfl,I.bA (hT _ _ hp),V.1,V.2,λU s2=>r U s2⟩
 obtain⟨u0,ut,rfl,⟨p0,rfl,a1⟩,J⟩:∃u0 ut,us=u0::ut/\lC K H u0 (.non,h0)/\cV (lC K H) ut o:=by
  cases Y with
  |cons r t=>exact⟨_,_,rfl,r,t⟩
 refine⟨_,rfl,bZ ?_⟩;refine⟨_,rfl,a,_,0,_,rfl,rfl,M.bA Z,at0 _ _,p0,_,0,_,rfl,rfl,M.bA a1,at0 _ _,rfl,_,rfl,bZ ?_⟩;dsimp only[rZ,cD,aDl,aAm];have lt:=J.len;refine xK [none] yC ⟨_,rfl,_,rfl,a,_,rfl,M.bA Z,λts H5 s5 O=>?_⟩;rw[show (1:Int)=((1:Nat):Int) from rfl,zQ,List.drop_one,List.tail_cons] at O;refine⟨ts,rfl,⟨_,O⟩,aM2 (aF7 λd e=>e.bA O) (xT λd e=>e.bA O) ⟨none,rfl⟩ (by lia) (o.map (·.1)) (by rw[j9];lia) (λi x z F B d R l I r=>?_) λL H6 s6 nL S=>?_⟩
 ·obtain⟨c',j,p',rfl,a2⟩:=cJ J F;rw[v6,j] at B;cases B;exact⟨_,rfl,p',_,0,_,rfl,rfl,(M.trans (s5.trans I)).bA a2,at0 _ _,r d (Same.refl _)⟩
 have g:∀n:Nat,(List.replicate n true).all id=true:=λn=>List.all_eq_true.mpr λb V=>(bBV V);dsimp only[aJ5,aZ4,tB,tCB,fG,List.set];refine iW [none,some (.str X)] (lB 1 (by decide +kernel) rfl rfl (by trivial)) ⟨_,rfl,L,rfl,⟨_,SqL.of S⟩,aM2 (aM7 λd e=>SqL.of (e _ _ S)) (aBn λd e=>SqL.of (e _ _ S)) ⟨none,rfl⟩ (by rw[j9];lia) (List.replicate o.length (.bl true)) (by rw[bDQ,j9]) (λi x z F B d R l I r=>?_) λD H7 s7 _ g7=>?_⟩
 ·rw[v6] at F;obtain⟨c',j,rfl⟩:=Option.map_eq_some_iff.mp F;have u:=bBV (t7 B);subst u;have hk:=(G.each c' (t7 j)).1;obtain⟨v1,v2⟩:=aB2 hk;refine⟨_,rfl,_,rfl,c'.1,X,rfl,(yR hk).th,λU s2=>?_⟩;rw[v1,v2,t6 rfl];exact r U s2
 refine⟨D,List.replicate o.length true,rfl,SqL.of (by rw[g7,bEA]),?_⟩;rw[g];refine⟨_,rfl,bZ ?_⟩;dsimp only[rZ,tV,tCB,fG];have k:=s7 _ _ S;refine aUg [none,none] uB ⟨_,rfl,_,rfl,_,rfl,L,_,rfl,SqL.of k,λW H8 _ s8 g8=>?_⟩;rw[show (1:Int)=((1:Nat):Int) from rfl,zQ] at g8;refine⟨L,W,_,_,rfl,SqL.of (s8 _ _ k),SqL.of g8,aIo (SqL.of (s8 _ _ k)) (SqL.of g8) (by rw[bBY];lia) ⟨none,none,rfl⟩ (by rw[bBY,j9];lia) (List.replicate ((o.map (·.1)).drop 1).length (.bl true)) (by rw[bDQ]) (λi x y z F ey B d R I r=>?_) λD2 H9 s9 g9=>?_⟩
 ·have u:=bBV (t7 B);subst u;rw[List.getElem?_drop] at ey;obtain⟨hi,rfl⟩:=List.getElem?_eq_some_iff.mp F;obtain⟨hj,rfl⟩:=List.getElem?_eq_some_iff.mp ey;exact⟨_,rfl,_,rfl,aYw ((List.pairwise_iff_getElem.mp G.up) i (1+i) hi hj (by lia)) (r d (Same.refl _))⟩
 ·refine⟨D2,List.replicate ((o.map (·.1)).drop 1).length true,rfl,SqL.of (by rw[g9,bEA]),?_⟩;rw[g];exact q H9 (M.trans (s5.trans (s6.trans (s7.trans (s8.trans s9)))))
def aQh (hd:Hdr):Prop:=Good hd/\∀c∈hd,Nm c.1/\aRa c.2
def aJm (K:bFH):Sp:=λvs H Q _=>∃(v:V) (hd:Hdr),vs=[v]/\lJ K H v hd/\aQh hd/\∀H',Same H H'->Q (.bl true) H'
def bY (K:bFH)(H:Hp)(D:Addr)(rs:List (List V)):Prop:=∃us,H D=some (.lst us)/\cV (cI K H) us rs
theorem bY.same {H H':Hp}{D:Addr}{rs:List (List V)}(e:Same H H')(h:bY K H D rs):bY K H' D rs:=by obtain⟨a,b,c⟩:=h;exact⟨a,e _ _ b,c.imp λ_ _ r=>r.same e⟩
def aJf (T:Txt w K mg)(L:Ok P w K mg base 3 "is_column" ["thing"] (bA7 (aGz K)))(W:Ok P w K mg base 4 "is_tuple_of" ["thing","least","most","is_part"] (aK4 P w K mg base 3))
  (O:Ok P w K mg base 1 "are_unlike" ["names"] (aEo K)) (Y:Ok P w K mg base 1 "names_of" ["head"] (aFw K)):Ok P w K mg base 5 "is_head" ["thing"] (aJm K):=by
 refine Ok.ofV T.aP8 aMy (by trivial) (λf J A j s H Z Q E k h=>?_)
 obtain⟨v,hd,rfl,⟨a,y,rfl,n,i⟩,b,q⟩:=h;obtain⟨o,I,C⟩:=L.held;have l:∃u,mg "is_column"=some u/\RelV (.ref o) u:=⟨_,I,rfl⟩;refine⟨_,(aG (aL (iZ (aN (W.mono (by decide)) k (by rfl) (aB (vv 0) (aB aC (aB (uL (by rfl) T.aCm) (aB (uL (by rfl) l) aA))))) (iY (aN (O.mono (by decide)) k (by rfl) (aB (aN (Y.mono (by decide)) k (by rfl) (aB (vv 0) aA)) aA)))))),?_⟩;have lu:=i.len;have l1:=b.1.2.1;have X:=b.1.2.2;have d:y.all (λ_=>true)=true:=List.all_eq_true.mpr λ_ _=>rfl;have G:aEx K (aGz K) 1 8 H (.ref a) true:=by
  have:=aEx.yes (K:=K) (R:=aGz K) (lo:=1) (hi:=8) (H:=H) (λ_=>true) n (by lia) (by lia) (λx S=>by
   obtain⟨c,M,p,rfl,N⟩:=i.mem S;obtain⟨r,t⟩:=b.2 c M;have g:Th K H (.str c.2):=aMi (by rcases t with e|e <;> rw[e] <;> decide +kernel);have z:=aGz.two (K:=K) (H:=H) N r.th g;have e:(nameB (.str c.1) && (isS (.str c.2) && inV (.str c.2) kinds))=true:=by rw[show nameB (.str c.1)=true from r];rcases t with e|e <;> rw[e] <;> decide +kernel
   rw[e] at z;exact z)
  rw[d] at this;exact this
 refine⟨_,rfl,_,1,8,o,_,_,_,rfl,by decide,C,aRc K,G,λH1 m=>⟨_,rfl,eU ?_⟩⟩;refine⟨_,rfl,.ref a,hd,rfl,lJ.same m ⟨a,y,rfl,n,i⟩,by lia,λD H2 U V=>?_⟩;refine⟨D,hd.map (·.1),rfl,SqL.of V,by rw[j9];lia,λB F=>?_⟩;rw[t6 ((aRn _).mpr b.1.1)];exact q B ((m.trans U).trans F)
def jQ (hd:Hdr)(r:List V):Prop:=cV (λc v=>cM c.2 v) hd r
def aAy (K:bFH):Sp:=λvs H Q _=>∃(vh v:V) (hd:Hdr) (r:List V),vs=[vh,v]/\lJ K H vh hd/\hd.length<=1000/\cI K H v r/\jQ hd r/\∀H',Same H H'->Q (.bl true) H'
def aLu (T:Txt w K mg)(oM:Ok P w K mg base 3 "is_value_of" ["thing","kind"] (aLf K)):Ok P w K mg base 4 "is_row" ["head","thing"] (aAy K):=by
 refine Ok.ofV T.aSr aQv (by trivial) (λf J A m s H vs Q E O h=>?_)
 obtain⟨vh,v,hd,r,rfl,⟨b,k,rfl,B,z⟩,hl,⟨a,rfl,o⟩,j,q⟩:=h;have lc:=z.len;have lr:=j.len;refine⟨_,(aD (cA (VW.pt (gJ (cP (cG (aM jR (by rfl) T.cB bU (aB (vv 1) (aB (fX (v:=.ty "tuple") (by rfl) T.kO gQ rfl) aA))))) (eZ (aY aBl (aM bB (by rfl) T.eX cY (aB (vv 1) aA)) (aM bB (by rfl) T.eX cY (aB (vv 0) aA)) (aW _))))) (aG (aL jO)) aZ) (aG (aL (aM (mQ rfl) (by rfl) T.aBh vK (aB (cL (N:=["value","column"]) (by trivial) (mO (by decide +kernel)) rfl (aVz (by rfl) T.aX7 (aB (vv 1) (aB (vv 0) aA))) (λcl s' u Z=>⟨(tY (K:=K) (n:=2) rfl (bH (aO (i:=0) (show (["value","column"]:List Str).Nodup from by decide +kernel) rfl (Or.inl rfl)) (bH (aO (i:=1) (show (["value","column"]:List Str).Nodup from by decide +kernel) rfl (Or.inl rfl)) fV))),iH,(aN (oM.mono (by decide)) O (by rfl) (aB (vv 0) (aB (aK (bR (K:=K)) (vv 1) aC (λ_ _=>rfl)) aA)))⟩)) aA))))),?_⟩;refine⟨_,rfl,_,_,rfl,.tup o,_,rfl,bZ ?_⟩;refine⟨_,rfl,_,_,rfl,.inr o,_,rfl,_,_,rfl,.inr B,rfl,_,rfl,?_⟩;have e:(!decide (V.int (r.length:Nat)=V.int (k.length:Nat)))=false:=by rw[show r.length=k.length by lia];simp
 rw[e];refine bZ ?_;dsimp only[rZ,tV,tCB,fG];refine aRw r k (λ_ _=>.bl true) [none,none] uB (small (by lia)) (by lia) o B (λR r=>⟨_,rfl,_,rfl,r⟩) (λi x c I L u R l1 l2 l G=>?_) rfl rfl λD u l Y=>?_
 ·obtain⟨S,t,p,rfl,X⟩:=cJ z L;obtain⟨x',g,y⟩:=cJ j t;rw[I] at g;cases g;obtain⟨U,M⟩:=aB2 y;refine⟨_,rfl,_,rfl,p,_,1,_,rfl,rfl,l.bA X,at1 _ _ _,x,S.2,rfl,(yR y).th,λW F=>?_⟩;rw[U,M,t6 rfl];exact G W F
 ·have C:List.zipWith (λ_ _:V=>V.bl true) r k=(List.replicate r.length true).map V.bl:=by rw[bEA];refine List.eq_replicate_iff.mpr ⟨by rw[bE2];lia,λb d=>?_⟩;obtain⟨i,hi,rfl⟩:=bBC d;rw[List.getElem_zipWith]
  refine⟨D,List.replicate r.length true,rfl,SqL.of (by rw[Y,C]),?_⟩;rw[show (List.replicate r.length true).all id=true from List.all_eq_true.mpr λb d=>bBV d];exact q u l
def aKe (K:bFH):Sp:=λvs H Q _=>∃(vh:V) (hd:Hdr) (n:Str),vs=[vh,.str n]/\lJ K H vh hd/\hd.length<=1000/\Nm n/\n∈hd.map (·.1)/\∀H',Same H H'->Q (.bl true) H'
def aAf (T:Txt w K mg)(u:Ok P w K mg base 2 "is_name" ["thing"] (aD8 K nameB))(p:Ok P w K mg base 1 "names_of" ["head"] (aFw K)):Ok P w K mg base 3 "is_column_in" ["head","thing"] (aKe K):=by
 refine Ok.ofV T.aC8 aAp (by trivial) (λf i A a s H r Q E b h=>?_)
 obtain⟨j,hd,n,rfl,k,m,e,l,q⟩:=h;refine⟨_,(aG (aL (iZ (aN (u.mono (by decide)) b (by rfl) (aB (vv 1) aA)) (iY (cR zE (vv 1) (aN (p.mono (by decide)) b (by rfl) (aB (vv 0) aA)) (by with_unfolding_all rfl)))))),?_⟩;refine⟨_,rfl,_,rfl,e.th,λt c=>⟨_,rfl,?_⟩⟩;rw[show nameB (.str n)=true from e];refine eU ⟨_,rfl,_,rfl,j,hd,rfl,k.same c,m,λD d g o=>?_⟩;refine⟨D,_,rfl,.inl (SqL.of o),rfl,aJk,?_⟩;show Q (.bl (inV (.str n) _)) d;rw[aO9,t6 l];exact q d (c.trans g)
inductive Plc where
 |copies
 |keys (n:Str)
 |spans (n:Str) (h0:Int) (cs:List (V × Int))
def rA (K:bFH)(H:Hp)(v:V):Plc->Prop
 |.copies=>∃a,v=.ref a/\SqT K H a [.str "copies"]
 |.keys n=>∃a,v=.ref a/\SqT K H a [.str "keys",.str n]
 |.spans n h0 cs=>∃a vc,v=.ref a/\SqT K H a [.str "spans",.str n,vc]/\rG K H (lC K H) vc ((.non,h0)::cs)
theorem rA.same {K:bFH}{H H':Hp}{v:V}{pl:Plc}(e:Same H H')(h:rA K H v pl):rA K H' v pl:=by
 cases pl with
 |copies=>obtain⟨a,rfl,b⟩:=h;exact⟨a,rfl,e.bA b⟩
 |keys n=>obtain⟨a,rfl,b⟩:=h;exact⟨a,rfl,e.bA b⟩
 |spans n h0 cs=>obtain⟨a,d,rfl,b,c⟩:=h;exact⟨a,d,rfl,e.bA b,rG.same e (λ_ _ q=>q.same e) c⟩
def aXi (hd:Hdr)(m:Int):Plc->Prop
 |.copies=>True
 |.keys n=>Nm n/\∃k,look hd n=some k
 |.spans n h0 cs=>Nm n/\∃k,look hd n=some k/\aRa k/\aHa k m h0 cs
def aCd {hd:Hdr}{n k:Str}(h:look hd n=some k):n∈hd.map (·.1):=by obtain⟨i,a,_⟩:=aF0 h;exact List.mem_map.mpr ⟨_,t7 a,rfl⟩
def nP {c:Bool}{p q:Prop}(h:c=true)(a:p):if c=true then p else q:=by rw[if_pos h];exact a
def gO {c:Bool}{p q:Prop}(h:c=false)(a:q):if c=true then p else q:=by rw[if_neg (by rw[h];exact v4)];exact a
def aYi (K:bFH)(Pt:Addr):Sp:=λvs H Q _=>∃(v vh:V) (m:Int) (hd:Hdr) (pl:Plc),vs=[v,vh,.int m]/\rA K H v pl/\lJ K H vh hd/\hd.length<=1000/\aXi hd m pl/\H Pt=some (.tab qC)/\∀H',Same H H'->Q (.bl true) H'
def th8 {K:bFH}{H:Hp}{x:Str}(h:x.length<=8):Th K H (.str x):=aMi h
theorem aDu (T:Txt w K mg){Pt:Addr}(M:Ok P w K mg base 1 "is_one_of" ["thing","texts"] (aLr K))(U:Ok P w K mg base 3 "is_column_in" ["head","thing"] (aKe K))(Y:Ok P w K mg base 1 "kind_in" ["head","name"] (aUz K))(V:Ok P w K mg base 6 "are_cuts" ["thing","kind","houses"] (aPa K Pt)):Ok P w K mg base 7 "is_placing" ["thing","head","houses"] (aYi K Pt):=by
 refine Ok.ofV T.aHj aDh (by trivial) (λf X A t s H vs Q E j h=>?_)
 obtain⟨v,F,m,hd,R,rfl,i,x,N,o,O,q⟩:=h;refine⟨_,(aD (cA (VW.pt (gJ (cP (cG (aM jR (by rfl) T.cB bU (aB (vv 0) (aB (fX (v:=.ty "tuple") (by rfl) T.kO gQ rfl) aA))))) (eZ (aY dW (aM bB (by rfl) T.eX cY (aB (vv 0) aA)) aC (aW _))))) (aG (aL jO)) aZ) (aD (cA (cG (aN (M.mono (by decide)) j (by rfl) (aB (aK aX (vv 0) aC (λ_ _=>rfl)) (aB (dR (aB bN aA)) aA)))) (aG (aL (cR dW (aM bB (by rfl) T.eX cY (aB (vv 0) aA)) aC (aW _)))) aZ) (aD (cA (cG (aN (M.mono (by decide)) j (by rfl) (aB (aK aX (vv 0) aC (λ_ _=>rfl)) (aB (dR (aB bN aA)) aA)))) (aG (aL (iZ (cR dW (aM bB (by rfl) T.eX cY (aB (vv 0) aA)) aC (aW _)) (iY (aN (U.mono (by decide)) j (by rfl) (aB (vv 1) (aB (aK aX (vv 0) aC (λ_ _=>rfl)) aA))))))) aZ) (aD (cA (VW.pt (gJ (cP (cG (aN (M.mono (by decide)) j (by rfl) (aB (aK aX (vv 0) aC (λ_ _=>rfl)) (aB (dR (aB bN aA)) aA))))) (gJ (aY aBl (aM bB (by rfl) T.eX cY (aB (vv 0) aA)) aC (aW _)) (eZ (cP (cG (aN (U.mono (by decide)) j (by rfl) (aB (vv 1) (aB (aK aX (vv 0) aC (λ_ _=>rfl)) aA))))))))) (aG (aL jO)) aZ) (aG (aL (aN (V.mono (by decide)) j (by rfl) (aB (aK aX (vv 0) aC (λ_ _=>rfl)) (aB (aN (Y.mono (by decide)) j (by rfl) (aB (vv 1) (aB (aK aX (vv 0) aC (λ_ _=>rfl)) aA))) (aB (vv 2) aA)))))))))),?_⟩;cases R with
 |copies=>obtain⟨a,rfl,b⟩:=i;refine⟨_,rfl,_,_,rfl,.tup b,_,rfl,bZ ⟨_,rfl,_,_,rfl,.inr b,rfl,_,rfl,bZ ?_⟩⟩;refine⟨_,rfl,a,_,0,_,rfl,rfl,b,at0 _ _,by show 1<=sizeLine;decide,λp I _ g l=>⟨_,p,_,rfl,th8 (by decide +kernel),SqT.of l,rfl,_,rfl,nP (by decide +kernel) ?_⟩⟩;refine⟨_,rfl,_,_,rfl,.inr (g.bA b),rfl,?_⟩;exact q I g
 |keys n=>obtain⟨a,rfl,b⟩:=i;obtain⟨u,k,r⟩:=o;refine⟨_,rfl,_,_,rfl,.tup b,_,rfl,bZ ⟨_,rfl,_,_,rfl,.inr b,rfl,_,rfl,bZ ?_⟩⟩;refine⟨_,rfl,a,_,0,_,rfl,rfl,b,at0 _ _,by show 1<=sizeLine;decide,λp I _ g l=>⟨_,p,_,rfl,th8 (by decide +kernel),SqT.of l,rfl,_,rfl,gO (by decide +kernel) ?_⟩⟩;refine⟨_,rfl,a,_,0,_,rfl,rfl,g.bA b,at0 _ _,by show 1<=sizeLine;decide,λy H2 _ B G=>⟨_,y,_,rfl,th8 (by decide +kernel),SqT.of G,rfl,_,rfl,nP (by decide +kernel) ?_⟩⟩;have c:=g.trans B;refine⟨_,rfl,_,_,rfl,.inr (c.bA b),rfl,_,rfl,eU ?_⟩;exact⟨_,rfl,_,rfl,a,_,1,_,rfl,rfl,c.bA b,at1 _ _ _,F,hd,n,rfl,x.same c,N,u,aCd r,λC L=>q C (c.trans L)⟩
 |spans n h0 cs=>obtain⟨a,Z,rfl,b,hc⟩:=i;obtain⟨u,k,r,D,J⟩:=o;refine⟨_,rfl,_,_,rfl,.tup b,_,rfl,bZ ⟨_,rfl,_,_,rfl,.inr b,rfl,_,rfl,bZ ?_⟩⟩;refine⟨_,rfl,a,_,0,_,rfl,rfl,b,at0 _ _,by show 1<=sizeLine;decide,λp I _ g l=>⟨_,p,_,rfl,th8 (by decide +kernel),SqT.of l,rfl,_,rfl,gO (by decide +kernel) ?_⟩⟩;refine⟨_,rfl,a,_,0,_,rfl,rfl,g.bA b,at0 _ _,by show 1<=sizeLine;decide,λy H2 _ B G=>⟨_,y,_,rfl,th8 (by decide +kernel),SqT.of G,rfl,_,rfl,gO (by decide +kernel) ?_⟩⟩;have c:=g.trans B;refine⟨_,rfl,a,_,0,_,rfl,rfl,c.bA b,at0 _ _,by show 1<=sizeLine;decide,λt3 H3 _ S W=>⟨_,t3,_,rfl,th8 (by decide +kernel),SqT.of W,rfl,_,rfl,gO (by decide +kernel) ?_⟩⟩;have e:=c.trans S;refine⟨_,rfl,_,_,rfl,.inr (e.bA b),rfl,_,rfl,bZ ?_⟩;refine⟨_,rfl,_,rfl,a,_,1,_,rfl,rfl,e.bA b,at1 _ _ _,F,hd,n,rfl,x.same e,N,u,aCd r,λH4 s4=>⟨_,rfl,bZ ?_⟩⟩;have d:=e.trans s4;refine⟨_,rfl,a,_,2,_,rfl,rfl,d.bA b,at2 _ _ _ _,_,rfl,_,rfl,a,_,1,_,rfl,rfl,d.bA b,at1 _ _ _,F,n,hd,k,rfl,x.same d,r,_,rfl,?_⟩;exact⟨Z,k,m,h0,cs,rfl,rG.same d (λ_ _ z=>z.same d) hc,D,J,d _ _ O,λC L=>q C (d.trans L)⟩
def aI7 (K:bFH):Sp:=λvs H Q _=>∃(L:Addr) (vh:V) (hd:Hdr) (rows:List (List V)),vs=[.ref L,vh]/\lJ K H vh hd/\hd.length<=1000/\bY K H L rows/\rows.length<=1000/\(∀r∈rows,jQ hd r)/\∀H',Same H H'->Q (.bl true) H'
def aJ3 (T:Txt w K mg)(rK:Ok P w K mg base 4 "is_row" ["head","thing"] (aAy K)):Ok P w K mg base 5 "are_rows" ["thing","head"] (aI7 K):=by
 refine Ok.ofV T.aL3 aK7 (by trivial) (λf J A e s H vs Q E M h=>?_)
 obtain⟨L,y,hd,p,rfl,G,W,⟨c,a,t⟩,Y,m,q⟩:=h;refine⟨_,(aG (aL (iZ (aM aQq (by rfl) T.cB bU (aB (vv 0) (aB (fX (v:=.ty "list") (by rfl) T.aA4 wB rfl) aA))) (iY (aM (mQ rfl) (by rfl) T.aBh vK (aB (cL (N:=["row","head"]) (by trivial) (dZ (aF pN) rfl (by decide +kernel)) rfl (eN (vv 0)) (λZ d j X=>⟨(aO (i:=0) (show (["row","head"]:List Str).Nodup from by decide +kernel) rfl (Or.inl rfl)),iH,(aN (rK.mono (by decide)) M (by rfl) (aB (vv 1) (aB (vv 0) aA)))⟩)) aA)))))),?_⟩;have lu:=t.len;refine⟨_,rfl,L,c,rfl,SqL.of a,_,rfl,eU ?_⟩;dsimp only[tV,tCB,fG];refine iW [none,some y] (lB 1 (by decide +kernel) rfl rfl (by trivial)) ⟨_,rfl,L,rfl,⟨_,SqL.of a⟩,aM2 (aM7 λj d=>SqL.of (d _ _ a)) (aBn λj d=>SqL.of (d _ _ a)) ⟨none,rfl⟩ (by lia) (List.replicate c.length (.bl true)) (by rw[bDQ]) (λi x z I F j R l o r=>?_) λD U B _ C=>?_⟩
 ·have g:=bBV (t7 F);subst g;obtain⟨u,n,V⟩:=cJ t I;exact⟨_,rfl,_,rfl,y,x,hd,u,rfl,G.same o,W,V.same o,m u (t7 n),λS O=>r S O⟩
 ·refine⟨D,List.replicate c.length true,rfl,SqL.of (by rw[C,bEA]),?_⟩;rw[show (List.replicate c.length true).all id=true from List.all_eq_true.mpr λb k=>bBV k];exact q U B
structure Tb where
 hd:Hdr
 pl:Plc
 rows:List (List V)
def oX (K:bFH)(H:Hp)(v:V)(vh vp:V)(L:Addr)(t:Tb):Prop:=∃a,v=.ref a/\SqT K H a [vh,vp,.ref L]/\lJ K H vh t.hd/\rA K H vp t.pl/\bY K H L t.rows
structure mD (m:Int)(t:Tb):Prop where
 hd:aQh t.hd
 pl:aXi t.hd m t.pl
 few:t.rows.length<=60
 rows:∀r∈t.rows,jQ t.hd r
def aX8 (K:bFH)(Pt:Addr):Sp:=λvs H Q _=>∃(v vh vp:V) (L:Addr) (m:Int) (t:Tb),vs=[v,.int m]/\oX K H v vh vp L t/\mD m t/\H Pt=some (.tab qC)/\∀H',Same H H'->Q (.bl true) H'
def aKu (T:Txt w K mg){Pt:Addr}(z:Ok P w K mg base 5 "is_head" ["thing"] (aJm K))(y:Ok P w K mg base 7 "is_placing" ["thing","head","houses"] (aYi K Pt))(p:Ok P w K mg base 5 "are_rows" ["thing","head"] (aI7 K)):Ok P w K mg base 8 "is_table" ["thing","houses"] (aX8 K Pt):=by
 refine Ok.ofV T.aLk aJ8 (by trivial) (λf x A i s H F Q E k h=>?_)
 obtain⟨v,l,r,L,m,t,rfl,⟨a,rfl,c,j,g,u⟩,e,n,q⟩:=h;have J:=e.hd.1.2.2;have B:=e.few;refine⟨_,(aD (cA (VW.pt (gJ (cP (cG (aM jR (by rfl) T.cB bU (aB (vv 0) (aB (fX (v:=.ty "tuple") (by rfl) T.kO gQ rfl) aA))))) (gJ (aY aBl (aM bB (by rfl) T.eX cY (aB (vv 0) aA)) aC (aW _)) (eZ (cP (cG (aN (z.mono (by decide)) k (by rfl) (aB (aK aX (vv 0) aC (λ_ _=>rfl)) aA)))))))) (aG (aL jO)) aZ) (aG (aL (iZ (aN (y.mono (by decide)) k (by rfl) (aB (aK aX (vv 0) aC (λ_ _=>rfl)) (aB (aK aX (vv 0) aC (λ_ _=>rfl)) (aB (vv 1) aA)))) (iY (aN (p.mono (by decide)) k (by rfl) (aB (aK aX (vv 0) aC (λ_ _=>rfl)) (aB (aK aX (vv 0) aC (λ_ _=>rfl)) aA)))))))),?_⟩;refine⟨_,rfl,_,_,rfl,.tup c,_,rfl,bZ ⟨_,rfl,_,_,rfl,.inr c,rfl,_,rfl,bZ ?_⟩⟩;refine⟨_,rfl,a,_,0,_,rfl,rfl,c,at0 _ _,l,t.hd,rfl,j,e.hd,λI d=>⟨_,rfl,bZ ?_⟩⟩;refine⟨_,rfl,a,_,1,_,rfl,rfl,d.bA c,at1 _ _ _,_,rfl,a,_,0,_,rfl,rfl,d.bA c,at0 _ _,_,rfl,r,l,m,t.hd,t.pl,rfl,g.same d,j.same d,by lia,e.pl,d _ _ n,λG D=>⟨_,rfl,eU ?_⟩⟩;have b:=d.trans D;exact⟨_,rfl,a,_,2,_,rfl,rfl,b.bA c,at2 _ _ _ _,_,rfl,a,_,0,_,rfl,rfl,b.bA c,at0 _ _,L,l,t.hd,t.rows,rfl,j.same b,by lia,u.same b,by lia,e.rows,λo C=>q o (b.trans C)⟩
end
end My
namespace L2
open PySem PySem.Spec PyProof.Rows
section
variable {X:Cx}{bFL:bFJ}{σ:L2.St}{H:Hp}{s:Shared}{d:Addr}{o:Obj}{kvs:List (Key × V)}
def aV1 {u l:HO}(i:HOk X.prog X.w H s.heap)(hd:H d=some u)(k:∀xs,u≠.tup xs)(j:∀a,u≠.own a)(h:dH X.prog X.w H s.heap d l):HOk X.prog X.w (upd H d l) s.heap:=by
 have g:∀{b v},dH X.prog X.w H s.heap b v->dH X.prog X.w (upd H d l) s.heap b v:=λ{b v} z=>z.stay (λ_ _ _ q=>q) (λc q=>by
  rw[aP (λe=>by subst e;rw[hd] at q;exact j _ (bAP q))];exact q) λc xs q=>by
  rw[aP (λe=>by subst e;rw[hd] at q;exact k _ (bAP q))];exact q
 intro b v e;by_cases f:b=d
 ·subst f;rw[aH] at e;cases e;exact g h
 ·rw[aP f] at e;exact g (i b v e)
def Inv.setd {u t:HO}(I:Inv X bFL σ H s)(hd:H d=some u)(k:∀xs,u≠.tup xs)(r:∀a,u≠.own a)(y:∀ps,u≠.tbl ps)(A:∀ob v,X.H₀ d≠some (.frz ob v))(h:dH X.prog X.w H s.heap d t):Inv X bFL σ (upd H d t) s:=by
 have g:∀{b},H b=none->upd H d t b=none:=λ{b} e=>by rw[aP (λz=>by subst z;rw[hd] at e;cases e)];exact e
 refine⟨I.ok,I.os,I.bare,⟨I.base.keep,I.base.slot,λb ob e n o=>g (I.base.free b ob e n o),I.base.there,λb xs e=>?_,λb ob v e=>?_,λb ps e=>?_⟩,I.loc,I.cell,g I.free,λx c e=>g (I.freeC x c e),λp m=>?_,aV1 I.hok hd k r h,I.len⟩
 ·have q:=I.base.tups b xs e;rw[aP (λz=>by subst z;rw[hd] at q;exact k _ (bAP q))];exact q
 ·have q:=I.base.frzs b ob v e;rw[aP (λz=>by subst z;exact A _ _ e)];exact q
 ·obtain⟨f,q⟩:=I.base.tbls b ps e;refine⟨f,?_⟩;rw[aP (λz=>by subst z;rw[hd] at q;exact y _ (bAP q))];exact q
 ·obtain⟨l,i,j⟩:=I.pin p m;exact⟨l,g i,j⟩
end
def aN1 {P:Program}{w:World}{H:Hp}{h:Heap}{d:Addr}{o:Obj}{kvs:List (Key × V)}{es:Array DictEntry}{ep:Nat}(b:o.data=.dict es ep)(m:dH P w H h d (.frz o (.dK kvs))):∃vs,KV kvs vs/\h.DictAt (bL P w) d vs ep:=by obtain⟨e,_,_,vs,a,⟨l,j,i,c,g,f,k⟩⟩:=m;rw[e] at c;cases c;rw[b] at f;cases f;exact⟨vs,a,o,es,e,g,b,k⟩
section
variable {X:Cx}{tg:Expr}
def bB3 (d:Addr)(kvs:List (Key × V))(D:Ends):Ends:={ nx:=fun σ H=>(∃o,H d=some (.frz o (.dK kvs)))/\D.nx σ (upd H d (.dK kvs)),rt:=λv H=>(∃o,H d=some (.frz o (.dK kvs)))/\D.rt v (upd H d (.dK kvs)) }
def bCa (X:Cx)(t:TS):TS:=λD σ H=>∃d kvs,H d=some (.dK kvs)/\((∀ob u,X.H₀ d≠some (.frz ob u))->t (bB3 d kvs D) σ H)
theorem aX4 {st:Stmt}{t:TS}(h:VS X st t):VS X st (bCa X t):=⟨by
 intro b s σ H D I ⟨d,k,hd,q⟩;have w:∀n u,X.H₀ d≠some (.frz n u):=λn u e=>by have:=I.base.frzs d n u e;rw[hd] at this;cases this
 have a:∀{c g m o},Inv X b c g m->g d=some (.frz o (.dK k))->Inv X b c (upd g d (.dK k)) m:=λ{c g m o} j i=>j.setd i (λ_ z=>by cases z) (λ_ z=>by cases z) (λ_ z=>by cases z) w (j.hok d _ i).2;refine thn (h.1 b s σ H _ I (q w)) λf m l=>?_;cases f with
 |next=>obtain⟨c,g,j,⟨o,i⟩,p⟩:=l;exact⟨c,_,a j i,p⟩
 |brk=>obtain⟨_,_,_,z⟩:=l;exact z.elim
 |cont=>obtain⟨_,_,_,z⟩:=l;exact z.elim
 |ret u=>obtain⟨v,c,g,j,r,⟨o,i⟩,p⟩:=l;exact⟨v,c,_,a j i,r,p⟩⟩
end
end L2
namespace PySem
section
variable {prog:Program}{w:World}{K:Type}[DecidableEq K]{knd:HeapKind prog w K}{A:Around}{E:bFI}{s:Shared}
end
end PySem
namespace L2
open PySem PySem.Spec PyProof.Rows
section
variable {X:Cx}
end
end L2
namespace PySem
section
variable {prog:Program}{w:World}{A:Around}{E:bFI}{s:Shared}
end
end PySem
namespace L2
open PySem PySem.Spec PyProof.Rows
section
variable {X:Cx}{tg:Expr}
end
end L2
namespace PySem
section
variable {prog:Program}{w:World}{A:Around}{E:bFI}{s:Shared}
def aVq {it d:Addr}{i ep:Nat}{od:Obj}{es:Array DictEntry}{C l:Value}{Q:Option Value->Shared->Prop}(t:IsItemIter s.heap it d i es.size ep C l)(W:s.heap.get? d=some od)(M:od.data=.dict es ep)(lt:i<es.size)
  (q:∀h',IsItemIterOut h' it d (i+1) es.size ep es[i].key es[i].val s.heap.objs.size->h'.get? s.heap.objs.size=some { cls:=.type "tuple",data:=.seq #[es[i].key,es[i].val] }->h'.objs.size=s.heap.objs.size+1 ->
   (∀b o,b≠it->s.heap.get? b=some o->h'.get? b=some o)->Q (some (.ref s.heap.objs.size)) { s with heap:=h' }):wpAny (model prog w) A (pyNext (.ref it)) Q E s:=by
 have k:s.TypeIs (.ref it) "dict_itemiterator":=⟨_,t,rfl⟩;have N:it<s.heap.objs.size:=m9 t;unfold pyNext;refine c7 (bCB (bAH (name:="__next__") k F.slot_dict_itemiterator_next (bAE F.slot_dict_itemiterator_next k F.entry_dict_itemiterator_next (c7 (d9 (c7 (c7 ?_)))) (F.args_dict_itemiterator_next_1 _))));refine c7 (bCO k (d9 (c7 (bDW t rfl ?_))));rw[show Builtin.Dict_items.ownsTuple "dict_itemiterator"=true from by decide];simp only[if_true];have L:¬ ((Value.ref d == Value.none)=true):=v4;show wpAny _ _ (ite ((Value.ref d == Value.none)=true) _ _) _ _ _;rw[if_neg L];refine c7 (d9 (c7 (bFD W M ?_)));rw[if_neg (by simp)];refine c7 (d9 (c7 (wpAny_dictEpoch W M ?_)));rw[if_neg (by simp)];have V:¬ ((i:Int)<0):=by lia
 refine d9 ?_;simp only[V,if_false,bAR,m8 lt];refine c7 (c7 (bCO k (d9 (c7 (bEN k ?_)))));show wpAny _ _ (setField (.ref it) 3 (rawInt ((i:Int)+1)) >>= _) _ _ s;refine c7 (bAI t (by simp) λa T B=>?_);have y:IsItemIter a it d (i+1) es.size ep C l:=by
  have z:((i+1:Nat):Int)=(i:Int)+1:=by lia
  unfold IsItemIter;rw[z];simpa [rawInt] using T
 have h:Shared.TypeIs { s with heap:=a } (.ref it) "dict_itemiterator":=⟨_,y,rfl⟩;refine c7 (bAS (c7 (bEN h (c7 (bEN h ?_)))));have f:a.objs.size=s.heap.objs.size:=B.1;show wpAny _ _ (Builtin.Dict_items.pairFromOwner (.ref it) 6 es[i].key es[i].val) _ _ { s with heap:=a };unfold Builtin.Dict_items.pairFromOwner;refine c7 (bEI ?_);have j:IsItemIter (a.push { cls:=.type "tuple",data:=.seq #[es[i].key,es[i].val] }) it d (i+1) es.size ep C l:=d8 _ y;have G:(a.push { cls:=.type "tuple",data:=.seq #[es[i].key,es[i].val] }).get? s.heap.objs.size=some { cls:=.type "tuple",data:=.seq #[es[i].key,es[i].val] }:=by rw[<-f];exact j5 _ rfl
 have n:(a.push { cls:=.type "tuple",data:=.seq #[es[i].key,es[i].val] }).objs.size=s.heap.objs.size+1:=by rw[bAX,f]
 have J:∀b o,b≠it->s.heap.get? b=some o->(a.push { cls:=.type "tuple",data:=.seq #[es[i].key,es[i].val] }).get? b=some o:=λb o c e=>d8 _ (B.extBut b o c e);rw[show ({ s with heap:=a }:Shared).heap.objs.size=s.heap.objs.size from f];show wpAny _ _ (Builtin.Dict_items.ownedTupleIsFree (.ref it) >>= _) _ _ { s with heap:=a.push { cls:=.type "tuple",data:=.seq #[es[i].key,es[i].val] } };generalize a.push { cls:=.type "tuple",data:=.seq #[es[i].key,es[i].val] }=h2 at j G n J ⊢;unfold Builtin.Dict_items.ownedTupleIsFree;refine c7 (c7 (bAJ j rfl (x:=.none) rfl (d9 ?_)));simp only[if_true];refine c7 (bAJ j rfl (x:=C) rfl (c7 (bAJ j rfl (x:=l) rfl (c7 (bAI j (by simp) λm O K=>?_)))));have R:IsItemIter m it d (i+1) es.size ep es[i].key l:=O;refine c7 (bAI R (by simp) λr P H=>?_);have X:IsItemIter r it d (i+1) es.size ep es[i].key es[i].val:=P;refine c7 (bAI X (by simp) λp Z I=>?_);have U:IsItemIterOut p it d (i+1) es.size ep es[i].key es[i].val s.heap.objs.size:=Z;refine c7 (bAI U (by simp) λg Y D=>?_);have S:IsItemIterOut g it d (i+1) es.size ep es[i].key es[i].val s.heap.objs.size:=Y;have v:∀b o,b≠it->h2.get? b=some o->g.get? b=some o:=λb o c e=>D.extBut b o c (I.extBut b o c (H.extBut b o c (K.extBut b o c e)));have u:g.objs.size=s.heap.objs.size+1:=by have a3:m.objs.size=h2.objs.size:=K.1;have a4:r.objs.size=m.objs.size:=H.1;have a5:p.objs.size=r.objs.size:=I.1;have a6:g.objs.size=p.objs.size:=D.1;lia
 exact c7 (bE0 (d9 (d9 ⟨_,rfl,d9 (q g S (v _ _ (bCU N) G) u λb o c e=>v b o c (J b o c e))⟩)))
def aMa {it d:Addr}{ep:Nat}{od:Obj}{es:Array DictEntry}{k0 v0:Value}{Q:Option Value->Shared->Prop}(j:A.handled=none)(e:IsItemIter s.heap it d es.size es.size ep k0 v0)(g:s.heap.get? d=some od)(h:od.data=.dict es ep)
  (q:∀h',Heap.ExtBut it s.heap h'->Q none { s with heap:=h' }):wpAny (model prog w) A (pyNext (.ref it)) Q E s:=by
 have c:s.TypeIs (.ref it) "dict_itemiterator":=⟨_,e,rfl⟩;unfold pyNext;refine c7 (bCB (bAH (name:="__next__") c F.slot_dict_itemiterator_next (bAE F.slot_dict_itemiterator_next c F.entry_dict_itemiterator_next (c7 (d9 (c7 (c7 ?_)))) (F.args_dict_itemiterator_next_1 _))));refine c7 (bCO c (d9 (c7 (bDW e rfl ?_))));rw[show Builtin.Dict_items.ownsTuple "dict_itemiterator"=true from by decide];simp only[if_true];have f:¬ ((Value.ref d == Value.none)=true):=v4;show wpAny _ _ (ite ((Value.ref d == Value.none)=true) _ _) _ _ _;rw[if_neg f];refine c7 (d9 (c7 (bFD g h ?_)));rw[if_neg (by simp)];refine c7 (d9 (c7 (wpAny_dictEpoch g h ?_)));rw[if_neg (by simp)];have i:¬ ((es.size:Int)<0):=by lia
 refine d9 ?_;simp only[i,if_false,bAR,bCG (j0 es.size)];refine c7 (c7 (bCO c (d9 ?_)));show wpAny _ _ (setField (.ref it) 2 .none >>= _) _ _ s;refine c7 (bDI e rfl (by simp) ?_);show wpAny _ _ (newExc (.type "StopIteration") [] >>= _) _ _ _;refine c7 ?_;simp only[newExc,newTuple,raiseNew];refine c7 (bAK ?_ (by size_fits));refine c7 (m:=firstArgMember _ _) (bEC (a:=Value.none) (by simp only[firstArgMember];rfl) ?_);refine bAK (c7 (bEX ?_)) (by size_fits);rw[show A.in1.handled=none from j];refine c7 (d9 (bFB ?_));refine c7 (bCX (T:="StopIteration") (b:=true) ⟨_,j5 _ rfl,rfl⟩ isSubtype_stop ?_);exact d9 (q _ (((bAY ..).extBut.push _).push _))
def aTi {d:Addr}{Q:bFI}(b:(d == sysModules)=false)(a:s.TypeIs (.ref d) "dict")
  (q:Q (.ref s.heap.objs.size) { s with heap:=s.heap.push { cls:=.type "dict_items",data:=.fields #[.ref d] } }):wpAny (model prog w) A (call (.builtin "dict.items") [.ref d]) Q E s:=by
 refine bAE F.slot_dict_items a F.entry_dict_items ?_ (F.args_dict_items_1 _);unfold Builtin.«dict.items» Builtin.Dict.noArgs;refine c7 (c7 (wpAny_notOrdered_dict a ?_));show wpAny _ _ (pure d) _ _ s;refine d9 ?_;show wpAny _ _ (Builtin.Dict.showsAll d >>= _) _ _ _;unfold Builtin.Dict.showsAll;rw[if_neg (show ¬ (d == sysModules)=true by rw[b];exact v4)];exact c7 (d9 (c7 (bAK (d9 ⟨_,rfl,q⟩))))
def aK9 {v d:Addr}{ep:Nat}{od:Obj}{es:Array DictEntry}{Q:bFI}(a:s.heap.IsItemsView v d)(b:s.heap.get? d=some od)(c:od.data=.dict es ep)
  (q:Q (.ref s.heap.objs.size) { s with heap:=s.heap.push { cls:=.type "dict_itemiterator",data:=.fields #[.none,.bool false,.ref d,.int 0 0,.int es.size 0,.int ep 0,.none,.none] } }):wpAny (model prog w) A (pyIter (.ref v)) Q E s:=by
 obtain⟨h,e,g,f⟩:=id a;refine bEO a.typeIs F.slot_dict_items_iter (bAE F.slot_dict_items_iter a.typeIs F.entry_dict_items_iter ?_ (F.args_dict_items_iter_1 _));unfold Builtin.«dict_items.__iter__» Builtin.Dict_items.dictOf;refine c7 (d9 (c7 (c7 (bAJ e f (x:=.ref d) rfl (d9 ?_)))));refine c7 ?_;unfold Builtin.Dict_items.newIterator;refine c7 (bFD b c (c7 (wpAny_dictEpoch b c ?_)));rw[show Builtin.Dict_items.ownsTuple "dict_itemiterator"=true from by decide];simp only[if_true];refine bAK (d9 ⟨_,rfl,"dict_itemiterator",_,⟨_,j5 _ rfl,rfl⟩,F.slot_dict_itemiterator_next.lookup,?_⟩) (by simp only[sizeOk,Builtin.Dict_items.ownedTupleFields,j7,bAB,v9,bCT,sizeLine_eq];lia);simpa [rawInt,Builtin.Dict_items.ownedTupleFields] using q
end
end PySem
namespace PySem
open Builtin in
def aBm:entryFor table "dict_itemiterator.__iter__"=some Builtin.«dict_keyiterator.__iter__»:=entryFor_alias (id':="dict_keyiterator.__iter__") (by kernel_rfl) rfl (by decide +kernel) (by kernel_rfl)
end PySem
namespace L2
open PySem PySem.Spec PyProof.Rows
section
variable {X:Cx}
end
def aMl (d:Addr)(o:Obj)(kvs:List (Key × V)):It:=
 ⟨λi H=>H d=some (.frz o (.dK kvs))/\i<kvs.length,λi H x H'=>∃T kv,H T=none/\x=.ref T/\kvs[i]?=some kv/\H'=upd H T (.tup [kV kv.1,kv.2]),λi H=>H d=some (.frz o (.dK kvs))/\i=kvs.length⟩
theorem bCn {kvs:List (Key × V)}{vs:List (Key × Value)}(r:KV kvs vs):∀{i:Nat} {kv:Key × V},kvs[i]?=some kv->∃q,vs[i]?=some q/\kv.1=q.1/\RelV kv.2 q.2:=by
 unfold KV at r
 induction r with
 |nil=>intro i kv h;cases h
 |cons a _ ih=>
  intro i kv h;cases i with
  |zero=>cases h;exact⟨_,rfl,a⟩
  |succ i=>exact ih h
theorem aXk {P:Program}{w:World}{n:Str}{a:Value}(h:(bL P w).is (Sum.inr n) a=true):∃t,a=.str n t:=by
 cases a with
 |str x t=>
  have e:x=n:=by simpa [bL,wQ,Value.isStrOf] using h
  exact⟨t,by rw[e]⟩
 |_=>exact absurd (show false=true from h) v4
def aI9 {P:Program}{w:World}{K:bFH}{elts:List Expr}{kt:Nat}{pos:Pos}(d it:Addr)(o:Obj)(kvs:List (Key × V))(es:Array DictEntry)(ep:Nat)(g:o.data=.dict es ep)(hk:∀kv∈kvs,∃n,kv.1=Sum.inr n) :
  Turn P w K (.Tuple elts kt pos) (aMl d o kvs) [it] it (λi h=>∃k0 v0,IsItemIter h it d i kvs.length ep k0 v0) where
 mem:=by simp
 obj:=λi h a b f=>by
  have e:b=it:=by simpa using f
  subst e;obtain⟨k0,v0,N⟩:=a;exact⟨_,N,λv z=>by cases (show Data.fields _=Data.cell v from z)⟩
 keep:=λi h B a k=>by obtain⟨k0,v0,N⟩:=a;exact⟨k0,v0,k it (by simp) _ N⟩
 item:=by
  intro X L Y R hc i p s σ H E I T a W;subst L Y R;obtain⟨k0,v0,a⟩:=a;obtain⟨hd,G⟩:=W;obtain⟨vs,m,od,O,y,_,c,_,l,_⟩:=aN1 g (I.hok d _ hd);have q:s.heap.get? d=some o:=(I.hok d _ hd).1;rw[q] at y;cases y;rw[g] at c;cases c;have J:es.size=kvs.length:=by rw[KV.length m,<-l.length,t8]
  have u:kvs[i]?=some kvs[i]:=d7 G;obtain⟨x,hx,e1,e3⟩:=bCn m u;have D:i<es.size:=by lia
  obtain⟨j,Z⟩:=l.get? (i:=i) (e:=es[i]) (k:=x.1) (v:=x.2) (by rw[bBQ];exact m8 D) hx;obtain⟨n,en⟩:=hk _ (bAV G);rw[<-e1,en] at j;obtain⟨t,j⟩:=aXk j;have C:=T it (by simp);rw[<-J] at a;refine aVq a q g D λB a1 U a3 kp=>?_;rw[j,Z] at a1 U;refine⟨_,rfl,?_⟩;have fT:H s.heap.objs.size=none:=I.hok.fresh (j0 _);have r:it≠s.heap.objs.size:=v5 (m9 a);have M:kV kvs[i].1=.str n:=by rw[en];rfl
  have I1:Inv X p σ (upd H s.heap.objs.size (.tup [kV kvs[i].1,kvs[i].2])) { s with heap:=B }:=by
   rw[M];refine I.drawn (ch:=[it]) (its:=[.str n t,x.2]) (λb f=>?_) (λb o f e=>kp b o (by simpa using f) e) (j0 _) (.cons ⟨t,rfl⟩ (.cons e3 .nil)) (small (by simp)) (.of U rfl ⟨_,U,rfl,_,rfl⟩) (λb f=>?_)
   ·have:b=it:=by simpa using f
    rw[this];exact C
   ·have:b=it:=by simpa using f
    rw[this];exact⟨_,a1⟩
  refine wpAny_letOwnedTupleGo_items (s:={ s with heap:=B }) a1 λh2 z2 s2=>?_;obtain⟨g0,g1,g2,g3,g4,g5⟩:=C;have I2:Inv X p σ (upd H s.heap.objs.size (.tup [kV kvs[i].1,kvs[i].2])) { s with heap:=h2 }:=Inv.turned (s:={ s with heap:=B }) I1 (t':=s.toks) (it:=it) (λb o f e=>(s2.2 b f).trans e) (by rw[aP r];exact g0) g1 g3 g4 g5;refine⟨.ref s.heap.objs.size,_,I2,rfl,⟨_,kvs[i],fT,rfl,u,rfl⟩,⟨_,_,by rw[<-J];exact z2⟩,λb f=>?_⟩;have:b=it:=by simpa using f
  rw[this,aP r];exact g0
 done:=by
  intro X L Y R hc i p s σ H E I T a W;subst L Y R;obtain⟨k0,v0,a⟩:=a;obtain⟨f0,f1,f2,f3,f4,f5⟩:=T it (by simp);obtain⟨hd,G⟩:=W;obtain⟨vs,m,od,O,y,_,c,_,l,_⟩:=aN1 g (I.hok d _ hd);have q:s.heap.get? d=some o:=(I.hok d _ hd).1;rw[q] at y;cases y;rw[g] at c;cases c;have J:es.size=kvs.length:=by rw[KV.length m,<-l.length,t8]
  rw[G,<-J] at a;exact aMa (I.ok.hd hc) a q g λB eb=>⟨rfl,I.turned (t':=s.toks) (λb o f e=>eb b o f e) f0 f1 f3 f4 f5⟩
 self:=λA i s Q E a h=>by obtain⟨k0,v0,a⟩:=a;have S:s.TypeIs (.ref it) "dict_itemiterator":=⟨_,a,rfl⟩;refine bEO S PySem.F.slot_dict_itemiterator_iter (bAE PySem.F.slot_dict_itemiterator_iter S PySem.aBm ?_ (PySem.F.args_dict_itemiterator_iter_1 _));show wpAny _ _ (ret (.ref it)) _ _ s;exact d9 ⟨_,rfl,"dict_itemiterator",_,S,PySem.F.slot_dict_itemiterator_next.lookup,h⟩
section
variable {X:Cx}
def aPh (te:TE):TI:=fun σ H R=>te σ H λv H1=>∃d kvs,v=.ref d/\H1 d=some (.dK kvs)/\(∀kv∈kvs,∃n,kv.1=Sum.inr n)/\(∀ob u,X.H₀ d≠some (.frz ob u))/\∀o,R (aMl d o kvs) (upd H1 d (.frz o (.dK kvs)))
def aEm {elts:List Expr}{kt:Nat}{tp apos cpos:Pos}{e:Expr}{te:TE}(h:VE X e te)(p:attributeBase e "items" X.env (eval e X.env)=eval e X.env:=by rfl)(r:(apos.endLine == cpos.line)=true:=by rfl) :
  VI X (.Tuple elts kt tp) (.Call (.Attribute e "items" apos) [] [] cpos) (aPh (X:=X) te):=⟨by
 intro f s σ H R I M;refine wpAny_Call_method0_late p r (thn (h.1 f s σ H _ I M) λv a ⟨x,y,j,B,N⟩=>?_);obtain⟨d,c,e,hd,E,C,q⟩:=N;subst e;cases B;obtain⟨z,U,L,n,⟨o,m,t,l,J,k,G,g,D⟩⟩:=aN2 j.hok hd;have P:m.size=c.length:=by rw[KV.length n,<-g.length,t8]
 have V:a.TypeIs (.ref d) "dict":=(show a.heap.DictOf (bL X.prog X.w) d L from ⟨o,m,t,l,J,k,G,g,D⟩).typeIs;obtain⟨S,O⟩:=aL5 (T:="dict") j (show RelV (.ref d) (.ref d) from rfl) (.inr (.inr (.inl ⟨rfl,.inl ⟨c,hd⟩⟩)));refine⟨"dict","dict.items",PySem.F.plainAttrs_dict,PySem.F.slot_dict_items,PySem.F.type_dict_items,S,O,bDO rfl (PySem.evalArgs_none ?_)⟩;refine aTi U V ?_;have K:Inv X f σ (upd y d (.frz o (.dK c))) a:=j.setd hd (λ_ z=>by cases z) (λ_ z=>by cases z) (λ_ z=>by cases z) C ⟨l,j.hok d _ hd⟩;have i:Inv X f σ (upd y d (.frz o (.dK c))) { a with heap:=a.heap.push { cls:=.type "dict_items",data:=.fields #[.ref d] } }:=K.kept (t':=a.toks) λb o e=>d8 _ e;have A:(a.heap.push { cls:=.type "dict_items",data:=.fields #[.ref d] }).IsItemsView a.heap.objs.size d:=⟨_,j5 _ rfl,rfl,rfl⟩;have u:(a.heap.push { cls:=.type "dict_items",data:=.fields #[.ref d] }).get? d=some o:=d8 _ l;generalize a.heap.push { cls:=.type "dict_items",data:=.fields #[.ref d] }=hp at i A u ⊢;refine aK9 (s:={ a with heap:=hp }) A u k ?_;refine⟨hp.objs.size,[hp.objs.size],_,_,_,rfl,i.kept (t':=a.toks) λb o e=>d8 _ e,aI9 d _ o c m t k E,?_,λb Q=>?_,q o⟩
 ·rw[<-P];exact⟨_,_,j5 _ rfl⟩
 ·have e:b=hp.objs.size:=by simpa using Q
  subst e;exact i.aGh (j0 _) (i.hok.fresh (j0 _))⟩
end
def aNq {d:Addr}{o:Obj}{kvs:List (Key × V)}{g:TG}{tb:TS}{D:Ends}{σ:L2.St}{H:Hp}(b:Nat->L2.St->Hp->Prop)(c:b 0 σ H)(j:∀i σ H,i<=kvs.length->b i σ H->H d=some (.frz o (.dK kvs)))
  (f:∀i kv T σ H,kvs[i]?=some kv->b i σ H->H T=none->g (.ref T) σ (upd H T (.tup [kV kv.1,kv.2])) fun σ2 H2=>tb { D with nx:=b (i+1),ct:=b (i+1),bk:=D.nx } σ2 H2) (hd:∀σ H,b kvs.length σ H->D.nx σ H) :
  ∃W:Nat->Nat->L2.St->Hp->Prop,(∃m,W 0 m σ H)/\∀i m σ H,W i m σ H ->
   ((aMl d o kvs).stop i H/\D.nx σ H)\/((aMl d o kvs).go i H/\∃N:L2.St->Hp->Prop,(∀σ' H',N σ' H'->∃m',m'<m/\W (i+1) m' σ' H')/\∀x H',(aMl d o kvs).yld i H x H'->g x σ H' fun σ2 H2=>tb { D with nx:=N,ct:=N,bk:=D.nx } σ2 H2):=by
 refine⟨λi m σ H=>m=kvs.length - i/\i<=kvs.length/\b i σ H,⟨kvs.length,by simp,bAG _,c⟩,?_⟩;rintro i m σ H ⟨rfl,hi,p⟩;have q:=j i σ H hi p;by_cases a:i<kvs.length
 ·right;refine⟨⟨q,a⟩,b (i+1),fun σ' H' h=>⟨kvs.length - (i+1),by lia,rfl,by lia,h⟩,?_⟩;rintro x H' ⟨T,kv,hT,rfl,hkv,rfl⟩;exact f i kv T σ H hkv p hT
 ·left;have e:i=kvs.length:=by lia
  subst e;exact⟨⟨q,rfl⟩,hd σ H p⟩
section
variable {X:Cx}
def bBk (X:Cx)(t:TE):TE:=fun σ H Q=>∃d kvs,H d=some (.dK kvs)/\((∀ob u,X.H₀ d≠some (.frz ob u))->t σ H λv H'=>(∃o,H' d=some (.frz o (.dK kvs)))/\Q v (upd H' d (.dK kvs)))
def aW5 {e:Expr}{t:TE}(h:VE X e t):VE X e (bBk X t):=⟨by
 intro b s σ H Q I ⟨d,i,hd,q⟩;have c:∀a u,X.H₀ d≠some (.frz a u):=λa u e=>by have:=I.base.frzs d a u e;rw[hd] at this;cases this
 refine thn (h.1 b s σ H _ I (q c)) λu l ⟨v,k,g,r,⟨o,f⟩,j⟩=>?_;exact⟨v,_,g.setd f (λ_ z=>by cases z) (λ_ z=>by cases z) (λ_ z=>by cases z) c (g.hok d _ f).2,r,j⟩⟩
end
def aIc {K:bFH}{d:Addr}{o:Obj}{kvs:List (Key × V)}{H:Hp}{C:L2.St}{te:TE}{Q:VK}(hd:H d=some (.frz o (.dK kvs)))(B:Ps2 C C)(hsz:kvs.length<=1000)
  (v:Addr->Nat->Hp->V->Prop) (st:∀{D i H1 H2 y},Same H1 H2->v D i H1 y->v D i H2 y) (u:∀{D i H1 ys zs y},H1 D=some (.lst ys)->v D i H1 y->v D i (L2.upd H1 D (.lst zs)) y)
  (E:∀(i:Nat) (kv:Key × V),kvs[i]?=some kv->∀H' R D ys,Same H H'->H D=none->H' D=some (.lst ys)->(∀y H2,Same H' H2->v D i H2 y->R y H2)->te ((C.set 0 (some (kV kv.1))).set 1 (some kv.2)) H' R)
  (q:∀D H' ys,Same H H'->H D=none->H' D=some (.lst ys)->ys.length=kvs.length->(∀i y,ys[i]?=some y->v D i H' y)->Q (.ref D) H'):tK (aMl d o kvs) H C (aNo K 2 (uP (cD 0) (uP (cD 1) aQj))) oR te Q:=by
 intro D g;refine⟨λi m p H' ys=>m=kvs.length - i/\i<=kvs.length/\Same H H'/\H' D=some (.lst ys)/\ys.length=i/\Ps2 C p/\∀j y,ys[j]?=some y->v D j H' y,⟨kvs.length,by simp,bAG _,bC g _,aH,rfl,B,λj y e=>by cases e⟩,?_⟩;rintro i m p H' ys ⟨rfl,hi,sm,gD,ly,hps,hr⟩;refine⟨gD,?_⟩;by_cases h:i<kvs.length
 ·right;refine⟨⟨sm _ _ hd,h⟩,?_⟩;rintro x H2 ⟨T,kv,hT,rfl,hkv,rfl⟩;have f:Same H' (L2.upd H' T (.tup [kV kv.1,kv.2])):=bC hT _;refine hg2 (SqT.of aH) hps fun t c k=>?_;have b:t=_:=k;subst b;dsimp only[oR];rw[if_pos rfl];refine E i kv hkv _ _ D ys (sm.trans f) g (f _ _ gD) λy r n w=>?_;have a:r D=some (.lst ys):=n _ _ (f _ _ gD);have l:=sm.trans (f.trans n);refine⟨a,bCN (show ys.length<=1000 by lia) (by decide),kvs.length - (i+1),by lia,rfl,by lia,lG g l,aH,by rw[bAB,ly];rfl,c,λj z e=>?_⟩;by_cases s:j<ys.length
  ·rw[bBM s] at e;exact u a (st (f.trans n) (hr j z e))
  ·rw[bBJ (by lia)] at e;have A:j - ys.length=0:=by have:=(List.getElem?_eq_some_iff.mp e).1;simpa using this
   rw[A] at e;cases e;have:j=i:=by lia
   rw[this];exact u a w
 ·left;have e:i=kvs.length:=by lia
  subst e;exact⟨⟨sm _ _ hd,rfl⟩,q D H' ys sm g gD ly hr⟩
def aU6 {X:Cx}{scope:Scope}{N:List Str}{tl:TE}{te:TE}{tt:TT}{g:TG}{σ:L2.St}{H:Hp}{Q:VK}(b:L2.St)(a:Cap X scope N σ b)(h:tl σ H λv H1=>∃d kvs,v=.ref d/\H1 d=some (.dK kvs)/\(∀kv∈kvs,∃n,kv.1=Sum.inr n)/\(∀ob u,X.H₀ d≠some (.frz ob u))/\∀o,tK (aMl d o kvs) (upd H1 d (.frz o (.dK kvs))) b g tt te Q):lN X scope N (aPh (X:=X) tl) g tt te σ H Q:=⟨b,a,h⟩
section
variable {X:Cx}
def aWu:List V->Hp->VK->Prop:=λxs H Q=>∃(d:Addr) (kvs:List (Key × V)),xs=[.ref d,.ty "dict"]/\H d=some (.dK kvs)/\Q (.bl true) H
def aKg:cO X (.builtin "isinstance") aWu:=by intro i s σ H l m Q I r h;obtain⟨d,b,rfl,hd,q⟩:=h;obtain⟨u,v,rfl,c,j⟩:=r.two;obtain rfl:v=Value.type "dict":=j;obtain rfl:u=Value.ref d:=c;obtain⟨z,n,k,e,a⟩:=aN2 I.hok hd;obtain⟨o,f,g⟩:=(show s.TypeIs (.ref d) "dict" from a.typeIs);exact call_isinstance (isinstance_true F.isi_meta_dict F.isi_self_dict) ⟨⟨o,f,g⟩,⟨.bl true,H,I,rfl,q⟩⟩
end
end L2
namespace PySem
section
variable {prog:Program}{w:World}{A:Around}{E:bFI}{s:Shared}
def aKk {a:Addr}{o:Obj}{xs:Array Value}{k:Nat}{Q:Option Value->Shared->Prop}(t:s.heap.get? a=some o)(p:o.cls=.type "list")(j:o.data=.seq xs k)(hd:o.dict=none)(C:A.handled=none)
  (h:∀h' tk,(∀b u,s.heap.get? b=some u->h'.get? b=some u)->Q none { s with heap:=h',toks:=tk }):wpAny (model prog w) A (getAttr? (.ref a) "keys") Q E s:=by
 obtain⟨c,v,m,r⟩:=o;simp only at p j hd;subst p j hd;obtain⟨q,g,d,tk,n⟩:=s;have l:∀f,(⟨q,g,d,f,n⟩:Shared).TypeIs (.ref a) "list":=λ_=>⟨_,t,rfl⟩;have x:=sub_AttributeError;have G:=F.slot_list_getattribute.lookup;have D:=F.slot_list_getattribute.bind (.ref a);have B:=am_list_getattr_none;unfold getAttr? getAttrBy? getAttrBy
 repeat (any_goals (first|assumption|exact l _|((with_reducible show wpAny _ _ (call (Value.builtin "list.__getattribute__") _ _) _ _ _);refine call_meets F.slot_list_getattribute (l _) am_entry_list_getattribute (F.args_list_getattribute_2 _ _) (meets_getattribute_miss_list a xs k r "keys" _ aCq (by decide +kernel) (by size_fits)) ⟨t,C,λh' f e i=>?_⟩)|wp_step))
 obtain⟨y,z,H⟩:=i.there;show wpAny _ _ (getattributeRaised _ _ _ _ _ _ _) _ _ _;unfold getattributeRaised
 repeat (any_goals (first|assumption|wp_step))
 exact h _ _ i.keeps
end
section
variable {prog:Program}{w:World}{κ:Type}[DecidableEq κ]{knd:KeyKind prog w κ}{A:Around}{E:bFI}{s:Shared}
def yX {t:Addr}{its:Array Value}{kvs:List (κ × Value)}{Q:bFI}(y:A.handled=none){o:Obj}{n:Nat}(J:s.heap.get? t=some o)(C:o.cls=.type "list")(T:o.data=.seq its n)(H:o.dict=none)(l:kvs.length=its.size)(X:its.size<=1000)
  (S:∀(j:Nat) (v:Value) (kv:κ × Value),its[j]?=some v->kvs[j]?=some kv->vV knd s.heap v kv)
  (q:∀h' tk,h'.DictOf knd s.heap.objs.size (merged [] kvs)->(∀b o,s.heap.get? b=some o->h'.get? b=some o)->Q (.ref s.heap.objs.size) { s with heap:=h',toks:=tk }) :
  wpAny (model prog w) A (call (.type "dict") [.ref t]) Q E s:=by
 refine callType_codes (Q₁:=λg B=>g=.ref s.heap.objs.size/\B={ s with heap:=s.heap.push { cls:=.type "dict",data:=.dict #[] } }) F.kt_called_dict (F.kt_typeCall_dict_1 _) F.entry_dict_init (kt_code_dict_new _ ⟨rfl,rfl⟩) ?_;rintro g B ⟨rfl,rfl⟩;have a:(s.heap.push { cls:=.type "dict",data:=.dict #[] }).DictOf knd s.heap.objs.size []:=Heap.DictOf.new s.heap;have f:(s.heap.push { cls:=.type "dict",data:=.dict #[] }).get? t=some o:=d8 _ J;have K:Shared.TypeIs { s with heap:=s.heap.push { cls:=.type "dict",data:=.dict #[] } } (.ref t) "list":=⟨o,f,C⟩;have i:t<s.heap.objs.size:=m9 J;refine⟨a.typeIs,F.args_dict_init_2 _ _,?_⟩;unfold Builtin.«dict.__init__»;refine c7 ?_;unfold Builtin.Dict.selfAndRest;refine c7 (wpAny_notOrdered_dict a.typeIs ?_);show wpAny _ _ (pure (s.heap.objs.size,[Value.ref t])) _ _ _;refine d9 ?_;show wpAny _ _ (Builtin.Dict.updateFrom "dict.__init__" s.heap.objs.size (.ref t) [] .none) _ _ _;unfold Builtin.Dict.updateFrom;refine c7 (bEG K ?_);rw[if_pos (by decide)];refine c7 (aKk f C T H (by first|exact y|simp[y]) λm N c=>?_);rw[if_pos (show (none:Option Value).isNone=true from rfl)];have r:m.get? t=some o:=c _ _ f;have h:m.IsList t its:=⟨o,r,C,n,T⟩;refine c7 (bDD (c7 (bCD h ?_)));have L:(s.heap.push { cls:=.type "dict",data:=.dict #[] }).objs.size=s.heap.objs.size+1:=bAX ..;have d:s.heap.objs.size<m.objs.size:=by obtain⟨V,_,_,M,_⟩:=id a;exact m9 (c _ _ M)
 refine d9 ⟨bCQ cZ _,?_⟩;have z:t≠m.objs.size:=v5 (bEJ i d);refine aAo (knd:=knd) (Walks.list (by first|exact y|simp[y]) _ t z its) s.heap.objs.size ?_ kvs l X ?_ its.size 0 _ _ (by lia) ⟨⟨_,j5 _ rfl,rfl,rfl⟩,h.push _⟩ ?_ ?_ λh' tk G u=>?_
 ·simp only[bAC,w6,or_false,not_or];exact⟨v5 d,bCU i⟩
 ·intro j v e p I;have D:j<kvs.length:=by rw[l];exact (Array.getElem?_eq_some_iff.mp e).1
  obtain⟨W,O,k,⟨U,x,_⟩,_⟩:=S j v _ e (d7 D);rw[I] at k;cases k;have:=m9 x;simp only[bAC,w6,or_false,not_or];exact⟨v5 this,v5 (bEJ this d)⟩
 ·exact (a.at λo e=>c _ _ e).at λo e=>d8 _ e
 ·intro j v kv e R;exact (S j v kv e R).at λp _ o P=>d8 _ (c _ _ (d8 _ P))
 ·refine⟨rfl,q h' tk u λb o e=>G b o ?_ (d8 _ (c _ _ (d8 _ e)))⟩;have:=m9 e;simp only[bAC,w6,or_false,not_or];exact⟨v5 this,v5 (bEJ this d)⟩
end
end PySem
namespace L2
open PySem PySem.Spec PyProof.Rows
section
variable {X:Cx}
def bA1 (K:bFH):List V->Hp->VK->Prop:=λxs H Q=>∃t us kvs,xs=[.ref t]/\H t=some (.lst us)/\aUh K H us kvs/\us.length<=1000/\∀p H',H p=none->Same H H'->H' p=some (.dK (mY [] kvs))->Q (.ref p) H'
def aL6 (M:X.calm=true):cO X (.type "dict") (bA1 X.K):=by intro p s σ H J C Q I r h;obtain⟨t,C,kvs,rfl,l,B,N,q⟩:=h;obtain⟨u,rfl,D⟩:=vals1 r;cases D;obtain⟨F,i,n,c,m⟩:=I.hok t _ l;have G:=c.length;obtain⟨z,b,x,g⟩:=aY1 I B c;have L:=KV.length b;refine yX (knd:=bL X.prog X.w) (kvs:=z) (I.ok.hd M) m rfl rfl rfl (by rw[j7];exact x) (by rw[j7];lia) (λj v A e y=>g j v A (by simpa using e) y) λE k hd f=>?_;have a:H s.heap.objs.size=none:=I.hok.fresh (j0 _);refine⟨.ref s.heap.objs.size,_,I.laid (t':=k) (o:=.dK (mY [] kvs)) f (j0 _) ?_,rfl,q _ _ a (bC a _) aH⟩;have d:=oN kvs [];simp only[bCT] at d;exact⟨small (by lia),beq_eq_false_iff_ne.mpr (Ne.symm (v5 I.big)),_,KV.merge b .nil,hd⟩
end
end L2
namespace My
open PySem PySem.Spec PyProof.Rows L2
section
variable {P:Program}{w:World}{K:bFH}{mg:bFK}{base:Heap}
def aYl (k:Str):Bool:=decide (k = "number")
def knds (hd:Hdr):List Bool:=hd.map λc=>aYl c.2
def aKm {X:Cx}{K:bFH}(h:X.K=K:=by rfl):cO X (.builtin "sorted") (aL9 K):=by subst h;exact eG
def aKd {X:Cx}{K:bFH}(h:X.K=K:=by rfl):cO X (.type "list") (aSj K):=by subst h;exact vN
theorem none_of {H H':Hp}{D:Addr}(e:Same H H')(h:H' D=none):H D=none:=by
 cases g:H D with
 |none=>rfl
 |some o=>rw[e _ _ g] at h;cases h
def But (d:Addr)(H H':Hp):Prop:=∀b o,b≠d->H b=some o->H' b=some o
section
variable {K:bFH}{H H':Hp}{d:Addr}{kvs:List (Key × V)}
def eQ (H:Hp)(d:Addr):Prop:=(∀xs,H d≠some (.tup xs))/\(∀ob xs,H d≠some (.frz ob (.tup xs)))/\∀xs,H d≠some (.lst xs)
theorem eQ.dK (h:H d=some (.dK kvs)):eQ H d:=⟨λ_ z=>(by rw[h] at z;cases z),λ_ _ z=>(by rw[h] at z;cases z),λ_ z=>(by rw[h] at z;cases z)⟩
def eQ.fz {o:Obj}(h:H d=some (.frz o (.dK kvs))):eQ H d:=⟨λ_ z=>(by rw[h] at z;cases z),λ_ _ z=>(by rw[h] at z;cases z),λ_ z=>(by rw[h] at z;cases z)⟩
def But.bA {a:Addr}{xs:List V}(b:But d H H')(hd:eQ H d)(h:SqT K H a xs):SqT K H' a xs:=by
 rcases h with (h|⟨o,h⟩)|h
 ·exact .inl (.inl (b _ _ (λz=>hd.1 _ (z ▸ h)) h))
 ·exact .inl (.inr ⟨o,b _ _ (λz=>hd.2.1 _ _ (z ▸ h)) h⟩)
 ·exact .inr h
theorem But.lst {a:Addr}{xs:List V}(b:But d H H')(hd:eQ H d)(h:H a=some (.lst xs)):H' a=some (.lst xs):=b _ _ (λz=>hd.2.2 _ (z ▸ h)) h
def But.hdr {v:V}{hr:Hdr}(b:But d H H')(hd:eQ H d)(h:lJ K H v hr):lJ K H' v hr:=by obtain⟨a,i,rfl,f,c⟩:=h;exact⟨a,i,rfl,b.bA hd f,c.imp λ_ _ ⟨p,e,g⟩=>⟨p,e,b.bA hd g⟩⟩
theorem But.pl {v:V}{pl:Plc}(b:But d H H')(hd:eQ H d)(h:rA K H v pl):rA K H' v pl:=by
 cases pl with
 |copies=>obtain⟨a,rfl,f⟩:=h;exact⟨a,rfl,b.bA hd f⟩
 |keys n=>obtain⟨a,rfl,f⟩:=h;exact⟨a,rfl,b.bA hd f⟩
 |spans n h0 cs=>obtain⟨a,l,rfl,f,⟨c,k,rfl,g,i⟩⟩:=h;exact⟨a,_,rfl,b.bA hd f,c,k,rfl,b.bA hd g,i.imp λ_ _ ⟨p,e,j⟩=>⟨p,e,b.bA hd j⟩⟩
def But.rows {L:Addr}{rs:List (List V)}(b:But d H H')(hd:eQ H d)(h:bY K H L rs):bY K H' L rs:=by obtain⟨a,c,f⟩:=h;exact⟨a,b.lst hd c,f.imp λ_ _ ⟨p,e,g⟩=>⟨p,e,b.bA hd g⟩⟩
def But.tb {v vh vp:V}{L:Addr}{t:Tb}(b:But d H H')(hd:eQ H d)(h:oX K H v vh vp L t):oX K H' v vh vp L t:=by obtain⟨a,rfl,g,c,e,f⟩:=h;exact⟨a,rfl,b.bA hd g,b.hdr hd c,b.pl hd e,b.rows hd f⟩
theorem But.upd {u:HO}:But d H (L2.upd H d u):=λb o a h=>by rw[aP a];exact h
def But.same {H2:Hp}(b:But d H H')(s:Same H' H2):But d H H2:=λc o a h=>s _ _ (b c o a h)
def But.thaw {H2:Hp}(b:But d H H2)(hd:H d=some (.dK kvs)):Same H (L2.upd H2 d (.dK kvs)):=λc o h=>by
 by_cases e:c=d
 ·rw[e,aH,<-hd,<-e];exact h
 ·rw[aP e];exact b c o e h
end
structure En where
 n:Str
 v:V
 vh:V
 vp:V
 L:Addr
 t:Tb
def enK (es:List En):List (Key × V):=es.map λe=>(Sum.inr e.n,e.v)
structure mL (K:bFH)(H:Hp)(d:Addr)(es:List En):Prop where
 at_:H d=some (.dK (enK es))
 nd:(es.map (·.n)).Nodup
 few:es.length<=60
 nm:∀e∈es,Nm e.n
 tb:∀e∈es,oX K H e.v e.vh e.vp e.L e.t
theorem oX.same {K:bFH}{H H':Hp}{v vh vp:V}{L:Addr}{t:Tb}(s:Same H H')(h:oX K H v vh vp L t):oX K H' v vh vp L t:=by obtain⟨a,rfl,e,b,c,d⟩:=h;exact⟨a,rfl,s.bA e,b.same s,c.same s,d.same s⟩
theorem mL.same {K:bFH}{H H':Hp}{d:Addr}{es:List En}(s:Same H H')(h:mL K H d es):mL K H' d es:=⟨s _ _ h.at_,h.nd,h.few,h.nm,λe a=>(h.tb e a).same s⟩
def aUc {es:List En}{i:Nat}{kv:Key × V}(h:(enK es)[i]?=some kv):∃e,es[i]?=some e/\kv=(Sum.inr e.n,e.v):=by unfold enK at h;rw[v6] at h;obtain⟨e,a,rfl⟩:=Option.map_eq_some_iff.mp h;exact⟨e,a,rfl⟩
def aPr {es:List En}:∀kv∈enK es,∃n,kv.1=Sum.inr n:=λkv h=>by unfold enK at h;obtain⟨e,_,rfl⟩:=List.mem_map.mp h;exact⟨_,rfl⟩
def aAx {es:List En}:(enK es).length=es.length:=j9 _
def aOl (K:bFH)(Pt:Addr):Sp:=λvs H Q _=>∃(d:Addr) (m:Int) (es:List En),vs=[.int m,.ref d]/\1<=m/\m<=6/\mL K H d es/\(∀e∈es,mD m e.t)/\H Pt=some (.tab qC)/\∀H',Same H H'->Q .non H'
def aHi (T:Txt w K mg){Pt:Addr}(eE:Ok P w K mg base 1 "is_whole" ["thing"] (pG K))(kE:Ok P w K mg base 2 "is_name" ["thing"] (aD8 K nameB))(U:Ok P w K mg base 8 "is_table" ["thing","houses"] (aX8 K Pt)):Ok P w K mg base 9 "need_town" ["houses","tables"] (aOl K Pt):=by
 refine Ok.ofV T.aJs pR (by trivial) (λf V A u s H vs Q E C h=>?_)
 obtain⟨d,m,g,rfl,X,O,b,F,k,q⟩:=h;refine⟨_,(aD (cA (VW.pt (gJ (cP (cG (aN (eE.mono (by decide)) C (by rfl) (aB (vv 0) aA)))) (gJ (cP (aBv aA5 aA5 aC (vv 0) (uL (by rfl) T.aD3))) (eZ (cP (cG (aM aKg (by rfl) T.cB bU (aB (vv 1) (aB (fX (v:=.ty "dict") (by rfl) T.aTs aN3 rfl) aA))))))))) (aG eV) aZ) (aG (aX4 (jT PassesOwn.never rfl (aEm (vv 1)) (zF rfl (bH (aO (i:=2) pR.nd rfl (by trivial)) (bH (aO (i:=3) pR.nd rfl (by trivial)) fV))) (aG (cA (VW.pt (gJ (cP (cG (aN (kE.mono (by decide)) C (by rfl) (aB (vv 2) aA)))) (eZ (cP (cG (aN (U.mono (by decide)) C (by rfl) (aB (vv 3) (aB (vv 0) aA)))))))) (aG eV) aZ)))))),?_⟩;refine⟨_,rfl,_,rfl,.inr (.inl ⟨m,rfl⟩),_,rfl,bZ ?_⟩;refine⟨_,rfl,_,_,rfl,rfl,_,rfl,?_⟩;rw[t6 X];refine eU ⟨_,_,rfl,rfl,_,rfl,?_⟩;rw[t6 O];refine bZ ⟨_,rfl,d,_,rfl,b.at_,_,rfl,bZ ?_⟩;refine⟨d,enK g,b.at_,λZ=>⟨_,rfl,d,_,rfl,b.at_,aPr,Z,λo=>?_⟩⟩;have l:Pt≠d:=λz=>by rw[z,b.at_] at k;cases k
 have r:But d H (L2.upd H d (.frz o (.dK (enK g)))):=But.upd;have G:L2.upd H d (.frz o (.dK (enK g))) d=some (.frz o (.dK (enK g))):=aH;generalize L2.upd H d (.frz o (.dK (enK g)))=B at r G ⊢;refine aNq (λi σ c=>Same B c/\∃D x,σ=[some (.int m),some (.ref d),D,x]) ⟨Same.refl B,_,_,rfl⟩ (λi σ c _ p=>p.1 _ _ G) (λi kv y σ c W p S=>?_) fun σ c p=>?_
 ·obtain⟨e,D,x,rfl⟩:=p;obtain⟨a,N,rfl⟩:=aUc W;have j:=t7 N;have I:Same c (L2.upd c y (.tup [kV (Sum.inr a.n),a.v])):=bC S _;have Y:But d H (L2.upd c y (.tup [kV (Sum.inr a.n),a.v])):=(r.same e).same I;refine⟨y,_,rfl,SqT.of aH,rfl,_,_,rfl,_,_,rfl,rfl,?_⟩;refine⟨_,rfl,_,rfl,(b.nm a j).th,λH2 M=>⟨_,rfl,?_⟩⟩;rw[show nameB (kV (Sum.inr a.n,a.v).fst)=true from b.nm a j];refine bZ ?_;have J:=Y.same M;refine⟨_,rfl,_,rfl,a.v,a.vh,a.vp,a.L,m,a.t,rfl,J.tb (eQ.dK b.at_) (b.tb a j),F a j,J _ _ l k,λH3 R=>⟨_,rfl,bZ ?_⟩⟩;exact⟨e.trans (I.trans (M.trans R)),_,_,rfl⟩
 ·obtain⟨e,D,x,rfl⟩:=p;exact⟨⟨o,e _ _ G⟩,q _ ((r.same e).thaw b.at_)⟩
def aC9 (e:En)(v:V)(L:Addr):En:={ e with v:=v,L:=L,t:={ e.t with rows:=srt e.t.rows } }
def yH (K:bFH)(Pt:Addr):Sp:=λvs H Q _=>∃(d:Addr) (m:Int) (es:List En),vs=[.int m,.ref d]/\1<=m/\m<=6/\mL K H d es/\(∀e∈es,mD m e.t)/\H Pt=some (.tab qC) /\
 ∀d' H' es',H d'=none->Same H H'->mL K H' d' es'->cV (λe e'=>∃v L,e'=aC9 e v L/\H L=none) es es'->Q (.ref d') H'
theorem bB0 {kd:Str}{v:V}(h:cM kd v):KdV (aYl kd) v:=by
 cases h with
 |num=>exact⟨_,rfl⟩
 |wrd _ _=>exact⟨_,rfl⟩
theorem gC {hd:Hdr}{r:List V}(h:jQ hd r):KdR (knds hd) r:=by
 unfold jQ at h;unfold KdR knds
 induction h with
 |nil=>exact .nil
 |cons a _ ih=>exact .cons (bB0 a) ih
def lY {hd:Hdr}(h:Good hd):knds hd≠[]:=λz=>by have e:=congrArg List.length z;unfold knds at e;rw[j9] at e;have:=h.2.1;rw[e] at this;exact absurd this (by decide)
theorem cQ {α β:Type}{R:α->β->Prop}{as:List α}{bs:List β}(h:cV R as bs):Al2 R as bs:=by
 induction h with
 |nil=>exact .nil
 |cons r _ ih=>exact .cons r ih
theorem iM {α β:Type}{R:α->β->Prop}{as:List α}{bs:List β}(h:Al2 R as bs):cV R as bs:=by
 induction h with
 |nil=>exact .nil
 |cons r _ ih=>exact .cons r ih
def PlR (K:bFH)(H0:Hp)(es:List En)(D:Addr)(i:Nat)(H:Hp)(y:V):Prop:=∃e v L tp,es[i]?=some e/\y=.ref tp/\SqT K H tp [.str e.n,v]/\oX K H v e.vh e.vp L { e.t with rows:=srt e.t.rows }/\L≠D/\H0 L=none
theorem oX.mV {K:bFH}{H:Hp}{D L:Addr}{ys zs:List V}{v vh vp:V}{t:Tb}(f:H D=some (.lst ys))(r:L≠D)(h:oX K H v vh vp L t):oX K (L2.upd H D (.lst zs)) v vh vp L t:=by
 obtain⟨a,rfl,s,⟨b,m,rfl,u,l⟩,i,⟨w,o,x⟩⟩:=h;refine⟨a,rfl,SqT.mV f s,⟨b,m,rfl,SqT.mV f u,l.imp λ_ _ ⟨p,e,j⟩=>⟨p,e,SqT.mV f j⟩⟩,?_,⟨w,by rw[aP r];exact o,x.imp λ_ _ ⟨p,e,j⟩=>⟨p,e,SqT.mV f j⟩⟩⟩;cases g:t.pl with
 |copies=>rw[g] at i;obtain⟨k,rfl,d⟩:=i;exact⟨k,rfl,SqT.mV f d⟩
 |keys n=>rw[g] at i;obtain⟨k,rfl,d⟩:=i;exact⟨k,rfl,SqT.mV f d⟩
 |spans n h0 cs=>rw[g] at i;obtain⟨k,y,rfl,d,⟨c,m,rfl,q,l⟩⟩:=i;exact⟨k,_,rfl,SqT.mV f d,c,m,rfl,SqT.mV f q,l.imp λ_ _ ⟨p,e,j⟩=>⟨p,e,SqT.mV f j⟩⟩
theorem aN7 {K:bFH}{H0 H:Hp}{D:Addr}:∀{es:List En} {ys:List V},ys.length=es.length->(∀(i:Nat) (y:V),ys[i]?=some y->PlR K H0 es D i H y) ->
  ∃es',cV (λe e'=>∃v L,e'=aC9 e v L/\H0 L=none) es es'/\cV (λy (e':En)=>∃tp,y=.ref tp/\SqT K H tp [.str e'.n,e'.v]) ys es'/\∀e'∈es',oX K H e'.v e'.vh e'.vp e'.L e'.t
 |[],[],_,_=>⟨[],.nil,.nil,λe h=>by cases h⟩
 |en::es,y::ys,hl,h=>by
  obtain⟨es',c,j,b⟩:=aN7 (es:=es) (ys:=ys) (Nat.succ.inj hl) λi y g=>by obtain⟨e,v,L,tp,a,r⟩:=h (i+1) y (by simpa using g);exact⟨e,v,L,tp,by simpa using a,r⟩
  obtain⟨e,v,L,tp,a,rfl,d,f,_,k⟩:=h 0 y rfl;cases a;refine⟨aC9 en v L::es',.cons ⟨v,L,rfl,k⟩ c,.cons ⟨tp,rfl,d⟩ j,λe' h'=>?_⟩;rcases List.mem_cons.mp h' with rfl|h'
  ·exact f
  ·exact b e' h'
theorem aZd {K:bFH}{H:Hp}{ys:List V}{es':List En}(h:cV (λy (e':En)=>∃tp,y=.ref tp/\SqT K H tp [.str e'.n,e'.v]) ys es'):aUh K H ys (enK es'):=by
 unfold enK
 induction h with
 |nil=>exact .nil
 |cons r _ ih=>exact .cons r ih
theorem aI4 {H0:Hp}{es es':List En}(h:cV (λe e'=>∃v L,e'=aC9 e v L/\H0 L=none) es es'):es'.map (·.n)=es.map (·.n):=by
 induction h with
 |nil=>rfl
 |cons r _ ih=>obtain⟨v,L,rfl,_⟩:=r;rw[bAN,bAN,ih];rfl
def yZ (T:Txt w K mg){Pt:Addr}(ab:Ok P w K mg base 9 "need_town" ["houses","tables"] (aOl K Pt)):Ok P w K mg base 10 "placed_tables" ["houses","tables"] (yH K Pt):=by
 refine Ok.ofV T.aAl zG (by trivial) (λf aa A a9 s H vs Q E hr h=>?_)
 obtain⟨d,m,c,rfl,m1,m6,I,X,hP,q⟩:=h;refine⟨_,(aD (iR (aN (ab.mono (by decide)) hr (by rfl) (aB (vv 0) (aB (vv 1) aA)))) (aG (aL (cX (aL6 rfl) (by rfl) T.aTs aN3 (aB (aW5 (cL (N:=["name","table"]) (by trivial) (mO (by decide +kernel)) rfl (aEm (vv 1)) (λcl s' u fp=>⟨(tY (K:=K) (n:=2) rfl (bH (aO (i:=0) (show (["name","table"]:List Str).Nodup from by decide +kernel) rfl (Or.inl rfl)) (bH (aO (i:=1) (show (["name","table"]:List Str).Nodup from by decide +kernel) rfl (Or.inl rfl)) fV))),iH,(dR (aB (vv 0) (aB (dR (aB (aK (bR (K:=K)) (vv 1) aC (λ_ _=>rfl)) (aB (aK (bR (K:=K)) (vv 1) aC (λ_ _=>rfl)) (aB (aM (aKm (K:=K)) (by rfl) T.eO dG (aB (aK (bR (K:=K)) (vv 1) aC (λ_ _=>rfl)) aA)) aA)))) aA)))⟩))) aA))))),?_⟩;refine⟨_,rfl,_,rfl,d,m,c,rfl,m1,m6,I,X,hP,λG U=>?_⟩;have g:=I.same U;dsimp only[tV,tCB,fG];refine⟨d,enK c,g.at_,λnf=>aU6 [none,none] uB ⟨_,rfl,d,_,rfl,g.at_,aPr,nf,λo=>?_⟩⟩;have b0:But d G (L2.upd G d (.frz o (.dK (enK c)))):=But.upd;have g0:L2.upd G d (.frz o (.dK (enK c))) d=some (.frz o (.dK (enK c))):=aH;have n0:∀b,L2.upd G d (.frz o (.dK (enK c))) b=none->G b=none:=λb h=>by
  by_cases e:b=d
  ·rw[e,aH] at h;cases h
  ·rw[aP e] at h;exact h
 generalize L2.upd G d (.frz o (.dK (enK c)))=B at b0 g0 n0 ⊢;refine aIc g0 ⟨none,none,rfl⟩ (by rw[aAx];have:=I.few;lia) (PlR K H c) ?_ ?_ (λi kv ek u R D ys O hD J r=>?_) λD u ys O hD J ly hy=>?_
 ·rintro D i H2 H3 y Y ⟨e,v,L,l,M,rfl,Z,hb,hne⟩;exact⟨e,v,L,l,M,rfl,Y.bA Z,hb.same Y,hne⟩
 ·rintro D i H2 ys zs y J ⟨e,v,L,l,M,rfl,Z,hb,hne,h0⟩;exact⟨e,v,L,l,M,rfl,SqT.mV J Z,hb.mV J hne,hne,h0⟩
 ·obtain⟨S,M,rfl⟩:=aUc ek;have hm:=t7 M;have k:=X S hm;obtain⟨a,ev,ha,h1,h2,⟨us,h3,h4⟩⟩:=(b0.same O).tb (eQ.dK g.at_) (g.tb S hm);have lu:=h4.len;have ad:=k.few;refine⟨_,rfl,_,rfl,a,_,0,_,ev,rfl,ha,at0 _ _,_,rfl,a,_,1,_,ev,rfl,ha,at1 _ _ _,_,rfl,a,_,2,_,ev,rfl,ha,at2 _ _ _ _,S.L,us,S.t.rows,knds S.t.hd,rfl,SqL.of h3,cQ h4,by lia,lY k.hd.1,λr a7=>gC (k.rows r a7),λL' H2 a6 V Y g2 h5=>?_⟩;refine⟨by show 3<=sizeLine;decide,λt1 H3 _ s3 g3=>⟨by show 2<=sizeLine;decide,λt2 H4 _ s4 g4=>r _ H4 (Y.trans (s3.trans s4)) ?_⟩⟩;have F:=Y.trans (s3.trans s4);refine⟨S,.ref t1,L',t2,M,rfl,SqT.of g4,⟨t1,rfl,s4.bA (SqT.of g3),h1.same F,h2.same F,⟨a6,(s3.trans s4) _ _ g2,(iM h5).imp λ_ _ z=>z.same F⟩⟩,λz=>?_,none_of U (n0 _ (none_of O V))⟩;rw[z,J] at V;cases V
 ·rw[aAx] at ly;obtain⟨j,a1,a2,a3⟩:=aN7 ly hy;have bD:=b0.same O;refine⟨⟨o,O _ _ g0⟩,?_⟩;have nz:eQ u d:=eQ.fz (O _ _ g0);have bz:But d u (L2.upd u d (.dK (enK c))):=But.upd;have x:Same G (L2.upd u d (.dK (enK c))):=bD.thaw g.at_;have a0:=bz.lst nz J;have a4:cV (λy (C:En)=>∃l,y=.ref l/\SqT K (L2.upd u d (.dK (enK c))) l [.str C.n,C.v]) ys j:=a2.imp λy C ⟨l,ey,Z⟩=>⟨l,ey,bz.bA nz Z⟩;have ac:H D=none:=none_of U (n0 _ hD);generalize L2.upd u d (.dK (enK c))=H5 at bz x a0 a4;have le:=a2.len;have la:=a1.len;have fw:=I.few;refine⟨D,ys,enK j,rfl,a0,aZd a4,by lia,λp H6 V s6 g6=>?_⟩;have W:(j.map (·.n)).Nodup:=by rw[aI4 a1];exact I.nd
  have a8:((enK j).map (·.1)).Nodup:=by unfold enK;rw[bDZ];exact List.pairwise_map.mpr ((List.pairwise_map.mp W).imp λ{a b} a5 z=>a5 (Sum.inr.inj z))
  rw[aCg _ [] (by rw[bD7];exact a8),bD7] at g6;refine q p H6 j (none_of U (none_of x V)) (U.trans (x.trans s6)) ⟨g6,W,by lia,λC h'=>?_,λC h'=>(bz.tb nz (a3 C h')).same s6⟩ a1;have:C.n∈c.map (·.n):=by rw[<-aI4 a1];exact bDG h'
  obtain⟨e0,h0,e1⟩:=List.mem_map.mp this;rw[<-e1];exact I.nm e0 h0
end
end My
namespace L2
open PySem PySem.Spec PyProof.Rows
section
variable {X:Cx}{scope:Scope}{N:List Str}{wi:TI}{te:TE}{σ:L2.St}{H:Hp}{Q:VK}
def aB4 {tt:TT}(xs:List V)(p:Nat->Bool)(g:L2.St)(hsz:xs.length<=sizeLine){J:It}(A:∀H' i x,Same H H'->xs[i]?=some x->J.go i H'/\∀y H2,J.yld i H' y H2->H2=H'/\y=x)(j:∀H',Same H H'->J.stop xs.length H')
  (B:∀(i:Nat) (x:V),xs[i]?=some x->∀H' R l,Same H H'->(∀H2,Same H' H2->R (p i) H2)->tt ((g.set 0 l).set 0 (some x)) H' R) (k:g[0]?=some none)
  (q:∀D H',H D=none->Same H H'->H' D=some (.lst (sel p 0 xs))->Q (.ref D) H'):tK J H g (cD 0) tt (aQ3 0) Q:=by
 intro D f;refine⟨λi m r H' d=>i<=xs.length/\m=xs.length - i/\(∃l,r=g.set 0 l)/\Same H H'/\H' D=some (.lst d)/\d=sel p 0 (xs.take i),⟨xs.length,bAG _,rfl,⟨none,mG k⟩,bC f _,aH,rfl⟩,?_⟩;rintro i m r H' d ⟨hi,rfl,⟨l,rfl⟩,sm,hL,rfl⟩;refine⟨hL,?_⟩;by_cases a:i<xs.length
 ·right;obtain⟨t,u⟩:=A H' i xs[i] sm (d7 a);refine⟨t,λx H2 v=>?_⟩;obtain⟨rfl,rfl⟩:=u x H2 v;unfold cD;dsimp only;have s:0<g.length:=by
   by_cases z:0<g.length
   ·exact z
   ·rw[bAD (by lia)] at k;cases k
  have h:sel p 0 (xs.take (i+1))=sel p 0 (xs.take i)++(if p i then [xs[i]] else []):=by rw[bBK,d7 a];show sel p 0 (xs.take i++[xs[i]])=_;rw[aB9,bAO,bDB,Nat.min_eq_left (bDL a)]
  refine B i xs[i] (d7 a) _ _ l sm λw c=>?_;cases n:p i with
  |true=>
   rw[if_pos rfl];refine⟨xs[i],by rw[bCF,bEE s],c _ _ hL,?_,xs.length - (i+1),by lia,a,rfl,⟨some xs[i],by rw[bCF]⟩,?_,aH,?_⟩
   ·have:=aHk p 0 (xs.take i);rw[bAO] at this;lia
   ·intro b o e;rw[aP (aU e f)];exact c _ _ (sm _ _ e)
   ·rw[h,n];rfl
  |false=>rw[if_neg (by simp)];refine⟨c _ _ hL,xs.length - (i+1),by lia,a,rfl,⟨some xs[i],by rw[bCF]⟩,sm.trans c,c _ _ hL,?_⟩;rw[h,n];simp
 ·left;have e:i=xs.length:=by lia
  subst e;refine⟨j _ sm,?_⟩;rw[bCW] at hL;exact q D _ f sm hL
def aFm {tt:TT}(xs:List V)(p:Nat->Bool)(a:L2.St)(b:Cap X scope N σ a)(hsz:xs.length<=sizeLine)
  (e:∀R:It->Hp->Prop,(∀J:It,(∀H' i x,Same H H'->xs[i]?=some x->J.go i H'/\∀y H2,J.yld i H' y H2->H2=H'/\y=x)->(∀H',Same H H'->J.stop xs.length H')->R J H)->wi σ H R)
  (d:∀(i:Nat) (x:V),xs[i]?=some x->∀H' R l,Same H H'->(∀H2,Same H' H2->R (p i) H2)->tt ((a.set 0 l).set 0 (some x)) H' R) (c:a[0]?=some none)
  (q:∀D H',H D=none->Same H H'->H' D=some (.lst (sel p 0 xs))->Q (.ref D) H') :
  lN X scope N wi (cD 0) tt (aQ3 0) σ H Q:=
 ⟨a,b,e _ λJ go stop=>aB4 xs p a hsz go stop d c q⟩
end
end L2
namespace My
open PySem PySem.Spec PyProof.Rows L2
section
variable {P:Program}{w:World}{K:bFH}{mg:bFK}{base:Heap}
section
variable {X:Cx}
def aY7:R2:=λx y H Q=>(∃a b,x=.int a/\y=.int b/\Q (.bl (!decide (b<a))) H)\/∃a b:Str,x=.str a/\y=.str b/\Q (.bl (!decide (b.cps.toList<a.cps.toList))) H
theorem aUm:OpR X (compareOp .LtE) aY7:=by
 intro f s σ H x y v u Q I c d h;rcases h with⟨a,b,rfl,rfl,q⟩|⟨a,b,rfl,rfl,q⟩
 ·obtain⟨t,rfl⟩:=c;obtain⟨e,rfl⟩:=d;refine PyProof.Rows.le_int ?_;rw[show decide (a<=b)=!decide (b<a) by by_cases h:b<a <;> simp[h] <;> lia];exact⟨.bl _,H,I,rfl,q⟩
 ·obtain⟨t,rfl⟩:=c;obtain⟨e,rfl⟩:=d;exact P.le_str ⟨.bl _,H,I,rfl,q⟩
end
def aPs {X:Cx}{tg a b:Expr}{t:TA}{p pos:Pos}(d:Gl X "range")(e:X.mg "range"=none)(f:VA X [a,b] t)(g:dB a=true:=by rfl)(c:dB b=true:=by rfl):VI X tg (.Call (.Name "range" p) [a,b] [] pos) (aYc t):=⟨aP1 d e f.1 (by rw[aR g,aR (es:=[]) c];rfl) (by rw[aR (es:=[]) c];rfl)⟩
def pH (K:bFH):Sp:=λvs H Q _=>∃(d:Addr) (es:List En) (e:En),vs=[.ref d,.str e.n]/\mL K H d es/\e∈es/\∀H',Same H H'->Q e.v H'
theorem aHg:∀{es:List En} {e:En},(es.map (·.n)).Nodup->e∈es->qX (enK es) (Sum.inr e.n)=some e.v
 |[],e,nd,h=>by cases h
 |a::es,e,nd,h=>by
  rw[bAN,bD6] at nd;rcases List.mem_cons.mp h with rfl|h
  ·exact sX rfl
  ·have:a.n≠e.n:=λz=>nd.1 (z ▸ bDG h);show qX ((Sum.inr a.n,a.v)::enK es) (Sum.inr e.n)=_;rw[wV (λz=>this (Sum.inr.inj z))];exact aHg nd.2 h
def aJy (T:Txt w K mg)(r:Ok P w K mg base 2 "is_name" ["thing"] (aD8 K nameB)):Ok P w K mg base 3 "table_in" ["placed","name"] (pH K):=by
 refine Ok.ofV T.aLh aH7 (by trivial) (λf m A c s H o Q E i h=>?_)
 obtain⟨d,p,e,rfl,a,g,q⟩:=h;have k:=sU i;refine⟨_,(aD (cA (VW.pt (gJ (cP (cG (aN (r.mono (by decide)) i (by rfl) (aB (vv 1) aA)))) (eZ (aEq k (vv 1) (vv 0))))) (aG eV) aZ) (aG (aL (aA0 k (vv 0) (vv 1) (λ_ _=>rfl))))),?_⟩;refine⟨_,rfl,_,rfl,(a.nm e g).th,λl b=>⟨_,rfl,?_⟩⟩;rw[show nameB (.str e.n)=true from a.nm e g];refine bZ ?_;have j:=aHg a.nd g;refine⟨_,rfl,_,rfl,d,_,rfl,.inl ⟨_,Sum.inr e.n,.inl (b _ _ a.at_),rfl,rfl⟩,_,rfl,?_⟩;rw[j];refine bZ ?_;exact⟨_,rfl,_,rfl,d,e.v,rfl,.inl ⟨_,Sum.inr e.n,.inl (b _ _ a.at_),rfl,j.symm⟩,q l b⟩
theorem aZf {kd:Str}{a b:V}{H:Hp}{Q:VK}(d:cM kd a)(c:cM kd b)(q:Q (.bl (!vlt b a)) H):aY7 a b H Q:=by
 cases d with
 |num=>cases c;exact .inl ⟨_,_,rfl,rfl,q⟩
 |wrd _ _=>cases c;exact .inr ⟨_,_,rfl,rfl,q⟩
def jN (v:V):List (V × Int)->Nat->Nat->Nat
 |[],_,n=>n
 |c::t,p,n=>jN v t (p+1) (if vlt v c.1=true then n else p)
theorem yV (v:V):∀(l:List (V × Int)) (c:V × Int) (p n:Nat),jN v (l++[c]) p n=if vlt v c.1=true then jN v l p n else p+l.length
 |[],c,p,n=>by show (if _ then _ else _)=_;rfl
 |a::l,c,p,n=>by
  show jN v (l++[c]) (p+1) _=_;rw[yV v l c];show (if _ then jN v l (p+1) _ else p+1+l.length)=if _ then jN v l (p+1) _ else p+(l.length+1)
  rw[show p+1+l.length=p+(l.length+1) by lia]
theorem aOi (v:V)(l:List (V × Int)):jN v l 1 0<=l.length:=by
 suffices ∀(l:List (V × Int)) (p n:Nat),n<=p+l.length - 1\/n=0->jN v l p n<=p+l.length - 1\/jN v l p n=0 by rcases this l 1 0 (.inr rfl) with h|h <;> lia
 intro l
 induction l with
 |nil=>intro p n h;exact h
 |cons c t ih=>
  intro p n h;have:=ih (p+1) (if vlt v c.1=true then n else p) (by
   rw[v9] at h
   split
   ·rcases h with h|h
    ·left;lia
    ·right;exact h
   ·left;lia)
  rw[v9];rcases this with h|h
  ·left;show jN v t (p+1) _<=_;lia
  ·right;exact h
def aCj (K:bFH):Sp:=λvs H Q _=>∃(vc v:V) (kd:Str) (h0:Int) (cs:List (V × Int)),vs=[vc,v]/\rG K H (lC K H) vc ((.non,h0)::cs)/\cs.length<=7/\cM kd v/\(∀c∈cs,cM kd c.1)/\Q (.int (jN v cs 1 0:Nat)) H
def aPv (T:Txt w K mg):Ok P w K mg base 1 "cut_of" ["cuts","value"] (aCj K):=by
 refine Ok.ofV T.aS3 uA (by trivial) (λf F A n s H N Q E M h=>?_)
 obtain⟨O,v,L,R,b,rfl,⟨a,d,rfl,B,z⟩,S,G,x,q⟩:=h;refine⟨_,(aD (aV (i:=2) uA.nd rfl (by trivial) aC) (aD (jT PassesOwn.never rfl (aPs (by rfl) T.lU (aB aC (aB (aM bB (by rfl) T.eX cY (aB (vv 0) aA)) aA))) (aO (i:=3) uA.nd rfl (by trivial)) (aG (cA (aY aUm (aK aX (aK aX (vv 0) (vv 3) (λ_ _=>rfl)) aC (λ_ _=>rfl)) (vv 1) (aW _)) (aG (aV (i:=2) uA.nd rfl (by trivial) (vv 3))) aZ))) (aG (aL (vv 2))))),?_⟩;have I:=z.len;rw[v9] at I;have J:d.length<=8:=by lia
 refine⟨_,rfl,_,_,rfl,.inr B,1,d.length,rfl,⟨by decide,by decide,by lia,by lia⟩,?_⟩;rw[show ((d.length:Int) - 1).toNat=b.length by lia];refine jV (λi σ r=>r=H/\∃l,σ=[some (.ref a),some v,some (.int (jN v (b.take i) 1 0:Nat)),l]) ⟨rfl,_,rfl⟩ (λi σ r U p=>?_) fun σ r p=>?_
 ·obtain⟨rfl,l,rfl⟩:=p;have j:i+1<d.length:=by lia
  obtain⟨c,t,C,m,k⟩:=cJ z (d7 j);rw[List.getElem?_cons_succ] at t;have e:atI d (1+(i:Int))=some (.ref C):=by rw[show (1+(i:Int))=((i+1:Nat):Int) by lia,<-m];exact bV (d7 j)
  have u:=x c (t7 t);have D:b.take (i+1)=b.take i++[c]:=by rw[bBK,t];rfl
  have o:(b.take i).length=i:=by rw[bAO];lia
  refine⟨_,rfl,_,rfl,a,d,_,_,rfl,rfl,B,e,C,_,0,_,rfl,rfl,k,at0 _ _,_,rfl,aZf u G ⟨_,rfl,?_⟩⟩;have g:=yV v (b.take i) c 1 0;rw[<-D,o] at g;cases y:vlt v c.1 with
  |true=>rw[y,if_pos rfl] at g;exact bZ ⟨rfl,some (.int (1+(i:Int))),by rw[g];rfl⟩
  |false=>rw[y,if_neg v4] at g;refine eU ⟨_,rfl,rfl,some (.int (1+(i:Int))),?_⟩;rw[g,show (((1+i:Nat)):Int)=1+(i:Int) by lia];rfl
 ·obtain⟨rfl,l,rfl⟩:=p;rw[bAW (j0 _)];exact⟨_,rfl,q⟩
def cF (hd:Hdr)(m:Int)(r:List V)(house:Int):Plc->Bool
 |.copies=>true
 |.keys n=>decide (nm (r.getD (plc hd n) .non) % m=house)
 |.spans n h0 cs=>decide ((((.non,h0)::cs).map (·.2)).getD (jN (r.getD (plc hd n) .non) cs 1 0) 0=house)
def aEs (K:bFH):Sp:=λvs H Q _=>∃(vh vp vr:V) (house m:Int) (hd:Hdr) (pl:Plc) (r:List V),vs=[vh,vp,vr,.int house,.int m]/\lJ K H vh hd/\aQh hd/\rA K H vp pl/\aXi hd m pl/\cI K H vr r/\jQ hd r/\0<m/\∀H',Same H H'->Q (.bl (cF hd m r house pl)) H'
def aJl {hd:Hdr}{r:List V}(h:jQ hd r){n k:Str}(d:look hd n=some k):∃v,r[plc hd n]?=some v/\r.getD (plc hd n) .non=v/\cM k v:=by obtain⟨b,_⟩:=aFz d;obtain⟨v,a,c⟩:=cJ h b;exact⟨v,a,by rw[j4,a];rfl,c⟩
theorem aF5 (T:Txt w K mg)(vQ:Ok P w K mg base 2 "place_of" ["head","name"] (oZ K))(a0:Ok P w K mg base 2 "home" ["value","houses"] aOa)(a4:Ok P w K mg base 1 "cut_of" ["cuts","value"] (aCj K)):Ok P w K mg base 3 "stands_at" ["head","placing","row","house","houses"] (aEs K):=by
 refine Ok.ofV T.aJp qL (by trivial) (λf a1 A I s H vs Q E L h=>?_)
 obtain⟨Y,vp,vr,b,m,hd,pl,r,rfl,W,N,l,j,⟨U,rfl,u⟩,y,m0,q⟩:=h;have l8:=N.1.2.2;refine⟨_,(aD (cA (aY dW (aK aX (vv 1) aC (λ_ _=>rfl)) bN (aW _)) (aG (aL jO)) aZ) (aD (aV (i:=5) qL.nd rfl (by trivial) (aK aX (vv 2) (aN (vQ.mono (by decide)) L (by rfl) (aB (vv 0) (aB (aK aX (vv 1) aC (λ_ _=>rfl)) aA))) (λ_ _=>rfl))) (aD (cA (aY dW (aK aX (vv 1) aC (λ_ _=>rfl)) bN (aW _)) (aG (aL (cR dW (aN (a0.mono (by decide)) L (by rfl) (aB (vv 5) (aB (vv 4) aA))) (vv 3) (aW _)))) aZ) (aD (aV (i:=6) qL.nd rfl (by trivial) (aK aX (vv 1) aC (λ_ _=>rfl))) (aG (aL (cR dW (aK aX (aK aX (vv 6) (aN (a4.mono (by decide)) L (by rfl) (aB (vv 6) (aB (vv 5) aA))) (λ_ _=>rfl)) aC (λ_ _=>rfl)) (vv 3) (aW _)))))))),?_⟩;cases pl with
 |copies=>obtain⟨a,rfl,g⟩:=l;exact⟨_,rfl,a,_,0,_,rfl,rfl,g,at0 _ _,rfl,_,rfl,eU (q H (Same.refl H))⟩
 |keys n=>
  obtain⟨a,rfl,g⟩:=l;obtain⟨hn,k,p⟩:=j;obtain⟨v,C,J,o⟩:=aJl y p;refine⟨_,rfl,a,_,0,_,rfl,rfl,g,at0 _ _,rfl,_,rfl,gO (by decide +kernel) ?_⟩;refine⟨_,rfl,_,rfl,_,rfl,a,_,1,_,rfl,rfl,g,at1 _ _ _,Y,n,hd,k,rfl,W,by lia,p,λR d=>?_⟩;refine⟨U,r,_,v,rfl,rfl,d.bA u,bV C,?_⟩;refine⟨_,rfl,a,_,0,_,rfl,rfl,d.bA g,at0 _ _,rfl,_,rfl,nP (by decide +kernel) ?_⟩;refine⟨_,rfl,_,rfl,v,m,rfl,yR o,m0,_,rfl,rfl,?_⟩;have e:decide (V.int (nm v % m)=V.int b)=cF hd m r b (.keys n):=by show _=decide (nm (r.getD (plc hd n) .non) % m=b);rw[J];exact decide_eq_decide.mpr ⟨λz=>V.int.inj z,λz=>congrArg V.int z⟩
  rw[e];exact q R d
 |spans n h0 cs=>
  obtain⟨a,vc,rfl,g,M⟩:=l;obtain⟨hn,k,p,a3,B⟩:=j;obtain⟨v,C,J,o⟩:=aJl y p;refine⟨_,rfl,a,_,0,_,rfl,rfl,g,at0 _ _,rfl,_,rfl,gO (by decide +kernel) ?_⟩;refine⟨_,rfl,_,rfl,_,rfl,a,_,1,_,rfl,rfl,g,at1 _ _ _,Y,n,hd,k,rfl,W,by lia,p,λR d=>?_⟩;refine⟨U,r,_,v,rfl,rfl,d.bA u,bV C,?_⟩;refine⟨_,rfl,a,_,0,_,rfl,rfl,d.bA g,at0 _ _,rfl,_,rfl,gO (by decide +kernel) ?_⟩;refine⟨_,rfl,a,_,2,_,rfl,rfl,d.bA g,at2 _ _ _ _,?_⟩;have x:=rG.same d (λ_ _ z=>z.same d) M;obtain⟨Z,S,ec,G,t⟩:=id x;subst ec;have lu:=t.len;rw[v9] at lu;have a2:=aOi v cs;obtain⟨c,O,X,F,D⟩:=cJ t (d7 (show jN v cs 1 0<S.length by lia));refine⟨_,rfl,_,rfl,_,rfl,.ref Z,v,k,h0,cs,rfl,x,B.few,o,λc M=>(B.each c M).1,Z,S,_,.ref X,rfl,rfl,G,bV (by rw[d7 (show jN v cs 1 0<S.length by lia),F]),X,_,1,_,rfl,rfl,D,at1 _ _ _,_,rfl,rfl,?_⟩;have e:decide (V.int c.2=V.int b)=cF hd m r b (.spans n h0 cs):=by show _=decide ((((.non,h0)::cs).map (·.2)).getD (jN (r.getD (plc hd n) .non) cs 1 0) 0=b);rw[J,j4,v6,O];exact decide_eq_decide.mpr ⟨λz=>V.int.inj z,λz=>congrArg V.int z⟩
  rw[e];exact q R d
theorem mX {α:Type}{p:Nat->Bool}{p':α->Bool}:∀{k:Nat} {xs:List α},(∀(i:Nat) (x:α),xs[i]?=some x->p (k+i)=p' x)->sel p k xs=xs.filter p'
 |_,[],_=>rfl
 |k,x::r,h=>by have a:=h 0 x rfl;rw[Nat.add_zero] at a;show (if p k then x::sel p (k+1) r else sel p (k+1) r)=_;rw[bDJ,a,mX (k:=k+1) (xs:=r) λi y e=>by rw[show k+1+i=k+(i+1) by lia];exact h (i+1) y (by simpa using e)]
theorem aCt {α β:Type}{R:α->β->Prop}{p:Nat->Bool}{as:List α}{c:List β}(h:cV R as c):∀k,cV R (sel p k as) (sel p k c):=by
 induction h with
 |nil=>exact λ_=>.nil
 |@cons a b as c r _ ih=>
  intro k;show cV R (if p k then a::sel p (k+1) as else sel p (k+1) as) (if p k then b::sel p (k+1) c else sel p (k+1) c)
  split
  ·exact .cons r (ih _)
  ·exact ih _
def aAw {X:Cx}{scope:Scope}{x y z y3:Str}{σ:L2.St}{u v u3:V}(i j k:Nat)(g:(y,NameKind.free)∈scope.names)(o:(z,NameKind.free)∈scope.names)(d:(y3,NameKind.free)∈scope.names)(hi:X.N[i]?=some y)(f:X.N[j]?=some z)(s:X.N[k]?=some y3)(h:σ[i]?=some (some u))(m:σ[j]?=some (some v))(e:σ[k]?=some (some u3))(l:Vis X.env.scope y)(p:Vis X.env.scope z)(c:Vis X.env.scope y3):Cap X scope [x,y,z,y3] σ [none,some u,some v,some u3]:=
 ⟨rfl,λn q r b a=>by
  match n,b,a with
  |0,_,a=>cases a
  |1,b,a=>cases b;cases a;exact⟨g,i,hi,h,l⟩
  |2,b,a=>cases b;cases a;exact⟨o,j,f,m,p⟩
  |3,b,a=>cases b;cases a;exact⟨d,k,s,e,c⟩
  |n+4,b,_=>cases b⟩
def yJ (K:bFH):Sp:=λvs H Q _=>∃(v vh vp:V) (L:Addr) (t:Tb) (house m:Int),vs=[v,.int house,.int m]/\oX K H v vh vp L t/\mD m t/\0<=house/\house<m /\
 ∀D' H',H D'=none->Same H H'->bY K H' D' (t.rows.filter λr=>cF t.hd m r house t.pl)->Q (.ref D') H'
def aNh (T:Txt w K mg)(cW:Ok P w K mg base 2 "is_number_below" ["thing","many"] wL)(V:Ok P w K mg base 3 "stands_at" ["head","placing","row","house","houses"] (aEs K)):Ok P w K mg base 4 "rows_at" ["table","house","houses"] (yJ K):=by
 refine Ok.ofV T.aRe aM4 (by trivial) (λf S A o s H vs Q E B h=>?_)
 obtain⟨v,W,I,L,t,b,m,rfl,G,d,Y,hm,q⟩:=h;refine⟨_,(aD (cA (cP (cG (aN (cW.mono (by decide)) B (by rfl) (aB (vv 1) (aB (vv 2) aA))))) (aG eV) aZ) (aG (aL (cL (N:=["row","house","houses","table"]) (by trivial) (dZ (aF tW) rfl (by decide +kernel)) rfl (eN (aK (bR (K:=K)) (vv 0) aC (λ_ _=>rfl))) (λcl s' j fp=>⟨(aO (i:=0) (show (["row","house","houses","table"]:List Str).Nodup from by decide +kernel) rfl (Or.inl rfl)),(mJ (cG (aN (V.mono (by decide)) B (by rfl) (aB (aK (bR (K:=K)) (vv 3) aC (λ_ _=>rfl)) (aB (aK (bR (K:=K)) (vv 3) aC (λ_ _=>rfl)) (aB (vv 0) (aB (vv 1) (aB (vv 2) aA)))))))),(vv 0)⟩))))),?_⟩;refine⟨_,rfl,_,rfl,b,m,rfl,_,rfl,?_⟩;rw[t6 Y,t6 hm];refine bZ ?_;obtain⟨a,rfl,p,J,k,⟨us,hL,n⟩⟩:=G;have lu:=n.len;have fw:=d.few;have D:0<m:=by lia
 refine aFm us (λi=>cF t.hd m (t.rows.getD i []) b t.pl) [none,some (.int b),some (.int m),some (.ref a)] ?_ (small (by lia)) (λR r=>aOz (λj c=>SqL.of (c _ _ hL)) (λR' M=>⟨_,rfl,a,_,2,_,rfl,rfl,p,at2 _ _ _ _,M⟩) R r) (λi u O j R l c C=>?_) rfl λF j U c y=>?_
 ·exact aAw 1 2 0 (by decide +kernel) (by decide +kernel) (by decide +kernel) rfl rfl rfl rfl rfl rfl (by trivial) (by trivial) (by trivial)
 ·obtain⟨r,g,z⟩:=cJ n O;have x:=d.rows r (t7 g);have X:t.rows.getD i []=r:=by rw[j4,g];rfl
  rw[X] at C;refine⟨_,rfl,a,_,0,_,rfl,rfl,c.bA p,at0 _ _,_,rfl,a,_,1,_,rfl,rfl,c.bA p,at1 _ _ _,_,rfl,_,rfl,_,rfl,W,I,u,b,m,t.hd,t.pl,r,rfl,J.same c,d.hd,k.same c,d.pl,z.same c,x,D,λZ s2=>⟨_,rfl,C Z s2⟩⟩
 ·refine q F j U c ⟨_,y,?_⟩;have e:(t.rows.filter λr=>cF t.hd m r b t.pl)=sel (λi=>cF t.hd m (t.rows.getD i []) b t.pl) 0 t.rows:=(mX λi r g=>by rw[bDB,j4,g];rfl).symm;rw[e];exact (aCt n 0).imp λ_ _ r=>r.same c
def tL (K:bFH)(H:Hp)(C x:Addr)(m:Int)(d:Addr)(es:List En):Prop:=(∃dx,H x=some (.ins C dx [("placed",.ref d),("house_count",.int m)]))/\mL K H d es/\∀e∈es,mD m e.t
theorem tL.same {H H':Hp}{C x d:Addr}{m:Int}{es:List En}(s:Same H H')(h:tL K H C x m d es):tL K H' C x m d es:=by obtain⟨⟨e,a⟩,b,c⟩:=h;exact⟨⟨e,s _ _ a⟩,b.same s,c⟩
theorem eQ.ins {H:Hp}{x C dx:Addr}{fs:List (Str × V)}(h:H x=some (.ins C dx fs)):eQ H x:=⟨λ_ z=>(by rw[h] at z;cases z),λ_ _ z=>(by rw[h] at z;cases z),λ_ z=>(by rw[h] at z;cases z)⟩
theorem aE9 {α β:Type}{R:α->β->Prop}{as:List α}{bs:List β}(h:cV R as bs){b:β}(hb:b∈bs):∃a∈as,R a b:=by
 induction h with
 |nil=>cases hb
 |cons r _ ih=>
  rcases List.mem_cons.mp hb with rfl|hb
  ·exact⟨_,j6,r⟩
  ·obtain⟨a,c,d⟩:=ih hb;exact⟨a,j8 _ c,d⟩
def mD.sorted {m:Int}{t:Tb}(h:mD m t):mD m { t with rows:=srt t.rows }:=⟨h.hd,h.pl,by show (srt t.rows).length<=60;rw[qH];exact h.few,λr a=>h.rows r (fZ a)⟩
def aOw (K:bFH)(C Pt:Addr):Sp:=λvs H Q _=>∃(H0:Hp) (x dx d:Addr) (m:Int) (es:List En),vs=[.ref x,.int m,.ref d]/\H x=some (.ins C dx [])/\H0 x=none/\Same H0 H/\1<=m/\m<=6/\mL K H0 d es/\(∀e∈es,mD m e.t)/\H0 Pt=some (.tab qC) /\
 ∀d' H' es',H0 d'=none->Same H0 H'->tL K H' C x m d' es'->cV (λe e'=>∃v L,e'=aC9 e v L/\H0 L=none) es es'->Q .non H'
def aS6 (T:Txt w K mg){C Pt:Addr}(c:Cls K C)(D:fU K C "__init__" "Town.__init__" gZ ["self","houses","tables"])(n1:bI K C "placed")(n2:bI K C "house_count")(lL:Ok P w K mg base 10 "placed_tables" ["houses","tables"] (yH K Pt)):OkM P w K mg base C 11 "__init__" ["self","houses","tables"] (aOw K C Pt):=by
 refine OkM.ofV c D yP (by trivial) (λf U A r s H vs Q E X h=>?_)
 obtain⟨N,x,i,d,m,Z,rfl,J,W,k,m1,O,V,B,M,q⟩:=h;refine⟨_,(aD (aA8 (K:=K) (vv 0) (aN (lL.mono (by decide)) X (by rfl) (aB (vv 1) (aB (vv 2) aA)))) (aG (aA8 (K:=K) (vv 0) (vv 1)))),?_⟩;refine⟨_,rfl,_,rfl,d,m,Z,rfl,m1,O,V.same k,B,k _ _ M,λj n y g F a G=>?_⟩;have l:=F _ _ J;refine⟨_,rfl,x,C,i,[],rfl,l,c,n1,by decide,?_⟩;refine⟨_,rfl,_,rfl,x,C,i,_,rfl,aH,c,n2,by show 1<1000;decide,?_⟩;have nx:eQ n x:=eQ.ins l;have u:j≠x:=λz=>by rw[z,J] at g;cases g
 have t:But x n (L2.upd (L2.upd n x (.ins C i [("placed",.ref j)])) x (.ins C i [("placed",.ref j),("house_count",.int m)])):=λb o I h=>by rw[aP I,aP I];exact h
 have s2:Same N (L2.upd (L2.upd n x (.ins C i [("placed",.ref j)])) x (.ins C i [("placed",.ref j),("house_count",.int m)])):=λb o h=>t _ _ (λz=>by rw[z,W] at h;cases h) (F _ _ (k _ _ h));refine q j _ y (none_of k g) s2 ⟨⟨i,aH⟩,⟨t _ _ u a.at_,a.nd,a.few,a.nm,λe p=>t.tb nx (a.tb e p)⟩,λe p=>?_⟩ (G.imp λe e' ⟨v,L,Y,S⟩=>⟨v,L,Y,none_of k S⟩);obtain⟨R,h0,v,L,rfl,_⟩:=aE9 G p;exact (B R h0).sorted
def aA7 (K:bFH)(C:Addr):Sp:=λvs H Q _=>∃(x d:Addr) (m:Int) (es:List En) (e:En),vs=[.ref x,.str e.n]/\tL K H C x m d es/\e∈es/\∀H',Same H H'->Q e.vp H'
def aI0 (T:Txt w K mg){C:Addr}(c:Cls K C)(D:fU K C "placing" "Town.placing" jG ["self","name"])(G:bI K C "placed")(y:Ok P w K mg base 3 "table_in" ["placed","name"] (pH K)):OkM P w K mg base C 4 "placing" ["self","name"] (aA7 K C):=by
 refine OkM.ofV c D aAq (by trivial) (λf n A b s H I Q E o h=>?_)
 obtain⟨x,d,m,p,e,rfl,⟨⟨u,t⟩,i,z⟩,j,q⟩:=h;refine⟨_,(aG (aL (aK (bR (K:=K)) (aN (y.mono (by decide)) o (by rfl) (aB (dC (K:=K) (vv 0)) (aB (vv 1) aA))) aC (λ_ _=>rfl)))),?_⟩;obtain⟨a,k,l,B,F,v⟩:=i.tb e j;exact⟨_,rfl,x,C,u,_,_,rfl,t,c,G,rfl,_,rfl,d,p,e,rfl,i,j,λr g=>⟨a,_,1,_,k,rfl,g.bA l,at1 _ _ _,q r g⟩⟩
def wJ (K:bFH)(C:Addr):Sp:=λvs H Q _=>∃(x d:Addr) (m:Int) (es:List En) (e:En),vs=[.ref x,.str e.n]/\tL K H C x m d es/\e∈es/\∀L H',H L=none->Same H H'->bY K H' L e.t.rows->Q (.ref L) H'
def aQe (T:Txt w K mg){C:Addr}(c:Cls K C)(D:fU K C "whole" "Town.whole" lZ ["self","name"])(S:bI K C "placed")(M:Ok P w K mg base 3 "table_in" ["placed","name"] (pH K)):OkM P w K mg base C 4 "whole" ["self","name"] (wJ K C):=by
 refine OkM.ofV c D aDm (by trivial) (λf v A g s H U Q E z h=>?_)
 obtain⟨x,d,m,B,e,rfl,⟨⟨J,I⟩,j,t⟩,i,q⟩:=h;refine⟨_,(aG (aL (cX (aKd (K:=K)) (by rfl) T.aA4 wB (aB (aK (bR (K:=K)) (aN (M.mono (by decide)) z (by rfl) (aB (dC (K:=K) (vv 0)) (aB (vv 1) aA))) aC (λ_ _=>rfl)) aA)))),?_⟩;obtain⟨a,p,u,N,R,⟨l,o,k⟩⟩:=j.tb e i;have W:=k.len;have O:=(t e i).few;refine⟨_,rfl,x,C,J,_,_,rfl,I,c,S,rfl,_,rfl,d,B,e,rfl,j,i,λV b=>⟨a,_,2,_,p,rfl,b.bA u,at2 _ _ _ _,e.L,l,rfl,.inl (SqL.of (b _ _ o)),λL G y n F=>q L G (none_of b y) (b.trans n) ⟨l,F,k.imp λ_ _ r=>r.same (b.trans n)⟩⟩⟩
def aN6 (K:bFH)(C:Addr):Sp:=λvs H Q _=>∃(x d:Addr) (m house:Int) (es:List En) (e:En),vs=[.ref x,.str e.n,.int house]/\tL K H C x m d es/\e∈es/\0<=house/\house<m/\∀L H',H L=none->Same H H'->bY K H' L (e.t.rows.filter λr=>cF e.t.hd m r house e.t.pl)->Q (.ref L) H'
def aU8 (T:Txt w K mg){C:Addr}(c:Cls K C)(D:fU K C "part" "Town.part" nY ["self","name","house"])(J:bI K C "placed")(N:bI K C "house_count")(I:Ok P w K mg base 3 "table_in" ["placed","name"] (pH K))(R:Ok P w K mg base 4 "rows_at" ["table","house","houses"] (yJ K)):OkM P w K mg base C 5 "part" ["self","name","house"] (aN6 K C):=by
 refine OkM.ofV c D aGm (by trivial) (λf r A g s H M Q E k h=>?_)
 obtain⟨x,d,m,a,y,e,rfl,⟨⟨n,l⟩,j,o⟩,i,z,F,q⟩:=h;refine⟨_,(aG (aL (aN (R.mono (by decide)) k (by rfl) (aB (aN (I.mono (by decide)) k (by rfl) (aB (dC (K:=K) (vv 0)) (aB (vv 1) aA))) (aB (vv 2) (aB (dC (K:=K) (vv 0)) aA)))))),?_⟩;refine⟨_,rfl,x,C,n,_,_,rfl,l,c,J,rfl,_,rfl,d,y,e,rfl,j,i,λO b=>?_⟩;refine⟨_,rfl,_,rfl,x,C,n,_,_,rfl,b _ _ l,c,N,rfl,e.v,e.vh,e.vp,e.L,e.t,a,m,rfl,(j.tb e i).same b,o e i,z,F,λL B u G p=>q L B (none_of b u) (b.trans G) p⟩
end
end My
namespace L2
open PySem PySem.Spec PyProof.Rows
abbrev M61:Int:=2305843009213693951
def iK (H:Hp)(a:Addr):Prop:=∃s:Int,H a=some (.lst [.int s])/\True
structure Fx (a:Addr)(H H':Hp):Prop where
 same:∀b o,b≠a->H b=some o->H' b=some o
 st:iK H' a
def Fx.trans {a:Addr}{H H1 H2:Hp}(f:Fx a H H1)(g:Fx a H1 H2):Fx a H H2:=⟨λb o n e=>g.same b o n (f.same b o n e),g.st⟩
def iK.same {a:Addr}{H H':Hp}(h:iK H a)(e:Same H H'):iK H' a:=by obtain⟨s,b,c⟩:=h;exact⟨s,e _ _ b,c⟩
def Fx.of {a:Addr}{H H':Hp}(h:iK H a)(e:Same H H'):Fx a H H':=⟨λb o _ q=>e b o q,h.same e⟩
theorem Fx.refl {a:Addr}{H:Hp}(h:iK H a):Fx a H H:=.of h (Same.refl H)
def Fx.sm {a:Addr}{H H1 H2:Hp}(f:Fx a H H1)(e:Same H1 H2):Fx a H H2:=f.trans (.of f.st e)
def iK.ne {a p:Addr}{H:Hp}(h:iK H a)(f:H p=none):p≠a:=by obtain⟨s,b,_⟩:=h;exact (aU b f).symm
def Fx.bA {K:bFH}{a p:Addr}{H H':Hp}{xs:List V}(f:Fx a H H')(h:iK H a)(e:SqT K H p xs):SqT K H' p xs:=by
 obtain⟨s,b,_⟩:=h;rcases e with (e|⟨o,e⟩)|e
 ·exact .inl (.inl (f.same p _ (aKn e b (by intro z;cases z)) e))
 ·exact .inl (.inr ⟨o,f.same p _ (aKn e b (by intro z;cases z)) e⟩)
 ·exact .inr e
theorem Fx.upd {a D:Addr}{H H':Hp}{o:HO}(f:Fx a H H')(h:H D=none)(g:D≠a):Fx a H (L2.upd H' D o):=⟨λb u n e=>by rw[aP (aU e h)];exact f.same b u n e,by obtain⟨s,c,d⟩:=f.st;exact⟨s,by rw[aP g.symm];exact c,d⟩⟩
theorem Fx.free {a p:Addr}{H H':Hp}(f:Fx a H H')(h:H' p=none):H p=none:=by
 cases e:H p with
 |none=>rfl
 |some o=>
  by_cases z:p=a
  ·subst z;obtain⟨s,b,_⟩:=f.st;rw[b] at h;cases h
  ·rw[f.same p o z e] at h;cases h
def aUr {a:Addr}{H:Hp}(h:iK H a):bAf (Fx a) H:=⟨λD o c=>.of h (bC c o),λa b=>a.trans b,λD o i c f=>f.upd c (h.ne c),λD g d j c _ e f=>f.same _ _ (h.ne c) e⟩
end L2
namespace My
open PySem PySem.Spec PyProof.Rows L2
section
variable {P:Program}{w:World}{K:bFH}{mg:bFK}{base:Heap}
def aPq (K:bFH):Sp:=λvs H Q _=>∃(a:Addr) (ns:List Int),vs=[.ref a]/\SqL K H a (ns.map V.int)/\ns.length<=63/\∀c H',Same H H'->0<=c->c<M61->Q (.int c) H'
def aHw (T:Txt w K mg):Ok P w K mg base 1 "_law_seed" ["_law_script"] (aPq K):=by
 refine Ok.ofV T.aJz jL (by trivial) (λf l A d s H n Q E m h=>?_)
 obtain⟨a,k,rfl,g,j,q⟩:=h;refine⟨_,(aD (aV (i:=1) jL.nd rfl (by trivial) aC) (aD (jT PassesOwn.never rfl (aW8 (by rfl) T.aKp (aB (vv 0) aA)) (zF rfl (bH (aO (i:=2) jL.nd rfl (by trivial)) (bH (aO (i:=3) jL.nd rfl (by trivial)) fV))) (aG (aV (i:=1) jL.nd rfl (by trivial) (bO qO (bO dX (bO dX (bO dX (bO yL (vv 1) aC) (bO qO (vv 3) (bO aHv aC aC))) (bO yL aC (vv 2))) aC) aC)))) (aG (aL (vv 1))))),?_⟩;refine⟨_,rfl,a,k.map V.int,rfl,g,aVc (λi σ b=>Same H b/\∃(c:Int) (l2 l3:Option V),0<=c/\c<M61/\σ=[some (.ref a),some (.int c),l2,l3]) ⟨Same.refl H,7,_,_,by decide,by decide,rfl⟩ (λi σ b _ ⟨e,_⟩=>e.seq g) ?_ ?_⟩
 ·rintro i σ b x Tp H'' ex ⟨sm,c,l2,l3,c0,c1,rfl⟩ hT rfl;obtain⟨z,o,rfl⟩:=aUe ex;refine⟨Tp,_,rfl,SqT.of aH,rfl,_,_,rfl,_,_,rfl,rfl,?_⟩;refine⟨_,rfl,_,_,rfl,rfl,.inr ⟨by decide,by decide⟩,_,rfl,_,_,rfl,rfl,⟨by decide,by decide,by decide⟩,_,_,rfl,rfl,(by show (0:Int)<10 ^ 30;decide),_,_,rfl,rfl,_,rfl,_,_,rfl,rfl,.inl ⟨by decide,by decide⟩,_,_,rfl,rfl,_,_,rfl,rfl,_,_,rfl,rfl,(by show (0:Int)<2305843009213693951;decide),?_⟩;exact⟨sm.trans (bC hT _),_,_,_,bE1 _ (by decide),bEB _ (by decide),rfl⟩
 ·rintro σ b ⟨sm,c,l2,l3,c0,c1,rfl⟩;exact⟨_,rfl,q c b sm c0 c1⟩
def nG:Sp:=λvs H Q _=>∃(a:Addr) (m:Int),vs=[.ref a,.int m]/\iK H a/\(0<m/\m<2 ^ 64)/\∀c H',Fx a H H'->0<=c->c<m->Q (.int c) H'
def aFr (T:Txt w K mg):Ok P w K mg base 1 "_law_next" ["_law_state","_law_many"] nG:=by
 refine Ok.ofV T.aJg aGd (by trivial) (λf i A c s H l Q E k h=>?_)
 obtain⟨a,m,rfl,⟨e,d,p⟩,⟨g,j⟩,q⟩:=h;refine⟨_,(aD (rY (bO qO (bO dX (bO yL (aK bK (vv 0) aC (λ_ _=>rfl)) aC) aC) aC) (aLs (vv 0) aC set_list)) (aG (aL (bO qO (bO aXb (aK bK (vv 0) aC (λ_ _=>rfl)) aC) (vv 1))))),?_⟩;refine⟨_,rfl,a,_,0,_,rfl,rfl,SqL.of d,at0 _ _,_,_,rfl,rfl,.inr ⟨by decide,by decide⟩,_,_,rfl,rfl,_,_,rfl,rfl,(by show (0:Int)<2305843009213693951;decide),?_⟩;refine⟨_,rfl,a,_,0,0,rfl,rfl,d,rfl,?_⟩;refine⟨_,rfl,a,[.int ((e * 1181783497276652981+12345678910987) % 2305843009213693951)],0,_,rfl,rfl,SqL.of aH,at0 _ _,_,_,rfl,rfl,⟨by decide,by decide⟩,_,rfl,_,_,rfl,rfl,g,?_⟩;exact q _ _ ⟨λb o n h=>by rw[aP n];exact h,(e * 1181783497276652981+12345678910987) % 2305843009213693951,aH,trivial⟩ (bE1 _ (by lia)) (bEB _ g)
def aIj:Sp:=λvs H Q _=>∃a:Addr,vs=[.ref a]/\iK H a/\∀i H',Fx a H H'->Q (.int i) H'
def aDi (T:Txt w K mg)(B:Ok P w K mg base 1 "_law_next" ["_law_state","_law_many"] nG):Ok P w K mg base 2 "_law_great" ["_law_state"] aIj:=by
 refine Ok.ofV T.aHb kI (by trivial) (λf x A e s H D Q E l h=>?_)
 obtain⟨a,rfl,y,q⟩:=h;refine⟨_,(aD (aV (i:=1) kI.nd rfl (by trivial) aC) (aD (jT PassesOwn.never rfl (iI (by rfl) T.lU (aB aC aA)) (aO (i:=2) kI.nd rfl (by trivial)) (aG (aV (i:=1) kI.nd rfl (by trivial) (bO dX (bO yL (vv 1) (bO aHv aC aC)) (aN (B.mono (by decide)) l (by rfl) (aB (vv 0) (aB (bO aHv aC aC) aA))))))) (aG (aL (aK bK (dJ (aB (vv 1) (aB (bO aBx aC (vv 1)) aA))) (aN (B.mono (by decide)) l (by rfl) (aB (vv 0) (aB aC aA))) (λ_ _=>rfl)))))),?_⟩;refine⟨_,rfl,by decide,by decide,jV (n:=4) (λi σ g=>Fx a H g/\∃(c:Int) (l2:Option V),σ=[some (.ref a),some (.int c),l2]) ⟨.refl y,0,_,rfl⟩ ?_ ?_⟩
 ·rintro i σ g hi ⟨fx,c,l2,rfl⟩;refine⟨_,rfl,_,_,rfl,rfl,⟨by decide,by decide,by decide⟩,_,_,rfl,rfl,.inr ⟨by decide,by decide⟩,_,rfl,_,_,rfl,rfl,⟨by decide,by decide,by decide⟩,a,_,rfl,fx.st,(by show (0:Int)<10 ^ 15/\(10:Int) ^ 15<2 ^ 64;decide),λd z m _ _=>?_⟩;exact⟨_,_,rfl,rfl,fx.trans m,_,_,rfl⟩
 ·rintro σ g ⟨fx,c,l2,rfl⟩;refine⟨_,rfl,_,rfl,_,_,rfl,rfl,(by show 2<=sizeLine;decide),λp z o b r=>?_⟩;refine⟨_,rfl,a,2,rfl,fx.st.same b,by decide,λd F j t C=>?_⟩;obtain⟨v,u,k⟩:=at_of (xs:=[.int c,.int (0 - c)]) t (by show d<2;lia);refine⟨p,_,_,v,rfl,rfl,SqL.of (j.same _ _ (fx.st.ne o) r),u,?_⟩;simp only[bAC,w6,or_false] at k;rcases k with rfl|rfl
  ·exact q _ _ ((fx.sm b).trans j)
  ·exact q _ _ ((fx.sm b).trans j)
abbrev aMt:List V:=[.str "",.str "a",.str "b",.str "ab"]
def aG2:Sp:=λvs H Q _=>∃(a:Addr) (kd:Str),vs=[.ref a,.str kd]/\iK H a/\aRa kd/\∀v H',Fx a H H'->cM kd v->Q v H'
def aNs {v:V}(h:v∈aMt):cM "word" v:=by
 simp only[aMt,bAC,w6,or_false] at h;have a:∀x:Str,(x.cps.all λc=>decide (97<=c) && decide (c<=122))=true->Lets x:=λx b c d=>by have:=(Array.all_eq_true_iff_forall_mem.mp b) c d;rw[bAT] at this;exact⟨of_decide_eq_true this.1,of_decide_eq_true this.2⟩
 rcases h with rfl|rfl|rfl|rfl
 ·exact .wrd (a _ (by decide +kernel)) (by decide +kernel)
 ·exact .wrd (a _ (by decide +kernel)) (by decide +kernel)
 ·exact .wrd (a _ (by decide +kernel)) (by decide +kernel)
 ·exact .wrd (a _ (by decide +kernel)) (by decide +kernel)
def aDk (T:Txt w K mg)(F:Ok P w K mg base 1 "_law_next" ["_law_state","_law_many"] nG)(S:Ok P w K mg base 2 "_law_great" ["_law_state"] aIj):Ok P w K mg base 3 "_law_value" ["_law_state","_law_kind"] aG2:=by
 refine Ok.ofV T.aG0 gK (by trivial) (λf N A y s H Z Q E l h=>?_)
 obtain⟨a,X,rfl,R,O,q⟩:=h;refine⟨_,(aD (aV (i:=2) gK.nd rfl (by trivial) (aN (F.mono (by decide)) l (by rfl) (aB (vv 0) (aB aC aA)))) (aD (cA (aY dW (vv 1) bN (aW _)) (aG (aL (aK bK (dJ (aB (bO aBx (aN (F.mono (by decide)) l (by rfl) (aB (vv 0) (aB aC aA))) aC) (aB (aN (S.mono (by decide)) l (by rfl) (aB (vv 0) aA)) aA))) (cX aFn (by rfl) T.aSy aMm (aB (cR dW (vv 2) aC (aW _)) aA)) (λ_ _=>rfl)))) aZ) (aD (cA (aY aSl (vv 2) aC (aW _)) (aG (aL (aK bK (dJ (aB bN (aB bN (aB bN (aB bN aA))))) (bO qO (vv 2) aC) (λ_ _=>rfl)))) aZ) (aD (aV (i:=3) gK.nd rfl (by trivial) bN) (aD (jT PassesOwn.never rfl (iI (by rfl) T.lU (aB (aN (F.mono (by decide)) l (by rfl) (aB (vv 0) (aB aC aA))) aA)) (aO (i:=4) gK.nd rfl (by trivial)) (aG (aV (i:=3) gK.nd rfl (by trivial) (bO pX (vv 3) (rR bN (aN (F.mono (by decide)) l (by rfl) (aB (vv 0) (aB aC aA))) (λ_ _=>rfl)))))) (aG (aL (vv 3)))))))),?_⟩;refine⟨_,rfl,a,10,rfl,R,by decide,λb H1 k w0 w1=>?_⟩;rcases O with rfl|rfl
 ·refine⟨_,rfl,rfl,_,rfl,eU ?_⟩;refine⟨_,rfl,a,4,rfl,k.st,by decide,λd U r t u=>?_⟩;refine⟨_,_,rfl,rfl,_,rfl,a,rfl,r.st,λg I B=>?_⟩;refine⟨(by show 2<=sizeLine;decide),λp M _ C o=>?_⟩;have c:=(k.trans (r.trans B)).sm C;refine⟨_,rfl,rfl,.inr ⟨_,rfl,?_⟩⟩;by_cases e:b=9
  ·rw[t6 (congrArg V.int e)];exact⟨p,_,_,_,rfl,rfl,SqL.of o,bV (j:=1) rfl,q _ _ c .num⟩
  ·rw[v8 (by intro z;exact e (V.int.inj z))];exact⟨p,_,_,_,rfl,rfl,SqL.of o,bV (j:=0) rfl,q _ _ c .num⟩
 ·refine⟨_,rfl,rfl,_,rfl,bZ ?_⟩;refine⟨_,rfl,_,_,rfl,rfl,_,rfl,aMf (λ_=>?_) (λ_=>?_)⟩
  ·refine⟨(by show 4<=sizeLine;decide),λp M _ C o=>?_⟩;obtain⟨v,L,J⟩:=at_of (xs:=aMt) (j:=b % 4) (by lia) (by show b % 4<4;lia);exact⟨_,rfl,_,_,rfl,rfl,(by show (0:Int)<4;decide),p,_,_,v,rfl,rfl,SqL.of o,L,q _ _ (k.sm C) (aNs J)⟩
  ·refine⟨_,rfl,a,9,rfl,k.st,by decide,λn U r W Y=>?_⟩;refine⟨_,rfl,by lia,by lia,jV (n:=n.toNat) (λi σ D=>Fx a H D/\∃(x:Str) (l4:Option V),σ=[some (.ref a),some (.str "word"),some (.int b),some (.str x),l4]/\x.length<=i/\Lets x) ⟨k.trans r,_,_,rfl,by decide +kernel,λd hd=>by simp[show (("":Str).cps)=#[] from rfl] at hd⟩ ?_ ?_⟩
   ·rintro i σ D hi ⟨c,x,l4,rfl,hl,hx⟩;have G:abc.length=26:=by decide +kernel
    refine⟨_,rfl,_,rfl,a,26,rfl,c.st,by decide,λd I B t u=>?_⟩;obtain⟨ch,m⟩:=aO3 (z:=abc) t (by rw[G];exact u);refine⟨_,_,_,rfl,rfl,t,(by lia),(by rw[G];exact u),m,_,_,rfl,rfl,?_,c.trans B,_,_,rfl,?_,hx.add (aH6.one m)⟩
    ·show x.length+1<=sizeLine;exact small (by lia)
    ·rw[aHf];show x.length+1<=i+1;lia
   ·rintro σ D ⟨c,x,l4,rfl,hl,hx⟩;exact⟨_,rfl,q _ _ c (.wrd hx (by lia))⟩
def aFj:Sp:=λvs H Q _=>vs=[]/\∀p H',H p=none->Same H H'->H' p=some (.lst words)->Q (.ref p) H'
def aD7 (T:Txt w K mg):Ok P w K mg base 1 "_law_words" [] aFj:=by
 refine Ok.ofV T.aHx uK (by trivial) (λf o A a s H t Q E r h=>?_)
 obtain⟨rfl,q⟩:=h;refine⟨_,(aD (aV (i:=0) uK.nd rfl (by trivial) (dJ (aB bN (aB bN (aB bN (aB bN (aB bN (aB bN (aB bN (aB bN (aB bN aA))))))))))) (aG (aL (bO sS (vv 0) (dJ (aB bN (aB bN (aB bN (aB bN (aB bN (aB bN (aB bN (aB bN aA))))))))))))),?_⟩;refine⟨(by show 9<=sizeLine;decide),λl v _ c g=>?_⟩;refine⟨_,rfl,(by show 8<=sizeLine;decide),λe u _ b k=>?_⟩;exact⟨l,e,_,_,rfl,rfl,b _ _ g,k,(by show 9+8<=sizeLine;decide),λp d m j n=>q p d ((c.trans b).free m) (c.trans (b.trans j)) n⟩
def xO (ns:List Str):Prop:=ns.length=17/\(∀n∈ns,Nm n)/\ns.Nodup
def xO.rev {ns:List Str}(h:xO ns):xO ns.reverse:=⟨by rw[List.length_reverse];exact h.1,λn a=>h.2.1 n (List.mem_reverse.mp a),List.pairwise_reverse.mpr (h.2.2.imp λq=>Ne.symm q)⟩
def aZz:∀j:_root_.Fin 26,abc.cps[j.val]?=some (97+j.val):=by decide +kernel
def aVf {j:Nat}(h:j<26):abc.cps[j]?=some (97+j):=aZz ⟨j,h⟩
def sgl (o:Nat):List Str:=(List.range 17).map λk=>⟨#[97+(o+k)]⟩
def aOq:∀o:_root_.Fin 10,((sgl o.val).all λn=>nameB (.str n))=true/\(Txt.slice abc (some (o.val:Int)) (some ((o.val:Int)+17))).cps.size=17/\((List.range 17).all λi=>decide (sgn (Txt.slice abc (some (o.val:Int)) (some ((o.val:Int)+17))) i=⟨#[97+(o.val+i)]⟩))=true:=by decide +kernel
def aSg {a b:Nat}(h:(⟨#[a]⟩:Str)=⟨#[b]⟩):a=b:=by have:=congrArg (λx:Str=>x.cps.toList) h;simpa using this
def aTc {o:Nat}(h:o<10):xO (sgl o):=by
 refine⟨by simp[sgl],λn a=>?_,?_⟩
 ·have:=(aOq ⟨o,h⟩).1;rw[bBZ] at this;exact this n a
 ·refine List.pairwise_map.mpr (bD2 ?_ List.nodup_range);intro k l _ _ b e;have:=aSg e;exact b (by lia)
def aXy {o:Nat}(h:o<10):((List.range (Txt.slice abc (some (o:Int)) (some ((o:Int)+17))).cps.size).map λi=>V.str (sgn (Txt.slice abc (some (o:Int)) (some ((o:Int)+17))) i))=(sgl o).map V.str:=by obtain⟨_,a,b⟩:=aOq ⟨o,h⟩;have a:(Txt.slice abc (some (o:Int)) (some ((o:Int)+17))).cps.size=17:=a;rw[a];unfold sgl;rw[bDZ];refine List.map_congr_left λi c=>?_;rw[bBZ] at b;have:=of_decide_eq_true (b i c);show V.str _=V.str _;exact congrArg V.str this
def stm (b:Str)(a o:Nat):Nat->List Str:=λi=>(List.range i).map λk=>put b a (97+(o+k))
def bBd {b:Str}{a o:Nat}(x:Lets b)(hl:b.length<=7)(h:a<=b.length)(ho:o<10)(y:∀w∈words,inV w ((stm b a o 17).map V.str)=false):xO (stm b a o 17):=by
 refine⟨by simp[stm],λn i=>?_,?_⟩
 ·obtain⟨k,j,rfl⟩:=List.mem_map.mp i;have j:=List.mem_range.mp j;have d:inV (.str (put b a (97+(o+k)))) words=false:=by
   cases e:inV (.str (put b a (97+(o+k)))) words with
   |false=>rfl
   |true=>
    exfalso;unfold inV at e;rw[bDY] at e;obtain⟨v,f,m⟩:=e;have g:∃z:Str,v=.str z:=by simp only[words,bAC,w6,or_false] at f;rcases f with rfl|rfl|rfl|rfl|rfl|rfl|rfl|rfl|rfl|rfl|rfl|rfl|rfl|rfl|rfl|rfl|rfl <;> exact⟨_,rfl⟩
    obtain⟨z,rfl⟩:=g;have r:(z == put b a (97+(o+k)))=true:=m;have s:z=put b a (97+(o+k)):=by simpa using r
    have:=y _ f;rw[aO9,decide_eq_false_iff_not] at this;exact this (by rw[s];exact i)
  show ((decide (1<=(put b a (97+(o+k))).length) && (decide ((put b a (97+(o+k))).length<=8) && allIn (put b a (97+(o+k))))) && !inV (.str (put b a (97+(o+k)))) words)=true;have u:Lets (put b a (97+(o+k))):=λc t=>by
   rcases aV8 h t with rfl|z
   ·lia
   ·exact x c z
  rw[aWd h,t6 (p:=1<=b.length+1) (by lia),t6 (p:=b.length+1<=8) (by lia),allIn_of u,d];rfl
 ·refine List.pairwise_map.mpr (bD2 ?_ List.nodup_range);intro k l _ _ q e;have:=aVw h e;exact q (by lia)
def aTz:Sp:=λvs H Q _=>∃a:Addr,vs=[.ref a,.int 17]/\iK H a/\∀p H' ns,Fx a H H'->H p=none->H' p=some (.lst (ns.map V.str))->xO ns->Q (.ref p) H'
def aDx (T:Txt w K mg)(aQ:Ok P w K mg base 1 "_law_next" ["_law_state","_law_many"] nG)(a8:Ok P w K mg base 1 "_law_words" [] aFj):Ok P w K mg base 2 "_law_names" ["_law_state","_law_many"] aTz:=by
 refine Ok.ofV T.aF4 cN (by trivial) (λf a7 A a4 s H vs Q E G h=>?_)
 obtain⟨a,rfl,hs,q⟩:=h;refine⟨_,(aD (aV (i:=2) cN.nd rfl (by trivial) bN) (aD (aV (i:=3) cN.nd rfl (by trivial) (aN (aQ.mono (by decide)) G (by rfl) (aB (vv 0) (aB (bO aBx aC (vv 1)) aA)))) (aD (aV (i:=4) cN.nd rfl (by trivial) bN) (aD (jT PassesOwn.never rfl (iI (by rfl) T.lU (aB (aN (aQ.mono (by decide)) G (by rfl) (aB (vv 0) (aB aC aA))) aA)) (aO (i:=5) cN.nd rfl (by trivial)) (aG (aV (i:=4) cN.nd rfl (by trivial) (bO pX (vv 4) (rR (vv 2) (aN (aQ.mono (by decide)) G (by rfl) (aB (vv 0) (aB aC aA))) (λ_ _=>rfl)))))) (aD (aV (i:=6) cN.nd rfl (by trivial) (aN (aQ.mono (by decide)) G (by rfl) (aB (vv 0) (aB (bO dX (aM wH (by rfl) T.eX cY (aB (vv 4) aA)) aC) aA)))) (aD (aV (i:=7) cN.nd rfl (by trivial) (dJ aA)) (aD (jT PassesOwn.never rfl (iI (by rfl) T.lU (aB (vv 1) aA)) (aO (i:=5) cN.nd rfl (by trivial)) (aG (iR (wU PySem.F.plainAttrs_list PySem.F.slot_list_append PySem.F.type_list_append pZ (vv 7) (aB (bO pX (bO pX (fQ aG3 (vv 4) lA (iD (vv 6))) (rR (vv 2) (bO dX (vv 3) (vv 5)) (λ_ _=>rfl))) (fQ aG3 (vv 4) (iD (vv 6)) lA)) aA))))) (aD (cA (cG (aM (aR1 rfl) (by rfl) T.bBz aZo (aB (cL (N:=["_law_word","_law_names_here"]) (by trivial) (dZ (aF lO) rfl (by decide +kernel)) rfl (eN (bBc (a8.mono (by decide)) G (by rfl))) (λcl s' u fp=>⟨(aO (i:=0) (show (["_law_word","_law_names_here"]:List Str).Nodup from by decide +kernel) rfl (Or.inl rfl)),iH,(cR (aMo (K:=K)) (vv 0) (vv 1) (by with_unfolding_all rfl))⟩)) aA))) (aG (aV (i:=7) cN.nd rfl (by trivial) (cX (aNc rfl) (by rfl) T.aA4 wB (aB (fQ aG3 (vv 2) (iD (vv 3)) (iD (bO dX (vv 3) (vv 1)))) aA)))) aZ) (aD (cA (aY dW (aN (aQ.mono (by decide)) G (by rfl) (aB (vv 0) (aB aC aA))) aC (aW _)) (aG (iR (aY4 PySem.F.plainAttrs_list PySem.F.slot_list_reverse PySem.F.type_list_reverse aKw (vv 7)))) aZ) (aG (aL (vv 7)))))))))))),?_⟩;have M:abc.length=26:=by decide +kernel
 refine⟨_,rfl,_,rfl,_,_,rfl,rfl,a,10,rfl,hs,by decide,λod H1 f1 o0 o1=>?_⟩;obtain⟨o,rfl⟩:∃o:Nat,od=o:=⟨od.toNat,by lia⟩;have S:o<10:=by lia
 refine⟨_,rfl,a,8,rfl,f1.st,by decide,λn H2 f2 n0 n1=>?_⟩;refine⟨_,rfl,by lia,by lia,jV (n:=n.toNat) (λi σ u=>Fx a H u/\∃(x:Str) (l5:Option V),σ=[some (.ref a),some (.int 17),some (.str abc),some (.int (o:Nat)),some (.str x),l5,none,none]/\x.length<=i/\Lets x) ⟨f1.trans f2,_,_,rfl,by decide +kernel,λd hd=>by simp[show (("":Str).cps)=#[] from rfl] at hd⟩ ?_ ?_⟩
 ·rintro i σ u X ⟨fx,x,l5,rfl,hl,hx⟩;refine⟨_,rfl,_,rfl,_,rfl,a,26,rfl,fx.st,by decide,λd H3 U d0 d1=>?_⟩;obtain⟨ch,t⟩:=aO3 (z:=abc) d0 (by rw[M];exact d1);refine⟨_,_,_,rfl,rfl,d0,(by lia),(by rw[M];exact d1),t,_,_,rfl,rfl,?_,fx.trans U,_,_,rfl,?_,hx.add (aH6.one t)⟩
  ·show x.length+1<=sizeLine;exact small (by lia)
  ·rw[aHf];show x.length+1<=i+1;lia
 rintro σ H3 ⟨U,b,l5,rfl,hl,hb⟩;have a3:b.length<=7:=by lia
 refine⟨_,rfl,_,rfl,_,rfl,small (by lia),_,_,rfl,rfl,a,_,rfl,U.st,(by show (0:Int)<(b.length:Int)+1/\(b.length:Int)+1<2 ^ 64;lia),λai H4 f4 a0 a1=>?_⟩;obtain⟨g,rfl⟩:∃g:Nat,ai=g:=⟨ai.toNat,by lia⟩;have ha:g<=b.length:=by have:(g:Int)<(b.length:Int)+1:=a1;lia
 have L:=U.trans f4;refine⟨(by show 0<=sizeLine;decide),λp H5 fp s5 g5=>?_⟩;have k:H p=none:=L.free fp;have B:p≠a:=hs.ne k;refine⟨_,rfl,_,rfl,by decide,by decide,jV (n:=17) (λi σ u=>Fx a H u/\u p=some (.lst ((stm b g o i).map V.str))/\∃l5,σ=[some (.ref a),some (.int 17),some (.str abc),some (.int (o:Nat)),some (.str b),l5,some (.int (g:Nat)),some (.ref p)]) ⟨L.sm s5,g5,_,rfl⟩ ?_ ?_⟩
 ·rintro i σ u X ⟨fx,gp,l5,rfl⟩;have s1:=Txt.slice_le b none (some ((g:Nat):Int));have s2:=Txt.slice_le b (some ((g:Nat):Int)) none;have ej:((o:Int)+(0+(i:Int))).toNat=o+i:=by lia
  have t:abc.cps[((o:Int)+(0+(i:Int))).toNat]?=some (97+(o+i)):=by rw[ej];exact aVf (by lia)
  refine⟨_,rfl,.inl ⟨rfl,_,SqL.of gp⟩,_,rfl,_,rfl,_,rfl,_,rfl,small (by lia),_,rfl,_,rfl,_,rfl,_,_,rfl,rfl,_,_,_,rfl,rfl,(by show 0<=(o:Int)+(0+(i:Int));lia),(by show (o:Int)+(0+(i:Int))<2 ^ 63;lia),(by rw[M];show (o:Int)+(0+(i:Int))<26;lia),t,_,_,rfl,rfl,?_,_,rfl,_,rfl,_,rfl,_,rfl,small (by lia),_,_,rfl,rfl,?_,?_⟩
  ·show (Txt.slice b none (some ((g:Nat):Int))).length+1<=sizeLine;exact small (by lia)
  ·rw[aHf];show (Txt.slice b none (some ((g:Nat):Int))).length+1+_<=sizeLine;exact small (by lia)
  refine⟨p,_,_,rfl,rfl,gp,?_,fx.upd k B,?_,_,rfl⟩
  ·rw[j9];exact oU (by simp[stm];lia)
  ·rw[aH];unfold stm;rw[List.range_succ,bBI,bBI];rfl
 rintro σ H6 ⟨f6,g6,l5',rfl⟩;dsimp only[aDl,aJ5,tB,tCB,fG];refine aQg (K:=K) (λY=>Y=words) (λi _ y=>∃m,words[i]?=some m/\y=.bl (inV m ((stm b g o 17).map V.str))) (λ_ h=>h) (λ_ h=>h) [none,some (.ref p)] ?_ rfl (λR r=>⟨rfl,λW H7 _ O Z=>r W H7 _ O Z rfl⟩) (λY e=>by subst e;exact small (by decide)) (λY e i x ex u R l sm r=>?_) λY e D H7 ys O Z a9 hR=>?_
 ·exact lB 7 (by decide +kernel) rfl rfl (by trivial)
 ·subst e;have fl:lE x=true:=by have:=aCz;rw[bBZ] at this;exact this x (t7 ex)
  exact⟨_,rfl,_,rfl,p,_,rfl,.inl (SqL.of (sm _ _ g6)),fl,aJk,r _ _ (Same.refl _) ⟨x,ex,rfl⟩⟩
 subst e;have ey:ys=(words.map λm=>inV m ((stm b g o 17).map V.str)).map V.bl:=by
  rw[bDZ];refine bCE λi=>?_;by_cases X:i<ys.length
  ·obtain⟨m,h1,h2⟩:=hR i ys[i] (d7 X);rw[d7 X,v6,h1,h2];rfl
  ·rw[bAD (by lia),bAD (by rw[j9];lia)]
 rw[ey] at Z;refine⟨D,_,rfl,SqL.of Z,_,rfl,?_⟩;have J:=f6.sm O;refine aMf (λc=>?_) (λc=>?_)
 ·refine⟨_,rfl,_,rfl,_,rfl,_,rfl,_,rfl,_,_,rfl,rfl,_,rfl,abc,rfl,small (by rw[M];decide),?_⟩;refine⟨_,rfl,?_,λI H8 a5 s8 g8=>?_⟩
  ·have:=Txt.slice_le abc (some (o:Int)) (some ((o:Int)+17));rw[M] at this;exact bAM this (by decide)
  have a6:H8 I=some (.lst ((sgl o).map V.str)):=by rw[g8];exact congrArg (λz=>some (HO.lst z)) (aXy S)
  have f8:=J.sm s8;have j:H I=none:=J.free a5;refine⟨_,rfl,a,2,rfl,f8.st,by decide,λd H9 C d0 d1=>?_⟩;have v:=C.same _ _ (hs.ne j) a6;refine⟨rfl,_,rfl,aMf (λ_=>?_) (λ_=>?_)⟩
  ·refine⟨_,rfl,.inl ⟨rfl,_,SqL.of v⟩,I,_,rfl,rfl,v,?_⟩;refine⟨_,rfl,q I _ (sgl o).reverse ((f8.trans C).upd j (hs.ne j)) j ?_ (aTc S).rev⟩;rw[aH,List.map_reverse]
  ·exact⟨_,rfl,q I _ (sgl o) (f8.trans C) j v (aTc S)⟩
 ·have hw:∀m∈words,inV m ((stm b g o 17).map V.str)=false:=λm a2=>by
   cases e:inV m ((stm b g o 17).map V.str) with
   |false=>rfl
   |true=>exfalso;apply c;rw[bDY];exact⟨true,List.mem_map.mpr ⟨m,a2,e⟩,rfl⟩
  have hn:=bBd hb a3 ha S hw;refine⟨_,rfl,a,2,rfl,J.st,by decide,λd H9 C d0 d1=>?_⟩;have v:=C.same _ _ B (O _ _ g6);refine⟨rfl,_,rfl,aMf (λ_=>?_) (λ_=>?_)⟩
  ·refine⟨_,rfl,.inl ⟨rfl,_,SqL.of v⟩,p,_,rfl,rfl,v,?_⟩;refine⟨_,rfl,q p _ (stm b g o 17).reverse ((J.trans C).upd k B) k ?_ hn.rev⟩;rw[aH,List.map_reverse]
  ·exact⟨_,rfl,q p _ (stm b g o 17) (J.trans C) k v hn⟩
def aIt (K:bFH):Sp:=λvs H Q _=>∃(a N:Addr) (ns:List Str),vs=[.ref a,.ref N]/\iK H a/\H N=some (.lst (ns.map V.str))/\N≠a/\xO ns/\∀v H' hd,Fx a H H'->lJ K H' v hd->aQh hd->hd.length<=7->Q v H'
def aZ0 {α:Type}{l:List α}(h:l.Nodup){i j:Nat}{x:α}(f:l[i]?=some x)(g:l[j]?=some x):i=j:=by
 have e:=List.pairwise_iff_getElem.mp h;obtain⟨d,c⟩:=List.getElem?_eq_some_iff.mp f;obtain⟨b,a⟩:=List.getElem?_eq_some_iff.mp g;rcases bEP i j with q|q|q
 ·exact absurd (c.trans a.symm) (e i j d b q)
 ·exact q
 ·exact absurd (a.trans c.symm) (e j i b d q)
def bCe {α:Type}{l:List α}(h:∀(i j:Nat) (x:α),l[i]?=some x->l[j]?=some x->i=j):l.Nodup:=by refine List.pairwise_iff_getElem.mpr λi j c a b e=>?_;have:=h i j l[i] (d7 c) (by rw[d7 a,e]);lia
def aT5 {p:List Str}(o:xO p){st:Nat}{hd:Hdr}(hl:hd.length<=8)(h:∀(j:Nat) (c:Str × Str),hd[j]?=some c->p[3+(st+j) % 8]?=some c.1):(hd.map (·.1)).Nodup:=by
 refine bCe λi j x d f=>?_;have g:∀k,(hd.map (·.1))[k]?=some x->k<hd.length/\p[3+(st+k) % 8]?=some x:=λk a=>by
  rw[v6] at a;cases e:hd[k]? with
  |none=>rw[e] at a;cases a
  |some c=>rw[e] at a;cases a;exact⟨(List.getElem?_eq_some_iff.mp e).1,h k c e⟩
 obtain⟨m,l⟩:=g i d;obtain⟨n,b⟩:=g j f;have:=aZ0 o.2.2 l b;lia
def aGr (T:Txt w K mg)(aQ:Ok P w K mg base 1 "_law_next" ["_law_state","_law_many"] nG):Ok P w K mg base 2 "_law_head" ["_law_state","_law_names_here"] (aIt K):=by
 refine Ok.ofV T.aJn jD (by trivial) (λf a7 A a0 s H vs Q E I h=>?_)
 obtain⟨a,N,o,rfl,hs,hN,nN,O,q⟩:=h;refine⟨_,(aD (aV (i:=2) jD.nd rfl (by trivial) (aN (aQ.mono (by decide)) I (by rfl) (aB (vv 0) (aB aC aA)))) (aD (aV (i:=3) jD.nd rfl (by trivial) (dJ aA)) (aD (jT PassesOwn.never rfl (iI (by rfl) T.lU (aB (bO dX aC (bO yL (aN (aQ.mono (by decide)) I (by rfl) (aB (vv 0) (aB aC aA))) (bO dX aC (cX aFn (by rfl) T.aSy aMm (aB (cR dW (aN (aQ.mono (by decide)) I (by rfl) (aB (vv 0) (aB aC aA))) aC (aW _)) aA))))) aA)) (aO (i:=4) jD.nd rfl (by trivial)) (aD (aV (i:=5) jD.nd rfl (by trivial) (aK bK (dJ (aB bN (aB bN (aB bN aA)))) (aN (aQ.mono (by decide)) I (by rfl) (aB (vv 0) (aB aC aA))) (λ_ _=>rfl))) (aG (iR (wU PySem.F.plainAttrs_list PySem.F.slot_list_append PySem.F.type_list_append pZ (vv 3) (aB (dR (aB (aK bK (vv 1) (bO dX aC (bO qO (bO dX (vv 2) (vv 4)) aC)) (λ_ _=>rfl)) (aB (vv 5) aA))) aA)))))) (aG (aL (cX rP (by rfl) T.kO gQ (aB (vv 3) aA))))))),?_⟩;have a6:=O.1;refine⟨_,rfl,a,8,rfl,hs,by decide,λy H1 f1 a5 a4=>?_⟩;obtain⟨b,rfl⟩:∃b:Nat,y=b:=⟨y.toNat,by lia⟩;refine⟨(by show 0<=sizeLine;decide),λp H2 fp s2 g2=>?_⟩;have f2:=f1.sm s2;have v:H p=none:=f1.free fp;have g:p≠a:=hs.ne v;refine⟨_,rfl,a,4,rfl,f2.st,by decide,λm H3 R m0 m1=>?_⟩;refine⟨_,rfl,a,8,rfl,R.st,by decide,λe H4 f4 e0 e1=>?_⟩;have a3:=f2.trans (R.trans f4);have g4:=f4.same _ _ g (R.same _ _ g g2);refine⟨rfl,.inr ⟨_,rfl,?_⟩⟩;have J:∃z:Nat,1+m * (1+(if decide (V.int e=V.int 0) then 1 else 0))=(z:Int)/\1<=z/\z<=7:=by
  cases decide (V.int e=V.int 0)
  ·exact⟨(1+m).toNat,by simp;lia,by lia,by lia⟩
  ·exact⟨(1+m * 2).toNat,by simp;lia,by lia,by lia⟩
 obtain⟨z,ez,z1,z7⟩:=J;refine⟨_,_,rfl,rfl,_,_,rfl,rfl,.inl ⟨by lia,by lia⟩,_,_,rfl,rfl,?_⟩;refine⟨(z:Int),?_,by lia,by lia,?_⟩
 ·show [V.int (1+m * (1+(if decide (V.int e=V.int 0) then 1 else 0)))]=_;rw[ez]
 rw[bAR];refine jV (n:=z) (λi σ B=>Fx a H B/\∃(us:List V) (hd:Hdr) (l4 l5:Option V),B p=some (.lst us)/\hd.length=i/\cV (IsC K B) us hd/\(∀(j:Nat) (c:Str × Str),hd[j]?=some c->o[3+(b+j) % 8]?=some c.1/\aRa c.2)/\σ=[some (.ref a),some (.ref N),some (.int (b:Nat)),some (.ref p),l4,l5]) ⟨a3,[],[],_,_,g4,rfl,.nil,λj c h=>by simp at h,rfl⟩ ?_ ?_
 ·rintro i σ B hi ⟨fx,us,hd,l4,l5,gp,hl,hu,hc,rfl⟩;have lu:=hu.len;refine⟨(by show 3<=sizeLine;decide),λp1 H5 U l S=>?_⟩;refine⟨_,rfl,a,3,rfl,fx.st.same l,by decide,λd H6 G d0 d1=>?_⟩;obtain⟨kv,X,r⟩:=at_of (xs:=[.str "number",.str "number",.str "word"]) d0 (by show d<3;lia);obtain⟨D,rfl,a1⟩:∃D:Str,kv=.str D/\aRa D:=by
   simp only[bAC,w6,or_false] at r;rcases r with rfl|rfl|rfl
   ·exact⟨_,rfl,.inl rfl⟩
   ·exact⟨_,rfl,.inl rfl⟩
   ·exact⟨_,rfl,.inr rfl⟩
  have u:=(fx.sm l).trans G;refine⟨p1,_,_,_,rfl,rfl,SqL.of (G.same _ _ (fx.st.ne U) S),X,?_⟩;have k:=G.same _ _ g (l _ _ gp);have W:=u.same _ _ nN hN;have a2:cV (IsC K H6) us hd:=hu.imp λ_ _ ⟨p',ep,hp⟩=>⟨p',ep,G.bA (fx.st.same l) (l.bA hp)⟩;have x:3+(b+i) % 8<o.length:=by lia
  refine⟨_,rfl,.inl ⟨rfl,_,SqL.of k⟩,?_⟩;refine⟨_,rfl,_,rfl,_,rfl,_,_,rfl,rfl,_,_,rfl,rfl,(by show (0:Int)<8;decide),_,_,rfl,rfl,N,_,_,.str o[3+(b+i) % 8],rfl,rfl,SqL.of W,?_,_,rfl,(by show 2<=sizeLine;decide),λt H7 ft C g7=>?_⟩
  ·have e8:(3:Int)+((b:Int)+(0+(i:Int))) % 8=((3+(b+i) % 8:Nat):Int):=by lia
   show atI (o.map V.str) ((3:Int)+((b:Int)+(0+(i:Int))) % 8)=_;rw[e8];exact bV (by rw[v6,d7 x];rfl)
  refine⟨p,_,_,rfl,rfl,C _ _ k,oU (by lia),?_⟩;have M:t≠p:=(aU k ft).symm;refine⟨(u.sm C).upd v g,us++[.ref t],hd++[(o[3+(b+i) % 8],D)],_,_,aH,by rw[bAB,hl];rfl,?_,λj c h=>?_,rfl⟩
  ·refine (a2.imp λ_ _ ⟨p',ep,hp⟩=>⟨p',ep,(C.bA hp).mV (C _ _ k)⟩).app (.cons ⟨t,rfl,SqT.of (by rw[aP M];exact g7)⟩ .nil)
  ·by_cases Y:j<hd.length
   ·rw[bBM Y] at h;exact hc j c h
   ·rw[bBJ (by lia)] at h;have Z:j - hd.length=0:=by
     by_cases z0:j - hd.length=0
     ·exact z0
     ·rw[bAD (by simp;lia)] at h;cases h
    rw[Z] at h;cases h;have:j=i:=by lia
    subst this;exact⟨d7 x,a1⟩
 ·rintro σ B ⟨fx,us,hd,l4,l5,gp,hl,hu,hc,rfl⟩;refine⟨_,rfl,p,us,rfl,SqL.of gp,λt H5 _ l S=>q _ _ hd (fx.sm l) ⟨t,us,rfl,SqT.of S,hu.imp λ_ _ h=>h.same l⟩ ⟨⟨aT5 O (by lia) λj c h=>(hc j c h).1,by lia,by lia⟩,λc L=>?_⟩ (by lia)⟩;obtain⟨j,Y,e⟩:=bBC L;have h2:=hc j c (by rw[d7 Y,e]);exact⟨O.2.1 _ (t7 h2.1),h2.2⟩
def TK (K:bFH)(H H':Hp):Prop:=∀p xs,SqT K H p xs->SqT K H' p xs
def _root_.L2.Fx.tk {K:bFH}{a:Addr}{H H':Hp}(f:Fx a H H')(h:iK H a):TK K H H':=λ_ _ e=>f.bA h e
def TK.of {K:bFH}{H H':Hp}(s:Same H H'):TK K H H':=λ_ _ e=>s.bA e
def IsC.tk {K:bFH}{H H':Hp}{v:V}{c:Str × Str}(e:TK K H H')(h:IsC K H v c):IsC K H' v c:=by obtain⟨p,rfl,a⟩:=h;exact⟨p,rfl,e _ _ a⟩
def aPo {α:Type}{K:bFH}{H H':Hp}{R S:V->α->Prop}{v:V}{xs:List α}(e:TK K H H')(k:∀a b,R a b->S a b)(h:rG K H R v xs):rG K H' S v xs:=by obtain⟨a,f,rfl,c,d⟩:=h;exact⟨a,f,rfl,e _ _ c,d.imp k⟩
theorem lJ.tk {K:bFH}{H H':Hp}{v:V}{hd:Hdr}(e:TK K H H')(h:lJ K H v hd):lJ K H' v hd:=aPo e (λ_ _ q=>q.tk e) h
theorem aS0 {hd:Hdr}(a:(hd.map (·.1)).Nodup){c:Str × Str}(h:c∈hd):look hd c.1=some c.2:=by
 induction hd with
 |nil=>cases h
 |cons x r ih=>
  rw[bAN,bD6] at a;unfold look;rw[bCK];rcases List.mem_cons.mp h with rfl|h
  ·rw[t6 rfl];rfl
  ·have b:¬ x.1=c.1:=λz=>a.1 (by rw[z];exact List.mem_map.mpr ⟨c,h,rfl⟩);rw[v8 b];exact ih a.2 h
theorem aCx {α β:Type}{R:α->β->Prop}:∀{as:List α} {bs:List β},as.length=bs.length->(∀(i:Nat) (a:α) (b:β),as[i]?=some a->bs[i]?=some b->R a b)->cV R as bs
 |[],[],_,_=>.nil
 |[],_::_,h,_=>by cases h
 |_::_,[],h,_=>by cases h
 |a::as,b::bs,h,k=>.cons (k 0 a b rfl rfl) (aCx (by simpa using h) λi x y d c=>k (i+1) x y (by simpa using d) (by simpa using c))
theorem rE {α:Type}:∀(k:Nat) (xs:List α),sel (λ_=>true) k xs=xs
 |_,[]=>rfl
 |k,x::r=>by show (if true=true then x::sel (λ_=>true) (k+1) r else _)=_;rw[if_pos rfl,rE (k+1) r]
def pL {R:Nat->V->Prop}{n:Nat}{ys:List V}(h:uJ R (List.range n) ys):ys.length=n/\∀(i:Nat) (y:V),ys[i]?=some y->R i y:=by
 have d:∀{c:List Nat} {ys:List V},uJ R c ys->∀(i:Nat) (y:V),ys[i]?=some y->∃j,c[i]?=some j/\R j y:=by
  intro c ys h
  induction h with
  |nil=>intro i y e;simp at e
  |cons r _ ih=>
   intro i y e;cases i with
   |zero=>cases e;exact⟨_,rfl,r⟩
   |succ i=>obtain⟨j,a,b⟩:=ih i y (by simpa using e);exact⟨j,by simpa using a,b⟩
 have l:=h.len;rw[bAL] at l;refine⟨l.symm,λi y e=>?_⟩;obtain⟨j,a,b⟩:=d h i y e;have f:i<n:=by have:=(List.getElem?_eq_some_iff.mp e).1;lia
 rw[bCI f] at a;cases a;exact b
theorem aR0 {ks:List Bool}{r:List V}(h:KdR ks r):∀x∈r,(∃i,x=.int i)\/∃z,x=.str z:=by
 unfold KdR at h
 induction h with
 |nil=>intro x hx;cases hx
 |@cons b y _ _ h _ ih=>
  intro x hx;rcases List.mem_cons.mp hx with rfl|hx
  ·cases b with
   |true=>exact .inl h
   |false=>exact .inr h
  ·exact ih x hx
def aH2 (K:bFH):Sp:=λvs H Q _=>∃(a:Addr) (vh:V) (hd:Hdr),vs=[.ref a,vh]/\iK H a/\lJ K H vh hd/\aQh hd/\∀t H' r,Fx a H H'->H' t=some (.tup r)->jQ hd r->Q (.ref t) H'
def aK0 (T:Txt w K mg)(qJ:Ok P w K mg base 3 "_law_value" ["_law_state","_law_kind"] aG2):Ok P w K mg base 4 "_law_row" ["_law_state","_law_head_here"] (aH2 K):=by
 refine Ok.ofV T.aNr aI2 (by trivial) (λf V A C s H vs Q E hr h=>?_)
 obtain⟨a,vh,hd,rfl,o,⟨b,W,rfl,I,L⟩,⟨B,z⟩,q⟩:=h;refine⟨_,(aG (aL (cX rP (by rfl) T.kO gQ (aB (cL (N:=["_law_name","_law_kind","_law_state"]) (by trivial) (dZ (aF qI) rfl (by decide +kernel)) rfl (rB (vv 1)) (λcl s' l fp=>⟨(tY (K:=K) (n:=2) rfl (bH (aO (i:=0) (show (["_law_name","_law_kind","_law_state"]:List Str).Nodup from by decide +kernel) rfl (Or.inl rfl)) (bH (aO (i:=1) (show (["_law_name","_law_kind","_law_state"]:List Str).Nodup from by decide +kernel) rfl (Or.inl rfl)) fV))),iH,(aN (qJ.mono (by decide)) hr (by rfl) (aB (vv 2) (aB (vv 1) aA)))⟩)) aA)))),?_⟩;have lu:=L.len;have l8:=B.2.2;dsimp only[tV,tCB,fG];refine xK [none,none,some (.ref a)] ?_ ⟨_,rfl,b,rfl,⟨_,I⟩,aJb (Fx a) (aUr o) W (λ_=>true) (λi _ y=>∃d,hd[i]?=some d/\cM d.2 y) (λ_ _ h=>h) (λ_ _ _ h=>h) (λi σ=>∃d,hd[i]?=some d/\At2 [none,none,some (.ref a)] (.str d.1) (.str d.2) σ) (Ps2 [none,none,some (.ref a)]) ⟨none,none,rfl⟩ (small (by lia)) _ (aF7 λl e=>e.bA o I) (xT λl e=>e.bA o I) (λi x σ' l Q' G F e Z=>?_) (λi x u G O l R e r=>r l (Fx.refl e.st)) (λi x u G O hp l R e r=>?_) λD H6 ys f6 fD U m=>?_⟩
 ·refine⟨rfl,λi y v j g=>?_⟩
  match i,j,g with
  |0,_,g=>cases g
  |1,_,g=>cases g
  |2,j,g=>cases j;cases g;exact⟨by decide +kernel,0,rfl,rfl,by trivial⟩
  |i+3,j,_=>cases j
 ·obtain⟨d,c,p',rfl,J⟩:=cJ L G;exact hg2 (e.bA o J) F fun u j g=>Z u j ⟨d,c,g⟩
 ·obtain⟨d,c,rfl⟩:=O;exact⟨_,rfl,_,rfl,a,d.2,rfl,e.st,(z d (t7 c)).2,λv H2 f2 p=>r v H2 f2 ⟨d,c,p⟩⟩
 ·rw[rE] at m;obtain⟨l1,S⟩:=pL m;refine⟨D,_,rfl,SqL.of U,λt Y _ X g3=>q t Y ys (f6.sm X) g3 (aCx (by lia) λi k y M ey=>?_)⟩;obtain⟨d,c,p⟩:=S i y ey;rw[c] at M;cases M;exact p
end
end My
namespace L2
open PySem PySem.Spec PyProof.Rows
theorem aSn {k:Bool}{a b:V}(c:KdV k a)(d:KdV k b)(h:kvlt a b=true):kvlt b a=false:=by
 cases k with
 |true=>obtain⟨x,rfl⟩:=c;obtain⟨y,rfl⟩:=d;have:=of_decide_eq_true (show decide (x<y)=true from h);exact v8 (by lia)
 |false=>obtain⟨x,rfl⟩:=c;obtain⟨y,rfl⟩:=d;have:=of_decide_eq_true (show decide (x.cps.toList<y.cps.toList)=true from h);exact v8 (List.lt_asymm this)
theorem bAd {k:Bool}{a b c:V}(i:KdV k a)(j:KdV k b)(g:KdV k c)(e:kvlt b a=false)(f:kvlt c b=false):kvlt c a=false:=by
 cases k with
 |true=>obtain⟨x,rfl⟩:=i;obtain⟨y,rfl⟩:=j;obtain⟨z,rfl⟩:=g;have:=of_decide_eq_false (show decide (y<x)=false from e);have:=of_decide_eq_false (show decide (z<y)=false from f);exact v8 (by lia)
 |false=>obtain⟨x,rfl⟩:=i;obtain⟨y,rfl⟩:=j;obtain⟨z,rfl⟩:=g;have h:=of_decide_eq_false (show decide (y.cps.toList<x.cps.toList)=false from e);have d:=of_decide_eq_false (show decide (z.cps.toList<y.cps.toList)=false from f);exact v8 (List.not_lt.mpr (List.le_trans (List.not_lt.mp h) (List.not_lt.mp d)))
theorem aRu {k:Bool}{a b:V}(i:KdV k a)(j:KdV k b)(d:kvlt a b=false)(f:kvlt b a=false):a=b:=by
 cases k with
 |true=>obtain⟨x,rfl⟩:=i;obtain⟨y,rfl⟩:=j;have:=of_decide_eq_false (show decide (x<y)=false from d);have:=of_decide_eq_false (show decide (y<x)=false from f);rw[show x=y by lia]
 |false=>obtain⟨x,rfl⟩:=i;obtain⟨y,rfl⟩:=j;have g:=of_decide_eq_false (show decide (x.cps.toList<y.cps.toList)=false from d);have c:=of_decide_eq_false (show decide (y.cps.toList<x.cps.toList)=false from f);have e:x.cps.toList=y.cps.toList:=List.le_antisymm (List.not_lt.mp c) (List.not_lt.mp g);obtain⟨⟨l⟩⟩:=x;obtain⟨⟨h⟩⟩:=y;have:l=h:=e;rw[this]
theorem lH {k:Bool}{ks:List Bool}{a b:V}{r q:List V}(c:KdV k a)(d:KdV k b):rlt (a::r) (b::q)=if a=b then rlt r q else kvlt a b:=by
 cases k with
 |true=>
  obtain⟨x,rfl⟩:=c;obtain⟨y,rfl⟩:=d;show (if (x == y)=true then rlt r q else decide (x<y))=_;by_cases e:x=y
  ·subst e;rw[if_pos (by simp),if_pos rfl]
  ·rw[if_neg (by simpa using e),if_neg (by intro z;exact e (V.int.inj z))];rfl
 |false=>
  obtain⟨x,rfl⟩:=c;obtain⟨y,rfl⟩:=d;show (if (x == y)=true then rlt r q else decide (x.cps.toList<y.cps.toList))=_;by_cases e:x=y
  ·subst e;rw[if_pos (by simp),if_pos rfl]
  ·rw[if_neg (by simpa using e),if_neg (by intro z;exact e (V.str.inj z))];rfl
theorem wD:∀{ks:List Bool} {a b:List V},KdR ks a->KdR ks b->rlt a b=true->rlt b a=false
 |_,_,_,.nil,.nil,h=>by cases (show false=true from h)
 |_,x::a,y::b,.cons (as:=ks) ha ta,.cons hb tb,h=>by
  rw[lH (ks:=ks) ha hb] at h;rw[lH (ks:=ks) hb ha];by_cases e:x=y
  ·rw[if_pos e] at h;rw[if_pos e.symm];exact wD ta tb h
  ·rw[if_neg e] at h;rw[if_neg (Ne.symm e)];exact aSn ha hb h
theorem aL8:∀{ks:List Bool} {a b c:List V},KdR ks a->KdR ks b->KdR ks c->rlt b a=false->rlt c b=false->rlt c a=false
 |_,_,_,_,.nil,.nil,.nil,_,_=>rfl
 |_,x::a,y::b,z::c,.cons (as:=ks) ha ta,.cons hb tb,.cons hc tc,h1,h2=>by
  rw[lH (ks:=ks) hb ha] at h1;rw[lH (ks:=ks) hc hb] at h2;rw[lH (ks:=ks) hc ha];by_cases e:y=x
  ·subst e;rw[if_pos rfl] at h1;by_cases d:z=y
   ·subst d;rw[if_pos rfl] at h2 ⊢;exact aL8 ta tb tc h1 h2
   ·rw[if_neg d] at h2 ⊢;exact h2
  ·rw[if_neg e] at h1;by_cases d:z=y
   ·subst d;rw[if_neg e];exact h1
   ·rw[if_neg d] at h2;by_cases f:z=x
    ·subst f;exact absurd (aRu hc hb h2 h1) d
    ·rw[if_neg f];exact bAd ha hb hc h1 h2
theorem aH1:∀{ks:List Bool} {a b:List V},KdR ks a->KdR ks b->rlt a b=false->rlt b a=false->a=b
 |_,_,_,.nil,.nil,_,_=>rfl
 |_,x::a,y::b,.cons (as:=ks) ha ta,.cons hb tb,h1,h2=>by
  rw[lH (ks:=ks) ha hb] at h1;rw[lH (ks:=ks) hb ha] at h2;by_cases e:x=y
  ·subst e;rw[if_pos rfl] at h1 h2;rw[aH1 ta tb h1 h2]
  ·rw[if_neg e] at h1;rw[if_neg (Ne.symm e)] at h2;exact absurd (aRu ha hb h1 h2) e
theorem bAi {ks:List Bool}{a:List V}(b:KdR ks a):rlt a a=false:=by
 cases h:rlt a a with
 |false=>rfl
 |true=>have:=wD b b h;rw[h] at this;cases this
def getD_mem {α:Type}{l:List α}{d:α}(hd:d∈l)(i:Nat):l.getD i d∈l:=by
 by_cases h:i<l.length
 ·rw[j4,d7 h];exact bAV h
 ·rw[j4,bAD (by lia)];exact hd
def range_getD {α:Type}(l:List α)(d:α):(List.range l.length).map (λi=>l.getD i d)=l:=by
 refine bCE λi=>?_;by_cases h:i<l.length
 ·rw[v6,bCI h,d7 h,Option.map_some,j4,d7 h];rfl
 ·rw[bAD (by simpa using h),bAD (by lia)]
theorem bBn {α:Type}{lt:α->α->Bool}(l:List α)(d:α){n:Nat}(B:n=l.length)(o:∀a∈l,∀b∈l,lt a b=true->lt b a=false)(A:∀a∈l,∀b∈l,∀c∈l,lt b a=false->lt c b=false->lt c a=false)(R:α->α->Prop)(y:l.Pairwise R) :
  ((PySem.W.dN n λi j=>lt (l.getD i d) (l.getD j d)).map λi=>l.getD i d).Perm l/\((PySem.W.dN n λi j=>lt (l.getD i d) (l.getD j d)).map λi=>l.getD i d).Pairwise λa b=>lt b a=false/\(lt a b=true\/R a b):=by
 subst B;cases l with
 |nil=>
  have e:PySem.W.dN ([]:List α).length (λi j=>lt (([]:List α).getD i d) (([]:List α).getD j d))=[]:=by have:=PySem.W.uC ([]:List α).length (λi j=>lt (([]:List α).getD i d) (([]:List α).getD j d));exact List.length_eq_zero_iff.mp this
  rw[e];exact⟨.nil,.nil⟩
 |cons x0 l0=>
  generalize w:x0::l0=l at o A y;have p:x0∈l:=by rw[<-w];exact j6
  have q:PySem.W.dN l.length (λi j=>lt (l.getD i d) (l.getD j d))=PySem.W.dN l.length (λi j=>lt (l.getD i x0) (l.getD j x0)):=PySem.W.aMu λi j m r=>by rw[j4,j4,j4,j4,d7 m,d7 r];rfl
  have S:PySem.W.Swo λi j=>lt (l.getD i x0) (l.getD j x0):=⟨λ{i j} h=>o _ (getD_mem p i) _ (getD_mem p j) h,λ{i j k} f h2=>A _ (getD_mem p i) _ (getD_mem p j) _ (getD_mem p k) f h2⟩;obtain⟨v,u⟩:=PySem.W.aIp (n:=l.length) S;rw[<-q] at v u;have g:∀i∈PySem.W.dN l.length (λi j=>lt (l.getD i d) (l.getD j d)),i<l.length:=λi m=>PySem.W.oV m;refine⟨?_,?_⟩
  ·have:=v.map λi=>l.getD i d;rw[range_getD] at this;exact this
  ·refine List.pairwise_map.mpr (bD2 ?_ u);rintro i j m r ⟨f,h2⟩;have t:=g i m;have s:=g j r;have x:l.getD i x0=l.getD i d:=by rw[j4,j4,d7 t];rfl
   have z:l.getD j x0=l.getD j d:=by rw[j4,j4,d7 s];rfl
   dsimp only at f h2;rw[x,z] at f h2;refine⟨f,?_⟩;rcases h2 with h2|h2
   ·exact .inl h2
   ·right;have:=List.pairwise_iff_getElem.mp y i j t s h2;rw[j4,j4,d7 t,d7 s];exact this
def aVe {α:Type}(l:List α):l.Pairwise λ_ _=>True:=List.pairwise_of_forall λ_ _=>trivial
def jX {ks:List Bool}{rs:List (List V)}(h:∀r∈rs,KdR ks r):(srt rs).Perm rs/\(srt rs).Pairwise λa b=>rlt b a=false:=by obtain⟨f,g⟩:=bBn (lt:=rlt) rs [] rfl (λa d b e=>wD (h a d) (h b e)) (λa d b e c i=>aL8 (h a d) (h b e) (h c i)) (λ_ _=>True) (aVe _);exact⟨f,g.imp λz=>z.1⟩
theorem yF {α:Type}{lt:α->α->Bool}:∀{l m:List α},l.Perm m->(∀a∈l,∀b∈l,lt a b=false->lt b a=false->a=b)->l.Pairwise (λa b=>lt b a=false)->m.Pairwise (λa b=>lt b a=false)->l=m
 |[],m,p,_,_,_=>(List.perm_nil.mp p.symm).symm
 |a::l,[],p,_,_,_=>absurd (List.perm_nil.mp p) (by simp)
 |a::l,b::m,p,anti,hl,hm=>by
  rw[List.pairwise_cons] at hl hm;have f:a∈b::m:=p.subset j6;have c:b∈a::l:=p.symm.subset j6;have e:a=b:=by
   rcases List.mem_cons.mp f with z|z
   ·exact z
   ·rcases List.mem_cons.mp c with y|y
    ·exact y.symm
    ·exact anti a j6 b c (hm.1 a z) (hl.1 b y)
  subst e;rw[yF (List.Perm.cons_inv p) (λx g y d=>anti x (j8 _ g) y (j8 _ d)) hl.2 hm.2]
def sI {ks:List Bool}{rs m:List (List V)}(h:∀r∈rs,KdR ks r)(p:rs.Perm m):srt rs=srt m:=by have l:∀r∈m,KdR ks r:=λr c=>h r (p.symm.subset c);obtain⟨e,k⟩:=jX h;obtain⟨f,g⟩:=jX l;have d:∀r∈srt rs,KdR ks r:=λr c=>h r (e.subset c);exact yF (lt:=rlt) (e.trans (p.trans f.symm)) (λa i b j=>aH1 (d a i) (d b j)) k g
end L2
namespace PySem.SeqAt
open PySem PySem.Spec
abbrev opG:Bool->CmpOp
 |true=>.Gt
 |false=>.LtE
def aYr (g:Bool)(A:Around)(s:Shared)(y x:Value)(b:Bool):Prop:=
 ∀(prog:Program) (w:World) (E:bFI) (Q:bFI),Q (.bool b) s->wpAny (model prog w) A (richCompare (opG g) y x) Q E s
def fnG:Bool->Args->Sem Fin
 |true=>Builtin.«tuple.__gt__»
 |false=>Builtin.«tuple.__le__»
def leW (e c:Nat->Bool)(l:List Nat)(z:Bool):Bool:=l.foldr (λj acc=>if e j then acc else c j) z
def aJu (g z:Bool)(C:z=!g)(l b:Addr)(items items2:Array Value)(n n2:Nat)(dd dd2:Option Addr)(sl sl2:Array (Option Value))(e c:Nat->Bool)(hsz:items.size=items2.size) :
  Meets (fnG g ⟨[.ref l,.ref b],[]⟩)
   (λA R s=>s.heap.get? l=some { cls:=.type "tuple",dict:=dd,data:=.seq items n,slots:=sl }/\s.heap.get? b=some { cls:=.type "tuple",dict:=dd2,data:=.seq items2 n2,slots:=sl2 } /\
    (∀j (h1:j<items.size) (h2:j<items2.size),EqAt A.in1 s items[j] items2[j] (e j))/\(∀j (h1:j<items.size) (h2:j<items2.size),aYr g A.in1 s items[j] items2[j] (c j)) /\
    R (.ok (.ret (.bool (leW e c (List.range items.size) z)))) s):=
 .of_wp λa w A R s h=>by
  cases g;all_goals
   unfold fnG;obtain⟨r,m,d,p,o⟩:=s;obtain⟨J,G,I,F,h⟩:=h;have M:=AutoSeq1.sub_tuple_tuple;have B:(items.toList.zip items2.toList).length=items.size:=by simp[hsz]
   wp_walk using wpAny_loadPart' J,wpAny_loadPart' G,bEV _ (λk b u=>b.1=none/\u=⟨r,m,d,p,o⟩/\∃i,k=(items.toList.zip items2.toList).drop i /\
    R (.ok (.ret (.bool (leW e c ((List.range items.size).drop i) z)))) ⟨r,m,d,p,o⟩) _
   case turn=>
    rintro⟨y,x⟩ k b u ⟨hb',rfl,i,hz,hR⟩;have q:i<(items.toList.zip items2.toList).length:=by
     rcases Nat.lt_or_ge i (items.toList.zip items2.toList).length with h'|h'
     ·exact h'
     ·rw[bEK h'] at hz;cases hz
    have h1:i<items.size:=B ▸ q;have h2:i<items2.size:=hsz ▸ h1;rw[bD0 q] at hz;injection hz with hyx hrest;have t:y=items[i]:=by have:=congrArg Prod.fst hyx;simpa using this
    have H:x=items2[i]:=by have:=congrArg Prod.snd hyx;simpa using this
    subst t H;have hd:(List.range items.size).drop i=i::(List.range items.size).drop (i+1):=by simp[bD0,h1]
    rw[hd] at hR;have f:R (.ok (.ret (.bool (if e i then leW e c ((List.range items.size).drop (i+1)) z else c i)))) ⟨r,m,d,p,o⟩:=hR;refine c7 (I i h1 h2 a w _ _ ?_);cases t:e i with
    |true=>rw[t] at f;wp_walk;exact⟨rfl,rfl,i+1,hrest,by simpa using f⟩
    |false=>rw[t] at f;have D:∀{E:bFI} {Q:bFI},Q (.bool (c i)) ⟨r,m,d,p,o⟩->wpAny (model a w) A.in1 (richCompare _ items[i] items2[i]) Q E ⟨r,m,d,p,o⟩:=λ{E Q} h=>F i h1 h2 a w E Q h;wp_walk using D;exact⟨_,rfl,by simpa using f⟩
   case fin=>
    rintro⟨L,K⟩ u ⟨hb',rfl,i,hz,hR⟩;simp only at hb';subst hb';have v:items.size<=i:=by
     rcases Nat.lt_or_ge i (items.toList.zip items2.toList).length with h'|h'
     ·rw[bD0 h'] at hz;cases hz
     ·exact B ▸ h'
    rw[bEK (by simpa using v)] at hR;wp_walk;exact⟨_,rfl,by simpa [Builtin.Tuple.tupleCompareSizes,hsz,leW,C] using hR⟩
   case h=>exact⟨rfl,rfl,0,rfl,by simpa using h⟩
end PySem.SeqAt
namespace L2
open PySem PySem.Spec PyProof.Rows
theorem aIy (g:Bool):∀{ks:List Bool} {a b:List V},KdR ks a->KdR ks b->SeqAt.leW (λj=>decide (a.getD j .non=b.getD j .non)) (λj=>kvlt (b.getD j .non) (a.getD j .non) == g) (List.range a.length) (!g)=(rlt b a == g)
 |_,_,_,.nil,.nil=>by cases g <;> rfl
 |_,x::a,y::b,.cons (as:=ks) ha ta,.cons hb tb=>by
  have c:=aIy g ta tb;rw[lH (ks:=ks) hb ha,v9,List.range_succ_eq_map];show (if decide (x=y)=true then SeqAt.leW (λj=>decide ((x::a).getD j .non=(y::b).getD j .non)) (λj=>kvlt ((y::b).getD j .non) ((x::a).getD j .non) == g) ((List.range a.length).map Nat.succ) (!g) else (kvlt y x == g))=_;by_cases e:x=y
  ·rw[if_pos (t6 e),if_pos e.symm,<-c];unfold SeqAt.leW;rw[List.foldr_map];rfl
  ·rw[if_neg (by rw[v8 e];exact v4),if_neg (Ne.symm e)]
section
variable {X:Cx}
def bCp (g:Bool)(K:bFH):R2:=λx y H Q=>∃(ks:List Bool) (r q:List V),cI K H x r/\cI K H y q/\KdR ks r/\KdR ks q/\Q (.bl (rlt q r == g)) H
theorem aNz (g:Bool)(hu:X.A.units+64<cLine):OpR X (compareOp (SeqAt.opG g)) (bCp g X.K):=by
 intro a3 s σ H x y v u Q I rx ry h;obtain⟨ks,r,q,⟨a,rfl,ha⟩,⟨b,rfl,hb⟩,hr,hq,J⟩:=h;cases rx;cases ry;obtain⟨f,r1,⟨⟨a4,dd,a1,sl⟩,W,hc,n,hd⟩,hz⟩:=I.tuple ha;obtain⟨i,r2,⟨⟨a2,Y,a0,Z⟩,o,U,n2,N⟩,hw⟩:=I.tuple hb;simp only at hc hd U N;subst hc hd U N;have l1:=r1.length;have l2:=r2.length;have B:=Al2.len hr;have G:=Al2.len hq;have C:∀j (p:j<f.toArray.size) (D:j<i.toArray.size),∃k,KdV k (r.getD j .non)/\KdV k (q.getD j .non)/\RelV (r.getD j .non) f.toArray[j]/\RelV (q.getD j .non) i.toArray[j]:=λj p D=>by
  rw[j7] at p D;have hj:j<ks.length:=by lia
  have M:j<r.length:=by lia
  have L:j<q.length:=by lia
  have er:r.getD j .non=r[j]:=by simp[M]
  have eq:q.getD j .non=q[j]:=by simp[L]
  obtain⟨w1,g1,g2⟩:=r1.get (d7 M);obtain⟨w2,g3,g4⟩:=r2.get (d7 L);rw[er,eq];refine⟨ks[j],hr.get (d7 hj) (d7 M),hq.get (d7 hj) (d7 L),?_,?_⟩
  ·rw[bCA,(List.getElem?_eq_some_iff.mp g1).2];exact g2
  ·rw[bCA,(List.getElem?_eq_some_iff.mp g3).2];exact g4
 have sz:f.toArray.size=r.length:=by rw[j7];lia
 have sj:f.toArray.size=i.toArray.size:=by rw[j7,j7];lia
 have tc:=SeqAt.aJu g (!g) rfl a b f.toArray i.toArray n n2 dd Y sl Z (λj=>decide (r.getD j .non=q.getD j .non)) (λj=>kvlt (q.getD j .non) (r.getD j .non) == g) sj;have t:=aIy g hr hq;have m:∀j (p:j<f.toArray.size) (D:j<i.toArray.size),SeqAt.EqAt X.A.in1 s f.toArray[j] i.toArray[j] (decide (r.getD j .non=q.getD j .non)):=λj p D=>by
  obtain⟨k,B,G,m,l⟩:=C j p D;generalize r.getD j .non=y1 at B m;generalize q.getD j .non=y2 at G l;generalize f.toArray[j]=w1 at m;generalize i.toArray[j]=w2 at l;cases k with
  |true=>
   obtain⟨d,rfl⟩:=B;obtain⟨c,rfl⟩:=G;obtain⟨T,rfl⟩:=m;obtain⟨O,rfl⟩:=l;have z:=bD9 (A:=X.A.in1) (s:=s) d T c O;have e:(d == c)=decide (V.int d=V.int c):=by by_cases e:d=c <;> simp[e]
   rw[<-e];exact z
  |false=>
   obtain⟨d,rfl⟩:=B;obtain⟨c,rfl⟩:=G;obtain⟨T,rfl⟩:=m;obtain⟨O,rfl⟩:=l;have z:=bDN (A:=X.A.in1) (s:=s) d T c O;have e:(d == c)=decide (V.str d=V.str c):=by by_cases e:d=c <;> simp[e]
   rw[<-e];exact z
 have l:∀j (p:j<f.toArray.size) (D:j<i.toArray.size),SeqAt.aYr g X.A.in1 s f.toArray[j] i.toArray[j] (kvlt (q.getD j .non) (r.getD j .non) == g):=λj p D=>by
  obtain⟨k,B,G,m,l⟩:=C j p D;generalize r.getD j .non=y1 at B m;generalize q.getD j .non=y2 at G l;generalize f.toArray[j]=w1 at m;generalize i.toArray[j]=w2 at l;cases k with
  |true=>
   obtain⟨d,rfl⟩:=B;obtain⟨c,rfl⟩:=G;obtain⟨T,rfl⟩:=m;obtain⟨O,rfl⟩:=l;intro S w E Q R;cases g
   ·refine le_int ?_;have e:decide (d<=c)=(kvlt (.int c) (.int d) == false):=by show decide (d<=c)=(decide (c<d) == false);by_cases z:d<=c <;> simp[z] <;> lia
    rw[e];exact R
   ·refine gt_int ?_;rw[show decide (c<d)=(kvlt (.int c) (.int d) == true) by show _=(decide (c<d) == true);simp];exact R
  |false=>
   obtain⟨d,rfl⟩:=B;obtain⟨c,rfl⟩:=G;obtain⟨T,rfl⟩:=m;obtain⟨O,rfl⟩:=l;intro S w E Q R;cases g
   ·refine P.le_str ?_;rw[show (!decide (c.cps.toList<d.cps.toList))=(kvlt (.str c) (.str d) == false) by show _=(decide (c.cps.toList<d.cps.toList) == false);simp];exact R
   ·refine P.gt_str ?_;rw[show decide (c.cps.toList<d.cps.toList)=(kvlt (.str c) (.str d) == true) by show _=(decide (c.cps.toList<d.cps.toList) == true);simp];exact R
 rw[<-sz] at t;rw[<-t] at J;cases g
 ·exact richCompare_meets_room (op:=.LtE) ⟨_,W,rfl⟩ ⟨_,o,rfl⟩ F.slot_tuple_le F.entry_tuple_le (F.args_tuple_le_2 _ _) tc ⟨W,o,m,l,(λz=>nomatch z),⟨.bl _,H,I,rfl,J⟩⟩ (by lia)
 ·exact richCompare_meets_room (op:=.Gt) ⟨_,W,rfl⟩ ⟨_,o,rfl⟩ F.slot_tuple_gt F.entry_tuple_gt (F.args_tuple_gt_2 _ _) tc ⟨W,o,m,l,(λz=>nomatch z),⟨.bl _,H,I,rfl,J⟩⟩ (by lia)
def bBw (K:bFH):R2:=λx y H Q=>∃(ks:List Bool) (r q:List V),cI K H x r/\cI K H y q/\KdR ks r/\KdR ks q/\Q (.bl (!rlt q r)) H
def bBt (K:bFH):R2:=λx y H Q=>∃(ks:List Bool) (r q:List V),cI K H x r/\cI K H y q/\KdR ks r/\KdR ks q/\Q (.bl (rlt q r)) H
def aZ3 (j:X.A.units+64<cLine):OpR X (compareOp .LtE) (bBw X.K):=λa s σ H x y v u Q I e g ⟨d,r,q,f,b,c,i,h⟩=>aNz false j a s σ H x y v u Q I e g ⟨d,r,q,f,b,c,i,by rw[show (rlt q r == false)=!rlt q r by simp];exact h⟩
def aSi (j:X.A.units+64<cLine):OpR X (compareOp .Gt) (bBt X.K):=λa s σ H x y v u Q I e g ⟨d,r,q,f,b,c,i,h⟩=>aNz true j a s σ H x y v u Q I e g ⟨d,r,q,f,b,c,i,by rw[show (rlt q r == true)=rlt q r by simp];exact h⟩
theorem aGb {K:bFH}{H:Hp}:∀{r:List V},(∀x∈r,(∃i,x=.int i)\/∃z,x=.str z)->∀n,Al2 (DEq K H n) r r
 |[],_,_=>.nil
 |x::r,h,n=>.cons (by rcases h x j6 with⟨i,rfl⟩|⟨z,rfl⟩ <;> cases n <;> first|exact⟨rfl,rfl⟩|exact .inl ⟨rfl,rfl⟩) (aGb (λy a=>h y (j8 _ a)) n)
def aS2 {K:bFH}{H:Hp}{us ws:List V}{rs:List (List V)}(f:Al2 (cI K H) us rs)(g:Al2 (cI K H) ws rs)(l:∀r∈rs,∀x∈r,(∃i,x=.int i)\/∃z,x=.str z):Al2 (DEq K H 40) us ws:=by refine Al2.of (f.len.trans g.len.symm) λi u w h e=>?_;obtain⟨r,d,a,rfl,j⟩:=f.at h;obtain⟨m,c,b,rfl,k⟩:=g.at e;rw[d] at c;cases c;exact .inr ⟨a,b,r,r,rfl,rfl,j,k,aGb (l r (t7 d)) 39⟩
def aXw (K:bFH):R2:=λx y H Q=>∃(a b:Addr) (us ws:List V) (rs:List (List V)),x=.ref a/\y=.ref b/\SqL K H a us/\SqL K H b ws/\Al2 (cI K H) us rs/\Al2 (cI K H) ws rs/\(∀r∈rs,∀x∈r,(∃i,x=.int i)\/∃z,x=.str z)/\Q (.bl false) H
def zJ (hu:X.A.units+64<cLine):OpR X (compareOp .NotEq) (aXw X.K):=by
 intro o s σ H x y v u Q I k C h;obtain⟨a,b,M,F,L,rfl,rfl,p,B,n,r,i,q⟩:=h;cases k;cases C;obtain⟨j,c,g,D⟩:=I.list p;obtain⟨z,f,w,G⟩:=I.list B;have d:=aS2 n r i;have l:=d.len;have J:=c.length;have E:=f.length;refine SeqAt.RcNeAt.lists (e:=λ_=>true) g.isList w.isList (by rw[j7,j7];lia) (by lia) (vU I c f d λd t m=>yU I 40 d t m (by show X.A.units+1+40<cLine;lia)) _ _ _ _ ?_;first
  |(rw[wZ];exact⟨.bl _,H,I,rfl,q⟩)
  |(simp only[wZ];exact⟨.bl _,H,I,rfl,q⟩)
end
end L2
namespace My
open PySem PySem.Spec PyProof.Rows L2
section
variable {P:Program}{w:World}{K:bFH}{mg:bFK}{base:Heap}
def aSe {X:Cx}{o e:Expr}{apos cpos:Pos}{td ty:TE}(b:X.A.units+1<cLine)(a:VE X o td)(c:VE X e ty)(m:M1 X o "get" apos e cpos:=by exact⟨rfl,rfl,rfl,rfl⟩):VE X (.Call (.Attribute o "get" apos) [e] [] cpos) (aTu td ty):=⟨aRy b a.1 c.1 m⟩
def bAh {X:Cx}{i o:Expr}{td ty:TE}{pos:Pos}(c:X.A.units+1<cLine)(hi:VE X i ty)(b:VE X o td)(a:behindInMarks .In o=false:=by first|exact nobehind _ (by decide) (by decide)|rfl):VT X (.Compare i [.In] [o] pos) (tB (bCq ty td)):=⟨aSq (aZe c hi.1 b.1) a⟩
def aYk:Sp:=λ_ _ _ _=>False
structure bM (K:bFH)(H:Hp)(C x:Addr)(m:Int)(d dm:Addr)(es:List En):Prop where
 at_:∃dx,H x=some (.ins C dx [("placed",.ref d),("house_count",.int m),("moves",.ref dm)])
 ens:mL K H d es
 ok:∀e∈es,mD m e.t
 ne:d≠dm
theorem bM.same {H H':Hp}{C x d dm:Addr}{m:Int}{es:List En}(s:Same H H')(h:bM K H C x m d dm es):bM K H' C x m d dm es:=
 ⟨let ⟨dx,h1⟩:=h.at_;⟨dx,s _ _ h1⟩,h.ens.same s,h.ok,h.ne⟩
structure Mv where
 num:Nat
 house:Int
 mark:Option (List V)
def aHr (K:bFH)(H:Hp)(v:V):Option (List V)->Prop
 |none=>v=.non
 |some r=>cI K H v r
def uY (K:bFH)(H:Hp)(v:V)(q:Mv):Prop:=∃a vm,v=.ref a/\SqT K H a [.int q.num,.int q.house,vm]/\aHr K H vm q.mark
theorem aHr.tk {H H':Hp}{v:V}{o:Option (List V)}(k:∀p xs,SqT K H p xs->SqT K H' p xs)(h:aHr K H v o):aHr K H' v o:=by
 cases o with
 |none=>exact h
 |some r=>obtain⟨a,e,b⟩:=h;exact⟨a,e,k _ _ b⟩
theorem uY.tk {H H':Hp}{v:V}{q:Mv}(k:∀p xs,SqT K H p xs->SqT K H' p xs)(h:uY K H v q):uY K H' v q:=
 let ⟨a,vm,e,ha,hm⟩:=h;⟨a,vm,e,k _ _ ha,hm.tk k⟩
def uY.same {H H':Hp}{v:V}{q:Mv}(s:Same H H')(h:uY K H v q):uY K H' v q:=h.tk λ_ _=>s.bA
def aHr.same {H H':Hp}{v:V}{o:Option (List V)}(s:Same H H')(h:aHr K H v o):aHr K H' v o:=h.tk λ_ _=>s.bA
def MvV (K:bFH)(H:Hp)(v:V):Option Mv->Prop
 |none=>v=.non
 |some q=>uY K H v q
def MvD (K:bFH)(H:Hp)(dm:Addr)(nm:Str)(o:Option Mv):Prop:=∃v,MvV K H v o/\H dm=some (.dK (match o with|none=>[]|some _=>[(Sum.inr nm,v)]))
theorem MvD.same {H H':Hp}{dm:Addr}{nm:Str}{o:Option Mv}(s:Same H H')(h:MvD K H dm nm o):MvD K H' dm nm o:=by
 obtain⟨v,a,b⟩:=h;refine⟨v,?_,s _ _ b⟩;cases o with
 |none=>exact a
 |some q=>exact uY.same s a
def aLc (K:bFH)(C Pt:Addr):Sp:=λvs H Q _=>∃(H0:Hp) (x dx d:Addr) (m:Int) (es:List En),vs=[.ref x,.int m,.ref d]/\H x=some (.ins C dx [])/\H0 x=none/\Same H0 H/\1<=m/\m<=6/\mL K H0 d es/\(∀e∈es,mD m e.t)/\H0 Pt=some (.tab qC) /\
 ∀d' dm H' es',H0 d'=none->H0 dm=none->Same H0 H'->bM K H' C x m d' dm es'->H' dm=some (.dK [])->cV (λe e'=>∃v L,e'=aC9 e v L/\H0 L=none) es es'->Q .non H'
def aQ7 (T:Txt w K mg){C Pt:Addr}(c:Cls K C)(D:fU K C "__init__" "Store.__init__" gA ["self","houses","tables"])(n1:bI K C "placed")(n2:bI K C "house_count")(n3:bI K C "moves")(lL:Ok P w K mg base 10 "placed_tables" ["houses","tables"] (yH K Pt)):OkM P w K mg base C 11 "__init__" ["self","houses","tables"] (aLc K C Pt):=by
 refine OkM.ofV c D wM (by trivial) (λf a0 A G s H vs Q E hr h=>?_)
 obtain⟨Y,x,a,d,m,es,rfl,V,hN,n,m1,Z,hE,R,X,q⟩:=h;refine⟨_,(aD (aA8 (K:=K) (vv 0) (aN (lL.mono (by decide)) hr (by rfl) (aB (vv 1) (aB (vv 2) aA)))) (aD (aA8 (K:=K) (vv 0) (vv 1)) (aG (aA8 (K:=K) (vv 0) aSm)))),?_⟩;refine⟨_,rfl,_,rfl,d,m,es,rfl,m1,Z,hE.same n,R,n _ _ X,λi k N l F g U=>?_⟩;have p:=F _ _ V;refine⟨_,rfl,x,C,a,[],rfl,p,c,n1,by decide,?_⟩;refine⟨_,rfl,_,rfl,x,C,a,_,rfl,aH,c,n2,by show 1<1000;decide,?_⟩;have nx:eQ k x:=eQ.ins p;have r:i≠x:=λz=>by rw[z,V] at l;cases l
 have J:But x k (L2.upd (L2.upd k x (.ins C a (jM "placed" (.ref i) []))) x (.ins C a (jM "house_count" (.int m) (jM "placed" (.ref i) [])))):=λb o t h=>by rw[aP t,aP t];exact h
 have B:L2.upd (L2.upd k x (.ins C a (jM "placed" (.ref i) []))) x (.ins C a (jM "house_count" (.int m) (jM "placed" (.ref i) []))) x=some (.ins C a [("placed",.ref i),("house_count",.int m)]):=aH;have S:∀{b},L2.upd (L2.upd k x (.ins C a (jM "placed" (.ref i) []))) x (.ins C a (jM "house_count" (.int m) (jM "placed" (.ref i) []))) b=none->k b=none:=λ{b} h=>by
  by_cases z:b=x
  ·rw[z,aH] at h;cases h
  ·rw[aP z,aP z] at h;exact h
 generalize L2.upd (L2.upd k x (.ins C a (jM "placed" (.ref i) []))) x (.ins C a (jM "house_count" (.int m) (jM "placed" (.ref i) [])))=H2 at J B S ⊢;refine λu O j W g3=>?_;refine⟨_,rfl,x,C,a,_,rfl,W _ _ B,c,n3,by show 2<1000;decide,?_⟩;have M:But x k (L2.upd O x (.ins C a [("placed",.ref i),("house_count",.int m),("moves",.ref u)])):=λb o t h=>by rw[aP t];exact W _ _ (J _ _ t h)
 have I:u≠x:=λz=>by rw[z,B] at j;cases j
 have s2:Same Y (L2.upd O x (.ins C a [("placed",.ref i),("house_count",.int m),("moves",.ref u)])):=λb o h=>M _ _ (λz=>by rw[z,hN] at h;cases h) (F _ _ (n _ _ h));refine q i u _ N (none_of n l) (none_of (n.trans F) (S j)) s2 ⟨⟨a,aH⟩,⟨M _ _ r g.at_,g.nd,g.few,g.nm,λe y=>M.tb nx (g.tb e y)⟩,λe y=>?_,λz=>?_⟩ (by rw[aP I];exact g3) (U.imp λe e' ⟨v,L,e1,e2⟩=>⟨v,L,e1,none_of n e2⟩)
 ·obtain⟨e0,h0,v,L,rfl,_⟩:=aE9 U y;exact (R e0 h0).sorted
 ·have:=J _ _ r g.at_;rw[z,j] at this;cases this
def aOu (K:bFH)(C Ct Pt:Addr):Sp:=λvs H Q _=>∃(x d dm:Addr) (m:Int) (es:List En),vs=[.ref x]/\bM K H C x m d dm es/\1<=m/\m<=6/\H Pt=some (.tab qC)/\∀y d' H' es',H y=none->H d'=none->Same H H'->tL K H' Ct y m d' es'->cV (λe e'=>∃v L,e'=aC9 e v L/\H L=none) es es'->Q (.ref y) H'
def aUn (T:Txt w K mg){C Ct Pt:Addr}(c:Cls K C)(D:fU K C "town" "Store.town" mF ["self"])(M:bI K C "placed")(R:bI K C "house_count")(a:OkC P w K mg base Ct 11 "Town" ["self","houses","tables"] (aOw K Ct Pt)):OkM P w K mg base C 13 "town" ["self"] (aOu K C Ct Pt):=by
 refine OkM.ofV c D aDq (by trivial) (λf v A e s H N Q E z h=>?_)
 obtain⟨x,d,O,m,B,rfl,b,G,p,o,q⟩:=h;refine⟨_,(aG (aL (aNy (a.mono (by decide)) z (by rfl) (aB (dC (K:=K) (vv 0)) (aB (dC (K:=K) (vv 0)) aA))))),?_⟩;obtain⟨n,l⟩:=b.at_;refine⟨_,rfl,x,C,n,_,_,rfl,l,c,R,rfl,_,rfl,x,C,n,_,_,rfl,l,c,M,rfl,λy L g i J=>?_⟩;refine⟨H,y,L,d,m,B,rfl,aH,g,lG g (bC i _),G,p,b.ens,b.ok,o,λu I k j r t F=>⟨rfl,?_⟩⟩;exact q y u I k g j r t F
def aGs (K:bFH)(C:Addr):Sp:=λvs H Q _=>∃(x d dm:Addr) (m:Int) (es:List En) (e:En) (n:Str) (h0:Int) (cs:List (V × Int)),vs=[.ref x,.str e.n]/\bM K H C x m d dm es/\e∈es/\e.t.pl=.spans n h0 cs/\∀H',Same H H'->Q e.v H'
def aSa (T:Txt w K mg){C:Addr}(c:Cls K C)(D:fU K C "cut_table" "Store.cut_table" fH ["self","name"])(N:bI K C "placed")(L:Ok P w K mg base 3 "table_in" ["placed","name"] (pH K)):OkM P w K mg base C 4 "cut_table" ["self","name"] (aGs K C):=by
 refine OkM.ofV c D mW (by trivial) (λf v A k s H O Q E y h=>?_)
 obtain⟨x,d,S,m,z,e,n,U,W,rfl,g,p,j,q⟩:=h;refine⟨_,(aD (aV (i:=2) mW.nd rfl (by trivial) (aN (L.mono (by decide)) y (by rfl) (aB (dC (K:=K) (vv 0)) (aB (vv 1) aA)))) (aD (cA (aY aBl (aK aX (aK aX (vv 2) aC (λ_ _=>rfl)) aC (λ_ _=>rfl)) bN (aW _)) (aG eV) aZ) (aG (aL (vv 2))))),?_⟩;obtain⟨I,G⟩:=g.at_;refine⟨_,rfl,x,C,I,_,_,rfl,G,c,N,rfl,_,rfl,d,z,e,rfl,g.ens,p,λB l=>?_⟩;obtain⟨a,r,u,M,o,J⟩:=(g.ens.tb e p).same l;rw[j] at o;obtain⟨b,R,t,F,V⟩:=o;refine⟨_,rfl,a,_,1,_,r,rfl,u,at1 _ _ _,b,_,0,_,t,rfl,F,at0 _ _,rfl,_,rfl,gO (by decide) ?_⟩;exact⟨_,rfl,q B l⟩
def aK1 (K:bFH)(C:Addr):Sp:=λvs H Q _=>∃(x d dm:Addr) (m:Int) (es:List En) (n:Str),vs=[.ref x,.str n]/\bM K H C x m d dm es/\H dm=some (.dK [])/\Q .non H
def aRb (T:Txt w K mg){C:Addr}(c:Cls K C)(D:fU K C "need_still" "Store.need_still" dY ["self","name"])(t:bI K C "moves"):OkM P w K mg base C 1 "need_still" ["self","name"] (aK1 K C):=by
 refine OkM.ofV c D uH (by trivial) (λf l A a s H p Q E b h=>?_)
 obtain⟨x,d,g,m,r,n,rfl,e,k,q⟩:=h;have i:=sU b;refine⟨_,(aG (cA (bAh i (vv 1) (dC (K:=K) (vv 0))) (aG eV) aZ)),?_⟩;obtain⟨o,j⟩:=e.at_;exact⟨_,rfl,_,rfl,x,C,o,_,_,rfl,j,c,t,rfl,g,none,rfl,.inl ⟨_,Sum.inr n,.inl k,rfl,rfl⟩,_,rfl,bZ q⟩
def aEe (K:bFH)(C:Addr):Sp:=λvs H Q _=>∃(x d dm:Addr) (m:Int) (es:List En) (n:Str) (v:V),vs=[.ref x,.str n]/\bM K H C x m d dm es/\H dm=some (.dK [(Sum.inr n,v)])/\Q v H
def xV (n:Str)(v:V):qX [((Sum.inr n:Key),v)] (Sum.inr n)=some v:=sX rfl
def aL1 (T:Txt w K mg){C:Addr}(c:Cls K C)(D:fU K C "move_of" "Store.move_of" iC ["self","name"])(o:bI K C "moves"):OkM P w K mg base C 1 "move_of" ["self","name"] (aEe K C):=by
 refine OkM.ofV c D yO (by trivial) (λf p A a s H r Q E k h=>?_)
 obtain⟨x,d,b,m,t,n,v,rfl,l,i,q⟩:=h;have e:=sU k;refine⟨_,(aD (cA (aEq e (vv 1) (dC (K:=K) (vv 0))) (aG eV) aZ) (aG (aL (aA0 e (dC (K:=K) (vv 0)) (vv 1) (λ_ _=>rfl))))),?_⟩;obtain⟨j,g⟩:=l.at_;refine⟨_,rfl,_,rfl,x,C,j,_,_,rfl,g,c,o,rfl,b,some v,rfl,.inl ⟨_,Sum.inr n,.inl i,rfl,(xV n v).symm⟩,_,rfl,bZ ?_⟩;exact⟨_,rfl,x,C,j,_,_,rfl,g,c,o,rfl,_,rfl,b,v,rfl,.inl ⟨_,Sum.inr n,.inl i,rfl,(xV n v).symm⟩,q⟩
def zH (K:bFH)(C:Addr):Sp:=λvs H Q _=>∃(x d dm:Addr) (m:Int) (es:List En) (e:En) (o:Option Mv),vs=[.ref x,.str e.n]/\bM K H C x m d dm es/\e∈es/\MvD K H dm e.n o/\∀v H',Same H H'->MvV K H' v o->Q v H'
theorem aMg (T:Txt w K mg){C:Addr}(c:Cls K C)(D:fU K C "moving" "Store.moving" iT ["self","name"])(G:bI K C "placed")(y:bI K C "moves")(J:Ok P w K mg base 3 "table_in" ["placed","name"] (pH K)):OkM P w K mg base C 4 "moving" ["self","name"] (zH K C):=by
 refine OkM.ofV c D aAj (by trivial) (λf t A b s H I Q E j h=>?_)
 obtain⟨x,d,l,m,r,e,o,rfl,k,F,B,q⟩:=h;have z:=sU j;refine⟨_,(aD (iR (aN (J.mono (by decide)) j (by rfl) (aB (dC (K:=K) (vv 0)) (aB (vv 1) aA)))) (aG (aL (aSe z (dC (K:=K) (vv 0)) (vv 1))))),?_⟩;obtain⟨i,g⟩:=k.at_;refine⟨_,rfl,x,C,i,_,_,rfl,g,c,G,rfl,_,rfl,d,r,e,rfl,k.ens,F,λp a=>?_⟩;obtain⟨v,u,hd⟩:=B.same a;cases o with
 |none=>exact⟨_,rfl,x,C,i,_,_,rfl,a _ _ g,c,y,rfl,l,rfl,.inl ⟨_,.inl hd⟩,_,rfl,none,.inl ⟨_,Sum.inr e.n,.inl hd,rfl,rfl⟩,q .non p a rfl⟩
 |some mq=>exact⟨_,rfl,x,C,i,_,_,rfl,a _ _ g,c,y,rfl,l,rfl,.inl ⟨_,.inl hd⟩,_,rfl,some v,.inl ⟨_,Sum.inr e.n,.inl hd,rfl,(xV e.n v).symm⟩,q v p a u⟩
def pW {H:Hp}{a:Addr}{rs:List (List V)}{n:L2.St}{tt:TT}{Q:VK}(w:bY K H a rs)(hl:rs.length<=1000)(p:List V->Bool)(t:n[0]?=some none)
  (o:∀(u:V) (r:List V),r∈rs->∀H' R l,Same H H'->cI K H' u r->(∀H2,Same H' H2->R (p r) H2)->tt ((n.set 0 l).set 0 (some u)) H' R)
  (q:∀D H',H D=none->Same H H'->bY K H' D (rs.filter p)->Q (.ref D) H'):tK (Itl K a) H n (cD 0) tt (aQ3 0) Q:=by
 obtain⟨j,g,b⟩:=w;have v:=b.len;refine aB4 j (λi=>p (rs.getD i [])) n (small (by lia)) (aVh λH' s=>SqL.of (s _ _ g)) (aQu λH' s=>SqL.of (s _ _ g)) (λi u k H' R l c e=>?_) t λD H' h c m=>?_
 ·obtain⟨r,d,f⟩:=cJ b k;rw[j4,d,bBP] at e;exact o u r (t7 d) H' R l c (f.same c) e
 ·refine q D H' h c ⟨_,m,?_⟩;rw[<-mX (p:=λi=>p (rs.getD i [])) (p':=p) λi r d=>by rw[bDB,j4,d];rfl];exact (aCt b 0).imp λ_ _ r=>r.same c
def gF (hd:Hdr)(n:Str)(cs:List (V × Int))(num:Nat)(r:List V):Bool:=decide (jN (r.getD (plc hd n) .non) cs 1 0=num)
def sG:Option (List V)->List V->Bool
 |none,_=>true
 |some q,r=>rlt q r
def aCl (K:bFH):Sp:=λvs H Q _=>∃(vr vm:V) (r:List V) (o:Option (List V)) (ks:List Bool),vs=[vr,vm]/\cI K H vr r/\aHr K H vm o/\KdR ks r/\(∀q,o=some q->KdR ks q)/\Q (.bl (sG o r)) H
theorem aJe (T:Txt w K mg):Ok P w K mg base 1 "is_above" ["row","mark"] (aCl K):=by
 refine Ok.ofV T.aM5 aIv (by trivial) (λf i A a s H p Q E e h=>?_)
 obtain⟨n,u,r,o,g,rfl,c,d,m,l,q⟩:=h;have j:=e.units;refine⟨_,(aG (aL (aX9 (cR aBc (vv 1) jU (aW _)) (iY (cR (aSi j) (vv 0) (vv 1) (aW _)))))),?_⟩;cases o with
 |none=>cases d;exact⟨_,rfl,rfl,_,rfl,nP (t6 rfl) q⟩
 |some b=>obtain⟨t,rfl,k⟩:=id d;exact⟨_,rfl,rfl,_,rfl,gO (v8 λz=>by cases z) ⟨_,rfl,_,rfl,g,r,b,c,d,m,l b rfl,q⟩⟩
def aCn (K:bFH):Sp:=λvs H Q _=>∃(v vh vp:V) (L:Addr) (t:Tb) (m:Int) (num:Nat) (n:Str) (h0:Int) (cs:List (V × Int)),vs=[v,.int num]/\oX K H v vh vp L t/\mD m t/\t.pl=.spans n h0 cs/\∀D' H',H D'=none->Same H H'->bY K H' D' (t.rows.filter (gF t.hd n cs num))->Q (.ref D') H'
def aHu (T:Txt w K mg)(vQ:Ok P w K mg base 2 "place_of" ["head","name"] (oZ K))(a2:Ok P w K mg base 1 "cut_of" ["cuts","value"] (aCj K)):Ok P w K mg base 3 "span_rows" ["table","number"] (aCn K):=by
 refine Ok.ofV T.aKc xF (by trivial) (λf a0 A O s H vs Q E Y h=>?_)
 obtain⟨v,vh,vp,L,t,m,num,n,h0,B,rfl,⟨a,rfl,y,hI,x,d⟩,C,j,q⟩:=h;rw[j] at x;obtain⟨b,vc,rfl,Z,U⟩:=x;have o:=C.pl;rw[j] at o;obtain⟨hn,W,X,a3,p⟩:=o;have l8:=C.hd.1.2.2;refine⟨_,(aD (aV (i:=2) xF.nd rfl (by trivial) (aN (vQ.mono (by decide)) Y (by rfl) (aB (aK aX (vv 0) aC (λ_ _=>rfl)) (aB (aK aX (aK (bR (K:=K)) (vv 0) aC (λ_ _=>rfl)) aC (λ_ _=>rfl)) aA)))) (aG (aL (cL (N:=["row","number","place","table"]) (by trivial) (dZ (aF nO) rfl (by decide +kernel)) rfl (eN (aK (bR (K:=K)) (vv 0) aC (λ_ _=>rfl))) (λcl k F fp=>⟨(aO (i:=0) (show (["row","number","place","table"]:List Str).Nodup from by decide +kernel) rfl (Or.inl rfl)),(mJ (aY dW (aN (a2.mono (by decide)) Y (by rfl) (aB (aK (bR (K:=K)) (aK (bR (K:=K)) (vv 3) aC (λ_ _=>rfl)) aC (λ_ _=>rfl)) (aB (aK (bR (K:=K)) (vv 0) (vv 2) (λ_ _=>rfl)) aA))) (vv 1) (aW _))),(vv 0)⟩))))),?_⟩;refine⟨_,rfl,a,_,0,_,rfl,rfl,y,at0 _ _,_,rfl,a,_,1,_,rfl,rfl,y,at1 _ _ _,b,_,1,_,rfl,rfl,Z,at1 _ _ _,vh,n,t.hd,W,rfl,hI,by lia,X,λH1 g=>?_⟩;dsimp only[cD,tV,List.set];obtain⟨us,gL,a1⟩:=id d;refine iW [none,some (.int num),some (.int (plc t.hd n:Nat)),some (.ref a)] (aAw 1 2 0 (by decide +kernel) (by decide +kernel) (by decide +kernel) rfl rfl rfl rfl rfl rfl (by trivial) (by trivial) (by trivial)) ?_;refine⟨_,rfl,a,_,2,_,rfl,rfl,g.bA y,at2 _ _ _ _,L,rfl,⟨_,SqL.of (g _ _ gL)⟩,pW (d.same g) (by have:=C.few;lia) (gF t.hd n B num) rfl (λu r J F R l M G rr=>?_) λD F hN M hD=>q D F (none_of g hN) (g.trans M) hD⟩;obtain⟨ra,rfl,I⟩:=G;obtain⟨v,hv,hg,S⟩:=aJl (C.rows r J) X;have k:=g.trans M;refine⟨_,rfl,a,_,1,_,rfl,rfl,k.bA y,at1 _ _ _,b,_,2,_,rfl,rfl,k.bA Z,at2 _ _ _ _,_,rfl,_,rfl,ra,r,_,v,rfl,rfl,I,bV hv,vc,v,W,h0,B,rfl,rG.same k (λ_ _ z=>z.same k) U,p.few,S,λc U=>(p.each c U).1,_,rfl,rfl,_,rfl,?_⟩;have e:decide (V.int (jN v B 1 0:Nat)=V.int num)=gF t.hd n B num r:=by unfold gF;rw[hg];exact decide_eq_decide.mpr ⟨λz=>by have:=V.int.inj z;lia,λz=>by rw[z]⟩
 rw[e];exact rr F (Same.refl _)
def aTf (K:bFH)(C:Addr):Sp:=λvs H Q _=>∃(x d dm:Addr) (m:Int) (es:List En) (e:En) (mq:Mv) (n:Str) (h0:Int) (cs:List (V × Int)),vs=[.ref x,.str e.n]/\bM K H C x m d dm es/\e∈es/\MvD K H dm e.n (some mq)/\e.t.pl=.spans n h0 cs/\(∀q,mq.mark=some q->jQ e.t.hd q)/\∀D' H',H D'=none->Same H H'->bY K H' D' (e.t.rows.filter λr=>sG mq.mark r && gF e.t.hd n cs mq.num r)->Q (.ref D') H'
def aXf (T:Txt w K mg){C:Addr}(c:Cls K C)(D:fU K C "rows_to_come" "Store.rows_to_come" cT ["self","name"])(n1:bI K C "placed")(n3:bI K C "moves")(sO:Ok P w K mg base 3 "span_rows" ["table","number"] (aCn K))(vA:Ok P w K mg base 1 "is_above" ["row","mark"] (aCl K)):OkM P w K mg base C 4 "rows_to_come" ["self","name"] (aTf K C):=by
 refine OkM.ofV c D jP (by trivial) (λf a0 A I s H vs Q E J h=>?_)
 obtain⟨x,d,dm,m,es,e,G,n,h0,cs,rfl,b,B,⟨v,Y,hm⟩,p,hq,q⟩:=h;have M:=sU J;refine⟨_,(aD (aV (i:=2) jP.nd rfl (by trivial) (aA0 M (dC (K:=K) (vv 0)) (vv 1) (λ_ _=>rfl))) (aG (aL (cL (N:=["row","move"]) (by trivial) (dZ (aF cT) rfl (by decide +kernel)) rfl (eN (aN (sO.mono (by decide)) J (by rfl) (aB (aA0 M (dC (K:=K) (vv 0)) (vv 1) (λ_ _=>rfl)) (aB (aK aX (vv 2) aC (λ_ _=>rfl)) aA)))) (λcl s' k fp=>⟨(aO (i:=0) (show (["row","move"]:List Str).Nodup from by decide +kernel) rfl (Or.inl rfl)),(mJ (cG (aN (vA.mono (by decide)) J (by rfl) (aB (vv 0) (aB (aK (bR (K:=K)) (vv 1) aC (λ_ _=>rfl)) aA))))),(vv 0)⟩))))),?_⟩;obtain⟨U,S⟩:=b.at_;obtain⟨a,vm,rfl,O,y⟩:=Y;have F:=b.ok e B;refine⟨_,rfl,x,C,U,_,_,rfl,S,c,n3,rfl,_,rfl,dm,_,rfl,.inl ⟨_,Sum.inr e.n,.inl hm,rfl,(xV e.n _).symm⟩,?_⟩;dsimp only[cD,tV,List.set];refine iW [none,some (.ref a)] (lB 2 (by decide +kernel) rfl rfl (by trivial)) ?_;refine⟨_,rfl,x,C,U,_,_,rfl,S,c,n1,rfl,_,rfl,d,e.v,rfl,.inl ⟨_,Sum.inr e.n,.inl b.ens.at_,rfl,(aHg b.ens.nd B).symm⟩,?_⟩;refine⟨_,rfl,a,_,0,_,rfl,rfl,O,at0 _ _,e.v,e.vh,e.vp,e.L,e.t,m,G.num,n,h0,cs,rfl,b.ens.tb e B,F,p,λD1 H1 a2 g V=>?_⟩;obtain⟨us,gD,a1⟩:=id V;refine⟨D1,rfl,⟨_,SqL.of gD⟩,pW V (bAM (bBH _ _) (by have:=F.few;lia)) (sG G.mark) rfl (λu r z k R l j o rr=>?_) λX k hN j W=>q X k (none_of g hN) (g.trans j) (by rw[bDP] at W;exact W)⟩;refine⟨_,rfl,_,rfl,a,_,2,_,rfl,rfl,(g.trans j).bA O,at2 _ _ _ _,u,vm,r,G.mark,knds e.t.hd,rfl,o,y.same (g.trans j),gC (F.rows r (List.mem_filter.mp z).1),λZ e'=>gC (hq Z e'),_,rfl,rr k (Same.refl _)⟩
end
end My
namespace PySem
def Ris (xs:Array Nat):Prop:=∀a b (ha:a<xs.size) (hb:b<xs.size),a<b->xs[a]<xs[b]
theorem aBk {xs:Array Nat}{j:Nat}(c:Ris xs):∀(fuel lo hi:Nat),hi - lo<=fuel->lo<=hi->hi<=xs.size->(∀k (h:k<xs.size),k<lo->xs[k]<j)->(∀k (h:k<xs.size),hi<=k->j<=xs[k]) ->
  SetTable.below.go xs j fuel lo hi<=xs.size/\(∀k (h:k<xs.size),k<SetTable.below.go xs j fuel lo hi->xs[k]<j)/\∀k (h:k<xs.size),SetTable.below.go xs j fuel lo hi<=k->j<=xs[k]
 |0,lo,hi,hf,h1,h2,h3,h4=>by
  have e:lo=hi:=by lia
  subst e;exact⟨h2,h3,h4⟩
 |fuel+1,lo,hi,hf,h1,h2,h3,h4=>by
  unfold SetTable.below.go
  split
  ·rename_i i;have m:(lo+hi) / 2<hi:=by lia
   have f:lo<=(lo+hi) / 2:=by lia
   have a:(lo+hi) / 2<xs.size:=by lia
   dsimp only;rw[v7,m8 a,bBP]
   split
   ·rename_i b;refine aBk c fuel _ _ (by lia) (by lia) h2 (λk d g=>?_) h4;by_cases e:k=(lo+hi) / 2
    ·subst e;exact b
    ·exact bEJ (c k _ d a (by lia)) b
   ·rename_i b;refine aBk c fuel _ _ (by lia) (by lia) (by lia) h3 λk d l=>?_;by_cases e:k=(lo+hi) / 2
    ·subst e;lia
    ·exact bAM (Nat.le_of_not_lt b) (bDL (c _ k a d (by lia)))
  ·have e:lo=hi:=by lia
   subst e;exact⟨h2,h3,h4⟩
def oY {xs:Array Nat}(c:Ris xs)(j:Nat):SetTable.below xs j<=xs.size/\(∀k (h:k<xs.size),k<SetTable.below xs j->xs[k]<j)/\∀k (h:k<xs.size),SetTable.below xs j<=k->j<=xs[k]:=
 aBk c xs.size 0 xs.size (by lia) (bAG _) (j0 _) (λk _ h=>absurd h (bCZ _)) (λk a b=>absurd a (by lia))
def oF {α:Type}(xs:Array α)(p:Nat)(x:α)(hp:p<=xs.size):(SetTable.insertAt xs p x).toList=xs.toList.take p++x::xs.toList.drop p:=by unfold SetTable.insertAt;rw[bDF,bFE,Array.toList_extract,Array.toList_extract];simp only[List.extract_eq_drop_take,List.drop_zero,Nat.sub_zero,bDA,List.singleton_append];have e:(xs.toList.drop p).take (xs.size - p)=xs.toList.drop p:=bAW (by rw[bBY,t8];exact j0 _);rw[e]
def aBa {xs:Array Nat}:Ris xs↔xs.toList.Pairwise (·<·):=by
 rw[List.pairwise_iff_getElem];unfold Ris;constructor
 ·intro h i j f e d;exact h i j (by simpa using f) (by simpa using e) d
 ·intro h a b g k c;exact h a b (by simpa using g) (by simpa using k) c
def uX {xs:Array Nat}{j:Nat}(n:Ris xs)(t:xs[SetTable.below xs j]?≠some j):Ris (SetTable.insertAt xs (SetTable.below xs j) j):=by
 obtain⟨o,p,l⟩:=oY n j;rw[aBa,oF _ _ _ o,List.pairwise_append,List.pairwise_cons];have m:=aBa.mp n;have below:∀a∈xs.toList.take (SetTable.below xs j),a<j:=λa d=>by
  obtain⟨i,k,rfl⟩:=bBC d;rw[List.getElem_take];rw[bAO] at k;have e:i<xs.toList.length:=by lia
  exact p i (by simpa using e) (by lia)
 have c:∀a∈xs.toList.drop (SetTable.below xs j),j<a:=λa d=>by
  obtain⟨i,k,rfl⟩:=bBC d;rw[List.getElem_drop];rw[bBY] at k;have g:SetTable.below xs j+i<xs.toList.length:=by lia
  have f:SetTable.below xs j+i<xs.size:=by simpa using g
  have q:=l _ f (bBT _ _);rw[Array.getElem_toList];rcases bE5 q with h|h
  ·exact h
  ·exfalso;cases i with
   |zero=>exact t ((m8 f).trans (congrArg some h.symm))
   |succ i=>
    have hb:SetTable.below xs j<xs.size:=by lia
    have r:=l _ hb (j0 _);have s:=n _ _ hb f (by lia);lia
 refine⟨m.sublist (List.take_sublist _ _),⟨c,m.sublist (List.drop_sublist _ _)⟩,λa d b hb=>?_⟩;rcases List.mem_cons.mp hb with rfl|hb
 ·exact below a d
 ·exact bEJ (below a d) (c b hb)
def aNf {t:SetTable}{j:Nat}(h:t.slot j=.empty):t.place[SetTable.below t.place j]?≠some j:=by unfold SetTable.slot at h;intro e;simp[e] at h
def aG6 {t:SetTable}(hd:t.dummies=#[])(j:Nat):t.slot j≠.dummy:=by
 unfold SetTable.slot;rw[hd];dsimp only
 split
 ·intro z;cases z
 ·have:SetTable.has #[] j=false:=by unfold SetTable.has;simp
  rw[this];intro z;cases z
theorem aLd {t:SetTable}{g:Nat->Int}{h:Int}(hd:t.dummies=#[]):∀(fuel:Nat) (p:SetTable.Probe) (j:Nat) (dm:Option Nat),p.dummy=none->SetTable.probe.go t g h fuel p=some (.empty j dm)->dm=none/\t.slot j=.empty
 |0,p,j,dm,_,e=>by cases e
 |fuel+1,p,j,dm,hp,e=>by
  unfold SetTable.probe.go at e;have b:∀q:SetTable.Probe,q.dummy=none->(t.advance q).dummy=none:=λq c=>by
   unfold SetTable.advance
   split
   ·exact c
   ·exact c
  split at e
  ·rename_i a;cases e;exact⟨hp,a⟩
  ·rename_i a;exact absurd a (aG6 hd _)
  ·split at e
   ·cases e
   ·exact aLd hd fuel _ j dm (b p hp) e
def aI1 {t:SetTable}{h:Int}{j:Nat}{b:Bool}(hd:t.dummies=#[])(e:t.freeSlot h=some (j,b)):t.place[SetTable.below t.place j]?≠some j:=by
 unfold SetTable.freeSlot at e
 split at e
 ·rename_i f d a;unfold SetTable.probe at a;obtain⟨rfl,c⟩:=aLd hd _ _ _ _ rfl a;cases e;exact aNf c
 ·cases e
def TabOk (b:Bool)(t:SetTable):Prop:=(b=false->t.led=true)/\t.dummies=#[]/\7<=t.mask/\(t.plain=true->Ris t.place)
def TabOk.stand {b:Bool}{t:SetTable}{n:Nat}(h:TabOk b t)(hn:1<=n):TabOk b (t.standIn n):=⟨h.1,rfl,by show 7<=4 * n+4;lia,λz=>by cases z⟩
def TabOk.off {b:Bool}{t:SetTable}(h:TabOk b t):TabOk b { t with plain:=false }:=⟨h.1,h.2.1,h.2.2.1,λz=>by cases z⟩
def TabOk.new {b:Bool}{t:SetTable}{es:Array (Int × Value)}{h:Int}{x:Value}(c:TabOk b t):TabOk b (layNew t es h x).2.1:=by
 unfold layNew
 split
 ·rename_i a g e;have f:=aI1 c.2.1 e;dsimp only[SetTable.put];have d:(if SetTable.has t.dummies a=true then SetTable.eraseAt t.dummies (SetTable.below t.dummies a) else t.dummies)=#[]:=by
   rw[c.2.1];have:SetTable.has #[] a=false:=by unfold SetTable.has;simp
   rw[this];rfl
  rw[d];unfold SetTable.orStandIn
  split
  ·exact⟨c.1,rfl,c.2.2.1,λz=>uX (c.2.2.2 z) f⟩
  ·refine TabOk.stand (t:={ t with place:=_,dummies:=#[] }) ⟨c.1,rfl,c.2.2.1,λz=>uX (c.2.2.2 z) f⟩ ?_;unfold SetTable.insertAt;simp only[Array.size_append,Array.size_push,Array.size_extract];lia
 ·exact c.stand (Nat.succ_le_succ (bAG _))
def TabOk.room {b:Bool}{t:SetTable}{n:Nat}(c:TabOk b t)(a:t.fits n=true)(hn:n<=4):t.tooFull=false:=by unfold SetTable.fits at a;rw[bAT,beq_iff_eq] at a;unfold SetTable.tooFull SetTable.fill;rw[a.1,c.2.1];have:=c.2.2.1;simp only[Array.size_empty,Nat.add_zero,decide_eq_false_iff_not];lia
theorem nH {α β:Type}{R:α->β->Prop}{bs' bs:List β}(p:bs'.Perm bs):∀{as:List α},Paired R as bs->∃as',Paired R as' bs'/\as'.Perm as:=by
 induction p with
 |nil=>intro as h;exact⟨as,h,.refl _⟩
 |cons x _ ih=>
  intro as h;cases h with
  |cons r t=>obtain⟨as',a,b⟩:=ih t;exact⟨_,.cons r a,b.cons _⟩
 |swap x y l=>
  intro as h;cases h with
  |cons r t=>
   cases t with
   |cons r2 t2=>exact⟨_,.cons r2 (.cons r t2),.swap ..⟩
 |trans _ _ ih1 ih2=>intro as h;obtain⟨f,a,b⟩:=ih2 h;obtain⟨d,c,e⟩:=ih1 a;exact⟨d,c,e.trans b⟩
theorem tU {α β:Type}{R:α->β->Prop}{as:List α}{bs:List β}{a:α}{b:β}(h:Paired R as bs)(r:R a b):Paired R (as++[a]) (bs++[b]):=by
 induction h with
 |nil=>exact .cons r .nil
 |cons q _ ih=>exact .cons q ih
theorem zV {α β:Type}{R:α->β->Prop}{as:List α}{bs:List β}(h:Paired R as bs):∀a∈as,∃b∈bs,R a b:=by
 induction h with
 |nil=>intro a ha;cases ha
 |cons q _ ih=>
  intro a ha;rcases List.mem_cons.mp ha with rfl|ha
  ·exact⟨_,j6,q⟩
  ·obtain⟨b,c,r⟩:=ih a ha;exact⟨b,j8 _ c,r⟩
theorem nA {α β:Type}{R:α->β->Prop}{as:List α}{bs:List β}(h:Paired R as bs):∀b∈bs,∃a∈as,R a b:=by
 induction h with
 |nil=>intro a c;cases c
 |cons q _ ih=>
  intro b hb;rcases List.mem_cons.mp hb with rfl|hb
  ·exact⟨_,j6,q⟩
  ·obtain⟨a,c,r⟩:=ih b hb;exact⟨a,j8 _ c,r⟩
section
variable {prog:Program}{w:World}{κ:Type}[DecidableEq κ]{knd:KeyKind prog w κ}{A:Around}{E:bFI}{s:Shared}
def byT (w:World):Bool:=w.params.followText "set-order"
abbrev ElK (knd:KeyKind prog w κ):κ->Int × Value->Prop:=λk e=>knd.is k e.2=true/\e.1=knd.hash k/\e.2.scannable=true
def vG (knd:KeyKind prog w κ)(h:Heap)(D:Addr)(kl:List κ):Prop:=∃o es ep t,h.get? D=some o/\o.ExactSet/\o.data=.set es ep t/\t.fits es.size=true/\TabOk (byT w) t/\Paired (ElK knd) kl es.toList
def vG.at {h h':Heap}{D:Addr}{kl:List κ}(x:vG knd h D kl)(e:∀o,h.get? D=some o->h'.get? D=some o):vG knd h' D kl:=by obtain⟨o,a,c,t,b,r⟩:=x;exact⟨o,a,c,t,e o b,r⟩
theorem aS7 {D:Addr}{O:List κ}{k:κ}{x:Value}{Q:Bool->Shared->Prop}(J:knd.is k x=true)(y:x.scannable=true)(hS:vG knd s.heap D O)(hroom:O.length<4)
  (h:∀h' kl' b,Heap.SameBut D s.heap h'->vG knd h' D kl'->kl'.Perm (if k∈O then O else O++[k])->Q b { s with heap:=h' }):wpAny (model prog w) A (setAddHashed D x (knd.hash k)) Q E s:=by
 obtain⟨o,l,ep,t,B,u,hd,N,F,p⟩:=hS;have hn:O.length=l.size:=by rw[Paired.length p,t8]
 have C:ElemsOf knd l.toList:=λe Y=>by obtain⟨V,_,v,r2,r3⟩:=nA p e Y;exact⟨⟨V,v,r2⟩,r3⟩
 have hb:l.size<scanBound:=by unfold scanBound;lia
 unfold setAddHashed setAddHashedIn;refine bAS (c7 (bBL B hd N ?_));dsimp only;rw[byScan_of y hb C];simp only[↓reduceIte];unfold setAddByScan;refine c7 (c7 (bDD (c7 (wpAny_setScan_of J B hd N C ?_))));cases hr:List.findIdx? (λe=>knd.is k e.2) l.toList with
 |some j=>
  dsimp only;obtain⟨hj,U,_⟩:=List.findIdx?_eq_some_iff_getElem.mp hr;obtain⟨V,W,v,_⟩:=nA p _ (bAV hj);have K:k∈O:=by rw[knd.inj _ k V U v];exact W
  refine d9 (d9 ?_);have e:s={ s with heap:=s.heap }:=by cases s;rfl
  rw[e];exact h s.heap O _ (Heap.SameBut.refl D s.heap) ⟨o,l,ep,t,B,u,hd,N,F,p⟩ (by rw[if_pos K])
 |none=>
  dsimp only;have H:k∉O:=λz=>by obtain⟨e,Y,v,_⟩:=zV p k z;have:=List.findIdx?_eq_none_iff.mp hr e Y;rw[v] at this;cases this
  have P:∀(b:Bool) {g:Shared} {M:Unit->Shared->Prop},M () g->wpAny (model prog w) A (match b with|true=>rule "set.scan.the-table-gave-way"|false=>pure ()) M E g:=λb g M hq=>match b with
   |true=>bDD hq
   |false=>d9 hq
  have a:=layNew_perm t l (knd.hash k) x;have c:=layNew_fits t l (knd.hash k) x;have f:TabOk (byT w) (layNew t l (knd.hash k) x).2.1:=F.new;generalize hL:layNew t l (knd.hash k) x=L at a c f ⊢;obtain⟨d,X,n,Z⟩:=L;dsimp only at a c f ⊢;rw[bFE] at a;obtain⟨kl',T,pm⟩:=nH a (tU p (show ElK knd k (knd.hash k,x) from ⟨J,rfl,y⟩));have a0:d.size=l.size+1:=by rw[<-t8,a.length_eq,bAB,t8];rfl
  refine c7 (P _ ?_);have G:∀i:SetTable,TabOk (byT w) i->i.fits d.size=true->∀(R:Option Bool->Shared->Prop),(∀h',Heap.SameBut D s.heap h'->vG knd h' D kl'->R (some true) { s with heap:=h' }) ->
    wpAny (model prog w) A (storeSet D d i) (λ_ g=>i.tooFull=false/\R (some true) g) E s:=λi h2 f2 R hR=>by
   refine bFF B hd ⟨h2.room f2 (by lia),?_⟩ (fits_of_scanBound (by unfold scanBound;lia));have hg:=bBG (Obj.putSet d i) B (by rw[putSet_of d i hd];rfl);rw[putSet_of d i hd] at hg;exact hR _ (bAY s.heap D (Obj.putSet d i)) ⟨_,d,ep+1,i,hg,u,rfl,f2,h2,T⟩
  have m:∀h',Heap.SameBut D s.heap h'->vG knd h' D kl'->Q true { s with heap:=h' }:=λh' I q=>h h' kl' true I q (by rw[if_neg H];exact pm)
  split
  ·refine c7 ?_;rw[hashByValue_scannable 8 y];refine d9 ?_;refine c7 (bBN (G (if plainKind x=true then X else { X with plain:=false }) (by split;exact f;exact f.off) (by split;exact c;exact SetTable.fits_plain_off c) (λr g=>wpAny (model prog w) A (match r with|some b=>pure b|none=>unsupported "x") Q E g) λh' I q=>d9 (m h' I q)) (λ_ g ⟨S,q⟩=>?_) λ_ _ z=>z);rw[S];simp only[bE6,bBB,↓reduceIte];exact d9 q
  ·refine c7 (d9 ?_);simp only[↓reduceIte];refine c7 (bBN (G X f c (λr g=>wpAny (model prog w) A (match r with|some b=>pure b|none=>unsupported "x") Q E g) λh' I q=>d9 (m h' I q)) (λ_ g ⟨S,q⟩=>?_) λ_ _ z=>z);rw[S];simp only[bE6,bBB,↓reduceIte];exact d9 q
def Ded (kl xs:List κ):Prop:=kl.Nodup/\(∀k,k∈kl↔k∈xs)/\kl.length<=xs.length
def Ded.more {l kl' xs:List κ}{k:κ}(h:Ded l xs)(p:kl'.Perm (if k∈l then l else l++[k])):Ded kl' (xs++[k]):=by
 obtain⟨f,d,i⟩:=h;by_cases c:k∈l
 ·rw[if_pos c] at p;refine⟨p.nodup_iff.mpr f,λy=>?_,by rw[p.length_eq,bAB];lia⟩;rw[p.mem_iff,d,List.mem_append,bE7];exact⟨.inl,λz=>z.elim id λe=>e ▸ (d k).mp c⟩
 ·rw[if_neg c] at p;refine⟨p.nodup_iff.mpr (List.nodup_append.mpr ⟨f,by simp,λa j b g e=>?_⟩),λy=>?_,by rw[p.length_eq,bAB,bAB];exact Nat.add_le_add_right i _⟩
  ·rw[bE7] at g;exact c (g ▸ e ▸ j)
  ·rw[p.mem_iff,List.mem_append,List.mem_append,d]
def aTh {h:Heap}{D:Addr}(d:h.get? D=some (bF (!byT w))):vG knd h D []:=by refine⟨_,#[],0,_,d,⟨rfl,rfl,rfl⟩,rfl,rfl,⟨λe=>?_,rfl,j0 _,λ_=>λa b c=>absurd c (by show ¬ (a<0);lia)⟩,.nil⟩;show (!byT w)=true;rw[e];rfl
def aH9 (a:Value){Q₁:bFI}(h:Q₁ (.ref s.heap.objs.size) { s with heap:=s.heap.push (bF (!byT w)) }):codeAny (model prog w) A (.call (.builtin "set.__new__") ⟨[.type "set",a],[]⟩) (wants Q₁ E) s:=by have b:=sub_set_self;refine codeAny_of_tree (show wpAny _ A.in1 (do checkBuiltinCall "set.__new__" ⟨[.type "set",a],[]⟩;again (.builtin "set.__new__" ⟨[.type "set",a],[]⟩)) _ _ s from c7 (bEC (F.newCall_set_1 a) (d9 ⟨bCQ F.plain_set_new _,bBD F.entry_set_new ?_⟩)));rw[bBA F.plain_set_new _];unfold Builtin.«set.__new__» Builtin.Frozenset.newClass;obtain⟨f,g,d,e,c⟩:=s;dsimp only;wp_walk;refine bDK (d9 ?_);dsimp only;simp only[newObj];exact c7 (wpAny_alloc (d9 (d9 h)))
def Ex (h0 h:Heap):Prop:=∀b o,h0.get? b=some o->h.get? b=some o
structure Kset (prog:Program)(w:World)(κ:Type)[DecidableEq κ](A:Around)(h0:Heap)(D:Addr)(S:Heap->List κ->Prop)(V:κ->Value->Prop)(m:Nat):Prop where
 at_:∀{h h':Heap} {kl:List κ},S h kl->(∀o,h.get? D=some o->h'.get? D=some o)->S h' kl
 add:∀{A':Around} {E:bFI} {s:Shared} {kl:List κ} {k:κ} {v:Value} {Q:Bool->Shared->Prop},A'.units<=A.units+9->Ex h0 s.heap->V k v->S s.heap kl->kl.length<m->(∀h' tk kl' b,Heap.SameBut D s.heap h'->S h' kl'->kl'.Perm (if k∈kl then kl else kl++[k])->Q b { s with heap:=h',toks:=tk })->wpAny (model prog w) A' (setAdd D v) Q E s
 new:∀{h:Heap},h.get? D=some (bF (!byT w))->S h []
variable {S:Heap->List κ->Prop}{V:κ->Value->Prop}{m:Nat}{h0:Heap}{A0:Around}
theorem aRl {A:Around}{R:Result->Shared->Prop}{I:Addr}{fp wr:List Addr}{n:Nat}{P:Nat->Value->Prop}{St:Nat->Heap->Prop}(W:Walks prog w A.in1 I fp wr n P St){D:Addr}(hD:D∉fp)(Z:Kset prog w κ A0 h0 D S V m)(hA:A.units+1<=A0.units+9)(X:∀b∈D::wr,h0.get? b=none)
  (ks:List κ) (H:ks.length=n) (F:∀i v,P i v->∃k,ks[i]?=some k/\V k v) (hb:n<=m) :
  ∀(k i:Nat) (s:Shared) (kl:List κ),i+k=n->St i s.heap->Ex h0 s.heap->S s.heap kl->Ded kl (ks.take i) ->
   (∀h' tk kl',(∀b o,b∉D::wr->s.heap.get? b=some o->h'.get? b=some o)->S h' kl'->Ded kl' ks->R (.ok (.ret .none)) { s with heap:=h',toks:=tk }) ->
   codeAny (model prog w) A (.builtin "set.update.loop" ⟨[.ref D,.ref I],[]⟩) R s:=by
 have j:D∉wr:=λq=>hD (W.sub _ q);have g:∀{b:Addr} {o:Obj},h0.get? b=some o->b∉D::wr:=λe z=>by rw[X _ z] at e;cases e
 intro k
 induction k with
 |zero=>
  intro i s kl Y t y p d q;obtain rfl:i=n:=by lia
  refine bBD bBU ?_;rw[bBA bAZ _];show wpAny _ A.in1 (pyNext (.ref I) >>= _) _ _ _;refine c7 (W.done s _ _ t λh' tk l=>?_);rw[bAW (bE3 H)] at d;exact d9 (q h' tk kl (λb o c e=>l b o (λz=>c (j8 _ z)) e) (Z.at_ p λo e=>l D o j e) d)
 |succ k ih=>
  intro i s kl Y t y p d q;refine bBD bBU ?_;rw[bBA bAZ _];show wpAny _ A.in1 (pyNext (.ref I) >>= _) _ _ _;refine c7 (W.item i s _ _ (by lia) t λv J N G B a=>?_);obtain⟨K,U,x⟩:=F i v G;have E:Ex h0 J:=λb o e=>a b o (λz=>g e (j8 _ z)) (y b o e);show wpAny _ A.in1 (holding [v] (setAdd D v) >>= _) _ _ _;refine c7 (bAS ?_);have lt:(ks.take i).length=i:=by rw[bAO];lia
  refine Z.add hA E x (Z.at_ p λo e=>a D o j e) (by have:=d.2.2;lia) λO M C b2 h u T=>?_;have Q:ks.take (i+1)=ks.take i++[K]:=by rw[bBK,U];rfl
  have f:∀b o,b∉D::wr->s.heap.get? b=some o->O.get? b=some o:=λb o c e=>by rw[h.2 b (λz=>c (by rw[z];exact j6))];exact a b o (λz=>c (j8 _ z)) e
  refine d9 ⟨bCQ bAZ _,ih (i+1) _ C (by lia) (W.frame _ _ _ B λb hb o e=>?_) (λb o e=>f b o (g e) (y b o e)) u (by rw[Q];exact d.more T) λh' tk kl' l r L=>q h' tk kl' (λb o c e=>l b o c (f b o c e)) r L⟩;rw[h.2 b (λz=>hD (by rw[<-z];exact hb))];exact e
def aQ6 {A:Around}{R:Fin->Shared->Prop}{E:bFI}{s:Shared}{l:Addr}{its:Array Value}{ks:List κ}(L:A.handled=none)(Z:Kset prog w κ A0 s.heap s.heap.objs.size S V m)(U:A.units+1<=A0.units+9)(T:s.heap.IsList l its)(G:ks.length=its.size)
  (D:∀(i:Nat) (v:Value),its[i]?=some v->∃k,ks[i]?=some k/\V k v) (a:its.size<=m)
  (q:∀h' tk kl,S h' kl->Ded kl ks->(∀b o,b<s.heap.objs.size->s.heap.get? b=some o->h'.get? b=some o)->R (.done (.ret .none)) { s with heap:=h',toks:=tk }) :
  wpAny (model prog w) A (Builtin.«set.__init__» ⟨[.ref s.heap.objs.size,.ref l],[]⟩) R E { s with heap:=s.heap.push (bF (!byT w)) }:=by
 obtain⟨⟨M,J,P,u⟩,j,g,z,h⟩:=id T;simp only at g h;subst g h;have B:(s.heap.push (bF (!byT w))).get? s.heap.objs.size=some (bF (!byT w)):=j5 _ rfl;have O:Shared.TypeIs { s with heap:=s.heap.push (bF (!byT w)) } (.ref s.heap.objs.size) "set":=⟨_,B,rfl⟩;have f:(s.heap.push (bF (!byT w))).get? l=some { cls:=.type "list",dict:=J,data:=.seq its z,slots:=u }:=d8 _ j;have N:=F.sub_list_set;have W:=F.sub_list_frozenset;have Q:(Value.type "list" == Value.type "dict")=false:=by decide
 have d:(s.heap.push (bF (!byT w))).IsList l its:=⟨_,f,rfl,z,rfl⟩;have c:l<s.heap.objs.size:=m9 j;unfold Builtin.«set.__init__» noKeywords Builtin.Frozenset.updateFrom;generalize y:pyIter=PI;wp_walk;subst y;refine bCD d ?_;refine c7 (wpAny_runValue ?_);have p:(s.heap.push (bF (!byT w))).objs.size=s.heap.objs.size+1:=bAX ..;have x:l≠(s.heap.push (bF (!byT w))).objs.size:=by rw[p];exact v5 (bBF c)
 have r:s.heap.objs.size∉[(s.heap.push (bF (!byT w))).objs.size,l]:=by rw[p];simp only[bAC,w6,or_false,not_or];exact⟨v5 (bCM _),bCU c⟩
 have C:∀b,s.heap.objs.size<=b->s.heap.get? b=none:=λb a=>by
  cases e:s.heap.get? b with
  |none=>rfl
  |some o=>exact absurd (m9 e) (Nat.not_lt.mpr a)
 refine aRl (Walks.list (by first|exact L|simp[L]) _ l x its) r Z U (λb a=>?_) ks G D a its.size 0 _ [] (by lia) ⟨⟨_,j5 _ rfl,rfl,rfl⟩,d.push _⟩ (λb o e=>d8 _ (d8 _ e)) ?_ ⟨List.nodup_nil,λk=>by simp,bAG _⟩ λh' tk kl H t I=>?_
 ·rw[p] at a;simp only[bAC,w6,or_false] at a;rcases a with rfl|rfl
  ·exact C _ (j0 _)
  ·exact C _ (bDU _)
 ·have K:((s.heap.push (bF (!byT w))).push { cls:=.type "list_iterator",data:=.fields #[.ref l,.int 0 0] }).get? s.heap.objs.size=some (bF (!byT w)):=d8 _ B;exact Z.new K
 ·refine d9 (d9 (q h' tk kl t I λb o n e=>H b o ?_ (d8 _ (d8 _ e))));rw[p];simp only[bAC,w6,or_false,not_or];exact⟨v5 n,v5 (bBF n)⟩
def aFg {l:Addr}{its:Array Value}{ks:List κ}{Q:bFI}(y:A.handled=none)(Z:Kset prog w κ A s.heap s.heap.objs.size S V m)(G:s.heap.IsList l its)(p:ks.length=its.size)
  (t:∀(i:Nat) (v:Value),its[i]?=some v->∃k,ks[i]?=some k/\V k v) (K:its.size<=m)
  (q:∀h' tk kl,S h' kl->Ded kl ks->(∀b o,b<s.heap.objs.size->s.heap.get? b=some o->h'.get? b=some o)->Q (.ref s.heap.objs.size) { s with heap:=h',toks:=tk }) :
  wpAny (model prog w) A (call (.type "set") [.ref l]) Q E s:=by
 have d:=F.called_set;obtain⟨c,C,j⟩:=d.mro;have H:=d.made;have J:=d.sub;have M:=d.notType;have I:=d.canCreate;have N:=F.typeCall_set_1 (.ref l);refine bET (codeAny_of_tree (show wpAny _ _ (callAny (.type "set") _) _ _ _ from d9 ⟨Code.quiet_builtin _ (by decide +kernel),bBD F.entry_type_call ?_⟩));rw[Around.under_plain (weight_type_call_type "set" [.ref l] []) (by rfl)]
 repeat (any_goals (first|assumption|wp_step))
 refine bCP (aH9 (.ref l) (Q₁:=λobj n=>obj=.ref s.heap.objs.size/\n={ s with heap:=s.heap.push (bF (!byT w)) }) (E:=E) ⟨rfl,rfl⟩) λr n f=>?_;rcases r with e|fl
 ·exact f
 rcases fl with _|_|_|obj
 ·exact f.elim
 ·exact f.elim
 ·exact f.elim
 obtain⟨rfl,rfl⟩:=f;have z:Shared.TypeIs { s with heap:=s.heap.push (bF (!byT w)) } (.ref s.heap.objs.size) "set":=⟨_,j5 _ rfl,rfl⟩;have L:=d.init.lookup;have D:=d.init.bind (.ref s.heap.objs.size)
 repeat (any_goals (first|assumption|wp_step))
 refine bCP (bDV (R:=wants (λr u=>r=.none/\∃h' tk kl,u={ s with heap:=h',toks:=tk }/\S h' kl/\Ded kl ks/\∀b o,b<s.heap.objs.size->s.heap.get? b=some o->h'.get? b=some o) E)
  d.init.plain F.entry_set_init (check_set_init_1 z (aQ6 (by first|exact y|simp[y]) Z (by simp only[Around.in1_units];lia) G p t K λh' tk kl x h g=>⟨rfl,h',tk,kl,rfl,x,h,g⟩))) λB u a=>?_
 rcases B with e|fl
 ·exact a
 rcases fl with _|_|_|v
 ·exact a.elim
 ·exact a.elim
 ·exact a.elim
 obtain⟨rfl,h',tk,kl,rfl,x,h,g⟩:=a
 repeat (any_goals (first|assumption|wp_step))
 exact q h' tk kl x h g
def aZw (A:Around)(h0:Heap)(D:Addr):Kset prog w κ A h0 D (λh kl=>vG knd h D kl) (λk v=>knd.is k v=true/\v.scannable=true) 4:=⟨λx e=>x.at e,λ_ _ c j f q=>by unfold setAdd;exact bAS (c7 (knd.pyHash c.1 (aS7 c.1 c.2 j f λg d l b a i=>q g _ d l b a i))),aTh⟩
def aQd {l:Addr}{its:Array Value}{ks:List κ}{Q:bFI}(d:A.handled=none)(e:s.heap.IsList l its)(a:ks.length=its.size)
  (c:∀(i:Nat) (v:Value),its[i]?=some v->∃k,ks[i]?=some k/\knd.is k v=true/\v.scannable=true) (f:its.size<=4)
  (q:∀h' tk kl,vG knd h' s.heap.objs.size kl->Ded kl ks->(∀b o,b<s.heap.objs.size->s.heap.get? b=some o->h'.get? b=some o)->Q (.ref s.heap.objs.size) { s with heap:=h',toks:=tk }) :
  wpAny (model prog w) A (call (.type "set") [.ref l]) Q E s:=aFg d (aZw A s.heap s.heap.objs.size) e a c f q
end
end PySem
namespace PySem
section
variable {prog:Program}{w:World}{A:Around}{E:bFI}{s:Shared}
theorem vC {α:Type}:∀(l:List α) (i:Nat) (h:i<l.length),(l[i]::l.eraseIdx i).Perm l
 |x::l,0,_=>.refl _
 |x::l,i+1,h=>by have a:=vC l i (Nat.lt_of_succ_lt_succ h);exact (List.Perm.swap x _ (l.eraseIdx i)).trans (a.cons x)
def aFy {src:Source}{n:Nat}{Q:Nat->Shared->Prop}(a:n≠0)(h:∀i dr,i<n->Q i { s with drawn:=dr }):wpAny (model prog w) A (choose src n) Q E s:=
 λ_ _ _=>⟨a,h _ _ (Nat.mod_lt _ (Nat.pos_of_ne_zero a))⟩
theorem qQ {α:Type}:∀(n:Nat) (xs:List α) (s:Shared) (Q:List α->Shared->Prop),xs.length=n->(∀ys dr,ys.Perm xs->Q ys { s with drawn:=dr })->wpAny (model prog w) A (drawOrder n xs) Q E s
 |0,xs,s,Q,hl,h=>by have e:xs=[]:=bCR hl;subst e;unfold drawOrder;exact d9 (h [] s.drawn (.refl _))
 |n+1,xs,s,Q,hl,h=>by
  cases xs with
  |nil=>cases hl
  |cons x xs=>unfold drawOrder;refine c7 (aFy (by rw[hl];lia) λi dr b=>?_);rw[d7 b];dsimp only;refine c7 (qQ n _ _ _ (by rw[bE8 b,hl];rfl) λys a p=>d9 ?_);refine h _ a ?_;have e:=vC _ _ b;exact (p.cons _).trans e
theorem aO2 {α:Type}(b:Nat->Nat):∀(fuel k:Nat) (left:List α) (out:Array α),left.length=fuel->(pickOrder.go b fuel k left out).toList.Perm (out.toList++left)
 |0,k,left,out,h=>by have e:left=[]:=bCR h;subst e;unfold pickOrder.go;rw[bCJ]
 |fuel+1,k,left,out,h=>by have a:b k % left.length<left.length:=Nat.mod_lt _ (by lia);unfold pickOrder.go;rw[d7 a];dsimp only;refine (aO2 b fuel (k+1) _ _ (by rw[bE8 a,h];rfl)).trans ?_;rw[bFE,bDA];exact List.Perm.append_left _ (vC _ _ a)
def zM {α:Type}(a:Nat->Nat)(xs:Array α):(pickOrder a xs).toList.Perm xs.toList:=by unfold pickOrder;exact aO2 a xs.size 0 xs.toList #[] (by rw[t8])
end
def bW:Slot "set_iterator" "__next__" "set_iterator.__next__":=.of (owner:="set_iterator") (n:="__next__") (by rw[typeLookup_type,builtinLookup_eq_fast];kernel_rfl) (by decide +kernel) (by decide +kernel) (by decide +kernel) (by first|exact .inl (by decide +kernel)|exact .inr (by decide +kernel)) (by rw[isSubtype_type];kernel_rfl)
def rO:Slot "set_iterator" "__iter__" "set_iterator.__iter__":=.of (owner:="set_iterator") (n:="__iter__") (by rw[typeLookup_type,builtinLookup_eq_fast];kernel_rfl) (by decide +kernel) (by decide +kernel) (by decide +kernel) (by first|exact .inl (by decide +kernel)|exact .inr (by decide +kernel)) (by rw[isSubtype_type];kernel_rfl)
def gY:entryFor table "set_iterator.__next__"=some Builtin.«set_iterator.__next__»:=entryFor_of_tree (by kernel_rfl)
def aAk:entryFor table "set_iterator.__iter__"=some Builtin.«dict_keyiterator.__iter__»:=entryFor_alias (id':="dict_keyiterator.__iter__") (by kernel_rfl) rfl (by decide +kernel) (by kernel_rfl)
def aBr:entryFor table "set.__iter__"=some Builtin.«frozenset.__iter__»:=entryFor_alias (id':="frozenset.__iter__") (by kernel_rfl) rfl (by decide +kernel) (by kernel_rfl)
def aCc:Manifest.owners.lookup (String.ofList ['r','o','t','a','r','e','t','i','_','t','e','s'].reverse)=some Manifest.sig_set_iterator:=by kernel_rfl
def jB (a:Value):argsOk "set_iterator.__next__" ⟨[a],[]⟩:=by unfold argsOk;rw[signature?_of (id:="set_iterator.__next__") (n:=['_','_','t','x','e','n','_','_']) (o:=['r','o','t','a','r','e','t','i','_','t','e','s']) (by kernel_rfl) aCc];kernel_rfl
def aC4 (a:Value):argsOk "set_iterator.__iter__" ⟨[a],[]⟩:=by unfold argsOk;rw[signature?_of (id:="set_iterator.__iter__") (n:=['_','_','r','e','t','i','_','_']) (o:=['r','o','t','a','r','e','t','i','_','t','e','s']) (by kernel_rfl) aCc];kernel_rfl
section
variable {prog:Program}{w:World}{A:Around}{E:bFI}{s:Shared}
def fK (h:Heap)(I:Addr)(first:Value)(i:Nat)(D:Addr)(n ep:Nat):Prop:=h.get? I=some { cls:=.type "set_iterator",data:=.fields #[first,.int i 0,.ref D,.int n 0,.int ep 0] }
def uZ (h:Heap)(D:Addr)(es:Array (Int × Value))(ep:Nat)(t:SetTable):Prop:=∃o,h.get? D=some o/\o.ExactSet/\o.data=.set es ep t/\t.fits es.size=true
def aGa (prog:Program)(w:World)(D:Addr)(es:Array (Int × Value))(ep:Nat)(t:SetTable)(slot i:Nat)(r:Option (Value × Nat)):Prop:=
 ∀(A:Around) (E:bFI) (s:Shared) (Q:Option (Value × Nat)->Shared->Prop),uZ s.heap D es ep t->Q r s->wpAny (model prog w) A (setNext D slot i ep) Q E s
def aFp {I D:Addr}{es:Array (Int × Value)}{ep slot i a:Nat}{t:SetTable}{x:Value}{Q:Option Value->Shared->Prop}(d:fK s.heap I (.int slot 0) i D es.size ep)(m:uZ s.heap D es ep t)(hne:D≠I)
  (nx:aGa prog w D es ep t slot i (some (x,a)))
  (q:∀h',fK h' I (.int a 0) (i+1) D es.size ep->(∀b o,b≠I->s.heap.get? b=some o->h'.get? b=some o)->Q (some x) { s with heap:=h' }):wpAny (model prog w) A (pyNext (.ref I)) Q E s:=by
 have g:s.TypeIs (.ref I) "set_iterator":=⟨_,d,rfl⟩;obtain⟨o,r,j,hd,l⟩:=id m;unfold pyNext;refine c7 (bCB (bAH (name:="__next__") g bW (bAE bW g gY (c7 (d9 (c7 (bDW d rfl ?_)))) (jB _))));show wpAny _ _ (setEntries D >>= _) _ _ s;refine c7 (bDH r hd l ?_);dsimp only;rw[if_neg (by simp)];simp only[bAR];refine c7 (nx _ _ _ _ m ?_);dsimp only;refine c7 (bAI d (by simp) λp k u=>?_);have h:fK p I (.int a 0) i D es.size ep:=by simpa [rawInt,fK] using k
 refine c7 (bAI h (by simp) λc n y=>?_);have v:fK c I (.int a 0) (i+1) D es.size ep:=by
  have z:((i+1:Nat):Int)=(i:Int)+1:=by lia
  unfold fK;rw[z];simpa [rawInt] using n
 exact d9 ⟨_,rfl,d9 (q c v λb o f e=>y.extBut b o f (u.extBut b o f e))⟩
def aFo {I D:Addr}{es:Array (Int × Value)}{ep slot i:Nat}{t:SetTable}{Q:Option Value->Shared->Prop}(j:A.handled=none)(c:fK s.heap I (.int slot 0) i D es.size ep)(h:uZ s.heap D es ep t)
  (nx:aGa prog w D es ep t slot i none) (q:∀h',(∀b o,b≠I->s.heap.get? b=some o->h'.get? b=some o)->Q none { s with heap:=h' }):wpAny (model prog w) A (pyNext (.ref I)) Q E s:=by
 have d:s.TypeIs (.ref I) "set_iterator":=⟨_,c,rfl⟩;obtain⟨o,e,f,hd,g⟩:=id h;unfold pyNext;refine c7 (bCB (bAH (name:="__next__") d bW (bAE bW d gY (c7 (d9 (c7 (bDW c rfl ?_)))) (jB _))));show wpAny _ _ (setEntries D >>= _) _ _ s;refine c7 (bDH e hd g ?_);dsimp only;rw[if_neg (by simp)];simp only[bAR];refine c7 (nx _ _ _ _ h ?_);dsimp only;refine c7 (bDI c rfl (by simp) ?_);refine c7 ?_;simp only[newExc,newTuple,raiseNew];refine c7 (bAK ?_ (by size_fits));refine c7 (m:=firstArgMember _ _) (bEC (a:=Value.none) (by simp only[firstArgMember];rfl) ?_);refine bAK (c7 (bEX ?_)) (by size_fits);rw[show A.in1.handled=none from j];refine c7 (d9 (bFB ?_));refine c7 (bCX (T:="StopIteration") (b:=true) ⟨_,j5 _ rfl,rfl⟩ isSubtype_stop ?_);exact d9 (q _ (((bAY ..).extBut.push _).push _))
def aM3 {I D T:Addr}{es:Array (Int × Value)}{ep i j:Nat}{t:SetTable}{pl:Array Value}{e:Int × Value}{Q:Option Value->Shared->Prop}(c:fK s.heap I (.ref T) i D es.size ep)(r:uZ s.heap D es ep t)(u:s.heap.get? T=some { cls:=.type "tuple",data:=.seq pl })
  (p:pl[i]?=some (.int j 0)) (v:es[j]?=some e)
  (q:∀h',fK h' I (.ref T) (i+1) D es.size ep->(∀b o,b≠I->s.heap.get? b=some o->h'.get? b=some o)->Q (some e.2) { s with heap:=h' }):wpAny (model prog w) A (pyNext (.ref I)) Q E s:=by
 have g:s.TypeIs (.ref I) "set_iterator":=⟨_,c,rfl⟩;obtain⟨o,f,h,hd,d⟩:=id r;unfold pyNext;refine c7 (bCB (bAH (name:="__next__") g bW (bAE bW g gY (c7 (d9 (c7 (bDW c rfl ?_)))) (jB _))));show wpAny _ _ (setEntries D >>= _) _ _ s;refine c7 (bDH f hd d ?_);dsimp only;rw[if_neg (by simp)];simp only[bAR];refine c7 (bAU u rfl ?_);dsimp only;rw[p];dsimp only;unfold setNextDrawn;refine c7 (c7 (bBL f hd d ?_));dsimp only;rw[if_neg (by simp)];refine c7 (d9 ?_);simp only[bAR,v];refine d9 (c7 (bAI c (by simp) λa k n=>?_));have m:fK a I (.ref T) (i+1) D es.size ep:=by
  have z:((i+1:Nat):Int)=(i:Int)+1:=by lia
  unfold fK;rw[z];simpa [rawInt] using k
 exact d9 ⟨_,rfl,d9 (q a m λb o l e=>n.extBut b o l e)⟩
def aMq {I D T:Addr}{es:Array (Int × Value)}{ep i:Nat}{t:SetTable}{pl:Array Value}{Q:Option Value->Shared->Prop}(r:A.handled=none)(c:fK s.heap I (.ref T) i D es.size ep)(u:uZ s.heap D es ep t)(v:s.heap.get? T=some { cls:=.type "tuple",data:=.seq pl })
  (n:pl[i]?=none) (q:∀h',(∀b o,b≠I->s.heap.get? b=some o->h'.get? b=some o)->Q none { s with heap:=h' }):wpAny (model prog w) A (pyNext (.ref I)) Q E s:=by
 have f:s.TypeIs (.ref I) "set_iterator":=⟨_,c,rfl⟩;obtain⟨o,k,g,hd,h⟩:=id u;unfold pyNext;refine c7 (bCB (bAH (name:="__next__") f bW (bAE bW f gY (c7 (d9 (c7 (bDW c rfl ?_)))) (jB _))));show wpAny _ _ (setEntries D >>= _) _ _ s;refine c7 (bDH k hd h ?_);dsimp only;rw[if_neg (by simp)];simp only[bAR];refine c7 (bAU v rfl ?_);dsimp only;rw[n];dsimp only;refine c7 (bAI c (by simp) λp j l=>?_);refine c7 (bDI j rfl (by simp) ?_);refine c7 ?_;simp only[newExc,newTuple,raiseNew];refine c7 (bAK ?_ (by size_fits));refine c7 (m:=firstArgMember _ _) (bEC (a:=Value.none) (by simp only[firstArgMember];rfl) ?_);refine bAK (c7 (bEX ?_)) (by size_fits);rw[show A.in1.handled=none from r];refine c7 (d9 (bFB ?_));refine c7 (bCX (T:="StopIteration") (b:=true) ⟨_,j5 _ rfl,rfl⟩ isSubtype_stop ?_);refine d9 (q _ λb o d e=>((((bAY ..).extBut.push _).push _)) b o d (l.extBut b o d e))
def aE2 {D:Addr}{es:Array (Int × Value)}{ep slot i:Nat}{t:SetTable}(g:byT w=true):aGa prog w D es ep t slot i (((pickOrder (w.params.setOrder D ep) es)[i]?).map λe=>(e.2,slot)):=by intro A E s Q f q;obtain⟨o,b,d,hd,c⟩:=f;have a:(⟨(model prog w).prog,(model prog w).w.params⟩:Setting).params.followText "set-order"=true:=g;unfold setNext setsByText setWalk;refine c7 (bBL b hd c ?_);dsimp only;refine c7 (c7 (bDK (d9 ?_)));rw[if_pos a,if_neg (by simp)];refine c7 (c7 (bBL b hd c ?_));dsimp only;unfold setsByText;refine c7 (c7 (bDK (d9 ?_)));rw[if_pos a];exact c7 (bDK (d9 (d9 q)))
def aBi {D:Addr}{es:Array (Int × Value)}{ep slot i:Nat}{t:SetTable}(g:byT w=false)(l:t.led=true)(k:t.plain=true\/es.size<=1) :
  aGa prog w D es ep t slot i (match es[SetTable.below t.place slot]?,t.place[SetTable.below t.place slot]? with|some (_,x),some j=>some (x,j+1)|_,_=>none):=by
 intro A E s Q f q;obtain⟨o,c,d,hd,e⟩:=f;have a:(⟨(model prog w).prog,(model prog w).w.params⟩:Setting).params.followText "set-order"=false:=g;unfold setNext setsByText;refine c7 (bBL c hd e ?_);dsimp only;refine c7 (c7 (bDK (d9 ?_)));rw[if_neg (by rw[a];exact v4)]
 split
 ·rename_i b;have z:(!t.plain && decide (es.size > 1))=true:=b;rw[bAT,decide_eq_true_eq] at z;rcases k with h|h
  ·rw[h] at z;cases z.1
  ·lia
 ·refine c7 (show wpAny _ _ (if (!t.led && !es.isEmpty)=true then unsupported "set:maker-not-led" else pure ()) _ _ _ from ?_);rw[if_neg (by rw[l];exact v4)];exact d9 (d9 q)
def yM {I D:Addr}{first:Value}{n ep i:Nat}{Q:bFI}(b:fK s.heap I first i D n ep)(h:Q (.ref I) s):wpAny (model prog w) A (pyIter (.ref I)) Q E s:=by have a:s.TypeIs (.ref I) "set_iterator":=⟨_,b,rfl⟩;refine bEO a rO (bAE rO a aAk ?_ (aC4 _));show wpAny _ _ (ret (.ref I)) _ _ s;exact d9 ⟨_,rfl,"set_iterator",_,a,bW.lookup,h⟩
def uZ.at {h h':Heap}{D:Addr}{es:Array (Int × Value)}{ep:Nat}{t:SetTable}(x:uZ h D es ep t)(e:∀o,h.get? D=some o->h'.get? D=some o):uZ h' D es ep t:=by obtain⟨o,a,r⟩:=x;exact⟨o,e o a,r⟩
def aNi {I D:Addr}{es:Array (Int × Value)}{ep:Nat}{t:SetTable}(c:byT w=true)(q:A.handled=none)(l:D≠I) :
  Walks prog w A I [I,D] [I] es.size (λi v=>((pickOrder (w.params.setOrder D ep) es).toList.map (·.2))[i]?=some v) (λi h=>fK h I (.int (0:Nat) 0) i D es.size ep/\uZ h D es ep t) where
 sub:=λb c=>by simp at c;simp[c]
 frame:=λ_ _ _ a m=>⟨m I (by simp) _ a.1,a.2.at λo e=>m D (by simp) o e⟩
 item:=λi s Q E r a f=>by
  have p:(pickOrder (w.params.setOrder D ep) es).size=es.size:=by rw[<-t8,(zM _ es).length_eq,t8]
  have d:i<(pickOrder (w.params.setOrder D ep) es).size:=by lia
  have g:=aE2 (prog:=prog) (D:=D) (es:=es) (ep:=ep) (slot:=0) (i:=i) (t:=t) c;rw[m8 d] at g;refine aFp a.1 a.2 l g λk n j=>?_;exact f _ k s.toks (by rw[v6,bBQ,m8 d];rfl) ⟨n,a.2.at λo e=>j D o l e⟩ λb o c e=>j b o (λz=>c (by simp[z])) e
 done:=λs Q E a f=>by
  have p:(pickOrder (w.params.setOrder D ep) es).size=es.size:=by rw[<-t8,(zM _ es).length_eq,t8]
  have g:=aE2 (prog:=prog) (D:=D) (es:=es) (ep:=ep) (slot:=0) (i:=es.size) (t:=t) c;rw[bCG (by lia)] at g;exact aFo q a.1 a.2 g λk j=>f k s.toks λb o c e=>j b o (λz=>c (by simp[z])) e
 self:=λ_ _ _ _ a f=>yM a.1 f
def aKz {I D:Addr}{es:Array (Int × Value)}{ep:Nat}{t:SetTable}(a:byT w=false)(G:t.led=true)(F:t.plain=true\/es.size<=1)(u:Ris t.place)(hsz:t.place.size=es.size)(K:A.handled=none)(q:D≠I) :
  Walks prog w A I [I,D] [I] es.size (λi v=>(es.toList.map (·.2))[i]?=some v) (λi h=>∃slot,fK h I (.int (slot:Nat) 0) i D es.size ep/\uZ h D es ep t/\SetTable.below t.place slot=i) where
 sub:=λb a=>by simp at a;simp[a]
 frame:=λ_ _ _ ⟨k,d,f,l⟩ m=>⟨k,m I (by simp) _ d,f.at λo e=>m D (by simp) o e,l⟩
 item:=λi s Q E r ⟨k,d,f,l⟩ g=>by
  have j:=aBi (prog:=prog) (D:=D) (es:=es) (ep:=ep) (slot:=k) (i:=i) (t:=t) a G F;have c:i<t.place.size:=by lia
  rw[l,m8 r,m8 c] at j;refine aFp d f q j λp x n=>?_;refine g _ p s.toks (by rw[v6,bBQ,m8 r];rfl) ⟨_,x,f.at λo e=>n D o q e,?_⟩ λb o a e=>n b o (λz=>a (by simp[z])) e;obtain⟨H,y,B⟩:=oY u (t.place[i]+1);have C:i<SetTable.below t.place (t.place[i]+1):=Nat.lt_of_not_le λz=>by have:=B i c z;lia
  rcases bE5 (Nat.succ_le_of_lt C) with h2|h2
  ·exfalso;have m:i+1<t.place.size:=by lia
   have J:=y (i+1) m h2;have L:=u i (i+1) c m (bCM _);lia
  ·exact h2.symm
 done:=λs Q E ⟨k,d,f,l⟩ g=>by have j:=aBi (prog:=prog) (D:=D) (es:=es) (ep:=ep) (slot:=k) (i:=es.size) (t:=t) a G F;rw[l,bCG (j0 _)] at j;exact aFo K d f j λp n=>g p s.toks λb o a e=>n b o (λz=>a (by simp[z])) e
 self:=λ_ _ _ _ ⟨_,d,_⟩ g=>yM d g
def aIb {I D T:Addr}{es:Array (Int × Value)}{ep:Nat}{t:SetTable}{ys:List Nat}(p:ys.Perm (List.range es.size))(x:A.handled=none)(u:D≠I)(r:T≠I) :
  Walks prog w A I [I,D,T] [I] es.size (λi v=>((ys.map λj=>es.getD j (0,.none)).map (·.2))[i]?=some v) (λi h=>fK h I (.ref T) i D es.size ep/\uZ h D es ep t/\h.get? T=some { cls:=.type "tuple",data:=.seq (ys.map λj=>rawInt (j:Nat)).toArray }) where
 sub:=λb d=>by simp at d;simp[d]
 frame:=λ_ _ _ a m=>⟨m I (by simp) _ a.1,a.2.1.at λo e=>m D (by simp) o e,m T (by simp) _ a.2.2⟩
 item:=λi s Q E y a g=>by
  have l:ys.length=es.size:=by rw[p.length_eq,bAL]
  have c:i<ys.length:=by lia
  have n:ys[i]<es.size:=List.mem_range.mp (p.mem_iff.mp (bAV c));refine aM3 (j:=ys[i]) a.1 a.2.1 a.2.2 (by rw[bDS,v6,d7 c];rfl) (m8 n) λk q f=>?_;refine g _ k s.toks ?_ ⟨q,a.2.1.at λo e=>f D o u e,f T _ r a.2.2⟩ λb o d e=>f b o (λz=>d (by simp[z])) e;rw[v6,v6,d7 c];show some (es.getD ys[i] (0,.none)).2=some es[ys[i]].2;rw[v7,m8 n];rfl
 done:=λs Q E a g=>by
  have l:ys.length=es.size:=by rw[p.length_eq,bAL]
  exact aMq x a.1 a.2.1 a.2.2 (by rw[bDS,v6,bAD (by lia)];rfl) λk f=>g k s.toks λb o d e=>f b o (λz=>d (by simp[z])) e
 self:=λ_ _ _ _ a g=>yM a.1 g
def aUx {D:Addr}{es:Array (Int × Value)}{ep:Nat}{t:SetTable}{Q:bFI}(H:A.handled=none)(N:uZ s.heap D es ep t)(x:TabOk (byT w) t)(V:es.size<=1000)
  (h:∀I fp (order:List (Int × Value)) St h1 dr,(∀b o,s.heap.get? b=some o->h1.get? b=some o)->Walks prog w A I fp [I] es.size (λi v=>(order.map (·.2))[i]?=some v) St->St 0 h1->(∀b∈fp,b=D\/s.heap.objs.size<=b)->s.heap.objs.size<=I->order.Perm es.toList ->
   Q (.ref I) { s with heap:=h1,drawn:=dr }):wpAny (model prog w) A (pyIter (.ref D)) Q E s:=by
 obtain⟨o,g,l,hd,d⟩:=id N;have L:s.TypeIs (.ref D) "set":=⟨o,g,l.1⟩;refine bEO L F.slot_set_iter (bAE F.slot_set_iter L aBr ?_ (F.args_set_iter_1 _));unfold Builtin.«frozenset.__iter__» Builtin.Frozenset.slot0 slotArgs;simp only[List.isEmpty_nil,Bool.not_true,bBB,↓reduceIte,bind_assoc,bCT,bne_self_eq_false];unfold Builtin.Frozenset.addrOf Builtin.Frozenset.sizeOf setDrawn setsByText;refine c7 (d9 ?_)
 try dsimp only
 refine c7 (d9 ?_);refine c7 (c7 (bDH g hd d (d9 ?_)));refine c7 (c7 (bBL g hd d ?_));dsimp only;refine c7 (c7 (bDK (d9 (d9 ?_))));have f:D<s.heap.objs.size:=m9 g;have T:((0:Nat):Int)=0:=rfl
 split
 ·rename_i J;refine c7 (qQ _ _ _ _ (bAL ..) λC dr u=>?_);refine c7 (bEI ?_ (by rw[j9,u.length_eq,bAL];exact bAM V (by decide)));have m:({ s with drawn:=dr,heap:=s.heap.push { cls:=.type "tuple",data:=.seq (C.map λi=>rawInt (i:Nat)).toArray } }:Shared).heap.get? D=some o:=d8 _ g;refine c7 (wpAny_setEpoch_of m hd d ?_);refine c7 ?_;unfold newFields;refine bAK (d9 ⟨_,rfl,"set_iterator",_,⟨_,j5 _ rfl,rfl⟩,bW.lookup,?_⟩);have p:(s.heap.push { cls:=.type "tuple",data:=.seq (C.map λi=>rawInt (i:Nat)).toArray }).objs.size=s.heap.objs.size+1:=bAX ..;refine h _ [_,D,s.heap.objs.size] (C.map λj=>es.getD j (0,.none)) _ _ dr (λb o e=>d8 _ (d8 _ e)) (aIb (t:=t) (ep:=ep) u H ?_ ?_) ⟨?_,?_,?_⟩ (λb c=>?_) ?_ ?_
  ·show D≠Array.size _;rw[p];exact v5 (bBF f)
  ·show s.heap.objs.size≠Array.size _;rw[p];exact v5 (bCM _)
  ·exact j5 _ rfl
  ·exact⟨o,d8 _ m,l,hd,d⟩
  ·exact d8 _ (j5 _ rfl)
  ·simp only[bAC,w6,or_false] at c;rcases c with rfl|rfl|rfl
   ·right;rw[p];exact bDU _
   ·left;rfl
   ·right;exact j0 _
  ·rw[p];exact bDU _
  ·have e:(List.range es.size).map (λj=>es.getD j (0,.none))=es.toList:=by
    refine bCE λj=>?_;rw[v6,show es.toList[j]?=es[j]? from bBQ];by_cases q:j<es.size
    ·rw[bCI q,m8 q];show some (es.getD j (0,.none))=_;rw[v7,m8 q];rfl
    ·rw[bAD (by rw[bAL];lia),bCG (by lia)];rfl
   exact (u.map _).trans (by rw[e])
 ·rename_i J;refine c7 (d9 (c7 (wpAny_setEpoch_of g hd d (c7 ?_))));unfold newFields;refine bAK (d9 ⟨_,rfl,"set_iterator",_,⟨_,j5 _ rfl,rfl⟩,bW.lookup,?_⟩);have G:fK (s.heap.push { cls:=.type "set_iterator",data:=.fields [rawInt 0,rawInt 0,Value.ref D,rawInt (es.size:Nat),rawInt (ep:Nat)].toArray }) s.heap.objs.size (.int (0:Nat) 0) 0 D es.size ep:=j5 _ rfl;have n:uZ (s.heap.push { cls:=.type "set_iterator",data:=.fields [rawInt 0,rawInt 0,Value.ref D,rawInt (es.size:Nat),rawInt (ep:Nat)].toArray }) D es ep t:=N.at λo e=>d8 _ e;have k:∀b∈[s.heap.objs.size,D],b=D\/s.heap.objs.size<=b:=λb c=>by
   simp only[bAC,w6,or_false] at c;rcases c with rfl|rfl
   ·right;exact j0 _
   ·left;rfl
  cases c:byT w with
  |true=>exact h _ [s.heap.objs.size,D] _ _ _ s.drawn (λb o e=>d8 _ e) (aNi (t:=t) (ep:=ep) c H (v5 f)) ⟨G,n⟩ k (j0 _) (zM _ es)
  |false=>
   have S:t.led=true:=x.1 c;have B:t.place.size=es.size:=by unfold SetTable.fits at d;rw[bAT,beq_iff_eq] at d;exact d.1
   have K:t.plain=true\/es.size<=1:=by
    have z:¬ (!byT w && (!t.plain && decide (es.size > 1)))=true:=J;rw[c] at z;cases r:t.plain with
    |true=>exact .inl rfl
    |false=>rw[r] at z;right;simpa using z
   have y:Ris t.place:=by
    rcases K with z|z
    ·exact x.2.2.2 z
    ·intro a b U R O;lia
   refine h _ [s.heap.objs.size,D] es.toList _ _ s.drawn (λb o e=>d8 _ e) (aKz (t:=t) (ep:=ep) c S K y B H (v5 f)) ⟨0,G,n,?_⟩ k (j0 _) (.refl _);obtain⟨_,M,_⟩:=oY y 0;rcases Nat.eq_zero_or_pos (SetTable.below t.place 0) with z|z
   ·exact z
   ·by_cases P:0<t.place.size
    ·exact absurd (M 0 P z) (bCZ _)
    ·have:=(oY y 0).1;lia
def aUy {D:Addr}{Q:Bool->Shared->Prop}(d:s.TypeIs (.ref D) "set")(h:Q false s):wpAny (model prog w) A (Builtin.List.listLengthHint (.ref D)) Q E s:=by unfold Builtin.List.listLengthHint;refine c7 (wpAny_specialOf d F.slot_set_len.lookup ?_);generalize c:("set.__len__":String)=id0;wp_delta;rw[show splitId id0=some ("set","__len__") from by subst c;decide +kernel];subst c;refine c7 (bCX (T:="set") (b:=true) d sub_set_self (wpAny_ite_split (λa=>absurd a (by decide)) (λ_=>wpAny_ite_split (λ_=>?_) (λa=>absurd (by decide +kernel) a))));exact c7 (bEG d (d9 h))
def aL2 {D:Addr}{es:Array (Int × Value)}{ep:Nat}{t:SetTable}{R:Result->Shared->Prop}(hh:A.handled=none)(Q:uZ s.heap D es ep t)(Y:TabOk (byT w) t)(V:es.size<=1000)(S:Addr)(E:S≠D)(res:Value)(O:s.heap.get? S=some { cls:=.type "list",data:=.seq #[] })
  (hR:∀h' tk dr acc c (order:List (Int × Value)),(∀b o,b≠S->s.heap.get? b=some o->h'.get? b=some o)->h'.get? S=some { cls:=.type "list",dict:=none,data:=.seq acc c,slots:=#[] }->order.Perm es.toList->acc.toList=order.map (·.2)->R (.ok (.ret res)) { s with heap:=h',toks:=tk,drawn:=dr }) :
  wpAny (model prog w) A.in1 (Builtin.List.listExtendWith (.ref S) (.ref D) res) (λfin s'=>match fin with|.done f=>R (.ok f) s'|.again c'=>c'.quiet=true/\codeAny (model prog w) A c' R s') (λe s'=>R (.error e) s') s:=by
 obtain⟨o,M,n,hd,hf⟩:=id Q;have ty:s.TypeIs (.ref D) "set":=⟨o,M,n.1⟩;have v:=m9 O;unfold Builtin.List.listExtendWith;refine c7 (bEG (T:="set") ty ?_);have U:Builtin.List.listSameRef (.ref S) (.ref D)=false:=by simp[Builtin.List.listSameRef,E]
 simp only[U,show (Value.type "set" == Value.type "list")=false by decide,show (Value.type "set" == Value.type "tuple")=false by decide,Bool.or_false,bBB,if_false];refine c7 (aUx (A:=A.in1) hh Q Y V λI P order St q dr d W L C H a=>?_);have m:S∉P:=λz=>(C S z).elim E λz=>absurd v (Nat.not_lt.mpr z);have l:q.get? S=some { cls:=.type "list",data:=.seq #[] }:=d _ _ O;have r:∀(h:Heap) (x tk:Nat),St 0 h->(∀b o,b≠S->s.heap.get? b=some o->h.get? b=some o)->h.get? S=some { cls:=.type "list",data:=.seq #[] x } ->
   codeAny (model prog w) A (.builtin "list.extend.loop" ⟨[.ref S,.ref I,res],[]⟩) R { s with heap:=h,toks:=tk,drawn:=dr }:=λh x tk J Z G=>by
  refine codeAny_extend_loopS W.toS (bAM V (by decide)) S m res es.size 0 _ #[] x rfl (bAG _) J G (ItemsOf.nil _) λs' k c' N y i=>?_;rw[Moved.eq_with N];refine hR s'.heap s'.toks dr k c' order (λb o g e=>N.heap b o (λhmem=>?_) (Z b o g e)) y a ?_
  ·rcases List.mem_cons.mp hmem with e'|hmem
   ·exact g e'
   ·rw[List.mem_singleton.mp hmem] at e;exact absurd (m9 e) (Nat.not_lt.mpr H)
  ·have X:order.length=es.size:=by rw[a.length_eq,t8]
   refine bCE λj=>?_;rw[bBQ];by_cases K:j<k.size
   ·rw[m8 K];exact (i.2 j _ (m8 K)).symm
   ·rw[bCG (by lia),bAD (by rw[j9,X,<-i.1];lia)]
 refine c7 (bAS (aUy (s:={ s with heap:=q,drawn:=dr }) ⟨o,d _ _ M,n.1⟩ ?_));refine wpAny_ite_split (λ_=>?_) (λ_=>d9 ⟨bCQ F.plain_extend_loop _,r q _ _ L (λb o _ e=>d b o e) l⟩);refine c7 (bDD (c7 ?_));show wpAny _ _ (updateSeq S (·.push .none) >>= λ_=>updateSeq S (·.pop)) _ _ _;refine c7 (wpAny_updateSeq l rfl ?_);have u:=bBG (Obj.mapSeq (·.push Value.none)) l rfl;refine wpAny_updateSeq (hz:=by seq_fits) u rfl ?_;have B:=bBG (Obj.mapSeq (·.pop)) u rfl;have p:∀b o,b≠S->q.get? b=some o->((q.update S (Obj.mapSeq (·.push Value.none))).update S (Obj.mapSeq (·.pop))).get? b=some o:=λb o g e=>(bDM _ _ (Ne.symm g)).trans ((bDM _ _ (Ne.symm g)).trans e);exact d9 ⟨bCQ F.plain_extend_loop _,r _ _ _ (W.frame 0 _ _ L λb g o e=>p b o (λz=>m (z ▸ g)) e) (λb o g e=>p b o g (d b o e)) B⟩
end
end PySem
namespace PySem
open PySem.Calls PyProof.Rows
section
variable {prog:Program}{w:World}{κ:Type}[DecidableEq κ]{knd:PySem.KeyKind prog w κ}{A:Around}{E:bFI}{s:Shared}
def xX {D:Addr}{es:Array (Int × Value)}{ep:Nat}{t:SetTable}{R:List Value->Shared->Prop}(H:A.handled=none)(I:uZ s.heap D es ep t)(G:TabOk (byT w) t)(hsz:es.size<=1000)
  (h:∀h' tk dr (order:List (Int × Value)),(∀b o,s.heap.get? b=some o->h'.get? b=some o)->order.Perm es.toList->R (order.map (·.2)) { s with heap:=h',toks:=tk,drawn:=dr }):wpAny (model prog w) A (collect (.ref D)) R E s:=by
 obtain⟨o,v,n,hd,C⟩:=I;have m:=m9 v;unfold collect;refine c7 (wpAny_runValue (bBD entry_proto_collect' ?_));rw[bBA PySem.F.plain_proto_collect _];show wpAny _ A.in1 (newList [] >>= λl=>again (.builtin "list.__iadd__" ⟨[l,.ref D],[]⟩)) _ _ s;refine c7 (bAK (d9 ⟨bCQ PySem.F.plain_list_iadd _,bBD entry_list_iadd' ?_⟩));rw[bBA PySem.F.plain_list_iadd _];have r:(s.heap.push { cls:=.type "list",data:=.seq ([]:List Value).toArray }).get? s.heap.objs.size=some { cls:=.type "list",data:=.seq #[] }:=j5 _ rfl;show wpAny _ A.in1 (Builtin.List.listExtendWith (.ref s.heap.objs.size) (.ref D) (.ref s.heap.objs.size)) _ _ _;have p:=aL2 (prog:=prog) (w:=w) (A:=A) (s:={ s with heap:=s.heap.push { cls:=.type "list",data:=.seq ([]:List Value).toArray } })
  (R:=λ(q:Result) (u:Shared)=>∃(h':Heap) (tk:Nat) (dr:Drawn) (a:Array Value) (c:Nat) (order:List (Int × Value)),q=.ok (.ret (.ref s.heap.objs.size))/\u={ s with heap:=h',toks:=tk,drawn:=dr }/\(∀b o,s.heap.get? b=some o->h'.get? b=some o)/\h'.get? s.heap.objs.size=some { cls:=.type "list",dict:=none,data:=.seq a c,slots:=#[] }/\order.Perm es.toList/\a.toList=order.map (·.2))
  H ⟨o,d8 _ v,n,hd,C⟩ G hsz s.heap.objs.size (bCU m) (.ref s.heap.objs.size) r
  (λh' tk dr a c order j d g i=>⟨h',tk,dr,a,c,order,rfl,rfl,λb o e=>j b o (v5 (m9 e)) (d8 _ e),d,g,i⟩)
 have k:∀(h':Heap) (tk:Nat) (dr:Drawn) (a:Array Value) (c:Nat) (order:List (Int × Value)),(∀b o,s.heap.get? b=some o->h'.get? b=some o)->h'.get? s.heap.objs.size=some { cls:=.type "list",dict:=none,data:=.seq a c,slots:=#[] }->order.Perm es.toList->a.toList=order.map (·.2) ->
   wpAny (model prog w) A (load s.heap.objs.size >>= λo=>match o.data with|.seq xs _=>pure xs.toList|_=>unsupported "internal:collect") R E { s with heap:=h',toks:=tk,drawn:=dr }:=λh' tk dr a c order j d g i=>by
  refine c7 (wpAny_load d (d9 ?_));show R a.toList _;rw[i];exact h h' tk dr order j g
 refine bBN p (λB u x=>?_) λe u x=>?_
 ·cases B with
  |done f=>obtain⟨h',tk,dr,a,c,order,e,rfl,j,d,g,i⟩:=x;cases e;exact k h' tk dr a c order j d g i
  |again c₁=>refine⟨x.1,bCP x.2 λq J y=>?_⟩;obtain⟨h',tk,dr,a,c,order,rfl,rfl,j,d,g,i⟩:=y;exact k h' tk dr a c order j d g i
 ·obtain⟨_,_,_,_,_,_,z,_⟩:=x;cases z
theorem aJx {D:Addr}{kl:List κ}{R:List Value->Shared->Prop}(q:A.handled=none)(n:vG knd s.heap D kl)(x:kl.length<=1000)
  (h:∀h' tk dr acc kl',(∀b o,s.heap.get? b=some o->h'.get? b=some o)->kl'.Perm kl->Paired (λk v=>knd.is k v=true) kl' acc->R acc { s with heap:=h',toks:=tk,drawn:=dr }):wpAny (model prog w) A (collect (.ref D)) R E s:=by
 obtain⟨o,u,p,t,l,a,hd,j,e,g⟩:=n;refine xX q ⟨o,l,a,hd,j⟩ e (by rw[<-t8,<-Paired.length g];exact x) λh' tk dr c m i=>?_;obtain⟨kl',d,f⟩:=nH i g;refine h h' tk dr _ kl' m f ?_;clear i f
 induction d with
 |nil=>exact .nil
 |cons r _ ih=>exact .cons r.1 ih
end
end PySem
namespace L2
open PySem PySem.Spec PyProof.Rows PySem.Calls
section
variable {prog:Program}{w:World}{A:Around}{E:bFI}{s:Shared}
theorem aRp {kl:List Key}{a:List Value}(h:Paired (λk v=>(bL prog w).is k v=true) kl a)(hi:∀k∈kl,∃n,k=Sum.inl n):∃ns:List Int,kl=ns.map Sum.inl/\IntsAre a ns:=by
 induction h with
 |nil=>exact⟨[],rfl,.nil⟩
 |@cons k v kl a r _ ih=>
  obtain⟨ns,rfl,b⟩:=ih λk c=>hi k (j8 _ c);obtain⟨n,rfl⟩:=hi k j6;rcases cU (show wQ (Sum.inl n) v=true from r) with⟨i,t,e,rfl⟩|⟨x,t,e,_⟩
  ·cases e;exact⟨n::ns,rfl,.cons n t b⟩
  ·cases e
theorem aQ2 {kl:List Key}{b:List Value}(h:Paired (λk v=>(bL prog w).is k v=true) kl b)(hi:∀k∈kl,∃n,k=Sum.inr n):∃ns:List Str,kl=ns.map Sum.inr/\StrsAre b ns:=by
 induction h with
 |nil=>exact⟨[],rfl,.nil⟩
 |@cons k v kl b r _ ih=>
  obtain⟨ns,rfl,a⟩:=ih λk c=>hi k (j8 _ c);obtain⟨n,rfl⟩:=hi k j6;rcases cU (show wQ (Sum.inr n) v=true from r) with⟨i,t,e,_⟩|⟨x,t,e,rfl⟩
  ·cases e
  ·cases e;exact⟨n::ns,rfl,.cons n t a⟩
def ltK:Key->Key->Prop
 |.inl a,.inl b=>a<b
 |.inr a,.inr b=>a.cps.toList<b.cps.toList
 |_,_=>False
theorem aEf:∀(l:List Str) (p:Str),risingS p l=true->∀x∈l,¬ x.cps.toList<p.cps.toList
 |[],_,_,x,hx=>by cases hx
 |y::r,p,h,x,hx=>by
  unfold risingS at h;rw[bAT,ltCps_eq,Bool.not_eq_true',decide_eq_false_iff_not] at h;rcases List.mem_cons.mp hx with rfl|hx
  ·exact h.1
  ·intro z;have a:=aEf r y h.2 x hx;exact h.1 (List.lt_of_le_of_lt (show y.cps.toList<=x.cps.toList from a) z)
theorem xW:∀(l:List Str) (p:Str),risingS p l=true->l.Nodup->l.Pairwise λa b=>a.cps.toList<b.cps.toList
 |[],_,_,_=>.nil
 |y::r,p,h,nd=>by
  unfold risingS at h;rw[bAT] at h;rw[bD6] at nd;refine .cons (λx c=>?_) (xW r y h.2 nd.2);have d:=aEf r y h.2 x c;rcases Classical.em (y.cps.toList<x.cps.toList) with z|z
  ·exact z
  ·exfalso;have e:y.cps.toList=x.cps.toList:=List.le_antisymm d z;have:y=x:=by cases y;cases x;exact congrArg Str.mk (Array.toList_inj.mp e)
   exact nd.1 (this ▸ c)
theorem aDe {vs:List Value}{ns:List Int}(h:IntsAre vs ns):Vals ((ns.map Sum.inl).map kV) vs:=by
 induction h with
 |nil=>exact .nil
 |cons n t _ ih=>exact .cons ⟨t,rfl⟩ ih
theorem aBj {vs:List Value}{ns:List Str}(h:StrsAre vs ns):Vals ((ns.map Sum.inr).map kV) vs:=by
 induction h with
 |nil=>exact .nil
 |cons n t _ ih=>exact .cons ⟨t,rfl⟩ ih
def xP {α β:Type}{f:α->β}{l:List α}(h:(l.map f).Nodup):l.Nodup:=List.Pairwise.imp (λa e=>a (congrArg f e)) (List.pairwise_map.mp h)
def aLt {D:Addr}{kl:List Key}{Q:bFI}(Z:A.handled=none)(T:vG (bL prog w) s.heap D kl)(hn:kl.length<=60)(Y:kl.Nodup)(hi:(∀k∈kl,∃n,k=Sum.inl n)\/∀k∈kl,∃n,k=Sum.inr n)
  (q:∀(h1 h':Heap) (tk:Nat) (dr:Drawn) (B:Addr) (vs:List Value) (ks:List Key) (e:Nat),Vals (ks.map kV) vs->ks.Perm kl->ks.Pairwise ltK->h'.get? B=some (seqObj "list" vs.toArray e)->(∀b o,s.heap.get? b=some o->h1.get? b=some o)->(∀b o,h1.get? b=some o->h'.get? b=some o)->h1.objs.size<=B->Q (.ref B) { s with heap:=h',toks:=tk,drawn:=dr }) :
  wpAny (model prog w) A (call (.builtin "sorted") [.ref D]) Q E s:=by
 refine call_function_entry kind_sorted plain_sorted entry_sorted (args_sorted1 _) ?_;unfold Builtin.«sorted»;refine c7 (m:=checkCount "sorted" 1 1 _) (d9 (c7 (aJx (A:=A.in1) Z T (by lia) λh' tk dr c t l u G=>?_)));have W:c.length=kl.length:=by rw[<-Paired.length G,u.length_eq]
 have h:t.Nodup:=u.nodup_iff.mpr Y;have g:c.length<64:=by lia
 refine c7 (wpAny_newList ?_ (by rw[sizeLine_eq];lia));have d:(h'.push (seqObj "list" c.toArray 0)).get? h'.objs.size=some (seqObj "list" c.toArray 0):=j5 _ rfl;have p:∀(out:Array Value) (ks:List Key),Vals (ks.map kV) out.toList->ks.Perm t->ks.Pairwise ltK->Q (.ref h'.objs.size) { s with heap:=sortedHeap (h'.push (seqObj "list" c.toArray 0)) h'.objs.size c out,toks:=tk,drawn:=dr }:=λout ks K O R=>by obtain⟨e,S⟩:=sortedHeap_at (out:=out) d;refine q h' _ tk dr h'.objs.size out.toList ks e K (O.trans u) R (by rw[Array.toArray_toList];exact S) l (λb o x=>?_) (j0 _);have j:=m9 x;rw[sortedHeap_old (v5 j) (by rw[size_push'];exact bBF j)];exact d8 _ x
 rcases hi with hi|hi
 ·obtain⟨L,rfl,i⟩:=aRp G λk l=>hi k (u.mem_iff.mp l);refine c7 (bAS (bAE slot_list_sort ⟨_,d,rfl⟩ entry_list_sort (list_sort_tree d i g λout v C z J=>⟨_,rfl,d9 ⟨_,rfl,p out (v.map Sum.inl) (aDe C) (z.map _) ?_⟩⟩) (args_list_sort _)));rw[List.pairwise_map];have F:v.Nodup:=z.nodup_iff.mpr (xP h);refine (List.pairwise_and_iff.mpr ⟨J,F⟩).imp λ{a b} ⟨h1,X⟩=>?_;show a<b;lia
 ·obtain⟨L,rfl,i⟩:=aQ2 G λk l=>hi k (u.mem_iff.mp l);refine c7 (bAS (bAE slot_list_sort ⟨_,d,rfl⟩ entry_list_sort (list_sort_treeK strKind_oneLt d i.keysOf (λV U I e=>keyKind_strs (by rw[<-e];exact i)) g λM C z=>⟨_,rfl,d9 ⟨_,rfl,?_⟩⟩) (args_list_sort _)));obtain⟨f,N,H,P⟩:=sorted_out_str i C z;refine p _ (f.map Sum.inr) (aBj N) (H.map _) ?_;rw[List.pairwise_map];have F:f.Nodup:=H.nodup_iff.mpr (xP h);cases f with
  |nil=>exact .nil
  |cons y r=>have:=xW (y::r) y (by unfold risingS;rw[bAT,ltCps_eq];exact⟨by simpa using List.lt_irrefl _,P⟩) F;exact this
end
def aUa (P:Program)(w:World)(D:Addr)(kl:List Key):HO:=.ext λh=>vG (bL P w) h D kl
section
variable {X:Cx}{bFL:bFJ}{σ:L2.St}{H:Hp}{s:Shared}
def Inv.drew (I:Inv X bFL σ H s)(dr:Drawn):Inv X bFL σ H { s with drawn:=dr }:=⟨I.ok,I.os,I.bare,I.base,I.loc,I.cell,I.free,I.freeC,I.pin,I.hok,I.len⟩
def bBs (P:Program)(w:World)(K:bFH):List V->Hp->VK->Prop:=λxs H Q=>∃(p:Addr) (ks:List Key),xs=[.ref p]/\SqL K H p (ks.map kV)/\ks.length<=4/\∀D H' kl,H D=none->Same H H'->H' D=some (aUa P w D kl)->Ded kl ks->Q (.ref D) H'
theorem aN4 {k:Key}{v:Value}(h:RelV (kV k) v):(bL X.prog X.w).is k v=true/\v.scannable=true:=by
 cases k with
 |inl n=>obtain⟨t,rfl⟩:=h;exact⟨aEi n t,rfl⟩
 |inr n=>obtain⟨t,rfl⟩:=h;exact⟨aE5 n t,rfl⟩
def aQ8 (S:X.calm=true):cO X (.type "set") (bBs X.prog X.w X.K):=by
 intro G s σ H R T Q I r h;obtain⟨p,ks,rfl,J,M,q⟩:=h;obtain⟨u,rfl,C⟩:=r.one;cases C;obtain⟨f,m,z,O⟩:=I.list J;have a:=m.length;rw[j9] at a;refine aQd (knd:=bL X.prog X.w) (ks:=ks) (I.ok.hd S) z.isList (by rw[j7];exact a) (λi v D=>?_) (by rw[j7,<-a];exact M) λg E d x B A=>?_
 ·have c:f[i]?=some v:=by simpa using D
  have t:i<ks.length:=by rw[a];exact (List.getElem?_eq_some_iff.mp c).1
  obtain⟨u,l,L⟩:=m.get (i:=i) (x:=kV ks[i]) (by rw[v6,d7 t];rfl);rw[c] at l;cases l;exact⟨ks[i],d7 t,aN4 L⟩
 ·have e:∃o,g.get? s.heap.objs.size=some o:=by obtain⟨o,_,_,_,F,_⟩:=x;exact⟨o,F⟩
  have j:H s.heap.objs.size=none:=I.hok.fresh (j0 _);exact⟨.ref s.heap.objs.size,_,I.laid (t':=E) (o:=aUa X.prog X.w s.heap.objs.size d) (λb o n=>A b o (m9 n) n) (j0 _) (show vG (bL X.prog X.w) g s.heap.objs.size d/\_/\_ from ⟨x,e,λN P y k=>y.at k⟩),rfl,q _ _ d j (bC j _) aH B⟩
def aUt (P:Program)(w:World):List V->Hp->VK->Prop:=λxs H Q=>∃(D:Addr) (kl:List Key),xs=[.ref D]/\H D=some (aUa P w D kl)/\kl.length<=60/\kl.Nodup/\((∀k∈kl,∃n,k=Sum.inl n)\/∀k∈kl,∃n,k=Sum.inr n) /\
 ∀(B:Addr) (H':Hp) (ks:List Key),H B=none->Same H H'->H' B=some (.lst (ks.map kV))->ks.Perm kl->ks.Pairwise ltK->Q (.ref B) H'
def aF3 (M:X.calm=true):cO X (.builtin "sorted") (aUt X.prog X.w):=by
 intro b s σ H K N Q I r h;obtain⟨D,m,rfl,G,j,y,E,q⟩:=h;obtain⟨u,rfl,n⟩:=r.one;cases n;have x:vG (bL X.prog X.w) s.heap D m:=(I.hok D _ G).1;refine aLt (I.ok.hd M) x j y E λt J a k B z c e p i A v l F f=>?_;have C:Inv X b σ H { s with heap:=t,toks:=a }:=I.kept (t':=a) l;have g:=C.drew k;have d:H B=none:=g.hok.fresh f;have L:c.length<=60:=by rw[i.length_eq];exact j
 exact⟨.ref B,_,g.laid (t':=a) (o:=.lst (c.map kV)) F f ⟨small (by rw[j9];lia),z,e,p,v⟩,rfl,q B _ c d (bC d _) aH i A⟩
end
end L2
namespace PySem
open SetTable (Probe bits runEnd leap)
def tmk (m:Nat):SetTable:=⟨m,#[],#[],0,true,0,true⟩
def sq (m:Nat)(p:Probe):Nat->Probe
 |0=>p
 |n+1=>(tmk m).advance (sq m p n)
def hd (m:Nat)(x:Nat × Nat):Probe:=⟨x.1,runEnd m x.1 - x.1,x.1,x.2,none⟩
def x0 (m:Nat)(h:Int):Nat × Nat:=(bits h % (m+1),bits h)
def pj (m:Nat)(h:Int)(n:Nat):Nat:=(sq m (hd m (x0 m h)) n).j
def lp (m:Nat)(x:Nat × Nat):Nat->Nat × Nat
 |0=>x
 |k+1=>leap m (lp m x k).1 (lp m x k).2
theorem aG7 (m:Nat)(p:Probe)(a:Nat):∀b,sq m p (a+b)=sq m (sq m p a) b
 |0=>rfl
 |b+1=>congrArg (tmk m).advance (aG7 m p a b)
theorem aGt (m:Nat)(x:Nat × Nat):∀k,k<=runEnd m x.1 - x.1->sq m (hd m x) k=⟨x.1+k,runEnd m x.1 - x.1 - k,x.1,x.2,none⟩
 |0,_=>rfl
 |k+1,h=>by unfold sq;rw[aGt m x k (by lia)];unfold SetTable.advance;rw[if_pos (by show runEnd m x.1 - x.1 - k > 0;lia)];rfl
def aGc (m:Nat)(x:Nat × Nat):sq m (hd m x) (runEnd m x.1 - x.1+1)=hd m (leap m x.1 x.2):=by unfold sq;rw[aGt m x _ (j0 _)];unfold SetTable.advance;rw[if_neg (by show ¬ (runEnd m x.1 - x.1 - (runEnd m x.1 - x.1) > 0);lia)];rfl
def bAt (m i:Nat):runEnd m i - i<=9:=by unfold runEnd;split <;> lia
def aDd {m i k:Nat}(hi:i<=m)(a:k<=runEnd m i - i):i+k<=m:=by unfold runEnd at a;split at a <;> lia
theorem heads (m:Nat)(x:Nat × Nat):∀k,∃n,n<=10 * k/\sq m (hd m x) n=hd m (lp m x k)
 |0=>⟨0,j0 _,rfl⟩
 |k+1=>by obtain⟨n,b,a⟩:=heads m x k;refine⟨n+(runEnd m (lp m x k).1 - (lp m x k).1+1),by have:=bAt m (lp m x k).1;lia,?_⟩;rw[aG7,a,aGc];rfl
theorem aTq (m:Nat)(x:Nat × Nat):∀k,(lp m x k).2=x.2 / 32 ^ k
 |0=>by simp[lp]
 |k+1=>by show (lp m x k).2 / 32=_;rw[aTq m x k,Nat.div_div_eq_div_mul,Nat.pow_succ]
theorem aSt (m:Nat)(x:Nat × Nat)(h:x.1<=m):∀k,(lp m x k).1<=m
 |0=>h
 |k+1=>by exact Nat.le_of_lt_succ (Nat.mod_lt _ (Nat.succ_pos m))
def fI (m:Nat):Nat->Nat->Nat
 |0,i=>i
 |k+1,i=>(fI m k i * 5+1) % (m+1)
theorem aA9 (m a i:Nat):∀b,fI m (b+a) i=fI m b (fI m a i)
 |0=>by rw[bDB];rfl
 |b+1=>by rw[show b+1+a=(b+a)+1 by lia];show (fI m (b+a) i * 5+1) % (m+1)=_;rw[aA9 m a i b];rfl
def orb (m:Nat):Nat->Nat->List Nat
 |0,_=>[]
 |k+1,i=>i::orb m k ((i * 5+1) % (m+1))
theorem aR7 {m:Nat}:∀{n i j:Nat},j∈orb m n i->∃k,k<n/\fI m k i=j
 |n+1,i,j,h=>by
  rcases List.mem_cons.mp h with rfl|h
  ·exact⟨0,Nat.succ_pos _,rfl⟩
  ·obtain⟨k,a,b⟩:=aR7 h;exact⟨k+1,Nat.succ_lt_succ a,by rw[aA9 m 1 i k];exact b⟩
def Msk (m:Nat):Prop:=m=7\/m=31\/m=127
def aXj {m:Nat}(h:Msk m):(List.range (m+1)).all (λj=>(orb m (m+1) 0).contains j)=true/\fI m (m+1) 0=0:=by rcases h with rfl|rfl|rfl <;> exact⟨by decide +kernel,by decide +kernel⟩
def cyc {m i j:Nat}(h:Msk m)(hi:i<=m)(e:j<=m):∃k,k<=m/\fI m k i=j:=by
 obtain⟨d,f⟩:=aXj h;have at0:∀j,j<=m->∃k,k<m+1/\fI m k 0=j:=λj e=>aR7 (by simpa using List.all_eq_true.mp d j (List.mem_range.mpr (by lia)));obtain⟨a,g,rfl⟩:=at0 i hi;obtain⟨b,l,rfl⟩:=at0 j e;by_cases c:a<=b
 ·exact⟨b - a,by lia,by rw[<-aA9,show b - a+a=b by lia]⟩
 ·exact⟨b+(m+1) - a,by lia,by rw[<-aA9,show b+(m+1) - a+a=b+(m+1) by lia,aA9,f]⟩
def aRr (m:Nat)(h:Int):(x0 m h).1<=m/\(x0 m h).2<2 ^ 64:=by refine⟨Nat.le_of_lt_succ (Nat.mod_lt _ (Nat.succ_pos m)),?_⟩;show (h % 2 ^ 64).toNat<2 ^ 64;have a:=bEB h (show (0:Int)<2 ^ 64 by decide);have b:=bE1 h (show (2 ^ 64:Int)≠0 by decide);lia
theorem aOn {m:Nat}{x:Nat × Nat}(h:x.2<2 ^ 64):∀k,(lp m x (12+k)).1=fI m k (lp m x 12).1
 |0=>rfl
 |k+1=>by
  show ((lp m x (12+k)).1 * 5+1+(lp m x (12+k)).2 / 32) % (m+1)=(fI m k _ * 5+1) % (m+1);rw[aOn h k,aTq,Nat.div_div_eq_div_mul,<-Nat.pow_succ];have:x.2 / 32 ^ (12+k+1)=0:=by refine Nat.div_eq_of_lt (bAA h ?_);exact bAM (by decide:2 ^ 64<=32 ^ 13) (Nat.pow_le_pow_right (by decide) (by lia))
  rw[this]
def aN8 {m j:Nat}(f:Msk m)(h:Int)(e:j<=m):∃k,k<=12+m/\(lp m (x0 m h) k).1=j:=by obtain⟨a,b⟩:=aRr m h;obtain⟨k,d,c⟩:=cyc f (aSt m _ a 12) e;exact⟨12+k,by lia,(aOn b k).trans c⟩
theorem least {P:Nat->Prop}:∀n,P n->∃k,k<=n/\P k/\∀i,i<k->¬ P i:=by
 intro n
 induction n using Nat.strongRecOn with
 |ind n ih=>
  intro g;by_cases c:∃i,i<n/\P i
  ·obtain⟨i,d,e⟩:=c;obtain⟨k,a,b⟩:=ih i d e;exact⟨k,by lia,b⟩
  ·exact⟨n,j0 _,g,λi f q=>c ⟨i,f,q⟩⟩
theorem pig:∀(n:Nat) (l:List Nat),(∀j,j<n->j∈l)->n<=l.length
 |0,_,_=>bAG _
 |n+1,l,h=>by have a:=h n (bCM _);have:=pig n (l.erase n) λj b=>(List.mem_erase_of_ne (by lia)).mpr (h j (by lia));rw[List.length_erase_of_mem a] at this;have:=List.length_pos_of_mem a;lia
def first {m:Nat}(v:Msk m){l:List Nat}(hl:l.length<=m)(h:Int):∃N,N<10 * (m+15)/\pj m h N∉l/\pj m h N<=m/\∀n,n<N->pj m h n∈l:=by
 obtain⟨j,g,r⟩:∃j,j<=m/\j∉l:=Classical.byContradiction λz=>by have:=pig (m+1) l λj g=>Classical.byContradiction λq=>z ⟨j,by lia,q⟩;lia
 obtain⟨k,u,o⟩:=aN8 v h g;obtain⟨n,t,s⟩:=heads m (x0 m h) k;have e:pj m h n=j:=by unfold pj;rw[s];exact o
 obtain⟨N,a,b,c⟩:=least (P:=λn=>pj m h n∉l) n (by rw[e];exact r);refine⟨N,by lia,b,?_,λi p=>Classical.byContradiction (c i p)⟩;refine (?_:∀N,pj m h N<=m) N;intro N;have f:∀N,∃x k,x.1<=m/\k<=runEnd m x.1 - x.1/\sq m (hd m (x0 m h)) N=sq m (hd m x) k:=by
  intro N
  induction N with
  |zero=>exact⟨x0 m h,0,(aRr m h).1,bAG _,rfl⟩
  |succ N ih=>
   obtain⟨x,k,a,b,c⟩:=ih;by_cases d:k+1<=runEnd m x.1 - x.1
   ·exact⟨x,k+1,a,d,congrArg (tmk m).advance c⟩
   ·obtain rfl:k=runEnd m x.1 - x.1:=by lia
    refine⟨leap m x.1 x.2,0,?_,bAG _,(congrArg (tmk m).advance c).trans (aGc m x)⟩;exact aSt m x a 1
 obtain⟨x,k,a,b,c⟩:=f N;unfold pj;rw[c,aGt m x k b];exact aDd a b
def Rch (m:Nat)(l:List Nat)(h:Int)(j:Nat):Prop:=∃n,pj m h n=j/\∀i,i<n->pj m h i∈l
def Rch.mono {m:Nat}{l l':List Nat}{h:Int}{j:Nat}(r:Rch m l h j)(s:∀x∈l,x∈l'):Rch m l' h j:=
 let ⟨n,a,b⟩:=r;⟨n,a,λi c=>s _ (b i c)⟩
def below_at {xs:Array Nat}(c:Ris xs){i:Nat}(hi:i<xs.size):SetTable.below xs xs[i]=i:=by
 obtain⟨e,b,a⟩:=oY c xs[i];rcases bEP (SetTable.below xs xs[i]) i with h|h|h
 ·have d:=a _ (by lia) (j0 _);have f:=c _ i (by lia) hi h;lia
 ·exact h
 ·have:=b i hi h;lia
def aCb {t:SetTable}(hd:t.dummies=#[])(f:Ris t.place)(j:Nat):(j∉t.place.toList/\t.slot j=.empty)\/∃i,t.place[i]?=some j/\t.slot j=.live i:=by
 by_cases h:j∈t.place.toList
 ·right;obtain⟨i,d,e⟩:=bBC h;have a:i<t.place.size:=by simpa using d
  have c:t.place[i]=j:=by simpa using e
  subst c;refine⟨i,m8 a,?_⟩;unfold SetTable.slot;dsimp only;rw[below_at f a,m8 a];simp
 ·left;refine⟨h,?_⟩;unfold SetTable.slot;dsimp only;rw[if_neg,hd]
  ·have:SetTable.has #[] j=false:=by unfold SetTable.has;simp
   rw[this];rfl
  ·intro z;have b:=eq_of_beq z;exact h (by simpa using bDR b)
theorem aEt {t:SetTable}{g:Nat->Int}{h:Int}(f:t.dummies=#[])(m:Ris t.place){N:Nat}(u:pj t.mask h N∉t.place.toList)(y:∀n,n<N->pj t.mask h n∈t.place.toList) :
  ∀(fuel n:Nat),n<=N->N - n<fuel->∃n',n<=n'/\n'<=N/\(∀k i,n<=k->k<n'->t.place[i]?=some (pj t.mask h k)->g i≠h) /\
   ((n'=N/\SetTable.probe.go t g h fuel (sq t.mask (hd t.mask (x0 t.mask h)) n)=some (.empty (pj t.mask h N) none)) \/
   (n'<N/\∃i,t.place[i]?=some (pj t.mask h n')/\g i=h/\SetTable.probe.go t g h fuel (sq t.mask (hd t.mask (x0 t.mask h)) n)=some (.candidate (pj t.mask h n') i (sq t.mask (hd t.mask (x0 t.mask h)) (n'+1)))))
 |0,n,_,hf=>by lia
 |fuel+1,n,hn,hf=>by
  have r:(sq t.mask (hd t.mask (x0 t.mask h)) n).dummy=none:=by
   clear hn hf
   induction n with
   |zero=>rfl
   |succ n ih=>
    unfold sq SetTable.advance
    split
    ·exact ih
    ·exact ih
  unfold SetTable.probe.go;rcases aCb f m (pj t.mask h n) with⟨a,b⟩|⟨i,a,b⟩
  ·have e:n=N:=Nat.le_antisymm hn (Nat.le_of_not_lt λz=>a (y n z));subst e;refine⟨n,j0 _,j0 _,λk i o l=>by lia,.inl ⟨rfl,?_⟩⟩;rw[show t.slot (sq t.mask (hd t.mask (x0 t.mask h)) n).j=.empty from b];dsimp only;rw[r];rfl
  ·have d:n<N:=Nat.lt_of_le_of_ne hn λz=>u (by rw[<-z];simpa using bDR a);rw[show t.slot (sq t.mask (hd t.mask (x0 t.mask h)) n).j=.live i from b];dsimp only;by_cases c:g i=h
   ·refine⟨n,j0 _,hn,λk i o l=>by lia,.inr ⟨d,i,a,c,?_⟩⟩;rw[if_pos (beq_iff_eq.mpr c)];rfl
   ·rw[if_neg (by simpa using c)];obtain⟨n',o,l,s,C⟩:=aEt f m u y fuel (n+1) d (by lia) (g:=g);refine⟨n',by lia,l,λk q D B p=>?_,C⟩;by_cases e:k=n
    ·subst e;have:q=i:=by obtain⟨v,x⟩:=Array.getElem?_eq_some_iff.mp p;obtain⟨w,A⟩:=Array.getElem?_eq_some_iff.mp a;rw[<-below_at m v,<-below_at m w,x,A]
     rw[this];exact c
    ·exact s k q (by lia) B p
theorem aE6 {α β:Type}{R:α->β->Prop}{as:List α}{bs:List β}(h:Paired R as bs):∀{i:Nat} {a:α},as[i]?=some a->∃b,bs[i]?=some b/\R a b:=by
 induction h with
 |nil=>intro i a q;cases q
 |cons r _ ih=>
  intro i a q;cases i with
  |zero=>cases q;exact⟨_,rfl,r⟩
  |succ i=>exact ih q
def aXe {m:Nat}(I:Msk m){B:Array (Option Nat)}{f:List Nat}(ch:∀j,j<=m->((B.getD j (some 0)).isNone=true↔j∉f))(hl:f.length<=m)(h:Int) :
  ∃j,SetTable.layClean.free m B (SetTable.turns m) (bits h % (m+1)) (bits h)=some j/\j<=m/\j∉f/\Rch m f h j:=by
 obtain⟨j,s,x⟩:∃j,j<=m/\j∉f:=Classical.byContradiction λz=>by have:=pig (m+1) f λj s=>Classical.byContradiction λq=>z ⟨j,by lia,q⟩;lia
 obtain⟨K,E,y⟩:=aN8 I h s;have r:∀a k,k<=K->K - k<a->(∃n,sq m (hd m (x0 m h)) n=hd m (lp m (x0 m h) k)/\∀i,i<n->pj m h i∈f)->∃j,SetTable.layClean.free m B a (lp m (x0 m h) k).1 (lp m (x0 m h) k).2=some j/\j<=m/\j∉f/\Rch m f h j:=by
  intro a
  induction a with
  |zero=>intro k _ z;lia
  |succ a ih=>
   intro k F D ⟨n,e,t⟩;have b:=aSt m _ (aRr m h).1 k;have l:∀c,c<=runEnd m (lp m (x0 m h) k).1 - (lp m (x0 m h) k).1->pj m h (n+c)=(lp m (x0 m h) k).1+c:=λc g=>by unfold pj;rw[aG7,e,aGt _ _ _ g]
   have v:∀c,c<=runEnd m (lp m (x0 m h) k).1 - (lp m (x0 m h) k).1->(∀d,d<c->(lp m (x0 m h) k).1+d∈f)->∀i,i<n+c->pj m h i∈f:=λc g hd i u=>by
    by_cases z:i<n
    ·exact t i z
    ·have:=hd (i - n) (by lia);rw[<-l (i - n) (by lia),show n+(i - n)=i by lia] at this;exact this
   have H:(lp m (x0 m h) k).1<=runEnd m (lp m (x0 m h) k).1:=by unfold runEnd;split <;> lia
   unfold SetTable.layClean.free;cases p:(List.range (runEnd m (lp m (x0 m h) k).1+1 - (lp m (x0 m h) k).1)).find? λc=>(B.getD ((lp m (x0 m h) k).1+c) (some 0)).isNone with
   |some c=>
    rw[List.find?_range_eq_some] at p;obtain⟨A,w,C⟩:=p;rw[List.mem_range] at w;have g:c<=runEnd m (lp m (x0 m h) k).1 - (lp m (x0 m h) k).1:=by lia
    refine⟨_,rfl,aDd b g,(ch _ (aDd b g)).mp A,n+c,l c g,v c g λd hd=>Classical.byContradiction λz=>?_⟩;have:=C d hd;rw[(ch _ (aDd b (by lia))).mpr z] at this;cases this
   |none=>
    rw[List.find?_range_eq_none] at p;have o:∀d,d<runEnd m (lp m (x0 m h) k).1+1 - (lp m (x0 m h) k).1->(lp m (x0 m h) k).1+d∈f:=λd hd=>Classical.byContradiction λz=>by have:=p d hd;rw[(ch _ (aDd b (by lia))).mpr z] at this;cases this
    have G:k≠K:=λz=>x (by rw[<-y,<-z];exact o 0 (by lia));refine ih (k+1) (by lia) (by lia) ⟨n+(runEnd m (lp m (x0 m h) k).1 - (lp m (x0 m h) k).1+1),by rw[aG7,e,aGc];rfl,λi u=>?_⟩;by_cases z:i<n
    ·exact t i z
    ·have:=o (i - n) (by lia);rw[<-l (i - n) (by lia),show n+(i - n)=i by lia] at this;exact this
 exact r _ 0 (bAG _) (by unfold SetTable.turns;lia) ⟨0,rfl,λi u=>by lia⟩
structure LI (m:Nat)(done:List Int)(js:List Nat)(ow:Array (Option Nat)):Prop where
 sz:ow.size=m+1
 at_:∀j k:Nat,ow[j]?=some (some k)↔js[k]?=some j
 le:∀j∈js,j<=m
 pr:Paired (Rch m js) done js
theorem LI.ch {m:Nat}{done:List Int}{js:List Nat}{b:Array (Option Nat)}(L:LI m done js b)(j:Nat)(hj:j<=m):(b.getD j (some 0)).isNone=true↔j∉js:=by
 have a:j<b.size:=by rw[L.sz];lia
 rw[v7,m8 a,bBP];cases e:b[j] with
 |none=>refine⟨λ_ z=>?_,λ_=>rfl⟩;obtain⟨k,c,q⟩:=bBC z;have:=(L.at_ j k).mpr (by rw[d7 c,q]);rw[m8 a,e] at this;cases this
 |some k=>exact⟨λz=>(by cases z),λz=>absurd (t7 ((L.at_ j k).mp (by rw[m8 a,e]))) z⟩
def LI.more {m:Nat}{done:List Int}{f:List Nat}{n:Array (Option Nat)}{h:Int}{j:Nat}(L:LI m done f n)(l:j<=m)(o:j∉f)(r:Rch m f h j):LI m (done++[h]) (f++[j]) (n.setIfInBounds j (some f.length)):=by
 have i:j<n.size:=by rw[L.sz];lia
 refine⟨by rw[Array.size_setIfInBounds,L.sz],λg k=>?_,λx d=>?_,?_⟩
 ·by_cases e:j=g
  ·subst e;rw[Array.getElem?_setIfInBounds_self_of_lt i];constructor
   ·intro z;cases z;rw[bBJ (j0 _),Nat.sub_self];rfl
   ·intro z;rcases bEP k f.length with c|c|c
    ·rw[bBM c] at z;exact absurd (t7 z) o
    ·rw[c]
    ·rw[bAD (by rw[bAB];show f.length+1<=k;lia)] at z;cases z
  ·rw[Array.getElem?_setIfInBounds_ne e,L.at_];rcases bEP k f.length with c|c|c
   ·rw[bBM c]
   ·rw[c,bBJ (j0 _),Nat.sub_self,bAD (j0 _)];exact⟨λz=>(by cases z),λz=>absurd (bAP z) e⟩
   ·rw[bAD (by lia),bAD (by rw[bAB];show f.length+1<=k;lia)]
 ·rcases List.mem_append.mp d with z|z
  ·exact L.le x z
  ·rw[List.mem_singleton.mp z];exact l
 ·exact tU (L.pr.mono λa b q=>q.mono λx d=>bBX _ d) (r.mono λx d=>bBX _ d)
theorem aN5 {m:Nat}(i:Msk m){f:Option (Array (Option Nat) × Nat)->Int->Option (Array (Option Nat) × Nat)}(g:∀o k h j,SetTable.layClean.free m o (SetTable.turns m) (bits h % (m+1)) (bits h)=some j->f (some (o,k)) h=some (o.setIfInBounds j (some k),k+1)) :
  ∀(hs done:List Int) (js:List Nat) (ow:Array (Option Nat)),LI m done js ow->js.length+hs.length<=m->∃js' ow' k,hs.foldl f (some (ow,js.length))=some (ow',k)/\LI m (done++hs) js' ow'
 |[],done,js,ow,L,_=>⟨js,ow,_,rfl,by rw[bCJ];exact L⟩
 |h::hs,done,js,ow,L,hl=>by rw[v9] at hl;obtain⟨j,e,b,c,d⟩:=aXe i L.ch (by lia) h;obtain⟨js',ow',k,q,a⟩:=aN5 i g hs (done++[h]) (js++[j]) _ (L.more b c d) (by rw[bAB];show js.length+1+hs.length<=m;lia);refine⟨js',ow',k,?_,by rw[bDA] at a;exact a⟩;rw[List.foldl_cons,g _ _ _ _ e];rw[bAB] at q;exact q
theorem aIk {α:Type}:∀l:List α,(List.range l.length).filterMap (λi=>l[i]?)=l
 |[]=>rfl
 |x::l=>by rw[v9,List.range_succ_eq_map,bCH];simp only[List.getElem?_cons_zero,bD8,Function.comp_def,Nat.succ_eq_add_one,List.getElem?_cons_succ];rw[aIk l]
def aWz {m:Nat}(T:Msk m)(es:Array (Int × Value))(S:es.size<=m)(fi mv:Nat)(ld pl:Bool):∃place order,SetTable.laid m fi mv ld pl (es.map (·.1))=some (⟨m,place,#[],fi,ld,mv,pl⟩,order)/\Ris place/\(∀j∈place.toList,j<=m) /\
  (order.filterMap (es[·]?)).toList.Perm es.toList/\Paired (λj e=>Rch m place.toList e.1 j) place.toList (order.filterMap (es[·]?)).toList:=by
 have O:LI m [] [] (Array.replicate (m+1) none):=⟨Array.size_replicate,λj k=>⟨λz=>(by
  rw[Array.getElem?_replicate] at z
  split at z <;> cases z),λz=>(by cases z)⟩,λj n=>(by cases n),.nil⟩
 have H:([]:List Nat).length+(es.map (·.1)).toList.length<=m:=by simpa using S
 obtain⟨p,u,k,e,L⟩:=aN5 T (f:=λA h=>do
  let (owner,k) <-A
  let j <-SetTable.layClean.free m owner (SetTable.turns m) (bits h % (m+1)) (bits h)
  pure (owner.setIfInBounds j (some k),k+1)) (λo k h j q=>by show (SetTable.layClean.free m o _ _ _).bind _=_;rw[q];rfl) (es.map (·.1)).toList [] [] _ O H
 rw[bD7] at L;have K:p.length=es.size:=by rw[<-L.pr.length];simp
 have P:SetTable.layClean m (es.map (·.1))=some u:=by unfold SetTable.layClean;rw[<-Array.foldl_toList];exact congrArg (Option.map (·.1)) e
 have c:∀x:Nat × Nat,x∈(List.range (m+1)).filterMap (λj=>(u.getD j none).map (j,·))↔p[x.2]?=some x.1:=λx=>by
  rw[List.mem_filterMap,<-L.at_];constructor
  ·rintro⟨j,n,q⟩;have t:j<u.size:=by rw[L.sz];exact List.mem_range.mp n
   rw[v7,m8 t,bBP] at q;obtain⟨k,g,rfl⟩:=Option.map_eq_some_iff.mp q;rw[m8 t,g]
  ·intro q;obtain⟨t,g⟩:=Array.getElem?_eq_some_iff.mp q;refine⟨x.1,List.mem_range.mpr (by rw[L.sz] at t;exact t),?_⟩;rw[v7,q];rfl
 generalize B:(List.range (m+1)).filterMap (λj=>(u.getD j none).map (j,·))=live at c;have v:∀j b,(u.getD j none).map (j,·)=some b->b.1=j:=λj b q=>by obtain⟨_,_,rfl⟩:=Option.map_eq_some_iff.mp q;rfl
 have G:live.Pairwise λa b=>a.1<b.1:=by rw[<-B,List.pairwise_filterMap];exact List.pairwise_lt_range.imp λ{a b} E x l y s=>by rw[v a x l,v b y s];exact E
 have J:(live.map (·.2)).Nodup:=by refine List.pairwise_map.mpr ((List.pairwise_and_iff.mpr ⟨G,List.pairwise_iff_forall_sublist.mpr λ{a b} q=>(⟨(c a).mp (q.subset j6),(c b).mp (q.subset (j8 _ j6))⟩:p[a.2]?=some a.1/\p[b.2]?=some b.1)⟩).imp λ{a b} ⟨R,I,N⟩ z=>?_);rw[z,N] at I;have:=bAP I;lia
 have M:(live.map (·.2)).Perm (List.range es.size):=(bE9 J List.nodup_range).mpr λk=>by
  rw[List.mem_map,List.mem_range];constructor
  ·rintro⟨x,l,rfl⟩;rw[<-K];exact (List.getElem?_eq_some_iff.mp ((c x).mp l)).1
  ·intro F;exact⟨(p[k]'(by lia),k),(c _).mpr (d7 _),rfl⟩
 have w:((live.map (·.2)).toArray.filterMap (es[·]?)).toList=live.filterMap λx=>es[x.2]?:=by rw[Array.toList_filterMap];simp only[bD8,Function.comp_def]
 refine⟨(live.map (·.1)).toArray,(live.map (·.2)).toArray,?_,?_,λj n=>?_,?_,?_⟩
 ·unfold SetTable.laid;rw[P];show some _=_;rw[<-B]
 ·rw[aBa];exact List.pairwise_map.mpr G
 ·obtain⟨x,l,rfl⟩:=List.mem_map.mp n;exact L.le _ (t7 ((c x).mp l))
 ·rw[Array.toList_filterMap];refine (M.filterMap _).trans ?_;have:=aIk es.toList;rw[t8] at this;simp only[bBQ] at this;rw[this]
 ·rw[w];have d:∀x∈live,∃e:Int × Value,es[x.2]?=some e/\Rch m (live.map (·.1)) e.1 x.1:=λx l=>by
   have q:=(c x).mp l;have F:x.2<es.size:=by rw[<-K];exact (List.getElem?_eq_some_iff.mp q).1
   refine⟨es[x.2],m8 F,?_⟩;obtain⟨b,g,D⟩:=aE6 L.pr (i:=x.2) (a:=es[x.2].1) (by simp[F]);rw[q] at g;cases g;exact D.mono λy s=>by obtain⟨i,Q,z⟩:=bBC s;exact List.mem_map.mpr ⟨(y,i),(c _).mpr (by rw[d7 Q,z]),rfl⟩
  refine (?_:∀C,(∀x∈live,∃e:Int × Value,es[x.2]?=some e/\Rch m C e.1 x.1)->Paired (λj (e:Int × Value)=>Rch m C e.1 j) (live.map (·.1)) (live.filterMap λx=>es[x.2]?)) _ d;clear d w M J G B c;intro C d
  induction live with
  |nil=>exact .nil
  |cons x r ih=>obtain⟨e,g,D⟩:=d x j6;rw[bCH,g];exact .cons D (ih λy s=>d y (j8 _ s))
end PySem
namespace PySem
open SetTable (Probe bits)
section
variable {prog:Program}{w:World}{κ:Type}[DecidableEq κ]{knd:KeyKind prog w κ}{A:Around}{E:bFI}{s:Shared}
structure TI (b:Bool)(t:SetTable)(es:Array (Int × Value)):Prop where
 led:b=false->t.led=true
 dm:t.dummies=#[]
 msk:Msk t.mask
 ris:Ris t.place
 pr:Paired (λj (e:Int × Value)=>Rch t.mask t.place.toList e.1 j) t.place.toList es.toList
 room:5 * es.size<3 * t.mask
def TI.len {b:Bool}{t:SetTable}{es:Array (Int × Value)}(x:TI b t es):t.place.size=es.size:=by have:=x.pr.length;simpa using this
theorem TI.fits {b:Bool}{t:SetTable}{es:Array (Int × Value)}(x:TI b t es):t.fits es.size=true:=by unfold SetTable.fits SetTable.fill;rw[x.len,x.dm];have:=x.room;simp;lia
def TI.tab {b:Bool}{t:SetTable}{es:Array (Int × Value)}(x:TI b t es):TabOk b t:=⟨x.led,x.dm,by rcases x.msk with e|e|e <;> lia,λ_=>x.ris⟩
def aEa {h0 h:Heap}{k:List κ}{a:Addr}(e:Ex h0 h)(x:IsTupleKey knd h0 k a):IsTupleKey knd h k a:=let ⟨o,i,n,ho,r⟩:=x;⟨o,i,n,e _ _ ho,r⟩
variable {T:List κ->Addr->Prop}
def ElT (knd:KeyKind prog w κ)(T:List κ->Addr->Prop)(h0:Heap)(k:List κ)(e:Int × Value):Prop:=∃a,e.2=.ref a/\(IsTupleKey knd h0 k a/\T k a)/\e.1=tupleKeyHash knd k
theorem ElT.inj {h0:Heap}{k k':List κ}{e:Int × Value}(x:ElT knd T h0 k e)(y:ElT knd T h0 k' e):k=k':=by obtain⟨a,d,f,_⟩:=x;obtain⟨b,c,g,_⟩:=y;rw[d] at c;cases c;exact f.1.inj g.1
theorem cls_val (n:Nat){v:Value}(h:carriedByValue v=true):ofAClassStatement n v=pure false:=by
 cases v with
 |ref a=>simp[carriedByValue] at h
 |_=>first|rfl|simp[ofAClassStatement]|(unfold ofAClassStatement;rfl)
def aOd {k:List κ}{a:Addr}{Q:Bool->Shared->Prop}(j:IsTupleKey knd s.heap k a)(h:Q false s):wpAny (model prog w) A (ofAClassStatement 8 (.ref a)) Q E s:=by
 have g:=j.typeIs;obtain⟨o,d,n,f,_,hd,i⟩:=j;unfold ofAClassStatement;refine c7 (bEG g ?_);dsimp only;rw[if_pos (by rfl)];refine c7 (d9 ?_);simp only[Bool.not_true,bBB,if_false];refine c7 (bAU f hd (c7 ?_));rw[<-Array.forIn_toList];refine bEV _ (λb r e=>r.1=none/\e=s/\∀v∈b,carriedByValue v=true) _ ?_ ?_ _ _ ⟨rfl,rfl,i.byValue⟩
 ·rintro v b r e ⟨hr,rfl,hall⟩;rw[cls_val _ (hall v j6)];refine c7 (d9 ?_);simp only[bBB,if_false];exact d9 ⟨rfl,rfl,λu c=>hall u (j8 _ c)⟩
 ·rintro⟨l,m⟩ e ⟨hr,rfl,_⟩;simp only at hr;subst hr;exact d9 h
def aR2 {k:List κ}{a:Addr}(i:IsTupleKey knd s.heap k a){Q:Bool->Shared->Prop}(h:Q false s){l:List Value}(m:∀v∈l,∃b k',v=.ref b/\IsTupleKey knd s.heap k' b):wpAny (model prog w) A (searchCouldBeSeen (.ref a) l) Q E s:=by
 unfold searchCouldBeSeen;refine c7 (bEV _ (λc r d=>r.1=none/\d=s/\∀v∈c,∃b k',v=.ref b/\IsTupleKey knd s.heap k' b) _ ?_ ?_ _ _ ⟨rfl,rfl,m⟩)
 ·rintro v c r d ⟨hr,rfl,hall⟩;have f:∀v∈c,∃b k',v=.ref b/\IsTupleKey knd d.heap k' b:=λu e=>hall u (j8 _ e);obtain⟨b,k',rfl,g⟩:=hall v j6;dsimp only
  split
  ·exact d9 ⟨rfl,rfl,f⟩
  ·refine c7 (wpAny_eqIsQuiet_tuple i ?_);refine c7 (wpAny_eqIsQuiet_tuple g ?_);refine c7 (aOd i ?_);exact c7 (aOd g (d9 ⟨rfl,rfl,f⟩))
 ·rintro⟨j,n⟩ d ⟨hr,rfl,_⟩;simp only at hr;subst hr;exact d9 h
theorem aXz (n:Nat){v:Value}(h:carriedByValue v=true):∃b,hashByValue n v=pure b:=by
 cases v with
 |ref a=>simp[carriedByValue] at h
 |_=>first|exact⟨_,rfl⟩|exact⟨_,by unfold hashByValue;rfl⟩
def aX0 {k:List κ}{a:Addr}{Q:Bool->Shared->Prop}(p:IsTupleKey knd s.heap k a)(h:∀b,Q b s):wpAny (model prog w) A (hashByValue 8 (.ref a)) Q E s:=by
 have l:=p.typeIs;obtain⟨o,d,n,j,_,hd,m⟩:=p;unfold hashByValue;refine c7 (wpAny_specialOf l F.slot_tuple_hash.lookup ?_);dsimp only;refine c7 (bAU j hd (c7 ?_));simp only[bBP];rw[<-Array.forIn_toList];refine bEV _ (λc r g=>g=s/\∀v∈c,carriedByValue v=true) _ ?_ ?_ _ _ ⟨rfl,m.byValue⟩
 ·rintro v c r g ⟨rfl,hall⟩;obtain⟨b,e⟩:=aXz 7 (hall v j6);rw[e];refine c7 (d9 ?_);cases b with
  |true=>exact d9 ⟨rfl,λu f=>hall u (j8 _ f)⟩
  |false=>exact d9 (d9 (h _))
 ·rintro⟨i,q⟩ g ⟨rfl,_⟩;cases i with
  |none=>exact d9 (h _)
  |some r=>exact d9 (h _)
def aE8 {xs:Array Nat}(d:Ris xs){i j p:Nat}(a:xs[i]?=some p)(b:xs[j]?=some p):i=j:=by obtain⟨c,f⟩:=Array.getElem?_eq_some_iff.mp a;obtain⟨e,g⟩:=Array.getElem?_eq_some_iff.mp b;rw[<-below_at d c,<-below_at d e,f,g]
def aP0 {D:Addr}{o:Obj}{es:Array (Int × Value)}{ep:Nat}{t:SetTable}(ho:s.heap.get? D=some o)(W:o.data=.set es ep t)(h:TI (byT w) t es){k:List κ}{kl:List (List κ)}{a:Addr}{h0:Heap}(F:Ex h0 s.heap)(hu:A.units<cLine)(ka:IsTupleKey knd h0 k a)(pr:Paired (ElT knd T h0) kl es.toList){Q:SetFound->Shared->Prop}
  (a1:k∈kl->Q (.there none) s) (a0:k∉kl->∀j,j∉t.place.toList->Rch t.mask t.place.toList (tupleKeyHash knd k) j->Q (.free j false) s) :
  wpAny (model prog w) A (setSearch D (.ref a) (tupleKeyHash knd k) true) Q E s:=by
 have X:=h.fits;have ll:t.place.toList.length<=t.mask:=by rw[t8,h.len];have:=h.room;lia
 obtain⟨N,n1,I,_,M⟩:=first h.msk ll (tupleKeyHash knd k)
 have O:∀(f n:Nat) (K:Option Probe),n<=N->N - n<f->K.getD (t.probeStart (tupleKeyHash knd k))=sq t.mask (hd t.mask (x0 t.mask (tupleKeyHash knd k))) n->(∀(p i:Nat) (e:Int × Value),p<n->t.place[i]?=some (pj t.mask (tupleKeyHash knd k) p)->es[i]?=some e->¬ ElT knd T h0 k e) ->
   wpAny (model prog w) A (setSearchFrom D (.ref a) (tupleKeyHash knd k) true f K) Q E s:=by
  intro f
  induction f with
  |zero=>intro n K _ z;lia
  |succ f ih=>
   intro n K hn a3 P L;unfold setSearchFrom;refine c7 (bBL ho W X ?_);dsimp only;rw[if_neg (by unfold SetTable.gaveWay;rcases h.msk with e|e|e <;> rw[e] <;> decide),P];generalize hp:t.probe _ (tupleKeyHash knd k) (sq t.mask (hd t.mask (x0 t.mask (tupleKeyHash knd k))) n)=pm;have C:SetTable.probe.go t (λi=>(es[i]?.map (·.1)).getD 0) (tupleKeyHash knd k) (10 * SetTable.turns t.mask) (sq t.mask (hd t.mask (x0 t.mask (tupleKeyHash knd k))) n)=pm:=hp;obtain⟨p,m1,m2,m3,H⟩:=aEt (g:=λi=>(es[i]?.map (·.1)).getD 0) h.dm h.ris I M (10 * SetTable.turns t.mask) n hn (by unfold SetTable.turns;lia);have J:∀(d i:Nat) (e:Int × Value),d<p->t.place[i]?=some (pj t.mask (tupleKeyHash knd k) d)->es[i]?=some e->¬ ElT knd T h0 k e:=λd i e G r l B=>by
    by_cases z:d<n
    ·exact L d i e z r l B
    ·refine m3 d i (by lia) G r ?_;rw[l];obtain⟨_,_,_,e'⟩:=B;exact e'
   rcases H with⟨rfl,H⟩|⟨m5,i,m6,m7,H⟩
   ·rw[H] at C;subst C;dsimp only;refine d9 (a0 (λz=>?_) _ I ⟨_,rfl,M⟩);obtain⟨e,G,r⟩:=zV pr k z;obtain⟨i,hi,rfl⟩:=bBC G;have u:i<es.size:=by simpa using hi
    have x:i<t.place.size:=by rw[h.len];exact u
    obtain⟨b,l,m,B,Y⟩:=aE6 h.pr (i:=i) (a:=t.place[i]) (by simp[x]);rw[d7 hi] at l;cases l;obtain⟨_,_,_,q6⟩:=id r;rw[q6] at B Y;refine J m i _ (Nat.lt_of_not_le λz=>?_) (by rw[B,m8 x]) (by simp[u]) r;rcases bE5 z with z|z
    ·exact I (Y _ z)
    ·rw[z,B] at I;exact I (by simp[bEL])
   ·rw[H] at C;subst C;dsimp only;have x:i<t.place.size:=(Array.getElem?_eq_some_iff.mp m6).1;have u:i<es.size:=by rw[<-h.len];exact x
    have U:es[i]?=some es[i]:=m8 u;obtain⟨k',S,a',Z,kb,e2⟩:=nA pr es[i] (by simp[bEL]);have sl:t.slot (pj t.mask (tupleKeyHash knd k) p)=.live i:=by
     rcases aCb h.dm h.ris (pj t.mask (tupleKeyHash knd k) p) with⟨q,_⟩|⟨i',q,q'⟩
     ·exact absurd (M p m5) q
     ·rw[q',aE8 h.ris q m6]
    have V:∀{R:Bool->Shared->Prop},R false s->wpAny (model prog w) A (searchCouldBeSeen (.ref a) ((es.filter (·.1 == tupleKeyHash knd k)).toList.map (·.2))) R E s:=λhR=>aR2 (aEa F ka) hR λv hv=>by obtain⟨e,G,rfl⟩:=List.mem_map.mp hv;rw[Array.toList_filter] at G;obtain⟨k2,_,a2,r,l,_⟩:=nA pr e (List.mem_filter.mp G).1;exact⟨a2,k2,r,aEa F l.1⟩
    generalize es[i]=ee at *;obtain⟨hh,y⟩:=ee;dsimp only at Z;subst Z;cases hl:t.led;all_goals
     first
      |(rw[if_pos (by rfl)];refine c7 (V ?_);rw[if_neg (by decide)])
      |rw[if_neg (by decide)]
     rw[U];dsimp only;refine c7 (bAS (wpAny_eqBool_tuple hu (aEa F kb.1) (aEa F ka) ?_));refine c7 (bBL ho W X ?_);by_cases c:k'=k
     ·rw[t6 c,if_pos (by rfl)];exact d9 (a1 (c ▸ S))
     ·rw[v8 c,if_neg (by decide)];dsimp only;rw[show t.sameMemory t.moves t.mask=some true by unfold SetTable.sameMemory;rw[if_pos (by simp)]];dsimp only;rw[if_pos rfl,sl];dsimp only;rw[U];dsimp only;refine c7 (wpAny_isSame_ref_self ?_);refine c7 (d9 ?_);rw[if_pos rfl];dsimp only;rw[if_neg (by decide)];refine ih (p+1) (some _) m5 (by lia) rfl λd i' e G r l B=>?_;by_cases z:d<p
      ·exact J d i' e z r l B
      ·obtain rfl:d=p:=by lia
       rw[aE8 h.ris r m6,U] at l;cases l;exact c ((ElT.inj ⟨a',rfl,kb,e2⟩ B))
 exact O _ 0 none (bAG _) (by rcases h.msk with e|e|e <;> rw[e] at n1 <;> lia) rfl λp i e z=>by lia
theorem aBp {α β:Type}{R:α->β->Prop}{a:α}{b:β}(r:R a b):∀{as:List α} {bs:List β},Paired R as bs->∀p,Paired R (as.take p++a::as.drop p) (bs.take p++b::bs.drop p)
 |_,_,.nil,p=>by rw[bD1,bD1,List.drop_nil,List.drop_nil];exact .cons r .nil
 |_,_,.cons q t,0=>.cons r (.cons q t)
 |_,_,.cons q t,p+1=>.cons q (aBp r t p)
def aIw {α:Type}(l:List α)(x:α)(p:Nat):(l.take p++x::l.drop p).Perm (l++[x]):=
 List.perm_middle.trans (by rw[bES];exact (List.perm_append_singleton x l).symm)
def SetT (knd:KeyKind prog w κ)(T:List κ->Addr->Prop)(h0 h:Heap)(D:Addr)(kl:List (List κ)):Prop:=∃o es ep t,h.get? D=some o/\o.ExactSet/\o.data=.set es ep t/\TI (byT w) t es/\Paired (ElT knd T h0) kl es.toList
def aU2 {D:Addr}{o:Obj}{es:Array (Int × Value)}{ep n m:Nat}{t:SetTable}{Q:Unit->Shared->Prop}(j:s.heap.get? D=some o)(hd:o.data=.set es ep t)(u:t.fits es.size=true)(c:Msk m)(r:SetTable.sizeAbove n=m+1)(v:5 * es.size<3 * m)(p:byT w=false->t.led=true)
  (h:∀es' t',es'.toList.Perm es.toList->TI (byT w) t' es'->Q () { s with heap:=s.heap.update D (Obj.putSet es' t') }):wpAny (model prog w) A (setRelay D n) Q E s:=by
 unfold setRelay;refine c7 (bBL j hd u ?_);dsimp only;have q:es.size<=m:=by lia
 obtain⟨f,b,k,i,_,g,l⟩:=aWz c es q t.finger (t.movedTo m) t.led t.plain;have d:(b.filterMap (es[·]?)).size=es.size:=by rw[<-t8,g.length_eq,t8]
 rw[if_neg (by rw[r,sizeLine_eq];rcases c with e|e|e <;> lia)];refine c7 (bEC (a:=(b.filterMap (es[·]?),⟨m,f,#[],t.finger,t.led,t.movedTo m,t.plain⟩)) ?_ (bFF j hd (h _ _ g ⟨p,rfl,c,i,l,by rw[d];exact v⟩) (by rw[d,sizeLine_eq];rcases c with e|e|e <;> lia)));rw[show t.relaid (es.map (·.1)) n=some (⟨m,f,#[],t.finger,t.led,t.movedTo m,t.plain⟩,b) by unfold SetTable.relaid;rw[r];exact k];show (if ((b.filterMap (es[·]?)).size != es.size)=true then _ else pure _)=_;exact if_neg (by simp[d])
def aU0 {D a:Addr}{H:List (List κ)}{k:List κ}{h0:Heap}{Q:Bool->Shared->Prop}(hu:A.units<cLine)(B:Ex h0 s.heap)(M:IsTupleKey knd h0 k a)(hT:T k a)(hS:SetT knd T h0 s.heap D H)(hroom:H.length<76)
  (h:∀h' tk kl' b,Heap.SameBut D s.heap h'->SetT knd T h0 h' D kl'->kl'.Perm (if k∈H then H else H++[k])->Q b { s with heap:=h',toks:=tk }):wpAny (model prog w) A (setAdd D (.ref a)) Q E s:=by
 obtain⟨o,f,ep,t,F,y,hd,g,W⟩:=id hS;have hn:H.length=f.size:=by rw[Paired.length W,t8]
 unfold setAdd;refine bAS (c7 (wpAny_pyHash_tuple hu (aEa B M) ?_));generalize s.toks+_=tk;unfold setAddHashed setAddHashedIn;refine bAS (c7 (bBL F hd g.fits ?_));dsimp only;rw[if_neg (by unfold byScan;simp[Value.scannable])];refine c7 (aP0 (s:={ s with toks:=tk }) F hd g B hu M W (λz=>?_) λz j hj hr=>?_)
 ·exact d9 (h s.heap tk H false (Heap.SameBut.refl D s.heap) hS (by rw[if_pos z]))
 ·dsimp only;have bl:=(oY g.ris j).1;have lp:(SetTable.insertAt t.place (SetTable.below t.place j) j).toList=_:=oF _ _ _ bl;have V:(SetTable.insertAt f (SetTable.below t.place j) (tupleKeyHash knd k,Value.ref a)).toList=_:=oF f _ _ (by rw[<-g.len];exact bl);have nj:t.place[SetTable.below t.place j]?≠some j:=λq=>hj (by simpa using bDR q);have u:∀x,x∈t.place.toList->x∈(SetTable.insertAt t.place (SetTable.below t.place j) j).toList:=λx hx=>by rw[lp,(aIw _ _ _).mem_iff];exact bBX _ hx
  have r:Paired (λi (e:Int × Value)=>Rch t.mask (SetTable.insertAt t.place (SetTable.below t.place j) j).toList e.1 i) (SetTable.insertAt t.place (SetTable.below t.place j) j).toList (SetTable.insertAt f (SetTable.below t.place j) (tupleKeyHash knd k,Value.ref a)).toList:=by
   rw[V];generalize (SetTable.insertAt t.place (SetTable.below t.place j) j).toList=L at lp u ⊢;refine (?_:∀L',L'=L->Paired (λi (e:Int × Value)=>Rch t.mask L e.1 i) L' _) L rfl;rintro L' rfl
   conv=>arg 2;rw[lp]
   exact aBp (R:=λi (e:Int × Value)=>Rch t.mask L' e.1 i) (hr.mono u) (g.pr.mono λ_ _ q=>q.mono u) _
  obtain⟨kl',n,pm⟩:=nH (V ▸ aIw f.toList _ _:(SetTable.insertAt f (SetTable.below t.place j) (tupleKeyHash knd k,Value.ref a)).toList.Perm _) (tU W (show ElT knd T h0 k (tupleKeyHash knd k,Value.ref a) from ⟨a,rfl,⟨M,hT⟩,rfl⟩));generalize O:SetTable.insertAt f (SetTable.below t.place j) (tupleKeyHash knd k,Value.ref a)=es1 at V r n;have sz:es1.size=f.size+1:=by rw[<-t8,<-Paired.length n,pm.length_eq,bAB,hn];rfl
  have U:∀pt:SetTable × Nat,pt.1.mask=t.mask->pt.1.place=SetTable.insertAt t.place (SetTable.below t.place j) j->pt.1.dummies=#[]->pt.1.led=t.led->pt.2=SetTable.below t.place j->wpAny (model prog w) A (do
    let byValue <-if pt.1.plain then hashByValue 8 (Value.ref a) else pure true
    let t:=if byValue then pt.1 else { pt.1 with plain:=false }
    storeSet D (SetTable.insertAt f pt.2 (tupleKeyHash knd k,Value.ref a)) t
    if !false && t.tooFull then setRelay D (SetTable.grown (f.size+1))
    return true) Q E { s with toks:=tk }:=by
   intro ⟨K,p⟩ f1 f2 f3 f4 f5;dsimp only at f1 f2 f3 f4 f5 ⊢;subst f5;rw[O];have l:∀d:SetTable,d.mask=t.mask->d.place=K.place->d.dummies=#[]->d.led=t.led->wpAny (model prog w) A (do
     storeSet D es1 d
     if !false && d.tooFull then setRelay D (SetTable.grown (f.size+1))
     return true) Q E { s with toks:=tk }:=by
    intro d C J P g4;have tf:d.tooFull=decide (5 * es1.size ≥ 3 * t.mask):=by
     unfold SetTable.tooFull SetTable.fill;rw[C,J,P,f2,<-t8,r.length,t8]
     congr 1
     simp only[j7,bCT,Nat.add_zero];rw[Nat.mul_comm,Nat.mul_comm t.mask]
    have rm:=g.room;have ft:d.fits es1.size=true:=by unfold SetTable.fits SetTable.fill;rw[C,J,P,f2,<-t8,r.length,t8];simp;lia
    have Z:=putSet_of es1 d hd;have I:=bBG (Obj.putSet es1 d) F (by rw[Z];rfl);rw[Z] at I;have G:kl'.Perm (if k∈H then H else H++[k]):=by rw[if_neg z];exact pm
    refine c7 (bFF F hd ?_ (by rw[sz,sizeLine_eq];lia));rw[tf];by_cases c:5 * es1.size ≥ 3 * t.mask
    ·rw[t6 c,if_pos (by rfl)];obtain⟨m,m1,m2,m3⟩:∃m,Msk m/\SetTable.sizeAbove (SetTable.grown (f.size+1))=m+1/\5 * es1.size<3 * m:=by
      rcases g.msk with e|e|e <;> rw[e] at c rm
      ·have:f.size=4:=by lia
       exact⟨31,.inr (.inl rfl),by rw[this];decide +kernel,by lia⟩
      ·have:f.size=18:=by lia
       exact⟨127,.inr (.inr rfl),by rw[this];decide +kernel,by lia⟩
      ·lia
     refine c7 (aU2 (s:={ s with heap:=s.heap.update D (Obj.putSet es1 d),toks:=tk }) I rfl ft m1 m2 m3 (λq=>by rw[g4];exact g.led q) λv N q1 q2=>d9 ?_);obtain⟨Y,S,X⟩:=nH q1 n;have hg2:=bBG (Obj.putSet v N) I rfl;exact h _ tk Y true ((bAY s.heap D (Obj.putSet es1 d)).trans (bAY _ D (Obj.putSet v N))) ⟨_,v,_,N,hg2,y,rfl,q2,S⟩ (X.trans G)
    ·rw[v8 c,if_neg (by decide)];exact d9 (h _ tk kl' true (bAY s.heap D (Obj.putSet es1 d)) ⟨_,es1,_,d,I,y,rfl,⟨λq=>by rw[g4];exact g.led q,P,by rw[C];exact g.msk,by rw[J,f2];exact uX g.ris nj,by rw[C,J,f2];exact r,by rw[C];lia⟩,n⟩ G)
   split
   ·refine c7 (aX0 (s:={ s with toks:=tk }) (aEa B M) λb=>?_);cases b with
    |true=>exact l K f1 rfl f3 f4
    |false=>exact l { K with plain:=false } f1 rfl f3 f4
   ·exact c7 (d9 (l K f1 rfl f3 f4))
  refine c7 (bBL F hd g.fits ?_);exact U (t.put j) rfl rfl (by show (if SetTable.has t.dummies j=true then _ else t.dummies)=#[];rw[g.dm,show SetTable.has #[] j=false by unfold SetTable.has;simp];rfl) rfl rfl
end
end PySem
namespace L2
open PySem PySem.Spec PyProof.Rows
end L2
namespace PySem
open PySem.Spec
def jE:entryFor table "list.remove.loop"=some Builtin.«list.remove.loop»:=entryFor_of_tree (by kernel_rfl)
section
variable {prog:Program}{w:World}{A:Around}{R:Result->Shared->Prop}{s:Shared}{l:Addr}{items:Array Value}{n:Nat}{dd:Option Addr}{sl:Array (Option Value)}{x:Value}{j:Nat}
theorem aD5 (c:s.heap.get? l=some { cls:=Value.type "list",dict:=dd,data:=Data.seq items n,slots:=sl })(e:j<items.size)
  (g:SeqAt.EqAt A.in1 s items[j] x true) (f:∀(m:Nat) (hm:m<items.size),m<j->SeqAt.EqAt A.in1 s items[m] x false) (hsz:items.size<=sizeLine)
  (q:R (.ok (.ret .none)) { s with heap:=s.heap.update l (Obj.mapSeq λxs=>xs.eraseIdxIfInBounds j) }) :
  ∀(k i:Nat),i+k=j->codeAny (model prog w) A (.builtin "list.remove.loop" ⟨[.ref l,x,rawInt (i:Nat)],[]⟩) R s:=by
 intro k
 induction k with
 |zero=>
  intro i d;obtain rfl:i=j:=by lia
  refine bBD jE ?_;rw[bBA MeetsSeq.plain_remove_loop _];show wpAny _ A.in1 (Builtin.List.listItems (.ref l) >>= _) _ _ _;refine c7 (wpAny_listItems c rfl ?_);have b:items[Int.toNat (i:Nat)]?=some items[i]:=by rw[bAR];exact m8 e
  simp only[b];refine c7 (g _ _ _ _ ?_);simp only[if_true];refine c7 (PyProof.Rows.listUpdate_at c rfl ?_ hsz ?_)
  ·rw[bAR];exact d9 q
  ·unfold Array.eraseIdxIfInBounds
   split
   ·rw[Array.size_eraseIdx];lia
   ·lia
 |succ k ih=>
  intro i d;refine bBD jE ?_;rw[bBA MeetsSeq.plain_remove_loop _];show wpAny _ A.in1 (Builtin.List.listItems (.ref l) >>= _) _ _ _;have a:i<items.size:=by lia
  refine c7 (wpAny_listItems c rfl ?_);have b:items[Int.toNat (i:Nat)]?=some items[i]:=by rw[bAR];exact m8 a
  simp only[b];refine c7 (f i a (by lia) _ _ _ _ ?_);refine d9 ⟨bCQ MeetsSeq.plain_remove_loop _,?_⟩;exact ih (i+1) (by lia)
def aD0 (l:Addr)(items:Array Value)(n:Nat)(dd:Option Addr)(sl:Array (Option Value))(x:Value)(j:Nat)(e:j<items.size)(hsz:items.size<=sizeLine) :
  Meets (Builtin.«list.remove» ⟨[.ref l,x],[]⟩) λA R s=>s.heap.get? l=some { cls:=Value.type "list",dict:=dd,data:=Data.seq items n,slots:=sl } /\
   SeqAt.EqAt A.in1 s items[j] x true/\(∀(m:Nat) (hm:m<items.size),m<j->SeqAt.EqAt A.in1 s items[m] x false) /\
   R (.ok (.ret .none)) { s with heap:=s.heap.update l (Obj.mapSeq λxs=>xs.eraseIdxIfInBounds j) }:=by
 intro a w A R s ⟨d,b,c,q⟩;refine d9 ⟨bCQ MeetsSeq.plain_remove_loop _,?_⟩;exact aD5 d e b c hsz q j 0 (by lia)
end
end PySem
namespace L2
open PySem PySem.Spec PyProof.Rows
theorem aB3:∀{xs:List V} {its:List Value},Vals xs its->∀j,Vals (xs.eraseIdx j) (its.eraseIdx j)
 |_,_,.nil,j=>by cases j <;> exact .nil
 |_,_,.cons r t,0=>t
 |_,_,.cons r t,j+1=>.cons r (aB3 t j)
def pF (r:List V):Prop:=∀x∈r,(∃i,x=.int i)\/∃z,x=.str z
def aOe {x y:V}(b:(∃i,x=.int i)\/∃z,x=.str z)(a:(∃i,y=.int i)\/∃z,y=.str z):eqV x y=decide (x=y):=by
 rcases b with⟨i,rfl⟩|⟨z,rfl⟩ <;> rcases a with⟨j,rfl⟩|⟨w,rfl⟩
 ·by_cases e:i=j
  ·subst e;rw[t6 rfl];exact beq_self_eq_true _
  ·rw[v8 λq=>e (V.int.inj q)];exact beq_eq_false_iff_ne.mpr e
 ·rw[v8 λq=>by cases q];rfl
 ·rw[v8 λq=>by cases q];rfl
 ·by_cases e:z=w
  ·subst e;rw[t6 rfl];exact beq_self_eq_true _
  ·rw[v8 λq=>e (V.str.inj q)];exact beq_eq_false_iff_ne.mpr e
def aVn:∀{r q:List V},pF r->pF q->((List.range (min r.length q.length)).all (λj=>eqV (r.getD j .non) (q.getD j .non)) && r.length == q.length)=decide (r=q):=by
 intro r q b f;by_cases e:r=q
 ·subst e;rw[t6 rfl,beq_self_eq_true,Bool.and_true,bBZ];intro j a;rw[List.mem_range,Nat.min_self] at a;rw[j4,d7 a,bBP,aOe (b _ (bAV a)) (b _ (bAV a)),t6 rfl]
 ·rw[v8 e];by_cases l:r.length=q.length
  ·cases h:(List.range (min r.length q.length)).all (λj=>eqV (r.getD j .non) (q.getD j .non)) with
   |false=>rfl
   |true=>refine absurd (List.ext_getElem l λj c d=>?_) e;have:=List.all_eq_true.mp h j (List.mem_range.mpr (by lia));rw[j4,d7 c,bBP,j4,d7 d,bBP,aOe (b _ (bAV c)) (f _ (bAV d))] at this;exact of_decide_eq_true this
  ·rw[show (r.length == q.length)=false from beq_eq_false_iff_ne.mpr l,bE6]
theorem aK5:∀{r q:List V} {its:List Value},Vals r its->Vals q its->pF r->pF q->r=q
 |_,_,_,.nil,.nil,_,_=>rfl
 |x::r,y::q,_,.cons a t,.cons b u,hr,hq=>by
  have e:x=y:=by rcases hr x j6 with⟨i,rfl⟩|⟨z,rfl⟩ <;> rcases hq y j6 with⟨j,rfl⟩|⟨w,rfl⟩ <;> obtain⟨_,a⟩:=a <;> obtain⟨_,b⟩:=b <;> rw[a] at b <;> cases b <;> rfl
  rw[e,aK5 t u (λz c=>hr z (j8 _ c)) λz c=>hq z (j8 _ c)]
section
variable {X:Cx}{bFL:bFJ}{σ:L2.St}{H:Hp}{s:Shared}
def aCo (I:Inv X bFL σ H s){a:Addr}{r q:List V}(w:SqT X.K H a r)(x:SqT X.K H a q)(n:pF r)(t:pF q):r=q:=by
 obtain⟨c,g,f,_⟩:=I.tuple w;obtain⟨d,l,h,_⟩:=I.tuple x;have k:c=d:=by obtain⟨o,i,y,m,j⟩:=f;obtain⟨p,b,v,u,e⟩:=h;rw[i] at b;cases b;rw[j] at e;have:=Data.seq.inj e;simpa using congrArg Array.toList this.1
 subst k;exact aK5 g l n t
def aE3 (I:Inv X bFL σ H s){A:Around}(hA:A.units+2<cLine){x y:V}{v u:Value}{r q:List V}(U:cI X.K H x r)(R:cI X.K H y q)(o:pF r)(l:pF q)(S:RelV x v)(T:RelV y u):SeqAt.EqAt A s v u (decide (r=q)):=by
 obtain⟨a,rfl,m⟩:=U;obtain⟨b,rfl,t⟩:=R;cases S;cases T;obtain⟨c,h,B,_⟩:=I.tuple m;obtain⟨d,n,M,_⟩:=I.tuple t;by_cases e:a=b
 ·subst e;rw[aCo I m t o l,t6 rfl];exact bD4 _
 have O:=h.length;have E:=n.length;refine SeqAt.EqAt.of_refs e ?_;have z:=SeqAt.RcAt.tuples (A:=A) (e:=λj=>eqV (r.getD j .non) (q.getD j .non)) (show s.heap.IsTuple a c.toArray from B) (show s.heap.IsTuple b d.toArray from M) (by lia) λj D L=>by
  rw[j7] at D L;have k:r[j]?=some r[j]:=d7 (by lia);have p:q[j]?=some q[j]:=d7 (by lia);obtain⟨J,g,N⟩:=h.get k;obtain⟨F,f,G⟩:=n.get p;have C:c.toArray[j]=J:=by rw[bCA];exact (List.getElem?_eq_some_iff.mp g).2
  have P:d.toArray[j]=F:=by rw[bCA];exact (List.getElem?_eq_some_iff.mp f).2
  rw[C,P,j4,k,j4,p];have w:=o r[j] (bAV _);have Q:=l q[j] (bAV _);refine aUs N G ?_ ?_
  ·rcases w with⟨i,e⟩|⟨i,e⟩ <;> rw[show (Option.some r[j]).getD V.non=r[j] from rfl,e] <;> rfl
  ·rcases Q with⟨i,e⟩|⟨i,e⟩ <;> rw[show (Option.some q[j]).getD V.non=q[j] from rfl,e] <;> rfl
 rw[j7,j7,<-O,<-E,aVn o l] at z;exact z
def aPk (I:Inv X bFL σ H s){A:Around}(O:A.units+2<cLine){us:List V}{its:List Value}{rs:List (List V)}(G:Vals us its)(h:Al2 (cI X.K H) us rs)(M:∀r∈rs,pF r){y:V}{u:Value}{q:List V}(N:cI X.K H y q)(F:pF q)(Q:RelV y u):∃e:Value->Bool,(∀v∈its,SeqAt.EqAt A s v u (e v))/\its.any e=decide (q∈rs):=by
 have n:∀v∈its,∃(i:Nat) (x:V) (r:List V),us[i]?=some x/\rs[i]?=some r/\cI X.K H x r/\RelV x v:=λv c=>by
  obtain⟨i,o⟩:=List.mem_iff_getElem?.mp c;have j:i<us.length:=by rw[G.length];exact (List.getElem?_eq_some_iff.mp o).1
  obtain⟨r,w,D⟩:=h.at (d7 j);obtain⟨P,m,f⟩:=G.get (d7 j);rw[o] at m;cases m;exact⟨i,_,r,d7 j,w,D,f⟩
 refine⟨λv=>@decide (∃x,cI X.K H x q/\RelV x v) (Classical.propDecidable _),λv c=>?_,?_⟩
 ·obtain⟨i,x,r,_,t,p,k⟩:=n v c;have J:=M r (t7 t);have e:@decide (∃x,cI X.K H x q/\RelV x v) (Classical.propDecidable _)=decide (r=q):=by
   by_cases z:r=q
   ·subst z;rw[t6 rfl];exact @decide_eq_true _ (Classical.propDecidable _) ⟨x,p,k⟩
   ·rw[v8 z];refine @decide_eq_false _ (Classical.propDecidable _) λ⟨L,g,d⟩=>z ?_;obtain⟨a,rfl,B⟩:=p;obtain⟨b,rfl,E⟩:=g;have C:v=.ref a:=k;have l:v=.ref b:=d;rw[C] at l;cases l;exact aCo I B E J F
  show SeqAt.EqAt A s v u (@decide (∃x,cI X.K H x q/\RelV x v) (Classical.propDecidable _));rw[e];exact aE3 I O p N J F k Q
 ·by_cases z:q∈rs
  ·rw[t6 z];obtain⟨i,o⟩:=List.mem_iff_getElem?.mp z;have j:i<us.length:=by rw[h.len];exact (List.getElem?_eq_some_iff.mp o).1
   obtain⟨r,w,D⟩:=h.at (d7 j);rw[o] at w;cases w;obtain⟨v,c,f⟩:=G.get (d7 j);exact List.any_eq_true.mpr ⟨v,t7 c,@decide_eq_true _ (Classical.propDecidable _) ⟨_,D,f⟩⟩
  ·rw[v8 z];refine List.any_eq_false.mpr λv c hd=>z ?_;obtain⟨L,g,d⟩:=@of_decide_eq_true _ (Classical.propDecidable _) hd;obtain⟨i,x,r,_,t,p,k⟩:=n v c;obtain⟨a,rfl,B⟩:=p;obtain⟨b,rfl,E⟩:=g;have C:v=.ref a:=k;have l:v=.ref b:=d;rw[C] at l;cases l;rw[<-aCo I B E (M r (t7 t)) F];exact t7 t
end
def aT4 (K:bFH):R2:=λx y H Q=>∃(l:Addr) (us:List V) (rs:List (List V)) (q:List V),y=.ref l/\SqL K H l us/\Al2 (cI K H) us rs/\(∀r∈rs,pF r)/\cI K H x q/\pF q/\Q (.bl (!decide (q∈rs))) H
def aNv {X:Cx}(hu:X.A.units+64<cLine):OpR X (compareOp .NotIn) (aT4 X.K):=by
 intro j s σ H x y v u Q I f w h;obtain⟨l,B,p,q,rfl,o,g,d,r,i,k⟩:=h;cases w;obtain⟨a,c,b,_⟩:=I.list o;obtain⟨e,t,m⟩:=aPk I (A:=X.A.in1) (show X.A.units+1+2<cLine by lia) c g d r i f;refine SeqAt.notIn_listAt e b.isList (λy n=>t y (by simpa using n)) ?_;have z:a.toArray.any e=decide (q∈p):=by rw[<-m];simp
 rw[z];exact⟨.bl _,H,I,rfl,k⟩
def bB4 (K:bFH):V->List V->Hp->VK->Prop:=λx vs H Q=>∃l us y rs q j,x=.ref l/\vs=[y]/\H l=some (.lst us)/\Al2 (cI K H) us rs/\(∀r∈rs,pF r)/\cI K H y q/\pF q/\rs[j]?=some q/\(∀m r,m<j->rs[m]?=some r->r≠q)/\Q .non (upd H l (.lst (us.eraseIdx j)))
def aVm {X:Cx}(hu:X.A.units+64<cLine):MtR X "list.remove" (bB4 X.K):=by
 intro O s σ H x vs v W Q I M T h;obtain⟨l,E,y,G,q,j,rfl,rfl,C,D,J,P,N,p,R,k⟩:=h;cases M;obtain⟨u,rfl,Y⟩:=T.one;obtain⟨z,a,n,r,hl,e⟩:=I.aQw C;have lx:=D.len;have f:j<a.toArray.size:=by rw[j7];have:=(List.getElem?_eq_some_iff.mp p).1;lia
 have g:∀(m:Nat) (o:m<a.toArray.size) (b:List V),G[m]?=some b->SeqAt.EqAt X.A.in1 s a.toArray[m] u (decide (b=q)):=λm o b d=>by
  have c:m<E.length:=by rw[j7] at o;lia
  obtain⟨Z,i,w⟩:=D.at (d7 c);rw[d] at i;cases i;obtain⟨S,B,U⟩:=r.get (d7 c);have L:a.toArray[m]=S:=by rw[bCA];exact (List.getElem?_eq_some_iff.mp B).2
  rw[L];exact aE3 I (show X.A.units+1+2<cLine by lia) w P (J b (t7 d)) N U Y
 refine call_meets F.slot_list_remove ⟨_,e,rfl⟩ F.entry_list_remove (F.args_list_remove_2 _ _) (aD0 l a.toArray n none #[] u j f (by rw[j7];lia)) ⟨e,?_,λm o t=>?_,?_⟩
 ·have:=g j f q p;rw[t6 rfl] at this;exact this
 ·obtain⟨b,d⟩:∃b,G[m]?=some b:=⟨_,d7 (by have:=(List.getElem?_eq_some_iff.mp p).1;lia)⟩;have:=g m o b d;rw[v8 (R m b t d)] at this;exact this
 ·refine⟨.non,_,I.lset (its':=a.eraseIdx j) C e ?_ ?_ ?_,rfl,k⟩
  ·show a.toArray.eraseIdxIfInBounds j=(a.eraseIdx j).toArray;rw[bEQ]
  ·exact aB3 r j
  ·have:=bED E j;lia
def aQt {X:Cx}:MtR X "list.pop" aU7:=aVb
end L2
namespace PySem
section
variable {prog:Program}{w:World}{κ:Type}[DecidableEq κ]{knd:KeyKind prog w κ}{T:List κ->Addr->Prop}
def aZq {A:Around}(hu:A.units+10<cLine)(h0:Heap)(D:Addr):Kset prog w (List κ) A h0 D (λh kl=>SetT knd T h0 h D kl) (λk v=>∃a,v=.ref a/\IsTupleKey knd h0 k a/\T k a) 75:=
 ⟨λ⟨o,m,l,t,s,r⟩ e=>⟨o,m,l,t,e o s,r⟩,λE y ⟨a,e,g,B⟩ j C q=>by subst e;exact aU0 (by lia) y g B j (by lia) λi p d b n x f=>q i p d b n x (by split <;> rename_i c <;> simp only[c,if_true,if_false] at f <;> exact f),
 λz=>⟨_,#[],0,_,z,⟨rfl,rfl,rfl⟩,rfl,⟨λe=>by show (!byT w)=true;rw[e];rfl,rfl,.inl rfl,λa b u=>absurd u (by show ¬ (a<0);lia),.nil,by show 5 * 0<3 * 7;decide⟩,.nil⟩⟩
end
end PySem
namespace L2
open PySem PySem.Spec PyProof.Rows PySem.Calls
def aT2 (w:World)(D:Addr)(as:List Addr):HO:=.ext λh=>∃o es ep t,h.get? D=some o/\o.ExactSet/\o.data=.set es ep t/\t.fits es.size=true/\TabOk (byT w) t/\es.toList.map (·.2)=as.map Value.ref
section
variable {X:Cx}{bFL:bFJ}{σ:L2.St}{H:Hp}{s:Shared}
theorem aUw {r:List V}(h:pF r):∃k:List Key,r=k.map kV:=by
 induction r with
 |nil=>exact⟨[],rfl⟩
 |cons x r ih=>
  obtain⟨k,rfl⟩:=ih λy a=>h y (j8 _ a);rcases h x j6 with⟨i,rfl⟩|⟨z,rfl⟩
  ·exact⟨.inl i::k,rfl⟩
  ·exact⟨.inr z::k,rfl⟩
theorem bBf {a b:List Key}(h:a.map kV=b.map kV):a=b:=by
 induction a generalizing b with
 |nil=>cases b with
  |nil=>rfl
  |cons=>cases h
 |cons x a ih=>cases b with
  |nil=>cases h
  |cons y b=>injection h with h1 h2;rw[aZj h1,ih h2]
theorem aVi (I:Inv X bFL σ H s){a:Addr}{k:List Key}(h:SqT X.K H a (k.map kV)):IsTupleKey (bL X.prog X.w) s.heap k a:=by
 obtain⟨b,e,⟨o,c,d,n,hd⟩,z⟩:=I.tuple h;clear z;refine⟨o,_,n,c,d,hd,?_⟩;clear h c d hd;show ItemsAre _ k b
 induction k generalizing b with
 |nil=>cases e;exact .nil
 |cons x k ih=>
  cases e with
  |cons p q=>exact .cons (aN4 (X:=X) p).1 (ih _ q)
def bBv (w:World)(K:bFH):List V->Hp->VK->Prop:=λxs H Q=>∃(p:Addr) (us:List V) (rs:List (List V)),xs=[.ref p]/\SqL K H p us/\Al2 (cI K H) us rs/\(∀r∈rs,pF r)/\us.length<=75/\∀D H' as qs,H D=none->Same H H'->H' D=some (aT2 w D as)->Al2 (cI K H) (as.map .ref) qs->Ded qs rs->Q (.ref D) H'
def aE7 (hc:X.calm=true)(hU:X.A.units+64<cLine):cO X (.type "set") (bBv X.w X.K):=by
 intro a0 s σ H xs a1 Q I r h;obtain⟨p,us,O,rfl,hq,M,fl,hl,q⟩:=h;obtain⟨u,rfl,rx⟩:=r.one;cases rx;obtain⟨L,S,pl,hz⟩:=I.list hq;have m:=S.length;have j:=M.len;obtain⟨ks,rfl⟩:∃ks:List (List Key),O=ks.map (·.map kV):=by
  clear M j q
  induction O with
  |nil=>exact⟨[],rfl⟩
  |cons r O ih=>obtain⟨ks,rfl⟩:=ih λy hy=>fl y (j8 _ hy);obtain⟨k,rfl⟩:=aUw (fl r j6);exact⟨k::ks,rfl⟩
 rw[j9] at j;refine aFg (ks:=ks) (I.ok.hd hc) (aZq (knd:=bL X.prog X.w) (T:=λk a=>cI X.K H (.ref a) (k.map kV)) (by lia) s.heap s.heap.objs.size) pl.isList (by rw[j7];lia) (λi v hv=>?_) (by rw[j7,<-m];exact hl) λh' tk kl x n kp=>?_
 ·have C:L[i]?=some v:=by simpa using hv
  have V:i<ks.length:=by have:=(List.getElem?_eq_some_iff.mp C).1;lia
  have D:i<us.length:=by lia
  obtain⟨u,R,Z⟩:=S.get (d7 D);rw[C] at R;cases R;have c:=M.get (d7 D) (show (ks.map (·.map kV))[i]?=some (ks[i].map kV) by rw[v6,d7 V];rfl);obtain⟨a,E,ha⟩:=id c;rw[E] at Z c;cases Z;exact⟨ks[i],d7 V,a,rfl,aVi I ha,c⟩
 ·obtain⟨o,B,N,t,P,G,hd,J,W⟩:=x;obtain⟨d,E,F⟩:∃d:List Addr,B.toList.map (·.2)=d.map Value.ref/\Al2 (cI X.K H) (d.map .ref) (kl.map (·.map kV)):=by
   clear n q J hd;generalize B.toList=l at W
   induction W with
   |nil=>exact⟨[],rfl,.nil⟩
   |cons r _ ih=>obtain⟨d,f,g⟩:=ih;obtain⟨a,e1,⟨_,ht⟩,_⟩:=r;exact⟨a::d,by rw[bAN,bAN,e1,f],.cons ht g⟩
  have Y:H s.heap.objs.size=none:=I.hok.fresh (j0 _);refine⟨.ref s.heap.objs.size,_,I.laid (t':=tk) (o:=aT2 X.w s.heap.objs.size d) (λb o U=>kp b o (m9 U) U) (j0 _) ⟨⟨o,B,N,t,P,G,hd,J.fits,J.tab,E⟩,⟨o,P⟩,λf g ⟨o,B,N,t,y,z⟩ k=>⟨o,B,N,t,k o y,z⟩⟩,rfl,q _ _ d _ Y (bC Y _) aH F ⟨?_,λk=>?_,?_⟩⟩
  ·exact List.pairwise_map.mpr (n.1.imp λh e=>h (bBf e))
  ·rw[List.mem_map,List.mem_map];exact⟨λ⟨x,f,g⟩=>⟨x,(n.2.1 x).mp f,g⟩,λ⟨x,f,g⟩=>⟨x,(n.2.1 x).mpr f,g⟩⟩
  ·rw[j9,j9];exact n.2.2
def aRh (w:World)(K:bFH):List V->Hp->VK->Prop:=λxs H Q=>∃(D:Addr) (as:List Addr) (rs:List (List V)) (ks:List Bool),xs=[.ref D]/\H D=some (aT2 w D as)/\Al2 (cI K H) (as.map .ref) rs/\as.length<64/\ks≠[]/\(∀r∈rs,KdR ks r) /\
 ∀(B:Addr) (H':Hp) us',H B=none->Same H H'->H' B=some (.lst us')->Al2 (cI K H) us' (srt rs)->Q (.ref B) H'
theorem aT0 {α β:Type}{R:α->β->Prop}{as' as:List α}(p:as'.Perm as):∀{bs:List β},Al2 R as bs->∃bs',Al2 R as' bs'/\bs'.Perm bs:=by
 induction p with
 |nil=>intro bs h;exact⟨bs,h,.refl _⟩
 |cons x _ ih=>
  intro bs h;cases h with
  |cons r t=>obtain⟨bs',a,b⟩:=ih t;exact⟨_,.cons r a,b.cons _⟩
 |swap x y l=>
  intro bs h;cases h with
  |cons r t=>
   cases t with
   |cons r2 t2=>exact⟨_,.cons r2 (.cons r t2),.swap ..⟩
 |trans _ _ ih1 ih2=>intro bs h;obtain⟨f,a,b⟩:=ih2 h;obtain⟨d,c,e⟩:=ih1 a;exact⟨d,c,e.trans b⟩
def uN (hc:X.calm=true):cO X (.builtin "sorted") (aRh X.w X.K):=by
 intro J s σ H xs a1 Q I r h;obtain⟨D,L,a2,ks,rfl,hD,M,a0,Y,S,q⟩:=h;obtain⟨u,rfl,rx⟩:=r.one;cases rx;obtain⟨o,es,ep,t,ho,R,hd,hf,T,Z⟩:=(I.hok D _ hD).1;have hl:es.size=L.length:=by have:=congrArg List.length Z;simpa using this
 refine call_function_entry kind_sorted plain_sorted entry_sorted (args_sorted1 _) ?_;unfold Builtin.«sorted»;refine c7 (m:=checkCount "sorted" 1 1 _) (d9 (c7 (xX (A:=X.A.in1) (I.ok.hd hc) ⟨o,ho,R,hd,hf⟩ T (by lia) λx E P d hk hp=>?_)));obtain⟨c,e1,O⟩:∃c:List Addr,d.map (·.2)=c.map Value.ref/\c.Perm L:=by
  have F:(d.map (·.2)).Perm (L.map Value.ref):=Z ▸ hp.map _;have k:∀v∈d.map (·.2),∃a,v=Value.ref a:=λv G=>by obtain⟨a,_,e⟩:=List.mem_map.mp (F.mem_iff.mp G);exact⟨a,e.symm⟩
  generalize d.map (·.2)=l at F k;have un:∃c:List Addr,l=c.map Value.ref:=by
   clear F
   induction l with
   |nil=>exact⟨[],rfl⟩
   |cons v l ih=>obtain⟨c,rfl⟩:=ih λv G=>k v (j8 _ G);obtain⟨a,rfl⟩:=k v j6;exact⟨a::c,rfl⟩
  obtain⟨c,rfl⟩:=un;refine⟨c,rfl,?_⟩;have:=F.filterMap λv=>match v with|Value.ref a=>some a|_=>none
  simpa [bD8,Function.comp_def] using this
 rw[e1];obtain⟨g,y,N⟩:=aT0 (O.map V.ref) M;have n:∀r∈g,KdR ks r:=λr y=>S r (N.mem_iff.mp y);have ul:=O.length_eq;have rv:Vals (c.map .ref) (c.map Value.ref):=by
  clear y g N n O ul e1
  induction c with
  |nil=>exact .nil
  |cons a c ih=>exact .cons rfl ih
 have rl:g.length=c.length:=by have:=y.len;rw[j9] at this;exact this.symm
 have U:Inv X J σ H { s with heap:=x,toks:=E,drawn:=P }:=(I.kept (t':=E) hk).drew P;have e3:=sI n N;refine c7 (wpAny_newList ?_ (by rw[sizeLine_eq,j9];lia));have p:(x.push (seqObj "list" (c.map Value.ref).toArray 0)).get? x.objs.size=some (seqObj "list" (c.map Value.ref).toArray 0):=j5 _ rfl;refine c7 (bAS (bAE slot_list_sort ⟨_,p,rfl⟩ entry_list_sort (PySem.W.qP (f:=λi j=>rlt (g.getD i []) (g.getD j [])) (s:={ s with heap:=x.push (seqObj "list" (c.map Value.ref).toArray 0),toks:=E,drawn:=P }) p (by rw[j9];lia) (λh2 h' kp=>aIu U rv y Y n _ h2 h' λb o e=>kp b o (v5 (m9 e)) (d8 _ e)) ⟨_,rfl,d9 ⟨_,rfl,?_⟩⟩) (args_list_sort _)));obtain⟨e,he⟩:=sortedHeap_at (out:=List.toArray ((PySem.W.dN (c.map Value.ref).length λi j=>rlt (g.getD i []) (g.getD j [])).map λi=>(c.map Value.ref).getD i Value.none)) p;have z:H x.objs.size=none:=U.hok.fresh (j0 _);have B:∀i∈PySem.W.dN g.length (λi j=>rlt (g.getD i []) (g.getD j [])),i<(c.map V.ref).length:=λi hi=>by have:=PySem.W.oV hi;rw[j9];lia
 refine⟨.ref x.objs.size,_,U.laid (t':=E) (o:=.lst ((PySem.W.dN g.length λi j=>rlt (g.getD i []) (g.getD j [])).map λi=>(c.map V.ref).getD i .non)) (λb o q=>?_) (j0 _) ?_,rfl,q _ _ _ z (bC z _) aH (e3 ▸ aEj y _ B)⟩
 ·have C:=m9 q;show (sortedHeap _ _ _ _).get? b=some o;rw[sortedHeap_old (v5 C) (by rw[size_push'];exact bBF C)];exact d8 _ q
 ·refine⟨small (by rw[j9,PySem.W.uC];lia),_,e,?_,he⟩;rw[j9,<-rl];exact aFc rv _ B
end
end L2
namespace My
open PySem PySem.Spec PyProof.Rows L2
section
variable {P:Program}{w:World}{K:bFH}{mg:bFK}{base:Heap}
def lC.tk {H H':Hp}{v:V}{c:V × Int}(e:TK K H H')(h:lC K H v c):lC K H' v c:=by obtain⟨p,rfl,a⟩:=h;exact⟨p,rfl,e _ _ a⟩
theorem rA.tk {H H':Hp}{v:V}{pl:Plc}(e:TK K H H')(h:rA K H v pl):rA K H' v pl:=by
 cases pl with
 |copies=>obtain⟨a,rfl,b⟩:=h;exact⟨a,rfl,e _ _ b⟩
 |keys n=>obtain⟨a,rfl,b⟩:=h;exact⟨a,rfl,e _ _ b⟩
 |spans n h0 cs=>obtain⟨a,d,rfl,b,c⟩:=h;exact⟨a,d,rfl,e _ _ b,aPo e (λ_ _ z=>z.tk e) c⟩
structure KP (K:bFH)(S:Addr->Prop)(H H':Hp):Prop where
 st:∀b o,S b->H b=some o->H' b=some o
 tk:TK K H H'
section
variable {S:Addr->Prop}{H H':Hp}
def KP.same (s:Same H H'):KP K S H H':=⟨λb o _ h=>s b o h,.of s⟩
def KP.trans {H2:Hp}(k:KP K S H H')(l:KP K S H' H2):KP K S H H2:=⟨λb o h e=>l.st b o h (k.st b o h e),λp a e=>l.tk p a (k.tk p a e)⟩
theorem KP.mV {D:Addr}{ys zs:List V}(d:H D=some (.lst ys))(n:¬ S D):KP K S H (L2.upd H D (.lst zs)):=⟨λb o h e=>by have a:b≠D:=λz=>n (z ▸ h);rw[aP a];exact e,λp c e=>SqT.mV d e⟩
def KP.bBo {D:Addr}{u:HO}(d:eQ H D)(n:¬ S D):KP K S H (L2.upd H D u):=⟨λb o h e=>by have a:b≠D:=λz=>n (z ▸ h);rw[aP a];exact e,λp c e=>But.bA But.upd d e⟩
def KP.fx {a:Addr}(f:Fx a H H')(h:iK H a)(n:¬ S a):KP K S H H':=⟨λb o c e=>f.same b o (λz=>n (z ▸ c)) e,f.tk h⟩
def KP.mono {S':Addr->Prop}(k:KP K S H H')(h:∀b,S' b->S b):KP K S' H H':=⟨λb o s e=>k.st b o (h b s) e,k.tk⟩
def bY.kp {L:Addr}{rs:List (List V)}(k:KP K S H H')(s:S L)(h:bY K H L rs):bY K H' L rs:=by obtain⟨a,b,c⟩:=h;exact⟨a,k.st _ _ s b,c.imp λ_ _ ⟨p,e,d⟩=>⟨p,e,k.tk _ _ d⟩⟩
end
theorem oX.kp {S:Addr->Prop}{H H':Hp}{v vh vp:V}{L:Addr}{t:Tb}(k:KP K S H H')(s:S L)(h:oX K H v vh vp L t):oX K H' v vh vp L t:=by obtain⟨a,e,d,f,b,c⟩:=h;exact⟨a,e,k.tk _ _ d,f.tk k.tk,b.tk k.tk,c.kp k s⟩
theorem mL.kp {S:Addr->Prop}{H H':Hp}{d:Addr}{es:List En}(k:KP K S H H')(b:S d)(c:∀e∈es,S e.L)(h:mL K H d es):mL K H' d es:=⟨k.st _ _ b h.at_,h.nd,h.few,h.nm,λe a=>(h.tb e a).kp k (c e a)⟩
def qF {n:Nat}(h:n<1000):n<sizeLine:=bAA h (by decide)
def pU {hd:Hdr}{r:List V}(h:jQ hd r):pF r:=λx a=>aR0 (gC h) x a
def aPf {α:Type}{xs:List α}{x:α}(h:xs[xs.length - 1]?=some x):atI xs (-1)=some x:=by have a:xs.length - 1<xs.length:=(List.getElem?_eq_some_iff.mp h).1;unfold atI ixN;rw[if_neg (by decide),if_pos (by lia)];show xs[((-1:Int)+(xs.length:Int)).toNat]?=some x;rw[show ((-1:Int)+(xs.length:Int)).toNat=xs.length - 1 by lia];exact h
theorem aEk {α β:Type}{R:α->β->Prop}{as:List α}{bs:List β}(h:cV R as bs):∀n,cV R (as.take n) (bs.take n):=by
 induction h with
 |nil=>intro n;rw[bD1,bD1];exact .nil
 |cons r _ ih=>
  intro n;cases n with
  |zero=>exact .nil
  |succ n=>exact .cons r (ih n)
theorem bM.kp {S:Addr->Prop}{H H':Hp}{C x d dm:Addr}{m:Int}{es:List En}(k:KP K S H H')(b:S x)(a:S d)(c:∀e∈es,S e.L)(h:bM K H C x m d dm es):bM K H' C x m d dm es:=
 ⟨let ⟨dx,h1⟩:=h.at_;⟨dx,k.st _ _ b h1⟩,h.ens.kp k a c,h.ok,h.ne⟩
def bM.mv {H:Hp}{C x d f:Addr}{m:Int}{es:List En}{kvs kvs':List (Key × V)}(h:bM K H C x m d f es)(g:H f=some (.dK kvs)):KP K (λb=>b≠f) H (L2.upd H f (.dK kvs'))/\bM K (L2.upd H f (.dK kvs')) C x m d f es:=by
 have k:KP K (λb=>b≠f) H (L2.upd H f (.dK kvs')):=.bBo (eQ.dK g) λz=>z rfl;refine⟨k,h.kp k (λz=>?_) h.ne λe i z=>?_⟩
 ·obtain⟨l,c⟩:=h.at_;rw[z,g] at c;cases c
 ·obtain⟨_,_,_,_,_,j,a,_⟩:=h.ens.tb e i;rw[z,g] at a;cases a
def oA (num:Nat)(h0:Int)(cs:List (V × Int)):Int:=(((V.non,h0)::cs).map (·.2)).getD num 0
def aOh (K:bFH)(C:Addr):Sp:=λvs H Q _=>∃(x d dm:Addr) (m:Int) (es:List En) (e:En) (n:Str) (h0:Int) (cs:List (V × Int)) (num:Nat) (house:Int),vs=[.ref x,.str e.n,.int num,.int house]/\bM K H C x m d dm es/\e∈es/\e.t.pl=.spans n h0 cs/\H dm=some (.dK [])/\num<=cs.length/\0<=house/\house<m/\house≠oA num h0 cs /\
 ∀H',KP K (λb=>b≠dm) H H'->bM K H' C x m d dm es->MvD K H' dm e.n (some ⟨num,house,none⟩)->Q .non H'
def aS9 (T:Txt w K mg){C:Addr}(c:Cls K C)(D:fU K C "lend" "Store.lend" lQ ["self","name","number","house"])(n2:bI K C "house_count")(n3:bI K C "moves")(cW:Ok P w K mg base 2 "is_number_below" ["thing","many"] wL)(j:OkM P w K mg base C 4 "cut_table" ["self","name"] (aGs K C))(g:OkM P w K mg base C 1 "need_still" ["self","name"] (aK1 K C)):OkM P w K mg base C 5 "lend" ["self","name","number","house"] (aOh K C):=by
 refine OkM.ofV c D uT (by trivial) (λf a0 A R s H vs Q E G h=>?_)
 obtain⟨x,d,S,m,es,e,n,h0,W,num,o,rfl,B,X,t,N,hn,b0,b1,U,q⟩:=h;have hu:=sU G;refine⟨_,(aD (aV (i:=4) uT.nd rfl (by trivial) (aK aX (aK aX (dO (j.mono (by decide)) G (vv 0) (aB (vv 1) aA)) aC (λ_ _=>rfl)) aC (λ_ _=>rfl))) (aD (cA (cP (cG (aN (cW.mono (by decide)) G (by rfl) (aB (vv 2) (aB (aM bB (by rfl) T.eX cY (aB (vv 4) aA)) aA))))) (aG eV) aZ) (aD (cA (VW.pt (gJ (cP (cG (aN (cW.mono (by decide)) G (by rfl) (aB (vv 3) (aB (dC (K:=K) (vv 0)) aA))))) (eZ (aY dW (vv 3) (aK aX (aK aX (vv 4) (vv 2) (λ_ _=>rfl)) aC (λ_ _=>rfl)) (aW _))))) (aG eV) aZ) (aD (iR (dO (g.mono (by decide)) G (vv 0) (aB (vv 1) aA))) (aG (aAz hu (dC (K:=K) (vv 0)) (vv 1) (dR (aB (vv 2) (aB (vv 3) (aB jU aA)))))))))),?_⟩;obtain⟨J,I⟩:=B.at_;refine⟨_,rfl,x,J,_,rfl,I,rfl,_,rfl,x,d,S,m,es,e,n,h0,W,rfl,B,X,t,λH1 p=>?_⟩;obtain⟨a,ev,ha,h1,Z,h3⟩:=(B.ens.tb e X).same p;rw[t] at Z;obtain⟨b,vc,eb,hb,⟨ca,r,rfl,u,y⟩⟩:=Z;have lu:=y.len;rw[v9] at lu;refine⟨a,_,1,_,ev,rfl,ha,at1 _ _ _,b,_,2,_,eb,rfl,hb,at2 _ _ _ _,?_⟩;refine⟨_,rfl,_,rfl,ca,r,rfl,.inr u,(num:Int),(r.length:Int),rfl,_,rfl,?_⟩;rw[t6 (show (0:Int)<=num by lia),t6 (show (num:Int)<r.length by lia)];refine bZ ?_;have F:num<r.length:=by lia
 obtain⟨c0,M,pc,L,O⟩:=cJ y (d7 F);have ch:oA num h0 W=c0.2:=by unfold oA;rw[j4,v6,M];rfl
 refine⟨_,rfl,_,rfl,x,C,J,_,_,rfl,p _ _ I,c,n2,rfl,o,m,rfl,_,rfl,?_⟩;rw[t6 b0,t6 b1];refine bZ ?_;refine⟨_,rfl,_,rfl,_,rfl,ca,r,_,r[num],rfl,rfl,u,bV (d7 F),pc,_,1,_,L,rfl,O,at1 _ _ _,rfl,_,rfl,gO (v8 λz=>U (ch ▸ V.int.inj z)) ?_⟩;refine⟨_,rfl,x,J,_,rfl,p _ _ I,rfl,_,rfl,x,d,S,m,es,e.n,rfl,B.same p,p _ _ N,?_⟩;refine⟨_,rfl,_,rfl,by show 3<=sizeLine;decide,λv H2 _ s2 g2=>?_⟩;have l:=p.trans s2;obtain⟨Y,k2⟩:=(B.same l).mv (kvs':=[(Sum.inr e.n,.ref v)]) (l _ _ N);refine⟨_,rfl,x,C,J,_,_,rfl,l _ _ I,c,n3,rfl,_,rfl,S,_,rfl,aJ1.k (k:=Sum.inr e.n) (l _ _ N) (qF (by decide)),?_⟩;rw[show putK [] (Sum.inr e.n:Key) (V.ref v)=[(Sum.inr e.n,.ref v)] from rfl];exact q _ ((KP.same l).trans Y) k2 ⟨.ref v,⟨v,.non,rfl,Y.tk _ _ (SqT.of g2),rfl⟩,aH⟩
theorem aKq {α:Type}{p q:α->Bool}:∀l:List α,(∀x∈l,p x=true->q x=false)->(l.filter p).length+(l.filter q).length<=l.length
 |[],_=>j0 _
 |a::l,h=>by
  have e:=aKq l λx b=>h x (j8 _ b);have c:=h a j6;rw[bDJ,bDJ,v9];cases d:p a with
  |true=>rw[c d];simp;lia
  |false=>cases q a <;> simp <;> lia
theorem aFd {hd:Hdr}{m house h0:Int}{n:Str}{cs:List (V × Int)}{d:Mv}(g:List V->Bool)(b:List (List V))(h:d.house=house)(i:d.house≠oA d.num h0 cs):(b.filter λr=>cF hd m r house (.spans n h0 cs)).length+(b.filter λr=>g r && gF hd n cs d.num r).length<=b.length:=aKq b λr _ c=>by
 cases f:gF hd n cs d.num r with
 |false=>exact bE6 _
 |true=>have e:jN (r.getD (plc hd n) .non) cs 1 0=d.num:=of_decide_eq_true f;have a:=of_decide_eq_true (show decide _=true from c);rw[e] at a;exact absurd (h.trans a.symm) i
def pY (o:Option (List V))(r:List V):Bool:=!sG o r
def oK (hd:Hdr)(m house:Int)(pl:Plc)(o:Option Mv)(n:Str)(cs:List (V × Int))(rows:List (List V)):List (List V):=
 match o with
 |none=>rows.filter λr=>cF hd m r house pl
 |some q=>if q.house=house then srt ((rows.filter λr=>cF hd m r house pl)++rows.filter λr=>pY q.mark r && gF hd n cs q.num r) else rows.filter λr=>cF hd m r house pl
def aBe (K:bFH)(C:Addr):Sp:=λvs H Q _=>∃(x d dm:Addr) (m house:Int) (es:List En) (e:En) (o:Option Mv) (n:Str) (h0:Int) (cs:List (V × Int)),vs=[.ref x,.str e.n,.int house]/\bM K H C x m d dm es/\e∈es/\MvD K H dm e.n o/\e.t.pl=.spans n h0 cs/\(∀mq,o=some mq->mq.house≠oA mq.num h0 cs)/\(∀mq q,o=some mq->mq.mark=some q->jQ e.t.hd q)/\0<=house/\house<m/\∀L H',H L=none->Same H H'->bY K H' L (oK e.t.hd m house e.t.pl o n cs e.t.rows)->Q (.ref L) H'
theorem aJo (T:Txt w K mg){C:Addr}(c:Cls K C)(D:fU K C "stands" "Store.stands" fJ ["self","name","house"])(n1:bI K C "placed")(n2:bI K C "house_count")(cH:Ok P w K mg base 3 "table_in" ["placed","name"] (pH K))(yD:Ok P w K mg base 4 "rows_at" ["table","house","houses"] (yJ K))(g:OkM P w K mg base C 4 "moving" ["self","name"] (zH K C))(sO:Ok P w K mg base 3 "span_rows" ["table","number"] (aCn K))(vA:Ok P w K mg base 1 "is_above" ["row","mark"] (aCl K)):OkM P w K mg base C 5 "stands" ["self","name","house"] (aBe K C):=by
 refine OkM.ofV c D iB (by trivial) (λf a8 A a5 s H vs Q E S h=>?_)
 obtain⟨x,d,dm,m,b,es,e,o,n,h0,M,rfl,F,O,a4,G,a6,a1,b0,b1,q⟩:=h;refine⟨_,(aD (aV (i:=3) iB.nd rfl (by trivial) (aN (cH.mono (by decide)) S (by rfl) (aB (dC (K:=K) (vv 0)) (aB (vv 1) aA)))) (aD (aV (i:=4) iB.nd rfl (by trivial) (aN (yD.mono (by decide)) S (by rfl) (aB (vv 3) (aB (vv 2) (aB (dC (K:=K) (vv 0)) aA))))) (aD (aV (i:=5) iB.nd rfl (by trivial) (dO (g.mono (by decide)) S (vv 0) (aB (vv 1) aA))) (aD (cA (VW.pt (gJ (aY aBc (vv 5) jU (aW _)) (eZ (aY aBl (aK aX (vv 5) aC (λ_ _=>rfl)) (vv 2) (aW _))))) (aG (aL (vv 4))) aZ) (aG (aL (aM eG (by rfl) T.eO dG (aB (bO sS (vv 4) (cL (N:=["row","move"]) (by trivial) (dZ (aF fJ) rfl (by decide +kernel)) rfl (eN (aN (sO.mono (by decide)) S (by rfl) (aB (vv 3) (aB (aK aX (vv 5) aC (λ_ _=>rfl)) aA)))) (λcl s' H' fp=>⟨(aO (i:=0) (show (["row","move"]:List Str).Nodup from by decide +kernel) rfl (Or.inl rfl)),(mJ (cP (cG (aN (vA.mono (by decide)) S (by rfl) (aB (vv 0) (aB (aK (bR (K:=K)) (vv 1) aC (λ_ _=>rfl)) aA)))))),(vv 0)⟩))) aA)))))))),?_⟩;obtain⟨dx,hx⟩:=F.at_;have B:=F.ok e O;refine⟨_,rfl,x,C,dx,_,_,rfl,hx,c,n1,rfl,_,rfl,d,es,e,rfl,F.ens,O,λH1 I=>?_⟩;refine⟨_,rfl,_,rfl,_,rfl,x,C,dx,_,_,rfl,I _ _ hx,c,n2,rfl,e.v,e.vh,e.vp,e.L,e.t,b,m,rfl,(F.ens.tb e O).same I,B,b0,b1,λL H2 hN s2 hR=>?_⟩;have j:=I.trans s2;refine⟨_,rfl,x,dx,_,rfl,j _ _ hx,rfl,_,rfl,x,d,dm,m,es,e,o,rfl,F.same j,O,a4.same j,λv H3 s3 hv=>?_⟩;have k:=j.trans s3;have p:=hR.same s3;cases o with
 |none=>cases hv;exact⟨_,rfl,rfl,_,rfl,nP (t6 rfl) ⟨_,rfl,q L H3 (none_of I hN) k p⟩⟩
 |some mq=>
  obtain⟨a,vm,rfl,ha,hm⟩:=hv;refine⟨_,rfl,rfl,_,rfl,gO (v8 λz=>by cases z) ?_⟩;refine⟨_,rfl,a,_,1,_,rfl,rfl,ha,at1 _ _ _,_,rfl,rfl,_,rfl,?_⟩;by_cases W:mq.house=b
  ·refine gO (by rw[t6 (congrArg V.int W)];rfl) ?_;refine⟨_,rfl,?_⟩;refine iW [none,some (.ref a)] (lB 5 (by decide +kernel) rfl rfl (by trivial)) ?_;refine⟨_,rfl,_,rfl,a,_,0,_,rfl,rfl,ha,at0 _ _,e.v,e.vh,e.vp,e.L,e.t,m,mq.num,n,h0,M,rfl,(F.ens.tb e O).same k,B,G,λD1 H4 ab Z U=>?_⟩;obtain⟨ws,gD,aa⟩:=id U;have X:=k.trans Z;refine⟨D1,rfl,⟨_,SqL.of gD⟩,pW U (bAM (bBH _ _) (by have:=B.few;lia)) (pY mq.mark) rfl (λu r y H' R l sm a0 rr=>?_) λD' H5 ac s5 J=>?_⟩
   ·refine⟨_,rfl,_,rfl,a,_,2,_,rfl,rfl,(Z.trans sm).bA ha,at2 _ _ _ _,u,vm,r,mq.mark,knds e.t.hd,rfl,a0,hm.same (Z.trans sm),gC (B.rows r (List.mem_filter.mp y).1),λq' e'=>gC (a1 mq q' rfl e'),_,rfl,rr H' (Same.refl _)⟩
   ·rw[bDP] at J;obtain⟨u1,g1,h1⟩:=p.same (Z.trans s5);obtain⟨u2,g2,h2⟩:=J;have l1:=h1.len;have l2:=h2.len;have f1:(e.t.rows.filter λr=>cF e.t.hd m r b e.t.pl).length+(e.t.rows.filter λr=>pY mq.mark r && gF e.t.hd n M mq.num r).length<=e.t.rows.length:=by rw[G];exact aFd (pY mq.mark) e.t.rows W (a6 mq rfl)
    have f2:=B.few;refine⟨L,D',u1,u2,rfl,rfl,g1,g2,small (by lia),λR6 H6 a9 Y g6=>?_⟩;refine⟨R6,_,(e.t.rows.filter λr=>cF e.t.hd m r b e.t.pl)++e.t.rows.filter λr=>pY mq.mark r && gF e.t.hd n M mq.num r,knds e.t.hd,rfl,SqL.of g6,cQ (cV.app (h1.imp λ_ _ z=>z.same Y) (h2.imp λ_ _ z=>z.same Y)),by rw[bAB];lia,lY B.hd.1,λr y=>?_,λL7 H7 a7 a2 s7 g7 h7=>?_⟩
    ·rcases List.mem_append.mp y with z|z <;> exact gC (B.rows r (List.mem_filter.mp z).1)
    ·have a3:=X.trans (s5.trans (Y.trans s7));refine q L7 H7 (none_of (X.trans (s5.trans Y)) a2) a3 ⟨a7,g7,?_⟩;have e7:oK e.t.hd m b e.t.pl (some mq) n M e.t.rows=_:=if_pos W;rw[e7];exact (iM h7).imp λ_ _ z=>z.same s7
  ·refine nP (by rw[v8 λz=>W (V.int.inj z)];rfl) ⟨_,rfl,q L H3 (none_of I hN) k ?_⟩;have e7:oK e.t.hd m b e.t.pl (some mq) n M e.t.rows=_:=if_neg W;rw[e7];exact p
def aVj {ks:List Bool}{qs qs' W:List (List V)}(h:Ded qs W)(h':Ded qs' W)(b:∀r∈W,KdR ks r):srt qs=srt qs':=
 sI (λr a=>b r ((h.2.1 r).mp a)) ((bE9 h.1 h'.1).mpr λr=>(h.2.1 r).trans (h'.2.1 r).symm)
def gG (t:Tb)(n:Str)(cs:List (V × Int))(num:Nat)(o:Option (List V)):List (List V):=t.rows.filter λr=>sG o r && gF t.hd n cs num r
def aLe (K:bFH)(C:Addr):Sp:=λvs H Q _=>∃(x d dm:Addr) (m:Int) (es:List En) (e:En) (mq:Mv) (n:Str) (h0:Int) (cs:List (V × Int)) (k:Nat),vs=[.ref x,.str e.n,.int k]/\bM K H C x m d dm es/\e∈es/\MvD K H dm e.n (some mq)/\e.t.pl=.spans n h0 cs/\(∀q,mq.mark=some q->jQ e.t.hd q) /\
 ∀qs,Ded qs (gG e.t n cs mq.num mq.mark)->(((srt qs).take k=[]->∀H',Same H H'->Q (.int 0) H')/\∀r,((srt qs).take k).getLast?=some r->∀H',KP K (λb=>b≠dm) H H'->bM K H' C x m d dm es->MvD K H' dm e.n (some { mq with mark:=some r })->Q (.int ((gG e.t n cs mq.num mq.mark).length - (gG e.t n cs mq.num (some r)).length)) H')
theorem aPz (T:Txt w K mg){C:Addr}(c:Cls K C)(D:fU K C "carry" "Store.carry" kZ ["self","name","many"])(n3:bI K C "moves")(l:OkM P w K mg base C 4 "cut_table" ["self","name"] (aGs K C))(o:OkM P w K mg base C 1 "move_of" ["self","name"] (aEe K C))(g:OkM P w K mg base C 4 "rows_to_come" ["self","name"] (aTf K C)):OkM P w K mg base C 5 "carry" ["self","name","many"] (aLe K C):=by
 refine OkM.ofV c D jH (by trivial) (λf an A al s H vs Q E hr h=>?_)
 obtain⟨x,d,G,m,es,e,j,n,h0,I,k,rfl,hS,he,ak,L,ag,q⟩:=h;have hu:=sU hr;have hU:=hr.units;refine⟨_,(aD (iR (dO (l.mono (by decide)) hr (vv 0) (aB (vv 1) aA))) (aD (aV (i:=3) jH.nd rfl (by trivial) (dO (o.mono (by decide)) hr (vv 0) (aB (vv 1) aA))) (aD (aV (i:=4) jH.nd rfl (by trivial) (dO (g.mono (by decide)) hr (vv 0) (aB (vv 1) aA))) (aD (aV (i:=5) jH.nd rfl (by trivial) (fQ wG (aM (uN rfl) (by rfl) T.eO dG (aB (cX (aE7 rfl hU) (by rfl) T.aO7 aG4 (aB (vv 4) aA)) aA)) lA (iD (aM (aP4 rfl) (by rfl) T.bBu bAk (aB (vv 2) (aB aC aA)))))) (aD (cA (cP (aR5 (vv 5))) (aG (aL aC)) aZ) (aD (aAz hu (dC (K:=K) (vv 0)) (vv 1) (bO aNx (fQ aHt (vv 3) lA (iD aC)) (dR (aB (aK bK (vv 5) (aYa aSv aC) (λ_ _=>rfl)) aA)))) (aG (aL (bO aBx (aM bB (by rfl) T.eX cY (aB (vv 4) aA)) (aM bB (by rfl) T.eX cY (aB (dO (g.mono (by decide)) hr (vv 0) (aB (vv 1) aA)) aA))))))))))),?_⟩;obtain⟨dx,hx⟩:=hS.at_;have ok:=hS.ok e he;have ad:=ok.few;refine⟨_,rfl,x,dx,_,rfl,hx,rfl,_,rfl,x,d,G,m,es,e,n,h0,I,rfl,hS,he,L,λH1 U=>?_⟩;obtain⟨v,hv,gm⟩:=ak.same U;refine⟨_,rfl,x,dx,_,rfl,U _ _ hx,rfl,_,rfl,x,d,G,m,es,e.n,v,rfl,hS.same U,gm,?_⟩;refine⟨_,rfl,x,dx,_,rfl,U _ _ hx,rfl,_,rfl,x,d,G,m,es,e,j,n,h0,I,rfl,hS.same U,he,⟨v,hv,gm⟩,L,ag,λW2 H2 a4 s2 ae=>?_⟩;obtain⟨us,g2,a3⟩:=id ae;have lu:=a3.len;have af:=U.trans s2;have lW:(gG e.t n I j.num j.mark).length<=60:=bAM (bBH _ _) ad;have kW:∀r∈gG e.t n I j.num j.mark,KdR (knds e.t.hd) r:=λr F=>gC (ok.rows r (List.mem_filter.mp F).1);have hW:us.length=(gG e.t n I j.num j.mark).length:=lu;refine⟨_,rfl,W2,us,gG e.t n I j.num j.mark,rfl,SqL.of g2,cQ a3,λr F=>pU (ok.rows r (List.mem_filter.mp F).1),by lia,λD3 H3 as qs ao s3 g3 a8 J=>?_⟩;have la:=a8.len;have ld:=J.2.2;rw[j9] at la;refine⟨D3,as,qs,knds e.t.hd,rfl,g3,a8.imp λ_ _ z=>z.same s3,by lia,lY ok.hd.1,λr F=>kW r ((J.2.1 r).mp F),λB H4 y hB s4 g4 h4=>?_⟩;have R:=s3.trans s4;refine⟨_,rfl,(k:Int),0,rfl,(k:Int),by rw[if_neg (show ¬ (0:Int) > (k:Int) by lia)],B,y,rfl,SqL.of g4,λp H5 hp s5 g5=>?_⟩;rw[show pB y none (some ((k:Nat):Int))=y.take k from wK _ k] at g5;have a5:cV (cI K H5) (y.take k) ((srt qs).take k):=(aEk (iM h4) k).imp λ_ _ z=>z.same (s4.trans s5);have ab:=af.trans (R.trans s5);obtain⟨q0,q1⟩:=q qs J;refine⟨_,rfl,_,.inl ⟨_,SqL.of g5,rfl⟩,?_⟩;have uS:∀i u,(y.take k)[i]?=some u->∃r,((srt qs).take k)[i]?=some r/\cI K H5 u r:=λi u z=>cJ a5 z;have lS:=a5.len;generalize y.take k=uk at g5 uS lS ⊢;cases uk with
 |nil=>refine nP rfl ?_;exact q0 (bCR lS.symm) H5 ab
 |cons u0 ur=>
  refine gO rfl ?_;obtain⟨ul,a6⟩:∃ul,(u0::ur)[(u0::ur).length - 1]?=some ul:=⟨_,d7 (by rw[v9];lia)⟩;obtain⟨r,aa,am⟩:=uS _ _ a6;have hl:((srt qs).take k).getLast?=some r:=by rw[List.getLast?_eq_getElem?,<-lS];exact aa
  have aj:jQ e.t.hd r:=by have h1:=(J.2.1 r).mp (fZ (bDC (t7 aa)));exact ok.rows r (List.mem_filter.mp h1).1
  obtain⟨a,vm,rfl,ha,hm⟩:=hv;have a2:=s2.trans (R.trans s5);refine⟨_,rfl,_,rfl,a,_,rfl,a2.bA ha,by show ¬ (HT.sIx 3 0 none=0/\HT.sIx 3 3 (some 2)=3);decide,λp6 H6 s6 g6=>?_⟩;rw[show pB [V.int j.num,.int j.house,vm] none (some 2)=[V.int j.num,.int j.house] from wK _ 2] at g6;refine⟨_,rfl,_,rfl,p,_,_,ul,rfl,rfl,SqL.of (s6 _ _ g5),aPf a6,by show 1<=sizeLine;decide,λp7 H7 _ s7 g7=>?_⟩;refine⟨p6,p7,_,_,rfl,rfl,SqT.of (s7 _ _ g6),SqT.of g7,by show 3<=sizeLine;decide,λY H8 s8 g8=>?_⟩;have O:=s6.trans (s7.trans s8);have M:=a2.trans O;have N:=U.trans M;obtain⟨k1,k2⟩:=(hS.same N).mv (kvs':=[(Sum.inr e.n,.ref Y)]) (M _ _ gm);refine⟨_,rfl,x,C,dx,_,_,rfl,N _ _ hx,c,n3,rfl,_,rfl,G,_,rfl,aJ1.k (k:=Sum.inr e.n) (M _ _ gm) (qF (by show 1<1000;decide)),?_⟩;rw[show putK [((Sum.inr e.n:Key),V.ref a)] (Sum.inr e.n) (V.ref Y)=[(Sum.inr e.n,.ref Y)] by unfold putK;simp];have Z:MvD K (_root_.L2.upd H8 G (.dK [(Sum.inr e.n,.ref Y)])) G e.n (some { j with mark:=some r }):=⟨.ref Y,⟨Y,ul,rfl,k1.tk _ _ g8,(am.same O).imp λb ⟨e1,e2⟩=>⟨e1,k1.tk _ _ e2⟩⟩,aH⟩;have a0:=(KP.same (K:=K) (S:=λb=>b≠G) N).trans k1;have nW:W2≠G:=λz=>by rw[z,gm] at a4;cases a4
  have gW:=k1.st _ _ nW (O _ _ ((R.trans s5) _ _ g2));generalize _root_.L2.upd H8 G (.dK [(Sum.inr e.n,.ref Y)])=H9 at k1 k2 Z a0 gW ⊢;obtain⟨ac,ah⟩:=k2.at_;refine⟨_,rfl,W2,us,rfl,.inl (SqL.of gW),_,rfl,x,ac,_,rfl,ah,rfl,_,rfl,x,d,G,m,es,e,{ j with mark:=some r },n,h0,I,rfl,k2,he,Z,L,λq' e'=>by cases e';exact aj,λW3 a1 ap X a7=>?_⟩;obtain⟨W,ai,a9⟩:=a7;have l3:=a9.len;refine⟨W3,W,rfl,.inl (SqL.of ai),_,_,rfl,rfl,?_⟩;have e1:(us.length:Int) - W.length=((gG e.t n I j.num j.mark).length - (gG e.t n I j.num (some r)).length:Int):=by rw[hW,l3];rfl
  show Q (.int ((us.length:Int) - W.length)) a1;rw[e1];exact q1 r hl a1 (a0.trans (KP.same X)) (k2.same X) (Z.same X)
def aX1 {κ:Type}[DecidableEq κ]{A B:List (κ × V)}{k:κ}{v d:V}(e:∀kv∈A,kv.1≠k)(c:∀kv∈B,kv.1≠k):putK (A++(k,v)::B) k d=A++(k,d)::B:=by
 have b:∀{L:List (κ × V)},(∀kv∈L,kv.1≠k)->L.map (λkv=>if kv.1=k then (kv.1,d) else kv)=L:=λ{L} h=>by
  conv=>rhs;rw[<-List.map_id L]
  exact List.map_congr_left λkv a=>by rw[if_neg (h kv a)];rfl
 unfold putK;rw[if_pos (List.any_eq_true.mpr ⟨(k,v),bAF _ j6,t6 rfl⟩),bBI,bAN,b e,b c,if_pos rfl]
def aOj {l1 l2:List En}{e e':En}(d:((l1++e::l2).map (·.n)).Nodup)(i:e'.n=e.n):putK (enK (l1++e::l2)) (Sum.inr e.n) e'.v=enK (l1++e'::l2):=by
 rw[bBI,bAN] at d;obtain⟨_,f,c⟩:=List.nodup_append.mp d;have g:=(List.nodup_cons.mp f).1;unfold enK;rw[bBI,bAN,bBI,bAN,i];refine aX1 (λh a z=>?_) λh a z=>?_
 ·obtain⟨x,b,rfl⟩:=List.mem_map.mp a;exact c _ (bDG b) _ j6 (Sum.inr.inj z)
 ·obtain⟨x,b,rfl⟩:=List.mem_map.mp a;exact g (by rw[<-Sum.inr.inj z];exact bDG b)
def bM.put {H:Hp}{C x d dm:Addr}{m:Int}{g i:List En}{e e':En}(h:bM K H C x m d dm (g++e::i))(o:e'.n=e.n)(q:oX K H e'.v e'.vh e'.vp e'.L e'.t)(r:mD m e'.t):KP K (λb=>b≠d) H (L2.upd H d (.dK (enK (g++e'::i))))/\bM K (L2.upd H d (.dK (enK (g++e'::i)))) C x m d dm (g++e'::i):=by
 have j:=eQ.dK h.ens.at_;have b:But d H (L2.upd H d (.dK (enK (g++e'::i)))):=But.upd;have c:∀y∈g++e'::i,y=e'\/y∈g++e::i:=λy hy=>by
  rcases List.mem_append.mp hy with h|h
  ·exact .inr (bBX _ h)
  ·rcases List.mem_cons.mp h with h|h
   ·exact .inl h
   ·exact .inr (bAF _ (j8 _ h))
 have a:=h.ens;have f:(g++e'::i).map (·.n)=(g++e::i).map (·.n):=by rw[bBI,bBI,bAN,bAN,o]
 obtain⟨p,k⟩:=h.at_;have l:x≠d:=λz=>by rw[z,a.at_] at k;cases k
 refine⟨.bBo j λz=>z rfl,⟨p,b _ _ l k⟩,⟨aH,by rw[f];exact a.nd,?_,λy hy=>?_,λy hy=>?_⟩,λy hy=>?_,h.ne⟩
 ·have:=congrArg List.length f;rw[j9,j9] at this;rw[this];exact a.few
 ·rcases c y hy with rfl|hy
  ·rw[o];exact a.nm e (bAF _ j6)
  ·exact a.nm y hy
 ·rcases c y hy with rfl|hy
  ·exact b.tb j q
  ·exact b.tb j (a.tb y hy)
 ·rcases c y hy with rfl|hy
  ·exact r
  ·exact h.ok y hy
def yG (K:bFH):Sp:=λvs H Q _=>∃(v vh vp:V) (L R:Addr) (t:Tb) (rows:List (List V)),vs=[v,.ref R]/\oX K H v vh vp L t/\aQh t.hd/\bY K H R rows/\rows.length<=60/\(∀r∈rows,jQ t.hd r)/\∀v' L' H',H L'=none->Same H H'->oX K H' v' vh vp L' { t with rows:=srt rows }->Q v' H'
def aHy (T:Txt w K mg):Ok P w K mg base 1 "with_rows" ["table","rows"] (yG K):=by
 refine Ok.ofV T.aK6 aG9 (by trivial) (λf J A k s H vs Q E hr h=>?_)
 obtain⟨v,y,x,L,R,t,c,rfl,⟨a,rfl,F,C,O,Z⟩,hd,G,V,i,q⟩:=h;refine⟨_,(aG (aL (bO aNx (fQ aHt (vv 0) lA (iD aC)) (dR (aB (aM eG (by rfl) T.eO dG (aB (vv 1) aA)) aA))))),?_⟩;obtain⟨X,N,d⟩:=G;have lu:=d.len;refine⟨_,rfl,_,rfl,a,_,rfl,F,by show ¬ (HT.sIx 3 0 none=0/\HT.sIx 3 3 (some 2)=3);decide,λp H1 g u=>?_⟩;rw[show pB [y,x,.ref L] none (some 2)=[y,x] from wK _ 2] at u;refine⟨_,rfl,R,X,c,knds t.hd,rfl,SqL.of (g _ _ N),cQ (d.imp λ_ _ z=>z.same g),by lia,lY hd.1,λr n=>gC (i r n),λB H2 j m o W M=>?_⟩;refine⟨by show 1<=sizeLine;decide,λS Y _ e I=>?_⟩;refine⟨p,S,_,_,rfl,rfl,SqT.of (e _ _ (o _ _ u)),SqT.of I,by show 3<=sizeLine;decide,λr D l U=>?_⟩;have b:=g.trans (o.trans (e.trans l));exact q _ B D (none_of g m) b ⟨r,rfl,U,C.same b,O.same b,j,l _ _ (e _ _ W),(iM M).imp λ_ _ z=>z.same (o.trans (e.trans l))⟩
def aTd (K:bFH)(C:Addr):Sp:=λvs H Q _=>∃(x d dm:Addr) (m:Int) (l1 l2:List En) (e:En) (vr:V) (r:List V),vs=[.ref x,.str e.n,vr]/\bM K H C x m d dm (l1++e::l2)/\cI K H vr r/\jQ e.t.hd r/\e.t.rows.length<60/\∀v L H',KP K (λb=>b≠d) H H'->H L=none->bM K H' C x m d dm (l1++{ e with v:=v,L:=L,t:={ e.t with rows:=srt (e.t.rows++[r]) } }::l2)->Q .non H'
def aVk (T:Txt w K mg){C:Addr}(c:Cls K C)(D:fU K C "put" "Store.put" nC ["self","name","row"])(n1:bI K C "placed")(cH:Ok P w K mg base 3 "table_in" ["placed","name"] (pH K))(rK:Ok P w K mg base 4 "is_row" ["head","thing"] (aAy K))(rN:Ok P w K mg base 1 "with_rows" ["table","rows"] (yG K)):OkM P w K mg base C 5 "put" ["self","name","row"] (aTd K C):=by
 refine OkM.ofV c D xR (by trivial) (λf a1 A X s H vs Q E M h=>?_)
 obtain⟨x,d,dm,m,Y,S,e,vr,r,rfl,l,G,u,a2,q⟩:=h;have hu:=sU M;refine⟨_,(aD (aV (i:=3) xR.nd rfl (by trivial) (aN (cH.mono (by decide)) M (by rfl) (aB (dC (K:=K) (vv 0)) (aB (vv 1) aA)))) (aD (cA (cP (cG (aN (rK.mono (by decide)) M (by rfl) (aB (aK aX (vv 3) aC (λ_ _=>rfl)) (aB (vv 2) aA))))) (aG eV) aZ) (aG (aAz hu (dC (K:=K) (vv 0)) (vv 1) (aN (rN.mono (by decide)) M (by rfl) (aB (vv 3) (aB (bO sS (aK aX (vv 3) aC (λ_ _=>rfl)) (dJ (aB (vv 2) aA))) aA))))))),?_⟩;obtain⟨dx,hx⟩:=l.at_;have I:e∈Y++e::S:=bAF _ j6;have B:=l.ok e I;have l8:=B.hd.1.2.2;refine⟨_,rfl,x,C,dx,_,_,rfl,hx,c,n1,rfl,_,rfl,d,_,e,rfl,l.ens,I,λH1 N=>?_⟩;obtain⟨a,ev,ha,h1,h2,⟨us,h3,h4⟩⟩:=(l.ens.tb e I).same N;have lu:=h4.len;refine⟨_,rfl,a,_,0,_,ev,rfl,ha,at0 _ _,_,rfl,e.vh,vr,e.t.hd,r,rfl,h1,by lia,G.same N,u,λH2 J=>⟨_,rfl,bZ ?_⟩⟩;have O:=N.trans J;refine⟨_,rfl,_,rfl,a,_,2,_,ev,rfl,J.bA ha,at2 _ _ _ _,_,rfl,by show 1<=sizeLine;decide,λp H3 hp W g3=>?_⟩;refine⟨e.L,p,us,_,rfl,rfl,W _ _ (J _ _ h3),g3,small (by show _+1<=1000;lia),λR H4 hR s4 g4=>?_⟩;have b:=O.trans (W.trans s4);have o:bY K H4 R (e.t.rows++[r]):=⟨_,g4,cV.app (h4.imp λ_ _ z=>z.same (J.trans (W.trans s4))) (.cons (G.same b) .nil)⟩;refine⟨e.v,e.vh,e.vp,e.L,R,e.t,_,rfl,(l.ens.tb e I).same b,B.hd,o,by rw[bAB];show _+1<=60;lia,λy hy=>?_,λV L' H5 U s5 hT=>?_⟩
 ·rcases List.mem_append.mp hy with hy|hy
  ·exact B.rows y hy
  ·rw[List.mem_singleton.mp hy];exact u
 have j:=b.trans s5;have g:=l.same j;have Z:mD m { e.t with rows:=srt (e.t.rows++[r]) }:=⟨B.hd,B.pl,by show (srt _).length<=60;rw[qH,bAB];show _+1<=60;lia,λy hy=>by
  rcases List.mem_append.mp (fZ hy) with hy|hy
  ·exact B.rows y hy
  ·rw[List.mem_singleton.mp hy];exact u⟩
 obtain⟨e',F⟩:∃e':En,e'={ e with v:=V,L:=L',t:={ e.t with rows:=srt (e.t.rows++[r]) } }:=⟨_,rfl⟩;obtain⟨k1,k2⟩:=g.put (e':=e') (by rw[F]) (by rw[F];exact hT) (by rw[F];exact Z);have a0:=g.ens.few;refine⟨_,rfl,x,C,dx,_,_,rfl,j _ _ hx,c,n1,rfl,_,rfl,d,_,rfl,aJ1.k (k:=Sum.inr e.n) g.ens.at_ (by rw[aAx];exact qF (by lia)),?_⟩;have ek:putK (enK (Y++e::S)) (Sum.inr e.n) V=enK (Y++e'::S):=by have:=aOj (e':=e') l.ens.nd (by rw[F]);rw[F] at this ⊢;exact this
 rw[ek];rw[F] at k1 k2 ⊢;exact q V L' _ ((KP.same j).trans k1) (none_of b U) k2
theorem aJ4 {r:List V}:∀{rs:List (List V)},r∈rs->∃j,rs[j]?=some r/\∀(m:Nat) q,m<j->rs[m]?=some q->q≠r
 |[],h=>by cases h
 |a::rs,h=>by
  by_cases e:a=r
  ·exact⟨0,by rw[e];rfl,λm q b=>absurd b (bCZ _)⟩
  ·rcases List.mem_cons.mp h with h|h
   ·exact absurd h.symm e
   ·obtain⟨j,d,f⟩:=aJ4 h;refine⟨j+1,by simpa using d,λm q b c=>?_⟩;cases m with
    |zero=>cases c;exact e
    |succ m=>exact f m q (by lia) (by simpa using c)
theorem aC3 {α β:Type}{R:α->β->Prop}{as:List α}{bs:List β}(h:cV R as bs):∀n,cV R (as.eraseIdx n) (bs.eraseIdx n):=by
 induction h with
 |nil=>intro n;exact .nil
 |cons r t ih=>
  intro n;cases n with
  |zero=>exact t
  |succ n=>exact .cons r (ih n)
theorem vO {α:Type}{r:α}:∀{rs:List α} {j:Nat},rs[j]?=some r->(r::rs.eraseIdx j).Perm rs
 |[],_,h=>by cases h
 |a::rs,0,h=>by cases h;exact .refl _
 |a::rs,j+1,h=>(List.Perm.swap a r _).trans ((vO (rs:=rs) (j:=j) (by simpa using h)).cons a)
def aPc (K:bFH)(C:Addr):Sp:=λvs H Q _=>∃(x d dm:Addr) (m:Int) (l1 l2:List En) (e:En) (vr:V) (r:List V),vs=[.ref x,.str e.n,vr]/\bM K H C x m d dm (l1++e::l2)/\cI K H vr r/\jQ e.t.hd r/\r∈e.t.rows/\∀v L rows' H',(r::rows').Perm e.t.rows->KP K (λb=>b≠d) H H'->H L=none->bM K H' C x m d dm (l1++{ e with v:=v,L:=L,t:={ e.t with rows:=srt rows' } }::l2)->Q .non H'
def aR6 (T:Txt w K mg){C:Addr}(c:Cls K C)(D:fU K C "drop" "Store.drop" lV ["self","name","row"])(n1:bI K C "placed")(cH:Ok P w K mg base 3 "table_in" ["placed","name"] (pH K))(rK:Ok P w K mg base 4 "is_row" ["head","thing"] (aAy K))(rN:Ok P w K mg base 1 "with_rows" ["table","rows"] (yG K)):OkM P w K mg base C 5 "drop" ["self","name","row"] (aPc K C):=by
 refine OkM.ofV c D oJ (by trivial) (λf a6 A a2 s H vs Q E J h=>?_)
 obtain⟨x,d,dm,m,l1,l2,e,vr,r,rfl,B,u,I,hm,qT⟩:=h;have hu:=sU J;have hU:=J.units;refine⟨_,(aD (aV (i:=3) oJ.nd rfl (by trivial) (aN (cH.mono (by decide)) J (by rfl) (aB (dC (K:=K) (vv 0)) (aB (vv 1) aA)))) (aD (cA (VW.pt (gJ (cP (cG (aN (rK.mono (by decide)) J (by rfl) (aB (aK aX (vv 3) aC (λ_ _=>rfl)) (aB (vv 2) aA))))) (eZ (aY (aNv hU) (vv 2) (aK aX (vv 3) aC (λ_ _=>rfl)) (by with_unfolding_all rfl))))) (aG eV) aZ) (aD (aV (i:=4) oJ.nd rfl (by trivial) (cX vN (by rfl) T.aA4 wB (aB (aK aX (vv 3) aC (λ_ _=>rfl)) aA))) (aD (iR (wU PySem.F.plainAttrs_list PySem.F.slot_list_remove PySem.F.type_list_remove (aVm hU) (vv 4) (aB (vv 2) aA))) (aG (aAz hu (dC (K:=K) (vv 0)) (vv 1) (aN (rN.mono (by decide)) J (by rfl) (aB (vv 3) (aB (vv 4) aA))))))))),?_⟩;obtain⟨dx,hx⟩:=B.at_;have Y:e∈l1++e::l2:=bAF _ j6;have l:=B.ok e Y;have l8:=l.hd.1.2.2;have a9:=l.few;refine⟨_,rfl,x,C,dx,_,_,rfl,hx,c,n1,rfl,_,rfl,d,_,e,rfl,B.ens,Y,λH1 W=>?_⟩;obtain⟨a,Z,ha,h1,h2,⟨p,h3,X⟩⟩:=(B.ens.tb e Y).same W;have lu:=X.len;refine⟨_,rfl,a,_,0,_,Z,rfl,ha,at0 _ _,_,rfl,e.vh,vr,e.t.hd,r,rfl,h1,by lia,u.same W,I,λH2 g=>⟨_,rfl,bZ ?_⟩⟩;have O:=W.trans g;have S:∀r∈e.t.rows,pF r:=λr J=>pU (l.rows r J);refine⟨_,rfl,_,rfl,a,_,2,_,Z,rfl,g.bA ha,at2 _ _ _ _,e.L,p,e.t.rows,r,rfl,SqL.of (g _ _ h3),cQ (X.imp λ_ _ z=>z.same g),S,u.same O,pU I,_,rfl,?_⟩
 ·rw[t6 hm];refine bZ ?_;obtain⟨j,hj,a3⟩:=aJ4 hm;refine⟨_,rfl,a,_,2,_,Z,rfl,g.bA ha,at2 _ _ _ _,e.L,p,rfl,.inl (SqL.of (g _ _ h3)),λR H3 hR s3 g3=>?_⟩;have a0:=O.trans s3;refine⟨_,rfl,.inl ⟨rfl,_,SqL.of g3⟩,_,rfl,R,p,vr,e.t.rows,r,j,rfl,rfl,g3,cQ (X.imp λ_ _ z=>z.same (g.trans s3)),S,u.same a0,pU I,hj,a3,?_⟩;have M:Same H1 (L2.upd H3 R (.lst (p.eraseIdx j))):=g.trans (lG hR s3);have b:=W.trans M;have g4:L2.upd H3 R (.lst (p.eraseIdx j)) R=some (.lst (p.eraseIdx j)):=aH;generalize L2.upd H3 R (.lst (p.eraseIdx j))=H4 at M b g4 ⊢;obtain⟨a8,ej⟩:=List.getElem?_eq_some_iff.mp hj;have pm:(r::e.t.rows.eraseIdx j).Perm e.t.rows:=vO hj;have U:∀y∈e.t.rows.eraseIdx j,y∈e.t.rows:=λy V=>List.mem_of_mem_eraseIdx V;have G:bY K H4 R (e.t.rows.eraseIdx j):=⟨_,g4,aC3 (X.imp λ_ _ z=>z.same M) j⟩;have a7:=bED e.t.rows j;refine⟨_,rfl,_,rfl,e.v,e.vh,e.vp,e.L,R,e.t,e.t.rows.eraseIdx j,rfl,(B.ens.tb e Y).same b,l.hd,G,by lia,λy V=>l.rows y (U y V),λv' L' H5 a1 s5 hT=>?_⟩;have q:=b.trans s5;have o:=B.same q;have a4:mD m { e.t with rows:=srt (e.t.rows.eraseIdx j) }:=⟨l.hd,l.pl,by show (srt _).length<=60;rw[qH];lia,λy V=>l.rows y (U y (fZ V))⟩;obtain⟨e',N⟩:∃e':En,e'={ e with v:=v',L:=L',t:={ e.t with rows:=srt (e.t.rows.eraseIdx j) } }:=⟨_,rfl⟩;obtain⟨k1,k2⟩:=o.put (e':=e') (by rw[N]) (by rw[N];exact hT) (by rw[N];exact a4);have a5:=o.ens.few;refine⟨_,rfl,x,C,dx,_,_,rfl,q _ _ hx,c,n1,rfl,_,rfl,d,_,rfl,aJ1.k (k:=Sum.inr e.n) o.ens.at_ (by rw[aAx];exact qF (by lia)),?_⟩;have ek:putK (enK (l1++e::l2)) (Sum.inr e.n) v'=enK (l1++e'::l2):=by have:=aOj (e':=e') B.ens.nd (by rw[N]);rw[N] at this ⊢;exact this
  rw[ek];rw[N] at k1 k2 ⊢;exact qT v' L' _ _ pm ((KP.same q).trans k1) (none_of b a1) k2
end
end My
namespace L2
open PySem PySem.Spec PyProof.Rows
def aYo (K:bFH)(n:Nat)(t:TGs):TG:=λv σ H Q=>∃a xs,v=.ref a/\SqL K H a xs/\xs.length=n/\t xs σ H Q
def aV0 {X:Cx}{pos:Pos}{es:List Expr}{k:Nat}{t:TGs}{n:Nat}(B:X.calm=true)(h:PGs X es t)
  (C:(assignEach es X.env).length=n:=by rfl) (q:(assignEach es X.env).findIdx? (·.1)=none:=by rfl):PG X (.Tuple es k pos) (aYo X.K n t):=by
 intro c s σ H v u Q I r g;obtain⟨a,m,l,y,z,g⟩:=g;subst l;cases r;obtain⟨f,i,p,A⟩:=I.list y;have d:(assignEach es X.env).length=f.toArray.size:=by rw[C,<-z,i.length,j7]
 rw[arm_assign_Tuple];refine c7 (bFG ?_);unfold unpack;rw[d,q];refine c7 (bAS (PySem.W.kun_itemsOf (I.ok.hd B) p.isList λj x=>?_));have w:Inv X c σ H { s with heap:=j }:=I.kept (t':=s.toks) λb o e=>x b o (v5 (m9 e)) e;exact h c _ σ H m _ Q w (by simpa using i) g
def aN0 {X:Cx}{pos:Pos}{es:List Expr}{k:Nat}{t:TGs}{n:Nat}(c:X.calm=true)(h:VGs X es t)(b:(assignEach es X.env).length=n:=by rfl)(a:(assignEach es X.env).findIdx? (·.1)=none:=by rfl):VG X (.Tuple es k pos) (aYo X.K n t):=⟨aV0 c h.1 b a⟩
end L2
namespace My
open PySem PySem.Spec PyProof.Rows L2
section
variable {P:Program}{w:World}{K:bFH}{mg:bFK}{base:Heap}
theorem aPy {kd:Str}{a b c:V}(h:cM kd a)(g:cM kd b)(f:cM kd c)(d:vlt a b=true)(e:vlt b c=true):vlt a c=true:=by
 cases h with
 |num=>cases g;cases f;exact t6 (Int.lt_trans (of_decide_eq_true d) (of_decide_eq_true e))
 |wrd _ _=>cases g;cases f;exact t6 (List.lt_trans (of_decide_eq_true d) (of_decide_eq_true e))
theorem aJ7 {kd:Str}{v:V}{cs:List (V × Int)}(s:cM kd v)(o:∀c∈cs,cM kd c.1)(r:(cs.map (·.1)).Pairwise λa b=>vlt a b=true):∀k,k<=cs.length->jN v (cs.take k) 1 0<=k/\∀(i:Nat) (c:V × Int),i<k->cs[i]?=some c->(i<jN v (cs.take k) 1 0↔vlt v c.1=false)
 |0,_=>⟨j0 _,λi c h=>absurd h (bCZ _)⟩
 |k+1,h=>by
  obtain⟨A,p⟩:=aJ7 s o r k (by lia);have f:cs[k]?=some cs[k]:=d7 (by lia);have t:cs.take (k+1)=cs.take k++[cs[k]]:=by rw[bBK,f];rfl
  have w:(cs.take k).length=k:=by rw[bAO];lia
  rw[t,yV,w];have m:=o _ (t7 f);cases g:vlt v cs[k].1 with
  |true=>
   rw[if_pos rfl];refine⟨by lia,λi c y d=>?_⟩;by_cases e:i=k
   ·subst e;rw[f] at d;cases d;rw[g];exact⟨λz=>absurd z (by lia),λz=>by cases z⟩
   ·exact p i c (by lia) d
  |false=>
   rw[if_neg v4];refine⟨by lia,λi c y d=>⟨λ_=>?_,λ_=>by lia⟩⟩;by_cases e:i=k
   ·subst e;rw[f] at d;cases d;exact g
   ·cases x:vlt v c.1 with
    |false=>rfl
    |true=>
     have l:=o c (t7 d);have u:i<(cs.map (·.1)).length:=by rw[j9];lia
     have j:k<(cs.map (·.1)).length:=by rw[j9];lia
     have n:=List.pairwise_iff_getElem.mp r i k u j (by lia);rw[List.getElem_map,List.getElem_map] at n;have q:cs[i]=c:=(List.getElem?_eq_some_iff.mp d).2;rw[q] at n;rw[aPy s l m x n] at g;cases g
theorem zY {α:Type}{p:α->Bool}:∀{l:List α} {N:Nat},N<=l.length->(∀(i:Nat) (c:α),l[i]?=some c->(i<N↔p c=true))->l.filter p=l.take N
 |[],N,_,_=>by rw[bD1];rfl
 |a::l,0,h,hp=>by rw[List.take_zero];refine List.filter_eq_nil_iff.mpr λc b=>?_;obtain⟨i,d⟩:=List.mem_iff_getElem?.mp b;exact λz=>absurd ((hp i c d).mpr z) (bCZ _)
 |a::l,N+1,h,hp=>by rw[bDJ,if_pos ((hp 0 a rfl).mp (Nat.succ_pos _)),List.take_succ_cons];exact congrArg _ (zY (by simpa using h) λi c e=>⟨λz=>(hp (i+1) c (by simpa using e)).mp (by lia),λz=>by have:=(hp (i+1) c (by simpa using e)).mpr z;lia⟩)
def vP {ks:List Bool}{rs:List (List V)}(h:∀r∈rs,KdR ks r)(p:List V->Bool):srt (rs.filter p)=(srt rs).filter p:=by obtain⟨k,e⟩:=jX h;obtain⟨g,l⟩:=jX (rs:=rs.filter p) λr d=>h r (List.mem_filter.mp d).1;refine yF (lt:=rlt) (g.trans (k.filter p).symm) (λa i b j c f=>?_) l (e.filter p);exact aH1 (h a (List.mem_filter.mp (fZ i)).1) (h b (List.mem_filter.mp (fZ j)).1) c f
def aGl (T:Txt w K mg):Ok P w K mg base 1 "_law_spot" ["_law_head_here","_law_name"] (oZ K):=by
 refine Ok.ofV T.aI5 aGp (by trivial) (λf W A t s H vs Q E hr h=>?_)
 obtain⟨vh,n,hd,k,rfl,⟨b,Z,rfl,C,I⟩,hl,X,q⟩:=h;obtain⟨o,B⟩:=aFz X;refine⟨_,(aG (aL (wU PySem.F.plainAttrs_list PySem.F.slot_list_index PySem.F.type_list_index aEw (cL (N:=["_law_column","_law_kind"]) (by trivial) (mO (by decide +kernel)) rfl (rB (vv 0)) (λcl e g fp=>⟨(tY (K:=K) (n:=2) rfl (bH (aO (i:=0) (show (["_law_column","_law_kind"]:List Str).Nodup from by decide +kernel) rfl (Or.inl rfl)) (bH (aO (i:=1) (show (["_law_column","_law_kind"]:List Str).Nodup from by decide +kernel) rfl (Or.inl rfl)) fV))),iH,(vv 0)⟩)) (aB (vv 1) aA)))),?_⟩;have lu:=I.len;dsimp only[tV,tBM];refine xK [none,none] uB ⟨_,rfl,b,rfl,⟨_,C⟩,aJb Same (aOo H) Z (λ_=>true) (λi _ y=>∃d,hd[i]?=some d/\y=.str d.1) (λ_ _ h=>h) (λ_ _ _ h=>h) (λi σ=>∃d,hd[i]?=some d/\At2 [none,none] (.str d.1) (.str d.2) σ) (Ps2 [none,none]) ⟨none,none,rfl⟩ (small (by lia)) _ (aF7 λg e=>e.bA C) (xT λg e=>e.bA C) (λi x σ' g Q' v u e qq=>?_) (λi x p v O g R e r=>r g (Same.refl _)) (λi x p v O hp g R e r=>?_) λD Y S s6 fD J l=>?_⟩
 ·obtain⟨d,a,p',rfl,G⟩:=cJ I v;exact hg2 (e.bA G) u fun p o B=>qq p o ⟨d,a,B⟩
 ·obtain⟨d,a,rfl⟩:=O;exact⟨_,rfl,r _ _ (Same.refl g) ⟨d,a,rfl⟩⟩
 ·rw[rE] at l;obtain⟨l1,U⟩:=pL l;have ey:S=(hd.map (·.1)).map V.str:=bCE λi=>by
   cases M:S[i]? with
   |some z=>obtain⟨d,a,rfl⟩:=U i z M;rw[v6,v6,a];rfl
   |none=>have:=List.getElem?_eq_none_iff.mp M;exact (bAD (by rw[j9,j9];lia)).symm
  subst ey;refine⟨.inl ⟨rfl,_,SqL.of J⟩,_,rfl,D,hd.map (·.1),n,plc hd n,rfl,rfl,SqL.of J,by rw[j9];exact hl,by rw[v6,o];rfl,λj m hj L=>?_,q Y s6⟩;rw[v6] at L;obtain⟨c,hc,rfl⟩:=Option.map_eq_some_iff.mp L;exact B j c hj hc
def aTw {X:Cx}{scope:Scope}{x x2 y:Str}{σ:L2.St}{u:V}(i:Nat)(c:(y,NameKind.free)∈scope.names)(hi:X.N[i]?=some y)(d:σ[i]?=some (some u))(e:Vis X.env.scope y):Cap X scope [x,x2,y] σ [none,none,some u]:=
 ⟨rfl,λn q r b a=>by
  match n,b,a with
  |0,_,a=>cases a
  |1,_,a=>cases a
  |2,b,a=>cases b;cases a;exact⟨c,i,hi,d,e⟩
  |n+3,b,_=>cases b⟩
theorem aA3 {α β:Type}(p:Nat->Bool):∀(k:Nat) (l:List α) (m:List β),l.length=m.length->(sel p k l).length=(sel p k m).length
 |_,[],[],_=>rfl
 |k,a::l,b::m,h=>by
  have c:=aA3 p (k+1) l m (by simpa using h);unfold sel;cases p k with
  |true=>simpa using c
  |false=>simpa using c
theorem aZv {kd:Str}{a b:V}{H:Hp}{Q:VK}(d:cM kd a)(c:cM kd b)(q:Q (.bl (!vlt b a)) H):aY7 a b H Q:=by
 cases d with
 |num=>cases c;exact .inl ⟨_,_,rfl,rfl,q⟩
 |wrd _ _=>cases c;exact .inr ⟨_,_,rfl,rfl,q⟩
def aBo (K:bFH):Sp:=λvs H Q _=>∃(vc v:V) (kd:Str) (m h0:Int) (cs:List (V × Int)),vs=[vc,v]/\rG K H (lC K H) vc ((.non,h0)::cs)/\aHa kd m h0 cs/\cM kd v/\∀H',Same H H'->Q (.int (jN v cs 1 0:Nat)) H'
def aGq (T:Txt w K mg):Ok P w K mg base 1 "_law_span" ["_law_cuts","_law_value_here"] (aBo K):=by
 refine Ok.ofV T.aIz aHh (by trivial) (λf a0 A G s H vs Q E hr h=>?_)
 obtain⟨vc,v,Z,m,h0,b,rfl,⟨a,us,rfl,ha,hu⟩,F,O,q⟩:=h;have S:∀c∈b,cM Z c.1:=λc j=>(F.each c j).1;have a1:=F.few;refine⟨_,(aG (aL (aM bB (by rfl) T.eX cY (aB (cL (N:=["_law_low","_law_house","_law_value_here"]) (by trivial) (dZ (aF nU) rfl (by decide +kernel)) rfl (rB (fQ aPl (vv 0) (iD aC) lA)) (λcl d g fp=>⟨(tY (K:=K) (n:=2) rfl (bH (aO (i:=0) (show (["_law_low","_law_house","_law_value_here"]:List Str).Nodup from by decide +kernel) rfl (Or.inl rfl)) (bH (aO (i:=1) (show (["_law_low","_law_house","_law_value_here"]:List Str).Nodup from by decide +kernel) rfl (Or.inl rfl)) fV))),(mJ (aY aUm (vv 0) (vv 2) (aW _))),(vv 0)⟩)) aA)))),?_⟩;obtain⟨C,l,rfl,_,k⟩:∃C l,us=C::l/\lC K H C (.non,h0)/\cV (lC K H) l b:=by
  cases hu with
  |cons r t=>exact⟨_,_,rfl,r,t⟩
 have lt:=k.len;dsimp only[tV,tCB,fG];refine xK [none,none,some v] (aTw 1 (by decide +kernel) rfl rfl (by trivial)) ⟨_,rfl,_,rfl,a,_,rfl,ha,λY H5 V o=>?_⟩;rw[show (1:Int)=((1:Nat):Int) from rfl,zQ,List.drop_one,List.tail_cons] at o;refine⟨Y,rfl,⟨_,o⟩,aJb Same (aOo H5) l (λi=>!vlt v (b.getD i (.non,0)).1) (λ_ _ _=>True) (λ_ _ h=>h) (λ_ _ _ h=>h) (λi σ=>∃c,b[i]?=some c/\At2 [none,none,some v] c.1 (.int c.2) σ) (Ps2 [none,none,some v]) ⟨none,none,rfl⟩ (small (by lia)) _ (aF7 λg d=>d.bA o) (xT λg d=>d.bA o) (λi x σ' g Q' J I d qq=>?_) (λi x y J L g R d u=>?_) (λi x y J L X g R d u=>?_) λD H6 ys s6 fD g6 M=>?_⟩
 ·obtain⟨c,j,p,rfl,X⟩:=cJ k J;exact hg2 ((V.trans d).bA X) I fun y h1 h2=>qq y h1 ⟨c,j,h2⟩
 ·obtain⟨c,j,rfl⟩:=L;refine⟨_,rfl,_,rfl,aZv (S c (t7 j)) O ⟨_,rfl,?_⟩⟩;have e:(!vlt v (b.getD i (.non,0)).1)=!vlt v c.1:=by rw[j4,j];rfl
  rw[e] at u;exact u g (Same.refl _)
 ·obtain⟨c,j,rfl⟩:=L;exact⟨_,rfl,u _ g (Same.refl _) trivial⟩
 ·have W:=M.len;rw[aA3 _ 0 (List.range l.length) b (by rw[bAL];lia),mX (p':=λc=>!vlt v c.1) λi c e=>by rw[bDB,j4,e];rfl] at W;obtain⟨U,B⟩:=aJ7 O S F.up b.length (j0 _);rw[bCW] at U B;rw[zY (N:=jN v b 1 0) U λi c e=>⟨λz=>by rw[(B i c (List.getElem?_eq_some_iff.mp e).1 e).mp z];rfl,λz=>(B i c (List.getElem?_eq_some_iff.mp e).1 e).mpr (by simpa using z)⟩,bAO] at W;refine⟨D,_,rfl,.inl (SqL.of g6),?_⟩;rw[show ys.length=jN v b 1 0 by lia];exact q H6 (V.trans s6)
def pD (K:bFH)(H:Hp)(M:Addr)(vh vp:V)(R:Addr)(t:Tb)(vm:V):Prop:=H M=some (.lst [vh,vp,.ref R,vm])/\lJ K H vh t.hd/\rA K H vp t.pl/\bY K H R t.rows
theorem pD.same {H H':Hp}{M R:Addr}{vh vp vm:V}{t:Tb}(s:Same H H')(h:pD K H M vh vp R t vm):pD K H' M vh vp R t vm:=⟨s _ _ h.1,h.2.1.same s,h.2.2.1.same s,h.2.2.2.same s⟩
def yS (K:bFH):Sp:=λvs H Q _=>∃(M R:Addr) (vh vp vm:V) (t:Tb) (m house:Int) (n:Str) (h0:Int) (cs:List (V × Int)),vs=[.ref M,.int m,.int house]/\pD K H M vh vp R t vm/\mD m t/\t.pl=.spans n h0 cs/\∀L H',H L=none->Same H H'->bY K H' L ((srt t.rows).filter λr=>cF t.hd m r house t.pl)->Q (.ref L) H'
def aDs (T:Txt w K mg)(rC:Ok P w K mg base 1 "_law_spot" ["_law_head_here","_law_name"] (oZ K))(ad:Ok P w K mg base 1 "_law_home" ["_law_value_here","_law_houses"] aYk)(tG:Ok P w K mg base 1 "_law_span" ["_law_cuts","_law_value_here"] (aBo K)):Ok P w K mg base 2 "_law_stood" ["_law_table","_law_houses","_law_house"] (yS K):=by
 refine Ok.ofV T.aF1 eY (by trivial) (λf a8 A a4 s H vs Q E hr h=>?_)
 obtain⟨M,R,vh,vp,vm,t,m,a,n,h0,o,rfl,⟨gM,hI,a2,⟨us,gR,k⟩⟩,y,j,q⟩:=h;have d:=a2;rw[j] at d;obtain⟨b,vo,rfl,I,G⟩:=d;obtain⟨cc,cu,rfl,X,D⟩:=id G;have C:=y.pl;rw[j] at C;obtain⟨a9,kd,hk,ab,W⟩:=C;have l8:=y.hd.1.2.2;have lu:=k.len;have aa:=y.few;refine⟨_,(aD (rY (vv 0) (aN0 rfl (bH (aO (i:=3) eY.nd rfl (by trivial)) (bH (aO (i:=4) eY.nd rfl (by trivial)) (bH (aO (i:=5) eY.nd rfl (by trivial)) (bH (aO (i:=6) eY.nd rfl (by trivial)) fV)))))) (aD (cA (aY dW (aK aX (vv 4) aC (λ_ _=>rfl)) bN (aW _)) (aG (aL (aM eG (by rfl) T.eO dG (aB (vv 5) aA)))) aZ) (aD (aV (i:=7) eY.nd rfl (by trivial) (aN (rC.mono (by decide)) hr (by rfl) (aB (vv 3) (aB (aK aX (vv 4) aC (λ_ _=>rfl)) aA)))) (aD (cA (aY dW (aK aX (vv 4) aC (λ_ _=>rfl)) bN (aW _)) (aG (aL (aM eG (by rfl) T.eO dG (aB (cL (N:=["_law_row_here","_law_house","_law_houses","_law_spot_here"]) (by trivial) (dZ (aF iQ) rfl (by decide +kernel)) rfl (eN (vv 5)) (λcl c H' fp=>⟨(aO (i:=0) (show (["_law_row_here","_law_house","_law_houses","_law_spot_here"]:List Str).Nodup from by decide +kernel) rfl (Or.inl rfl)),(mJ (aY dW (aN (ad.mono (by decide)) hr (by rfl) (aB (aK (bR (K:=K)) (vv 0) (vv 3) (λ_ _=>rfl)) (aB (vv 2) aA))) (vv 1) (aW _))),(vv 0)⟩)) aA)))) aZ) (aG (aL (aM eG (by rfl) T.eO dG (aB (cL (N:=["_law_row_here","_law_house","_law_placing","_law_spot_here"]) (by trivial) (dZ (aF iQ) rfl (by decide +kernel)) rfl (eN (vv 5)) (λcl c H' fp=>⟨(aO (i:=0) (show (["_law_row_here","_law_house","_law_placing","_law_spot_here"]:List Str).Nodup from by decide +kernel) rfl (Or.inl rfl)),(mJ (aY dW (aK (bR (K:=K)) (aK (bR (K:=K)) (aK (bR (K:=K)) (vv 2) aC (λ_ _=>rfl)) (aN (tG.mono (by decide)) hr (by rfl) (aB (aK (bR (K:=K)) (vv 2) aC (λ_ _=>rfl)) (aB (aK (bR (K:=K)) (vv 0) (vv 3) (λ_ _=>rfl)) aA))) (λ_ _=>rfl)) aC (λ_ _=>rfl)) (vv 1) (aW _))),(vv 0)⟩)) aA)))))))),?_⟩;refine⟨_,rfl,M,_,rfl,SqL.of gM,rfl,_,_,rfl,_,_,rfl,_,_,rfl,_,_,rfl,rfl,?_⟩;refine⟨_,rfl,b,_,0,_,rfl,rfl,I,at0 _ _,rfl,_,rfl,gO (by decide) ?_⟩;refine⟨_,rfl,_,rfl,b,_,1,_,rfl,rfl,I,at1 _ _ _,vh,n,t.hd,kd,rfl,hI,by lia,hk,λH1 x=>?_⟩;refine⟨_,rfl,b,_,0,_,rfl,rfl,x.bA I,at0 _ _,rfl,_,rfl,gO (by decide) ?_⟩;dsimp only[cD,aDl,aAm,tV,tCB,fG,List.set,rZ];refine aFm us (λi=>cF t.hd m (t.rows.getD i []) a t.pl) [none,some (.int a),some (.ref b),some (.int (plc t.hd n:Nat))] (aAw 2 4 7 (by decide +kernel) (by decide +kernel) (by decide +kernel) rfl rfl rfl rfl rfl rfl (by trivial) (by trivial) (by trivial)) (small (by lia)) (λR' r'=>aOz (λH' sm=>SqL.of (sm _ _ (x _ _ gR))) (λac a5=>⟨_,rfl,a5⟩) R' r') (λi u ex H' R' l sm rr=>?_) rfl λD7 H7 a7 O g7=>?_
 ·obtain⟨r,J,ru,rfl,L⟩:=cJ k ex;have a1:=y.rows r (t7 J);obtain⟨v,hv,hg,a6⟩:=aJl a1 hk;have eg:t.rows.getD i []=r:=by rw[j4,J];rfl
  rw[eg,j] at rr;have c:=x.trans sm;refine⟨_,rfl,b,_,2,_,rfl,rfl,c.bA I,at2 _ _ _ _,_,rfl,b,_,2,_,rfl,rfl,c.bA I,at2 _ _ _ _,_,rfl,_,rfl,ru,r,_,v,rfl,rfl,c.bA L,bV hv,.ref cc,v,kd,m,h0,o,rfl,rG.same c (λ_ _ z=>z.same c) G,W,a6,λH2 Y=>?_⟩;have hN:=aOi v o;have lc:=D.len;rw[v9] at lc;have F:jN v o 1 0<cu.length:=by lia
  obtain⟨c0,U,pc,S,a3⟩:=cJ D (d7 F);refine⟨cc,cu,_,cu[jN v o 1 0],rfl,rfl,(c.trans Y).bA X,bV (d7 F),pc,_,1,_,S,rfl,(c.trans Y).bA a3,at1 _ _ _,_,rfl,rfl,_,rfl,?_⟩;have e:decide (V.int c0.2=V.int a)=cF t.hd m r a (.spans n h0 o):=by show _=decide ((((.non,h0)::o).map (·.2)).getD (jN (r.getD (plc t.hd n) .non) o 1 0) 0=a);rw[hg,j4,v6,U];exact decide_eq_decide.mpr ⟨λz=>V.int.inj z,λz=>congrArg V.int z⟩
  rw[e];exact rr H2 Y
 have B:cV (cI K H7) (sel (λi=>cF t.hd m (t.rows.getD i []) a t.pl) 0 us) (t.rows.filter λr=>cF t.hd m r a t.pl):=by have eF:(t.rows.filter λr=>cF t.hd m r a t.pl)=sel (λi=>cF t.hd m (t.rows.getD i []) a t.pl) 0 t.rows:=(mX λi r J=>by rw[bDB,j4,J];rfl).symm;rw[eF];exact (aCt k 0).imp λ_ _ r=>r.same (x.trans O)
 have lF:=B.len;have lf:(t.rows.filter λr=>cF t.hd m r a t.pl).length<=t.rows.length:=bBH _ _;have g:∀r∈t.rows,KdR (knds t.hd) r:=λr p=>gC (y.rows r p);refine⟨D7,_,_,knds t.hd,rfl,SqL.of g7,cQ B,by lia,lY y.hd.1,λr p=>g r (List.mem_filter.mp p).1,λL8 H8 a0 Z s8 g8 h8=>?_⟩;rw[vP g] at h8;exact q L8 H8 (none_of (x.trans O) Z) (x.trans (O.trans s8)) ⟨a0,g8,(iM h8).imp λ_ _ z=>z.same s8⟩
section
variable {X:Cx}{A0:Around}
def aV9 (a:A0.units+64<cLine)(h:X.K=K:=by rfl)(b:X.A=A0:=by rfl):OpR X (compareOp .LtE) (bBw K):=by subst h b;exact aZ3 a
def aXx (a:A0.units+64<cLine)(h:X.K=K:=by rfl)(b:X.A=A0:=by rfl):OpR X (compareOp .Gt) (bBt K):=by subst h b;exact aSi a
def aV5 (K:bFH):R2:=λx y H Q=>∃(l:Addr) (us:List V) (rs:List (List V)) (q:List V),y=.ref l/\SqL K H l us/\Al2 (cI K H) us rs/\(∀r∈rs,pF r)/\cI K H x q/\pF q/\Q (.bl (decide (q∈rs))) H
def aVy (hu:A0.units+64<cLine)(h:X.K=K:=by rfl)(b:X.A=A0:=by rfl):OpR X (compareOp .In) (aV5 K):=by
 subst h b;intro m s σ H x y v u Q I g w h;obtain⟨l,B,p,q,rfl,o,i,f,r,j,k⟩:=h;cases w;obtain⟨a,d,c,_⟩:=I.list o;obtain⟨e,t,b⟩:=aPk I (A:=X.A.in1) (show X.A.units+1+2<cLine by lia) d i f r j g;refine SeqAt.in_listAt e c.isList (λy n=>t y (by simpa using n)) ?_;have z:a.toArray.any e=decide (q∈p):=by rw[<-b];simp
 rw[z];exact⟨.bl _,H,I,rfl,k⟩
end
def aEz {ks:List Bool}{rs:List (List V)}(h:∀r∈rs,KdR ks r):srt (srt rs)=srt rs:=(sI h (jX h).1.symm).symm
def yW (K:bFH):Sp:=λvs H Q _=>∃(M R:Addr) (vh vp vm:V) (t:Tb) (mq:Mv) (m:Int) (n:Str) (h0:Int) (cs:List (V × Int)),vs=[.ref M]/\pD K H M vh vp R t vm/\uY K H vm mq/\mD m t/\t.pl=.spans n h0 cs/\∀L H',H L=none->Same H H'->bY K H' L ((srt t.rows).filter (gF t.hd n cs mq.num))->Q (.ref L) H'
def aAh (T:Txt w K mg)(rC:Ok P w K mg base 1 "_law_spot" ["_law_head_here","_law_name"] (oZ K))(tG:Ok P w K mg base 1 "_law_span" ["_law_cuts","_law_value_here"] (aBo K)):Ok P w K mg base 2 "_law_of_span" ["_law_table"] (yW K):=by
 refine Ok.ofV T.aBs dF (by trivial) (λf a1 A O s H vs Q E hr h=>?_)
 obtain⟨M,R,vh,vp,vm,t,B,m,n,h0,p,rfl,⟨gM,hI,x,c⟩,⟨ma,vk,rfl,G,_⟩,g,j,q⟩:=h;rw[j] at x;obtain⟨b,vo,rfl,hb,U⟩:=x;obtain⟨us,gR,a2⟩:=id c;have o:=g.pl;rw[j] at o;obtain⟨a3,X,Y,a5,I⟩:=o;have l8:=g.hd.1.2.2;have a4:=g.few;refine⟨_,(aD (rY (vv 0) (aN0 rfl (bH (aO (i:=1) dF.nd rfl (by trivial)) (bH (aO (i:=2) dF.nd rfl (by trivial)) (bH (aO (i:=3) dF.nd rfl (by trivial)) (bH (aO (i:=4) dF.nd rfl (by trivial)) fV)))))) (aD (aV (i:=5) dF.nd rfl (by trivial) (aN (rC.mono (by decide)) hr (by rfl) (aB (vv 1) (aB (aK aX (vv 2) aC (λ_ _=>rfl)) aA)))) (aG (aL (aM eG (by rfl) T.eO dG (aB (cL (N:=["_law_row_here","_law_move","_law_placing","_law_spot_here"]) (by trivial) (dZ (aF jA) rfl (by decide +kernel)) rfl (eN (vv 3)) (λcl y H' fp=>⟨(aO (i:=0) (show (["_law_row_here","_law_move","_law_placing","_law_spot_here"]:List Str).Nodup from by decide +kernel) rfl (Or.inl rfl)),(mJ (aY dW (aN (tG.mono (by decide)) hr (by rfl) (aB (aK (bR (K:=K)) (vv 2) aC (λ_ _=>rfl)) (aB (aK (bR (K:=K)) (vv 0) (vv 3) (λ_ _=>rfl)) aA))) (aK (bR (K:=K)) (vv 1) aC (λ_ _=>rfl)) (aW _))),(vv 0)⟩)) aA)))))),?_⟩;refine⟨_,rfl,M,_,rfl,SqL.of gM,rfl,_,_,rfl,_,_,rfl,_,_,rfl,_,_,rfl,rfl,?_⟩;refine⟨_,rfl,_,rfl,b,_,1,_,rfl,rfl,hb,at1 _ _ _,vh,n,t.hd,X,rfl,hI,by lia,Y,λH1 k=>?_⟩;dsimp only[cD,aDl,aAm,tV,tCB,fG,List.set,rZ];refine iW [none,some (.ref ma),some (.ref b),some (.int (plc t.hd n:Nat))] (aAw 4 2 5 (by decide +kernel) (by decide +kernel) (by decide +kernel) rfl rfl rfl rfl rfl rfl (by trivial) (by trivial) (by trivial)) ?_;refine⟨_,rfl,R,rfl,⟨_,SqL.of (k _ _ gR)⟩,pW (c.same k) (by lia) (gF t.hd n p B.num) rfl (λu r a H' R' l sm C rr=>?_) λD7 H7 a0 W D=>?_⟩
 ·obtain⟨ra,rfl,F⟩:=C;obtain⟨v,hv,hg,S⟩:=aJl (g.rows r a) Y;have y:=k.trans sm;refine⟨_,rfl,b,_,2,_,rfl,rfl,y.bA hb,at2 _ _ _ _,_,rfl,_,rfl,ra,r,_,v,rfl,rfl,F,bV hv,vo,v,X,m,h0,p,rfl,rG.same y (λ_ _ z=>z.same y) U,I,S,λH2 s2=>?_⟩;refine⟨_,rfl,ma,_,0,_,rfl,rfl,(y.trans s2).bA G,at0 _ _,rfl,_,rfl,?_⟩;have e:decide (V.int (jN v p 1 0:Nat)=V.int B.num)=gF t.hd n p B.num r:=by unfold gF;rw[hg];exact decide_eq_decide.mpr ⟨λz=>by have:=V.int.inj z;lia,λz=>by rw[z]⟩
  rw[e];exact rr H2 s2
 ·obtain⟨u7,g7,h7⟩:=D;have l7:=h7.len;have lf:=bBH (gF t.hd n p B.num) t.rows;have d:∀r∈t.rows,KdR (knds t.hd) r:=λr a=>gC (g.rows r a);refine⟨D7,u7,_,knds t.hd,rfl,SqL.of g7,cQ h7,by lia,lY g.hd.1,λr a=>d r (List.mem_filter.mp a).1,λL8 H8 L J Z g8 h8=>?_⟩;rw[vP d] at h8;exact q L8 H8 (none_of (k.trans W) J) (k.trans (W.trans Z)) ⟨L,g8,(iM h8).imp λ_ _ z=>z.same Z⟩
def aCh (K:bFH):Sp:=λvs H Q _=>∃(M R:Addr) (vh vp vm:V) (t:Tb) (mq:Mv) (m house:Int) (n:Str) (h0:Int) (cs:List (V × Int)),vs=[.ref M,.int m,.int house]/\pD K H M vh vp R t vm/\uY K H vm mq/\mD m t/\t.pl=.spans n h0 cs/\mq.house≠oA mq.num h0 cs/\(∀q,mq.mark=some q->jQ t.hd q)/\∀L H',H L=none->Same H H'->bY K H' L (oK t.hd m house t.pl (some mq) n cs (srt t.rows))->Q (.ref L) H'
def aB1 (T:Txt w K mg)(pM:Ok P w K mg base 2 "_law_stood" ["_law_table","_law_houses","_law_house"] (yS K))(mR:Ok P w K mg base 2 "_law_of_span" ["_law_table"] (yW K)):Ok P w K mg base 3 "_law_stands" ["_law_table","_law_houses","_law_house"] (aCh K):=by
 refine Ok.ofV T.aD2 iV (by trivial) (λf a9 A a6 s H vs Q E hr h=>?_)
 obtain⟨M,R,vh,vp,vm,t,c,m,a,n,h0,k,rfl,hM,Y,X,p,a7,a1,q⟩:=h;have ac:=X.few;have hU:=hr.units;obtain⟨I,vk,rfl,B,D⟩:=id Y;have o:∀r∈t.rows,KdR (knds t.hd) r:=λr b=>gC (X.rows r b);have d:∀r∈srt t.rows,KdR (knds t.hd) r:=λr b=>o r (fZ b);have ls:=qH t.rows;refine⟨_,(aD (aV (i:=3) iV.nd rfl (by trivial) (aN (pM.mono (by decide)) hr (by rfl) (aB (vv 0) (aB (vv 1) (aB (vv 2) aA))))) (aD (aV (i:=4) iV.nd rfl (by trivial) (aK bK (vv 0) aC (λ_ _=>rfl))) (aD (cA (VW.pt (aCp (aY aAv (vv 4) jU (aW _)) (aCp (aY dW (aK aX (vv 4) aC (λ_ _=>rfl)) (vv 2) (aW _)) (aA1 (aY aAv (aK (bR (K:=K)) (vv 4) aC (λ_ _=>rfl)) jU (aW _)))))) (aG (aV (i:=3) iV.nd rfl (by trivial) (bO sS (vv 3) (cL (N:=["_law_row_here","_law_move"]) (by trivial) (dZ (aF kY) rfl (by decide +kernel)) rfl (eN (aN (mR.mono (by decide)) hr (by rfl) (aB (vv 0) aA))) (λcl s' H' fp=>⟨(aO (i:=0) (show (["_law_row_here","_law_move"]:List Str).Nodup from by decide +kernel) rfl (Or.inl rfl)),(mJ (aY (aV9 (K:=K) hU) (vv 0) (aK (bR (K:=K)) (vv 1) aC (λ_ _=>rfl)) (aW _))),(vv 0)⟩))))) aZ) (aG (aL (aM eG (by rfl) T.eO dG (aB (vv 3) aA))))))),?_⟩;refine⟨_,rfl,_,rfl,_,rfl,M,R,vh,vp,.ref I,t,m,a,n,h0,k,rfl,hM,X,p,λL H1 hL v hR=>?_⟩;have W:=hM.same v;refine⟨_,rfl,M,_,3,_,rfl,rfl,SqL.of W.1,bV (j:=3) rfl,?_⟩;have x:∀H2 L2 J,Same H1 H2->bY K H2 L2 J->J.length<64->(∀r∈J,KdR (knds t.hd) r)->srt J=oK t.hd m a t.pl (some c) n k (srt t.rows)->aL9 K [.ref L2] H2 Q:=λH2 L2 J G ⟨us,g,U⟩ aa a2 e=>⟨L2,us,J,knds t.hd,rfl,SqL.of g,cQ U,by have:=U.len;lia,lY X.hd.1,a2,λL8 H8 a5 a4 s8 g8 h8=>q L8 H8 (none_of (v.trans G) a4) (v.trans (G.trans s8)) ⟨a5,g8,by rw[<-e];exact (iM h8).imp λ_ _ z=>z.same s8⟩⟩;have f1:=bBH (λr=>cF t.hd m r a t.pl) (srt t.rows);have y:∀r∈(srt t.rows).filter λr=>cF t.hd m r a t.pl,KdR (knds t.hd) r:=λr b=>d r (List.mem_filter.mp b).1;refine⟨_,rfl,rfl,_,rfl,nP (by rw[v8 (λz=>by cases z)];rfl) ?_⟩;refine⟨_,rfl,I,_,1,_,rfl,rfl,v.bA B,at1 _ _ _,_,rfl,rfl,_,rfl,?_⟩;by_cases Z:c.house=a
 ·refine nP (t6 (congrArg V.int Z)) ?_;have F:oK t.hd m a t.pl (some c) n k (srt t.rows)=_:=if_pos Z;refine⟨_,rfl,I,_,2,_,rfl,rfl,v.bA B,at2 _ _ _ _,rfl,_,rfl,?_⟩;cases C:c.mark with
  |none=>rw[C] at D F;have D:vk=.non:=D;subst D;refine gO rfl ⟨_,rfl,x H1 L _ (Same.refl _) hR (by lia) y ?_⟩;rw[F,show ((srt t.rows).filter λr=>pY none r && gF t.hd n k c.num r)=[] from List.filter_eq_nil_iff.mpr λr _=>by show ¬ (false && _)=true;simp,bCJ]
  |some r0=>
   rw[C] at D F;obtain⟨ka,rfl,a3⟩:=id D;refine nP (by rw[v8 (λz=>by cases z)];rfl) ?_;refine⟨_,rfl,?_⟩;refine iW [none,some (.ref I)] (lB 4 (by decide +kernel) rfl rfl (by trivial)) ?_;refine⟨_,rfl,M,R,vh,vp,.ref I,t,c,m,n,h0,k,rfl,W,Y.same v,X,p,λD2 H2 ad G S=>?_⟩;obtain⟨w2,g2,h2⟩:=id S;have f2:=bBH (gF t.hd n k c.num) (srt t.rows);refine⟨D2,rfl,⟨_,SqL.of g2⟩,pW S (by lia) (pY (some r0)) rfl (λu r b H' R' l sm a0 rr=>?_) λD3 H3 a8 s3 O=>?_⟩
   ·have s':=v.trans (G.trans sm);exact⟨_,rfl,_,rfl,I,_,2,_,rfl,rfl,s'.bA B,at2 _ _ _ _,knds t.hd,r,r0,a0,⟨ka,rfl,s'.bA a3⟩,d r (List.mem_filter.mp b).1,gC (a1 r0 C),_,rfl,rr H' (Same.refl _)⟩
   ·rw[bDP] at O;obtain⟨u1,g1,h1⟩:=hR.same (G.trans s3);obtain⟨u3,g3,h3⟩:=O;have l1:=h1.len;have l3:=h3.len;have f3:((srt t.rows).filter λr=>cF t.hd m r a t.pl).length+((srt t.rows).filter λr=>pY (some r0) r && gF t.hd n k c.num r).length<=(srt t.rows).length:=by rw[p];exact aFd (pY (some r0)) (srt t.rows) Z a7
    refine⟨L,D3,u1,u3,rfl,rfl,g1,g3,small (by lia),λR4 H4 ab s4 g4=>?_⟩;refine⟨_,rfl,x H4 R4 _ (G.trans (s3.trans s4)) ⟨_,g4,cV.app (h1.imp λ_ _ z=>z.same s4) (h3.imp λ_ _ z=>z.same s4)⟩ (by rw[bAB];lia) (λr b=>?_) F.symm⟩;rcases List.mem_append.mp b with z|z
    ·exact y r z
    ·exact d r (List.mem_filter.mp z).1
 ·refine gO (v8 λz=>Z (V.int.inj z)) (bZ ⟨_,rfl,x H1 L _ (Same.refl _) hR (by lia) y ?_⟩);have F:oK t.hd m a t.pl (some c) n k (srt t.rows)=_:=if_neg Z;rw[F,vP d,aEz o]
def aOc {X:Cx}{scope:Scope}{x y z:Str}{σ:L2.St}{u v:V}(i j:Nat)(e:(y,NameKind.free)∈scope.names)(g:(z,NameKind.free)∈scope.names)(hi:X.N[i]?=some y)(d:X.N[j]?=some z)(f:σ[i]?=some (some u))(c:σ[j]?=some (some v))(h:Vis X.env.scope y)(k:Vis X.env.scope z):Cap X scope [x,y,z] σ [none,some u,some v]:=
 ⟨rfl,λn q r a b=>by
  match n,a,b with
  |0,_,b=>cases b
  |1,a,b=>cases a;cases b;exact⟨e,i,hi,f,h⟩
  |2,a,b=>cases a;cases b;exact⟨g,j,d,c,k⟩
  |n+3,a,_=>cases a⟩
def aUl {n i:Nat}{x:V}(e:((List.range n).map λi:Nat=>V.int (0+(i:Int)))[i]?=some x):i<n/\x=.int (0+(i:Int)):=by
 have a:i<n:=by have:=(List.getElem?_eq_some_iff.mp e).1;rw[j9,bAL] at this;exact this
 rw[v6,bCI a] at e;exact⟨a,(bAP e).symm⟩
def aJc {X:Cx}{scope:Scope}{N:List Str}{ta:TA}{te:TE}{tt:TT}{g:TG}{σ:L2.St}{H:Hp}{Q:VK}(b:L2.St)(a:Cap X scope N σ b)(h:ta σ H λvs H1=>∃j:Int,vs=[.int j]/\-(2 ^ 62)<=j/\j<2 ^ 62/\tK (Itr 0 j.toNat) H1 b g tt te Q):lN X scope N (aSu ta) g tt te σ H Q:=⟨b,a,h⟩
theorem aOb {K:bFH}{H:Hp}{Pr:List V->Prop}:∀{ys:List V},(∀y∈ys,∃r,cI K H y r/\Pr r)->∃rs,cV (cI K H) ys rs/\∀r∈rs,Pr r
 |[],_=>⟨[],.nil,λr h=>by cases h⟩
 |y::ys,h=>by
  obtain⟨r,a,c⟩:=h y j6;obtain⟨rs,d,e⟩:=aOb (ys:=ys) λz b=>h z (j8 _ b);refine⟨r::rs,.cons a d,λx hx=>?_⟩;rcases List.mem_cons.mp hx with rfl|hx
  ·exact c
  ·exact e x hx
theorem aPj {k:Str}:∀{ys:List V},(∀y∈ys,cM k y)->∃ks:List Key,ys=ks.map kV/\∀x∈ks,cM k (kV x)
 |[],_=>⟨[],rfl,λx h=>by cases h⟩
 |y::ys,h=>by
  obtain⟨ks,e,b⟩:=aPj (ys:=ys) λz hz=>h z (j8 _ hz);have a:=h y j6;obtain⟨x,rfl⟩:∃x,y=kV x:=by
   cases a with
   |num=>exact⟨.inl _,rfl⟩
   |wrd _ _=>exact⟨.inr _,rfl⟩
  refine⟨x::ks,by rw[e];rfl,λz hz=>?_⟩;rcases List.mem_cons.mp hz with rfl|hz
  ·exact a
  ·exact b z hz
def aP9 {k:Str}{ks:List Key}(h:∀x∈ks,cM k (kV x)):(∀x∈ks,∃n,x=Sum.inl n)\/∀x∈ks,∃n,x=Sum.inr n:=by
 by_cases d:k = "number"
 ·refine .inl λx a=>?_;cases x with
  |inl n=>exact⟨n,rfl⟩
  |inr n=>
   have:=h _ a;rw[d] at this;generalize b:kV (Sum.inr n)=v at this;generalize c:("number":Str)=k0 at this;cases this with
   |num=>cases b
   |wrd _ _=>exact absurd c (by decide)
 ·refine .inr λx a=>?_;cases x with
  |inr n=>exact⟨n,rfl⟩
  |inl n=>
   have:=h _ a;generalize b:kV (Sum.inl n)=v at this;cases this with
   |num=>exact absurd rfl d
   |wrd _ _=>cases b
def aZ8 {a b:Key}(h:ltK a b):vlt (kV a) (kV b)=true:=by cases a <;> cases b <;> first|exact t6 h|exact absurd h id
def bC4 (J:It)(H:Hp)(σ:L2.St)(g:TG)(tb:TS)(D:Ends):Prop:=∃W:Nat->Nat->L2.St->Hp->Prop,(∃m,W 0 m σ H)/\∀i m σ H,W i m σ H ->
 (J.stop i H/\D.nx σ H)\/(J.go i H/\∃N:L2.St->Hp->Prop,(∀σ' H',N σ' H'->∃m',m'<m/\W (i+1) m' σ' H')/\∀x H',J.yld i H x H'->g x σ H' fun σ2 H2=>tb { D with nx:=N,ct:=N,bk:=D.nx } σ2 H2)
def aX3 {g:TG}{tb:TS}{D:Ends}{σ:L2.St}{H:Hp}{tl:TE}(h:tl σ H λv H1=>∃a,v=.ref a/\(∃xs,SqL K H1 a xs)/\bC4 (Itl K a) H1 σ g tb D):aZ1 (aFb K tl) g tb D σ H:=h
def aK2 (K:bFH)(C Pt:Addr):Sp:=λvs H Q _=>∃(a N:Addr) (ns:List Str),vs=[.ref a,.ref N,.int 10]/\iK H a/\H N=some (.lst (ns.map V.str))/\N≠a/\xO ns/\H Pt=some (.tab qC) /\
 ∀(t x M R d dm:Addr) (m:Int) (vh vp:V) (tb:Tb) (e:En) (n:Str) (h0:Int) (cs:List (V × Int)) H',Fx a H H'->SqT K H' t [.ref x,.ref M,.int m]->pD K H' M vh vp R tb .non->bM K H' C x m d dm [e]->H' dm=some (.dK [])->some e.n=ns[0]?->e.t={ tb with rows:=srt tb.rows }->mD m tb->tb.rows.length<=10->tb.pl=.spans n h0 cs->2<=m->m<=4->H M=none->H R=none->H e.L=none->M≠R->e.L≠R->e.L≠M->Q (.ref t) H'
def uE (T:Txt w K mg){C Pt:Addr}(aQ:Ok P w K mg base 1 "_law_next" ["_law_state","_law_many"] nG)(d6:Ok P w K mg base 2 "_law_head" ["_law_state","_law_names_here"] (aIt K))(qJ:Ok P w K mg base 3 "_law_value" ["_law_state","_law_kind"] aG2)(vL:Ok P w K mg base 4 "_law_row" ["_law_state","_law_head_here"] (aH2 K))(b7:OkC P w K mg base C 11 "Store" ["self","houses","tables"] (aLc K C Pt)):Ok P w K mg base 13 "_law_spans_begun" ["_law_state","_law_names_here","_law_most"] (aK2 K C Pt):=by
 refine Ok.ofV T.vR bJ (by trivial) (λf dk A cf s H vs Q E hr h=>?_)
 obtain⟨a,N,ns,rfl,hs,hN,nN,hn,b6,q⟩:=h;have hu:=sU hr;have dd:=hn.1;have ch:Pt≠a:=λz=>by obtain⟨_,e,_⟩:=hs;rw[z,e] at b6;cases b6
 refine⟨_,(aD (aV (i:=3) bJ.nd rfl (by trivial) (bO dX aC (aN (aQ.mono (by decide)) hr (by rfl) (aB (vv 0) (aB aC aA))))) (aD (aV (i:=4) bJ.nd rfl (by trivial) (aN (d6.mono (by decide)) hr (by rfl) (aB (vv 0) (aB (vv 1) aA)))) (aD (rY (aK aX (vv 4) (aN (aQ.mono (by decide)) hr (by rfl) (aB (vv 0) (aB (aM bB (by rfl) T.eX cY (aB (vv 4) aA)) aA))) (λ_ _=>rfl)) (zF rfl (bH (aO (i:=5) bJ.nd rfl (by trivial)) (bH (aO (i:=6) bJ.nd rfl (by trivial)) fV)))) (aD (aV (i:=7) bJ.nd rfl (by trivial) (dJ (aB (dR (aB jU (aB (aN (aQ.mono (by decide)) hr (by rfl) (aB (vv 0) (aB (vv 3) aA))) aA))) aA))) (aD (jT PassesOwn.never rfl (eN (aM (aF3 rfl) (by rfl) T.eO dG (aB (cX (aQ8 rfl) (by rfl) T.aO7 aG4 (aB (cL (N:=["_law_k","_law_state","_law_kind"]) (by trivial) (dZ (aF dD) rfl (by decide +kernel)) rfl (iI (by rfl) T.lU (aB (aN (aQ.mono (by decide)) hr (by rfl) (aB (vv 0) (aB aC aA))) aA)) (λcl s' n fp=>⟨(aO (i:=0) (show (["_law_k","_law_state","_law_kind"]:List Str).Nodup from by decide +kernel) rfl (Or.inl rfl)),iH,(aN (qJ.mono (by decide)) hr (by rfl) (aB (vv 1) (aB (vv 2) aA)))⟩)) aA)) aA))) (aO (i:=8) bJ.nd rfl (by trivial)) (aG (iR (wU PySem.F.plainAttrs_list PySem.F.slot_list_append PySem.F.type_list_append pZ (vv 7) (aB (dR (aB (vv 8) (aB (aN (aQ.mono (by decide)) hr (by rfl) (aB (vv 0) (aB (vv 3) aA))) aA))) aA))))) (aD (aV (i:=9) bJ.nd rfl (by trivial) (dR (aB bN (aB (vv 5) (aB (cX rP (by rfl) T.kO gQ (aB (vv 7) aA)) aA))))) (aD (aOf (i0:=10) bJ.nd rfl (by trivial) (N:=["_law_k","_law_state","_law_head_here"]) (by trivial) (dZ (aF dD) rfl (by decide +kernel)) rfl (iI (by rfl) T.lU (aB (aN (aQ.mono (by decide)) hr (by rfl) (aB (vv 0) (aB (bO dX (vv 2) aC) aA))) aA)) (λcl s' n fp=>⟨(aO (i:=0) (show (["_law_k","_law_state","_law_head_here"]:List Str).Nodup from by decide +kernel) rfl (Or.inl rfl)),iH,(aN (vL.mono (by decide)) hr (by rfl) (aB (vv 1) (aB (vv 2) aA)))⟩)) (aD (aV (i:=11) bJ.nd rfl (by trivial) (aNy (b7.mono (by decide)) hr (by rfl) (aB (vv 3) (aB (aWi (aU9 (aK bK (vv 1) aC (λ_ _=>rfl)) (dR (aB (vv 4) (aB (vv 9) (aB (vv 10) aA)))) aXu) rfl rfl (by simp) (by decide)) aA)))) (aG (aL (dR (aB (vv 11) (aB (dJ (aB (vv 4) (aB (vv 9) (aB (cX vN (by rfl) T.aA4 wB (aB (vv 10) aA)) (aB jU aA))))) (aB (vv 3) aA)))))))))))))),?_⟩;refine⟨_,rfl,a,3,rfl,hs,by decide,λz3 H1 f1 w0 w1=>⟨_,_,rfl,rfl,?_⟩⟩;obtain⟨m,em⟩:∃m:Int,m=2+z3:=⟨_,rfl⟩;show cD 3 (V.int (2+z3)) _ _ _;rw[<-em];have m2:2<=m:=by lia
 have m4:m<=4:=by lia
 refine⟨_,rfl,_,rfl,a,N,ns,rfl,f1.st,f1.same _ _ nN hN,nN,hn,λvh H2 hd f2 hI a3 _=>?_⟩;obtain⟨b,us,rfl,hb,bc⟩:=id hI;have lu:=bc.len;have l1:=a3.1.2.1;have l8:=a3.1.2.2;refine⟨_,rfl,_,rfl,_,rfl,b,us,rfl,.inr hb,a,_,rfl,f2.st,⟨by lia,by lia⟩,λz H3 f3 z0 z1=>?_⟩;obtain⟨zi,rfl⟩:∃zi:Nat,z=zi:=⟨z.toNat,by lia⟩;have hz:zi<us.length:=by lia
 obtain⟨c,hc,pc,c9,cw⟩:=cJ bc (d7 hz);refine⟨b,us,_,.ref pc,rfl,rfl,f3.bA f2.st hb,bV (by rw[d7 hz,c9]),?_⟩;have bs:=t7 hc;have lk:=aS0 a3.1.1 bs;obtain⟨ct,bf⟩:=a3.2 c bs;refine⟨pc,_,rfl,f3.bA f2.st cw,rfl,_,_,rfl,_,_,rfl,rfl,?_⟩;have c6:=f1.trans (f2.trans f3);refine⟨_,rfl,_,rfl,a,m,rfl,f3.st,⟨by lia,by lia⟩,λh0 H4 f4 bz c0=>?_⟩;refine⟨by show 2<=sizeLine;decide,λt1 H5 _ s5 g5=>⟨by show 1<=sizeLine;decide,λCc H6 hC s6 g6=>?_⟩⟩;have b2:=c6.trans f4;have af:=(b2.sm s5).sm s6;have ai:Cc≠a:=(b2.sm s5).st.ne hC;have cg:H Cc=none:=b2.free (none_of s5 hC);dsimp only[cD,List.set];refine aX3 ?_;dsimp only[tCB,fG];refine aJc [none,some (.ref a),some (.str c.2)] (aOc 0 6 (by decide +kernel) (by decide +kernel) rfl rfl rfl rfl (by trivial) (by trivial)) ?_;refine⟨_,rfl,a,4,rfl,af.st,by decide,λz H7 f7 d5 dc=>?_⟩;refine⟨z,rfl,by lia,by lia,?_⟩;refine aJb (Fx a) (aUr f7.st) ((List.range z.toNat).map λi:Nat=>V.int (0+(i:Int))) (λ_=>true) (λ_ _ y=>cM c.2 y) (λ_ _ h=>h) (λ_ _ _ h=>h) (λi σ=>∃x,σ=[some x,some (.ref a),some (.str c.2)]) (fun σ=>∃l,σ=[l,some (.ref a),some (.str c.2)]) ⟨none,rfl⟩ (small (by rw[j9,bAL];lia)) (Itr 0 z.toNat) (λn i x _ ex=>?_) (λn _=>?_) (λi x σ' n Q' ex ps f' r=>?_) (λi x σ2 ex at2 n R f' r=>r n (Fx.refl f'.st)) (λi x σ2 ex at2 _ n R f' r=>?_) λL H8 ys f8 fL gL ab=>?_
 ·obtain⟨hi,rfl⟩:=aUl ex;exact⟨hi,λy H2 hy=>hy⟩
 ·show z.toNat<=_;rw[j9,bAL];exact j0 _
 ·obtain⟨l,rfl⟩:=ps;exact r _ ⟨some x,rfl⟩ ⟨x,rfl⟩
 ·obtain⟨x',rfl⟩:=at2;exact⟨_,rfl,_,rfl,a,c.2,rfl,f'.st,bf,λv H2 f2 hv=>r v H2 f2 hv⟩
 rw[rE,j9,bAL] at ab;obtain⟨ly,hy⟩:=pL ab;have b8:=af.trans (f7.trans f8);obtain⟨ks,rfl,d0⟩:=aPj (k:=c.2) (ys:=ys) λy hm=>by obtain⟨i,hi⟩:=List.mem_iff_getElem?.mp hm;exact hy i y hi
 rw[j9] at ly;have bk:=(f7.trans f8).same _ _ ai g6;refine⟨L,ks,rfl,SqL.of gL,by lia,λD da kl df a4 gD b4=>?_⟩;have br:∀x∈kl,cM c.2 (kV x):=λx hx=>d0 x ((b4.2.1 x).mp hx);have db:=b4.2.2;refine⟨D,kl,rfl,gD,by lia,b4.1,aP9 br,λB c3 ac b0 aj gB ao pw=>?_⟩;have dh:=ao.length_eq;have b9:=(b8.sm a4).sm aj;have bh:=aj _ _ (a4 _ _ bk);have cy:H B=none:=b8.free (none_of a4 b0);have ce:B≠a:=hs.ne cy;have cq:B≠Cc:=λz=>by rw[z,a4 _ _ bk] at b0;cases b0
 have cc:SqT K c3 t1 [.non,.int h0]:=aj.bA (a4.bA ((f7.trans f8).bA af.st (s6.bA (SqT.of g5))));refine⟨B,rfl,⟨_,SqL.of gB⟩,aIe (xs:=ac.map kV) (λi σ n=>Fx a H n/\n B=some (.lst (ac.map kV))/\∃J W l,n Cc=some (.lst J)/\cV (lC K n) J ((.non,h0)::W)/\W.map (·.1)=(ac.take i).map kV/\(∀x∈W,0<=x.2/\x.2<m)/\lJ K n (.ref b) hd/\σ=[some (.ref a),some (.ref N),some (.int 10),some (.int m),some (.ref b),some (.str c.1),some (.str c.2),some (.ref Cc),l,none,none,none]) ⟨b9,gB,_,[],none,bh,.cons ⟨t1,rfl,cc⟩ .nil,rfl,λx hx=>(by cases hx),?_,rfl⟩ (λi σ n _ p=>SqL.of p.2.1) (λi x σ n ex p=>?_) fun σ n p=>?_⟩
 ·have h1:lJ K H4 (.ref b) hd:=hI.tk ((f3.trans f4).tk f2.st);have h2:lJ K H8 (.ref b) hd:=((h1.same s5).same s6).tk ((f7.trans f8).tk af.st);exact (h2.same a4).same aj
 ·obtain⟨fx,b3,J,W,l,a2,a7,Y,b5,aw,rfl⟩:=p;rw[v6] at ex;obtain⟨am,bu,rfl⟩:=Option.map_eq_some_iff.mp ex;have cm:=a7.len;have cj:W.length<=4:=by have:=congrArg List.length Y;rw[j9,j9,bAO] at this;lia
  rw[v9] at cm;refine⟨_,rfl,.inl ⟨rfl,_,SqL.of a2⟩,_,rfl,_,rfl,_,rfl,a,m,rfl,fx.st,⟨by lia,by lia⟩,λhh cz u ci cx=>?_⟩;refine⟨by show 2<=sizeLine;decide,λt2 ag aq O al=>?_⟩;have a8:=O _ _ (u.same _ _ ai a2);have bl:=O _ _ (u.same _ _ ce b3);have cn:t2≠Cc:=λz=>by rw[z,u.same _ _ ai a2] at aq;cases aq
  refine⟨Cc,_,_,rfl,rfl,a8,oU (by lia),?_⟩;have kz:KP K (λb=>b≠Cc) ag (L2.upd ag Cc (.lst (J++[.ref t2]))):=.mV a8 λz=>z rfl;refine⟨((fx.trans u).sm O).upd cg ai,by rw[aP cq];exact bl,J++[.ref t2],W++[(kV am,hh)],some (kV am),aH,?_,?_,λx hx=>?_,((aw.tk (u.tk fx.st)).same O).tk kz.tk,rfl⟩
  ·rw[<-List.cons_append];exact (a7.imp λ_ _ ⟨p',ep,hp⟩=>⟨p',ep,(O.bA (u.bA fx.st hp)).mV a8⟩).app (.cons ⟨t2,rfl,SqT.of (by rw[aP cn];exact al)⟩ .nil)
  ·rw[bBI,Y,bBK,bu,bBI];rfl
  ·rcases List.mem_append.mp hx with hx|hx
   ·exact b5 x hx
   ·rw[bE7] at hx;subst hx;exact⟨ci,cx⟩
 ·obtain⟨fx,b3,J,W,l,a2,a7,Y,b5,aw,rfl⟩:=p;rw[j9,bCW] at Y;have cj:W.length=ac.length:=by have:=congrArg List.length Y;rw[j9,j9] at this;exact this
  refine⟨_,rfl,_,rfl,Cc,J,rfl,SqL.of a2,λt3 cz _ ca bn=>⟨by show 3<=sizeLine;decide,λt4 ag _ O al=>?_⟩⟩;have U:=ca.trans O;have I:=fx.sm U;have cv:rA K ag (.ref t4) (.spans c.1 h0 W):=⟨t4,.ref t3,rfl,SqT.of al,t3,J,rfl,O.bA (SqT.of bn),a7.imp λ_ _ z=>z.same U⟩;have bw:aXi hd m (.spans c.1 h0 W):=⟨ct,c.2,lk,bf,⟨bz,c0⟩,λx hx=>⟨by have:x.1∈W.map (·.1):=bDG hx;rw[Y] at this;obtain⟨am,bx,ck⟩:=List.mem_map.mp this;rw[<-ck];exact br am (ao.mem_iff.mp bx),b5 x hx⟩,by rw[Y];exact List.pairwise_map.mpr (pw.imp λh=>aZ8 h),by lia⟩
  have av:=aw.same U;clear a7 b3 a2 bn al;dsimp only[cD,aDl,aAm,List.set];refine aJc [none,some (.ref a),some (.ref b)] (aOc 0 4 (by decide +kernel) (by decide +kernel) rfl rfl rfl rfl (by trivial) (by trivial)) ?_;refine⟨_,rfl,_,rfl,_,_,rfl,rfl,a,_,rfl,I.st,(by show (0:Int)<10+1/\(10:Int)+1<2 ^ 64;decide),λy dq S y0 y1=>?_⟩;have y1:y<10+1:=y1;refine⟨y,rfl,by lia,by lia,?_⟩;have bi:=av.tk (S.tk (K:=K) I.st);refine aJb (Fx a) (aUr S.st) ((List.range y.toNat).map λi:Nat=>V.int (0+(i:Int))) (λ_=>true) (λ_ n y=>∃r,cI K n y r/\jQ hd r) (λf1 f2 ⟨r,⟨p,e,hp⟩,h⟩=>⟨r,⟨p,e,f2.bA f1.st hp⟩,h⟩) (λ_ _ gD ⟨r,⟨p,e,hp⟩,h⟩=>⟨r,⟨p,e,SqT.mV gD hp⟩,h⟩) (λi σ=>∃x,σ=[some x,some (.ref a),some (.ref b)]) (fun σ=>∃l,σ=[l,some (.ref a),some (.ref b)]) ⟨none,rfl⟩ (small (by rw[j9,bAL];lia)) (Itr 0 y.toNat) (λn i x _ ex=>?_) (λn _=>?_) (λi x σ' n Q' ex ps f' r=>?_) (λi x σ2 ex at2 n R f' r=>r n (Fx.refl f'.st)) (λi x σ2 ex at2 _ n R f' r=>?_) λa0 a6 ys cb bt au ab=>?_
  ·obtain⟨hi,rfl⟩:=aUl ex;exact⟨hi,λy H2 hy=>hy⟩
  ·show y.toNat<=_;rw[j9,bAL];exact j0 _
  ·obtain⟨l,rfl⟩:=ps;exact r _ ⟨some x,rfl⟩ ⟨x,rfl⟩
  ·obtain⟨x',rfl⟩:=at2;exact⟨_,rfl,_,rfl,a,.ref b,hd,rfl,f'.st,bi.tk (f'.tk S.st),a3,λt H2 r' f2 g2 hk=>r _ H2 f2 ⟨r',⟨t,rfl,SqT.of g2⟩,hk⟩⟩
  rw[rE,j9,bAL] at ab;obtain⟨d3,bb⟩:=pL ab;obtain⟨o,a9,c5⟩:=aOb (ys:=ys) λy hm=>by obtain⟨i,hi⟩:=List.mem_iff_getElem?.mp hm;exact bb i y hi
  have d2:=a9.len;have a5:=S.trans cb;have Z:=I.trans a5;have c1:H a0=none:=I.free (S.free bt);have dn:a0≠a:=hs.ne c1;have ar:=a5.tk (K:=K) I.st;have as:=av.tk ar;have aa:=cv.tk ar;have bm:=Z.same _ _ nN hN;obtain⟨n0,ax⟩:∃n0,ns[0]?=some n0:=⟨_,d7 (by lia)⟩;refine⟨_,rfl,λp hp=>?_⟩;have sp:Same a6 (L2.upd a6 p (.dK [])):=bC hp _;have gp:L2.upd a6 p (.dK []) p=some (.dK []):=aH;generalize L2.upd a6 p (.dK [])=H16 at sp gp ⊢;refine⟨_,rfl,N,_,0,.str n0,rfl,rfl,SqL.of (sp _ _ bm),bV (j:=0) (by rw[v6,ax];rfl),_,rfl,_,rfl,_,rfl,by show 3<=sizeLine;decide,λg X d1 ah b1=>?_⟩;refine⟨ah _ _ gp,[(Sum.inr n0,.ref g)],rfl,by show 1<=15;decide,?_⟩;have em:mY [] [((Sum.inr n0:Key),V.ref g)]=[(Sum.inr n0,.ref g)]:=rfl;rw[em];obtain⟨e0,ad⟩:∃e0:En,e0=⟨n0,.ref g,.ref b,.ref t4,a0,⟨hd,.spans c.1 h0 W,o⟩⟩:=⟨_,rfl⟩;have ay:=sp.trans ah;have bq:mD m ⟨hd,.spans c.1 h0 W,o⟩:=⟨a3,bw,by show o.length<=60;lia,c5⟩;have d4:eQ X p:=eQ.dK (ah _ _ gp);have bv:But p X (L2.upd X p (.dK [(Sum.inr n0,.ref g)])):=But.upd;have be:L2.upd X p (.dK [(Sum.inr n0,.ref g)]) p=some (.dK [(Sum.inr n0,.ref g)]):=aH;have d:Same a6 (L2.upd X p (.dK [(Sum.inr n0,.ref g)])):=lG hp ay;have ap:L2.upd X p (.dK [(Sum.inr n0,.ref g)]) g=some (.tup [.ref b,.ref t4,.ref a0]):=bv _ _ (λz=>by rw[z,ah _ _ gp] at b1;cases b1) b1;generalize L2.upd X p (.dK [(Sum.inr n0,.ref g)])=H18 at bv be d ap ⊢;have bg:bY K H18 a0 o:=⟨ys,d _ _ au,a9.imp λ_ _ z=>z.same d⟩;have bd:mL K H18 p [e0]:=by
   rw[ad];refine⟨be,List.nodup_cons.mpr ⟨(λh=>by cases h),List.nodup_nil⟩,by show 1<=60;decide,λy hy=>?_,λy hy=>?_⟩
   ·rw[List.mem_singleton.mp hy];exact hn.2.1 _ (t7 ax)
   ·rw[List.mem_singleton.mp hy];exact⟨g,rfl,SqT.of ap,as.same d,aa.same d,bg⟩
  have bo:H18 Pt=some (.tab qC):=d _ _ (Z.same _ _ ch b6);intro x dx bp bj di;refine⟨H18,x,dx,p,m,[e0],rfl,aH,bp,lG bp (bC bj _),by lia,by lia,bd,λy hy=>by rw[List.mem_singleton.mp hy,ad];exact bq,bo,λd' dm c8 cu dp dj ae hS cp a1=>⟨rfl,?_⟩⟩;obtain⟨v',L',rfl,c2⟩:∃v' L',cu=[aC9 e0 v' L']/\H18 L'=none:=by
   cases a1 with
   |cons r t=>cases t;obtain⟨v',L',e1,e2⟩:=r;exact⟨v',L',by rw[e1],e2⟩
  refine⟨_,rfl,_,rfl,_,rfl,_,rfl,a0,ys,rfl,.inl (SqL.of (ae _ _ (d _ _ au))),λR dl hR ak gR=>?_⟩;refine⟨by show 4<=sizeLine;decide,λM dg hM az gM=>?_⟩;refine⟨_,rfl,by show 3<=sizeLine;decide,λco c4 _ an cd=>?_⟩;have G:=d.trans (ae.trans (ak.trans (az.trans an)));have sb:=ak.trans (az.trans an);have fr:∀{b},H18 b=none->H b=none:=λh=>Z.free (none_of d h);have cr:∃us,c8 L'=some (.lst us):=by obtain⟨_,_,_,_,_,⟨us,h3,_⟩⟩:=hS.ens.tb _ j6;exact⟨us,h3⟩
  obtain⟨de,ba⟩:=cr;refine q co x M R d' dm m (.ref b) (.ref t4) ⟨hd,.spans c.1 h0 W,o⟩ (aC9 e0 v' L') c.1 h0 W c4 (Z.sm G) (SqT.of cd) ⟨an _ _ gM,as.same G,aa.same G,ys,an _ _ (az _ _ gR),a9.imp λ_ _ z=>z.same G⟩ (hS.same sb) (sb _ _ cp) (by rw[ad];exact ax.symm) (by rw[ad];rfl) bq (by show o.length<=10;lia) rfl m2 m4 (fr (none_of (ae.trans ak) hM)) (fr (none_of ae hR)) (fr c2) ?_ ?_ ?_
  ·exact λz=>by rw[z,gR] at hM;cases hM
  ·exact λz=>by have z:L'=R:=z;rw[<-z,ba] at hR;cases hR
  ·exact λz=>by have z:L'=M:=z;rw[<-z,ak _ _ ba] at hM;cases hM
end
end My
namespace PySem
section
variable {prog:Program}{w:World}{κ:Type}[DecidableEq κ]{knd:KeyKind prog w κ}{A:Around}{E:bFI}{s:Shared}
open PySem.Spec PySem.Calls PyProof.Rows L2
end
end PySem
namespace L2
open PySem PySem.Spec PyProof.Rows
section
variable {X:Cx}
end
section
variable {P:Program}{w:World}
open AutoSeq1 (wpAny_loadPart')
open MeetsSeq MeetsSeq2 MeetsSeq3
end
section
variable {X:Cx}{bFL:bFJ}{σ:L2.St}{H:Hp}{s:Shared}
end
end L2
namespace PySem
namespace LR
end LR
section
variable {prog:Program}{w:World}{A:Around}{E:bFI}{s:Shared}
open PySem.Calls PyProof.Rows
end
end PySem
namespace L2
open PySem PySem.Spec PyProof.Rows
section
variable {X:Cx}
def bA0 (K:bFH):R2:=λx y H Q=>∃(a b:Addr) (us:List V),x=.ref a/\y=.ref b/\SqL K H a us/\SqL K H b []/\Q (.bl (!us.isEmpty)) H
theorem aC0 (hu':X.A.units+64<cLine):OpR X (compareOp .NotEq) (bA0 X.K):=by
 intro m s σ H x y v u Q I k z h;have d:X.A.units<cLine:=by lia
 obtain⟨a,b,E,rfl,rfl,n,w,q⟩:=h;cases k;cases z;obtain⟨i,g,c,B⟩:=I.list n;obtain⟨p,o,f,C⟩:=I.list w;cases o;cases g with
 |nil=>refine SeqAt.RcNeAt.lists (e:=λ_=>true) c.isList f.isList rfl d (λj l D=>by simp at l) _ _ _ _ ?_;exact⟨.bl _,H,I,rfl,q⟩
 |cons r t=>exact SeqAt.RcNeAt.lists_lengths c.isList f.isList (by simp) d _ _ _ _ ⟨.bl _,H,I,rfl,q⟩
end
end L2
namespace My
open PySem PySem.Spec PyProof.Rows L2
section
variable {P:Program}{w:World}{K:bFH}{mg:bFK}{base:Heap}
def aKi {kd:Str}{v:V}(h:cM kd v):lE v=true:=by cases h <;> rfl
theorem aPw {H:Hp}{us g:List V}{cs:List (V × Int)}(f:∀c∈cs,lE c.1=true)(h:cV (lC K H) us cs)(h':cV (lC K H) g cs):Al2 (DEq K H 39) us g:=by
 induction h generalizing g with
 |nil=>cases h';exact .nil
 |cons r _ ih=>
  cases h' with
  |cons r' t'=>obtain⟨p,rfl,e⟩:=r;obtain⟨b,rfl,a⟩:=r';exact .cons (.inr ⟨p,b,_,_,rfl,rfl,e,a,.cons (.inl ⟨f _ j6,rfl⟩) (.cons (.inl ⟨rfl,rfl⟩) .nil)⟩) (ih (λc d=>f c (j8 _ d)) t')
def aXa {H:Hp}{v v':V}{n kd:Str}{m h0:Int}{cs:List (V × Int)}(h:rA K H v (.spans n h0 cs))(h':rA K H v' (.spans n h0 cs))(r:aHa kd m h0 cs):∃a b xs ys,v=.ref a/\v'=.ref b/\SqT K H a xs/\SqT K H b ys/\Al2 (DEq K H 40) xs ys:=by
 obtain⟨a,p,rfl,i,⟨c,k,rfl,f,g⟩⟩:=h;obtain⟨b,q,rfl,j,⟨e,l,rfl,d,o⟩⟩:=h';refine⟨a,b,_,_,rfl,rfl,i,j,.cons (.inl ⟨rfl,rfl⟩) (.cons (.inl ⟨rfl,rfl⟩) (.cons (.inr ⟨c,e,k,l,rfl,rfl,f,d,aPw (λx hx=>?_) g o⟩) .nil))⟩;rcases List.mem_cons.mp hx with rfl|hx
 ·rfl
 ·exact aKi (r.each x hx).1
def aIf {H H':Hp}{a:Addr}(h:iK H a)(k:∀o,H a=some o->H' a=some o):iK H' a:=by obtain⟨s,e,r⟩:=h;exact⟨s,k _ e,r⟩
structure Sy (K:bFH)(H:Hp)(C x:Addr)(m:Int)(d dm M R:Addr)(e:En)(vh vp vm:V)(t:Tb)(n:Str)(h0:Int)(cs:List (V × Int))(mq:Mv):Prop where
 st:bM K H C x m d dm [e]
 md:pD K H M vh vp R t vm
 mv:MvD K H dm e.n (some mq)
 vm:uY K H vm mq
 et:e.t={ t with rows:=srt t.rows }
 ok:mD m t
 pl:t.pl=.spans n h0 cs
 mk_:∀q,mq.mark=some q->jQ t.hd q
 hn:mq.house≠oA mq.num h0 cs
 m2:2<=m
 m4:m<=4
 n1:M≠R
 n2:e.L≠R
 n3:e.L≠M
theorem Sy.same {H H':Hp}{C x d dm M R:Addr}{m:Int}{e:En}{vh vp vm:V}{t:Tb}{n:Str}{h0:Int}{cs:List (V × Int)}{mq:Mv}(s:Same H H')(h:Sy K H C x m d dm M R e vh vp vm t n h0 cs mq):Sy K H' C x m d dm M R e vh vp vm t n h0 cs mq:=
 ⟨h.st.same s,h.md.same s,h.mv.same s,h.vm.same s,h.et,h.ok,h.pl,h.mk_,h.hn,h.m2,h.m4,h.n1,h.n2,h.n3⟩
theorem MvD.kp {S:Addr->Prop}{H H':Hp}{dm:Addr}{nm:Str}{o:Option Mv}(k:KP K S H H')(c:S dm)(h:MvD K H dm nm o):MvD K H' dm nm o:=by
 obtain⟨v,a,b⟩:=h;refine⟨v,?_,k.st _ _ c b⟩;cases o with
 |none=>exact a
 |some q=>exact uY.tk k.tk a
theorem pD.kp {S:Addr->Prop}{H H':Hp}{M R:Addr}{vh vp vm:V}{t:Tb}(k:KP K S H H')(a:S M)(b:S R)(h:pD K H M vh vp R t vm):pD K H' M vh vp R t vm:=⟨k.st _ _ a h.1,h.2.1.tk k.tk,h.2.2.1.tk k.tk,h.2.2.2.kp k b⟩
theorem Sy.kp {S:Addr->Prop}{H H':Hp}{C x d dm M R:Addr}{m:Int}{e:En}{vh vp vm:V}{t:Tb}{n:Str}{h0:Int}{cs:List (V × Int)}{mq:Mv}(k:KP K S H H')(f:S x)(c:S d)(j:S dm)(b:S M)(g:S R)(i:S e.L)(h:Sy K H C x m d dm M R e vh vp vm t n h0 cs mq):Sy K H' C x m d dm M R e vh vp vm t n h0 cs mq:=
 ⟨h.st.kp k f c λy a=>by rw[List.mem_singleton.mp a];exact i,h.md.kp k b g,h.mv.kp k j,h.vm.tk k.tk,h.et,h.ok,h.pl,h.mk_,h.hn,h.m2,h.m4,h.n1,h.n2,h.n3⟩
theorem Sy.fx {H H':Hp}{a C x d dm M R:Addr}{m:Int}{e:En}{vh vp vm:V}{t:Tb}{n:Str}{h0:Int}{cs:List (V × Int)}{mq:Mv}(f:Fx a H H')(j:iK H a)(o:M≠a)(k:R≠a)(l:e.L≠a)(h:Sy K H C x m d dm M R e vh vp vm t n h0 cs mq):Sy K H' C x m d dm M R e vh vp vm t n h0 cs mq:=by
 obtain⟨p,c,_⟩:=id j;obtain⟨q,i⟩:=h.st.at_;obtain⟨_,_,g⟩:=id h.mv;refine h.kp (S:=λb=>b≠a) (KP.fx f j λz=>z rfl) (λz=>?_) (λz=>?_) (λz=>?_) o k l
 ·rw[z,c] at i;cases i
 ·have:=h.st.ens.at_;rw[z,c] at this;cases this
 ·rw[z,c] at g;cases g
def aO5 (K:bFH):Sp:=λvs H Q _=>∃(st M R:Addr) (m:Int) (vh vp vm:V) (t:Tb) (n:Str) (h0:Int) (cs:List (V × Int)),vs=[.ref st,.ref M,.int m]/\iK H st/\pD K H M vh vp R t vm/\mD m t/\t.pl=.spans n h0 cs/\2<=m/\m<=4/\M≠st /\
 ∀p num ho H',Fx st H H'->H' p=some (.tup [.int (num:Nat),.int ho,.non])->num<=cs.length->0<=ho->ho<m->ho≠oA num h0 cs->Q (.ref p) H'
def aFs (T:Txt w K mg)(aQ:Ok P w K mg base 1 "_law_next" ["_law_state","_law_many"] nG):Ok P w K mg base 2 "_law_lent" ["_law_state","_law_table","_law_houses"] (aO5 K):=by
 refine Ok.ofV T.aH5 pO (by trivial) (λf Z A C s H vs Q E N h=>?_)
 obtain⟨I,M,R,m,vh,vp,vm,t,n,h0,cs,rfl,O,Y,ok,x,m2,m4,nM,q⟩:=h;refine⟨_,(aD (aV (i:=3) pO.nd rfl (by trivial) (aN (aQ.mono (by decide)) N (by rfl) (aB (vv 0) (aB (aM bB (by rfl) T.eX cY (aB (aK aX (aK bK (vv 1) aC (λ_ _=>rfl)) aC (λ_ _=>rfl)) aA)) aA)))) (aD (aV (i:=4) pO.nd rfl (by trivial) (bO qO (bO dX (bO dX (aK aX (aK aX (aK aX (aK bK (vv 1) aC (λ_ _=>rfl)) aC (λ_ _=>rfl)) (vv 3) (λ_ _=>rfl)) aC (λ_ _=>rfl)) aC) (aN (aQ.mono (by decide)) N (by rfl) (aB (vv 0) (aB (bO aBx (vv 2) aC) aA)))) (vv 2))) (aG (aL (dR (aB (vv 3) (aB (vv 4) (aB jU aA)))))))),?_⟩;obtain⟨J,hI,l,L⟩:=id Y;have g:=ok.pl;rw[x] at l g;obtain⟨b,vo,rfl,S,⟨U,v,rfl,e,k⟩⟩:=id l;obtain⟨_,kd,_,_,c⟩:=g;have lc:=k.len;rw[v9] at lc;have lf:=c.few;refine⟨_,rfl,_,rfl,M,_,1,_,rfl,rfl,SqL.of J,at1 _ _ _,b,_,2,_,rfl,rfl,S,at2 _ _ _ _,U,v,rfl,.inr e,I,_,rfl,O,⟨by lia,by lia⟩,λz H1 p z0 z1=>?_⟩;obtain⟨num,rfl⟩:∃num:Nat,z=num:=⟨z.toNat,by lia⟩;have o:num<v.length:=by lia
 obtain⟨d,j,pc,y,B⟩:=cJ k (d7 o);have ch:oA num h0 cs=d.2:=by unfold oA;rw[j4,v6,j];rfl
 have X:0<=d.2/\d.2<m:=by
  rcases List.mem_cons.mp (t7 j) with e1|e1
  ·rw[e1];exact c.first
  ·exact (c.each d e1).2
 have D:=p.same _ _ nM J;have a:=p.tk (K:=K) O;refine⟨_,rfl,M,_,1,_,rfl,rfl,SqL.of D,at1 _ _ _,b,_,2,_,rfl,rfl,a _ _ S,at2 _ _ _ _,_,rfl,U,v,_,v[num],rfl,rfl,a _ _ e,bV (d7 o),pc,_,1,_,y,rfl,a _ _ B,at1 _ _ _,?_⟩;refine⟨_,_,rfl,rfl,_,rfl,_,rfl,_,_,rfl,rfl,I,m - 1,rfl,p.st,⟨by lia,by lia⟩,λz H2 f2 W G=>⟨_,_,rfl,rfl,_,rfl,_,_,rfl,rfl,by lia,?_⟩⟩;obtain⟨r,u⟩:∃r:Int,r=(d.2+1+z) % m:=⟨_,rfl⟩;show cD 4 (V.int ((d.2+1+z) % m)) _ _ _;rw[<-u];have F:r≠d.2:=by rcases (show m=2\/m=3\/m=4 by lia) with e1|e1|e1 <;> rw[e1] at u X G <;> lia
 refine⟨_,rfl,_,rfl,by show 3<=sizeLine;decide,λp3 H3 _ s3 g3=>?_⟩;exact q p3 num r H3 ((p.trans f2).sm s3) g3 (by lia) (by rw[u];exact bE1 _ (by lia)) (by rw[u];exact bEB _ (by lia)) (by rw[ch];exact F)
def aE0 (K:bFH):Sp:=λvs H Q _=>∃(M R:Addr) (vh vp vm:V) (t:Tb) (mq:Mv) (m:Int) (n:Str) (h0:Int) (cs:List (V × Int)),vs=[.ref M]/\pD K H M vh vp R t vm/\uY K H vm mq/\mD m t/\t.pl=.spans n h0 cs/\(∀q,mq.mark=some q->jQ t.hd q)/\∀L H',H L=none->Same H H'->bY K H' L (gG { t with rows:=srt t.rows } n cs mq.num mq.mark)->Q (.ref L) H'
theorem aDj (T:Txt w K mg)(mR:Ok P w K mg base 2 "_law_of_span" ["_law_table"] (yW K)):Ok P w K mg base 3 "_law_above" ["_law_table"] (aE0 K):=by
 refine Ok.ofV T.aGv kJ (by trivial) (λf a0 A I s H vs Q E X h=>?_)
 obtain⟨M,R,vh,vp,vm,t,k,m,n,h0,V,rfl,S,g,G,v,y,q⟩:=h;have Y:=X.units;refine⟨_,(aD (rY (aK bK (vv 0) aC (λ_ _=>rfl)) (zF rfl (bH (aO (i:=1) kJ.nd rfl (by trivial)) (bH (aO (i:=2) kJ.nd rfl (by trivial)) (bH (aO (i:=3) kJ.nd rfl (by trivial)) fV))))) (aG (aL (cL (N:=["_law_row_here","_law_mark"]) (by trivial) (dZ (aF mC) rfl (by decide +kernel)) rfl (eN (aN (mR.mono (by decide)) X (by rfl) (aB (vv 0) aA))) (λcl s' J fp=>⟨(aO (i:=0) (show (["_law_row_here","_law_mark"]:List Str).Nodup from by decide +kernel) rfl (Or.inl rfl)),(mJ (VW.pt (gJ (aY aBc (vv 1) jU (aW _)) (eZ (aY (aXx (K:=K) Y) (vv 0) (vv 1) (aW _)))))),(vv 0)⟩))))),?_⟩;obtain⟨W,U,rfl,D,C⟩:=id g;have a5:=G.few;have ls:=qH t.rows;refine⟨_,rfl,M,_,3,_,rfl,rfl,SqL.of S.1,bV (j:=3) rfl,W,_,rfl,D,rfl,_,_,rfl,_,_,rfl,_,_,rfl,rfl,?_⟩;dsimp only[cD,tV,List.set];refine iW [none,some U] (lB 3 (by decide +kernel) rfl rfl (by trivial)) ?_;refine⟨_,rfl,M,R,vh,vp,.ref W,t,k,m,n,h0,V,rfl,S,g,G,v,λD1 a3 a2 c d=>?_⟩;obtain⟨w1,B,a4⟩:=id d;have f1:=bBH (gF t.hd n V k.num) (srt t.rows);refine⟨D1,rfl,⟨_,SqL.of B⟩,pW d (by lia) (sG k.mark) rfl (λu r F J R' l sm p o=>?_) λZ O L x e=>q Z O (none_of c L) (c.trans x) (by rw[bDP] at e;exact e)⟩;have a:=C.same (c.trans sm);cases b:k.mark with
 |none=>rw[b] at a o;have a:U=.non:=a;subst a;exact⟨_,rfl,rfl,_,rfl,nP (t6 rfl) (o J (Same.refl _))⟩
 |some q0=>rw[b] at a o;obtain⟨ka,rfl,a1⟩:=id a;exact⟨_,rfl,rfl,_,rfl,gO (v8 λz=>by cases z) ⟨_,rfl,_,rfl,knds t.hd,r,q0,p,a,gC (G.rows r (fZ (List.mem_filter.mp F).1)),gC (y q0 b),_,rfl,o J (Same.refl _)⟩⟩
theorem aZ7 {H:Hp}{hd:Hdr}{v v':V}{o:Mv}(h:uY K H v o)(h':uY K H v' o)(n:∀q,o.mark=some q->jQ hd q):∃a b xs ys,v=.ref a/\v'=.ref b/\SqT K H a xs/\SqT K H b ys/\Al2 (DEq K H 40) xs ys:=by
 obtain⟨a,u,rfl,i,d⟩:=h;obtain⟨b,m,rfl,j,c⟩:=h';refine⟨a,b,_,_,rfl,rfl,i,j,.cons (.inl ⟨rfl,rfl⟩) (.cons (.inl ⟨rfl,rfl⟩) (.cons ?_ .nil))⟩;cases f:o.mark with
 |none=>rw[f] at d c;cases d;cases c;exact .inl ⟨rfl,rfl⟩
 |some r=>rw[f] at d c;obtain⟨p,rfl,k⟩:=d;obtain⟨g,rfl,e⟩:=c;exact .inr ⟨p,g,r,r,rfl,rfl,k,e,aGb (λx l=>aR0 (gC (n r f)) x l) 39⟩
def aJi (K:bFH)(C Pt:Addr):Sp:=λvs H Q _=>∃(x d dm M R:Addr) (m:Int) (e:En) (vh vp vm:V) (t:Tb) (n:Str) (h0:Int) (cs:List (V × Int)) (mq:Mv),vs=[.ref x,.str e.n,.ref M,.int m]/\Sy K H C x m d dm M R e vh vp vm t n h0 cs mq/\H Pt=some (.tab qC)/\∀H',Same H H'->Q (.bl true) H'
def aDo (T:Txt w K mg){C Ct Pt:Addr}(pM:Ok P w K mg base 2 "_law_stood" ["_law_table","_law_houses","_law_house"] (yS K))(b2:Ok P w K mg base 3 "_law_stands" ["_law_table","_law_houses","_law_house"] (aCh K))(c:OkM P w K mg base C 4 "moving" ["self","name"] (zH K C))(l:OkM P w K mg base C 13 "town" ["self"] (aOu K C Ct Pt))(g:OkM P w K mg base C 5 "stands" ["self","name","house"] (aBe K C))(k:OkM P w K mg base Ct 4 "placing" ["self","name"] (aA7 K Ct))(o:OkM P w K mg base Ct 4 "whole" ["self","name"] (wJ K Ct))(D:OkM P w K mg base Ct 5 "part" ["self","name","house"] (aN6 K Ct)):Ok P w K mg base 14 "_law_right" ["_law_store","_law_name","_law_table","_law_houses"] (aJi K C Pt):=by
 refine Ok.ofV T.aGe oE (by trivial) (λf au A ar s H vs Q E V h=>?_)
 obtain⟨x,d,dm,M,R,m,e,vh,vp,vm,t,n,h0,W,mq,rfl,a,hP,q⟩:=h;have hU:=V.units;refine⟨_,(aD (cA (aY (aTx hU) (dO (c.mono (by decide)) V (vv 0) (aB (vv 1) aA)) (aK bK (vv 2) aC (λ_ _=>rfl)) (aW _)) (aG (aL jO)) aZ) (aD (aV (i:=4) oE.nd rfl (by trivial) (aR4 (l.mono (by decide)) V (vv 0))) (aD (cA (VW.pt (gJ (aY (zJ hU) (dO (o.mono (by decide)) V (vv 4) (aB (vv 1) aA)) (aM eG (by rfl) T.eO dG (aB (aK bK (vv 2) aC (λ_ _=>rfl)) aA)) (aW _)) (eZ (aY (aTx hU) (dO (k.mono (by decide)) V (vv 4) (aB (vv 1) aA)) (aK bK (vv 2) aC (λ_ _=>rfl)) (aW _))))) (aG (aL jO)) aZ) (aD (jT PassesOwn.never rfl (iI (by rfl) T.lU (aB (vv 3) aA)) (aO (i:=5) oE.nd rfl (by trivial)) (aD (cA (aY (zJ hU) (dO (g.mono (by decide)) V (vv 0) (aB (vv 1) (aB (vv 5) aA))) (aN (b2.mono (by decide)) V (by rfl) (aB (vv 2) (aB (vv 3) (aB (vv 5) aA)))) (aW _)) (aG (aL jO)) aZ) (aG (cA (aY (zJ hU) (dO (D.mono (by decide)) V (vv 4) (aB (vv 1) (aB (vv 5) aA))) (aN (pM.mono (by decide)) V (by rfl) (aB (vv 2) (aB (vv 3) (aB (vv 5) aA)))) (aW _)) (aG (aL jO)) aZ)))) (aG (aL jO)))))),?_⟩;have ok:=a.ok;have ax:=ok.few;have m2:=a.m2;have m4:=a.m4;have B:∀r∈t.rows,KdR (knds t.hd) r:=λr b=>gC (ok.rows r b);have Z:∀r∈srt t.rows,∀x∈r,(∃i,x=.int i)\/∃z,x=.str z:=λr b x hx=>aR0 (B r (fZ b)) x hx;obtain⟨dx,hx⟩:=a.st.at_;refine⟨_,rfl,x,dx,_,rfl,hx,rfl,_,rfl,x,d,dm,m,[e],e,some mq,rfl,a.st,j6,a.mv,λv H1 s1 hv=>?_⟩;have L:=a.same s1;obtain⟨qa,qb,qx,qy,e1,e2,h1,h2,h3⟩:=aZ7 hv L.vm a.mk_;refine⟨_,rfl,M,_,3,_,rfl,rfl,SqL.of L.md.1,bV (j:=3) rfl,qa,qb,qx,qy,e1,e2,h1,h2,h3,_,rfl,bZ ?_⟩;refine⟨_,rfl,x,dx,_,rfl,s1 _ _ hx,rfl,x,d,dm,m,[e],rfl,L.st,by lia,by lia,s1 _ _ hP,λy d' H2 ao hy b4 s2 hT a1=>?_⟩;obtain⟨v2,F,rfl,_⟩:∃v2 F,ao=[aC9 e v2 F]/\H1 F=none:=by
  cases a1 with
  |cons r t=>cases t;obtain⟨v',L',e1,e2⟩:=r;exact⟨v',L',by rw[e1],e2⟩
 obtain⟨u,ee⟩:∃u:En,u=aC9 e v2 F:=⟨_,rfl⟩;have a3:u.n=e.n:=by rw[ee];rfl
 have aq:u.vp=e.vp:=by rw[ee];rfl
 have a5:u.t={ t with rows:=srt t.rows }:=by rw[ee];show ({ e.t with rows:=srt e.t.rows }:Tb)=_;rw[a.et];show ({ t with rows:=srt (srt t.rows) }:Tb)=_;rw[aEz B]
 rw[<-ee] at hT;have U:=L.same s2;obtain⟨⟨dy,X⟩,_,_⟩:=id hT;refine⟨_,rfl,y,dy,_,rfl,X,rfl,_,rfl,y,d',m,[u],u,by rw[a3];rfl,hT,j6,λLw H3 ay s3 I=>?_⟩;rw[a5] at I;have I:bY K H3 Lw (srt t.rows):=I;have aa:=U.same s3;obtain⟨us,gR,a6⟩:=id aa.md.2.2.2;have b0:=a6.len;refine⟨_,rfl,M,_,2,_,rfl,rfl,SqL.of aa.md.1,at2 _ _ _ _,R,us,t.rows,knds t.hd,rfl,SqL.of gR,cQ a6,by lia,lY ok.hd.1,B,λLb H4 ai aw s4 g4 h4=>?_⟩;obtain⟨uw,gw,hw⟩:=I.same s4;refine⟨Lw,Lb,uw,ai,srt t.rows,rfl,rfl,SqL.of gw,SqL.of g4,cQ hw,cQ ((iM h4).imp λ_ _ z=>z.same s4),Z,_,rfl,bZ ?_⟩;have N:=s3.trans s4;have ah:=U.same N;refine⟨_,rfl,y,dy,_,rfl,N _ _ X,rfl,_,rfl,y,d',m,[u],u,by rw[a3];rfl,hT.same N,j6,λH5 s5=>?_⟩;have a0:=ah.same s5;have a4:=ok.pl;rw[a.pl] at a4;obtain⟨_,kd,_,_,af⟩:=a4;have p1:rA K H5 e.vp (.spans n h0 W):=by obtain⟨_,_,_,_,hp,_⟩:=a0.st.ens.tb e j6;rw[a.et] at hp;rw[<-a.pl];exact hp
 have p2:rA K H5 vp (.spans n h0 W):=by have:=a0.md.2.2.1;rw[a.pl] at this;exact this
 obtain⟨ra,rb,rx,ry,e3,e4,r1,r2,r3⟩:=aXa p1 p2 af;refine⟨_,rfl,M,_,1,_,rfl,rfl,SqL.of a0.md.1,at1 _ _ _,ra,rb,rx,ry,by rw[aq];exact e3,e4,r1,r2,r3,_,rfl,bZ ?_⟩;have ad:=N.trans s5;have a7:e.t.pl=.spans n h0 W:=by rw[a.et];exact a.pl
 refine⟨_,rfl,m,rfl,by lia,by lia,jV (n:=m.toNat) (λj σ H'=>Same H2 H'/\∃l6,σ=[some (.ref x),some (.str e.n),some (.ref M),some (.int m),some (.ref y),l6]) ⟨ad,_,rfl⟩ (λj σ H6 hj p=>?_) fun σ H6 p=>?_⟩
 ·obtain⟨s6,l6,rfl⟩:=p;have Y:0<=(0:Int)+(j:Int):=by lia
  have a2:(0:Int)+(j:Int)<m:=by lia
  generalize (0:Int)+(j:Int)=house at Y a2;have G:=U.same s6;obtain⟨ae,am⟩:=G.st.at_;refine⟨_,rfl,x,ae,_,rfl,am,rfl,_,rfl,_,rfl,x,d,dm,m,house,[e],e,some mq,n,h0,W,rfl,G.st,j6,G.mv,a7,λag z1=>by cases z1;exact a.hn,λag q' z1 z2=>by cases z1;rw[a.et];exact a.mk_ q' z2,Y,a2,λL7 H7 b1 s7 S=>?_⟩;rw[a.et] at S;have S:bY K H7 L7 (oK t.hd m house t.pl (some mq) n W (srt t.rows)):=S;have ab:=G.same s7;refine⟨_,rfl,_,rfl,_,rfl,M,R,vh,vp,vm,t,mq,m,house,n,h0,W,rfl,ab.md,ab.vm,ok,a.pl,a.hn,a.mk_,λL8 H8 b3 s8 aj=>?_⟩;obtain⟨u7,g7,h7⟩:=S.same s8;obtain⟨u8,g8,h8⟩:=aj;have al:∀r∈oK t.hd m house t.pl (some mq) n W (srt t.rows),∀x∈r,(∃i,x=.int i)\/∃z,x=.str z:=λr b=>Z r (by
   unfold oK at b;dsimp only at b
   split at b
   ·rcases List.mem_append.mp (fZ b) with z|z <;> exact (List.mem_filter.mp z).1
   ·exact (List.mem_filter.mp b).1)
  refine⟨L7,L8,u7,u8,_,rfl,rfl,SqL.of g7,SqL.of g8,cQ h7,cQ h8,al,_,rfl,bZ ?_⟩;have O:=s6.trans (s7.trans s8);refine⟨_,rfl,y,dy,_,rfl,O _ _ X,rfl,_,rfl,_,rfl,y,d',m,house,[u],u,by rw[a3];rfl,hT.same O,j6,Y,a2,λL9 H9 az s9 J=>?_⟩;rw[a5] at J;have J:bY K H9 L9 ((srt t.rows).filter λr=>cF t.hd m r house t.pl):=J;refine⟨_,rfl,_,rfl,_,rfl,M,R,vh,vp,vm,t,m,house,n,h0,W,rfl,(U.same (O.trans s9)).md,ok,a.pl,λac av as a9 a8=>?_⟩;obtain⟨u9,g9,h9⟩:=J.same a9;obtain⟨ap,an,ak⟩:=a8;exact⟨L9,ac,u9,ap,_,rfl,rfl,SqL.of g9,SqL.of an,cQ h9,cQ ak,λr b=>Z r (List.mem_filter.mp b).1,_,rfl,bZ ⟨O.trans (s9.trans a9),_,rfl⟩⟩
 ·obtain⟨s6,l6,rfl⟩:=p;exact q H6 (s1.trans (s2.trans s6))
def aAt {S R:TS}{D:Ends}{σ:L2.St}{H:Hp}(J:L2.St->Hp->Prop)(b:∀N:L2.St->Hp->Prop,(∀σ' H',J σ' H'->N σ' H')->S { D with nx:=N } σ H)(a:∀σ' H',J σ' H'->R D σ' H'):aDl S R D σ H:=b _ a
theorem aFk {α:Type}(p:α->Bool):∀l:List α,l.length=(l.filter p).length+(l.filter λx=>!p x).length
 |[]=>rfl
 |a::l=>by have:=aFk p l;rw[bDJ,bDJ];cases p a <;> simp <;> lia
def carried {ks:List Bool}{d W:List (List V)}{r:List V}{k:Nat}(e:Ded d W)(h:∀x∈W,KdR ks x)(o:((srt d).take k).getLast?=some r):r∈W/\∀x∈W,(x∈(srt d).take k↔rlt r x=false):=by
 have u:∀x∈d,KdR ks x:=λx c=>h x ((e.2.1 x).mp c);obtain⟨j,t⟩:=jX u;have b:r∈(srt d).take k:=List.mem_of_getLast? o;have g:∀x,x∈srt d->x∈W:=λx c=>(e.2.1 x).mp (j.mem_iff.mp c);have a:=g r (bDC b);refine⟨a,λx c=>?_⟩;have f:=t;rw[<-bES k (srt d)] at f;obtain⟨l,_,p⟩:=List.pairwise_append.mp f;constructor
 ·intro i;obtain⟨m,q⟩:∃m,(srt d).take k=m++[r]:=List.getLast?_eq_some_iff.mp o;rw[q] at i l;rcases List.mem_append.mp i with z|z
  ·exact (List.pairwise_append.mp l).2.2 x z r (List.mem_singleton.mpr rfl)
  ·rw[List.mem_singleton.mp z];exact bAi (h r a)
 ·intro v;have s:x∈(srt d).take k++(srt d).drop k:=by rw[bES];exact j.mem_iff.mpr ((e.2.1 x).mpr c)
  rcases List.mem_append.mp s with z|z
  ·exact z
  ·have n:=p r b x z;rw[aH1 (h x c) (h r a) n v];exact b
def aJ6 {T:Tb}{ks:List Bool}{n:Str}{cs:List (V × Int)}{num k:Nat}{o:Option (List V)}{v:List (List V)}{r:List V}(t:∀x∈T.rows,KdR ks x)(m:∀q,o=some q->KdR ks q)(s:Ded v (gG T n cs num o))(u:((srt v).take k).getLast?=some r) :
  ((gG T n cs num o).length:Int) - (gG T n cs num (some r)).length=(((gG T n cs num o).filter λx=>decide (x∈(srt v).take k)).length:Int):=by
 have b:∀x∈gG T n cs num o,KdR ks x:=λx c=>t x (List.mem_filter.mp c).1;obtain⟨a,f⟩:=carried s b u;have h:(gG T n cs num o).filter (rlt r)=gG T n cs num (some r):=by
  unfold gG;rw[bDP];refine List.filter_congr λx c=>?_;show (rlt r x && (sG o x && gF T.hd n cs num x))=(rlt r x && gF T.hd n cs num x);cases d:rlt r x with
  |false=>rfl
  |true=>
   have:sG o x=true:=by
    cases o with
    |none=>rfl
    |some q=>
     have l:rlt q r=true:=by have:=(List.mem_filter.mp a).2;rw[bAT] at this;exact this.1
     show rlt q x=true;cases g:rlt q x with
     |true=>rfl
     |false=>have i:=wD (m q rfl) (b r a) l;rw[aL8 (t x c) (m q rfl) (b r a) g i] at d;cases d
   rw[this];rfl
 have j:((gG T n cs num o).filter λx=>decide (x∈(srt v).take k))=(gG T n cs num o).filter λx=>!rlt r x:=List.filter_congr λx c=>by
  cases e:rlt r x with
  |true=>exact v8 λz=>by rw[(f x c).mp z] at e;cases e
  |false=>exact t6 ((f x c).mpr e)
 have p:=aFk (rlt r) (gG T n cs num o);rw[h] at p;rw[j];lia
def uM (o:Option (List V))(S:List (List V)):Option (List V):=match S.getLast? with|none=>o|some r=>some r
def zT (K:bFH)(C:Addr):Sp:=λvs H Q _=>∃(x d dm M R:Addr) (m:Int) (e:En) (vh vp vm:V) (t:Tb) (n:Str) (h0:Int) (cs:List (V × Int)) (mq:Mv) (k:Nat),vs=[.ref x,.str e.n,.ref M,.int k]/\Sy K H C x m d dm M R e vh vp vm t n h0 cs mq/\∀vm' mk' H',KP K (λb=>b≠M/\b≠dm) H H'->Sy K H' C x m d dm M R e vh vp vm' t n h0 cs { mq with mark:=mk' }->Q (.bl true) H'
def aAd (T:Txt w K mg){C:Addr}(xY:Ok P w K mg base 3 "_law_above" ["_law_table"] (aE0 K))(Z:OkM P w K mg base C 5 "carry" ["self","name","many"] (aLe K C)):Ok P w K mg base 6 "_law_carried" ["_law_store","_law_name","_law_table","_law_many"] (zT K C):=by
 refine Ok.ofV T.aB8 iG (by trivial) (λf c2 A bt s H vs Q E hr h=>?_)
 obtain⟨x,d,dm,M,R,m,e,vh,vp,vm,t,n,h0,cs,U,k,rfl,g,q⟩:=h;have hU:=hr.units;refine⟨_,(aD (aV (i:=4) iG.nd rfl (by trivial) (fQ wG (aM (uN rfl) (by rfl) T.eO dG (aB (cX (aE7 rfl hU) (by rfl) T.aO7 aG4 (aB (aN (xY.mono (by decide)) hr (by rfl) (aB (vv 2) aA)) aA)) aA)) lA (iD (vv 3)))) (aD (aV (i:=5) iG.nd rfl (by trivial) (dO (Z.mono (by decide)) hr (vv 0) (aB (vv 1) (aB (vv 3) aA)))) (aD (aV (i:=6) iG.nd rfl (by trivial) (aM bB (by rfl) T.eX cY (aB (cL (N:=["_law_row_here","_law_some"]) (by trivial) (dZ (aF jF) rfl (by decide +kernel)) rfl (eN (aN (xY.mono (by decide)) hr (by rfl) (aB (vv 2) aA))) (λcl s' H' fp=>⟨(aO (i:=0) (show (["_law_row_here","_law_some"]:List Str).Nodup from by decide +kernel) rfl (Or.inl rfl)),(mJ (aY (aVy (K:=K) hU) (vv 0) (vv 1) (by with_unfolding_all rfl))),(vv 0)⟩)) aA))) (aD (cA (aY (aC0 hU) (vv 4) (dJ aA) (aW _)) (aG (rY (dR (aB (aK aX (aK bK (vv 2) aC (λ_ _=>rfl)) aC (λ_ _=>rfl)) (aB (aK aX (aK bK (vv 2) aC (λ_ _=>rfl)) aC (λ_ _=>rfl)) (aB (aK bK (vv 4) (aYa aSv aC) (λ_ _=>rfl)) aA)))) (aLs (vv 2) aC set_list))) aZ) (aG (aL (cR dW (vv 5) (vv 6) (aW _)))))))),?_⟩;have ok:=g.ok;have c4:=ok.few;have ls:=qH t.rows;have a8:∀r∈t.rows,KdR (knds t.hd) r:=λr c=>gC (ok.rows r c);have bx:∀r∈srt t.rows,KdR (knds t.hd) r:=λr c=>a8 r (fZ c);refine⟨_,rfl,M,R,vh,vp,vm,t,U,m,n,h0,cs,rfl,g.md,g.vm,ok,g.pl,g.mk_,λD2 cb bw aq ap=>?_⟩;obtain⟨Wt,eW⟩:∃Wt,Wt=gG { t with rows:=srt t.rows } n cs U.num U.mark:=⟨_,rfl⟩;rw[<-eW] at ap;have kW:∀r∈Wt,r∈t.rows:=λr c=>by rw[eW] at c;exact fZ (List.mem_filter.mp c).1
 have lW:Wt.length<=60:=by rw[eW];exact bAM (bBH _ _) (by show (srt t.rows).length<=60;lia)
 obtain⟨u2,bb,ao⟩:=id ap;have c6:=ao.len;refine⟨D2,u2,Wt,rfl,SqL.of bb,cQ ao,λr c=>pU (ok.rows r (kW r c)),by lia,λD3 ca as qs bo a9 b0 a5 a1=>?_⟩;have la:=a5.len;have ld:=a1.2.2;rw[j9] at la;refine⟨D3,as,qs,knds t.hd,rfl,b0,a5.imp λ_ _ z=>z.same a9,by lia,lY ok.hd.1,λr c=>a8 r (kW r ((a1.2.1 r).mp c)),λB c9 aa hB ab ay b4=>?_⟩;refine⟨_,rfl,(k:Int),rfl,B,aa,rfl,SqL.of ay,λp I hp am ak=>?_⟩;rw[show pB aa none (some ((k:Nat):Int))=aa.take k from wK _ k] at ak;have ax:cV (cI K I) (aa.take k) ((srt qs).take k):=(aEk (iM b4) k).imp λ_ _ z=>z.same (ab.trans am);have af:=aq.trans (a9.trans (ab.trans am));have a:=g.same af;obtain⟨S,eS⟩:∃S,S=(srt qs).take k:=⟨_,rfl⟩;have b1:∀r∈S,jQ t.hd r:=λr c=>by rw[eS] at c;exact ok.rows r (kW r ((a1.2.1 r).mp (fZ (bDC c))))
 rw[<-eS] at ax;have b2:bY K I p S:=⟨_,ak,ax⟩;have fp:p≠M:=(aU ((aq.trans (a9.trans ab)) _ _ g.md.1) hp).symm;have bv:∀r∈Wt,KdR (knds t.hd) r:=λr c=>a8 r (kW r c);clear aq a9 ab am ap bb ao b0 a5 ay b4 bw bo hB;obtain⟨dx,ah⟩:=a.st.at_;have az:e.t.pl=.spans n h0 cs:=by rw[g.et];exact g.pl
 obtain⟨_,_,ai⟩:=id a.mv;have nD:∀{b u},I b=some u->(∀l,u≠.dK l)->b≠dm:=λh hu z=>by rw[z,ai] at h;cases h;exact hu _ rfl
 have bj:=nD a.md.1 λ_ z=>(by cases z);dsimp only[cD,List.set];refine aAt (S:=aAm _ _) (fun σ H'=>KP K (λb=>b≠dm) I H'/\bM K H' C x m d dm [e]/\MvD K H' dm e.n (some { U with mark:=uM U.mark S })/\σ=[some (.ref x),some (.str e.n),some (.ref M),some (.int k),some (.ref p),some (.int ((Wt.filter λx=>decide (x∈S)).length:Nat)),none]) (λNX hN=>?_) fun σ' H' hJ=>?_
 ·have aw:∀G (v:Int),KP K (λb=>b≠dm) I G->bM K G C x m d dm [e]->MvD K G dm e.n (some { U with mark:=uM U.mark S })->v=((Wt.filter λx=>decide (x∈S)).length:Nat)->cD 5 (.int v) [some (.ref x),some (.str e.n),some (.ref M),some (.int k),some (.ref p),none,none] G NX:=λG v J L F ev=>by rw[ev];exact hN _ _ ⟨J,L,F,rfl⟩
  refine⟨_,rfl,x,dx,_,rfl,ah,rfl,_,rfl,_,rfl,x,d,dm,m,[e],e,U,n,h0,cs,k,rfl,a.st,j6,a.mv,az,λq0 e0=>by rw[g.et];exact g.mk_ q0 e0,λbg aj=>?_⟩;rw[g.et,<-eW] at aj ⊢;have eq:(srt bg).take k=S:=by rw[eS,aVj aj a1 bv]
  rw[eq];refine⟨λad G au=>aw G 0 (.same au) (a.st.same au) ?_ ?_,λr hl G J L F=>aw G _ J L ?_ ?_⟩
  ·rw[ad];exact a.mv.same au
  ·rw[ad,List.filter_eq_nil_iff.mpr λr _=>by simp];rfl
  ·rw[show uM U.mark S=some r by unfold uM;rw[hl]];exact F
  ·rw[eS] at hl ⊢;have:=aJ6 (T:={ t with rows:=srt t.rows }) (n:=n) (cs:=cs) (num:=U.num) (o:=U.mark) bx (λq0 e0=>gC (g.mk_ q0 e0)) (by rw[<-eW];exact a1) hl;rw[<-eW] at this;exact this
 obtain⟨J,L,F,rfl⟩:=hJ;have ae:=a.md.kp J bj (by obtain⟨uR,gR,_⟩:=id a.md.2.2.2;exact nD gR λ_ z=>(by cases z));have a7:=a.vm.tk J.tk;have a6:=b2.kp J (nD ak λ_ z=>(by cases z));dsimp only[aDl,aAm,tCB,fG];refine iW [none,some (.ref p)] (lB 4 (by decide +kernel) rfl rfl (by trivial)) ?_;refine⟨_,rfl,M,R,vh,vp,vm,t,U,m,n,h0,cs,rfl,ae,a7,ok,g.pl,g.mk_,λD4 c5 c1 av ar=>?_⟩;rw[<-eW] at ar;obtain⟨c8,bi,c0⟩:=id ar;obtain⟨uS,gS,bs⟩:=id (a6.same av);refine⟨D4,rfl,⟨_,SqL.of bi⟩,pW ar (by lia) (λx=>decide (x∈S)) rfl (λu r c H1 R' l sm bd rr=>?_) λD5 bn c3 bl bf=>?_⟩
 ·exact⟨_,rfl,_,rfl,p,uS,S,r,rfl,SqL.of (sm _ _ gS),cQ (bs.imp λ_ _ z=>z.same sm),λr' h'=>pU (b1 r' h'),bd,pU (ok.rows r (kW r c)),_,rfl,rr H1 (Same.refl _)⟩
 obtain⟨u5,g5,h5⟩:=bf;have l5:=h5.len;refine⟨D5,u5,rfl,.inl (SqL.of g5),?_⟩;have D:=av.trans bl;have be:=J.trans (KP.same (K:=K) (S:=λb=>b≠dm) D);have b8:=ae.same D;have al:=a7.same D;obtain⟨b5,bc,ac⟩:=id (a6.same D);have lS:=ac.len;have ba:∀q0,uM U.mark S=some q0->jQ t.hd q0:=λq0 e0=>by
  unfold uM at e0
  split at e0
  ·exact g.mk_ q0 e0
  ·rename_i r hl;cases e0;exact b1 _ (List.mem_of_getLast? hl)
 dsimp only[cD,List.set];refine aAt (S:=aJ5 _ _ _) (fun σ H'=>∃an,Sy K H' C x m d dm M R e vh vp an t n h0 cs { U with mark:=uM U.mark S }/\KP K (λb=>b≠M/\b≠dm) I H'/\σ=[some (.ref x),some (.str e.n),some (.ref M),some (.int k),some (.ref p),some (.int ((Wt.filter λx=>decide (x∈S)).length:Nat)),some (.int u5.length)]) (λNX hN=>?_) fun σ' H' hJ=>?_
 ·refine⟨_,rfl,by show 0<=sizeLine;decide,λp9 bk bz O bm=>⟨p,p9,_,rfl,rfl,SqL.of (O _ _ bc),SqL.of bm,_,rfl,?_⟩⟩;have Y:=b8.same O;have a3:=al.same O;have ag:=(L.same D).same O;have a4:=(F.same D).same O;have b6:KP K (λb=>b≠M/\b≠dm) I bk:=(be.mono λb z=>z.2).trans (.same O);have bh:∀i u,b5[i]?=some u->∃r,S[i]?=some r/\cI K bn u r:=λi u z=>cJ ac z;cases b5 with
  |nil=>have e0:S=[]:=bCR lS.symm;refine gO rfl (hN _ _ ⟨vm,⟨ag,Y,a4,?_,g.et,ok,g.pl,ba,g.hn,g.m2,g.m4,g.n1,g.n2,g.n3⟩,b6,rfl⟩);rw[e0];exact a3
  |cons u0 ur=>
   refine nP rfl ?_;obtain⟨ul,b3⟩:∃ul,(u0::ur)[(u0::ur).length - 1]?=some ul:=⟨_,d7 (by rw[v9];lia)⟩;obtain⟨r,br,bu⟩:=bh _ _ b3;have hl:S.getLast?=some r:=by rw[List.getLast?_eq_getElem?,<-lS];exact br
   obtain⟨ma,vk,rfl,b9,_⟩:=id a3;refine⟨_,rfl,M,_,3,_,rfl,rfl,SqL.of Y.1,bV (j:=3) rfl,ma,_,0,_,rfl,rfl,b9,at0 _ _,_,rfl,M,_,3,_,rfl,rfl,SqL.of Y.1,bV (j:=3) rfl,ma,_,1,_,rfl,rfl,b9,at1 _ _ _,_,rfl,_,rfl,p,_,_,ul,rfl,rfl,SqL.of (O _ _ bc),aPf b3,by show 3<=sizeLine;decide,λa2 b7 _ a0 bq=>?_⟩;have W:=Y.same a0;refine⟨_,rfl,M,_,3,3,rfl,rfl,W.1,rfl,?_⟩;rw[show ([vh,vp,V.ref R,V.ref ma]:List V).set 3 (V.ref a2)=[vh,vp,.ref R,.ref a2] from rfl];have X:KP K (λb=>b≠M) b7 (L2.upd b7 M (.lst [vh,vp,.ref R,.ref a2])):=.mV W.1 λz=>z rfl;have nM:∀{b u},I b=some u->(∀l,u≠.lst l)->b≠M:=λh hu z=>by rw[z,a.md.1] at h;cases h;exact hu _ rfl
   refine hN _ _ ⟨.ref a2,⟨(ag.same a0).kp X (nM ah λ_ z=>(by cases z)) (nM a.st.ens.at_ λ_ z=>(by cases z)) (λy hy=>by rw[List.mem_singleton.mp hy];exact g.n3),⟨aH,W.2.1.tk X.tk,W.2.2.1.tk X.tk,W.2.2.2.kp X g.n1.symm⟩,(a4.same a0).kp X (nM ai λ_ z=>(by cases z)),⟨a2,ul,rfl,X.tk _ _ (SqT.of bq),?_⟩,g.et,ok,g.pl,ba,g.hn,g.m2,g.m4,g.n1,g.n2,g.n3⟩,b6.trans ((KP.same a0).trans (X.mono λb z=>z.1)),rfl⟩;show aHr K _ ul (uM U.mark S);rw[show uM U.mark S=some r by unfold uM;rw[hl]];obtain⟨b,e1,hb⟩:=bu;exact⟨b,e1,X.tk _ _ ((O.trans a0).bA hb)⟩
 ·obtain⟨an,bp,kk,rfl⟩:=hJ;refine⟨_,rfl,_,rfl,rfl,?_⟩;rw[l5,t6 rfl];exact q an _ H' ((KP.same af).trans kk) bp
def aZy {c:TT}{t u R:TS}{D:Ends}{σ:L2.St}{H:Hp}(Y N:Hp->Prop)(b:∀R:Bool->Hp->Prop,(∀H8,Y H8->R true H8)->(∀H8,N H8->R false H8)->c σ H R)(a:∀H8,Y H8->t { D with nx:=R D } σ H8)(d:∀H8,N H8->u { D with nx:=R D } σ H8):aDl (aJ5 c t u) R D σ H:=
 b _ (λH8 y=>eU (a H8 y)) (λH8 y=>bZ (d H8 y))
def Sy.upd {H H':Hp}{C x d l M R:Addr}{m:Int}{e e':En}{vh vp vm:V}{t:Tb}{n:Str}{h0:Int}{cs:List (V × Int)}{mq:Mv}{rows':List (List V)}(h:Sy K H C x m d l M R e vh vp vm t n h0 cs mq)(k:KP K (λb=>b≠R/\b≠d) H H')(j:bM K H' C x m d l [e'])(r:e'.n=e.n)(p:e'.t={ t with rows:=srt rows' })(i:H e'.L=none)(s:bY K H' R rows')(o:mD m { t with rows:=rows' }):Sy K H' C x m d l M R e' vh vp vm { t with rows:=rows' } n h0 cs mq:=by
 obtain⟨_,_,g⟩:=id h.mv;obtain⟨q,f,_⟩:=id h.md.2.2.2;have c:M≠d:=λz=>by have:=h.st.ens.at_;rw[<-z,h.md.1] at this;cases this
 have a:l≠R:=λz=>by rw[z,f] at g;cases g
 refine⟨j,⟨k.st _ _ ⟨h.n1,c⟩ h.md.1,h.md.2.1.tk k.tk,h.md.2.2.1.tk k.tk,s⟩,by rw[r];exact h.mv.kp k ⟨a,h.st.ne.symm⟩,h.vm.tk k.tk,p,o,h.pl,h.mk_,h.hn,h.m2,h.m4,h.n1,(aU f i).symm,(aU h.md.1 i).symm⟩
def aOk (K:bFH)(C:Addr):Sp:=λvs H Q _=>∃(st x d dm M R:Addr) (m:Int) (e:En) (vh vp vm:V) (t:Tb) (n:Str) (h0:Int) (cs:List (V × Int)) (mq:Mv) (k:Nat),vs=[.ref st,.ref x,.str e.n,.ref M]/\iK H st/\Sy K H C x m d dm M R e vh vp vm t n h0 cs mq/\M≠st/\R≠st/\e.L≠st/\t.rows.length<=k/\k<59 /\
 ∀e' vm' t' mq' H',KP K (λb=>b≠st/\b≠M/\b≠dm/\b≠d/\b≠R) H H'->iK H' st->Sy K H' C x m d dm M R e' vh vp vm' t' n h0 cs mq'->e'.n=e.n->t'.rows.length<=k+1->e'.L≠st->Q (.bl true) H'
theorem aGx (T:Txt w K mg){C:Addr}(aQ:Ok P w K mg base 1 "_law_next" ["_law_state","_law_many"] nG)(vL:Ok P w K mg base 4 "_law_row" ["_law_state","_law_head_here"] (aH2 K))(bo:Ok P w K mg base 6 "_law_carried" ["_law_store","_law_name","_law_table","_law_many"] (zT K C))(aa:OkM P w K mg base C 5 "put" ["self","name","row"] (aTd K C))(a6:OkM P w K mg base C 5 "drop" ["self","name","row"] (aPc K C)):Ok P w K mg base 7 "_law_deed" ["_law_state","_law_store","_law_name","_law_table"] (aOk K C):=by
 refine Ok.ofV T.aIs fY (by trivial) (λf bk A be s H vs Q E hr h=>?_)
 obtain⟨J,x,d,dm,M,R,m,e,vh,vp,vm,t,n,h0,cs,mq,k,rfl,hs,X,nM,nR,nL,fw,bn,q⟩:=h;have hU:=hr.units;refine⟨_,(aD (aV (i:=4) fY.nd rfl (by trivial) (aN (aQ.mono (by decide)) hr (by rfl) (aB (vv 0) (aB aC aA)))) (aD (cA (aY dW (vv 4) aC (aW _)) (aG (aL (aN (bo.mono (by decide)) hr (by rfl) (aB (vv 1) (aB (vv 2) (aB (vv 3) (aB (aN (aQ.mono (by decide)) hr (by rfl) (aB (vv 0) (aB aC aA))) aA))))))) aZ) (aD (cA (VW.pt (aCp (aY aSl (vv 4) aC (aW _)) (aA1 (aY (aC0 hU) (aK bK (vv 3) aC (λ_ _=>rfl)) (dJ aA) (aW _))))) (aD (aV (i:=5) fY.nd rfl (by trivial) (wU PySem.F.plainAttrs_list PySem.F.slot_list_pop PySem.F.type_list_pop aQt (aK bK (vv 3) aC (λ_ _=>rfl)) (aB (aN (aQ.mono (by decide)) hr (by rfl) (aB (vv 0) (aB (aM bB (by rfl) T.eX cY (aB (aK bK (vv 3) aC (λ_ _=>rfl)) aA)) aA))) aA))) (aG (aL (cR aBc (dO (a6.mono (by decide)) hr (vv 1) (aB (vv 2) (aB (vv 5) aA))) jU (aW _))))) aZ) (aD (aV (i:=5) fY.nd rfl (by trivial) (aN (vL.mono (by decide)) hr (by rfl) (aB (vv 0) (aB (aK bK (vv 3) aC (λ_ _=>rfl)) aA)))) (aD (cA (VW.pt (aCp (aY dW (vv 4) aC (aW _)) (aA1 (aY aAv (aK aX (aK bK (vv 3) aC (λ_ _=>rfl)) aC (λ_ _=>rfl)) jU (aW _))))) (aG (aV (i:=5) fY.nd rfl (by trivial) (aK aX (aK bK (vv 3) aC (λ_ _=>rfl)) aC (λ_ _=>rfl)))) aZ) (aD (cA (VW.pt (aCp (aY dW (vv 4) aC (aW _)) (aA1 (aY (aC0 hU) (aK bK (vv 3) aC (λ_ _=>rfl)) (dJ aA) (aW _))))) (aG (aV (i:=5) fY.nd rfl (by trivial) (aK bK (aK bK (vv 3) aC (λ_ _=>rfl)) (aN (aQ.mono (by decide)) hr (by rfl) (aB (vv 0) (aB (aM bB (by rfl) T.eX cY (aB (aK bK (vv 3) aC (λ_ _=>rfl)) aA)) aA))) (λ_ _=>rfl)))) aZ) (aD (iR (wU PySem.F.plainAttrs_list PySem.F.slot_list_append PySem.F.type_list_append pZ (aK bK (vv 3) aC (λ_ _=>rfl)) (aB (vv 5) aA))) (aG (aL (cR aBc (dO (aa.mono (by decide)) hr (vv 1) (aB (vv 2) (aB (vv 5) aA))) jU (aW _))))))))))),?_⟩;refine⟨_,rfl,J,6,rfl,hs,by decide,λz H1 f1 z0 z1=>?_⟩;have a5:=X.fx f1 hs nM nR nL;refine⟨_,rfl,rfl,_,rfl,?_⟩;have al:(srt t.rows).Perm t.rows:=(jX λr bd=>gC (X.ok.rows r bd)).1;have ok:=X.ok;have ah:KP K (λb=>b≠J) H H1:=.fx f1 hs λz=>z rfl;cases decide (V.int z=V.int 0) with
 |true=>
  refine eU ?_;refine⟨_,rfl,_,rfl,_,rfl,_,rfl,J,4,rfl,f1.st,by decide,λz2 H2 f2 w0 w1=>?_⟩;obtain⟨k2,rfl⟩:∃k2:Nat,z2=k2:=⟨z2.toNat,by lia⟩;have g:=a5.fx f2 f1.st nM nR nL;have af:KP K (λb=>b≠J) H H2:=ah.trans (.fx f2 f1.st λz=>z rfl);have b9:J≠dm:=λz=>by obtain⟨_,e1,_⟩:=f2.st;obtain⟨_,_,gd⟩:=g.mv;rw[z,gd] at e1;cases e1
  exact⟨x,d,dm,M,R,m,e,vh,vp,vm,t,n,h0,cs,mq,k2,rfl,g,λb4 bm O k3 p=>q e b4 t _ O ((af.mono λb z=>z.1).trans (k3.mono λb z=>⟨z.2.1,z.2.2.1⟩)) (aIf f2.st λo h=>k3.st _ _ ⟨nM.symm,b9⟩ h) p rfl (by lia) nL⟩
 |false=>
  refine bZ ?_;dsimp only[rZ];refine aZy (λH8=>Same H1 H8/\t.rows≠[]) (λH8=>Same H1 H8) (λRR hT hF=>?_) (λH2 b8=>?_) λH2 s2=>?_
  ·refine⟨_,rfl,_,_,rfl,rfl,_,rfl,?_⟩;cases decide (z<3) with
   |false=>exact bZ (hF _ (Same.refl _))
   |true=>
    refine eU ?_;obtain⟨a,N,c⟩:=id a5.md.2.2.2;have Y:=c.len;refine⟨_,rfl,M,_,2,_,rfl,rfl,SqL.of a5.md.1,at2 _ _ _ _,by show 0<=sizeLine;decide,λp9 H9 az s9 g9=>⟨R,p9,a,rfl,rfl,SqL.of (s9 _ _ N),SqL.of g9,_,rfl,?_⟩⟩;cases a with
    |nil=>exact hF _ s9
    |cons u0 ur=>exact hT _ ⟨s9,λz=>by rw[z] at Y;cases Y⟩
  ·obtain⟨s2,bh⟩:=b8;have g:=a5.same s2;have G:=f1.st.same s2;obtain⟨a,N,c⟩:=id g.md.2.2.2;have Y:=c.len;have am:0<t.rows.length:=List.length_pos_iff.mpr bh;refine⟨_,rfl,M,_,2,_,rfl,rfl,SqL.of g.md.1,at2 _ _ _ _,.inl ⟨rfl,_,SqL.of N⟩,_,rfl,_,rfl,M,_,2,_,rfl,rfl,SqL.of g.md.1,at2 _ _ _ _,R,a,rfl,.inl (SqL.of N),J,_,rfl,G,⟨by lia,by lia⟩,λz O f3 z0 z1=>?_⟩;have p:=g.fx f3 G nM nR nL;have ay:KP K (λb=>b≠J) H O:=ah.trans ((KP.same s2).trans (.fx f3 G λz=>z rfl));obtain⟨a,N,c⟩:=id p.md.2.2.2;have Y:=c.len;obtain⟨l,rfl⟩:∃l:Nat,z=l:=⟨z.toNat,by lia⟩;have hz:l<a.length:=by lia
   obtain⟨q0,a8,qa,aj,ac⟩:=cJ c (d7 hz);refine⟨R,a,_,l,a[l],rfl,rfl,N,by lia,by lia,PySem.StrLaws.seqIndex_nonneg (by lia) (by lia),d7 hz,?_⟩;have kR:KP K (λb=>b≠R) O (L2.upd O R (.lst (a.eraseIdx l))):=.mV N λz=>z rfl;have an:L2.upd O R (.lst (a.eraseIdx l)) R=some (.lst (a.eraseIdx l)):=aH;have au:∀{b},L2.upd O R (.lst (a.eraseIdx l)) b=none->O b=none:=λ{b} h=>by
    by_cases zz:b=R
    ·rw[zz,aH] at h;cases h
    ·rw[aP zz] at h;exact h
   generalize L2.upd O R (.lst (a.eraseIdx l))=H4 at kR an au ⊢;obtain⟨dx,aq⟩:=p.st.at_;have no:∀{b u},O b=some u->(∀ys,u≠.lst ys)->b≠R:=λh hu z=>by rw[z,N] at h;cases h;exact hu _ rfl
   have a9:=no aq λ_ z=>(by cases z);have a7:=no p.st.ens.at_ λ_ z=>(by cases z);have b0:=p.st.kp kR a9 a7 λy hy=>by rw[List.mem_singleton.mp hy];exact X.n2
   have bc:=ok.rows q0 (t7 a8);have pe:=vO a8;have b3:q0∈e.t.rows:=by rw[X.et];exact al.mem_iff.mpr (t7 a8)
   refine⟨_,rfl,x,dx,_,rfl,kR.st _ _ a9 aq,rfl,_,rfl,_,rfl,x,d,dm,m,[],[],e,a[l],q0,rfl,b0,⟨qa,aj,kR.tk _ _ ac⟩,by rw[X.et];exact bc,b3,λv L D H5 pm k5 ab ba=>⟨rfl,?_⟩⟩;rw[X.et] at pm;have pr:D.Perm (t.rows.eraseIdx l):=(List.Perm.trans pm (al.trans pe.symm)).cons_inv;have a4:∀y∈t.rows.eraseIdx l,jQ t.hd y:=λy hy=>ok.rows y (List.mem_of_mem_eraseIdx hy);have es:srt D=srt (t.rows.eraseIdx l):=(sI (λy hy=>gC (a4 y hy)) pr.symm).symm;have kk:KP K (λb=>b≠R/\b≠d) O H5:=(kR.mono λb z=>z.1).trans (k5.mono λb z=>z.2);have le:=bED t.rows l;have b7:=ok.few;have bf:bY K H4 R (t.rows.eraseIdx l):=⟨_,an,aC3 (c.imp λ_ _ ⟨b,e1,e2⟩=>⟨b,e1,kR.tk _ _ e2⟩) l⟩;have ai:J≠d:=λz=>by obtain⟨_,e1,_⟩:=f3.st;have:=p.st.ens.at_;rw[<-z,e1] at this;cases this
   have ax:=au ab;refine q { e with v:=v,L:=L,t:={ e.t with rows:=srt D } } vm { t with rows:=t.rows.eraseIdx l } mq H5 ((ay.mono λb z=>z.1).trans (kk.mono λb z=>⟨z.2.2.2.2,z.2.2.2.1⟩)) (aIf f3.st λo h=>kk.st _ _ ⟨nR.symm,ai⟩ h) (p.upd kk ba rfl ?_ ax (bf.kp k5 a7.symm) ⟨ok.hd,ok.pl,by show (t.rows.eraseIdx l).length<=60;lia,a4⟩) rfl (by show (t.rows.eraseIdx l).length<=k+1;lia) ?_
   ·show ({ e.t with rows:=srt D }:Tb)=_;rw[X.et,es]
   ·exact f3.st.ne ax
  ·have g:=a5.same s2;have G:=f1.st.same s2;have af:KP K (λb=>b≠J) H H2:=ah.trans (.same s2);refine⟨_,rfl,_,rfl,M,_,0,_,rfl,rfl,SqL.of g.md.1,at0 _ _,J,vh,t.hd,rfl,G,g.md.2.1,ok.hd,λtr O r f3 g3 as=>?_⟩;have b6:∀{O H4 I r},Fx J H2 O->Fx J O H4->cI K O I r->cI K H4 I r:=λa1 a2 ⟨b,e1,e2⟩=>⟨b,e1,a2.tk (K:=K) a1.st _ _ e2⟩;dsimp only[cD,List.set];refine aAt (S:=aJ5 _ _ _) (fun σ H'=>∃I r,cI K H' I r/\jQ t.hd r/\Fx J H2 H'/\σ=[some (.ref J),some (.ref x),some (.str e.n),some (.ref M),some (.int z),some I]) (λNX hN=>?_) fun σ' H' hJ=>?_
   ·have p:=g.fx f3 G nM nR nL;have no:=hN _ _ ⟨.ref tr,r,⟨tr,rfl,SqT.of g3⟩,as,f3,rfl⟩;refine⟨_,rfl,rfl,_,rfl,?_⟩;cases decide (V.int z=V.int 3) with
    |false=>exact bZ (bZ no)
    |true=>
     refine eU ?_;obtain⟨ma,vk,rfl,av,U⟩:=id p.vm;refine⟨_,rfl,M,_,3,_,rfl,rfl,SqL.of p.md.1,bV (j:=3) rfl,ma,_,2,_,rfl,rfl,av,at2 _ _ _ _,rfl,_,rfl,?_⟩;cases ae:mq.mark with
     |none=>rw[ae] at U;have U:vk=.non:=U;subst U;exact gO rfl no
     |some q0=>rw[ae] at U;obtain⟨ka,rfl,bp⟩:=id U;refine nP (by rw[v8 (λz=>by cases z)];rfl) ?_;exact⟨_,rfl,M,_,3,_,rfl,rfl,SqL.of p.md.1,bV (j:=3) rfl,ma,_,2,_,rfl,rfl,av,at2 _ _ _ _,hN _ _ ⟨.ref ka,q0,U,X.mk_ q0 ae,f3,rfl⟩⟩
   clear as g3 f3 tr r;obtain⟨I,r,a0,Z,f4,rfl⟩:=hJ;refine aAt (S:=aJ5 _ _ _) (fun σ H'=>∃I r,cI K H' I r/\jQ t.hd r/\Fx J H2 H'/\σ=[some (.ref J),some (.ref x),some (.str e.n),some (.ref M),some (.int z),some I]) (λNX hN=>?_) fun bj B bi=>?_
   ·have ad:=g.fx f4 G nM nR nL;refine⟨_,rfl,rfl,_,rfl,?_⟩;cases decide (V.int z=V.int 4) with
    |false=>exact bZ (bZ (hN _ _ ⟨I,r,a0,Z,f4,rfl⟩))
    |true=>
     refine eU ?_;obtain⟨a,N,c⟩:=id ad.md.2.2.2;have Y:=c.len;refine⟨_,rfl,M,_,2,_,rfl,rfl,SqL.of ad.md.1,at2 _ _ _ _,by show 0<=sizeLine;decide,λp9 H9 az s9 g9=>⟨R,p9,a,rfl,rfl,SqL.of (s9 _ _ N),SqL.of g9,_,rfl,?_⟩⟩;have f9:=f4.sm s9;have ar:=ad.same s9;have no:=hN _ _ ⟨I,r,a0.same s9,Z,f9,rfl⟩;by_cases a3:a=[]
     ·rw[a3];exact gO rfl no
     ·have am:0<a.length:=List.length_pos_iff.mpr a3;refine nP (by cases a with|nil=>exact absurd rfl a3|cons _ _=>rfl) ?_;refine⟨_,rfl,M,_,2,_,rfl,rfl,SqL.of ar.md.1,at2 _ _ _ _,_,rfl,_,rfl,M,_,2,_,rfl,rfl,SqL.of ar.md.1,at2 _ _ _ _,R,a,rfl,.inl (SqL.of (s9 _ _ N)),J,_,rfl,f9.st,⟨by lia,by have:=ok.few;lia⟩,λz3 bl ak w0 w1=>?_⟩;obtain⟨l,rfl⟩:∃l:Nat,z3=l:=⟨z3.toNat,by lia⟩;have hz:l<a.length:=by lia
      obtain⟨q0,a8,qa,aj,ac⟩:=cJ c (d7 hz);refine⟨R,a,_,a[l],rfl,rfl,SqL.of (ak.same _ _ nR (s9 _ _ N)),bV (d7 hz),?_⟩;exact hN _ _ ⟨a[l],q0,b6 f9 ak ⟨qa,aj,s9.bA ac⟩,ok.rows q0 (t7 a8),f9.trans ak,rfl⟩
   clear a0 Z f4 r I;obtain⟨I,r,a0,Z,f5,rfl⟩:=bi;have W:=g.fx f5 G nM nR nL;have b5:KP K (λb=>b≠J) H B:=af.trans (.fx f5 G λz=>z rfl);obtain⟨a,N,c⟩:=id W.md.2.2.2;have Y:=c.len;have b7:=ok.few;refine⟨_,rfl,M,_,2,_,rfl,rfl,SqL.of W.md.1,at2 _ _ _ _,.inl ⟨rfl,_,SqL.of N⟩,_,rfl,R,_,_,rfl,rfl,N,oU (by lia),?_⟩;have kR:KP K (λb=>b≠R) B (L2.upd B R (.lst (a++[I]))):=.mV N λz=>z rfl;have ao:L2.upd B R (.lst (a++[I])) R=some (.lst (a++[I])):=aH;have aw:∀{b},L2.upd B R (.lst (a++[I])) b=none->B b=none:=λ{b} h=>by
    by_cases zz:b=R
    ·rw[zz,aH] at h;cases h
    ·rw[aP zz] at h;exact h
   generalize L2.upd B R (.lst (a++[I]))=H6 at kR ao aw ⊢;obtain⟨dx,ap⟩:=W.st.at_;have no:∀{b u},B b=some u->(∀ys,u≠.lst ys)->b≠R:=λh hu z=>by rw[z,N] at h;cases h;exact hu _ rfl
   have a9:=no ap λ_ z=>(by cases z);have a7:=no W.st.ens.at_ λ_ z=>(by cases z);have bg:=W.st.kp kR a9 a7 λy hy=>by rw[List.mem_singleton.mp hy];exact X.n2
   have ag:∀{u r},cI K B u r->cI K H6 u r:=λ⟨b,e1,e2⟩=>⟨b,e1,kR.tk _ _ e2⟩;have lR:e.t.rows.length<60:=by rw[X.et];show (srt t.rows).length<60;rw[qH];lia
   refine⟨_,rfl,x,dx,_,rfl,kR.st _ _ a9 ap,rfl,_,rfl,_,rfl,x,d,dm,m,[],[],e,I,r,rfl,bg,ag a0,by rw[X.et];exact Z,lR,λv L H7 k7 bb b2=>⟨rfl,?_⟩⟩;have kk:KP K (λb=>b≠R/\b≠d) B H7:=(kR.mono λb z=>z.1).trans (k7.mono λb z=>z.2);have a4:∀y∈t.rows++[r],jQ t.hd y:=λy hy=>by
    rcases List.mem_append.mp hy with hy|hy
    ·exact ok.rows y hy
    ·rw[List.mem_singleton.mp hy];exact Z
   have es:srt (e.t.rows++[r])=srt (t.rows++[r]):=by rw[X.et];exact (sI (λy hy=>gC (a4 y hy)) (al.symm.append_right [r])).symm
   have b1:bY K H6 R (t.rows++[r]):=⟨_,ao,cV.app (c.imp λ_ _ z=>ag z) (.cons (ag a0) .nil)⟩;have ai:J≠d:=λz=>by obtain⟨_,e1,_⟩:=f5.st;have:=W.st.ens.at_;rw[<-z,e1] at this;cases this
   have ab:=aw bb;refine q { e with v:=v,L:=L,t:={ e.t with rows:=srt (e.t.rows++[r]) } } vm { t with rows:=t.rows++[r] } mq H7 ((b5.mono λb z=>z.1).trans (kk.mono λb z=>⟨z.2.2.2.2,z.2.2.2.1⟩)) (aIf f5.st λo h=>kk.st _ _ ⟨nR.symm,ai⟩ h) (W.upd kk b2 rfl ?_ ab (b1.kp k7 a7.symm) ⟨ok.hd,ok.pl,by show (t.rows++[r]).length<=60;rw[bAB];show _+1<=60;lia,a4⟩) rfl (by show (t.rows++[r]).length<=k+1;rw[bAB];show _+1<=k+1;lia) ?_
   ·show ({ e.t with rows:=srt (e.t.rows++[r]) }:Tb)=_;rw[es,X.et]
   ·exact f5.st.ne ab
structure LI (K:bFH)(H:Hp)(C x:Addr)(m:Int)(d dm M R N W Pt st:Addr)(nms:List Str)(xs:List V)(e:En)(vh vp vm:V)(t:Tb)(n:Str)(h0:Int)(cs:List (V × Int))(mq:Mv)(k:Nat):Prop where
 s:iK H st
 y:Sy K H C x m d dm M R e vh vp vm t n h0 cs mq
 nm:some e.n=nms[0]?
 fw:t.rows.length<=k
 gN:H N=some (.lst (nms.map V.str))
 gW:H W=some (.lst xs)
 gP:H Pt=some (.tab qC)
 nM:M≠st
 nR:R≠st
 nL:e.L≠st
 nN:N≠st
 nW:W≠st
theorem LI.same {H H':Hp}{C x d dm M R N W Pt st:Addr}{m:Int}{nms:List Str}{xs:List V}{e:En}{vh vp vm:V}{t:Tb}{n:Str}{h0:Int}{cs:List (V × Int)}{mq:Mv}{k:Nat}(s:Same H H')(h:LI K H C x m d dm M R N W Pt st nms xs e vh vp vm t n h0 cs mq k):LI K H' C x m d dm M R N W Pt st nms xs e vh vp vm t n h0 cs mq k:=⟨h.s.same s,h.y.same s,h.nm,h.fw,s _ _ h.gN,s _ _ h.gW,s _ _ h.gP,h.nM,h.nR,h.nL,h.nN,h.nW⟩
def aN9 (K:bFH)(Pt:Addr):Sp:=λvs H Q _=>∃(a:Addr) (ns:List Int),vs=[.ref a]/\SqL K H a (ns.map V.int)/\ns.length<=63/\H Pt=some (.tab qC)/\∀H',H' Pt=some (.tab qC)->Q (.bl true) H'
def bAj {f:Addr}{fd:FuncData}(F:Fun K "law" "law" aOy f fd)(T:Txt w K mg){C Pt:Addr}(cl:Ok P w K mg base 1 "_law_seed" ["_law_script"] (aPq K))(ch:Ok P w K mg base 2 "_law_names" ["_law_state","_law_many"] aTz)(vD:Ok P w K mg base 13 "_law_spans_begun" ["_law_state","_law_names_here","_law_most"] (aK2 K C Pt))(cg:Ok P w K mg base 2 "_law_lent" ["_law_state","_law_table","_law_houses"] (aO5 K))(cc:Ok P w K mg base 14 "_law_right" ["_law_store","_law_name","_law_table","_law_houses"] (aJi K C Pt))(ck:Ok P w K mg base 7 "_law_deed" ["_law_state","_law_store","_law_name","_law_table"] (aOk K C))(S:OkM P w K mg base C 5 "lend" ["self","name","number","house"] (aOh K C)):lX P w K mg base CX0 15 f fd ["_law_script"] (aN9 K Pt):=by
 refine Fun.okV F rH (λvs H Q E h=>?_) (λcd A bx s H vs Q E hr h=>?_)
 ·obtain⟨a,ns,rfl,_⟩:=h;rfl
 obtain⟨a,ns,rfl,ha,hn,c4,q⟩:=h;have hU:=hr.units;refine⟨_,(aD (aV (i:=1) rH.nd rfl (by trivial) (dJ (aB (aN (cl.mono (by decide)) hr (by rfl) (aB (vv 0) aA)) aA))) (aD (aV (i:=2) rH.nd rfl (by trivial) (aN (ch.mono (by decide)) hr (by rfl) (aB (vv 1) (aB aC aA)))) (aD (rY (aN (vD.mono (by decide)) hr (by rfl) (aB (vv 1) (aB (vv 2) (aB aC aA)))) (zF rfl (bH (aO (i:=3) rH.nd rfl (by trivial)) (bH (aO (i:=4) rH.nd rfl (by trivial)) (bH (aO (i:=5) rH.nd rfl (by trivial)) fV))))) (aD (rY (aN (cg.mono (by decide)) hr (by rfl) (aB (vv 1) (aB (vv 4) (aB (vv 5) aA)))) (aLs (vv 4) aC set_list)) (aD (iR (dO (S.mono (by decide)) hr (vv 3) (aB (aK bK (vv 2) aC (λ_ _=>rfl)) (aB (aK aX (aK bK (vv 4) aC (λ_ _=>rfl)) aC (λ_ _=>rfl)) (aB (aK aX (aK bK (vv 4) aC (λ_ _=>rfl)) aC (λ_ _=>rfl)) aA))))) (aD (jT PassesOwn.never rfl (eN (bO sS (dJ (aB aC aA)) (fQ wG (vv 0) lA (iD aC)))) (aO (i:=6) rH.nd rfl (by trivial)) (aD (aV (i:=1) rH.nd rfl (by trivial) (dJ (aB (bO dX (aK bK (vv 1) aC (λ_ _=>rfl)) (bO qO (vv 6) (bO aHv aC aC))) aA))) (aG (cA (VW.pt (gJ (cP (cG (aN (ck.mono (by decide)) hr (by rfl) (aB (vv 1) (aB (vv 3) (aB (aK bK (vv 2) aC (λ_ _=>rfl)) (aB (vv 4) aA))))))) (eZ (cP (cG (aN (cc.mono (by decide)) hr (by rfl) (aB (vv 3) (aB (aK bK (vv 2) aC (λ_ _=>rfl)) (aB (vv 4) (aB (vv 5) aA)))))))))) (aG (aL jO)) aZ)))) (aG (aL jO)))))))),?_⟩;refine⟨_,rfl,a,ns,rfl,ha,hn,λc0 H1 s1 _ _=>⟨by show 1<=sizeLine;decide,λg H2 bm s2 g2=>?_⟩⟩;have av:iK H2 g:=⟨c0,g2,trivial⟩;refine⟨_,rfl,g,rfl,av,λN H3 D f3 bk gN c3=>?_⟩;have a1:N≠g:=av.ne bk;have ag:=s2 _ _ (s1 _ _ c4);have aj:Pt≠g:=λz=>by rw[z,g2] at ag;cases ag
 have ai:=f3.same _ _ aj ag;refine⟨_,rfl,_,rfl,g,N,D,rfl,f3.st,gN,a1,c3,ai,λt x M R d r m v k tb e n h0 X H4 f4 ht hM hS O ao ap b3 lr ak m2 m4 aa az bp b9 c5 b0=>?_⟩;refine⟨t,_,rfl,ht,rfl,_,_,rfl,_,_,rfl,_,_,rfl,rfl,?_⟩;have au:=f3.trans f4;have b8:N≠M:=aU gN aa;have bg:N≠R:=aU gN az;have nM:=f3.st.ne aa;have nR:=f3.st.ne az;have nL:=f3.st.ne bp;have ae:(D.map V.str)[0]?=some (.str e.n):=by rw[v6,<-ao];rfl
 refine⟨_,rfl,_,rfl,_,rfl,g,M,R,m,v,k,.non,tb,n,h0,X,rfl,f4.st,hM,b3,ak,m2,m4,nM,λG num ho H5 f5 g5 ax bi c9 bc=>?_⟩;have bv:=au.trans f5;have Y:=f5.same _ _ nM hM.1;refine⟨_,rfl,M,_,3,3,rfl,rfl,Y,rfl,?_⟩;rw[show ([v,k,V.ref R,V.non]:List V).set 3 (V.ref G)=[v,k,.ref R,.ref G] from rfl];have k6:KP K (λb=>b≠g/\b≠M/\b≠r) H4 (L2.upd H5 M (.lst [v,k,.ref R,.ref G])):=(KP.fx f5 f4.st λz=>z.1 rfl).trans (.mV Y λz=>z.2.1 rfl);have g6:L2.upd H5 M (.lst [v,k,.ref R,.ref G]) M=some (.lst [v,k,.ref R,.ref G]):=aH;have ah:iK (L2.upd H5 M (.lst [v,k,.ref R,.ref G])) g:=aIf f5.st λo h=>by rw[aP nM.symm];exact h
 have nD:∀{b u},H4 b=some u->(∀kvs,u≠.dK kvs)->b≠r:=λh hu z=>by rw[z,O] at h;cases h;exact hu _ rfl
 have a0:∀{b u},H4 b=some u->(∀l,u≠.lst l)->b≠g:=λh hu z=>by obtain⟨_,e1,_⟩:=f4.st;rw[z,e1] at h;cases h;exact hu _ rfl
 have a3:∀{b u},H4 b=some u->(∀l,u≠.lst l)->b≠M:=λh hu z=>by rw[z,hM.1] at h;cases h;exact hu _ rfl
 have a9:L2.upd H5 M (.lst [v,k,.ref R,.ref G]) r=some (.dK []):=by rw[aP (a3 O λ_ z=>by cases z)];exact f5.same _ _ (a0 O λ_ z=>by cases z) O
 have U:SqT K (L2.upd H5 M (.lst [v,k,.ref R,.ref G])) G [.int (num:Nat),.int ho,.non]:=SqT.mV Y (SqT.of g5);generalize L2.upd H5 M (.lst [v,k,.ref R,.ref G])=H6 at k6 g6 ah a9 U ⊢;obtain⟨dx,hx⟩:=hS.at_;obtain⟨_,_,_,_,_,cm,gL,_⟩:=hS.ens.tb e j6;obtain⟨us,gR,ce⟩:=id hM.2.2.2;have sx:x≠g/\x≠M/\x≠r:=⟨a0 hx λ_ z=>(by cases z),a3 hx λ_ z=>(by cases z),nD hx λ_ z=>(by cases z)⟩;have ba:=hS.kp k6 sx ⟨a0 hS.ens.at_ λ_ z=>(by cases z),a3 hS.ens.at_ λ_ z=>(by cases z),hS.ne⟩ λy hy=>by rw[List.mem_singleton.mp hy];exact⟨nL,b0,nD gL λ_ z=>(by cases z)⟩
 have Z:=f4.same _ _ a1 gN;have a4:=f4.same _ _ aj ai;have sN:N≠g/\N≠M/\N≠r:=⟨a1,b8,nD Z λ_ z=>(by cases z)⟩;have b4:=k6.st _ _ sN Z;have sP:Pt≠g/\Pt≠M/\Pt≠r:=⟨aj,a3 a4 λ_ z=>(by cases z),nD a4 λ_ z=>(by cases z)⟩;have as:e.t.pl=.spans n h0 X:=by rw[ap];exact ak
 refine⟨_,rfl,x,dx,_,rfl,k6.st _ _ sx hx,rfl,_,rfl,N,_,0,.str e.n,rfl,rfl,SqL.of b4,bV (j:=0) ae,_,rfl,M,_,3,_,rfl,rfl,SqL.of g6,bV (j:=3) rfl,G,_,0,_,rfl,rfl,U,at0 _ _,_,rfl,M,_,3,_,rfl,rfl,SqL.of g6,bV (j:=3) rfl,G,_,1,_,rfl,rfl,U,at1 _ _ _,x,d,r,m,[e],e,n,h0,X,num,ho,rfl,ba,j6,as,a9,ax,bi,c9,bc,λH7 k7 ar a5=>?_⟩;have B:KP K (λb=>b≠g/\b≠M/\b≠r) H4 H7:=k6.trans (k7.mono λb z=>z.2.2);have bh:=nD hM.1 λ_ z=>(by cases z);have c1:g≠r:=λz=>a0 O (λ_ w=>by cases w) z.symm;have al:Sy K H7 C x m d r M R e v k (.ref G) tb n h0 X ⟨num,ho,none⟩:=⟨ar,⟨k7.st _ _ bh g6,hM.2.1.tk B.tk,hM.2.2.1.tk B.tk,hM.2.2.2.kp B ⟨nR,b9.symm,nD gR λ_ z=>(by cases z)⟩⟩,a5,⟨G,.non,rfl,k7.tk _ _ U,rfl⟩,ap,b3,ak,λ_ z=>(by cases z),bc,m2,m4,b9,c5,b0⟩;have b2:iK H7 g:=aIf ah λo h=>k7.st _ _ c1 h;have bs:=B.st _ _ sN Z;have bu:=B.st _ _ sP a4;have c2:SqL K H7 a (ns.map V.int):=by
  have go:∀{o},H1 a=some o->(∀l,o≠.dK l)->H7 a=some o:=λh1 h2=>by have n1:=aU h1 bm;have h3:=f3.same _ _ n1 (s2 _ _ h1);have h4:=f4.same _ _ n1 h3;exact B.st _ _ ⟨n1,aU h3 aa,nD h4 h2⟩ h4
  rcases s1.seq ha with (h|⟨o,h⟩)|h
  ·exact .inl (.inl (go h λ_ z=>by cases z))
  ·exact .inl (.inr ⟨o,go h λ_ z=>by cases z⟩)
  ·exact .inr h
 clear Z a4 b4 k6 g6 ah a9 U ba B k7 a5 ar f5 g5 Y bv au hM hS O ht f4 f3 ai;refine⟨by show 1<=sizeLine;decide,λz8 H8 cf s8 g8=>?_⟩;refine⟨_,rfl,_,rfl,a,ns.map V.int,rfl,s8.seq c2,λp9 H9 ca s9 g9=>?_⟩;rw[show pB (ns.map V.int) none (some 40)=(ns.map V.int).take 40 from wK _ 40] at g9;have co:((ns.map V.int).take 40).length<=40:=by rw[bAO];lia
 refine⟨z8,p9,_,_,rfl,rfl,s9 _ _ g8,g9,small (by show 1+_<=1000;lia),λW aq hW bt a2=>?_⟩;have J:=s8.trans (s9.trans bt);obtain⟨xs,af⟩:∃xs,xs=[V.int 0]++(ns.map V.int).take 40:=⟨_,rfl⟩;have bd:∀y∈xs,∃c,y=.int c:=λy hy=>by
  rw[af] at hy;rcases List.mem_append.mp hy with hy|hy
  ·exact⟨0,List.mem_singleton.mp hy⟩
  ·obtain⟨c,_,rfl⟩:=List.mem_map.mp (bDC hy);exact⟨c,rfl⟩
 have cj:xs.length<=41:=by rw[af,bAB];show 1+_<=41;lia
 have a2:aq W=some (.lst xs):=by rw[af];exact a2
 have bj:=(s8.trans s9) _ _ al.md.1;have c8:W≠M:=(aU bj hW).symm;have bn:W≠R:=by obtain⟨us,gR,_⟩:=al.md.2.2.2;exact (aU ((s8.trans s9) _ _ gR) hW).symm
 have bo:W≠g:=((b2.same s8).same s9).ne hW;have br:LI K aq C x m d r M R N W Pt g D xs e v k (.ref G) tb n h0 X ⟨num,ho,none⟩ 10:=⟨b2.same J,al.same J,ao,lr,J _ _ bs,a2,J _ _ bu,nM,nR,nL,a1,bo⟩;refine⟨W,rfl,⟨_,SqL.of a2⟩,aIe (xs:=xs) (λi σ H'=>∃(g:Addr) (e:En) (vm:V) (t:Tb) (mq:Mv) (l6:Option V),LI K H' C x m d r M R N W Pt g D xs e v k vm t n h0 X mq (10+i)/\σ=[some (.ref a),some (.ref g),some (.ref N),some (.ref x),some (.ref M),some (.int m),l6]) ⟨g,e,_,tb,_,none,br,rfl⟩ (λi σ H' _ p=>by obtain⟨g,e,vm,t,mq,l6,I,_⟩:=p;exact SqL.of I.gW) (λi y σ ac ey p=>?_) fun σ ac p=>?_⟩
 ·obtain⟨g,e,vm,t,mq,l6,I,rfl⟩:=p;obtain⟨c,rfl⟩:=bd y (t7 ey);have hi:i<xs.length:=(List.getElem?_eq_some_iff.mp ey).1;obtain⟨sv,bl,_⟩:=I.s;refine⟨_,rfl,g,_,0,_,rfl,rfl,SqL.of bl,at0 _ _,_,rfl,_,_,rfl,rfl,⟨by decide,by decide,by decide⟩,_,_,rfl,rfl,(by show (0:Int)<10 ^ 18;decide),_,_,rfl,rfl,by show 1<=sizeLine;decide,λL an b1 ay bw=>?_⟩;have fr:∀{b o},ac b=some o->b≠L:=λh=>aU h b1;have l:=I.same ay;obtain⟨us,gR,_⟩:=I.y.md.2.2.2;obtain⟨_,_,_,_,_,⟨cb,gL,_⟩⟩:=I.y.st.ens.tb e j6;have bf:iK an L:=⟨_,bw,trivial⟩;have fM:=fr I.y.md.1;have fR:=fr gR;have fN:=fr I.gN;have fW:=fr I.gW;have fP:Pt≠L:=fr I.gP;have ae:(D.map V.str)[0]?=some (.str e.n):=by rw[v6,<-I.nm];rfl
  refine⟨_,rfl,_,rfl,_,rfl,N,_,0,.str e.n,rfl,rfl,SqL.of l.gN,bV (j:=0) ae,_,rfl,L,x,d,r,M,R,m,e,v,k,vm,t,n,h0,X,mq,10+i,rfl,bf,l.y,fM,fR,fr gL,l.fw,by lia,λe' ad t' ab bq am b6 a8 bz ci be=>⟨_,rfl,bZ ?_⟩⟩;obtain⟨_,_,gd⟩:=id l.y.mv;have no:∀{b u},an b=some u->(∀l,u≠.dK l)->b≠r/\b≠d:=λh hu=>⟨λz=>by rw[z,gd] at h;cases h;exact hu _ rfl,λz=>by rw[z,l.y.st.ens.at_] at h;cases h;exact hu _ rfl⟩;have bb:∀{b l},an b=some (.lst l)->Pt≠b:=λh z=>by have:=l.gP;rw[z,h] at this;cases this
  have a7:=am.st _ _ ⟨fN,b8,(no l.gN λ_ z=>(by cases z)).1,(no l.gN λ_ z=>(by cases z)).2,bg⟩ l.gN;have aw:=am.st _ _ ⟨fW,c8,(no l.gW λ_ z=>(by cases z)).1,(no l.gW λ_ z=>(by cases z)).2,bn⟩ l.gW;have a6:=am.st _ _ ⟨fP,bb l.y.md.1,(no l.gP λ_ z=>(by cases z)).1,(no l.gP λ_ z=>(by cases z)).2,bb (ay _ _ gR)⟩ l.gP;have b5:some e'.n=D[0]?:=by rw[bz];exact I.nm
  have b7:LI K bq C x m d r M R N W Pt L D xs e' v k ad t' n h0 X ab (10+(i+1)):=⟨b6,a8,b5,by lia,a7,aw,a6,fM,fR,be,fN,fW⟩;refine⟨_,rfl,_,rfl,N,_,0,.str e'.n,rfl,rfl,SqL.of a7,bV (j:=0) (by rw[v6,<-b5];rfl),_,rfl,_,rfl,x,d,r,M,R,m,e',v,k,ad,t',n,h0,X,ab,rfl,a8,a6,λcn c6=>⟨_,rfl,bZ ?_⟩⟩;exact⟨L,e',ad,t',ab,_,b7.same c6,rfl⟩
 ·obtain⟨g,e,vm,t,mq,l6,I,rfl⟩:=p;exact q ac I.gP
def bAs {fa Pt:Addr}(T:Txt w K mg)(CT:aSz K mg "are_cuts" Pt)(G:mg "law"=some (.ref fa)) :
  ∃fd:FuncData,(∀(s:Shared) (u:Value),BindsTo s fd ⟨[u],[]⟩ [("_law_script",u)])/\∀base:Heap,K.In base->base.Ns mainGlobals mg->BM mg base->lX P w K mg base CX0 15 fa fd ["_law_script"] (aN9 K Pt):=by
 obtain⟨f,fd,F,B,m⟩:=T.bCh;have e:fa=f:=by rw[m] at G;injection G with e;injection e with e;exact e.symm
 subst e;refine⟨fd,?_,λbase hK _ J=>?_⟩
 ·obtain⟨⟨oc,od,kV,a4,pm,an,a3,E,a0,rfl,lk,a5⟩,kp⟩:=F;exact λs u=>.of_eq rfl
 ·obtain⟨Tc,D,Z,m3,m4,m6,A,W⟩:=T.bBg;obtain⟨Sc,V,q0,q1,q2,q3,q4,q5,q6,q7,q8,q9,qa,qb,i,y,n⟩:=T.aVx;have c:=D.cls;have b:=V.cls;have t:=aKl (P:=P) (base:=base) T;have Y:=aL0 (P:=P) (base:=base) T;have z:=aNk T Y;have g4:=aH8 T t Y;have g5:=aNm T t;have M:=aFx (P:=P) (base:=base) T;have L:=vX T t;have g:=aFt (P:=P) (base:=base) T;have R:=aBb T g4 g5;have C:=aMh (P:=P) (base:=base) T;have o:=aPv (P:=P) (base:=base) T;have p:=aKh T CT hK J (aAr T) (aQy T L) R;have pl:=aDu T M (aAf T z g) C p;have d:=aLu T R;have tb:=aKu T (aJf T (aGu T z M) (aDc T) (aD9 T) g) pl (aJ3 T d);have Q:=yZ T (aHi T t z tb);have a:=aJy T z;have S:=aNh T L (aF5 T (aAa T g) (aV6 T t (aCv T)) o);have l:=aFr (P:=P) (base:=base) T;have O:=aDk T l (aDi T l);have q:=aK0 T O;have j:=aGl (P:=P) (base:=base) T;have k:=aGq (P:=P) (base:=base) T;have po:=aAa T g;have v:=aMg T b q9 i n a;have E:=aSa T b q1 i a;have N:=aHu T po o;have U:=aJe (P:=P) (base:=base) T;have X:=aHy (P:=P) (base:=base) T;have I:Ok P w K mg base 1 "_law_home" ["_law_value_here","_law_houses"] aYk:=Ok.ofV T.aIq aGo (λ_ _ _ _ h=>h.elim) λ_ _ _ _ _ _ _ _ _ _ h=>h.elim;have r:=aDs T j I k;have x:=aAh T j k;have H:=aAd T (aDj T x) (aPz T b q8 n E (aL1 (P:=P) (w:=w) (mg:=mg) (base:=base) T b q3 n) (aXf T b q7 i n N U));exact bAj F T (aHw T) (aDx T l (aD7 T)) (uE T l (aGr T l) O q (OkM.make V (aQ7 T b q0 i y n Q))) (aFs T l) (aDo T r (aB1 T r x) v (aUn T b qb i y (OkM.make D (aS6 T c Z A W Q))) (aJo T b qa i y a S v N U) (aI0 T c m3 A a) (aQe T c m4 A a) (aU8 T c m6 A W a S)) (aGx T l q H (aVk T b q4 i a d X) (aR6 T b q5 i a d X)) (aS9 T b q6 y n L E (aRb (P:=P) (w:=w) (mg:=mg) (base:=base) T b q2 n))
def aRv {Pt:Addr}{H:Hp}{a:Addr}{e:List Int}{E:XK}(f:e.length<=63)(c:uQ [(Pt,qC)] H)(d:SqL K H a (e.map V.int)):aN9 K Pt [.ref a] H (λv H'=>v=.bl true/\uQ [(Pt,qC)] H') E:=
 ⟨a,e,rfl,d,f,c _ (List.mem_singleton.mpr rfl),λH' h=>⟨rfl,λp b=>by rcases List.mem_singleton.mp b with rfl;exact h⟩⟩
def aY0 {h:Heap}{Pt f c:Addr}{o:Obj}{e:FuncData}(X:K.In h)(G:h.Ns mainGlobals mg)(a:PySem.W.nsIn K mainGlobals "are_cuts"=some (some (.ref f)))(l:K.lookup f=some o)(g:o.data=.func e)(b:e.code=.ref c)(d:PySem.W.codeHdIn K c Pt=true):aSz K mg "are_cuts" Pt:=
 ⟨f,o,e,c,bCC X G a,l,g,b,d⟩
def aWo {Pt f c:Addr}{o:Obj}{fd:FuncData}(a:PySem.W.nsIn K mainGlobals "are_cuts"=some (some (.ref f)))(l:K.lookup f=some o)(e1:o.data=.func fd)(e2:fd.code=.ref c)(d:PySem.W.codeHdIn K c Pt=true)(n:K.lookup Pt=none) :
  ∀p∈[(Pt,qC)],(∃c,PySem.W.codeHdIn K c p.1=true)/\K.lookup p.1=none:=λp b=>by
 rcases List.mem_singleton.mp b with rfl;exact⟨⟨c,d⟩,n⟩
def aWw {Pt:Addr}{h:Heap}(x:∀P∈[Pt],h.get? P=some (PySem.W.tabObj #[])):∀p∈[(Pt,qC)],h.get? p.1=some { cls:=.none,data:=.fields #[] }:=λp a=>by rcases List.mem_singleton.mp a with rfl;exact x _ (List.mem_singleton.mpr rfl)
def aP7 {l:PySem.W.OpenLaw}{n k:Nat}{q:Program}{loose:List Str}{XP:(bFK)->Heap->Prop}{YP:World->Heap->Prop}{d:DefRec}{K:Params->bFH}{CX:CXT}{sp:bFH->Sp}{x:Str}
  (B:l.most=some n) (i:n<=sizeLine) (r:d.params.defaults=[]) (z:Room k callerA)
  (ts:List (Addr × Str)) (j:(ts.map (·.1)).Nodup)
  (y:∀(w:World) (h:Heap),YP w h->(K w.params).In h/\∀p∈ts,h.get? p.1=some { cls:=.none,data:=.fields #[] })
  (A:∀(w:World),∀p∈ts,(∃c,PySem.W.codeHdIn (K w.params) c p.1=true)/\(K w.params).lookup p.1=none)
  (F:∀(w:World) (mg:bFK) (fa:Addr) (h:Heap),(K w.params).In h->h.Ns mainGlobals mg->mg d.name=some (.ref fa) ->
   ∃fd:FuncData,(∀(s:Shared) (u:Value),BindsTo s fd ⟨[u],[]⟩ [(x,u)]) /\
    ∀base:Heap,(K w.params).In base->base.Ns mainGlobals mg->BM mg base->lX l.prog w (K w.params) mg base CX k fa fd [x] (sp (K w.params)))
  (m:∀(K:bFH) (H:Hp) (a:Addr) (ns:List Int),ns.length<=n->uQ ts H->SqL K H a (ns.map V.int)->sp K [.ref a] H (λv H'=>v=.bl true/\uQ ts H') λ_ _ _=>False)
  (t:∀(H:Hp) (s:Shared) (e:Value) (s':Shared),CX [] H s (λ_ _ _=>False) e s'->False) :
  PySem.W.WalkO q loose XP YP l.row.toRowW d [] (λf vs=>PySem.call f vs):=
 aSk (K:=K) (CX:=λ_=>CX) (sp:=λw=>sp (K w.params)) B i r z ts j y A F (λw H a ns o b g=>m (K w.params) H a ns o b g) λ_ H s e s'=>t H s e s'
end
inductive FA (K:bFH)(n:Str)(s:Stmt)(f:Addr):Prop
 |mk {od an:Option Addr} {sl:Array (Option Value)} {kV dc pm cd ct:Value}:PySem.W.nsIn K mainGlobals n=some (some (.ref f))->K.lookup f=some ⟨.type "function",od,.func (PySem.W.fnOf n n (nF s) (fC s) (aF s) .none kV dc pm an cd ct),sl⟩->PySem.W.codeIn K cd n=true->PySem.W.keepIn K (.ref f)=true->FA K n s f
section
variable {K:bFH}{h:Heap}{mg:bFK}{n:Str}{s:Stmt}{f:Addr}{ps:List Str}
def aYq (X:K.In h)(G:h.Ns mainGlobals mg)(a:FA K n s f):mg n=some (.ref f):=by obtain⟨a,_,_,_⟩:=a;exact bCC X G a
def bQ (X:K.In h)(G:h.Ns mainGlobals mg)(a:FA K n s f)(b:∀(kV doc pm:Value) (an:Option Addr) (cdv ct:Value) (us:List Value),us.length=ps.length->bindArgs (PySem.W.fnOf n n (nF s) (fC s) (aF s) .none kV doc pm an cdv ct) ⟨us,[]⟩=pure (ps.zip us)):Dn K mg n s ps:=by have m:=aYq X G a;obtain⟨_,l,c,k⟩:=a;exact⟨f,_,aHm l c k,(aHm l c k).binds b,m⟩
def bBp (X:K.In h)(G:h.Ns mainGlobals mg)(a:FA K n s f):∃f o,(∃u,mg n=some u/\RelV (.ref f) u)/\K.lookup f=some o/\o.cls=.type "function":=by have m:=aYq X G a;obtain⟨_,l,c,k⟩:=a;exact⟨f,_,⟨_,m,rfl⟩,l,rfl⟩
end
inductive CA (K:bFH)(x:Str)(C:Addr):Prop
 |mk:PySem.W.nsIn K mainGlobals x=some (some (.ref C))->PySem.W.plainGet K C Str.empty=true->PySem.W.hasDictIn K C=true->PySem.W.plainOver K C=true->PySem.W.findIn K (.ref C) "__setattr__"=some (some (.builtin "object.__setattr__"))->PySem.W.makesIn K C=true->PySem.W.keepIn K (.ref C)=true->CA K x C
def aYu {K:bFH}{h:Heap}{mg:bFK}{x:Str}{C:Addr}(X:K.In h)(G:h.Ns mainGlobals mg)(a:CA K x C):aVs K mg x C:=by obtain⟨a,d,b,e,f,g,c⟩:=a;exact⟨bCC X G a,⟨d,b,e,f⟩,g,c⟩
inductive MA (K:bFH)(C:Addr)(m qual:Str)(s:Stmt)(f:Addr):Prop
 |mk {od an:Option Addr} {sl:Array (Option Value)} {kV dc pm cd ct:Value}:PySem.W.findIn K (.ref C) m=some (some (.ref f))->PySem.W.isFn K (.ref f)=true->K.lookup f=some ⟨.type "function",od,.func (PySem.W.fnOf m qual (nF s) (fC s) (aF s) .none kV dc pm an cd ct),sl⟩->PySem.W.codeIn K cd qual=true->PySem.W.keepIn K (.ref f)=true->MA K C m qual s f
def lM {K:bFH}{C:Addr}{m qual:Str}{s:Stmt}{f:Addr}{ps:List Str}(a:MA K C m qual s f)(b:∀(kV doc pm:Value) (an:Option Addr) (cdv ct:Value) (us:List Value),us.length=ps.length->bindArgs (PySem.W.fnOf m qual (nF s) (fC s) (aF s) .none kV doc pm an cdv ct) ⟨us,[]⟩=pure (ps.zip us)):fU K C m qual s ps:=by obtain⟨a,i,l,c,k⟩:=a;exact⟨f,_,⟨a,i,k⟩,aHm l c k,(aHm l c k).binds b⟩
theorem ln0 {P:List Value->Prop}(h:P []):∀us:List Value,us.length=0->P us
 |[],_=>h
theorem ln1 {P:List Value->Prop}(h:∀a0,P [a0]):∀us:List Value,us.length=1->P us
 |[a0],_=>h a0
theorem ln2 {P:List Value->Prop}(h:∀a0 a1,P [a0,a1]):∀us:List Value,us.length=2->P us
 |[a0,a1],_=>h a0 a1
theorem ln3 {P:List Value->Prop}(h:∀a0 a1 a2,P [a0,a1,a2]):∀us:List Value,us.length=3->P us
 |[a0,a1,a2],_=>h a0 a1 a2
theorem ln4 {P:List Value->Prop}(h:∀a0 a1 a2 a3,P [a0,a1,a2,a3]):∀us:List Value,us.length=4->P us
 |[a0,a1,a2,a3],_=>h a0 a1 a2 a3
theorem ln5 {P:List Value->Prop}(h:∀a0 a1 a2 a3 a4,P [a0,a1,a2,a3,a4]):∀us:List Value,us.length=5->P us
 |[a0,a1,a2,a3,a4],_=>h a0 a1 a2 a3 a4
theorem ln6 {P:List Value->Prop}(h:∀a0 a1 a2 a3 a4 a5,P [a0,a1,a2,a3,a4,a5]):∀us:List Value,us.length=6->P us
 |[a0,a1,a2,a3,a4,a5],_=>h a0 a1 a2 a3 a4 a5
local macro_rules
 |`(tactic| trivial)=>`(tactic| first|exact (λ_ _ _ _ _ _=>ln1 λ_=>rfl)|exact (λ_ _ _ _ _ _=>ln2 λ_ _=>rfl)|exact (λ_ _ _ _ _ _=>ln3 λ_ _ _=>rfl)|exact (λ_ _ _ _ _ _=>ln4 λ_ _ _ _=>rfl)|exact (λ_ _ _ _ _ _=>ln0 rfl)|exact (λ_ _ _ _ _ _=>ln5 λ_ _ _ _ _=>rfl)|exact (λ_ _ _ _ _ _=>ln6 λ_ _ _ _ _ _=>rfl))
def bBe {K:bFH}{h:Heap}{mg:bFK}(X:K.In h)(G:h.Ns mainGlobals mg){w:World}{f0 f1 f2 f3 f4 f5 f6 f7 f8 f9 f10 f11 f12 f13 f14 f15 f16 f17 f18 f19 f20 f21 f22 f23 f24 f25 f26 f27 f28 f29 f34 f35 f36 f49 f50 f51 f52 f53 f54 f55 f56 f57 f58 f59 f60 f61 f62 f63 f64 f65 f66 f67 f68 f69:Addr}{nJ:Addr}{fB:Obj}{nQ:Array Value}{wX:Nat}{aNd:Tok}{aIg:Addr}{wY:Obj}{aIn:Array Value}{aSw:Nat}{aAi:Tok}{aAn:Tok}{aH4:Tok}{aBq:Tok}{aFv:Tok}{b:Addr}{g0 g1 g2 g3:Addr}{a:Addr}{g4 g5 g6 g7 g8 g9 g10 g11 g12 g13 g14 g15:Addr}
  (a0:FA K "is_whole" vB f0)
  (a1:FA K "is_number_below" jC f1)
  (a2:FA K "is_word" zN f2)
  (a3:FA K "is_one_of" rJ f3)
  (a4:FA K "is_tuple_of" gH f4)
  (a5:FA K "are_unlike" qM f5)
  (a6:FA K "names_of" vM f6)
  (a7:FA K "is_name" yI f7)
  (a8:FA K "is_value" vW f8)
  (a9:FA K "kind_of" yK f9)
  (al:FA K "is_value_of" oH f10)
  (d:FA K "is_column" sJ f11)
  (ae:FA K "is_head" zP f12)
  (O:FA K "is_row" aBu f13)
  (Y:FA K "word_number" oO f14)
  (u:FA K "home" aNj f15)
  (A:FA K "kind_in" yE f16)
  (T:FA K "place_of" uW f17)
  (I:FA K "is_cut" aCs f18)
  (t:FA K "are_cuts" qN f19)
  (i:FA K "is_column_in" mK f20)
  (Z:FA K "is_placing" pP f21)
  (C:FA K "are_rows" pN f22)
  (y:FA K "is_table" uU f23)
  (an:FA K "need_town" sH f24)
  (r:FA K "placed_tables" lK f25)
  (g:FA K "table_in" vI f26)
  (S:FA K "cut_of" aC1 f27)
  (ab:FA K "stands_at" rQ f28)
  (ao:FA K "rows_at" tW f29)
  (x:FA K "with_rows" sZ f34)
  (D:FA K "span_rows" nO f35)
  (ac:FA K "is_above" uV f36)
  (ap:FA K "_law_seed" tQ f49)
  (j:FA K "_law_next" qW f50)
  (m:FA K "_law_words" pK f51)
  (af:FA K "_law_names" lO f52)
  (z:FA K "_law_great" pQ f53)
  (ak:FA K "_law_value" qG f54)
  (B:FA K "_law_head" tR f55)
  (ah:FA K "_law_row" qI f56)
  (am:FA K "_law_home" rM f57)
  (n:FA K "_law_span" nU f58)
  (p:FA K "_law_spot" rW f59)
  (Q:FA K "_law_stood" iQ f60)
  (s:FA K "_law_of_span" jA f61)
  (M:FA K "_law_stands" kY f62)
  (P:FA K "_law_spans_begun" dD f63)
  (o:FA K "_law_lent" sW f64)
  (L:FA K "_law_above" mC f65)
  (R:FA K "_law_right" pJ f66)
  (J:FA K "_law_carried" jF f67)
  (k:FA K "_law_deed" tE f68)
  (ag:FA K "law" aOy f69)
  (q0:PySem.W.nsIn K mainGlobals "QUESTION_WORDS"=some (some (.ref nJ))) (r0:K.lookup nJ=some fB) (t0:fB.cls=.type "tuple") (y0:fB.dict=none) (u0:fB.data=.seq nQ wX) (v0:Vals [.str "and",.str "by",.str "count",.str "down",.str "first",.str "group",.str "join",.str "keep",.str "least",.str "most",.str "named",.str "on",.str "sum",.str "table",.str "up",.str "where",.str "with"] nQ.toList)
  (q1:PySem.W.nsIn K mainGlobals "LETTERS"=some (some (.str "abcdefghijklmnopqrstuvwxyz" aNd)))
  (q2:PySem.W.nsIn K mainGlobals "KINDS"=some (some (.ref aIg))) (r2:K.lookup aIg=some wY) (t2:wY.cls=.type "tuple") (y2:wY.dict=none) (u2:wY.data=.seq aIn aSw) (E:Vals [.str "number",.str "word"] aIn.toList)
  (q3:PySem.W.nsIn K mainGlobals "MOST_LETTERS"=some (some (.int 8 aAi)))
  (q4:PySem.W.nsIn K mainGlobals "MOST_COLUMNS"=some (some (.int 8 aAn)))
  (q5:PySem.W.nsIn K mainGlobals "WORD_BASE"=some (some (.int 27 aH4)))
  (q6:PySem.W.nsIn K mainGlobals "MOST_HOUSES"=some (some (.int 6 aBq)))
  (q7:PySem.W.nsIn K mainGlobals "MOST_CUTS"=some (some (.int 8 aFv)))
  (z0:PySem.W.nsIn K mainGlobals "ValueError"=some none)
  (z1:PySem.W.nsIn K mainGlobals "all"=some none)
  (z2:PySem.W.nsIn K mainGlobals "any"=some none)
  (z3:PySem.W.nsIn K mainGlobals "bool"=some none)
  (z4:PySem.W.nsIn K mainGlobals "dict"=some none)
  (z5:PySem.W.nsIn K mainGlobals "enumerate"=some none)
  (z6:PySem.W.nsIn K mainGlobals "int"=some none)
  (z7:PySem.W.nsIn K mainGlobals "isinstance"=some none)
  (z8:PySem.W.nsIn K mainGlobals "len"=some none)
  (z9:PySem.W.nsIn K mainGlobals "list"=some none)
  (U:PySem.W.nsIn K mainGlobals "max"=some none)
  (aj:PySem.W.nsIn K mainGlobals "range"=some none)
  (ad:PySem.W.nsIn K mainGlobals "set"=some none)
  (q:PySem.W.nsIn K mainGlobals "sorted"=some none)
  (l:PySem.W.nsIn K mainGlobals "str"=some none)
  (F:PySem.W.nsIn K mainGlobals "tuple"=some none)
  (aq:PySem.W.nsIn K mainGlobals "zip"=some none)
  (f:CA K "Town" b)
  (b0:MA K b "__init__" "Town.__init__" gZ g0)
  (b1:MA K b "placing" "Town.placing" jG g1)
  (b2:MA K b "whole" "Town.whole" lZ g2)
  (b3:MA K b "part" "Town.part" nY g3)
  (d0:bI K b "placed")
  (d1:bI K b "house_count")
  (c:CA K "Store" a)
  (b4:MA K a "__init__" "Store.__init__" gA g4)
  (b5:MA K a "cut_table" "Store.cut_table" fH g5)
  (b6:MA K a "need_still" "Store.need_still" dY g6)
  (b7:MA K a "move_of" "Store.move_of" iC g7)
  (b8:MA K a "put" "Store.put" nC g8)
  (b9:MA K a "drop" "Store.drop" lV g9)
  (ai:MA K a "lend" "Store.lend" lQ g10)
  (N:MA K a "rows_to_come" "Store.rows_to_come" cT g11)
  (aa:MA K a "carry" "Store.carry" kZ g12)
  (V:MA K a "moving" "Store.moving" iT g13)
  (ar:MA K a "stands" "Store.stands" fJ g14)
  (v:MA K a "town" "Store.town" mF g15)
  (d2:bI K a "placed")
  (d3:bI K a "house_count")
  (d4:bI K a "moves"):Txt w K mg:=
 ⟨bAQ X G z0,
  bAQ X G z1,
  bAQ X G z2,
  bAQ X G z3,
  bAQ X G z4,
  bAQ X G z5,
  bAQ X G z6,
  bAQ X G z7,
  bAQ X G z8,
  bAQ X G z9,
  bAQ X G U,
  bAQ X G aj,
  bAQ X G ad,
  bAQ X G q,
  bAQ X G l,
  bAQ X G F,
  bAQ X G aq,
  ⟨_,bCC X G q0,λH=>.inr ⟨_,_,_,r0,t0,y0,u0,by have e:=v0.length;simp only[t8] at e;rw[<-e];exact small (by decide),v0⟩⟩,
  ⟨_,bCC X G q1,_,rfl⟩,
  ⟨_,bCC X G q2,λH=>.inr ⟨_,_,_,r2,t2,y2,u2,by have e:=E.length;simp only[t8] at e;rw[<-e];exact small (by decide),E⟩⟩,
  ⟨_,bCC X G q3,_,rfl⟩,
  ⟨_,bCC X G q4,_,rfl⟩,
  ⟨_,bCC X G q5,_,rfl⟩,
  ⟨_,bCC X G q6,_,rfl⟩,
  ⟨_,bCC X G q7,_,rfl⟩,
  bBp X G d,
  bQ X G a0 (by trivial),
  bQ X G a1 (by trivial),
  bQ X G a2 (by trivial),
  bQ X G a3 (by trivial),
  bQ X G a4 (by trivial),
  bQ X G a5 (by trivial),
  bQ X G a6 (by trivial),
  bQ X G a7 (by trivial),
  bQ X G a8 (by trivial),
  bQ X G a9 (by trivial),
  bQ X G al (by trivial),
  bQ X G d (by trivial),
  bQ X G ae (by trivial),
  bQ X G O (by trivial),
  bQ X G Y (by trivial),
  bQ X G u (by trivial),
  bQ X G A (by trivial),
  bQ X G T (by trivial),
  bQ X G I (by trivial),
  bQ X G t (by trivial),
  bQ X G i (by trivial),
  bQ X G Z (by trivial),
  bQ X G C (by trivial),
  bQ X G y (by trivial),
  bQ X G an (by trivial),
  bQ X G r (by trivial),
  bQ X G g (by trivial),
  bQ X G S (by trivial),
  bQ X G ab (by trivial),
  bQ X G ao (by trivial),
  bQ X G x (by trivial),
  bQ X G D (by trivial),
  bQ X G ac (by trivial),
  bQ X G ap (by trivial),
  bQ X G j (by trivial),
  bQ X G m (by trivial),
  bQ X G af (by trivial),
  bQ X G z (by trivial),
  bQ X G ak (by trivial),
  bQ X G B (by trivial),
  bQ X G ah (by trivial),
  bQ X G am (by trivial),
  bQ X G n (by trivial),
  bQ X G p (by trivial),
  bQ X G Q (by trivial),
  bQ X G s (by trivial),
  bQ X G M (by trivial),
  bQ X G P (by trivial),
  bQ X G o (by trivial),
  bQ X G L (by trivial),
  bQ X G R (by trivial),
  bQ X G J (by trivial),
  bQ X G k (by trivial),
  bQ X G ag (by trivial),
  ⟨b,aYu X G f,lM b0 (by trivial),lM b1 (by trivial),lM b2 (by trivial),lM b3 (by trivial),d0,d1⟩,
  ⟨a,aYu X G c,lM b4 (by trivial),lM b5 (by trivial),lM b6 (by trivial),lM b7 (by trivial),lM b8 (by trivial),lM b9 (by trivial),lM ai (by trivial),lM N (by trivial),lM aa (by trivial),lM V (by trivial),lM ar (by trivial),lM v (by trivial),d2,d3,d4⟩⟩
end My
open PySem PySem.W PyProof.Rows
namespace PySem.W.Fast
def tw5392411452605710493:=0
def tw17614143472502709984:=0
def tw4445711330975770033:=0
def tw14678666518592015326:=0
def tw1329156551836078311:=0
def tw16463444787631420750:=0
def tw10336233672009049125:=0
def tw17164780607708970030:=0
def tw9394233720286330066:=0
def tw15203481495116794958:=0
def tw3567461877721390212:=0
def tw4567237155166402311:=0
def tw2358041571512137804:=0
def tw8316506899794206336:=0
def tw16502681944321384124:=0
def tw13084374570697628469:=0
def tw9693747181723426041:=0
def tw3556570850065471901:=0
def tw15348112499259296267:=0
def tw14042594965407812225:=0
def tw9852308781560700533:=0
def tw9014354960026131578:=0
def tw1458656310454519079:=0
def tw5290647901002308357:=0
def tw12382819091033703698:=0
def tw3854360191221915552:=0
def tw7555447436300771001:=0
def tw6934037868755828568:=0
def tw16854098689664488701:=0
def tw16677360194472232896:=0
def tw15328327837948751031:=0
def tw1013782923475077686:=0
def tw1592370850473688055:=0
def tw13720886545575085427:=0
def tw2779243519158476989:=0
def tw5022372408076179144:=0
def tw6556620284682090559:=0
def tw968662901057798690:=0
def tw15361223980456087998:=0
def tw18051054143147615862:=0
def tw15266119105533592975:=0
def tw17514355525220386423:=0
def tw5616652772299519865:=0
def tw1912186138821009899:=0
def tw7714508751522845426:=0
def tw11663322194175056387:=0
def tw611293661641805012:=0
def tw3847367156354229877:=0
def tw5277186807375364583:=0
def tw17626613110059806345:=0
def tw14860784523081022368:=0
def tw3396810968550198819:=0
def tw11006930498872877276:=0
def tw6194304755161751016:=0
def tw5608952502682338569:=0
def tw15520601466283751771:=0
def tw6731119916682900551:=0
def tw4844216094386909916:=0
def tw7528806017393460735:=0
def tw10162672492556534335:=0
def tw747351868712575465:=0
def tw6068826075416813014:=0
def tw4562164076215291794:=0
def tw7690621851458605836:=0
def tw6058246814943410638:=0
def tw4413399746174377938:=0
def tw9192655838294917621:=0
def tw16423365421126150438:=0
def tw7908225876859081302:=0
def tw6866719785083159348:=0
def tw13731929872983330983:=0
def tw11162388077624114012:=0
def tw8871585946379701503:=0
def tw15063886147412436467:=0
def tw10714081542658734036:=0
def tw8867005359747545203:=0
def tw18121955035155212441:=0
def tw9547174577719184031:=0
def tw6387332208606354945:=0
def tw5400809332361722484:=0
def tw1856423398884128938:=0
def tw15187858010114617104:=0
def tw10284578012753283731:=0
def tw3381442758509242021:=0
def tw5170568254616183080:=0
def tw11826061545179706705:=0
def tw12651730852506750336:=0
def tw1842474650201006596:=0
def tw17432314275829725804:=0
def tw14473360643680219329:=0
def tw10931519599208654540:=0
def tw6310826113642744748:=0
def tw4715859614932337796:=0
def tw13971220542410602333:=0
def tw12812959789728372752:=0
def tw6955574620189245220:=0
def tw3078632018883309211:=0
def tw16702586913465194808:=0
def tw17187090908361668834:=0
def tw5631341691347311461:=0
def tw17740810464512993814:=0
def tw7379961129609354765:=0
def tw9218522164696830837:=0
def tw1556513275020472991:=0
def tw12667283811015841164:=0
def tw8310236960381465807:=0
def tw12797365397157949612:=0
def tw8134459156730352195:=0
def tw11386938739629500179:=0
def tw16595153900182953650:=0
def tw8232044809055200227:=0
def tw13631394592207916608:=0
def tw3441800321900642770:=0
def tw2271951577300258022:=0
def tw11718681556290771274:=0
def tw16441910432006762789:=0
def tw2242043589481147918:=0
def tw8064240133650117532:=0
def tw12106187510245791317:=0
def tw7619174164698000767:=0
def tw4769057340247481503:=0
def tw3481599424472628663:=0
def tw15539186377665245283:=0
def tw8933750175809292068:=0
def tw3416977661639616673:=0
def tw13094176205196428036:=0
def tw8769713976819970752:=0
def tw16250720507686558548:=0
def tw1303057286272248445:=0
def tw4937122326087799136:=0
def tw16224079930128707917:=0
def tw14496625827150932567:=0
def tw13242450353963752194:=0
def tw10483142304722128736:=0
def tw4359835833788308254:=0
def tw13220912396575072700:=0
def tw611578853736039561:=0
def tw2654773668516405541:=0
def tw11306415305711371243:=0
def tw3712732918985538130:=0
def tw18149333291474022101:=0
def tw463769490792616176:=0
def tw17075193192763077375:=0
def tw16482152472848496077:=0
def tw17271202068734953479:=0
def tw4603709803213717194:=0
def tw18170425443235000135:=0
def tw13927302174130042884:=0
def tw8373604232546455232:=0
def tw16458734866966613870:=0
def tw2574646248107567341:=0
def tw14041155086202446347:=0
def tw6822594502251503930:=0
def tw13675477373053223167:=0
def tw16587293231446219139:=0
def tw14929529971453359260:=0
def tw14173784144921293730:=0
def tw3754686833475923912:=0
def tw3878777805854912774:=0
def tw469223594482451364:=0
def tw16384692313409127881:=0
def tw3251409553978507309:=0
def tw4210137623099919051:=0
def tw11677821874015382966:=0
def tw8203734102857916484:=0
def tw6559380552362695150:=0
def tw9283123882919837906:=0
def tw7319145775038212154:=0
def tw16756835497187373443:=0
def tw13068756690047732961:=0
def tw7932191296442887392:=0
def tw7770183985654891344:=0
def tw4989511767252508309:=0
def tw16276736459198266039:=0
def tw3201596937053619909:=0
def tw2081958504451273333:=0
def tw17231194115980705548:=0
def tw6433162873086934986:=0
def tw4628917185664567424:=0
def tw1804677957750701894:=0
def tw10837552530262557021:=0
def tw2317792426018391031:=0
def tw3888577478607430447:=0
def tw6306152448078186357:=0
def tw16280909572942414652:=0
def tw7996695399873554825:=0
def tw11944987215395664794:=0
def tw18280687690403648061:=0
def tw15785187846808675575:=0
def tw11211846193772492724:=0
def tw9799270050066250025:=0
def tw2986170428480611268:=0
def tw11167650360565155432:=0
def tw3230924813281400084:=0
def tw1994354445624226471:=0
def tw4751510767642620256:=0
def tw16974708535910717070:=0
def tw209987123247360171:=0
def tw7569117516452535029:=0
def tw16806939479558550288:=0
def tw2637385142874869618:=0
def tw5689817356588333205:=0
def tw3759531128571663008:=0
def tw11970493171391264373:=0
def tw14584328084123478804:=0
def tw3997551229388013613:=0
def tw12001788178328756818:=0
def tw16157980149360643578:=0
def tw11295203484136140871:=0
def tw10648801967601169898:=0
def tw10479624285832513558:=0
def tw17656772248442871113:=0
def tw10159688871052631744:=0
def tw14519737244874066647:=0
def tw8259095708617449356:=0
def tw14212996826803821170:=0
def tw12049975063061908087:=0
def tw11983722478667971698:=0
def tw10525233033993257872:=0
def tw1572271802379481523:=0
def tw4884738927409287232:=0
def tw8255796144063688177:=0
def tw17497459757019581674:=0
def tw15670567639999790512:=0
def tw11693998932460806681:=0
def tw18234574722611794183:=0
def tw10384333715783761005:=0
def tw17918284107323002851:=0
def tw18086883657528854324:=0
def tw11744567531981165140:=0
def tw10368043667280658748:=0
def tw15470801784880856366:=0
def tw3012979564138825170:=0
def tw14044555005757011278:=0
def tw17914601317794897807:=0
def tw3623578781150064343:=0
def tw10943530161120482283:=0
def tw3209172653906905142:=0
def tw7498287249823167619:=0
def tw399681026470775235:=0
def tw2323509197949278877:=0
def tw17488179503040529193:=0
def tw14595616576204178752:=0
def tw13916386737139784061:=0
def tw10032140099786537570:=0
def tw4119340278215230129:=0
def tw14837360831261238552:=0
def tw13990419373758400140:=0
def tw15192989629231138658:=0
def tw6141445161786136030:=0
def tw11498460663826515125:=0
def tw8031375551242024280:=0
def tw7689072728683558333:=0
def tw12055950556067928858:=0
def tw16571773836444075960:=0
def tw1208428604132477676:=0
def tw1019471199017282371:=0
def tw14278721515347968379:=0
def tw8715599942291022531:=0
def tw14385509146885126172:=0
def tw15738627232606545500:=0
def tw12449866024066853660:=0
def tw457946945981839757:=0
def tw3967746655085502608:=0
def tw504832259825288904:=0
def tw10962177998125230778:=0
def tw13760095244384065487:=0
def tw5695655177857682069:=0
def tw11945795250479897762:=0
def tw1768354114080640609:=0
def tw15685862170716040859:=0
def tw12012223079788742837:=0
def tw7991823533444638038:=0
def tw10164567771012862026:=0
def tw808050189166689197:=0
def tw14298951389690233004:=0
def tw12782344316398410984:=0
def tw11126140496882186196:=0
def tw3360300072696633495:=0
def tw16626126363042704193:=0
def tw14867951143849976920:=0
def tw10121608962981540890:=0
def tw15345664110988163414:=0
def tw1260314174827055380:=0
def tw8044187049811251304:=0
def tw1621880603904346465:=0
def tw15260227424497560883:=0
def tw11159279508691469657:=0
def tw5067354036059975975:=0
def tw16208011410434248949:=0
def tw13455545259303329829:=0
def tw1956996994742007650:=0
def tw14093554699456413252:=0
def tw9867334379390874639:=0
def tw5610425946986573554:=0
def tw16521545553052993152:=0
def tw15887976913778528067:=0
def tw15655096806523338464:=0
def tw13758246792476127476:=0
def tw9464355985127160146:=0
end PySem.W.Fast
set_option maxRecDepth 100000 in
set_option maxHeartbeats 0 in
theorem PySem.Challenge.cw_shardask_k63_while_moving_holds : PySem.Challenge.rw_shardask_k63_while_moving.Holds := by
 w_on;o_law;k_head;(case hw=>w_witness2)
 k_fill
 refine My.aP7 (l:=PySem.Challenge.rw_shardask_k63_while_moving) (n:=63) (k:=15) (x:="_law_script") (CX:=L2.CX0) (sp:=fun K=>My.aN9 K 266) rfl (by decide) rfl ⟨rfl,by decide,by decide⟩ [(266,My.qC)] (by decide) (fun w h Y=>⟨PySem.W.km_in_of Y,My.aWw (PySem.W.km_tabs_of Y)⟩) ?C ?F (fun K H a ns hl hO hS=>My.aRv hl hO hS) (fun _ _ _ _ z=>z)
 case C=>
  intro w
  refine' My.aWo ?a ?l ?e1 ?e2 ?h ?n
  (case a=>k_is)
  (case l=>k_is)
  (case e1=>rfl)
  (case e2=>rfl)
  (case h=>first|k_is|kernel_rfl|decide +kernel)
  (case n=>first|k_is|kernel_rfl|decide +kernel)
 case F=>
  intro w mg fa h KX G hmg
  have T:My.Txt w (L2.KOf KX) mg:=by
   dsimp only [L2.KOf]
   refine' My.bBe KX G ?a0 ?a1 ?a2 ?a3 ?a4 ?a5 ?a6 ?a7 ?a8 ?a9 ?a10 ?a11 ?a12 ?a13 ?a14 ?a15 ?a16 ?a17 ?a18 ?a19 ?a20 ?a21 ?a22 ?a23 ?a24 ?a25 ?a26 ?a27 ?a28 ?a29 ?a34 ?a35 ?a36 ?a49 ?a50 ?a51 ?a52 ?a53 ?a54 ?a55 ?a56 ?a57 ?a58 ?a59 ?a60 ?a61 ?a62 ?a63 ?a64 ?a65 ?a66 ?a67 ?a68 ?a69 ?q0 ?r0 ?t0 ?y0 ?u0 ?v0 ?q1 ?q2 ?r2 ?t2 ?y2 ?u2 ?v2 ?q3 ?q4 ?q5 ?q6 ?q7 ?z0 ?z1 ?z2 ?z3 ?z4 ?z5 ?z6 ?z7 ?z8 ?z9 ?z10 ?z11 ?z12 ?z13 ?z14 ?z15 ?z16 ?eTown ?b0 ?b1 ?b2 ?b3 ?d0 ?d1 ?eStore ?b4 ?b5 ?b6 ?b7 ?b8 ?b9 ?b10 ?b11 ?b12 ?b13 ?b14 ?b15 ?d2 ?d3 ?d4
   (case a0=>(refine' My.FA.mk ?j0 ?l0 ?c0 ?k0);(case j0=>k_is);(case l0=>k_is);(case c0=>k_is);(case k0=>k_is))
   (case a1=>(refine' My.FA.mk ?j1 ?l1 ?c1 ?k1);(case j1=>k_is);(case l1=>k_is);(case c1=>k_is);(case k1=>k_is))
   (case a2=>(refine' My.FA.mk ?j2 ?l2 ?c2 ?k2);(case j2=>k_is);(case l2=>k_is);(case c2=>k_is);(case k2=>k_is))
   (case a3=>(refine' My.FA.mk ?j3 ?l3 ?c3 ?k3);(case j3=>k_is);(case l3=>k_is);(case c3=>k_is);(case k3=>k_is))
   (case a4=>(refine' My.FA.mk ?j4 ?l4 ?c4 ?k4);(case j4=>k_is);(case l4=>k_is);(case c4=>k_is);(case k4=>k_is))
   (case a5=>(refine' My.FA.mk ?j5 ?l5 ?c5 ?k5);(case j5=>k_is);(case l5=>k_is);(case c5=>k_is);(case k5=>k_is))
   (case a6=>(refine' My.FA.mk ?j6 ?l6 ?c6 ?k6);(case j6=>k_is);(case l6=>k_is);(case c6=>k_is);(case k6=>k_is))
   (case a7=>(refine' My.FA.mk ?j7 ?l7 ?c7 ?k7);(case j7=>k_is);(case l7=>k_is);(case c7=>k_is);(case k7=>k_is))
   (case a8=>(refine' My.FA.mk ?j8 ?l8 ?c8 ?k8);(case j8=>k_is);(case l8=>k_is);(case c8=>k_is);(case k8=>k_is))
   (case a9=>(refine' My.FA.mk ?j9 ?l9 ?c9 ?k9);(case j9=>k_is);(case l9=>k_is);(case c9=>k_is);(case k9=>k_is))
   (case a10=>(refine' My.FA.mk ?j10 ?l10 ?c10 ?k10);(case j10=>k_is);(case l10=>k_is);(case c10=>k_is);(case k10=>k_is))
   (case a11=>(refine' My.FA.mk ?j11 ?l11 ?c11 ?k11);(case j11=>k_is);(case l11=>k_is);(case c11=>k_is);(case k11=>k_is))
   (case a12=>(refine' My.FA.mk ?j12 ?l12 ?c12 ?k12);(case j12=>k_is);(case l12=>k_is);(case c12=>k_is);(case k12=>k_is))
   (case a13=>(refine' My.FA.mk ?j13 ?l13 ?c13 ?k13);(case j13=>k_is);(case l13=>k_is);(case c13=>k_is);(case k13=>k_is))
   (case a14=>(refine' My.FA.mk ?j14 ?l14 ?c14 ?k14);(case j14=>k_is);(case l14=>k_is);(case c14=>k_is);(case k14=>k_is))
   (case a15=>(refine' My.FA.mk ?j15 ?l15 ?c15 ?k15);(case j15=>k_is);(case l15=>k_is);(case c15=>k_is);(case k15=>k_is))
   (case a16=>(refine' My.FA.mk ?j16 ?l16 ?c16 ?k16);(case j16=>k_is);(case l16=>k_is);(case c16=>k_is);(case k16=>k_is))
   (case a17=>(refine' My.FA.mk ?j17 ?l17 ?c17 ?k17);(case j17=>k_is);(case l17=>k_is);(case c17=>k_is);(case k17=>k_is))
   (case a18=>(refine' My.FA.mk ?j18 ?l18 ?c18 ?k18);(case j18=>k_is);(case l18=>k_is);(case c18=>k_is);(case k18=>k_is))
   (case a19=>(refine' My.FA.mk ?j19 ?l19 ?c19 ?k19);(case j19=>k_is);(case l19=>k_is);(case c19=>k_is);(case k19=>k_is))
   (case a20=>(refine' My.FA.mk ?j20 ?l20 ?c20 ?k20);(case j20=>k_is);(case l20=>k_is);(case c20=>k_is);(case k20=>k_is))
   (case a21=>(refine' My.FA.mk ?j21 ?l21 ?c21 ?k21);(case j21=>k_is);(case l21=>k_is);(case c21=>k_is);(case k21=>k_is))
   (case a22=>(refine' My.FA.mk ?j22 ?l22 ?c22 ?k22);(case j22=>k_is);(case l22=>k_is);(case c22=>k_is);(case k22=>k_is))
   (case a23=>(refine' My.FA.mk ?j23 ?l23 ?c23 ?k23);(case j23=>k_is);(case l23=>k_is);(case c23=>k_is);(case k23=>k_is))
   (case a24=>(refine' My.FA.mk ?j24 ?l24 ?c24 ?k24);(case j24=>k_is);(case l24=>k_is);(case c24=>k_is);(case k24=>k_is))
   (case a25=>(refine' My.FA.mk ?j25 ?l25 ?c25 ?k25);(case j25=>k_is);(case l25=>k_is);(case c25=>k_is);(case k25=>k_is))
   (case a26=>(refine' My.FA.mk ?j26 ?l26 ?c26 ?k26);(case j26=>k_is);(case l26=>k_is);(case c26=>k_is);(case k26=>k_is))
   (case a27=>(refine' My.FA.mk ?j27 ?l27 ?c27 ?k27);(case j27=>k_is);(case l27=>k_is);(case c27=>k_is);(case k27=>k_is))
   (case a28=>(refine' My.FA.mk ?j28 ?l28 ?c28 ?k28);(case j28=>k_is);(case l28=>k_is);(case c28=>k_is);(case k28=>k_is))
   (case a29=>(refine' My.FA.mk ?j29 ?l29 ?c29 ?k29);(case j29=>k_is);(case l29=>k_is);(case c29=>k_is);(case k29=>k_is))
   (case a34=>(refine' My.FA.mk ?j34 ?l34 ?c34 ?k34);(case j34=>k_is);(case l34=>k_is);(case c34=>k_is);(case k34=>k_is))
   (case a35=>(refine' My.FA.mk ?j35 ?l35 ?c35 ?k35);(case j35=>k_is);(case l35=>k_is);(case c35=>k_is);(case k35=>k_is))
   (case a36=>(refine' My.FA.mk ?j36 ?l36 ?c36 ?k36);(case j36=>k_is);(case l36=>k_is);(case c36=>k_is);(case k36=>k_is))
   (case a49=>(refine' My.FA.mk ?j49 ?l49 ?c49 ?k49);(case j49=>k_is);(case l49=>k_is);(case c49=>k_is);(case k49=>k_is))
   (case a50=>(refine' My.FA.mk ?j50 ?l50 ?c50 ?k50);(case j50=>k_is);(case l50=>k_is);(case c50=>k_is);(case k50=>k_is))
   (case a51=>(refine' My.FA.mk ?j51 ?l51 ?c51 ?k51);(case j51=>k_is);(case l51=>k_is);(case c51=>k_is);(case k51=>k_is))
   (case a52=>(refine' My.FA.mk ?j52 ?l52 ?c52 ?k52);(case j52=>k_is);(case l52=>k_is);(case c52=>k_is);(case k52=>k_is))
   (case a53=>(refine' My.FA.mk ?j53 ?l53 ?c53 ?k53);(case j53=>k_is);(case l53=>k_is);(case c53=>k_is);(case k53=>k_is))
   (case a54=>(refine' My.FA.mk ?j54 ?l54 ?c54 ?k54);(case j54=>k_is);(case l54=>k_is);(case c54=>k_is);(case k54=>k_is))
   (case a55=>(refine' My.FA.mk ?j55 ?l55 ?c55 ?k55);(case j55=>k_is);(case l55=>k_is);(case c55=>k_is);(case k55=>k_is))
   (case a56=>(refine' My.FA.mk ?j56 ?l56 ?c56 ?k56);(case j56=>k_is);(case l56=>k_is);(case c56=>k_is);(case k56=>k_is))
   (case a57=>(refine' My.FA.mk ?j57 ?l57 ?c57 ?k57);(case j57=>k_is);(case l57=>k_is);(case c57=>k_is);(case k57=>k_is))
   (case a58=>(refine' My.FA.mk ?j58 ?l58 ?c58 ?k58);(case j58=>k_is);(case l58=>k_is);(case c58=>k_is);(case k58=>k_is))
   (case a59=>(refine' My.FA.mk ?j59 ?l59 ?c59 ?k59);(case j59=>k_is);(case l59=>k_is);(case c59=>k_is);(case k59=>k_is))
   (case a60=>(refine' My.FA.mk ?j60 ?l60 ?c60 ?k60);(case j60=>k_is);(case l60=>k_is);(case c60=>k_is);(case k60=>k_is))
   (case a61=>(refine' My.FA.mk ?j61 ?l61 ?c61 ?k61);(case j61=>k_is);(case l61=>k_is);(case c61=>k_is);(case k61=>k_is))
   (case a62=>(refine' My.FA.mk ?j62 ?l62 ?c62 ?k62);(case j62=>k_is);(case l62=>k_is);(case c62=>k_is);(case k62=>k_is))
   (case a63=>(refine' My.FA.mk ?j63 ?l63 ?c63 ?k63);(case j63=>k_is);(case l63=>k_is);(case c63=>k_is);(case k63=>k_is))
   (case a64=>(refine' My.FA.mk ?j64 ?l64 ?c64 ?k64);(case j64=>k_is);(case l64=>k_is);(case c64=>k_is);(case k64=>k_is))
   (case a65=>(refine' My.FA.mk ?j65 ?l65 ?c65 ?k65);(case j65=>k_is);(case l65=>k_is);(case c65=>k_is);(case k65=>k_is))
   (case a66=>(refine' My.FA.mk ?j66 ?l66 ?c66 ?k66);(case j66=>k_is);(case l66=>k_is);(case c66=>k_is);(case k66=>k_is))
   (case a67=>(refine' My.FA.mk ?j67 ?l67 ?c67 ?k67);(case j67=>k_is);(case l67=>k_is);(case c67=>k_is);(case k67=>k_is))
   (case a68=>(refine' My.FA.mk ?j68 ?l68 ?c68 ?k68);(case j68=>k_is);(case l68=>k_is);(case c68=>k_is);(case k68=>k_is))
   (case a69=>(refine' My.FA.mk ?j69 ?l69 ?c69 ?k69);(case j69=>k_is);(case l69=>k_is);(case c69=>k_is);(case k69=>k_is))
   (case q0=>k_is)
   (case r0=>k_is)
   (case t0=>rfl)
   (case y0=>rfl)
   (case u0=>rfl)
   (case v0=>repeat (first|exact L2.aDf|refine L2.nZ rfl ?_|refine L2.nZ ⟨_,rfl⟩ ?_))
   (case q1=>k_is)
   (case q2=>k_is)
   (case r2=>k_is)
   (case t2=>rfl)
   (case y2=>rfl)
   (case u2=>rfl)
   (case v2=>repeat (first|exact L2.aDf|refine L2.nZ rfl ?_|refine L2.nZ ⟨_,rfl⟩ ?_))
   (case q3=>k_is)
   (case q4=>k_is)
   (case q5=>k_is)
   (case q6=>k_is)
   (case q7=>k_is)
   (case z0=>k_is)
   (case z1=>k_is)
   (case z2=>k_is)
   (case z3=>k_is)
   (case z4=>k_is)
   (case z5=>k_is)
   (case z6=>k_is)
   (case z7=>k_is)
   (case z8=>k_is)
   (case z9=>k_is)
   (case z10=>k_is)
   (case z11=>k_is)
   (case z12=>k_is)
   (case z13=>k_is)
   (case z14=>k_is)
   (case z15=>k_is)
   (case z16=>k_is)
   (case eTown=>(refine' My.CA.mk ?j ?p1 ?p2 ?p3 ?p4 ?p5 ?p6);(case j=>k_is);(case p1=>first|k_is|kernel_rfl|decide +kernel);(case p2=>first|k_is|kernel_rfl|decide +kernel);(case p3=>first|k_is|kernel_rfl|decide +kernel);(case p4=>first|k_is|kernel_rfl|decide +kernel);(case p5=>first|k_is|kernel_rfl|decide +kernel);(case p6=>first|k_is|kernel_rfl|decide +kernel))
   (case b0=>(refine' My.MA.mk ?j ?i ?l ?c ?k);(case j=>k_is);(case i=>first|k_is|kernel_rfl|decide +kernel);(case l=>k_is);(case c=>k_is);(case k=>k_is))
   (case b1=>(refine' My.MA.mk ?j ?i ?l ?c ?k);(case j=>k_is);(case i=>first|k_is|kernel_rfl|decide +kernel);(case l=>k_is);(case c=>k_is);(case k=>k_is))
   (case b2=>(refine' My.MA.mk ?j ?i ?l ?c ?k);(case j=>k_is);(case i=>first|k_is|kernel_rfl|decide +kernel);(case l=>k_is);(case c=>k_is);(case k=>k_is))
   (case b3=>(refine' My.MA.mk ?j ?i ?l ?c ?k);(case j=>k_is);(case i=>first|k_is|kernel_rfl|decide +kernel);(case l=>k_is);(case c=>k_is);(case k=>k_is))
   (case d0=>(unfold L2.bI);k_is)
   (case d1=>(unfold L2.bI);k_is)
   (case eStore=>(refine' My.CA.mk ?j ?p1 ?p2 ?p3 ?p4 ?p5 ?p6);(case j=>k_is);(case p1=>first|k_is|kernel_rfl|decide +kernel);(case p2=>first|k_is|kernel_rfl|decide +kernel);(case p3=>first|k_is|kernel_rfl|decide +kernel);(case p4=>first|k_is|kernel_rfl|decide +kernel);(case p5=>first|k_is|kernel_rfl|decide +kernel);(case p6=>first|k_is|kernel_rfl|decide +kernel))
   (case b4=>(refine' My.MA.mk ?j ?i ?l ?c ?k);(case j=>k_is);(case i=>first|k_is|kernel_rfl|decide +kernel);(case l=>k_is);(case c=>k_is);(case k=>k_is))
   (case b5=>(refine' My.MA.mk ?j ?i ?l ?c ?k);(case j=>k_is);(case i=>first|k_is|kernel_rfl|decide +kernel);(case l=>k_is);(case c=>k_is);(case k=>k_is))
   (case b6=>(refine' My.MA.mk ?j ?i ?l ?c ?k);(case j=>k_is);(case i=>first|k_is|kernel_rfl|decide +kernel);(case l=>k_is);(case c=>k_is);(case k=>k_is))
   (case b7=>(refine' My.MA.mk ?j ?i ?l ?c ?k);(case j=>k_is);(case i=>first|k_is|kernel_rfl|decide +kernel);(case l=>k_is);(case c=>k_is);(case k=>k_is))
   (case b8=>(refine' My.MA.mk ?j ?i ?l ?c ?k);(case j=>k_is);(case i=>first|k_is|kernel_rfl|decide +kernel);(case l=>k_is);(case c=>k_is);(case k=>k_is))
   (case b9=>(refine' My.MA.mk ?j ?i ?l ?c ?k);(case j=>k_is);(case i=>first|k_is|kernel_rfl|decide +kernel);(case l=>k_is);(case c=>k_is);(case k=>k_is))
   (case b10=>(refine' My.MA.mk ?j ?i ?l ?c ?k);(case j=>k_is);(case i=>first|k_is|kernel_rfl|decide +kernel);(case l=>k_is);(case c=>k_is);(case k=>k_is))
   (case b11=>(refine' My.MA.mk ?j ?i ?l ?c ?k);(case j=>k_is);(case i=>first|k_is|kernel_rfl|decide +kernel);(case l=>k_is);(case c=>k_is);(case k=>k_is))
   (case b12=>(refine' My.MA.mk ?j ?i ?l ?c ?k);(case j=>k_is);(case i=>first|k_is|kernel_rfl|decide +kernel);(case l=>k_is);(case c=>k_is);(case k=>k_is))
   (case b13=>(refine' My.MA.mk ?j ?i ?l ?c ?k);(case j=>k_is);(case i=>first|k_is|kernel_rfl|decide +kernel);(case l=>k_is);(case c=>k_is);(case k=>k_is))
   (case b14=>(refine' My.MA.mk ?j ?i ?l ?c ?k);(case j=>k_is);(case i=>first|k_is|kernel_rfl|decide +kernel);(case l=>k_is);(case c=>k_is);(case k=>k_is))
   (case b15=>(refine' My.MA.mk ?j ?i ?l ?c ?k);(case j=>k_is);(case i=>first|k_is|kernel_rfl|decide +kernel);(case l=>k_is);(case c=>k_is);(case k=>k_is))
   (case d2=>(unfold L2.bI);k_is)
   (case d3=>(unfold L2.bI);k_is)
   (case d4=>(unfold L2.bI);k_is)
  have C:L2.aSz (L2.KOf KX) mg "are_cuts" 266:=by
   dsimp only [L2.KOf]
   refine' My.aY0 KX G ?a ?l ?e1 ?e2 ?h
   (case a=>k_is)
   (case l=>k_is)
   (case e1=>rfl)
   (case e2=>rfl)
   (case h=>first|k_is|kernel_rfl|decide +kernel)
  exact My.bAs (P:=PySem.Challenge.rw_shardask_k63_while_moving.prog) T C hmg
