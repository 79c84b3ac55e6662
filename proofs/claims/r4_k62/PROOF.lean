import PyProof.Rows.All
import Wide.All
import OpenK.AllK
import Wide.FinOn
import Lean
import PyProof.EqAt
import PyProof.EqKinds
import PyProof.TupleCall
import PyProof.CallType
import PyProof.WalkLemmas
import PyProof.StrOps
import PyProof.ForAny
import PyProof.IsInstanceH
import PyProof.IsiFacts
import PyProof.IsiFacts2
import PyProof.FactsAll.object
import PyProof.ListMulRoad
import PyProof.FactsAll.tuple_2
import PyProof.StrLawsIdx
import KE.KDictList
import PyProof.Rows.Range3
import PyProof.EnumMake
import PyProof.EnumFor
import PyProof.CompUse
import PyProof.ListStr
import PyProof.NeKinds
import PyProof.IsInstanceT
import PyProof.FString5
import PyProof.Rows.SeqMore2
import PyProof.IsiPairs
import PyProof.StrCalls3
import KE.KSortTup
import KE.KSortKey
import PyProof.Rows.SortStr
import KE.KLam
import KE.KDictOf
import KE.KEqDict
import KE.KDictSum
import PyProof.AttrMissHeap
import PyProof.DictWalks
import PyProof.Rows.TupTab
import PyProof.DictItems
import PyProof.FactsAll.set_1
import KE.KRevIter
import PySem.Challenge.RW_shardask_k62_carry
set_option Elab.async false
set_option linter.all false
set_option maxRecDepth 100000
set_option maxHeartbeats 6400000
section
open PySem PySem.Spec PySem.Calls PyProof.Rows
def c7:=@wpAny_bind
def d7:=@List.getElem?_eq_getElem
def d8:=@Heap.get?_push_of_some
def d9:=@wpAny_pure
def j0:=@Nat.le_refl
def j4:=@List.getD_eq_getElem?_getD
def j5:=@Heap.get?_push_size
def j6:=@List.mem_cons_of_mem
def j7:=@List.size_toArray
def j8:=@List.mem_cons_self
def j9:=@List.length_map
def m8:=@Heap.lt_size
def m9:=@Array.getElem?_eq_getElem
def t6:=@decide_eq_true
def t7:=@Array.length_toList
def t8:=@Bool.false_ne_true
def v4:=@Nat.ne_of_lt
def v5:=@Array.getD_eq_getD_getElem?
def v6:=@List.mem_of_getElem?
def v7:=@List.length_cons
def v8:=@decide_eq_false
def v9:=@List.getElem?_map
def w6:=@List.not_mem_nil
def bAA:=@Nat.lt_of_lt_of_le
def bAB:=@List.mem_cons
def bAC:=@List.getElem?_eq_none
def bAD:=@wpAny_call_entry
def bAE:=@Nat.zero_le
def bAF:=@wpAny_callSpecial?_slot
def bAG:=@List.length_append
def bAH:=@wpAny_setField_rec
def bAI:=@wpAny_field
def bAJ:=@wpAny_newObj_type
def bAK:=@List.length_range
def bAL:=@Nat.le_trans
def bAM:=@List.length_take
def bAN:=@Option.some.inj
def bAO:=@PySem.W.mg_none_of
def bAP:=@List.mem_append_right
def bAQ:=@wpAny_holding
def bAR:=@Bool.and_eq_true
def bAS:=@wpAny_seqItems
def bAT:=@List.getElem_mem
def bAU:=@List.length_filter_le
def bAV:=@List.map_cons
def bAW:=@List.take_of_length_le
def bAX:=@Heap.size_push
def bAY:=@Int.toNat_natCast
def bAZ:=@Heap.SameBut.update
def bBA:=@PyProof.Rows.F.plain_set_update_loop
def bBB:=@Bool.false_eq_true
def bBC:=@List.getElem_of_mem
def bBD:=@wpAny_truthy_bool
def bBE:=@Nat.lt_succ_of_lt
def bBF:=@Heap.get?_update_self
def bBG:=@List.getElem?_append_right
def bBH:=@List.take_add_one
def bBI:=@wpAny_setState_of
def bBJ:=@Around.under_plainId
def bBK:=@List.getElem?_append_left
def bBL:=@wpAny_mono
def bBM:=@codeAny_builtin
def bBN:=@Nat.lt_irrefl
def bBO:=@Option.getD_some
def bBP:=@PyProof.Rows.callWith_type1
def bBQ:=@wpAny_Call_Name_kw
def bBR:=@Nat.le_add_right
def bBS:=@PyProof.Rows.F.entry_set_update_loop
def bBT:=@Array.getElem?_toList
def bBU:=@List.eq_of_mem_replicate
def bBV:=@Calls.spliced_cons
def bBW:=@List.length_drop
def bBX:=@List.all_eq_true
def bBY:=@wpAny_attempt
def bBZ:=@PySem.W.mg_of
def bB3:=@wpAny_pyIter_list
def bB4:=@List.ext_getElem?
def bB5:=@List.set_set
def bB6:=@Array.getElem?_eq_none
def bB7:=@List.filterMap_cons
def bB8:=@List.getElem?_range
def bB9:=@List.append_nil
def bCA:=@List.find?_cons
def bCB:=@PyProof.Rows.slot_tuple_getitem
def bCC:=@Nat.lt_succ_self
def bCD:=@Nat.lt_of_le_of_lt
def bCE:=@wpAny_typeNameOfWhole_itemiter
def bCF:=@codeAny_mono
def bCG:=@List.mem_append_left
def bCH:=@List.getElem_toArray
def bCI:=@List.eq_nil_of_length_eq_zero
def bCJ:=@Bool.eq_iff_iff
def bCK:=@List.length_nil
def bCL:=@Nat.ne_of_gt
def bCM:=@List.lookup_cons
def bCN:=@List.take_length
def bCO:=@wpAny_isInstance
def bCP:=@List.forIn_cons
def bCQ:=@List.map_append
def bCR:=@List.append_assoc
def bCS:=@Nat.zero_add
def bCT:=@List.mem_of_mem_take
def bCU:=@wpAny_rule
def bCV:=@wpAny_onRaise
def bCW:=@plainId_quiet
def bCX:=@Array.toList_append
def bCY:=@wpAny_setEntries_of
def bCZ:=@wpAny_setField
def bC0:=@wpAny_askSetting
def bC1:=@Nat.le_of_lt
def bC2:=@Heap.get?_update_other
def bC3:=@SeqAt.EqAt.str_str
def bC4:=@Calls.callWith_builtin
def bC5:=@List.filter_filter
def bC6:=@Nat.not_lt_zero
def bC7:=@List.length_replicate
def bC8:=@Array.mem_of_getElem?
def bC9:=@List.getElem?_toArray
def bDA:=@Calls.Name_function_global
def bDB:=@codeAny_call_builtin
def bDC:=@wpAny_fieldsOf
def bDD:=@List.zipIdx_cons
def bDE:=@List.any_eq_true
def bDF:=@List.map_map
def bDG:=@List.drop_eq_getElem_cons
def bDH:=@List.take_nil
def bDI:=@List.Pairwise.imp_of_mem
def bDJ:=@wpAny_passesOwn
def bDK:=@SeqAt.EqAt.same
def bDL:=@List.zipIdx_nil
def bDM:=@List.nodup_cons
def bDN:=@List.nil_append
def bDO:=@List.filterMap_map
def bDP:=@SeqAt.EqAt.int_int
def bDQ:=@List.map_replicate
def bDR:=@Int.emod_lt_of_pos
def bDS:=@Nat.le_succ
def bDT:=@wpAny_of_eq
def bDU:=@List.getElem?_set_self
def bDV:=@Calls.spliced_nil
def bDW:=@wpAny_typeOf
def bDX:=@List.forIn_nil
def bDY:=@wpAny_newTuple
def bDZ:=@Nat.lt_trans
def bD0:=@List.drop_of_length_le
def bD1:=@Array.getElem_mem
def bD2:=@Heap.get?_push_ne
def bD3:=@wpAny_isOneOf_itemiter
def bD4:=@wpAny_pyIter_slot
def bD5:=@Nat.lt_trichotomy
def bD6:=@List.length_singleton
def bD7:=@List.take_append_drop
def bD8:=@wpAny_call
def bD9:=@wpAny_pyIter_zip
def bEA:=@List.filter_cons
def bEB:=@wpAny_forIn_list
def bEC:=@List.any_cons
def bED:=@wpAny_handled
def bEE:=@Calls.evalArgs_plain
def bEF:=@wpAny_newFunctionEnv
def bEG:=@wpAny_letGo
def bEH:=@Int.emod_nonneg
def bEI:=@List.length_zipWith
def bEJ:=@List.mem_map_of_mem
def bEK:=@Nat.le_of_eq
def bEL:=@wpAny_pyIter_tuple
def bEM:=@Nat.lt_or_eq_of_le
def bEN:=@List.mem_singleton
def bEO:=@List.length_eraseIdx_of_lt
def bEP:=@List.perm_ext_iff_of_nodup
def bEQ:=@wpAny_letOwnedTupleGo_zip
def bER:=@wpAny_throw
def bES:=@Option.isSome_map
def bET:=@wpAny_dictEntries
def bEU:=@Array.toList_push
def bEV:=@wpAny_storeSet_of
def bEW:=@wpAny_standAt
abbrev bEX:=PySem.W.Frag
abbrev bEY:=Value->Shared->Prop
abbrev bEZ:=List (Addr × Obj)
abbrev bE0:=Str->Option Value
end
local macro_rules
  | `(tactic| trivial) => `(tactic| first | exact Or.inl rfl | exact Or.inr rfl | exact Or.inr (Or.inl rfl) | exact Or.inr (Or.inr rfl) | exact⟨rfl, rfl, rfl, by decide +kernel, rfl, by decide +kernel, by decide +kernel⟩ | exact⟨by decide +kernel, rfl, by decide +kernel, by decide +kernel⟩ | fail)
namespace L2
open PySem PySem.Spec PyProof.Rows
abbrev Key:=Sum Int Str
def vV:Key->Value->Bool
 |.inl k,v=>Value.isInt k v
 |.inr x,v=>Value.isStrOf x v
def bBn (w:World):Key->Int
 |.inl k=>hashInt k
 |.inr x=>hashStr w x
theorem cO:∀{k:Key} {v:Value},vV k v=true->(∃i t,k=Sum.inl i/\v=Value.int i t)\/(∃x t,k=Sum.inr x/\v=Value.str x t)
 |.inl i,v,h=>by obtain⟨t,e⟩:=Value.isInt_shape (k:=i) (v:=v) h;exact .inl ⟨i,t,rfl,e⟩
 |.inr x,v,h=>by obtain⟨t,e⟩:=Value.isStrOf_shape (x:=x) (v:=v) h;exact .inr ⟨x,t,rfl,e⟩
theorem aDu (i:Int)(t:Tok):vV (.inl i) (.int i t)=true:=by simp[vV,Value.isInt]
theorem aC7 (x:Str)(t:Tok):vV (.inr x) (.str x t)=true:=by simp[vV,Value.isStrOf]
theorem aXu (a b:Int):decide ((Sum.inl a:Key)=Sum.inl b)=(a == b):=by
 by_cases e:a=b
 ·subst e;simp
 ·have h:¬ (Sum.inl a:Key)=Sum.inl b:=λq=>e (Sum.inl.inj q);rw[v8 h];exact (beq_eq_false_iff_ne.mpr e).symm
theorem aY2 (a b:Str):decide ((Sum.inr a:Key)=Sum.inr b)=decide (a=b):=by
 by_cases e:a=b
 ·subst e;simp
 ·have h:¬ (Sum.inr a:Key)=Sum.inr b:=λq=>e (Sum.inr.inj q);rw[v8 h,v8 e]
theorem aX4 (a:Int)(b:Str):decide ((Sum.inl a:Key)=Sum.inr b)=false:=v8 (λq=>nomatch q)
theorem aYr (a:Str)(b:Int):decide ((Sum.inr a:Key)=Sum.inl b)=false:=v8 (λq=>nomatch q)
def bL (prog:Program)(w:World):PySem.KeyKind prog w Key where
 is:=vV
 hash:=bBn w
 inj:=λv a b ha hb=>by
  rcases cO ha with⟨i,t,rfl,rfl⟩|⟨x,t,rfl,rfl⟩
  ·rcases cO hb with⟨j,u,rfl,e⟩|⟨y,u,rfl,e⟩
   ·injection e with e1 _;rw[e1]
   ·exact nomatch e
  ·rcases cO hb with⟨j,u,rfl,e⟩|⟨y,u,rfl,e⟩
   ·exact nomatch e
   ·injection e with e1 _;rw[e1]
 byValue:=λk v h=>by rcases cO h with⟨i,t,rfl,rfl⟩|⟨x,t,rfl,rfl⟩ <;> rfl
 pyHash:=λhv h=>by
  rcases cO hv with⟨i,t,rfl,rfl⟩|⟨x,t,rfl,rfl⟩
  ·exact wpAny_pyHash_int h
  ·exact wpAny_pyHash_str h
 eqBool:=λhu hv h=>by
  rcases cO hu with⟨i,t,rfl,rfl⟩|⟨x,t,rfl,rfl⟩
  ·rcases cO hv with⟨j,u,rfl,rfl⟩|⟨y,u,rfl,rfl⟩
   ·rw[aXu] at h;exact wpAny_eqBool_int h
   ·rw[aX4] at h;exact SeqAt.EqAt.int_str i t y u _ _ _ _ h
  ·rcases cO hv with⟨j,u,rfl,rfl⟩|⟨y,u,rfl,rfl⟩
   ·rw[aYr] at h;exact SeqAt.EqAt.str_int x t j u _ _ _ _ h
   ·rw[aY2] at h;exact wpAny_eqBool_str h
 «strs»:=λk x t v h=>by
  rcases cO h with⟨i,u,rfl,e⟩|⟨y,u,rfl,e⟩
  ·exact nomatch e
  ·injection e with e1 _;subst e1;cases v <;> rfl
theorem aIf (prog:Program)(w:World)(i:Int)(t:Tok):(bL prog w).is (.inl i) (.int i t)=true:=aDu i t
theorem aH5 (prog:Program)(w:World)(x:Str)(t:Tok):(bL prog w).is (.inr x) (.str x t)=true:=aC7 x t
inductive V where
 |non|bl (b:Bool)|int (i:Int)|str (x:Str)|byt (b:Array UInt8)|flt (b:UInt64)|ref (a:Addr)|ty (n:String)
 deriving DecidableEq
def RelV:V->Value->Prop
 |.non,u=>u=Value.none
 |.bl b,u=>u=Value.bool b
 |.int i,u=>∃t,u=Value.int i t
 |.str x,u=>∃t,u=Value.str x t
 |.byt b,u=>∃t,u=Value.bytes b t
 |.flt b,u=>∃t,u=Value.float b t
 |.ref a,u=>u=Value.ref a
 |.ty n,u=>u=Value.type n
abbrev Vals:List V->List Value->Prop:=Paired RelV
theorem Vals.length {xs:List V}{us:List Value}(r:Vals xs us):xs.length=us.length:=Paired.length r
theorem Vals.get:∀{xs:List V} {us:List Value} {i:Nat} {x:V},Vals xs us->xs[i]?=some x->∃u,us[i]?=some u/\RelV x u
 |_,_,_,_,.nil,e=>by simp at e
 |_,_,0,_,.cons r _,e=>by simp at e;subst e;exact⟨_,rfl,r⟩
 |_,_,i+1,x,.cons _ t,e=>by obtain⟨u,h1,h2⟩:=Vals.get (i:=i) (x:=x) t (by simpa using e);exact⟨u,by simpa using h1,h2⟩
theorem Vals.set {x:V}{u:Value}(r:RelV x u):∀{xs:List V} {us:List Value} (i:Nat),Vals xs us->Vals (xs.set i x) (us.set i u)
 |_,_,_,.nil=>.nil
 |_,_,0,.cons _ t=>.cons r t
 |_,_,i+1,.cons q t=>.cons q (Vals.set r i t)
theorem Vals.append:∀{xs ys:List V} {us ws:List Value},Vals xs us->Vals ys ws->Vals (xs++ys) (us++ws)
 |_,_,_,_,.nil,s=>s
 |_,_,_,_,.cons r t,s=>.cons r (Vals.append t s)
theorem Vals.take:∀{xs:List V} {us:List Value} (n:Nat),Vals xs us->Vals (xs.take n) (us.take n)
 |_,_,0,_=>.nil
 |_,_,_+1,.nil=>.nil
 |_,_,n+1,.cons r t=>.cons r (Vals.take n t)
theorem Vals.drop:∀{xs:List V} {us:List Value} (n:Nat),Vals xs us->Vals (xs.drop n) (us.drop n)
 |_,_,0,r=>r
 |_,_,_+1,.nil=>.nil
 |_,_,n+1,.cons _ t=>Vals.drop n t
def pQ:Option V->Option Value->Prop
 |some v,some u=>RelV v u
 |none,none=>True
 |_,_=>False
def KV {κ:Type}:List (κ × V)->List (κ × Value)->Prop:=Paired λ(p:κ × V) (q:κ × Value)=>p.1=q.1/\RelV p.2 q.2
def kV:Key->V
 |.inl i=>.int i
 |.inr x=>.str x
inductive HO where
  |lst (xs:List V)
  |tup (xs:List V)
  |dK (kvs:List (Key × V))|dT (kvs:List (List Key × V))
  |set (S:Int->Bool) (n:Nat)
  |ins (C dx:Addr) (fs:List (Str × V))
  |own (x:Addr)
  |xd (fs:List (Str × V))
  |met (f x:Addr)
  |rng (lo hi:Int)
  |frz (o:Obj) (u:HO)
  |tbl (ps:Array Value)
  |tab (q:Str)
  |ext (φ:Heap->Prop)
abbrev Hp:=Addr->Option HO
def upd (H:Hp)(a:Addr)(o:HO):Hp:=λb=>if b=a then some o else H b
theorem aH {H:Hp}{a:Addr}{o:HO}:upd H a o a=some o:=by unfold upd;rw[if_pos rfl]
theorem aN {H:Hp}{a b:Addr}{o:HO}(h:b≠a):upd H a o b=H b:=by unfold upd;rw[if_neg h]
theorem aVp {H:Hp}{a:Addr}{o u:HO}:upd (upd H a o) a u=upd H a u:=by funext b;unfold upd;split <;> rfl
theorem aIq {H:Hp}{a b:Addr}{o u:HO}(h:H a=some o)(h':H b=some u)(d:o≠u):a≠b:=by intro e;subst e;rw[h] at h';exact d (bAN h')
theorem aU {H:Hp}{a b:Addr}{o:HO}(h:H a=some o)(h':H b=none):a≠b:=by intro e;subst e;rw[h] at h';cases h'
def yW (h:Heap)(a:Addr)(items:Array Value):Prop:=IsTup h a items/\∀o,h.get? a=some o->o.dict=none
theorem yW.of {h:Heap}{a:Addr}{items:Array Value}{o:Obj}(e:h.get? a=some o)(d:o.dict=none)(x:IsTup h a items):yW h a items:=⟨x,λo' e'=>by rw[e] at e';cases e';exact d⟩
theorem yW.new (h:Heap)(items:Array Value):yW (h.push { cls:=.type "tuple",data:=.seq items }) h.objs.size items:=.of (j5 _ rfl) rfl (IsTup.new _ _)
theorem yW.keep {h h':Heap}{a:Addr}{items:Array Value}(x:yW h a items)(k:∀o,h.get? a=some o->h'.get? a=some o):yW h' a items:=by obtain⟨⟨o,e,c⟩,d⟩:=x;exact .of (k o e) (d o e) ⟨o,k o e,c⟩
section
variable (P:Program)(w:World)
def dH (H:Hp)(h:Heap)(a:Addr):HO->Prop
 |.lst xs=>xs.length<=sizeLine/\∃(its:List Value) (n:Nat),Vals xs its/\h.get? a=some { cls:=.type "list",data:=.seq its.toArray n }
 |.tup xs=>xs.length<=sizeLine/\∃its:List Value,Vals xs its/\yW h a its.toArray
 |.dK kvs=>kvs.length<=sizeLine/\(a == sysModules)=false/\∃vs,KV kvs vs/\h.DictOf (bL P w) a vs
 |.dT kvs=>kvs.length<=sizeLine/\(a == sysModules)=false/\∃xs:List (List Key × Addr × Value),
   Paired (λ(p:List Key × V) (q:List Key × Addr × Value)=>p.1=q.1/\H q.2.1=some (.tup (p.1.map kV))/\RelV p.2 q.2.2) kvs xs /\
   ∃o es ep,h.get? a=some o/\o.ExactDict/\o.data=.dict es ep/\es.toList=xs.map (entryOfKey (tupleKind (bL P w)))/\(xs.map (·.1)).Nodup
 |.set S n=>h.SetOf (intKind P w) a S n
 |.ins C dx fs=>H dx=some (.own a)/\fs.length<=1000/\dx≠a/\h.get? a=some (PySem.W.instObj C dx) /\
   ∃mA,h.Ns1 dx mA/\(∀f,pQ (fs.lookup f) (mA f))/\PySem.Within mA (fs.map (·.1))
 |.own _=>∃o,h.get? a=some o
 |.xd fs=>∃mA,h.Ns1 a mA/\∀f,pQ (fs.lookup f) (mA f)
 |.rng lo hi=>∃t u v,h.get? a=some { cls:=.type "range",data:=.fields #[.int lo t,.int hi u,.int 1 v] }
 |.frz o u=>h.get? a=some o/\dH H h a u
 |.tbl ps=>h.get? a=some { cls:=.none,data:=.fields ps }
 |.tab q=>∃ps:Array Value,h.get? a=some { cls:=.none,data:=.fields ps }/\TriplesOk ps.toList/\∀(pos:Pos) (cv:Value),codeAmong pos ps.toList=some cv->∃(c:Addr) (oc:Obj) (vs:Array Value) (t:Tok),cv=.ref c/\H c=some (.own a)/\h.get? c=some oc/\oc.data=.fields vs/\vs[1]?=some (.str q t)
 |.met f x=>h.get? a=some (PySem.W.methodObj (.ref f) (.ref x))
 |.ext φ=>φ h/\(∃o,h.get? a=some o)/\∀h1 h2:Heap,φ h1->(∀o,h1.get? a=some o->h2.get? a=some o)->φ h2
def HOk (H:Hp)(h:Heap):Prop:=∀a o,H a=some o->dH P w H h a o
end
section
variable {P:Program}{w:World}{H H':Hp}{h h':Heap}{a:Addr}{o:HO}
theorem dH.lt (x:dH P w H h a o):a<h.objs.size:=by
 cases o with
 |lst xs=>obtain⟨_,_,_,_,e⟩:=x;exact m8 e
 |tup xs=>obtain⟨_,_,_,p⟩:=x;exact p.1.lt
 |dK kvs=>obtain⟨_,_,_,_,o,_,_,e,_⟩:=x;exact m8 e
 |dT kvs=>obtain⟨_,_,_,_,o,_,_,e,_⟩:=x;exact m8 e
 |set S n=>obtain⟨o,_,_,_,e,_⟩:=x;exact m8 e
 |ins C dx fs=>obtain⟨_,_,_,e,_⟩:=x;exact m8 e
 |own y=>obtain⟨_,e⟩:=x;exact m8 e
 |xd fs=>obtain⟨_,⟨_,_,_,e,_⟩,_⟩:=x;exact m8 e
 |rng lo hi=>obtain⟨_,_,_,e⟩:=x;exact m8 e
 |frz ob u=>obtain⟨e,_⟩:=x;exact m8 e
 |tbl ps=>exact m8 (show h.get? a=some _ from x)
 |tab q=>obtain⟨_,e,_⟩:=x;exact m8 e
 |met f y=>exact m8 (show h.get? a=some _ from x)
 |ext φ=>obtain⟨_,⟨_,e⟩,_⟩:=x;exact m8 e
theorem Paired.aZx {α β:Type}{F G:α->β->Prop}:∀{l₁:List α} {l₂:List β},Paired F l₁ l₂->(∀a b,F a b->G a b)->Paired G l₁ l₂
 |_,_,.nil,_=>.nil
 |_,_,.cons r t,f=>.cons (f _ _ r) (Paired.aZx t f)
theorem dH.stay (x:dH P w H h a o)(k:∀b u,(b=a\/H b=some (.own a))->h.get? b=some u->h'.get? b=some u)
  (ho:∀b,H b=some (.own a)->H' b=some (.own a)) (ht:∀b xs,H b=some (.tup xs)->H' b=some (.tup xs)):dH P w H' h' a o:=by
 induction o with
 |lst xs=>obtain⟨z,its,n,r,e⟩:=x;exact⟨z,its,n,r,k _ _ (.inl rfl) e⟩
 |tup xs=>obtain⟨z,its,r,p⟩:=x;exact⟨z,its,r,p.keep λo e=>k _ _ (.inl rfl) e⟩
 |dK kvs=>obtain⟨z,y,vs,r,ob,es,ep,e,c⟩:=x;exact⟨z,y,vs,r,ob,es,ep,k _ _ (.inl rfl) e,c⟩
 |dT kvs=>obtain⟨z,y,xs,r,ob,es,ep,e,c⟩:=x;exact⟨z,y,xs,Paired.aZx r λp q z=>⟨z.1,ht _ _ z.2.1,z.2.2⟩,ob,es,ep,k _ _ (.inl rfl) e,c⟩
 |set S n=>obtain⟨ob,es,ep,t,e,c⟩:=x;exact⟨ob,es,ep,t,k _ _ (.inl rfl) e,c⟩
 |ins C dx fs=>obtain⟨d,z,ne,e,mA,⟨od,es,ep,e2,c⟩,r⟩:=x;exact⟨ho _ d,z,ne,k _ _ (.inl rfl) e,mA,⟨od,es,ep,k _ _ (.inr d) e2,c⟩,r⟩
 |own y=>obtain⟨ob,e⟩:=x;exact⟨ob,k _ _ (.inl rfl) e⟩
 |xd fs=>obtain⟨mA,⟨od,es,ep,e,c⟩,r⟩:=x;exact⟨mA,⟨od,es,ep,k _ _ (.inl rfl) e,c⟩,r⟩
 |rng lo hi=>obtain⟨t,u,v,e⟩:=x;exact⟨t,u,v,k _ _ (.inl rfl) e⟩
 |frz ob u ih=>obtain⟨e,q⟩:=x;exact⟨k _ _ (.inl rfl) e,ih q⟩
 |tab q=>obtain⟨ps,e,t,c⟩:=x;exact⟨ps,k _ _ (.inl rfl) e,t,λpos cv q=>let ⟨c',oc,vs,tk,a1,a2,a3,a4⟩:=c pos cv q;⟨c',oc,vs,tk,a1,ho _ a2,k _ _ (.inr a2) a3,a4⟩⟩
 |tbl ps=>have e:h.get? a=some { cls:=.none,data:=.fields ps }:=x;show h'.get? a=some { cls:=.none,data:=.fields ps };exact k a _ (.inl rfl) e
 |met f y=>have e:h.get? a=some (PySem.W.methodObj (.ref f) (.ref y)):=x;show h'.get? a=some (PySem.W.methodObj (.ref f) (.ref y));exact k a _ (.inl rfl) e
 |ext φ=>obtain⟨p,⟨o,e⟩,st⟩:=x;exact⟨st _ _ p λo q=>k _ _ (.inl rfl) q,⟨o,k _ _ (.inl rfl) e⟩,st⟩
theorem HOk.lt (x:HOk P w H h)(e:H a=some o):a<h.objs.size:=(x a o e).lt
theorem HOk.fresh (x:HOk P w H h)(e:h.objs.size<=a):H a=none:=by
 cases q:H a with
 |none=>rfl
 |some u=>exact absurd (bAA (x.lt q) e) (bBN _)
theorem HOk.kept (x:HOk P w H h)(k:∀b u,h.get? b=some u->h'.get? b=some u):HOk P w H h':=λa o e=>
 (x a o e).stay (λb u _ q=>k b u q) (λ_ q=>q) λ_ _ q=>q
theorem HOk.laid (x:HOk P w H h)(k:∀b u,h.get? b=some u->h'.get? b=some u)(hp:h.objs.size<=a)(new:dH P w (upd H a o) h' a o):HOk P w (upd H a o) h':=λb u e=>by
 have hn:=x.fresh hp;by_cases hb:b=a
 ·subst hb;rw[aH] at e;cases e;exact new
 ·rw[aN hb] at e;exact (x b u e).stay (λc v _ q=>k c v q) (λc q=>by rw[aN (aU q hn)];exact q) λc xs q=>by rw[aN (aU q hn)];exact q
end
def Rd (H:Hp)(a:Addr)(u:HO):Prop:=H a=some u\/∃o,H a=some (.frz o u)
theorem Rd.ok {P:Program}{w:World}{H:Hp}{h:Heap}{a:Addr}{u:HO}(r:Rd H a u)(x:HOk P w H h):dH P w H h a u:=by
 rcases r with r|⟨o,r⟩
 ·exact x a u r
 ·obtain⟨_,q⟩:=x a _ r;exact q
def Mut:Option HO->Prop
 |some (.lst _)=>True
 |some (.dK _)=>True
 |some (.dT _)=>True
 |some (.set _ _)=>True
 |some (.ins _ _ _)=>True
 |some (.ext _)=>True
 |some (.tab _)=>True
 |_=>False
section
variable {P:Program}{w:World}{H:Hp}{h h':Heap}{x e:Addr}{o':HO}
theorem HOk.write (ok:HOk P w H h)(mu:Mut (H x))(he:e=x\/H e=some (.own x))(k:∀b u,b≠e->h.get? b=some u->h'.get? b=some u)(heo:∃u,h'.get? e=some u)
  (new:dH P w (upd H x o') h' x o'):HOk P w (upd H x o') h':=λb u q=>by
 have nown:∀c y,H c=some (.own y)->c≠x:=λc y r z=>by subst z;rw[r] at mu;exact mu
 have ntup:∀c xs,H c=some (.tup xs)->c≠x:=λc xs r z=>by subst z;rw[r] at mu;exact mu
 by_cases hb:b=x
 ·subst hb;rw[aH] at q;cases q;exact new
 ·rw[aN hb] at q;by_cases hbe:b=e
  ·have q':H b=some (.own x):=by
    rcases he with z|z
    ·exact absurd (hbe.trans z) hb
    ·rw[hbe];exact z
   rw[q] at q';cases q';obtain⟨v,hv⟩:=heo;exact⟨v,by rw[hbe];exact hv⟩
  ·refine (ok b u q).stay (λc v hc r=>k c v ?_ r) (λc r=>by rw[aN (nown c b r)];exact r) λc xs r=>by rw[aN (ntup c xs r)];exact r
   rcases hc with rfl|hc
   ·exact hbe
   ·rintro rfl;rcases he with z|z
    ·exact nown c b hc z
    ·rw[hc] at z;cases z;exact hb rfl
end
structure Un (fs ex:List Addr)(H H':Hp)(h h':Heap):Prop where
 keep:∀b o,h.get? b=some o->H b=none->b∉fs->b∉ex->h'.get? b=some o
 slot:∀b o,h.get? b=some o->H b=none->b∈fs->b∉ex->∃sl,h'.get? b=some { o with slots:=sl }
 free:∀b o,h.get? b=some o->H b=none->b∉ex->H' b=none
 there:∀b o,h.get? b=some o->b∉ex->∃o',h'.get? b=some o'
 tups:∀b xs,H b=some (.tup xs)->H' b=some (.tup xs)
 frzs:∀b o u,H b=some (.frz o u)->H' b=some (.frz o u)
 tbls:∀b ps,H b=some (.tbl ps)->∃more,H' b=some (.tbl (ps++more))
section
variable {fs fs' ex ex':List Addr}{H H1 H2:Hp}{h h1 h2 h':Heap}{a x e:Addr}{o:HO}
theorem Un.any (u:Un fs ex H H1 h h1){b:Addr}{ob:Obj}(q:h.get? b=some ob)(n:H b=none)(hx:b∉ex):∃sl,h1.get? b=some { ob with slots:=sl }:=by
 by_cases hb:b∈fs
 ·exact u.slot b ob q n hb hx
 ·exact⟨ob.slots,u.keep b ob q n hb hx⟩
theorem Un.kept (k:∀b u,h.get? b=some u->h'.get? b=some u):Un fs ex H H h h':=
 ⟨λb ob q _ _ _=>k b ob q,λb ob q _ _ _=>⟨ob.slots,k b ob q⟩,λ_ _ _ n _=>n,λb ob q _=>⟨ob,k b ob q⟩,λ_ _ q=>q,λ_ _ _ q=>q,λ_ ps q=>⟨#[],by rw[q];simp⟩⟩
theorem Un.refl:Un fs ex H H h h:=Un.kept λ_ _ q=>q
theorem Un.laid (k:∀b u,h.get? b=some u->h'.get? b=some u)(hp:h.objs.size<=a)(hn:H a=none):Un fs ex H (upd H a o) h h' where
 keep:=λb u q _ _ _=>k b u q
 slot:=λb u q _ _ _=>⟨u.slots,k b u q⟩
 free:=λb u q n _=>by rw[aN (v4 (bAA (m8 q) hp))];exact n
 there:=λb u q _=>⟨u,k b u q⟩
 tups:=λb xs q=>by rw[aN (aU q hn)];exact q
 frzs:=λb u xs q=>by rw[aN (aU q hn)];exact q
 tbls:=λb ps q=>⟨#[],by rw[aN (aU q hn),q];simp⟩
theorem Un.write (mu:Mut (H x))(he:e=x\/H e=some (.own x))(k:∀b u,b≠e->h.get? b=some u->h'.get? b=some u)(heo:∃u,h'.get? e=some u):Un fs ex H (upd H x o) h h':=by
 have hx:∀b,H b=none->b≠x:=λb n z=>by subst z;rw[n] at mu;exact mu
 have hb:∀b,H b=none->b≠e:=λb n z=>by
  subst z;rcases he with r|r
  ·exact hx b n r
  ·rw[n] at r;cases r
 have hm:∀b u,H b=some u->¬ Mut (some u)->b≠x:=λb u q nm z=>by subst z;rw[q] at mu;exact nm mu
 refine⟨λb u q n _ _=>k b u (hb b n) q,λb u q n _ _=>⟨u.slots,k b u (hb b n) q⟩,λb u q n _=>by rw[aN (hx b n)];exact n,λb u q _=>?_,
  λb xs q=>by rw[aN (hm b _ q λz=>z)];exact q,λb u xs q=>by rw[aN (hm b _ q λz=>z)];exact q,λb ps q=>⟨#[],by rw[aN (hm b _ q λz=>z),q];simp⟩⟩
 by_cases hbe:b=e
 ·subst hbe;exact heo
 ·exact⟨u,k b u hbe q⟩
end
def trk (h:Heap)(H:Hp):List Addr:=(List.range h.objs.size).filter λa=>(H a).isSome
def aCu (h:Heap)(H:Hp):Heap:=PySem.W.hideAll h (trk h H)
theorem aOu (h:Heap)(H:Hp):(aCu h H).objs.size=h.objs.size:=PySem.W.hideAll_size _ _
theorem aQu {h:Heap}{H:Hp}{b:Addr}{o:Obj}(e:h.get? b=some o)(n:H b=none):(aCu h H).get? b=some o:=
 PySem.W.hideAll_get _ e λhm=>by have q:(H b).isSome=true:=(List.mem_filter.mp hm).2;rw[n] at q;simp at q
theorem aUt {h:Heap}{H:Hp}{b:Addr}{o:Obj}(e:(aCu h H).get? b=some o):h.get? b=some o/\H b=none:=by
 have e':h.get? b=some o:=PySem.W.of_hideAll (trk h H) e;refine⟨e',?_⟩;cases q:H b with
 |none=>rfl
 |some x=>have hm:b∈trk h H:=List.mem_filter.mpr ⟨List.mem_range.mpr (m8 e'),by simp[q]⟩;have z:(aCu h H).get? b=none:=PySem.W.hideAll_none (trk h H) hm;rw[z] at e;cases e
structure Mod (K:bEX)(mg:bE0)(base:Heap):Prop where
 kin:K.In base
 glob:base.Ns mainGlobals mg
 blt:∃mb,base.Ns builtinsNs mb/\∀x:Str,x≠"__name__"->mb x=bootBuiltins x
 nolimit:base.NoLimit
structure Cx where
 prog:Program
 w:World
 K:bEX
 mg:bE0
 base:Heap
 A:Around
 N:List Str
 s₀:Shared
 H₀:Hp
 env:Env
 outer:List Env
 stack:List Env
 ex:List Addr
 fn:Str->Bool
 calm:Bool
 pn:bEZ
 xe:bEY
def frs (l:List Env):List Addr:=l.filterMap (·.frame)
abbrev Cx.fs (X:Cx):List Addr:=frs X.outer
def Vis (sc:Scope)(x:Str):Prop:=sc.names.lookup x=some .local\/sc.names.lookup x=some .cell\/sc.names.lookup x=some .free
def Loc (sc:Scope)(x:Str):Prop:=sc.names.lookup x=some .local\/sc.names.lookup x=some .cell
def Look (env:Env)(h:Heap)(m:bE0)(x:Str)(u:Value):Prop:=
 (env.kindOf x=some .local/\m x=some u)\/((env.kindOf x=some .cell\/env.kindOf x=some .free)/\∃c,env.cells.lookup x=some c/\h.IsCell c (some u))
structure Cx.Ok (X:Cx):Prop where
 mod:Mod X.K X.mg X.base
 kind:X.env.scope.kind=.function
 glob:X.env.globals=mainGlobals
 blt:X.env.builtins=builtinsNs
 above:X.s₀.heap.objs.size<=X.env.locals
 inj:∀x y c,X.env.cells.lookup x=some c->X.env.cells.lookup y=some c->x=y
 has:∀x,(X.env.kindOf x=some .cell\/X.env.kindOf x=some .free)->∃c,X.env.cells.lookup x=some c
 cab:∀x c,X.fn x=true->X.env.cells.lookup x=some c->X.s₀.heap.objs.size<=c
 hd:X.calm=true->X.A.handled=none
 frames:X.A.frames=some X.stack
 stk:X.stack=X.outer\/(X.stack=X.env::X.outer/\X.env.frame=some X.env.locals)
 exf:∀b∈X.ex,b≠X.env.locals/\∀x c,X.env.cells.lookup x=some c->c≠b
 bs:∀b o,X.base.get? b=some o->X.s₀.heap.get? b=some o/\X.H₀ b=none
 bsz:X.base.objs.size<=X.s₀.heap.objs.size
 noex:∀b o,X.base.get? b=some o->b∉X.ex
 exfs:∀b∈X.ex,b∉X.fs
 funs:X.s₀.heap.FunFrames X.base X.outer
 frf:∀b∈X.fs,X.H₀ b=none
structure Inv (X:Cx)(bE1:bEZ)(σ:List (Option V))(H:Hp)(s:Shared):Prop where
 ok:X.Ok
 os:s.os=X.s₀.os
 bare:AllBare s.gens
 base:Un X.fs X.ex X.H₀ H X.s₀.heap s.heap
 loc:∃m,s.heap.Ns X.env.locals m/\∀(i:Nat) (x:Str) (v:V),X.N[i]?=some x->σ[i]?=some (some v)->Vis X.env.scope x->∃u,RelV v u/\Look X.env s.heap m x u
 cell:∀x c,X.env.cells.lookup x=some c->∃v,s.heap.IsCell c v
 free:H X.env.locals=none
 freeC:∀x c,X.env.cells.lookup x=some c->H c=none
 pin:∀p∈X.pn++bE1,s.heap.get? p.1=some p.2/\H p.1=none/\p.1≠X.env.locals/\p.1∉X.fs/\∀v,p.2.data≠.cell v
 hok:HOk X.prog X.w H s.heap
 len:σ.length=X.N.length
section
variable {X:Cx}{bE1:bEZ}{σ:List (Option V)}{H H':Hp}{s:Shared}{h':Heap}
theorem Cx.Ok.nofr (ok:X.Ok){b:Addr}{o:Obj}(e:X.base.get? b=some o):b∉X.fs:=λhb=>by have:=(ok.funs.mem hb).1;rw[e] at this;cases this
theorem Inv.bs (I:Inv X bE1 σ H s):∀b o,X.base.get? b=some o->s.heap.get? b=some o/\H b=none:=λb o e=>
 ⟨I.base.keep b o (I.ok.bs b o e).1 (I.ok.bs b o e).2 (I.ok.nofr e) (I.ok.noex b o e),I.base.free b o (I.ok.bs b o e).1 (I.ok.bs b o e).2 (I.ok.noex b o e)⟩
theorem Inv.bk (I:Inv X bE1 σ H s):∀b o,X.base.get? b=some o->s.heap.get? b=some o:=λb o e=>(I.bs b o e).1
theorem Inv.mod (I:Inv X bE1 σ H s):Mod X.K X.mg X.base:=I.ok.mod
theorem Inv.kIn (I:Inv X bE1 σ H s):X.K.In s.heap:=I.ok.mod.kin.keeps I.bk
theorem Inv.nolimit (I:Inv X bE1 σ H s):s.heap.NoLimit:=I.ok.mod.nolimit.keeps I.bk
theorem Inv.lt (I:Inv X bE1 σ H s):X.env.locals<s.heap.objs.size:=let ⟨_,hn,_⟩:=I.loc;hn.lt
theorem Inv.sz (I:Inv X bE1 σ H s):X.s₀.heap.objs.size<=s.heap.objs.size:=bAL I.ok.above (bC1 I.lt)
theorem Inv.nofs (I:Inv X bE1 σ H s){a:Addr}(h:s.heap.objs.size<=a):a∉X.fs:=λhb=>by obtain⟨_,o,ho,_⟩:=I.ok.funs.mem hb;exact absurd (bAA (m8 ho) (bAL I.sz h)) (bBN _)
theorem Inv.cne (I:Inv X bE1 σ H s):∀x c,X.env.cells.lookup x=some c->c≠X.env.locals:=λx c e z=>by obtain⟨v,o,ho,hd⟩:=I.cell x c e;obtain⟨m,⟨o',es,ep,ho',hd',_⟩,_⟩:=I.loc;rw[z,ho'] at ho;cases ho;rw[hd'] at hd;cases hd
theorem Inv.funs (I:Inv X bE1 σ H s):s.heap.FunFrames X.base X.outer:=by
 have all:∀(l:List Env),(∀b∈frs l,b∈X.fs)->X.s₀.heap.FunFrames X.base l->s.heap.FunFrames X.base l:=by
  intro l
  induction l with
  |nil=>intro _ _;trivial
  |cons env r ih=>intro hs hl;obtain⟨hk,⟨L,o,hf,hn,ho,hd⟩,hr⟩:=hl;have hL:L∈X.fs:=hs L (by unfold frs;rw[bB7,hf];exact j8);obtain⟨sl,e⟩:=I.base.slot L o ho (I.ok.frf L hL) hL λz=>I.ok.exfs L z hL;exact⟨hk,⟨L,_,hf,hn,e,hd⟩,ih (λb hb=>hs b (by unfold frs;rw[bB7,hf];exact j6 _ hb)) hr⟩
 exact all X.outer (λ_ hb=>hb) I.ok.funs
theorem Inv.stack (I:Inv X bE1 σ H s):s.heap.FunFrames X.base X.stack:=by
 rcases I.ok.stk with e|⟨e,hf⟩
 ·rw[e];exact I.funs
 ·rw[e];obtain⟨m,hn,_⟩:=I.loc;refine .cons (by rw[I.ok.kind];decide) hf hn ?_ I.funs;exact Heap.get?_none_of_le (bAL I.ok.bsz I.ok.above)
theorem Inv.aFv (I:Inv X bE1 σ H s):∀b∈frs X.stack,b∈X.env.locals::X.fs:=λb hb=>by
 rcases I.ok.stk with e|⟨e,hf⟩
 ·rw[e] at hb;exact j6 _ hb
 ·rw[e] at hb;unfold frs at hb;rw[bB7,hf] at hb;exact hb
theorem Inv.vU (I:Inv X bE1 σ H s):∀b∈frs X.stack,H b=none:=λb hb=>by
 rcases List.mem_cons.mp (I.aFv b hb) with e|hb
 ·rw[e];exact I.free
 ·obtain⟨_,o,ho,_⟩:=I.ok.funs.mem hb;exact I.base.free b o ho (I.ok.frf b hb) λz=>I.ok.exfs b z hb
theorem Inv.step {g':Array GenState}{t':Nat}{d':Drawn}{ch:List Addr}(I:Inv X bE1 σ H s)
  (hch:∀b∈ch,(b∈X.ex\/X.s₀.heap.objs.size<=b)/\b≠X.env.locals/\(∀x c,X.env.cells.lookup x=some c->c≠b)/\∀p∈X.pn++bE1,p.1≠b)
  (keep:∀b o,b≠X.env.locals->b∉X.fs->b∉ch->s.heap.get? b=some o->H b=none->h'.get? b=some o)
  (slot:∀b o,b≠X.env.locals->b∈X.fs->b∉ch->s.heap.get? b=some o->H b=none->∃sl,h'.get? b=some { o with slots:=sl }) (free:∀b o,b∉ch->s.heap.get? b=some o->H b=none->H' b=none)
  (there:∀b o,b∉ch->s.heap.get? b=some o->∃o',h'.get? b=some o')
  (tups:∀b xs,H b=some (.tup xs)->H' b=some (.tup xs)) (frzs:∀b o u,H b=some (.frz o u)->H' b=some (.frz o u)) (tbls:∀b ps,H b=some (.tbl ps)->∃more,H' b=some (.tbl (ps++more)))
  (ns:∀m,s.heap.Ns X.env.locals m->h'.Ns X.env.locals m) (hok:HOk X.prog X.w H' h') (hg:AllBare g') :
  Inv X bE1 σ H' { s with heap:=h',gens:=g',drawn:=d',toks:=t' }:=by
 have neL:∀b o,X.s₀.heap.get? b=some o->b≠X.env.locals:=λb o e=>v4 (bAA (m8 e) I.ok.above);have neC:∀b o,X.s₀.heap.get? b=some o->b∉X.ex->b∉ch:=λb o e hx hb=>by
  rcases (hch b hb).1 with z|z
  ·exact hx z
  ·exact absurd (bAA (m8 e) z) (bBN _)
 have cellK:∀x c,X.env.cells.lookup x=some c->∀v,s.heap.IsCell c v->h'.IsCell c v:=λx c e v ⟨o,ho,hd⟩=>by
  have nch:c∉ch:=λz=>(hch c z).2.2.1 x c e rfl;by_cases hc:c∈X.fs
  ·obtain⟨sl,q⟩:=slot c o (I.cne x c e) hc nch ho (I.freeC x c e);exact⟨_,q,hd⟩
  ·exact⟨o,keep c o (I.cne x c e) hc nch ho (I.freeC x c e),hd⟩
 refine⟨I.ok,I.os,hg,⟨λb o e n hb hx=>?_,λb o e n hb hx=>?_,λb o e n hx=>?_,λb o e hx=>?_,λb xs e=>tups b xs (I.base.tups b xs e),λb o xs e=>frzs b o xs (I.base.frzs b o xs e),λb ps e=>?_⟩,?_,λx c e=>?_,?_,λx c e=>?_,λp hp=>?_,hok,I.len⟩
 ·exact keep b o (neL b o e) hb (neC b o e hx) (I.base.keep b o e n hb hx) (I.base.free b o e n hx)
 ·obtain⟨sl,e1⟩:=I.base.slot b o e n hb hx;obtain⟨sl',e2⟩:=slot b _ (neL b o e) hb (neC b o e hx) e1 (I.base.free b o e n hx);exact⟨sl',e2⟩
 ·obtain⟨o',e1⟩:=I.base.there b o e hx;exact free b o' (neC b o e hx) e1 (I.base.free b o e n hx)
 ·obtain⟨o',e1⟩:=I.base.there b o e hx;exact there b o' (neC b o e hx) e1
 ·obtain⟨m1,e1⟩:=I.base.tbls b ps e;obtain⟨m2,e2⟩:=tbls b _ e1;exact⟨m1++m2,by rw[e2,Array.append_assoc]⟩
 ·obtain⟨m,hn,hl⟩:=I.loc;refine⟨m,ns m hn,λi x v e1 e2 e3=>?_⟩;obtain⟨u,r,l⟩:=hl i x v e1 e2 e3;refine⟨u,r,?_⟩;rcases l with l|⟨k,c,e,z⟩
  ·exact .inl l
  ·exact .inr ⟨k,c,e,cellK x c e _ z⟩
 ·obtain⟨v,z⟩:=I.cell x c e;exact⟨v,cellK x c e v z⟩
 ·obtain⟨m,⟨o,_,_,ho,_⟩,_⟩:=I.loc;exact free _ o (λz=>(hch _ z).2.1 rfl) ho I.free
 ·obtain⟨v,o,ho,hd⟩:=I.cell x c e;exact free c o (λz=>(hch c z).2.2.1 x c e rfl) ho (I.freeC x c e)
 ·obtain⟨e,n,ne,nf,d⟩:=I.pin p hp;have nch:p.1∉ch:=λz=>(hch p.1 z).2.2.2 p hp rfl;exact⟨keep p.1 p.2 ne nf nch e n,free p.1 p.2 nch e n,ne,nf,d⟩
theorem Inv.un {t':Nat}(I:Inv X bE1 σ H s)(u:Un X.fs [] H H' s.heap h')(hok:HOk X.prog X.w H' h'):Inv X bE1 σ H' { s with heap:=h',toks:=t' }:=by
 obtain⟨m,⟨o,es,ep,ho,r⟩,_⟩:=id I.loc;obtain⟨sl,hL⟩:=u.any ho I.free (by simp);exact I.step (g':=s.gens) (d':=s.drawn) (ch:=[]) (λ_ z=>nomatch z) (λb o _ hb _ e n=>u.keep b o e n hb (by simp)) (λb o _ hb _ e n=>u.slot b o e n hb (by simp)) (λb o _ e n=>u.free b o e n (by simp)) (λb o _ e=>u.there b o e (by simp)) u.tups u.frzs u.tbls (λm' hm=>by obtain⟨o',es',ep',ho',r'⟩:=hm;rw[ho] at ho';cases ho';exact⟨_,es',ep',hL,r'⟩) hok I.bare
theorem Inv.call {g':Array GenState}{t':Nat}{d':Drawn}{ch:List Addr}(I:Inv X bE1 σ H s)(u:Un (frs X.stack) ch H H' s.heap h')(hok:HOk X.prog X.w H' h')(hg:AllBare g')
  (hch:∀b∈ch,(b∈X.ex\/X.s₀.heap.objs.size<=b)/\b≠X.env.locals/\(∀x c,X.env.cells.lookup x=some c->c≠b)/\∀p∈X.pn++bE1,p.1≠b) :
  Inv X bE1 σ H' { s with heap:=h',gens:=g',drawn:=d',toks:=t' }:=by
 obtain⟨m,⟨o,es,ep,ho,r⟩,_⟩:=id I.loc;obtain⟨sl,hL⟩:=u.any ho I.free λz=>(hch _ z).2.1 rfl;exact I.step (ch:=ch) hch (λb o hL hb hc e n=>u.keep b o e n (λz=>(List.mem_cons.mp (I.aFv b z)).elim hL hb) hc) (λb o _ _ hc e n=>u.any e n hc) (λb o hc e n=>u.free b o e n hc) (λb o hc e=>u.there b o e hc) u.tups u.frzs u.tbls (λm' hm=>by obtain⟨o',es',ep',ho',r'⟩:=hm;rw[ho] at ho';cases ho';exact⟨_,es',ep',hL,r'⟩) hok hg
theorem Inv.turned {t':Nat}{it:Addr}(I:Inv X bE1 σ H s)(k:∀b o,b≠it->s.heap.get? b=some o->h'.get? b=some o)(hn:H it=none)(hL:it≠X.env.locals)
  (h1:it∈X.ex\/X.s₀.heap.objs.size<=it) (h2:∀x c,X.env.cells.lookup x=some c->c≠it) (h3:∀p∈X.pn++bE1,p.1≠it):Inv X bE1 σ H { s with heap:=h',toks:=t' }:=by
 have nit:∀b u,H b=some u->b≠it:=λb u e z=>by rw[z,hn] at e;cases e
 refine I.step (g':=s.gens) (d':=s.drawn) (ch:=[it]) (λb hb=>?_) (λb o _ _ hc e _=>k b o (λz=>hc (by simp[z])) e) (λb o _ _ hc e _=>⟨o.slots,k b o (λz=>hc (by simp[z])) e⟩) (λ_ _ _ _ n=>n)
  (λb o hc e=>⟨o,k b o (λz=>hc (by simp[z])) e⟩) (λ_ _ e=>e) (λ_ _ _ e=>e) (λb ps e=>⟨#[],by rw[e];simp⟩) (λm hm=>?_) (λb u e=>?_) I.bare
 ·have e:b=it:=by simpa using hb
  subst e;exact⟨h1,hL,h2,h3⟩
 ·obtain⟨o,es,ep,ho,r⟩:=hm;exact⟨o,es,ep,k _ o (Ne.symm hL) ho,r⟩
 ·refine (I.hok b u e).stay (λc v hc q=>k c v ?_ q) (λ_ q=>q) λ_ _ q=>q;rcases hc with z|z
  ·rw[z];exact nit b u e
  ·exact nit c _ z
theorem Inv.tok (I:Inv X bE1 σ H s)(t:Nat):Inv X bE1 σ H { s with toks:=t }:=I.un (h':=s.heap) (t':=t) Un.refl I.hok
theorem Inv.kept {t':Nat}(I:Inv X bE1 σ H s)(k:∀b u,s.heap.get? b=some u->h'.get? b=some u):Inv X bE1 σ H { s with heap:=h',toks:=t' }:=I.un (Un.kept k) (I.hok.kept k)
theorem Inv.laid {a:Addr}{o:HO}{t':Nat}(I:Inv X bE1 σ H s)(k:∀b u,s.heap.get? b=some u->h'.get? b=some u)(hp:s.heap.objs.size<=a)(new:dH X.prog X.w (upd H a o) h' a o) :
  Inv X bE1 σ (upd H a o) { s with heap:=h',toks:=t' }:=I.un (Un.laid k hp (I.hok.fresh hp)) (I.hok.laid k hp new)
theorem Inv.write {x e:Addr}{o:HO}{t':Nat}(I:Inv X bE1 σ H s)(mu:Mut (H x))(he:e=x\/H e=some (.own x))(k:∀b u,b≠e->s.heap.get? b=some u->h'.get? b=some u)(heo:∃u,h'.get? e=some u)
  (new:dH X.prog X.w (upd H x o) h' x o):Inv X bE1 σ (upd H x o) { s with heap:=h',toks:=t' }:=I.un (Un.write mu he k heo) (I.hok.write mu he k heo new)
theorem Inv.aMu {pins':bEZ}(I:Inv X bE1 σ H s)(h:∀p∈pins',s.heap.get? p.1=some p.2/\H p.1=none/\p.1≠X.env.locals/\p.1∉X.fs/\∀v,p.2.data≠.cell v):Inv X pins' σ H s:=
 ⟨I.ok,I.os,I.bare,I.base,I.loc,I.cell,I.free,I.freeC,λp hp=>(List.mem_append.mp hp).elim (λz=>I.pin p (bCG _ z)) (h p),I.hok,I.len⟩
theorem aHu {N:List Str}(hN:N.Nodup){i j:Nat}{x:Str}(a:N[i]?=some x)(b:N[j]?=some x):i=j:=by obtain⟨h1,e1⟩:=List.getElem?_eq_some_iff.mp a;obtain⟨h2,e2⟩:=List.getElem?_eq_some_iff.mp b;exact (List.getElem_inj hN).mp (e1.trans e2.symm)
theorem aDl {M:Model}{A:Around}{E:bEY}{i:Nat}{x:Str}{v:V}{u:Value}{Q:Unit->Shared->Prop}(I:Inv X bE1 σ H s)(hN:X.N.Nodup)(hi:X.N[i]?=some x)(hx:Loc X.env.scope x)(r:RelV v u)
  (h:∀s',Inv X bE1 (σ.set i (some v)) H s'->(∃a,Heap.SameBut a s.heap s'.heap/\(a=X.env.locals\/X.env.cells.lookup x=some a))->Q () s') (hf:X.fn x=true\/X.env.scope.names.lookup x=some .local:=by first|exact .inl rfl|exact .inr rfl|assumption):wpAny M A (storeName X.env x u) Q E s:=by
 obtain⟨m,hn,hl⟩:=id I.loc;have hcls:(X.env.scope.kind == .class || (X.env.scope.kind == .module && X.env.locals != X.env.globals))=false:=by rw[I.ok.kind];rfl
 have hiσ:i<σ.length:=by rw[I.len];exact (List.getElem?_eq_some_iff.mp hi).1
 have cne:=I.cne;have tracked:∀{a:Addr} {h':Heap},(∃o,s.heap.get? a=some o/\H a=none)->Heap.SameBut a s.heap h'->HOk X.prog X.w H h':=λ{a h'} ha hs b ob e=>by
  obtain⟨_,_,hfree⟩:=ha;refine (I.hok b ob e).stay (λc w' hc q=>(hs.2 c ?_).trans q) (λ_ q=>q) λ_ _ q=>q;rintro rfl;rcases hc with rfl|hc
  ·rw[hfree] at e;cases e
  ·rw[hfree] at hc;cases hc
 rcases hx with hk|hk
 ·refine wpAny_storeName_local hk hn (λh' hn' hs=>?_) hcls;obtain⟨oL,_,_,hoL,_⟩:=id hn;refine h _ ⟨I.ok,I.os,I.bare,⟨λb o e n hb hx=>?_,λb o e n hb hx=>?_,I.base.free,λb o e hx=>?_,I.base.tups,I.base.frzs,I.base.tbls⟩,⟨_,hn',λj y v' e1 e2 e3=>?_⟩,λy c e=>?_,I.free,I.freeC,λp hp=>?_,tracked ⟨oL,hoL,I.free⟩ hs,by simpa using I.len⟩ ⟨_,hs,.inl rfl⟩
  ·exact (hs.2 b (v4 (bAA (m8 e) I.ok.above))).trans (I.base.keep b o e n hb hx)
  ·obtain⟨sl,e1⟩:=I.base.slot b o e n hb hx;exact⟨sl,(hs.2 b (v4 (bAA (m8 e) I.ok.above))).trans e1⟩
  ·obtain⟨o',e1⟩:=I.base.there b o e hx;exact⟨o',(hs.2 b (v4 (bAA (m8 e) I.ok.above))).trans e1⟩
  ·by_cases hj:j=i
   ·subst hj;rw[hi] at e1;cases e1;rw[bDU hiσ] at e2;cases e2;exact⟨u,r,.inl ⟨hk,by simp⟩⟩
   ·rw[List.getElem?_set_ne (Ne.symm hj)] at e2;obtain⟨u',r',q⟩:=hl j y v' e1 e2 e3;refine⟨u',r',?_⟩;rcases q with⟨k,e⟩|⟨k,c,e,z⟩
    ·refine .inl ⟨k,?_⟩;have:y≠x:=λe=>hj (aHu hN e1 (e ▸ hi));simp[this,e]
    ·exact .inr ⟨k,c,e,z.sameBut hs (cne y c e)⟩
  ·obtain⟨w',z⟩:=I.cell y c e;exact⟨w',z.sameBut hs (cne y c e)⟩
  ·obtain⟨e,n,ne,nf,d⟩:=I.pin p hp;exact⟨(hs.2 p.1 ne).trans e,n,ne,nf,d⟩
 ·have hfn:X.fn x=true:=by
   rcases hf with z|z
   ·exact z
   ·rw[z] at hk;cases hk
  obtain⟨c,hc⟩:=I.ok.has x (.inl hk);obtain⟨w',z⟩:=I.cell x c hc;refine wpAny_storeName_cell I.ok.kind hk hc z (λh' hc' hs=>?_);obtain⟨oc,hoc,hocd⟩:=id z;refine h { s with heap:=h' } ⟨I.ok,I.os,I.bare,⟨λb o e n hb hx=>?_,λb o e n hb hx=>?_,I.base.free,λb o e hx=>?_,I.base.tups,I.base.frzs,I.base.tbls⟩,⟨m,hn.sameBut hs (Ne.symm (cne x c hc)),λj y v' e1 e2 e3=>?_⟩,λy c' e=>?_,I.free,I.freeC,λp hp=>?_,tracked ⟨oc,hoc,I.freeC x c hc⟩ hs,by simpa using I.len⟩ ⟨c,hs,.inr hc⟩
  ·exact (hs.2 b (v4 (bAA (m8 e) (I.ok.cab x c hfn hc)))).trans (I.base.keep b o e n hb hx)
  ·obtain⟨sl,e1⟩:=I.base.slot b o e n hb hx;exact⟨sl,(hs.2 b (v4 (bAA (m8 e) (I.ok.cab x c hfn hc)))).trans e1⟩
  ·obtain⟨o',e1⟩:=I.base.there b o e hx;exact⟨o',(hs.2 b (v4 (bAA (m8 e) (I.ok.cab x c hfn hc)))).trans e1⟩
  ·by_cases hj:j=i
   ·subst hj;rw[hi] at e1;cases e1;rw[bDU hiσ] at e2;cases e2;exact⟨u,r,.inr ⟨.inl hk,c,hc,hc'⟩⟩
   ·rw[List.getElem?_set_ne (Ne.symm hj)] at e2;obtain⟨u',r',q⟩:=hl j y v' e1 e2 e3;refine⟨u',r',?_⟩;rcases q with q|⟨k,c',e,z'⟩
    ·exact .inl q
    ·refine .inr ⟨k,c',e,z'.sameBut hs ?_⟩;rintro rfl;exact hj (aHu hN e1 (I.ok.inj _ _ _ e hc ▸ hi))
  ·by_cases hcc:c'=c
   ·subst hcc;exact⟨_,hc'⟩
   ·obtain⟨w2,z2⟩:=I.cell y c' e;exact⟨w2,z2.sameBut hs hcc⟩
  ·obtain⟨e,n,ne,nf,d⟩:=I.pin p hp;refine⟨(hs.2 p.1 ?_).trans e,n,ne,nf,d⟩;intro q;rw[q,hoc] at e;have q':oc=p.2:=bAN e;exact d w' (by rw[<-q'];exact hocd)
theorem aJi {M:Model}{A:Around}{E:bEY}{i:Nat}{x:Str}{v:V}{u:Value}{Q:Unit->Shared->Prop}(I:Inv X bE1 σ H s)(hN:X.N.Nodup)(hi:X.N[i]?=some x)(hx:Loc X.env.scope x)(r:RelV v u)
  (h:∀s',Inv X bE1 (σ.set i (some v)) H s'->Q () s') (hf:X.fn x=true\/X.env.scope.names.lookup x=some .local:=by first|exact .inl rfl|exact .inr rfl|assumption):wpAny M A (storeName X.env x u) Q E s:=
 aDl I hN hi hx r (λs' I' _=>h s' I') hf
theorem Inv.call' {s':Shared}{ch:List Addr}(I:Inv X bE1 σ H s)(ho:s'.os=s.os)(u:Un (frs X.stack) ch H H' s.heap s'.heap)(hok:HOk X.prog X.w H' s'.heap)(hg:AllBare s'.gens)
  (hch:∀b∈ch,(b∈X.ex\/X.s₀.heap.objs.size<=b)/\b≠X.env.locals/\(∀x c,X.env.cells.lookup x=some c->c≠b)/\∀p∈X.pn++bE1,p.1≠b):Inv X bE1 σ H' s':=by
 obtain⟨h',g',d',t',o'⟩:=s';have e:o'=s.os:=ho;subst e;exact I.call (g':=g') (t':=t') (d':=d') u hok hg hch
end
abbrev XK:=Value->Option Addr->Hp->Prop
abbrev St:=List (Option V)
abbrev VK:=V->Hp->Prop
abbrev TE:=St->Hp->VK->Prop
abbrev TT:=St->Hp->(Bool->Hp->Prop)->Prop
abbrev TA:=St->Hp->(List V->Hp->Prop)->Prop
structure Ends where
 nx:St->Hp->Prop
 rt:VK
 bk:St->Hp->Prop:=λ_ _=>False
 ct:St->Hp->Prop:=λ_ _=>False
abbrev TS:=Ends->St->Hp->Prop
def EP (X:Cx)(bE1:bEZ)(σ:St)(Q:VK)(u:Value)(s':Shared):Prop:=∃v H',Inv X bE1 σ H' s'/\RelV v u/\Q v H'
def TP (X:Cx)(bE1:bEZ)(σ:St)(Q:Bool->Hp->Prop)(b:Bool)(s':Shared):Prop:=∃H',Inv X bE1 σ H' s'/\Q b H'
def AP (X:Cx)(bE1:bEZ)(σ:St)(Q:List V->Hp->Prop)(us:List Value)(s':Shared):Prop:=∃vs H',Inv X bE1 σ H' s'/\Vals vs us/\Q vs H'
def SP (X:Cx)(bE1:bEZ)(D:Ends)(f:Flow)(s':Shared):Prop:=
 match f with
 |.next=>∃σ' H',Inv X bE1 σ' H' s'/\D.nx σ' H'
 |.brk=>∃σ' H',Inv X bE1 σ' H' s'/\D.bk σ' H'
 |.cont=>∃σ' H',Inv X bE1 σ' H' s'/\D.ct σ' H'
 |.ret u=>∃v σ' H',Inv X bE1 σ' H' s'/\RelV v u/\D.rt v H'
def PE (X:Cx)(e:Expr)(t:TE):Prop:=
 ∀(bE1:bEZ) (s:Shared) (σ:St) (H:Hp) (Q:VK),Inv X bE1 σ H s->t σ H Q->wpAny (model X.prog X.w) X.A (eval e X.env) (EP X bE1 σ Q) X.xe s
def PT (X:Cx)(e:Expr)(t:TT):Prop:=
 ∀(bE1:bEZ) (s:Shared) (σ:St) (H:Hp) (Q:Bool->Hp->Prop),Inv X bE1 σ H s->t σ H Q->wpAny (model X.prog X.w) X.A (isTrue e X.env (eval e X.env)) (TP X bE1 σ Q) X.xe s
def PW (X:Cx)(e:Expr)(t:TT):Prop:=
 ∀(whole:Sem Value) (bE1:bEZ) (s:Shared) (σ:St) (H:Hp) (Q:Bool->Hp->Prop),Inv X bE1 σ H s->t σ H Q->wpAny (model X.prog X.w) X.A (isTrue e X.env whole) (TP X bE1 σ Q) X.xe s
theorem PW.pt {X:Cx}{e:Expr}{t:TT}(h:PW X e t):PT X e t:=h _
def PA (X:Cx)(es:List Expr)(t:TA):Prop:=
 ∀(pos:Pos) (bE1:bEZ) (s:Shared) (σ:St) (H:Hp) (Q:List V->Hp->Prop),Inv X bE1 σ H s->t σ H Q->wpAny (model X.prog X.w) X.A (spliced (backTo pos (starEach es X.env))) (AP X bE1 σ Q) X.xe s
def PS (X:Cx)(st:Stmt)(t:TS):Prop:=
 ∀(bE1:bEZ) (s:Shared) (σ:St) (H:Hp) (D:Ends),Inv X bE1 σ H s->t D σ H->wpAny (model X.prog X.w) X.A (exec st X.env) (SP X bE1 D) X.xe s
def PSs (X:Cx)(st:List Stmt)(t:TS):Prop:=
 ∀(bE1:bEZ) (s:Shared) (σ:St) (H:Hp) (D:Ends),Inv X bE1 σ H s->t D σ H->wpAny (model X.prog X.w) X.A (execs st X.env) (SP X bE1 D) X.xe s
theorem thn {α:Type}{t:Sem α}{Q Q':α->Shared->Prop}{M:Model}{A:Around}{E:bEY}{s:Shared}(h:wpAny M A t Q E s)(hQ:∀a s,Q a s->Q' a s):wpAny M A t Q' E s:=bBL h hQ λ_ _ x=>x
section
variable {X:Cx}
def aPn (i:Nat):TE:=fun σ H Q=>∃v,σ[i]?=some (some v)/\Q v H
def tC (v:V):TE:=λ_ H Q=>Q v H
theorem aXi {i:Nat}{x:Str}{pos:Pos}(hN:X.N[i]?=some x)(hv:Vis X.env.scope x)(hd:(x == ("__debug__":Str))=false:=by decide)(hcd:(x == ("__classdict__":Str))=false:=by decide):PE X (.Name x pos) (aPn i):=by
 intro bE1 s σ H Q I h;obtain⟨v,e,h⟩:=h;obtain⟨m,hn,hl⟩:=I.loc;obtain⟨u,r,l⟩:=hl i x v hN e hv;have fin:EP X bE1 σ Q u s:=⟨v,H,I,r,h⟩;rcases l with⟨hk,hm⟩|⟨hk,c,hc,hcell⟩
 ·exact wpAny_Name (wpAny_loadName_local I.ok.kind hk hn hm fin) hd
 ·rcases hk with hk|hk
  ·exact wpAny_Name (wpAny_loadName_cell I.ok.kind hk hc hcell fin) hd
  ·exact wpAny_Name (wpAny_loadName_free I.ok.kind hk hc hcell fin hcd) hd
theorem aYv {i j pos}:PE X (.Constant (.int i) j pos) (tC (.int i)):=λ_ _ _ H _ I h=>wpAny_Constant_int ⟨.int i,H,I.tok _,⟨_,rfl⟩,h⟩
theorem bBh {b j pos}:PE X (.Constant (.bool b) j pos) (tC (.bl b)):=λ_ _ _ H _ I h=>Constant_bool ⟨.bl b,H,I,rfl,h⟩
theorem aXl {j pos}:PE X (.Constant .none j pos) (tC .non):=λ_ _ _ H _ I h=>Constant_none ⟨.non,H,I,rfl,h⟩
theorem aX9 {x j pos}:PE X (.Constant (.str x) j pos) (tC (.str x)):=λ_ _ _ H _ I h=>Calls.Constant_str ⟨.str x,H,I.tok _,⟨_,rfl⟩,h⟩
def Gl (X:Cx)(x:Str):Prop:=X.env.kindOf x=some .globalImplicit
theorem vC {E:bEY}{bE1:bEZ}{s:Shared}{σ:St}{H:Hp}{x:Str}{u:Value}{pos:Pos}{Q:bEY}(I:Inv X bE1 σ H s)(hg:Gl X x)(hm:X.mg x=some u)(h:Q u s)
  (hd:(x == ("__debug__":Str))=false:=by decide):wpAny (model X.prog X.w) X.A (eval (.Name x pos) X.env) Q E s:=
 bDA I.ok.kind hg (Calls.loadGlobal_global (by rw[I.ok.glob];exact I.mod.glob.keeps I.bk) hm h) hd
theorem pR {E:bEY}{bE1:bEZ}{s:Shared}{σ:St}{H:Hp}{x:Str}{u:Value}{pos:Pos}{Q:bEY}(I:Inv X bE1 σ H s)(hg:Gl X x)(hm:X.mg x=none)(hv:bootBuiltins x=some u)(h:Q u s)
  (hn:x≠"__name__":=by decide) (hd:(x == ("__debug__":Str))=false:=by decide):wpAny (model X.prog X.w) X.A (eval (.Name x pos) X.env) Q E s:=by
 obtain⟨mb,h1,h2⟩:=I.mod.blt;exact bDA I.ok.kind hg (Calls.loadGlobal_builtin (by rw[I.ok.glob];exact I.mod.glob.keeps I.bk) hm (by rw[I.ok.blt];exact h1.keeps I.bk) ((h2 x hn).trans hv) h) hd
theorem aT0 {x:Str}{v:V}{u:Value}{pos:Pos}(hg:Gl X x)(hm:X.mg x=some u)(r:RelV v u)(hd:(x == ("__debug__":Str))=false:=by decide):PE X (.Name x pos) (tC v):=
 λ_ _ _ H _ I h=>vC I hg hm ⟨v,H,I,r,h⟩ hd
theorem aV7 {x:Str}{v:V}{u:Value}{pos:Pos}(hg:Gl X x)(hm:X.mg x=none)(hv:bootBuiltins x=some u)(r:RelV v u)(hn:x≠"__name__":=by decide)(hd:(x == ("__debug__":Str))=false:=by decide):PE X (.Name x pos) (tC v):=
 λ_ _ _ H _ I h=>pR I hg hm hv ⟨v,H,I,r,h⟩ hn hd
variable {a b:Expr}{ta tb:TE}{pos:Pos}
def PC (X:Cx)(op:CmpOp)(a b:Expr)(t:TE):Prop:=
 ∀(bE1:bEZ) (s:Shared) (σ:St) (H:Hp) (Q:VK),Inv X bE1 σ H s->t σ H Q ->
  wpAny (model X.prog X.w) X.A (eval a X.env) (λv s₁=>wpAny (model X.prog X.w) X.A (eval b X.env) (λu s₂=>wpAny (model X.prog X.w) X.A (compareOp op v u) (EP X bE1 σ Q) X.xe s₂) X.xe s₁) X.xe s
def tB (t:TE):TT:=fun σ H Q=>t σ H λx H1=>∃c,x=.bl c/\Q c H1
theorem aSp {op:CmpOp}{t:TE}(h:PC X op a b t)(h1:behindInMarks op b=false:=by first|exact nobehind _ (by decide) (by decide)|rfl):PT X (.Compare a [op] [b] pos) (tB t):=by intro bE1 s σ H Q I hw;refine wpAny_isTrue_Compare1 (thn (h bE1 s σ H _ I hw) λv s1 h1=>thn h1 λu s2 h2=>thn h2 λc s3 ⟨x,H1,I1,r1,q1⟩=>?_) h1;obtain⟨d,rfl,q⟩:=q1;cases r1;exact bBD ⟨H1,I1,q⟩
theorem aYa {e:Expr}{t:TE}(h:PE X e t)(he:∀whole,isTrue e X.env whole=(do let v <-whole;standAt e.pos;holding [v] (truthy v)):=by intro _;rfl):PT X e (tB t):=by intro bE1 s σ H Q I hw;refine isTrue_plain (thn (h bE1 s σ H _ I hw) λv s1 ⟨x,H1,I1,r1,q1⟩=>?_) (he _);obtain⟨d,rfl,q⟩:=q1;cases r1;exact bBD ⟨H1,I1,q⟩
variable {tA tB':TT}{rest:List Expr}
def bAu (t u:TT):TT:=fun σ H Q=>t σ H λc H1=>if c=true then u σ H1 Q else Q false H1
def tOr (t u:TT):TT:=fun σ H Q=>t σ H λc H1=>if c=true then Q true H1 else u σ H1 Q
def aZ2 (t:TT):TT:=fun σ H Q=>t σ H λc H1=>Q (!c) H1
theorem aUp (ha:PT X a tA):PW X (.BoolOp .And [a] pos) tA:=by
 intro wh bE1 s σ H Q I h;refine isTrue_and (thn (ha bE1 s σ H Q I h) λc s1 e=>?_);cases c with
 |true=>exact isTrue_and_nil e
 |false=>exact e
theorem aZ5 (ha:PT X a tA):PW X (.BoolOp .Or [a] pos) tA:=by
 intro wh bE1 s σ H Q I h;refine isTrue_or (thn (ha bE1 s σ H Q I h) λc s1 e=>?_);cases c with
 |false=>exact isTrue_or_nil e
 |true=>exact e
theorem aXt (ha:PT X a tA)(hb:PW X (.BoolOp .And (b::rest) pos) tB'):PW X (.BoolOp .And (a::b::rest) pos) (bAu tA tB'):=by
 intro wh bE1 s σ H Q I h;refine isTrue_and (thn (ha bE1 s σ H _ I h) λc s1 ⟨H1,I1,q1⟩=>?_);cases c with
 |true=>exact hb wh bE1 s1 σ H1 Q I1 q1
 |false=>exact⟨H1,I1,q1⟩
theorem bAl (ha:PT X a tA)(hb:PW X (.BoolOp .Or (b::rest) pos) tB'):PW X (.BoolOp .Or (a::b::rest) pos) (tOr tA tB'):=by
 intro wh bE1 s σ H Q I h;refine isTrue_or (thn (ha bE1 s σ H _ I h) λc s1 ⟨H1,I1,q1⟩=>?_);cases c with
 |true=>exact⟨H1,I1,q1⟩
 |false=>exact hb wh bE1 s1 σ H1 Q I1 q1
theorem aYe (ha:PT X a tA):PT X (.UnaryOp .Not a pos) (aZ2 tA):=by intro bE1 s σ H Q I h;exact isTrue_not (ha bE1 s σ H (λc H1=>Q (!c) H1) I h)
def aXc (ta tb:TE):TE:=fun σ H Q=>ta σ H λx H1=>∃c,x=.bl c/\if c=true then tb σ H1 Q else Q (.bl false) H1
def bAt (ta tb:TE):TE:=fun σ H Q=>ta σ H λx H1=>∃c,x=.bl c/\if c=true then Q (.bl true) H1 else tb σ H1 Q
def aW9 (ta:TE):TE:=fun σ H Q=>ta σ H λx H1=>∃c,x=.bl c/\Q (.bl (!c)) H1
theorem aYj {op}{t:TE}(h:PE X a t):PE X (.BoolOp op [a] pos) t:=λbE1 s σ H Q I hw=>BoolOp_one (h bE1 s σ H Q I hw)
theorem aZt (ha:PE X a ta)(hb:PE X (.BoolOp .And (b::rest) pos) tb):PE X (.BoolOp .And (a::b::rest) pos) (aXc ta tb):=by
 intro bE1 s σ H Q I h;refine BoolOp_and (thn (ha bE1 s σ H _ I h) λv s1 ⟨x,H1,I1,r1,q1⟩=>?_);obtain⟨c,rfl,q1⟩:=q1;cases r1;refine bBD ?_;cases c with
 |true=>exact hb bE1 s1 σ H1 Q I1 q1
 |false=>exact⟨.bl false,H1,I1,rfl,q1⟩
theorem bAm (ha:PE X a ta)(hb:PE X (.BoolOp .Or (b::rest) pos) tb):PE X (.BoolOp .Or (a::b::rest) pos) (bAt ta tb):=by
 intro bE1 s σ H Q I h;refine BoolOp_or (thn (ha bE1 s σ H _ I h) λv s1 ⟨x,H1,I1,r1,q1⟩=>?_);obtain⟨c,rfl,q1⟩:=q1;cases r1;refine bBD ?_;cases c with
 |false=>exact hb bE1 s1 σ H1 Q I1 q1
 |true=>exact⟨.bl true,H1,I1,rfl,q1⟩
theorem aXn (ha:PE X a ta):PE X (.UnaryOp .Not a pos) (aW9 ta):=by intro bE1 s σ H Q I h;refine UnaryOp_ (thn (ha bE1 s σ H _ I h) λv s1 ⟨x,H1,I1,r1,q1⟩=>?_);obtain⟨c,rfl,q1⟩:=q1;cases r1;exact not_of (bBD ⟨.bl (!c),H1,I1,rfl,q1⟩)
def tIf (t:TT)(ta tb:TE):TE:=fun σ H Q=>t σ H λc H1=>if c=true then ta σ H1 Q else tb σ H1 Q
theorem aTb {c:Expr}(hc:PT X c tA)(ha:PE X a ta)(hb:PE X b tb):PE X (.IfExp c a b pos) (tIf tA ta tb):=by
 intro bE1 s σ H Q I h;refine wpAny_IfExp (thn (hc bE1 s σ H _ I h) λd s1 ⟨H1,I1,q1⟩=>?_);cases d with
 |true=>exact ha bE1 s1 σ H1 Q I1 q1
 |false=>exact hb bE1 s1 σ H1 Q I1 q1
end
def SqL (K:bEX)(H:Hp)(a:Addr)(xs:List V):Prop:=
 Rd H a (.lst xs) \/
  ∃(o:Obj) (its:Array Value) (n:Nat),K.lookup a=some o/\o.cls=.type "list"/\o.dict=none/\o.data=.seq its n/\its.size<=sizeLine/\Vals xs its.toList
def SqT (K:bEX)(H:Hp)(a:Addr)(xs:List V):Prop:=
 Rd H a (.tup xs) \/
  ∃(o:Obj) (its:Array Value) (n:Nat),K.lookup a=some o/\o.cls=.type "tuple"/\o.dict=none/\o.data=.seq its n/\its.size<=sizeLine/\Vals xs its.toList
def bBm:Value->Option V
 |.none=>some .non
 |.bool b=>some (.bl b)
 |.int i _=>some (.int i)
 |.str x _=>some (.str x)
 |.bytes b _=>some (.byt b)
 |.float b _=>some (.flt b)
 |.ref a=>some (.ref a)
 |.type n=>some (.ty n)
 |_=>none
theorem RelV.abs {x:V}{u:Value}(r:RelV x u):bBm u=some x:=by
 cases x with
 |non=>cases r;rfl
 |bl _=>cases r;rfl
 |int _=>obtain⟨t,rfl⟩:=r;rfl
 |str _=>obtain⟨t,rfl⟩:=r;rfl
 |byt _=>obtain⟨t,rfl⟩:=r;rfl
 |flt _=>obtain⟨t,rfl⟩:=r;rfl
 |ref _=>cases r;rfl
 |ty _=>cases r;rfl
theorem RelV.inj {x y:V}{u:Value}(r:RelV x u)(q:RelV y u):x=y:=bAN (r.abs.symm.trans q.abs)
theorem Vals.inj:∀{xs ys:List V} {us:List Value},Vals xs us->Vals ys us->xs=ys
 |_,_,_,.nil,.nil=>rfl
 |_,_,_,.cons r t,.cons r' t'=>by rw[r.inj r',Vals.inj t t']
section
variable {X:Cx}{bE1:bEZ}{σ:St}{H:Hp}{s:Shared}{a:Addr}{xs ys:List V}
theorem SqL.of {K:bEX}(h:H a=some (.lst xs)):SqL K H a xs:=.inl (.inl h)
theorem SqT.of {K:bEX}(h:H a=some (.tup xs)):SqT K H a xs:=.inl (.inl h)
theorem Inv.list (I:Inv X bE1 σ H s)(h:SqL X.K H a xs):∃its:List Value,Vals xs its/\PlainL s.heap a its.toArray/\xs.length<=sizeLine:=by
 rcases h with h|⟨o,its,n,hk,hc,hd,hs,hz,r⟩
 ·obtain⟨z,its,n,r,e⟩:=h.ok I.hok;exact⟨its,r,⟨_,n,e,rfl,rfl,rfl⟩,z⟩
 ·refine⟨its.toList,r,⟨o,n,I.kIn a o hk,hc,hd,by simpa using hs⟩,?_⟩;have e:=r.length;simp only[t7] at e;lia
theorem Inv.tuple (I:Inv X bE1 σ H s)(h:SqT X.K H a xs):∃its:List Value,Vals xs its/\IsTup s.heap a its.toArray/\xs.length<=sizeLine:=by
 rcases h with h|⟨o,its,n,hk,hc,hd,hs,hz,r⟩
 ·obtain⟨z,its,r,p⟩:=h.ok I.hok;exact⟨its,r,p.1,z⟩
 ·refine⟨its.toList,r,⟨o,I.kIn a o hk,hc,n,by simpa using hs⟩,?_⟩;have e:=r.length;simp only[t7] at e;lia
theorem Inv.aRy (I:Inv X bE1 σ H s)(h:SqL X.K H a xs)(h':SqL X.K H a ys):xs=ys:=by
 obtain⟨its,r,⟨o,n,e,_,_,d⟩,_⟩:=I.list h;obtain⟨its',r',⟨o',n',e',_,_,d'⟩,_⟩:=I.list h';rw[e] at e';cases e';rw[d] at d';injection d' with d1 _;have:its=its':=by simpa using congrArg Array.toList d1
 subst this;exact r.inj r'
theorem Inv.aOz (I:Inv X bE1 σ H s)(h:SqT X.K H a xs)(h':SqT X.K H a ys):xs=ys:=by
 obtain⟨its,r,⟨o,e,_,n,d⟩,_⟩:=I.tuple h;obtain⟨its',r',⟨o',e',_,n',d'⟩,_⟩:=I.tuple h';rw[e] at e';cases e';rw[d] at d';injection d' with d1 _;have:its=its':=by simpa using congrArg Array.toList d1
 subst this;exact r.inj r'
end
abbrev Cx.wish (X:Cx)(E:bEY):Cx:={ X with xe:=E }
abbrev Cx.nox (X:Cx):Cx:=X.wish λ_ _=>False
theorem Cx.Ok.wish {X:Cx}(ok:X.Ok)(E:bEY):(X.wish E).Ok:=
 ⟨ok.mod,ok.kind,ok.glob,ok.blt,ok.above,ok.inj,ok.has,ok.cab,ok.hd,ok.frames,ok.stk,ok.exf,ok.bs,ok.bsz,ok.noex,ok.exfs,ok.funs,ok.frf⟩
theorem Cx.Ok.qU {X:Cx}{E:bEY}(ok:(X.wish E).Ok):X.Ok:=
 ⟨ok.mod,ok.kind,ok.glob,ok.blt,ok.above,ok.inj,ok.has,ok.cab,ok.hd,ok.frames,ok.stk,ok.exf,ok.bs,ok.bsz,ok.noex,ok.exfs,ok.funs,ok.frf⟩
section
variable {X:Cx}{bE1:bEZ}{σ:St}{H:Hp}{s:Shared}{E:bEY}
theorem Inv.wish (I:Inv X bE1 σ H s)(E:bEY):Inv (X.wish E) bE1 σ H s:=⟨I.ok.wish E,I.os,I.bare,I.base,I.loc,I.cell,I.free,I.freeC,I.pin,I.hok,I.len⟩
theorem Inv.qU (I:Inv (X.wish E) bE1 σ H s):Inv X bE1 σ H s:=⟨I.ok.qU,I.os,I.bare,I.base,I.loc,I.cell,I.free,I.freeC,I.pin,I.hok,I.len⟩
theorem SP.qU {D:Ends}{f:Flow}{s':Shared}(h:SP (X.wish E) bE1 D f s'):SP X bE1 D f s':=by
 cases f with
 |next=>obtain⟨σ',H',I,q⟩:=h;exact⟨σ',H',I.qU,q⟩
 |brk=>obtain⟨σ',H',I,q⟩:=h;exact⟨σ',H',I.qU,q⟩
 |cont=>obtain⟨σ',H',I,q⟩:=h;exact⟨σ',H',I.qU,q⟩
 |ret u=>obtain⟨v,σ',H',I,r,q⟩:=h;exact⟨v,σ',H',I.qU,r,q⟩
theorem PSs.nox {st:List Stmt}{t:TS}(h:PSs X.nox st t):PSs X st t:=λbE1 s σ H D I hw=>
 bBL (h bE1 s σ H D (I.wish _) hw) (λ_ _ q=>q.qU) λ_ _ z=>False.elim z
end
section
variable {X:Cx}{st:Stmt}{rest:List Stmt}{t u:TS}{e:Expr}{te:TE}{pos:Pos}
def tK:TS:=λD σ H=>D.nx σ H
def aEy (t u:TS):TS:=λD σ H=>t { D with nx:=u D } σ H
theorem aV4:PSs X [] tK:=λ_ _ σ H _ I h=>wpAny_execs_nil ⟨σ,H,I,h⟩
theorem aS8 (h1:PS X st t)(h2:PSs X rest u):PSs X (st::rest) (aEy t u):=by
 intro bE1 s σ H D I h;refine wpAny_execs_cons (thn (h1 bE1 s σ H { D with nx:=u D } I h) λf s1 q=>?_);cases f with
 |next=>obtain⟨σ',H',I',q⟩:=q;exact h2 bE1 s1 σ' H' D I' q
 |ret v=>exact q
 |brk=>exact q
 |cont=>exact q
theorem aUj (h1:PS X st t):PSs X [st] t:=by
 intro bE1 s σ H D I h;refine wpAny_execs_cons (thn (h1 bE1 s σ H D I h) λf s1 q=>?_);cases f with
 |next=>exact wpAny_execs_nil q
 |ret v=>exact q
 |brk=>exact q
 |cont=>exact q
theorem Inv.quiet {bE1:bEZ}{σ:St}{H:Hp}{s:Shared}(I:Inv X bE1 σ H s):interactive X.env=false:=by simp[interactive,I.ok.kind]
def aW0 (te:TE):TS:=λD σ H=>te σ H λ_ H1=>D.nx σ H1
theorem aWi (he:PE X e te)(hs:swapsWith e none pos.line X.env=pure false:=by rfl):PS X (.Expr e pos) (aW0 te):=by intro bE1 s σ H D I h;exact wpAny_Expr_any (thn (he bE1 s σ H _ I h) λv s1 ⟨x,H1,I1,r1,q1⟩=>⟨σ,H1,I1,q1⟩) I.quiet hs
def sY (te:TE):TS:=λD σ H=>te σ H D.rt
theorem aXg (he:PE X e te):PS X (.Return (some e) pos) (sY te):=by intro bE1 s σ H D I h;exact wpAny_Return_some (thn (he bE1 s σ H _ I h) λv s1 ⟨x,H1,I1,r1,q1⟩=>⟨x,σ,H1,I1,r1,q1⟩)
def aUv (c:TT)(t u:TS):TS:=λD σ H=>c σ H λb H1=>if b=true then t D σ H1 else u D σ H1
theorem bA3 {c:Expr}{a b:List Stmt}{tc:TT}(hc:PT X c tc)(ha:PSs X a t)(hb:PSs X b u):PS X (.If c a b pos) (aUv tc t u):=by
 intro bE1 s σ H D I h;refine wpAny_If (thn (hc bE1 s σ H _ I h) λd s1 ⟨H1,I1,q1⟩=>?_);cases d with
 |true=>exact ha bE1 s1 σ H1 D I1 q1
 |false=>exact hb bE1 s1 σ H1 D I1 q1
def aQj:TS:=λ_ _ _=>False
theorem aTr:PS X st aQj:=λ_ _ _ _ _ _ h=>h.elim
end
abbrev TG:=V->St->Hp->(St->Hp->Prop)->Prop
abbrev TGs:=List V->St->Hp->(St->Hp->Prop)->Prop
def PG (X:Cx)(target:Expr)(t:TG):Prop:=
 ∀(bE1:bEZ) (s:Shared) (σ:St) (H:Hp) (v:V) (u:Value) (Q:St->Hp->Prop),Inv X bE1 σ H s->RelV v u->t v σ H Q ->
  wpAny (model X.prog X.w) X.A (assign target X.env u) (λ_ s'=>∃σ' H',Inv X bE1 σ' H' s'/\Q σ' H') X.xe s
def PGs (X:Cx)(ts:List Expr)(t:TGs):Prop:=
 ∀(bE1:bEZ) (s:Shared) (σ:St) (H:Hp) (vs:List V) (us:List Value) (Q:St->Hp->Prop),Inv X bE1 σ H s->Vals vs us->t vs σ H Q ->
  wpAny (model X.prog X.w) X.A (assignInOrder ((assignEach ts X.env).map (·.2)) us) (λ_ s'=>∃σ' H',Inv X bE1 σ' H' s'/\Q σ' H') X.xe s
abbrev aUh:=V->V->V->Hp->(Hp->Prop)->Prop
def aZc (X:Cx)(t:aUh):Prop:=
 ∀(bE1:bEZ) (s:Shared) (σ:St) (H:Hp) (o i v:V) (ov iv u:Value) (Q:Hp->Prop),Inv X bE1 σ H s->RelV o ov->RelV i iv->RelV v u->t o i v H Q ->
  wpAny (model X.prog X.w) X.A (setItem ov iv u) (λ_ s'=>∃H',Inv X bE1 σ H' s'/\Q H') X.xe s
section
variable {X:Cx}{pos:Pos}
def cB (i:Nat):TG:=λv σ H Q=>Q (σ.set i (some v)) H
theorem aUk {i:Nat}{x:Str}(hN:X.N.Nodup)(hi:X.N[i]?=some x)(hx:Loc X.env.scope x)(hf:X.fn x=true\/X.env.scope.names.lookup x=some .local:=by first|exact .inl rfl|exact .inr rfl|assumption):PG X (.Name x pos) (cB i):=by intro bE1 s σ H v u Q I r h;exact wpAny_assign_Name (aJi I hN hi hx r (λs' I'=>⟨_,H,I',h⟩) hf)
def aP8:TGs:=λvs σ H Q=>vs=[]/\Q σ H
def tO (t:TG)(u:TGs):TGs:=λvs σ H Q=>∃v r,vs=v::r/\t v σ H fun σ' H'=>u r σ' H' Q
theorem aU3:PGs X [] aP8:=by intro bE1 s σ H vs us Q I r h;obtain⟨e,h⟩:=h;subst e;cases r;exact assignInOrder_nil ⟨σ,H,I,h⟩
theorem aSi {e:Expr}{es:List Expr}{t:TG}{u:TGs}(h1:PG X e t)(h2:PGs X es u)
  (hs:(assignEach (e::es) X.env).map (·.2)=assign e X.env::(assignEach es X.env).map (·.2):=by rfl):PGs X (e::es) (tO t u):=by
 intro bE1 s σ H vs us Q I r h;obtain⟨v,vr,e1,h⟩:=h;subst e1;cases r with
 |cons r rr=>rw[hs];refine assignInOrder_cons (thn (h1 bE1 s σ H _ _ _ I r h) λ_ s1 ⟨σ1,H1,I1,q1⟩=>?_);exact h2 bE1 s1 σ1 H1 _ _ Q I1 rr q1
def aJ3 (K:bEX)(n:Nat)(t:TGs):TG:=λv σ H Q=>∃a xs,v=.ref a/\SqT K H a xs/\xs.length=n/\t xs σ H Q
theorem aZ1 {es:List Expr}{k:Nat}{t:TGs}{n:Nat}(hc:X.calm=true)(h:PGs X es t)
  (hn:(assignEach es X.env).length=n:=by rfl) (hst:(assignEach es X.env).findIdx? (·.1)=none:=by rfl):PG X (.Tuple es k pos) (aJ3 X.K n t):=by
 intro bE1 s σ H v u Q I r hw;obtain⟨a,xs,e1,hq,hl,hw⟩:=hw;subst e1;cases r;obtain⟨its,rv,ht,hz⟩:=I.tuple hq;refine assign_Tuple_tuple (I.ok.hd hc) ht (by simp[hn,<-hl,rv.length]) hst λh' hx=>?_;have I1:Inv X bE1 σ H { s with heap:=h' }:=I.kept (t':=s.toks) λb o e=>hx b o (v4 (m8 e)) e;exact h bE1 _ σ H xs _ Q I1 (by simpa using rv) hw
def aZ8 (to ti:TE)(t:aUh):TG:=λv σ H Q=>to σ H λo H1=>ti σ H1 λi H2=>t o i v H2 λH3=>Q σ H3
theorem aXv {o i:Expr}{to ti:TE}{t:aUh}(ho:PE X o to)(hi:PE X i ti)(hs:aZc X t)
  (ha:∀v,assign (.Subscript o i pos) X.env v=(do
   let ov <-holding [v] (eval o X.env)
   let iv <-holding [v,ov] (eval i X.env)
   standAt pos
   holding [v,ov,iv] (setItem ov iv v)
   release [v,ov,iv] []):=by intro _;rfl):PG X (.Subscript o i pos) (aZ8 to ti t):=by
 intro bE1 s σ H v u Q I r h;rw[ha];refine c7 (bAQ (thn (ho bE1 s σ H _ I h) λov s1 ⟨x,H1,I1,r1,q1⟩=>?_));refine c7 (bAQ (thn (hi bE1 s1 σ H1 _ I1 q1) λiv s2 ⟨y,H2,I2,r2,q2⟩=>?_));refine c7 (bEW (c7 (bAQ (thn (hs bE1 s2 σ H2 x y v ov iv u _ I2 r1 r2 r q2) λ_ s3 ⟨H3,I3,q3⟩=>?_))));exact wpAny_release ⟨σ,H3,I3,q3⟩
def zA (te:TE)(g:TG):TS:=λD σ H=>te σ H λx H1=>g x σ H1 D.nx
theorem aXs {tg e:Expr}{te:TE}{g:TG}(he:PE X e te)(hg:PG X tg g)(hs:swapsWithSole [tg] e pos.line X.env=pure false:=by rfl)(hw:swappedStores [tg] e X.env=pure none:=by rfl)
  (h1:(assignEach [tg] X.env).map (·.2)=[assign tg X.env]:=by rfl):PS X (.Assign [tg] e pos) (zA te g):=by
 intro bE1 s σ H D I h;refine wpAny_Assign_stores (thn (he bE1 s σ H _ I h) λv s1 ⟨x,H1,I1,r1,q1⟩=>?_) hs hw;rw[h1];exact thn (hg bE1 s1 σ H1 x v _ I1 r1 q1) λ_ s2 q=>q
theorem aXz {i:Nat}{x:Str}{e:Expr}{te:TE}{pos':Pos}(hN:X.N.Nodup)(hi:X.N[i]?=some x)(hx:Loc X.env.scope x)(he:PE X e te)(hs:swapsWith e (some (.Name x pos')) pos.line X.env=pure false:=by rfl)(hf:X.fn x=true\/X.env.scope.names.lookup x=some .local:=by first|exact .inl rfl|exact .inr rfl|assumption) :
  PS X (.Assign [.Name x pos'] e pos) (zA te (cB i)):=by
 intro bE1 s σ H D I h;refine wpAny_Assign_Name (thn (he bE1 s σ H _ I h) λv s1 ⟨y,H1,I1,r1,q1⟩=>?_) hs;exact aJi I1 hN hi hx r1 (λs2 I2=>⟨_,H1,I2,q1⟩) hf
end
structure It where
 go:Nat->Hp->Prop
 yld:Nat->Hp->V->Hp->Prop
 stop:Nat->Hp->Prop
def sV (X:Cx)(bE1:bEZ)(H:Hp)(b:Addr):Prop:=
 H b=none/\b≠X.env.locals/\b∉X.fs/\(b∈X.ex\/X.s₀.heap.objs.size<=b)/\(∀x c,X.env.cells.lookup x=some c->c≠b)/\∀p∈X.pn++bE1,p.1≠b
theorem Inv.aFp {X:Cx}{bE1:bEZ}{σ:St}{H H':Hp}{s:Shared}{b:Addr}(I:Inv X bE1 σ H s)(hb:s.heap.objs.size<=b)(hn:H' b=none):sV X bE1 H' b:=by
 refine⟨hn,bCL (bAA I.lt hb),I.nofs hb,.inr (bAL I.sz hb),λx c e z=>?_,λp hp z=>?_⟩
 ·obtain⟨v,q⟩:=I.cell x c e;exact absurd (bAA q.lt (by rw[z];exact hb)) (bBN _)
 ·exact absurd (bAA (m8 (I.pin p hp).1) (by rw[z];exact hb)) (bBN _)
structure Turn (P:Program)(w:World)(K:bEX)(tg:Expr)(J:It)(fp:List Addr)(it:Addr)(tn:Nat->Heap->Prop):Prop where
 mem:it∈fp
 obj:∀i h,tn i h->∀b∈fp,∃o,h.get? b=some o/\∀v,o.data≠.cell v
 keep:∀i h h',tn i h->(∀b∈fp,∀o,h.get? b=some o->h'.get? b=some o)->tn i h'
 item:∀(X:Cx),X.prog=P->X.w=w->X.K=K->X.calm=true->∀(i:Nat) (bE1:bEZ) (s:Shared) (σ:St) (H:Hp) (E:bEY),Inv X bE1 σ H s->(∀b∈fp,sV X bE1 H b)->tn i s.heap->J.go i H ->
  wpAny (model P w) X.A (pyNext (.ref it)) (λr s1=>∃u,r=some u /\
   wpAny (model P w) X.A (letOwnedTupleGo tg (.ref it) u) (λ_ s2=>∃x H',Inv X bE1 σ H' s2/\RelV x u/\J.yld i H x H'/\tn (i+1) s2.heap/\∀b∈fp,H' b=none) E s1) E s
 done:∀(X:Cx),X.prog=P->X.w=w->X.K=K->X.calm=true->∀(i:Nat) (bE1:bEZ) (s:Shared) (σ:St) (H:Hp) (E:bEY),Inv X bE1 σ H s->(∀b∈fp,sV X bE1 H b)->tn i s.heap->J.stop i H ->
  wpAny (model P w) X.A (pyNext (.ref it)) (λr s1=>r=none/\Inv X bE1 σ H s1) E s
 self:∀(A:Around) (i:Nat) (s:Shared) (Q:bEY) (E:bEY),tn i s.heap->Q (.ref it) s->wpAny (model P w) A (pyIter (.ref it)) Q E s
abbrev TI:=St->Hp->(It->Hp->Prop)->Prop
def PIE (X:Cx)(bE1:bEZ)(σ:St)(tg:Expr)(R:It->Hp->Prop)(itv:Value)(s2:Shared):Prop:=
 ∃(it:Addr) (fp:List Addr) (tn:Nat->Heap->Prop) (J:It) (H':Hp),itv=.ref it/\Inv X bE1 σ H' s2/\Turn X.prog X.w X.K tg J fp it tn/\tn 0 s2.heap/\(∀b∈fp,sV X bE1 H' b)/\R J H'
def PI (X:Cx)(tg iter:Expr)(wi:TI):Prop:=
 ∀(bE1:bEZ) (s:Shared) (σ:St) (H:Hp) (R:It->Hp->Prop),Inv X bE1 σ H s->wi σ H R ->
  wpAny (model X.prog X.w) X.A (eval iter X.env) (λv s1=>wpAny (model X.prog X.w) X.A (pyIter v) (PIE X bE1 σ tg R) X.xe s1) X.xe s
theorem aGx {M:Model}{A:Around}{E:bEY}{s:Shared}{tg:Expr}{it:Addr}{u:Value}{o:Obj}{n:String}{vs:Array Value}{Q:Unit->Shared->Prop}(ho:s.heap.get? it=some o)(hc:o.cls=.type n)(hd:o.data=.fields vs)
  (hn:["enumerate","zip","dict_itemiterator","dict_reverseitemiterator","odict_iterator","itertools.zip_longest","itertools.pairwise"].contains n=false) (hQ:Q () s):wpAny M A (letOwnedTupleGo tg (.ref it) u) Q E s:=by
 unfold letOwnedTupleGo;cases tg <;> first
  |exact d9 hQ
  |(cases u <;> first
    |exact d9 hQ
    |(refine c7 (wpAny_load ho ?_);rw[hc,hd];show wpAny M A (if (["enumerate","zip","dict_itemiterator","dict_reverseitemiterator","odict_iterator","itertools.zip_longest","itertools.pairwise"].contains n && vs[0]? == some (rawInt _))=true then _ else _) Q E s;rw[if_neg (by intro h;rw[hn,Bool.false_and] at h;cases h)];exact d9 hQ))
def Itl (K:bEX)(a:Addr):It:=
 ⟨λi H=>∃xs x,SqL K H a xs/\xs[i]?=some x,λi H x H'=>H'=H/\∀xs,SqL K H a xs->xs[i]?=some x,λi H=>∃xs,SqL K H a xs/\xs.length<=i⟩
def Itt (K:bEX)(a:Addr):It:=
 ⟨λi H=>∃xs x,SqT K H a xs/\xs[i]?=some x,λi H x H'=>H'=H/\∀xs,SqT K H a xs->xs[i]?=some x,λi H=>∃xs,SqT K H a xs/\xs.length<=i⟩
def Itr (lo:Int)(n:Nat):It:=⟨λi _=>i<n,λi H x H'=>H'=H/\x=.int (lo+i),λi _=>n<=i⟩
theorem aPg {P:Program}{w:World}{K:bEX}{tg:Expr}(a it:Addr):Turn P w K tg (Itl K a) [it] it (λi h=>h.IsListIter it a i) where
 mem:=by simp
 obj:=λi h st b hb=>by
  have e:b=it:=by simpa using hb
  subst e;obtain⟨o,e,c,d⟩:=st;exact⟨o,e,λv z=>by rw[d] at z;cases z⟩
 keep:=λi h h' st k=>st.at λo e=>k it (by simp) o e
 item:=by intro X hP hw hK hc i bE1 s σ H E I hf st hg;subst hP hw hK;obtain⟨xs,x,hq,hx⟩:=hg;obtain⟨its,rv,p,hz⟩:=I.list hq;obtain⟨u,hu,ru⟩:=rv.get hx;obtain⟨f0,f1,f2,f3,f4,f5⟩:=hf it (by simp);refine wpAny_pyNext_list_item st p.isList (x:=u) (by simpa using hu) λh' st' sb=>?_;have I1:Inv X bE1 σ H { s with heap:=h' }:=I.turned (t':=s.toks) (λb o hb e=>(sb.2 b hb).trans e) f0 f1 f3 f4 f5;obtain⟨o,e,c,d⟩:=id st';exact⟨u,rfl,aGx (s:={ s with heap:=h' }) e c d (by decide) ⟨x,H,I1,ru,⟨rfl,λys hy=>by rw[I.aRy hy hq];exact hx⟩,st',λb hb=>(hf b hb).1⟩⟩
 done:=by intro X hP hw hK hc i bE1 s σ H E I hf st hg;subst hP hw hK;obtain⟨xs,hq,hx⟩:=hg;obtain⟨its,rv,p,hz⟩:=I.list hq;obtain⟨f0,f1,f2,f3,f4,f5⟩:=hf it (by simp);have hl:=rv.length;exact wpAny_pyNext_list_end (I.ok.hd hc) st p.isList (by simp;lia) λh' eb=>⟨rfl,I.turned (t':=s.toks) (λb o hb e=>eb b o hb e) f0 f1 f3 f4 f5⟩
 self:=λ_ _ _ _ _ st h=>wpAny_pyIter_listiter st h
theorem aKz {P:Program}{w:World}{K:bEX}{tg:Expr}(a it:Addr):Turn P w K tg (Itt K a) [it] it (λi h=>h.IsTupleIter it a i) where
 mem:=by simp
 obj:=λi h st b hb=>by
  have e:b=it:=by simpa using hb
  subst e;obtain⟨o,e,c,d⟩:=st;exact⟨o,e,λv z=>by rw[d] at z;cases z⟩
 keep:=λi h h' st k=>st.at λo e=>k it (by simp) o e
 item:=by intro X hP hw hK hc i bE1 s σ H E I hf st hg;subst hP hw hK;obtain⟨xs,x,hq,hx⟩:=hg;obtain⟨its,rv,p,hz⟩:=I.tuple hq;obtain⟨u,hu,ru⟩:=rv.get hx;obtain⟨f0,f1,f2,f3,f4,f5⟩:=hf it (by simp);refine wpAny_pyNext_tuple_item st (show s.heap.IsTuple a its.toArray from p) (x:=u) (by simpa using hu) λh' st' sb=>?_;have I1:Inv X bE1 σ H { s with heap:=h' }:=I.turned (t':=s.toks) (λb o hb e=>(sb.2 b hb).trans e) f0 f1 f3 f4 f5;obtain⟨o,e,c,d⟩:=id st';exact⟨u,rfl,aGx (s:={ s with heap:=h' }) e c d (by decide) ⟨x,H,I1,ru,⟨rfl,λys hy=>by rw[I.aOz hy hq];exact hx⟩,st',λb hb=>(hf b hb).1⟩⟩
 done:=by intro X hP hw hK hc i bE1 s σ H E I hf st hg;subst hP hw hK;obtain⟨xs,hq,hx⟩:=hg;obtain⟨its,rv,p,hz⟩:=I.tuple hq;obtain⟨f0,f1,f2,f3,f4,f5⟩:=hf it (by simp);have hl:=rv.length;exact wpAny_pyNext_tuple_end (I.ok.hd hc) st (show s.heap.IsTuple a its.toArray from p) (by simp;lia) λh' eb=>⟨rfl,I.turned (t':=s.toks) (λb o hb e=>eb b o hb e) f0 f1 f3 f4 f5⟩
 self:=λ_ _ _ _ _ st h=>wpAny_pyIter_tupleiter st h
theorem aLi {P:Program}{w:World}{K:bEX}{tg:Expr}(it:Addr)(lo:Int)(n:Nat):Turn P w K tg (Itr lo n) [it] it (λi h=>IsRangeIter h it (lo+(i:Nat) * 1) ((n:Int) - (i:Nat)) 1) where
 mem:=by simp
 obj:=λi h st b hb=>by
  have e:b=it:=by simpa using hb
  subst e;exact⟨_,st,λv z=>by have z':Data.fields _=Data.cell v:=z;cases z'⟩
 keep:=λi h h' st k=>k it (by simp) _ st
 item:=by intro X hP hw hK hc i bE1 s σ H E I hf st hg;subst hP hw hK;obtain⟨f0,f1,f2,f3,f4,f5⟩:=hf it (by simp);have W:=Walks.range (prog:=X.prog) (w:=X.w) (I.ok.hd hc) it lo 1 n;refine W.item i s _ _ hg st λv h' tk hv st' kk=>?_;obtain⟨t,rfl⟩:=hv;have I1:Inv X bE1 σ H { s with heap:=h',toks:=tk }:=I.turned (λb o hb e=>kk b o (by simpa using hb) e) f0 f1 f3 f4 f5;refine⟨_,rfl,aGx (s:={ s with heap:=h',toks:=tk }) (n:="range_iterator") st' rfl rfl (by decide) ⟨.int (lo+i),H,I1,⟨t,?_⟩,⟨rfl,rfl⟩,st',λb hb=>(hf b hb).1⟩⟩;rw[Int.mul_one]
 done:=by intro X hP hw hK hc i bE1 s σ H E I hf st hg;subst hP hw hK;obtain⟨f0,f1,f2,f3,f4,f5⟩:=hf it (by simp);exact wpAny_pyNext_range_end (I.ok.hd hc) st (by have:n<=i:=hg;lia) λh' eb=>⟨rfl,I.turned (t':=s.toks) (λb o hb e=>eb b o hb e) f0 f1 f3 f4 f5⟩
 self:=λ_ _ _ _ _ st h=>wpAny_pyIter_rangeiter st h
section
variable {X:Cx}{tg:Expr}
def aEj (K:bEX)(tl:TE):TI:=fun σ H R=>tl σ H λx H1=>∃a,x=.ref a/\(∃xs,SqL K H1 a xs)/\R (Itl K a) H1
def aV0 (K:bEX)(tl:TE):TI:=fun σ H R=>tl σ H λx H1=>∃a,x=.ref a/\(∃xs,SqT K H1 a xs)/\R (Itt K a) H1
theorem aT9 {l:Expr}{tl:TE}(hl:PE X l tl):PI X tg l (aEj X.K tl):=by
 intro bE1 s σ H R I h;refine thn (hl bE1 s σ H _ I h) λv s1 ⟨x,H1,I1,r1,q1⟩=>?_;obtain⟨a,e,⟨xs,hq⟩,q⟩:=q1;subst e;cases r1;obtain⟨its,rv,p,hz⟩:=I1.list hq;refine bB3 p.isList ?_;refine⟨s1.heap.objs.size,[s1.heap.objs.size],_,_,H1,rfl,I1.kept (t':=s1.toks) λb o e=>d8 _ e,aPg a _,⟨_,j5 _ rfl,rfl,rfl⟩,λb hb=>?_,q⟩;have e:b=s1.heap.objs.size:=by simpa using hb
 subst e;exact I1.aFp (j0 _) (I1.hok.fresh (j0 _))
theorem aX7 {l:Expr}{tl:TE}(hl:PE X l tl):PI X tg l (aV0 X.K tl):=by
 intro bE1 s σ H R I h;refine thn (hl bE1 s σ H _ I h) λv s1 ⟨x,H1,I1,r1,q1⟩=>?_;obtain⟨a,e,⟨xs,hq⟩,q⟩:=q1;subst e;cases r1;obtain⟨its,rv,p,hz⟩:=I1.tuple hq;refine bEL (show s1.heap.IsTuple a its.toArray from p) ?_;refine⟨s1.heap.objs.size,[s1.heap.objs.size],_,_,H1,rfl,I1.kept (t':=s1.toks) λb o e=>d8 _ e,aKz a _,⟨_,j5 _ rfl,rfl,rfl⟩,λb hb=>?_,q⟩;have e:b=s1.heap.objs.size:=by simpa using hb
 subst e;exact I1.aFp (j0 _) (I1.hok.fresh (j0 _))
theorem aHx {bE1:bEZ}{σ:St}{H:Hp}{s:Shared}{R:It->Hp->Prop}{E:bEY}{lo hi:Int}{t u v:Tok}{tk:Nat}(I:Inv X bE1 σ H s)(h1:-(2 ^ 62)<=lo)(h2:lo<2 ^ 62)(h3:-(2 ^ 62)<=hi)(h4:hi<2 ^ 62)
  (q:R (Itr lo (hi - lo).toNat) H):wpAny (model X.prog X.w) X.A (pyIter (.ref s.heap.objs.size)) (PIE X bE1 σ tg R) E { s with heap:=s.heap.push { cls:=.type "range",data:=.fields #[.int lo t,.int hi u,.int 1 v] },toks:=tk }:=by
 refine wpAny_pyIter_range (IsRange.new ..) (small_one h1 h2 h3 h4) ?_;have I1:Inv X bE1 σ H { s with heap:=s.heap.push { cls:=.type "range",data:=.fields #[.int lo t,.int hi u,.int 1 v] },toks:=tk }:=I.kept λb o e=>d8 _ e;refine⟨(s.heap.push { cls:=.type "range",data:=.fields #[.int lo t,.int hi u,.int 1 v] }).objs.size,[(s.heap.push { cls:=.type "range",data:=.fields #[.int lo t,.int hi u,.int 1 v] }).objs.size],_,_,H,rfl,
  I1.kept (t':=tk) λb o e=>d8 _ e,aLi _ lo (hi - lo).toNat,?_,λb hb=>?_,q⟩
 ·have e1:lo+((0:Nat):Int) * 1=lo:=by simp
  have e2:(((hi - lo).toNat:Nat):Int) - ((0:Nat):Int)=Builtin.Range.rangeSize lo hi 1:=by rw[rangeSize_one];split <;> lia
  show IsRangeIter _ _ (lo+((0:Nat):Int) * 1) ((((hi - lo).toNat:Nat):Int) - ((0:Nat):Int)) 1;rw[e1,e2];exact j5 _ rfl
 ·have e:b=(s.heap.push { cls:=.type "range",data:=.fields #[.int lo t,.int hi u,.int 1 v] }).objs.size:=by simpa using hb
  subst e;exact I1.aFp (j0 _) (I1.hok.fresh (j0 _))
def aSf (ta:TA):TI:=fun σ H R=>ta σ H λvs H1=>∃j:Int,vs=[.int j]/\-(2 ^ 62)<=j/\j<2 ^ 62/\R (Itr 0 j.toNat) H1
def aW7 (ta:TA):TI:=fun σ H R=>ta σ H λvs H1=>∃i j:Int,vs=[.int i,.int j]/\(-(2 ^ 62)<=i/\i<2 ^ 62/\-(2 ^ 62)<=j/\j<2 ^ 62)/\R (Itr i (j - i).toNat) H1
theorem aPi {a:Expr}{ta:TA}{p pos:Pos}(hg:Gl X "range")(hm:X.mg "range"=none)(ha:PA X [a] ta)(hs:starEach [a] X.env=[(false,eval a X.env)]:=by rfl):PI X tg (.Call (.Name "range" p) [a] [] pos) (aSf ta):=by
 intro bE1 s σ H R I h;refine Call_ (pR I hg hm boot_range (bBP (thn (ha pos bE1 s σ H _ I h) λus s1 ⟨vs,H1,I1,r1,q1⟩=>?_) hs rfl));obtain⟨j,e,q1,q2,q⟩:=q1;subst e;cases r1 with
 |cons r rr=>cases rr;obtain⟨t,rfl⟩:=r;exact call_range_1 (aHx I1 (by lia) (by lia) q1 q2 (by simpa using q))
theorem aOj {a b:Expr}{ta:TA}{p pos:Pos}(hg:Gl X "range")(hm:X.mg "range"=none)(ha:PA X [a,b] ta)(hs:starEach [a,b] X.env=[(false,eval a X.env),(false,eval b X.env)]:=by rfl)(hs2:starEach [b] X.env=[(false,eval b X.env)]:=by rfl) :
  PI X tg (.Call (.Name "range" p) [a,b] [] pos) (aW7 ta):=by
 intro bE1 s σ H R I h;refine Call_ (pR I hg hm boot_range (bBP (thn (ha pos bE1 s σ H _ I h) λus s1 ⟨vs,H1,I1,r1,q1⟩=>?_) (by rw[hs,hs2]) (by rw[hs2];rfl)));obtain⟨i,j,e,⟨q1,q2,q3,q4⟩,q⟩:=q1;subst e;cases r1 with
 |cons r rr=>
  cases rr with
  |cons r' rr=>cases rr;obtain⟨t,rfl⟩:=r;obtain⟨t',rfl⟩:=r';exact call_range_2 (aHx I1 q1 q2 q3 q4 q)
def aZp (wi:TI)(g:TG)(tb:TS):TS:=λD σ H=>wi σ H λJ H1=>∃W:Nat->Nat->St->Hp->Prop,(∃m,W 0 m σ H1)/\∀i m σ H,W i m σ H ->
 (J.stop i H/\D.nx σ H)\/(J.go i H/\∃N:St->Hp->Prop,(∀σ' H',N σ' H'->∃m',m'<m/\W (i+1) m' σ' H')/\∀x H',J.yld i H x H'->g x σ H' fun σ2 H2=>tb { D with nx:=N,ct:=N,bk:=D.nx } σ2 H2)
def xQ (fp:List Addr)(h:Heap):bEZ:=fp.filterMap λb=>(h.get? b).map λo=>(b,o)
theorem jJ {fp:List Addr}{h:Heap}{b:Addr}{o:Obj}(hb:b∈fp)(e:h.get? b=some o):(b,o)∈xQ fp h:=List.mem_filterMap.mpr ⟨b,hb,by rw[e];rfl⟩
theorem aOl {fp:List Addr}{h:Heap}{p:Addr × Obj}(hp:p∈xQ fp h):p.1∈fp/\h.get? p.1=some p.2:=by
 obtain⟨b,hb,e⟩:=List.mem_filterMap.mp hp;cases q:h.get? b with
 |none=>rw[q] at e;cases e
 |some o=>rw[q] at e;have e':(b,o)=p:=bAN e;subst e';exact⟨hb,q⟩
theorem Inv.pinned {bE1:bEZ}{σ:St}{H:Hp}{s:Shared}{fp:List Addr}(I:Inv X bE1 σ H s)(hf:∀b∈fp,sV X bE1 H b)(ho:∀b∈fp,∃o,s.heap.get? b=some o/\∀v,o.data≠.cell v):Inv X (bE1++xQ fp s.heap) σ H s:=
 I.aMu λp hp=>(List.mem_append.mp hp).elim (λz=>I.pin p (bAP _ z)) λz=>by obtain⟨hb,e⟩:=aOl z;obtain⟨f0,f1,f2,_⟩:=hf p.1 hb;obtain⟨o,e',d⟩:=ho p.1 hb;rw[e] at e';cases e';exact⟨e,f0,f1,f2,d⟩
theorem Inv.lQ {bE1 pl:bEZ}{σ:St}{H:Hp}{s:Shared}(I:Inv X (bE1++pl) σ H s):Inv X bE1 σ H s:=I.aMu λp hp=>I.pin p (bAP _ (bCG _ hp))
theorem aY5 {iter:Expr}{body:List Stmt}{wi:TI}{g:TG}{tb:TS}{pos:Pos}(hp:PassesOwn (model X.prog X.w) X.A X.env X.xe)(hc:X.calm=true)(hi:PI X tg iter wi)(hg:PG X tg g)(hb:PSs X body tb)
  (hs:∀x,foldedSetIterable iter X.env x=pure x:=by intro _;rfl):PS X (.For tg iter body [] pos) (aZp wi g tb):=by
 intro bE1 s σ H D I h;refine wpAny_For (thn (hi bE1 s σ H _ I h) λv s1 h1=>thn h1 λitv s2 h2=>?_) hs;obtain⟨it,fp,tn,J,H2,e,I2,T,st2,f2,W,⟨m0,w0⟩,turn⟩:=h2;subst e;have stat:∀{H':Hp},(∀b∈fp,H' b=none)->∀b∈fp,sV X bE1 H' b:=λhn b hb=>⟨hn b hb,(f2 b hb).2⟩;refine codeAny_forLoop_any (λn s'=>∃i σ' H',Inv X bE1 σ' H' s'/\tn i s'.heap/\(∀b∈fp,H' b=none)/\W i n σ' H') ?_ m0 ⟨0,σ,H2,I2,st2,λb hb=>(f2 b hb).1,w0⟩;rintro n s3 ⟨i,σ3,H3,I3,st3,fr3,w3⟩;rcases turn i n σ3 H3 w3 with⟨stop,qn⟩|⟨go,N,hN,step⟩
 ·refine bDJ hp (thn (T.done X rfl rfl rfl hc i bE1 s3 σ3 H3 X.xe I3 (stat fr3) st3 stop) λr s4 ⟨hr,I4⟩=>?_);subst hr;exact wpAny_execs_nil ⟨σ3,H3,I4,qn⟩
 ·refine bDJ hp (thn (T.item X rfl rfl rfl hc i bE1 s3 σ3 H3 X.xe I3 (stat fr3) st3 go) λr s4 ⟨u,hr,h4⟩=>?_);subst hr;refine bDJ hp (thn h4 λ_ s5 ⟨x,H5,I5,r5,y5,st5,fr5⟩=>?_);have I5':=I5.pinned (stat fr5) (T.obj _ _ st5);refine bDJ hp (thn (hg _ s5 σ3 H5 x u _ I5' r5 (step x H5 y5)) λ_ s6 ⟨σ6,H6,I6,q6⟩=>?_);refine bDJ hp (thn (hb _ s6 σ6 H6 _ I6 q6) λf s7 q7=>?_);have again:∀{σ7:St} {H7:Hp},Inv X (bE1++xQ fp s5.heap) σ7 H7 s7->N σ7 H7->∃m,m<n/\∃i σ' H',Inv X bE1 σ' H' s7/\tn i s7.heap/\(∀b∈fp,H' b=none)/\W i m σ' H':=λ{σ7 H7} I7 n7=>by obtain⟨m',hm,w7⟩:=hN σ7 H7 n7;refine⟨m',hm,i+1,σ7,H7,I7.lQ,T.keep _ _ _ st5 λb hb o e=>(I7.pin (b,o) (bAP _ (bAP _ (jJ hb e)))).1,λb hb=>?_,w7⟩;obtain⟨o,e,d⟩:=T.obj _ _ st5 b hb;exact (I7.pin (b,o) (bAP _ (bAP _ (jJ hb e)))).2.1
  cases f with
  |next=>obtain⟨σ7,H7,I7,n7⟩:=q7;exact again I7 n7
  |cont=>obtain⟨σ7,H7,I7,n7⟩:=q7;exact again I7 n7
  |brk=>obtain⟨σ7,H7,I7,q7⟩:=q7;exact⟨σ7,H7,I7.lQ,q7⟩
  |ret v=>obtain⟨x7,σ7,H7,I7,r7,q7⟩:=q7;exact⟨x7,σ7,H7,I7.lQ,r7,q7⟩
end
theorem aJx {K:bEX}{a:Addr}{xs:List V}{g:TG}{tb:TS}{D:Ends}{σ:St}{H:Hp}(Pv:Nat->St->Hp->Prop)(h0:Pv 0 σ H)(hl:∀i σ H,i<=xs.length->Pv i σ H->SqL K H a xs)
  (hs:∀i x σ H,xs[i]?=some x->Pv i σ H->g x σ H fun σ2 H2=>tb { D with nx:=Pv (i+1),ct:=Pv (i+1),bk:=D.nx } σ2 H2) (hd:∀σ H,Pv xs.length σ H->D.nx σ H) :
  ∃W:Nat->Nat->St->Hp->Prop,(∃m,W 0 m σ H)/\∀i m σ H,W i m σ H ->
   ((Itl K a).stop i H/\D.nx σ H)\/((Itl K a).go i H/\∃N:St->Hp->Prop,(∀σ' H',N σ' H'->∃m',m'<m/\W (i+1) m' σ' H')/\∀x H',(Itl K a).yld i H x H'->g x σ H' fun σ2 H2=>tb { D with nx:=N,ct:=N,bk:=D.nx } σ2 H2):=by
 refine⟨λi m σ H=>m=xs.length - i/\i<=xs.length/\Pv i σ H,⟨xs.length,by simp,bAE _,h0⟩,?_⟩;rintro i m σ H ⟨rfl,hi,p⟩;have q:=hl i σ H hi p;by_cases hlt:i<xs.length
 ·refine .inr ⟨⟨xs,xs[i],q,by simp[hlt]⟩,Pv (i+1),fun σ' H' p'=>⟨xs.length - (i+1),by lia,rfl,hlt,p'⟩,λx H' y=>?_⟩;obtain⟨e,y⟩:=y;subst e;exact hs i x σ _ (y xs q) p
 ·have e:i=xs.length:=by lia
  subst e;exact .inl ⟨⟨xs,q,j0 _⟩,hd σ H p⟩
theorem aWn {K:bEX}{a:Addr}{xs:List V}{g:TG}{tb:TS}{D:Ends}{σ:St}{H:Hp}(Pv:Nat->St->Hp->Prop)(h0:Pv 0 σ H)(hl:∀i σ H,i<=xs.length->Pv i σ H->SqT K H a xs)
  (hs:∀i x σ H,xs[i]?=some x->Pv i σ H->g x σ H fun σ2 H2=>tb { D with nx:=Pv (i+1),ct:=Pv (i+1),bk:=D.nx } σ2 H2) (hd:∀σ H,Pv xs.length σ H->D.nx σ H) :
  ∃W:Nat->Nat->St->Hp->Prop,(∃m,W 0 m σ H)/\∀i m σ H,W i m σ H ->
   ((Itt K a).stop i H/\D.nx σ H)\/((Itt K a).go i H/\∃N:St->Hp->Prop,(∀σ' H',N σ' H'->∃m',m'<m/\W (i+1) m' σ' H')/\∀x H',(Itt K a).yld i H x H'->g x σ H' fun σ2 H2=>tb { D with nx:=N,ct:=N,bk:=D.nx } σ2 H2):=by
 refine⟨λi m σ H=>m=xs.length - i/\i<=xs.length/\Pv i σ H,⟨xs.length,by simp,bAE _,h0⟩,?_⟩;rintro i m σ H ⟨rfl,hi,p⟩;have q:=hl i σ H hi p;by_cases hlt:i<xs.length
 ·refine .inr ⟨⟨xs,xs[i],q,by simp[hlt]⟩,Pv (i+1),fun σ' H' p'=>⟨xs.length - (i+1),by lia,rfl,hlt,p'⟩,λx H' y=>?_⟩;obtain⟨e,y⟩:=y;subst e;exact hs i x σ _ (y xs q) p
 ·have e:i=xs.length:=by lia
  subst e;exact .inl ⟨⟨xs,q,j0 _⟩,hd σ H p⟩
theorem jH {lo:Int}{n:Nat}{g:TG}{tb:TS}{D:Ends}{σ:St}{H:Hp}(Pv:Nat->St->Hp->Prop)(h0:Pv 0 σ H)
  (hs:∀i σ H,i<n->Pv i σ H->g (.int (lo+i)) σ H fun σ2 H2=>tb { D with nx:=Pv (i+1),ct:=Pv (i+1),bk:=D.nx } σ2 H2) (hd:∀σ H,Pv n σ H->D.nx σ H) :
  ∃W:Nat->Nat->St->Hp->Prop,(∃m,W 0 m σ H)/\∀i m σ H,W i m σ H ->
   ((Itr lo n).stop i H/\D.nx σ H)\/((Itr lo n).go i H/\∃N:St->Hp->Prop,(∀σ' H',N σ' H'->∃m',m'<m/\W (i+1) m' σ' H')/\∀x H',(Itr lo n).yld i H x H'->g x σ H' fun σ2 H2=>tb { D with nx:=N,ct:=N,bk:=D.nx } σ2 H2):=by
 refine⟨λi m σ H=>m=n - i/\i<=n/\Pv i σ H,⟨n,by simp,bAE _,h0⟩,?_⟩;rintro i m σ H ⟨rfl,hi,p⟩;by_cases hlt:i<n
 ·refine .inr ⟨hlt,Pv (i+1),fun σ' H' p'=>⟨n - (i+1),by lia,rfl,hlt,p'⟩,λx H' y=>?_⟩;obtain⟨e,y⟩:=y;subst e y;exact hs i σ _ hlt p
 ·have e:i=n:=by lia
  subst e;exact .inl ⟨j0 _,hd σ H p⟩
abbrev R2:=V->V->Hp->VK->Prop
def OpR (X:Cx)(f:Value->Value->Sem Value)(r:R2):Prop:=
 ∀(bE1:bEZ) (s:Shared) (σ:St) (H:Hp) (x y:V) (v u:Value) (Q:VK),Inv X bE1 σ H s->RelV x v->RelV y u->r x y H Q ->
  wpAny (model X.prog X.w) X.A (f v u) (EP X bE1 σ Q) X.xe s
def UnR (X:Cx)(f:Value->Sem Value)(r:V->Hp->VK->Prop):Prop:=
 ∀(bE1:bEZ) (s:Shared) (σ:St) (H:Hp) (x:V) (v:Value) (Q:VK),Inv X bE1 σ H s->RelV x v->r x H Q ->
  wpAny (model X.prog X.w) X.A (f v) (EP X bE1 σ Q) X.xe s
def cI (X:Cx)(f:Value)(r:List V->Hp->VK->Prop):Prop:=
 ∀(bE1:bEZ) (s:Shared) (σ:St) (H:Hp) (xs:List V) (us:List Value) (Q:VK),Inv X bE1 σ H s->Vals xs us->r xs H Q ->
  wpAny (model X.prog X.w) X.A (call f us) (EP X bE1 σ Q) X.xe s
def bB2 (X:Cx)(r:V->Hp->(Bool->Hp->Prop)->Prop):Prop:=
 ∀(bE1:bEZ) (s:Shared) (σ:St) (H:Hp) (x:V) (v:Value) (Q:Bool->Hp->Prop),Inv X bE1 σ H s->RelV x v->r x H Q ->
  wpAny (model X.prog X.w) X.A (truthy v) (TP X bE1 σ Q) X.xe s
def tOp (r:R2)(ta tb:TE):TE:=fun σ H Q=>ta σ H λx H1=>tb σ H1 λy H2=>r x y H2 Q
def tUn (r:V->Hp->VK->Prop)(ta:TE):TE:=fun σ H Q=>ta σ H λx H1=>r x H1 Q
def rI (C:Int->Int->Prop)(g:Int->Int->V):R2:=λx y H Q=>∃i j,x=.int i/\y=.int j/\C i j/\Q (g i j) H
def rI0 (g:Int->Int->V):R2:=λx y H Q=>∃i j,x=.int i/\y=.int j/\Q (g i j) H
def rU (g:Int->V):V->Hp->VK->Prop:=λx H Q=>∃i,x=.int i/\Q (g i) H
section
variable {X:Cx}{a b c:Expr}{ta tb tc:TE}{pos:Pos}
theorem aUm (ha:PE X a ta)(hb:PE X b tb){bE1:bEZ}{s:Shared}{σ:St}{H:Hp}{R:V->V->Hp->Prop}(I:Inv X bE1 σ H s)
  (h:ta σ H λx H1=>tb σ H1 λy H2=>R x y H2) {Q:bEY} {f:Value->Value->Sem Value}
  (hf:∀v u s2 x y H2,Inv X bE1 σ H2 s2->RelV x v->RelV y u->R x y H2->wpAny (model X.prog X.w) X.A (f v u) Q X.xe s2) :
  wpAny (model X.prog X.w) X.A (eval a X.env) (λv s₁=>wpAny (model X.prog X.w) X.A (eval b X.env) (λu s₂=>wpAny (model X.prog X.w) X.A (f v u) Q X.xe s₂) X.xe s₁) X.xe s:=by
 refine thn (ha bE1 s σ H _ I h) λv s1 ⟨x,H1,I1,r1,q1⟩=>?_;refine thn (hb bE1 s1 σ H1 _ I1 q1) λu s2 ⟨y,H2,I2,r2,q2⟩=>?_;exact hf v u s2 x y H2 I2 r1 r2 q2
theorem bBc {op:Operator}{r:R2}(ho:OpR X (binaryOp op) r)(ha:PE X a ta)(hb:PE X b tb):PE X (.BinOp a op b pos) (tOp r ta tb):=by intro bE1 s σ H Q I h;exact wpAny_BinOp (aUm ha hb I h λv u s2 x y H2 I2 rx ry q=>ho bE1 s2 σ H2 x y v u Q I2 rx ry q)
theorem bBe {op:UnaryOp}{r:V->Hp->VK->Prop}(ho:UnR X (unaryOp op) r)(ha:PE X a ta):PE X (.UnaryOp op a pos) (tUn r ta):=by intro bE1 s σ H Q I h;exact UnaryOp_ (thn (ha bE1 s σ H _ I h) λv s1 ⟨x,H1,I1,r1,q1⟩=>ho bE1 s1 σ H1 x v Q I1 r1 q1)
theorem opI {f:Value->Value->Sem Value}{C:Int->Int->Prop}{g:Int->Int->Int}
  (rule:∀(i j:Int) (t u:Tok) (s:Shared) (Q:bEY) (E:bEY),C i j->Q (.int (g i j) s.toks) { s with toks:=s.toks+1 }->wpAny (model X.prog X.w) X.A (f (.int i t) (.int j u)) Q E s) :
  OpR X f (rI C λi j=>.int (g i j)):=by
 intro bE1 s σ H x y v u Q I rx ry h;obtain⟨i,j,rfl,rfl,hc,q⟩:=h;obtain⟨t,rfl⟩:=rx;obtain⟨t',rfl⟩:=ry;exact rule i j t t' s _ _ hc ⟨.int (g i j),H,I.tok _,⟨_,rfl⟩,q⟩
theorem bAb {f:Value->Value->Sem Value}{g:Int->Int->Int}
  (rule:∀(i j:Int) (t u:Tok) (s:Shared) (Q:bEY) (E:bEY),Q (.int (g i j) s.toks) { s with toks:=s.toks+1 }->wpAny (model X.prog X.w) X.A (f (.int i t) (.int j u)) Q E s) :
  OpR X f (rI0 λi j=>.int (g i j)):=by
 intro bE1 s σ H x y v u Q I rx ry h;obtain⟨i,j,rfl,rfl,q⟩:=h;obtain⟨t,rfl⟩:=rx;obtain⟨t',rfl⟩:=ry;exact rule i j t t' s _ _ ⟨.int (g i j),H,I.tok _,⟨_,rfl⟩,q⟩
theorem aZe {f:Value->Value->Sem Value}{g:Int->Int->Bool}
  (rule:∀(i j:Int) (t u:Tok) (s:Shared) (Q:bEY) (E:bEY),Q (.bool (g i j)) s->wpAny (model X.prog X.w) X.A (f (.int i t) (.int j u)) Q E s) :
  OpR X f (rI0 λi j=>.bl (g i j)):=by
 intro bE1 s σ H x y v u Q I rx ry h;obtain⟨i,j,rfl,rfl,q⟩:=h;obtain⟨t,rfl⟩:=rx;obtain⟨t',rfl⟩:=ry;exact rule i j t t' s _ _ ⟨.bl (g i j),H,I,rfl,q⟩
def bBo (i j:Int):Prop:=0<j/\j<1073741824
def bBt (i j:Int):Prop:=0<=j/\j<=1000000/\i.natAbs<2 ^ 64
def aZj (i j:Int):Prop:=(-(2 ^ 64)<i/\i<2 ^ 64)\/(-(2 ^ 64)<j/\j<2 ^ 64)
theorem aZj.ok {i j:Int}(h:aZj i j):IntMulOk i j:=by
 rcases h with⟨h1,h2⟩|⟨h1,h2⟩
 ·exact .of_left (intBits_le_64 h1 h2)
 ·exact .of_right (intBits_le_64 h1 h2)
theorem eN:OpR X (binaryOp .Add) (rI0 λi j=>.int (i+j)):=bAb λ_ _ _ _ _ _ _ q=>add_int q
theorem aBa:OpR X (binaryOp .Sub) (rI0 λi j=>.int (i - j)):=bAb λ_ _ _ _ _ _ _ q=>sub_int q
theorem yE:OpR X (binaryOp .Mult) (rI aZj λi j=>.int (i * j)):=opI λ_ _ _ _ _ _ _ hc q=>mul_int q hc.ok
theorem aT7:OpR X (binaryOp .FloorDiv) (rI bBo λi j=>.int (i / j)):=opI λi j _ _ _ _ _ hc q=>by have h1:(0:Int)<j:=hc.1;have h2:j<1073741824:=hc.2;exact floordiv_int (by lia) (by rw[Int.fdiv_eq_ediv_of_nonneg i (by lia)];exact q) (.inl (PyProof.noPylong_small (by lia)))
theorem pG:OpR X (binaryOp .Mod) (rI (λ_ j=>0<j) λi j=>.int (i % j)):=opI λi j _ _ _ _ _ hc q=>by have h1:(0:Int)<j:=hc;exact mod_int' (by lia) (by rw[Int.fmod_eq_emod_of_nonneg i (by lia)];exact q)
theorem aJ2:OpR X (binaryOp .Pow) (rI bBt λi j=>.int (i ^ j.toNat)):=opI λ_ _ _ _ _ _ _ hc q=>pow_int_small hc.1 hc.2.1 hc.2.2 q
theorem unI {f:Value->Sem Value}{g:Int->Int}
  (rule:∀(i:Int) (t:Tok) (s:Shared) (Q:bEY) (E:bEY),Q (.int (g i) s.toks) { s with toks:=s.toks+1 }->wpAny (model X.prog X.w) X.A (f (.int i t)) Q E s) :
  UnR X f (rU λi=>.int (g i)):=by
 intro bE1 s σ H x v Q I rx h;obtain⟨i,rfl,q⟩:=h;obtain⟨t,rfl⟩:=rx;exact rule i t s _ _ ⟨.int (g i),H,I.tok _,⟨_,rfl⟩,q⟩
theorem aQv:UnR X (unaryOp .USub) (rU λi=>.int (-i)):=unI λ_ _ _ _ _ q=>neg_int q
end
def scal:V->V->Bool
 |.non,.non=>true|.non,.int _=>true|.int _,.non=>true|.non,.bl _=>true|.bl _,.non=>true|.non,.str _=>true|.str _,.non=>true
 |.int _,.int _=>true|.bl _,.bl _=>true|.str _,.str _=>true|.byt _,.byt _=>true
 |.int _,.str _=>true|.str _,.int _=>true|.bl _,.str _=>true|.str _,.bl _=>true
 |_,_=>false
def rEq:R2:=λx y H Q=>scal x y=true/\Q (.bl (decide (x=y))) H
def rNe:R2:=λx y H Q=>scal x y=true/\Q (.bl (!decide (x=y))) H
theorem aMs {i j:Int}:decide (V.int i=V.int j)=(i == j):=by rw[bCJ];simp
theorem aTl {i j:Bool}:decide (V.bl i=V.bl j)=(i == j):=by rw[bCJ];simp
theorem aNz {i j:Str}:decide (V.str i=V.str j)=(i == j):=by rw[bCJ];simp
theorem aN7 {i j:Array UInt8}:decide (V.byt i=V.byt j)=(i.toList == j.toList):=by rw[bCJ];cases i;cases j;simp
section
variable {X:Cx}{a b c:Expr}{ta tb tc:TE}{pos:Pos}
theorem bW {bE1:bEZ}{σ:St}{H:Hp}{s:Shared}{Q:VK}{k k':Bool}(I:Inv X bE1 σ H s)(q:Q (.bl k) H)(e:k=k'):EP X bE1 σ Q (.bool k') s:=by subst e;exact⟨.bl k,H,I,rfl,q⟩
theorem fK:OpR X (compareOp .Eq) rEq:=by
 intro bE1 s σ H x y v u Q I rx ry h;obtain⟨hs,q⟩:=h;cases x with
 |non=>
  cases rx;cases y with
  |non=>cases ry;exact PySem.EqNone.eq_none_none (bW I q (by simp))
  |bl j=>cases ry;exact PySem.EqNone.eq_none_bool (bW I q (by simp))
  |int j=>obtain⟨t',rfl⟩:=ry;exact PySem.EqNone.eq_none_int (bW I q (by simp))
  |str j=>obtain⟨t',rfl⟩:=ry;exact PySem.EqNone.eq_none_str (bW I q (by simp))
  |_=>exact absurd (show false=true from hs) t8
 |bl i=>
  cases rx;cases y with
  |non=>cases ry;exact PySem.EqNone.eq_bool_none (bW I q (by simp))
  |bl j=>cases ry;exact eq_bool (bW I q aTl)
  |str j=>obtain⟨t',rfl⟩:=ry;exact PySem.EqMixed.eq_bool_str (bW I q (by simp))
  |_=>exact absurd (show false=true from hs) t8
 |int i=>
  obtain⟨t,rfl⟩:=rx;cases y with
  |non=>cases ry;exact PySem.EqNone.eq_int_none (bW I q (by simp))
  |int j=>obtain⟨t',rfl⟩:=ry;exact eq_int (bW I q aMs)
  |str j=>obtain⟨t',rfl⟩:=ry;exact PySem.EqMixed.eq_int_str (bW I q (by simp))
  |_=>exact absurd (show false=true from hs) t8
 |str i=>
  obtain⟨t,rfl⟩:=rx;cases y with
  |non=>cases ry;exact PySem.EqNone.eq_str_none (bW I q (by simp))
  |bl j=>cases ry;exact PySem.EqMixed.eq_str_bool (bW I q (by simp))
  |int j=>obtain⟨t',rfl⟩:=ry;exact PySem.EqMixed.eq_str_int (bW I q (by simp))
  |str j=>obtain⟨t',rfl⟩:=ry;exact eq_str (bW I q aNz)
  |_=>exact absurd (show false=true from hs) t8
 |byt i=>
  obtain⟨t,rfl⟩:=rx;cases y with
  |byt j=>obtain⟨t',rfl⟩:=ry;exact PySem.W.eq_bytes (bW I q aN7)
  |_=>exact absurd (show false=true from hs) t8
 |_=>cases y <;> exact absurd (show false=true from hs) t8
theorem yV:OpR X (compareOp .NotEq) rNe:=by
 intro bE1 s σ H x y v u Q I rx ry h;obtain⟨hs,q⟩:=h;cases x with
 |non=>
  cases rx;cases y with
  |non=>cases ry;exact PySem.EqNone.ne_none_none (bW I q (by simp))
  |bl j=>cases ry;exact PySem.EqNone.ne_none_bool (bW I q (by simp))
  |int j=>obtain⟨t',rfl⟩:=ry;exact PySem.EqNone.ne_none_int (bW I q (by simp))
  |str j=>obtain⟨t',rfl⟩:=ry;exact PySem.EqNone.ne_none_str (bW I q (by simp))
  |_=>exact absurd (show false=true from hs) t8
 |bl i=>
  cases rx;cases y with
  |non=>cases ry;exact PySem.EqNone.ne_bool_none (bW I q (by simp))
  |bl j=>cases ry;exact ne_bool (bW I q (congrArg not aTl))
  |str j=>obtain⟨t',rfl⟩:=ry;exact PySem.EqMixed.ne_bool_str (bW I q (by simp))
  |_=>exact absurd (show false=true from hs) t8
 |int i=>
  obtain⟨t,rfl⟩:=rx;cases y with
  |non=>cases ry;exact PySem.EqNone.ne_int_none (bW I q (by simp))
  |int j=>obtain⟨t',rfl⟩:=ry;exact ne_int (bW I q (congrArg not aMs))
  |str j=>obtain⟨t',rfl⟩:=ry;exact PySem.EqMixed.ne_int_str (bW I q (by simp))
  |_=>exact absurd (show false=true from hs) t8
 |str i=>
  obtain⟨t,rfl⟩:=rx;cases y with
  |non=>cases ry;exact PySem.EqNone.ne_str_none (bW I q (by simp))
  |bl j=>cases ry;exact PySem.EqMixed.ne_str_bool (bW I q (by simp))
  |int j=>obtain⟨t',rfl⟩:=ry;exact PySem.EqMixed.ne_str_int (bW I q (by simp))
  |str j=>obtain⟨t',rfl⟩:=ry;exact ne_str (bW I q (congrArg not aNz))
  |_=>exact absurd (show false=true from hs) t8
 |byt i=>
  obtain⟨t,rfl⟩:=rx;cases y with
  |byt j=>obtain⟨t',rfl⟩:=ry;exact PySem.W.ne_bytes (bW I q (congrArg not aN7))
  |_=>exact absurd (show false=true from hs) t8
 |_=>cases y <;> exact absurd (show false=true from hs) t8
theorem aWx:OpR X (compareOp .Lt) (rI0 λi j=>.bl (decide (i<j))):=aZe λ_ _ _ _ _ _ _ q=>lt_int q
theorem aBu:OpR X (compareOp .LtE) (rI0 λi j=>.bl (decide (i<=j))):=aZe λ_ _ _ _ _ _ _ q=>le_int q
theorem bAe:OpR X (compareOp .Gt) (rI0 λi j=>.bl (decide (j<i))):=aZe λ_ _ _ _ _ _ _ q=>gt_int q
theorem aPc:OpR X (compareOp .In) (λx y H Q=>∃i j,x=.str i/\y=.str j/\Q (.bl (!(Builtin.Str.occurrences j i 0 j.length 1).isEmpty)) H):=by intro bE1 s σ H x y v u Q I rx ry h;obtain⟨i,j,rfl,rfl,q⟩:=h;obtain⟨t,rfl⟩:=rx;obtain⟨t',rfl⟩:=ry;exact in_str (bW I q rfl)
theorem aCc:OpR X (compareOp .Is) (λx y H Q=>y=.non/\Q (.bl (decide (x=.non))) H):=by
 intro bE1 s σ H x y v u Q I rx ry h;obtain⟨rfl,q⟩:=h;cases ry;refine is_none_gen (bW I q ?_);cases x <;> first
  |(cases rx;rfl)
  |(obtain⟨t,rfl⟩:=rx;rfl)
theorem aGt:OpR X (compareOp .IsNot) (λx y H Q=>y=.non/\Q (.bl (!decide (x=.non))) H):=by
 intro bE1 s σ H x y v u Q I rx ry h;obtain⟨rfl,q⟩:=h;cases ry;refine isnot_none_gen (bW I q ?_);cases x <;> first
  |(cases rx;rfl)
  |(obtain⟨t,rfl⟩:=rx;rfl)
theorem OpR.or {f:Value->Value->Sem Value}{r r':R2}(h:OpR X f r)(h':OpR X f r'):OpR X f (λx y H Q=>r x y H Q\/r' x y H Q):=by
 intro bE1 s σ H x y v u Q I rx ry q;rcases q with q|q
 ·exact h bE1 s σ H x y v u Q I rx ry q
 ·exact h' bE1 s σ H x y v u Q I rx ry q
theorem aY (b:Expr){op:CmpOp}(h:op≠.In:=by decide)(h2:op≠.NotIn:=by decide):behindInMarks op b=false:=by
 have e1:(op == CmpOp.In)=false:=by cases op <;> first|rfl|exact absurd rfl h
 have e2:(op == CmpOp.NotIn)=false:=by cases op <;> first|rfl|exact absurd rfl h2
 cases b <;> simp[behindInMarks,e1,e2]
theorem aT2 {op:CmpOp}{r:R2}(ho:OpR X (compareOp op) r)(ha:PE X a ta)(hb:PE X b tb)(hm:behindInMarks op b=false):PE X (.Compare a [op] [b] pos) (tOp r ta tb):=by intro bE1 s σ H Q I h;exact wpAny_Compare1 (aUm ha hb I h λv u s2 x y H2 I2 rx ry q=>ho bE1 s2 σ H2 x y v u Q I2 rx ry q) hm
def aM6 (t:TE):TT:=fun σ H Q=>t σ H λx H'=>∃k,x=.bl k/\Q k H'
theorem aWe {op:CmpOp}{r:R2}(ho:OpR X (compareOp op) r)(ha:PE X a ta)(hb:PE X b tb)(hm:behindInMarks op b=false):PT X (.Compare a [op] [b] pos) (aM6 (tOp r ta tb)):=by
 intro bE1 s σ H Q I h;refine wpAny_isTrue_Compare1 (thn (ha bE1 s σ H _ I h) λv s1 ⟨x,H1,I1,r1,q1⟩=>thn (hb bE1 s1 σ H1 _ I1 q1) λu s2 ⟨y,H2,I2,r2,q2⟩=>
  thn (ho bE1 s2 σ H2 x y v u _ I2 r1 r2 q2) λc s3 ⟨z,H3,I3,r3,k,e,q3⟩=>?_) hm
 subst e;cases r3;exact bBD ⟨H3,I3,q3⟩
def aFr (r r':R2)(ta tb tc:TE):TE:=fun σ H Q=>ta σ H λx H1=>tb σ H1 λy H2=>r x y H2 λz H3=>∃k,z=.bl k /\
 (if k=true then tc σ H3 λw' H4=>r' y w' H4 Q else Q (.bl false) H3)
theorem aRz {op op':CmpOp}{r r':R2}(ho:OpR X (compareOp op) r)(ho':OpR X (compareOp op') r')(ha:PE X a ta)(hb:PE X b tb)(hc:PE X c tc)
  (hm:lastMarks [op,op'] [b,c]=false:=by with_unfolding_all rfl):PE X (.Compare a [op,op'] [b,c] pos) (aFr r r' ta tb tc):=by
 intro bE1 s σ H Q I h;refine Compare_chain (thn (ha bE1 s σ H _ I h) λv s1 ⟨x,H1,I1,r1,q1⟩=>chain_link (thn (hb bE1 s1 σ H1 _ I1 q1) λu s2 ⟨y,H2,I2,r2,q2⟩=>
  thn (ho bE1 s2 σ H2 x y v u _ I2 r1 r2 q2) λd s3 ⟨z,H3,I3,r3,k,e,q3⟩=>?_)) hm
 subst e;cases r3;refine bBD ?_;cases k with
 |false=>exact ite_ff ⟨.bl false,H3,I3,rfl,q3⟩
 |true=>exact ite_tt (chain_last (thn (hc bE1 s3 σ H3 _ I3 q3) λw' s4 ⟨z',H4,I4,r4,q4⟩=>ho' bE1 s4 σ H4 y z' u w' Q I4 r2 r4 q4))
theorem aS2 {op op':CmpOp}{r r':R2}(ho:OpR X (compareOp op) r)(ho':OpR X (compareOp op') r')(ha:PE X a ta)(hb:PE X b tb)(hc:PE X c tc)
  (hm:lastMarks [op,op'] [b,c]=false:=by with_unfolding_all rfl):PT X (.Compare a [op,op'] [b,c] pos) (aM6 (aFr r r' ta tb tc)):=by
 intro bE1 s σ H Q I h;refine isTrue_chain (thn (ha bE1 s σ H _ I h) λv s1 ⟨x,H1,I1,r1,q1⟩=>test_link (thn (hb bE1 s1 σ H1 _ I1 q1) λu s2 ⟨y,H2,I2,r2,q2⟩=>
  thn (ho bE1 s2 σ H2 x y v u _ I2 r1 r2 q2) λd s3 ⟨z,H3,I3,r3,k,e,q3⟩=>?_)) hm
 subst e;cases r3;refine bBD ?_;cases k with
 |false=>obtain⟨k',e',q'⟩:=q3;cases e';exact ite_ff ⟨H3,I3,q'⟩
 |true=>refine ite_tt (test_last (thn (hc bE1 s3 σ H3 _ I3 q3) λw' s4 ⟨z',H4,I4,r4,q4⟩=>thn (ho' bE1 s4 σ H4 y z' u w' _ I4 r2 r4 q4) λd' s5 ⟨z2,H5,I5,r5,k2,e2,q5⟩=>?_));subst e2;cases r5;exact bBD ⟨H5,I5,q5⟩
def aY0 (K:bEX)(x:V)(H:Hp)(k:Bool):Prop:=
 match x with
 |.non=>k=false
 |.bl b=>k=b
 |.int i=>k=(i != 0)
 |.str y=>y.length<=sizeLine/\k=((y.length:Int) != 0)
 |.byt y=>y.size<=sizeLine/\k=((y.size:Int) != 0)
 |.ref p=>(∃xs,SqL K H p xs/\k=!xs.isEmpty)\/(∃xs,SqT K H p xs/\k=!xs.isEmpty)\/∃kvs,H p=some (.dK kvs)/\k=!kvs.isEmpty
 |_=>False
theorem aK8 {κ:Type}{kvs:List (κ × V)}{vs:List (κ × Value)}(r:KV kvs vs):(!vs.isEmpty)=!kvs.isEmpty:=by cases r <;> rfl
theorem aBp {xs:List V}{its:List Value}(r:Vals xs its):(!its.toArray.isEmpty)=!xs.isEmpty:=by cases r <;> simp
theorem wQ:(sizeLine:Nat)<2 ^ 63:=by rw[sizeLine_eq];decide
theorem aZk:bB2 X (λx H Q=>∃k,aY0 X.K x H k/\Q k H):=by
 intro bE1 s σ H x v Q I rx h;obtain⟨k,e,q⟩:=h;have hl:=wQ;have hs:sizeLine=16777216:=sizeLine_eq;cases x with
 |non=>cases rx;have e':k=false:=e;subst e';exact truthy_none ⟨H,I,q⟩
 |bl b=>cases rx;have e':k=b:=e;subst e';exact bBD ⟨H,I,q⟩
 |int i=>obtain⟨t,rfl⟩:=rx;have e':k=(i != 0):=e;subst e';exact PySem.P.truthy_int ⟨H,I,q⟩
 |str y=>obtain⟨t,rfl⟩:=rx;obtain⟨hy,e'⟩:y.length<=sizeLine/\k=((y.length:Int) != 0):=e;subst e';exact PySem.P.truthy_str (by lia) ⟨H,I.tok _,q⟩
 |byt y=>obtain⟨t,rfl⟩:=rx;obtain⟨hy,e'⟩:y.size<=sizeLine/\k=((y.size:Int) != 0):=e;subst e';exact PySem.W.truthy_bytes (by lia) ⟨H,I.tok _,q⟩
 |ref p=>
  cases rx;have e':(∃xs,SqL X.K H p xs/\k=!xs.isEmpty)\/(∃xs,SqT X.K H p xs/\k=!xs.isEmpty)\/∃kvs,H p=some (.dK kvs)/\k=!kvs.isEmpty:=e;rcases e' with⟨xs,hx,e'⟩|⟨xs,hx,e'⟩|⟨kvs,hx,e'⟩
  ·subst e';obtain⟨its,r,pl,hz⟩:=I.list hx;have hlen:=r.length;exact wpAny_truthy_list pl.isList (by simp only[j7];lia) ⟨H,I.tok _,by rw[aBp r];exact q⟩
  ·subst e';obtain⟨its,r,pl,hz⟩:=I.tuple hx;have hlen:=r.length;exact truthy_tuple pl (by simp only[j7];lia) ⟨H,I.tok _,by rw[aBp r];exact q⟩
  ·subst e';obtain⟨hz,hS,vs,r,m⟩:kvs.length<=sizeLine/\(p == sysModules)=false/\∃vs,KV kvs vs/\s.heap.DictOf (bL X.prog X.w) p vs:=I.hok p _ hx;have hlen:kvs.length=vs.length:=Paired.length r;exact wpAny_truthy_dict hS m (by lia) ⟨H,I.tok _,by rw[aK8 r];exact q⟩
 |_=>exact (show False from e).elim
theorem aQ5 (ha:PE X a ta)(he:∀whole,isTrue a X.env whole=(do let v <-whole;standAt a.pos;holding [v] (truthy v))) :
  PT X a (fun σ H Q=>ta σ H λx H'=>∃k,aY0 X.K x H' k/\Q k H'):=by
 intro bE1 s σ H Q I h;exact isTrue_plain (thn (ha bE1 s σ H _ I h) λv s1 ⟨x,H1,I1,r1,q1⟩=>aZk bE1 s1 σ H1 x v Q I1 r1 q1) (he _)
theorem pF:OpR X (binaryOp .Add) (λx y H Q=>∃i j,x=.str i/\y=.str j/\i.length+j.length<=sizeLine/\Q (.str (i++j)) H):=by intro bE1 s σ H x y v u Q I rx ry h;obtain⟨i,j,rfl,rfl,hz,q⟩:=h;obtain⟨t,rfl⟩:=rx;obtain⟨t',rfl⟩:=ry;exact add_str (λt' tk=>⟨.str (i++j),H,I.tok _,⟨_,rfl⟩,q⟩) hz
def aJc (b:Expr):Prop:=∀o i,subscripted b false o i=operate [o,i] (getItem o i)
theorem aJl (ha:PE X a ta)(hb:PE X b tb)(hs:aJc b) :
  PE X (.Subscript a b pos) (tOp (λx y H Q=>∃z i c,x=.str z/\y=.int i/\0<=i/\i<2 ^ 63/\i<z.length/\z.cps[i.toNat]?=some c/\Q (.str ⟨#[c]⟩) H) ta tb):=by
 intro bE1 s σ H Q I h;refine Subscript_ (aUm ha hb I h λv u s2 x y H2 I2 rx ry q=>?_);obtain⟨z,i,c,rfl,rfl,h0,h63,h1,hc,q⟩:=q;obtain⟨t,rfl⟩:=rx;obtain⟨t',rfl⟩:=ry;have e:seqIndex? i z.length=some i.toNat:=PySem.StrLaws.seqIndex_nonneg h0 h1;exact tail_any (typeIs_str s2 z t) slot_str_getitem.lookup (getItem_str (c:=c) (by have e1:decide (i < -(2 ^ 63:Int))=false:=v8 (by lia);have e2:decide (i ≥ 2 ^ 63)=false:=v8 (by lia);rw[e1,e2] <;> rfl) (by rw[e];exact hc) ⟨.str ⟨#[c]⟩,H2,I2.tok _,⟨_,rfl⟩,q⟩) (hs _ _)
theorem vals1 {x:V}{us:List Value}(r:Vals [x] us):∃u,us=[u]/\RelV x u:=by
 cases r with
 |cons r1 r2=>cases r2;exact⟨_,rfl,r1⟩
theorem vals2 {x y:V}{us:List Value}(r:Vals [x,y] us):∃u w',us=[u,w']/\RelV x u/\RelV y w':=by
 cases r with
 |cons r1 r2=>
  cases r2 with
  |cons r3 r4=>cases r4;exact⟨_,_,rfl,r1,r3⟩
theorem aOt (hc:X.calm=true):cI X (.builtin "max") (λxs H Q=>∃i j,xs=[.int i,.int j]/\Q (.int (if j > i then j else i)) H):=by
 intro bE1 s σ H xs us Q I r h;obtain⟨i,j,rfl,q⟩:=h;obtain⟨u,w',rfl,⟨t,rfl⟩,⟨t',rfl⟩⟩:=vals2 r;refine max_two_ints (I.ok.hd hc) λh' tk k=>⟨_,H,I.kept k,?_,q⟩;by_cases hj:j > i
 ·rw[if_pos hj,if_pos hj];exact⟨_,rfl⟩
 ·rw[if_neg hj,if_neg hj];exact⟨_,rfl⟩
theorem aD0:cI X (.type "int") (λxs H Q=>(∃i,xs=[.int i]/\Q (.int i) H)\/∃k,xs=[.bl k]/\Q (.int (if k then 1 else 0)) H):=by
 intro bE1 s σ H xs us Q I r h;rcases h with⟨i,rfl,q⟩|⟨k,rfl,q⟩
 ·obtain⟨u,rfl,t,rfl⟩:=vals1 r;exact call_int_int ⟨.int i,H,I,⟨_,rfl⟩,q⟩
 ·obtain⟨u,rfl,r1⟩:=vals1 r;cases r1;exact call_int_bool ⟨.int (if k then 1 else 0),H,I.tok _,⟨_,rfl⟩,q⟩
end
structure aJ6 (h:Heap)(x dx C:Addr)(mA:bE0):Prop where
 obj:h.get? x=some (PySem.W.instObj C dx)
 ns:h.Ns1 dx mA
 ne:dx≠x
theorem aP1 {h:Heap}{dx:Addr}{mA:bE0}(n:h.Ns1 dx mA):∃od,h.get? dx=some od/\∀name,PySem.W.lookIn name od=some (mA name):=by
 obtain⟨o,es,ep,ho,hd,hk,_,hm⟩:=n;refine⟨o,ho,λname=>?_⟩;have e:=hm name;unfold nsFind findBy at e;rw[<-Array.find?_toList] at e;unfold PySem.W.lookIn;rw[hd];dsimp only
 split
 ·rename_i y q;rw[q] at e;exact congrArg some e
 ·rename_i q;rw[q] at e;have a:es.toList.any (·.refKey)=false:=by rw[List.any_eq_false];intro y hy;obtain⟨z,t,hkey⟩:=hk y (Array.mem_toList_iff.mp hy);simp[DictEntry.refKey,hkey]
  have a':¬ es.toList.any (·.refKey)=true:=by rw[a];exact t8
  rw[if_neg a'];exact congrArg some e
theorem aJ6.look {h:Heap}{x dx C:Addr}{mA:bE0}(I:aJ6 h x dx C mA):∃od,PySem.W.InstAt h x (PySem.W.instObj C dx) C (some od)/\∀name,PySem.W.lookIn name od=some (mA name):=
 let ⟨od,ho,hl⟩:=aP1 I.ns
 ⟨od,⟨I.obj,rfl,rfl,ho⟩,hl⟩
section
variable {prog:Program}{w:World}{A:Around}{E:bEY}{s:Shared}{K:bEX}{x dx C f:Addr}{mA:bE0}{name:Str}{v:Value}
theorem aUd {expr:Bool}{Q:bEY}(X:K.In s.heap)(I:aJ6 s.heap x dx C mA)(hg:PySem.W.plainGet K C name=true)(hh:PySem.W.hasDictIn K C=true)
  (ha:PySem.W.findIn K (.ref C) name=some none) (hv:mA name=some v) (hv':PySem.W.handedIn v=true) (h:Q v { s with toks:=s.toks+1 }) :
  wpAny (model prog w) A (getAttr (.ref x) name expr) Q E s:=by
 obtain⟨od,J,hl⟩:=I.look;exact PySem.W.get_value X J (PySem.W.plainGet_of hg).1 (PySem.W.findObj_own hh ha rfl (by rw[hl,hv])) hv' h
theorem aS1 {pl:Sem Bool}{Q:Value × List Value->Shared->Prop}(X:K.In s.heap)(I:aJ6 s.heap x dx C mA)(hg:PySem.W.plainGet K C name=true)
  (hf:PySem.W.findIn K (.ref C) name=some (some (.ref f))) (ht:PySem.W.isFn K (.ref f)=true) (hv:mA name=none) (h:Q (.ref f,[.ref x]) s) :
  wpAny (model prog w) A (getMethod (.ref x) name pl) Q E s:=by
 obtain⟨od,J,hl⟩:=I.look;exact PySem.W.method_fn X J (PySem.W.plainGet_of hg).1 (PySem.W.plainGet_of hg).2 hf (beq_iff_eq.mp ht) (by show (PySem.W.lookIn name od).map (·.isSome)=some false;rw[hl,hv];rfl) h
theorem aT3 {ns:List Str}{Q:Unit->Shared->Prop}(X:K.In s.heap)(I:aJ6 s.heap x dx C mA)
  (hs:PySem.W.findIn K (.ref C) "__setattr__"=some (some (.builtin "object.__setattr__"))) (hp:PySem.W.plainOver K C=true) (ht:PySem.W.takerIn K C name=some none) (hh:PySem.W.hasDictIn K C=true)
  (hw:PySem.Within mA ns) (hsz:ns.length<=sizeLine)
  (h:∀h',aJ6 h' x dx C (λy=>if y=name then some v else mA y)->Heap.SameBut dx s.heap h'->Q () { s with heap:=h',toks:=s.toks+2 }) :
  wpAny (model prog w) A (setAttr (.ref x) name v) Q E s:=by
 obtain⟨od,J,hl⟩:=I.look;refine PySem.W.set_plain X J hs (PySem.W.osa_open (s:={ s with toks:=s.toks+1 }) (r:=none) X J hp ht λb=>?_);obtain⟨cd,hc,hd'⟩:=PySem.W.any_some hh;have hx:s.heap.get? x=some ⟨.ref C,some dx,.plain,#[]⟩:=I.obj;refine c7 (d9 (c7 (c7 (wpAny_loadPart hx (c7 (PySem.W.Looks.here (s:={ s with toks:=s.toks+1 }) (PySem.W.looks_clsIn X hc) ?_))))));rw[hd'];refine d9 (a:=some dx) (c7 (d9 (c7 ?_)));refine wpAny_nsSet1 (s:={ s with toks:=s.toks+1 }) I.ns λh' hn2 hs2=>?_;obtain⟨oD,esD,epD,hoD,hdD,hcD⟩:=hn2.count (PySem.Within.cons name v hw);refine c7 (wpAny_lookBehind hoD (by rw[hdD];exact pastItsLine_dict (bAL hcD (by rw[v7];lia))) ?_);exact d9 (h _ ⟨(hs2.2 _ (Ne.symm I.ne)).trans I.obj,hn2,I.ne⟩ hs2)
theorem aR4 {R:Result->Shared->Prop}{vs:List Value}{kw:List (Str × Value)}(X:K.In s.heap)(hm:PySem.W.makesIn K C=true)
  (hi:PySem.W.findIn K (.ref C) "__init__"=some (some (.ref f))) (hf:PySem.W.typeIn K (.ref f)=some (.type "function"))
  (h:codeAny (model prog w) (A.under (.builtin "type.__call__" ⟨.ref C::vs,kw⟩)) (.call (.ref f) ⟨.ref (s.heap.objs.size+1)::vs,kw⟩) (PySem.W.InitBack (s.heap.objs.size+1) R)
   { s with heap:=(s.heap.push PySem.W.emptyDict).push (PySem.W.instObj C s.heap.objs.size) }) :
  codeAny (model prog w) A (.call (.ref C) ⟨vs,kw⟩) R s:=by
 obtain⟨hh,g,d,t,os⟩:=s;exact PySem.W.make_core (PySem.W.makes_of X hm) (PySem.W.looks_findIn X hi) (λself=>PySem.W.bind_fn X self hf) (.inl rfl) h
end
def jD (f:Str)(v:V):List (Str × V)->List (Str × V)
 |[]=>[(f,v)]
 |(g,x)::r=>if g=f then (g,v)::r else (g,x)::jD f v r
theorem yR (f g:Str)(v:V):∀fs:List (Str × V),(jD f v fs).lookup g=if g=f then some v else fs.lookup g
 |[]=>by
  show List.lookup g [(f,v)]=_;by_cases h:g=f
  ·have hb:(g == f)=true:=beq_iff_eq.mpr h;simp only[List.lookup,hb,if_pos h]
  ·have hb:(g == f)=false:=beq_eq_false_iff_ne.mpr h;simp only[List.lookup,hb,if_neg h]
 |(k,x)::r=>by
  have ih:=yR f g v r;rw[show jD f v ((k,x)::r)=(if k=f then (k,v)::r else (k,x)::jD f v r) from rfl];by_cases hk:k=f
  ·rw[if_pos hk];by_cases h:g=k
   ·have hb:(g == k)=true:=beq_iff_eq.mpr h;simp only[List.lookup,hb,if_pos (h.trans hk)]
   ·have hb:(g == k)=false:=beq_eq_false_iff_ne.mpr h;simp only[List.lookup,hb,if_neg (λe:g=f=>h (e.trans hk.symm))]
  ·rw[if_neg hk];by_cases h:g=k
   ·have hb:(g == k)=true:=beq_iff_eq.mpr h;simp only[List.lookup,hb,if_neg (λe:g=f=>hk (h.symm.trans e))]
   ·have hb:(g == k)=false:=beq_eq_false_iff_ne.mpr h;simp only[List.lookup,hb];exact ih
theorem xK (f:Str)(v:V):∀fs:List (Str × V),f∈(jD f v fs).map (·.1)/\∀g,g∈fs.map (·.1)->g∈(jD f v fs).map (·.1)
 |[]=>⟨by simp[jD],λg h=>by simp at h⟩
 |(k,x)::r=>by
  obtain⟨i1,i2⟩:=xK f v r;rw[show jD f v ((k,x)::r)=(if k=f then (k,v)::r else (k,x)::jD f v r) from rfl];by_cases hk:k=f
  ·rw[if_pos hk];subst hk;exact⟨by simp,λg h=>by simpa using h⟩
  ·rw[if_neg hk];refine⟨?_,λg h=>?_⟩
   ·rw[bAV];exact j6 _ i1
   ·rw[bAV] at h ⊢;rcases List.mem_cons.mp h with e|e
    ·exact List.mem_cons.mpr (.inl e)
    ·exact j6 _ (i2 g e)
theorem yU (f:Str)(v:V):∀fs:List (Str × V),(jD f v fs).length<=fs.length+1
 |[]=>by simp[jD]
 |(k,x)::r=>by
  have ih:=yU f v r;rw[show jD f v ((k,x)::r)=(if k=f then (k,v)::r else (k,x)::jD f v r) from rfl];by_cases hk:k=f
  ·rw[if_pos hk,v7,v7];lia
  ·rw[if_neg hk,v7,v7];lia
theorem pQ.some_of {v:V}{o:Option Value}(r:pQ (some v) o):∃u,o=some u/\RelV v u:=by
 cases o with
 |none=>exact (show False from r).elim
 |some u=>exact⟨u,rfl,r⟩
theorem pQ.none_of {o:Option Value}(r:pQ none o):o=none:=by
 cases o with
 |none=>rfl
 |some u=>exact (show False from r).elim
theorem aO7 {v:V}{u:Value}(r:RelV v u):PySem.W.handedIn u=true:=by
 cases v with
 |non=>cases (show u=Value.none from r);rfl
 |bl b=>cases (show u=Value.bool b from r);rfl
 |int i=>obtain⟨t,e⟩:=(show ∃t,u=Value.int i t from r);cases e;rfl
 |str x=>obtain⟨t,e⟩:=(show ∃t,u=Value.str x t from r);cases e;rfl
 |byt b=>obtain⟨t,e⟩:=(show ∃t,u=Value.bytes b t from r);cases e;rfl
 |flt b=>obtain⟨t,e⟩:=(show ∃t,u=Value.float b t from r);cases e;rfl
 |ref a=>cases (show u=Value.ref a from r);rfl
 |ty n=>cases (show u=Value.type n from r);rfl
section
variable {P:Program}{w:World}{H H':Hp}{h h':Heap}{a C dx:Addr}{fs fs':List (Str × V)}
theorem aEx (hok:HOk P w H h)(e:H a=some (.ins C dx fs)):∃mA,aJ6 h a dx C mA/\(∀f,pQ (fs.lookup f) (mA f))/\PySem.Within mA (fs.map (·.1))/\fs.length<=1000/\H dx=some (.own a):=by obtain⟨d,z,ne,ob,mA,n,r,q⟩:=(show dH P w H h a (.ins C dx fs) from hok a _ e);exact⟨mA,⟨ob,n,ne⟩,r,q,z,d⟩
end
structure Cls (K:bEX)(C:Addr):Prop where
 pg:PySem.W.plainGet K C Str.empty=true
 hd:PySem.W.hasDictIn K C=true
 po:PySem.W.plainOver K C=true
 sa:PySem.W.findIn K (.ref C) "__setattr__"=some (some (.builtin "object.__setattr__"))
theorem Cls.get {K:bEX}{C:Addr}(c:Cls K C)(f:Str):PySem.W.plainGet K C f=true:=c.pg
def bK (K:bEX)(C:Addr)(f:Str):Prop:=PySem.W.findIn K (.ref C) f=some none
theorem bK.taker {K:bEX}{C:Addr}{f:Str}(n:bK K C f):PySem.W.takerIn K C f=some none:=by unfold PySem.W.takerIn;rw[show PySem.W.findIn K (.ref C) f=some none from n];rfl
structure Meth (K:bEX)(C:Addr)(m:Str)(f:Addr):Prop where
 at_:PySem.W.findIn K (.ref C) m=some (some (.ref f))
 fn:PySem.W.isFn K (.ref f)=true
 kp:PySem.W.keepIn K (.ref f)=true
section
variable {X:Cx}{bE1:bEZ}{σ:St}{H:Hp}{s:Shared}{a C dx:Addr}{fs:List (Str × V)}{f:Str}{v:V}{A:Around}{E:bEY}
theorem aLy {b:Bool}{Q:bEY}(I:Inv X bE1 σ H s)(e:H a=some (.ins C dx fs))(c:Cls X.K C)(n:bK X.K C f)(l:fs.lookup f=some v)
  (h:∀u s',Inv X bE1 σ H s'->RelV v u->Q u s'):wpAny (model X.prog X.w) A (getAttr (.ref a) f b) Q E s:=by
 obtain⟨mA,O,r,_,_,_⟩:=aEx I.hok e;obtain⟨u,hu,ru⟩:=pQ.some_of (v:=v) (o:=mA f) (by rw[<-l];exact r f);exact aUd I.kIn O (c.get f) c.hd n hu (aO7 ru) (h u _ (I.tok _) ru)
theorem aB5 {m:Str}{g:Addr}{pl:Sem Bool}{Q:Value × List Value->Shared->Prop}(I:Inv X bE1 σ H s)(e:H a=some (.ins C dx fs))(c:Cls X.K C)(k:Meth X.K C m g)(l:fs.lookup m=none)
  (h:Q (.ref g,[.ref a]) s):wpAny (model X.prog X.w) A (getMethod (.ref a) m pl) Q E s:=by
 obtain⟨mA,O,r,_,_,_⟩:=aEx I.hok e;have hn:mA m=none:=pQ.none_of (by rw[<-l];exact r m);exact aS1 I.kIn O (c.get m) k.at_ k.fn hn h
theorem aL5 {y:V}{u:Value}{Q:Unit->Shared->Prop}(I:Inv X bE1 σ H s)(e:H a=some (.ins C dx fs))(c:Cls X.K C)(n:bK X.K C f)(hl:fs.length<1000)(ry:RelV y u)
  (h:∀s',Inv X bE1 σ (upd H a (.ins C dx (jD f y fs))) s'->Q () s'):wpAny (model X.prog X.w) A (setAttr (.ref a) f u) Q E s:=by
 obtain⟨mA,O,r,wi,_,ho⟩:=aEx I.hok e;have hz:(fs.map (·.1)).length<=sizeLine:=by rw[j9,sizeLine_eq];lia
 refine aT3 I.kIn O c.sa c.po n.taker c.hd wi hz λh' O' sb=>h _ ?_;have hd:∃o,h'.get? dx=some o:=let ⟨o,_,_,e',_⟩:=O'.ns;⟨o,e'⟩
 refine I.write (x:=a) (e:=dx) (by rw[e];exact True.intro) (.inr ho) (λb q hb z=>(sb.2 b hb).trans z) hd ?_;refine⟨by rw[aN O.ne];exact ho,?_,O.ne,O'.obj,_,O'.ns,λg=>?_,λg hg=>?_⟩
 ·have:=yU f y fs;lia
 ·show pQ ((jD f y fs).lookup g) (if g=f then some u else mA g);rw[yR];by_cases q:g=f
  ·rw[if_pos q,if_pos q];exact ry
  ·rw[if_neg q,if_neg q];exact r g
 ·by_cases q:g=f
  ·rw[q];exact (xK f y fs).1
  ·refine (xK f y fs).2 g (wi g λz=>hg ?_);show (if g=f then some u else mA g)=none;rw[if_neg q];exact z
theorem Inv.made (I:Inv X bE1 σ H s):Inv X bE1 σ (upd (upd H s.heap.objs.size (.own (s.heap.objs.size+1))) (s.heap.objs.size+1) (.ins C s.heap.objs.size []))
  { s with heap:=(s.heap.push PySem.W.emptyDict).push (PySem.W.instObj C s.heap.objs.size) }:=by
 have e1:(s.heap.push PySem.W.emptyDict).get? s.heap.objs.size=some PySem.W.emptyDict:=j5 s.heap rfl;have e2:((s.heap.push PySem.W.emptyDict).push (PySem.W.instObj C s.heap.objs.size)).get? (s.heap.objs.size+1)=some (PySem.W.instObj C s.heap.objs.size):=by
  have:=j5 (s.heap.push PySem.W.emptyDict) (o:=PySem.W.instObj C s.heap.objs.size) rfl
  rwa [bAX] at this
 have e3:(s.heap.push PySem.W.emptyDict).Ns s.heap.objs.size (λ_=>none):=⟨PySem.W.emptyDict,#[],_,e1,rfl,(λe he=>absurd he (by simp)),λ_=>rfl⟩;have I1:=I.laid (a:=s.heap.objs.size) (o:=.own (s.heap.objs.size+1)) (h':=s.heap.push PySem.W.emptyDict) (t':=s.toks) (λb u q=>d8 _ q) (j0 _) ⟨_,e1⟩;refine I1.laid (a:=s.heap.objs.size+1) (o:=.ins C s.heap.objs.size []) (t':=s.toks) (λb u q=>d8 _ q) (bEK (bAX _ _)) ?_;have ne:s.heap.objs.size≠s.heap.objs.size+1:=v4 (bCC _);refine⟨by rw[aN ne,aH],bAE _,ne,e2,λ_=>none,(Heap.Ns1.of_empty e3).at λo q=>d8 _ q,λ_=>True.intro,λy hy=>absurd rfl hy⟩
theorem aTz {prog:Program}{w:World}{env:Env}{e:Expr}{f:Str}{pos:Pos}{s:Shared}{Q:bEY}(hb:attributeBase e f env (eval e env)=eval e env)
  (h:wpAny (model prog w) A (eval e env) (λo s₁=>wpAny (model prog w) A (getAttr o f true) Q E s₁) E s):wpAny (model prog w) A (eval (.Attribute e f pos) env) Q E s:=
 Attribute_any_ h (by rw[arm_eval_Attribute,hb])
end
def bA4 (K:bEX)(ta:TE)(f:Str):TE:=fun σ H Q=>ta σ H λx H1=>∃a C dx fs v,x=.ref a/\H1 a=some (.ins C dx fs)/\Cls K C/\bK K C f/\fs.lookup f=some v/\Q v H1
def bAw (K:bEX)(ta tv:TE)(f:Str):TS:=λD σ H=>tv σ H λy H1=>ta σ H1 λx H2=>∃a C dx fs,x=.ref a/\H2 a=some (.ins C dx fs)/\Cls K C/\bK K C f/\fs.length<1000 /\
 D.nx σ (upd H2 a (.ins C dx (jD f y fs)))
section
variable {X:Cx}{o e value:Expr}{f:Str}{pos pos' tpos:Pos}{ta tv:TE}
theorem aYi (he:PE X e ta)(hb:attributeBase e f X.env (eval e X.env)=eval e X.env):PE X (.Attribute e f pos) (bA4 X.K ta f):=by intro bE1 s σ H Q I h;refine aTz hb (thn (he bE1 s σ H _ I h) λu s1 ⟨x,H1,I1,rx,a,C,dx,fs,v,ex,ea,c,n,l,q⟩=>?_);subst ex;obtain rfl:u=Value.ref a:=rx;exact aLy I1 ea c n l λu' s2 I2 ru=>⟨v,H1,I2,ru,q⟩
theorem aZm (ha:PE X o ta)(hv:PE X value tv)(hs:swapsWith value (some (.Attribute o f pos')) pos.line X.env=pure false):PS X (.Assign [.Attribute o f pos'] value pos) (bAw X.K ta tv f):=by intro bE1 s σ H D I h;refine plainObj_wpAny_Assign_Attribute (thn (hv bE1 s σ H _ I h) λu s1 ⟨y,H1,I1,ry,q⟩=>thn (ha bE1 s1 σ H1 _ I1 q) λov s2 ⟨x,H2,I2,rx,a,C,dx,fs,ex,ea,c,n,l,q2⟩=>?_) hs;subst ex;obtain rfl:ov=Value.ref a:=rx;exact aL5 I2 ea c n l ry λs3 I3=>⟨σ,_,I3,q2⟩
end
section
variable {X:Cx}{bE1:bEZ}{σ:St}{H:Hp}{s:Shared}{A:Around}{E:bEY}{Q:bEY}{c:Value}{b:Bool}
end
structure Room (k:Nat)(A:Around):Prop where
 hd:A.handled=none
 dp:A.depth+3 * k+5<recursionLimit
 un:A.units+16 * k+200<cLine
theorem Room.mono {j k:Nat}{A:Around}(r:Room k A)(h:j<=k):Room j A:=⟨r.hd,by have:=r.dp;lia,by have:=r.un;lia⟩
theorem Room.deeper {k:Nat}{A:Around}(r:Room (k+1) A)(env:Env):Room k (A.deeper env):=
 ⟨r.hd,by have:=r.dp;show A.depth+1+3 * k+5<_;lia,by have:=r.un;show A.units+3+16 * k+200<_;lia⟩
theorem aL9 {A:Around}{C:Addr}{us:List Value}{kw:List (Str × Value)}:(A.under (.builtin "type.__call__" ⟨.ref C::us,kw⟩)).depth=A.depth+1:=by
 first|rfl|simp[Around.under,Code.weight,Code.isCreation,Code.isGuard,Code.isCaller,Code.frames,Code.isFrame,guardIds]
theorem aJ4 {A:Around}{C:Addr}{us:List Value}{kw:List (Str × Value)}:(A.under (.builtin "type.__call__" ⟨.ref C::us,kw⟩)).units=A.units+1:=by
 first|rfl|simp[Around.under,Code.cUnits,Code.frames,Code.isFrame]
theorem Room.make {k:Nat}{A:Around}(r:Room (k+1) A)(C:Addr)(us:List Value)(kw:List (Str × Value)):Room k (A.under (.builtin "type.__call__" ⟨.ref C::us,kw⟩)):=
 ⟨r.hd,by have:=r.dp;rw[aL9];lia,by have:=r.un;rw[aJ4];lia⟩
theorem Room.depth {k:Nat}{A:Around}(r:Room k A):A.depth<recursionLimit:=by have:=r.dp;lia
theorem Room.units {k:Nat}{A:Around}(r:Room k A):A.units+64<cLine:=by have:=r.un;lia
def aEp:TA:=λ_ H Q=>Q [] H
def eQ (ta:TE)(tr:TA):TA:=fun σ H Q=>ta σ H λx H1=>tr σ H1 λxs H2=>Q (x::xs) H2
section
variable {X:Cx}{e:Expr}{es:List Expr}{te:TE}{t:TA}{pos:Pos}
theorem aYq:PA X [] aEp:=λ_ _ _ _ H Q I h=>bDV ⟨[],H,I,.nil,h⟩
theorem aWk (ha:PE X e te)(hr:PA X es t)(hs:starEach (e::es) X.env=(false,eval e X.env)::starEach es X.env:=by rfl):PA X (e::es) (eQ te t):=by intro pos bE1 s σ H Q I h;rw[hs];show wpAny _ _ (spliced ((false,eval e X.env)::backTo pos (starEach es X.env))) _ _ s;refine bBV (thn (ha bE1 s σ H _ I h) λu s1 ⟨x,H1,I1,r1,q1⟩=>?_);exact thn (hr pos bE1 s1 σ H1 _ I1 q1) λus s2 ⟨xs,H2,I2,r2,q2⟩=>⟨x::xs,H2,I2,.cons r1 r2,q2⟩
end
abbrev Sp:=List V->Hp->VK->XK->Prop
abbrev CXT:=List Env->Hp->Shared->XK->Value->Shared->Prop
structure aGp (P:Program)(w:World)(K:bEX)(mg:bE0)(base:Heap)(A:Around)(outer:List Env)(s:Shared)(H:Hp):Prop where
 frames:A.frames=some outer
 mod:Mod K mg base
 bs:∀b o,base.get? b=some o->s.heap.get? b=some o/\H b=none
 bsz:base.objs.size<=s.heap.objs.size
 funs:s.heap.FunFrames base outer
 frf:∀b∈frs outer,H b=none
 hok:HOk P w H s.heap
 bare:AllBare s.gens
def CE (outer:List Env)(P:Program)(w:World)(H:Hp)(s:Shared)(Q:VK)(u:Value)(s':Shared):Prop:=
 ∃v H',s'.os=s.os/\AllBare s'.gens/\Un (frs outer) [] H H' s.heap s'.heap/\HOk P w H' s'.heap/\RelV v u/\Q v H'
def CR (CX:CXT)(outer:List Env)(P:Program)(w:World)(H:Hp)(s:Shared)(Q:VK)(E:XK)(r:Result)(s':Shared):Prop:=
 match r with
 |.ok (.ret u)=>CE outer P w H s Q u s'
 |.ok _=>False
 |.error e=>CX outer H s E e s'
structure lJ (P:Program)(w:World)(K:bEX)(mg:bE0)(base:Heap)(CX:CXT)(k:Nat)(f:Addr)(fd:FuncData)(ps:List Str)(sp:Sp):Prop where
 len:∀vs H Q E,sp vs H Q E->vs.length=ps.length
 run:∀(A:Around) (outer:List Env) (s:Shared) (H:Hp) (args:Args) (us:List Value) (vs:List V) (Q:VK) (E:XK),Room k A->aGp P w K mg base A outer s H->BindsTo s fd args (ps.zip us)->Vals vs us->sp vs H Q E ->
  codeAny (model P w) A (.call (.ref f) args) (CR CX outer P w H s Q E) s
theorem lJ.mono {P:Program}{w:World}{K:bEX}{mg:bE0}{base:Heap}{CX:CXT}{j k:Nat}{f:Addr}{fd:FuncData}{ps:List Str}{sp:Sp}(F:lJ P w K mg base CX j f fd ps sp)(h:j<=k) :
  lJ P w K mg base CX k f fd ps sp:=⟨F.len,λA outer s H args us vs Q E hr=>F.run A outer s H args us vs Q E (hr.mono h)⟩
theorem aGp.make {P:Program}{w:World}{K:bEX}{mg:bE0}{base:Heap}{A:Around}{outer:List Env}{s:Shared}{H:Hp}(e:aGp P w K mg base A outer s H)(C:Addr)(us:List Value)(kw:List (Str × Value)) :
  aGp P w K mg base (A.under (.builtin "type.__call__" ⟨.ref C::us,kw⟩)) outer s H:=⟨by first|exact e.frames|(simpa [Around.under,Code.envs,Code.isFrame,pushEnvs] using e.frames),e.mod,e.bs,e.bsz,e.funs,e.frf,e.hok,e.bare⟩
section
variable {X:Cx}{bE1:bEZ}{σ:St}{H:Hp}{s s':Shared}
theorem Inv.env0 (I:Inv X bE1 σ H s):aGp X.prog X.w X.K X.mg X.base X.A X.stack s H:=
 ⟨I.ok.frames,I.ok.mod,I.bs,bAL I.ok.bsz I.sz,I.stack,I.vU,I.hok,I.bare⟩
theorem Inv.after {Q:VK}{u:Value}(I:Inv X bE1 σ H s)(h:CE X.stack X.prog X.w H s Q u s'):EP X bE1 σ Q u s':=by obtain⟨v,H',os,bare,un,hok,r,q⟩:=h;obtain⟨hh,g,d,t,os'⟩:=s';obtain rfl:os'=s.os:=os;exact⟨v,H',I.call (h':=hh) (g':=g) (d':=d) (t':=t) (ch:=[]) un hok bare (λb z=>absurd z (by simp)),r,q⟩
end
def aDh (sp:Sp)(dvs:List V)(E:XK)(t:TA):TE:=fun σ H Q=>t σ H λvs H1=>sp (vs++dvs) H1 Q E
def aMr (C:Addr)(m:Str)(sp:Sp)(dvs:List V)(E:XK)(ta:TE)(t:TA):TE:=fun σ H Q=>ta σ H λx H1=>∃a dx fs,x=.ref a/\H1 a=some (.ins C dx fs)/\fs.lookup m=none /\
 t σ H1 λvs H2=>sp (x::(vs++dvs)) H2 Q E
def aWw (C:Addr)(sp:Sp)(dvs:List V)(E:XK)(t:TA):TE:=fun σ H Q=>t σ H λvs H1=>∀x dx,H1 x=none->H1 dx=none->dx≠x ->
 sp (.ref x::(vs++dvs)) (upd (upd H1 dx (.own x)) x (.ins C dx [])) (λv H2=>v=.non/\Q (.ref x) H2) E
def Binds (K:bEX)(fd:FuncData)(ps:List Str)(ds:List Value):Prop:=
 ∀(s:Shared) (us:List Value),K.In s.heap->(us++ds).length=ps.length->BindsTo s fd ⟨us,[]⟩ (ps.zip (us++ds))
theorem Binds.all {K:bEX}{fd:FuncData}{ps:List Str}(h:∀us:List Value,us.length=ps.length->bindArgs fd ⟨us,[]⟩=pure (ps.zip us)):Binds K fd ps []:=λs us _ hl=>by rw[bB9] at hl ⊢;exact .of_eq (h us hl)
def qM (CX:CXT)(X:Cx)(E:XK):Prop:=∀(bE1:bEZ) (σ:St) (H:Hp) (s:Shared) (e:Value) (s':Shared),Inv X bE1 σ H s->CX X.stack H s E e s'->X.xe e s'
section
variable {X:Cx}{CX:CXT}{k:Nat}{f C:Addr}{fd:FuncData}{ps:List Str}{sp:Sp}{dvs:List V}{ds:List Value}{E:XK}{x m:Str}{p pos apos:Pos}{e o:Expr}{es:List Expr}{ta:TE}{t:TA}
theorem aA2 {bE1:bEZ}{σ:St}{H:Hp}{s:Shared}{Q:VK}{us:List Value}{vs:List V}(F:lJ X.prog X.w X.K X.mg X.base CX k f fd ps sp)(hr:Room k X.A)(hb:Binds X.K fd ps ds)(hd:Vals dvs ds)(hx:qM CX X E)
  (I:Inv X bE1 σ H s) (r:Vals vs us) (h:sp (vs++dvs) H Q E):wpAny (model X.prog X.w) X.A (call (.ref f) us) (EP X bE1 σ Q) X.xe s:=by
 have r2:Vals (vs++dvs) (us++ds):=r.append hd;have hl:(us++ds).length=ps.length:=by rw[<-r2.length];exact F.len _ _ _ _ h
 refine bD8 (bCF (F.run X.A X.stack s H ⟨us,[]⟩ (us++ds) (vs++dvs) Q E hr I.env0 (hb s us I.kIn hl) r2 h) λr s' hq=>?_);cases r with
 |error e=>exact hx bE1 σ H s e s' I hq
 |ok fl=>
  cases fl with
  |ret u=>exact I.after hq
  |next=>exact False.elim hq
  |brk=>exact False.elim hq
  |cont=>exact False.elim hq
theorem aT5 (F:lJ X.prog X.w X.K X.mg X.base CX k f fd ps sp)(hr:Room k X.A)(hg:Gl X x)(hm:X.mg x=some (.ref f))(hk:PySem.W.keepIn X.K (.ref f)=true)(hb:Binds X.K fd ps ds)(hd:Vals dvs ds)(hx:qM CX X E)
  (ha:PA X (e::es) t) (hdb:(x == ("__debug__":Str))=false:=by decide) (he:starEach (e::es) X.env=(false,eval e X.env)::starEach es X.env:=by rfl) (hpl:(backTo pos (starEach es X.env)).any (·.1)=false:=by rfl) :
  PE X (.Call (.Name x p) (e::es) [] pos) (aDh sp dvs E t):=by
 intro bE1 s σ H Q I h;refine bBQ (vC I hg hm ?_ hdb);refine PySem.W.callWith_K (h₀:=X.base) I.ok.mod.kin hk (thn (ha pos bE1 s σ H _ I h) λus s1 ⟨vs,H1,I1,r,q⟩=>⟨I1.kIn,?_⟩) he hpl;exact aA2 F hr hb hd hx I1 r q
theorem aR9 (F:lJ X.prog X.w X.K X.mg X.base CX k f fd ps sp)(hr:Room k X.A)(hg:Gl X x)(hm:X.mg x=some (.ref f))(hk:PySem.W.keepIn X.K (.ref f)=true)(hb:Binds X.K fd ps ds)(hd:Vals dvs ds)(hx:qM CX X E)
  (hdb:(x == ("__debug__":Str))=false:=by decide):PE X (.Call (.Name x p) [] [] pos) (aDh sp dvs E aEp):=by
 intro bE1 s σ H Q I h;refine bBQ (vC I hg hm ?_ hdb);exact PySem.W.callWith_K0 I.kIn hk (aA2 (us:=[]) F hr hb hd hx I .nil h)
theorem aUy {pl:Sem Bool}(he:PE X o ta)(c:Cls X.K C)(hm:Meth X.K C m f)(F:lJ X.prog X.w X.K X.mg X.base CX k f fd ps sp)(hr:Room k X.A)(hb:Binds X.K fd ps ds)(hd:Vals dvs ds)(hx:qM CX X E)(ha:PA X (e::es) t)
  (hst:starEach (e::es) X.env=(false,eval e X.env)::starEach es X.env:=by rfl) (hpl:(backTo pos (starEach es X.env)).any (·.1)=false:=by rfl)
  (ht:eval (.Call (.Attribute o m apos) (e::es) [] pos) X.env=(do
   let ov <-eval o X.env
   standAt apos.atName
   let (f,first) <-holding [ov] (getMethod ov m pl)
   callWith pos f first (backTo pos (starEach (e::es) X.env)) (backToKw pos (keywordEach [] X.env))):=by rfl) :
  PE X (.Call (.Attribute o m apos) (e::es) [] pos) (aMr C m sp dvs E ta t):=by
 intro bE1 s σ H Q I h;refine PySem.W.methodCall_KW (pl:=pl) (thn (he bE1 s σ H _ I h) λu s1 ⟨x,H1,I1,rx,a,dx,fs,ex,ea,l,q⟩=>?_) ht;subst ex;obtain rfl:u=Value.ref a:=rx;refine aB5 I1 ea c hm l ?_;refine PySem.W.callWith_K (first:=[.ref a]) (h₀:=X.base) I.ok.mod.kin hm.kp (thn (ha pos bE1 s1 σ H1 _ I1 q) λus s2 ⟨vs,H2,I2,r,q2⟩=>⟨I2.kIn,?_⟩) hst hpl;exact aA2 (us:=.ref a::us) (vs:=.ref a::vs) F hr hb hd hx I2 (.cons rfl r) q2
theorem aQs {pl:Sem Bool}(he:PE X o ta)(c:Cls X.K C)(hm:Meth X.K C m f)(F:lJ X.prog X.w X.K X.mg X.base CX k f fd ps sp)(hr:Room k X.A)(hb:Binds X.K fd ps ds)(hd:Vals dvs ds)(hx:qM CX X E)
  (ht:eval (.Call (.Attribute o m apos) [] [] pos) X.env=(do
   let ov <-eval o X.env
   standAt apos.atName
   let (f,first) <-holding [ov] (getMethod ov m pl)
   callWith pos f first (backTo pos (starEach [] X.env)) (backToKw pos (keywordEach [] X.env))):=by rfl) :
  PE X (.Call (.Attribute o m apos) [] [] pos) (aMr C m sp dvs E ta aEp):=by
 intro bE1 s σ H Q I h;refine PySem.W.methodCall_KW (pl:=pl) (thn (he bE1 s σ H _ I h) λu s1 ⟨x,H1,I1,rx,a,dx,fs,ex,ea,l,q⟩=>?_) ht;subst ex;obtain rfl:u=Value.ref a:=rx;refine aB5 I1 ea c hm l ?_;exact PySem.W.callWith_K0 (first:=[.ref a]) I1.kIn hm.kp (aA2 (us:=[.ref a]) (vs:=[.ref a]) F hr hb hd hx I1 (.cons rfl .nil) q)
structure Mk (K:bEX)(C f:Addr):Prop where
 makes:PySem.W.makesIn K C=true
 init:PySem.W.findIn K (.ref C) "__init__"=some (some (.ref f))
 fn:PySem.W.isFn K (.ref f)=true
 kp:PySem.W.keepIn K (.ref C)=true
theorem aQr {bE1:bEZ}{σ:St}{H:Hp}{s:Shared}{Q:VK}{us:List Value}{vs:List V}(M:Mk X.K C f)(F:lJ X.prog X.w X.K X.mg X.base CX k f fd ps sp)(hr:Room (k+1) X.A)(hb:Binds X.K fd ps ds)(hd:Vals dvs ds)
  (hx:qM CX X E) (I:Inv X bE1 σ H s) (r:Vals vs us)
  (h:∀x dx,H x=none->H dx=none->dx≠x->sp (.ref x::(vs++dvs)) (upd (upd H dx (.own x)) x (.ins C dx [])) (λv H2=>v=.non/\Q (.ref x) H2) E) :
  wpAny (model X.prog X.w) X.A (call (.ref C) us) (EP X bE1 σ Q) X.xe s:=by
 have hq:=h (s.heap.objs.size+1) s.heap.objs.size (I.hok.fresh (bDS _)) (I.hok.fresh (j0 _)) (v4 (bCC _));have I2:=Inv.made (C:=C) I;have r2:Vals (V.ref (s.heap.objs.size+1)::(vs++dvs)) (Value.ref (s.heap.objs.size+1)::(us++ds)):=.cons rfl (r.append hd);have hl:(Value.ref (s.heap.objs.size+1)::us++ds).length=ps.length:=by have e:=r2.length;rw[F.len _ _ _ _ hq] at e;exact e.symm
 refine bD8 (aR4 (f:=f) I.kIn M.makes M.init (beq_iff_eq.mp M.fn) (bCF (F.run _ X.stack _ _ ⟨Value.ref (s.heap.objs.size+1)::us,[]⟩ (Value.ref (s.heap.objs.size+1)::(us++ds)) _ _ E (hr.make C us [])
  (I2.env0.make C us []) (hb _ (Value.ref (s.heap.objs.size+1)::us) I2.kIn hl) r2 hq) λr s' hq'=>?_))
 cases r with
 |error e=>exact hx bE1 σ _ _ e s' I2 hq'
 |ok fl=>
  cases fl with
  |ret u=>obtain⟨v,H',I3,rv,ev,q3⟩:=I2.after hq';subst ev;exact⟨rv,⟨V.ref (s.heap.objs.size+1),H',I3,rfl,q3⟩⟩
  |next=>exact False.elim hq'
  |brk=>exact False.elim hq'
  |cont=>exact False.elim hq'
theorem aTx (M:Mk X.K C f)(F:lJ X.prog X.w X.K X.mg X.base CX k f fd ps sp)(hr:Room (k+1) X.A)(hg:Gl X x)(hm:X.mg x=some (.ref C))(hb:Binds X.K fd ps ds)(hd:Vals dvs ds)(hx:qM CX X E)
  (ha:PA X (e::es) t) (hdb:(x == ("__debug__":Str))=false:=by decide) (he:starEach (e::es) X.env=(false,eval e X.env)::starEach es X.env:=by rfl) (hpl:(backTo pos (starEach es X.env)).any (·.1)=false:=by rfl) :
  PE X (.Call (.Name x p) (e::es) [] pos) (aWw C sp dvs E t):=by
 intro bE1 s σ H Q I h;refine bBQ (vC I hg hm ?_ hdb);refine PySem.W.callWith_K (h₀:=X.base) I.ok.mod.kin M.kp (thn (ha pos bE1 s σ H _ I h) λus s1 ⟨vs,H1,I1,r,q⟩=>⟨I1.kIn,?_⟩) he hpl;exact aQr M F hr hb hd hx I1 r q
end
section
variable {X:Cx}{CX:CXT}{k:Nat}{f C:Addr}{fd:FuncData}{ps ks:List Str}{sp:Sp}{E:XK}{x m:Str}{p pos apos kpos:Pos}{e o:Expr}{es:List Expr}{kws:List Keyword}{te ta:TE}{t tk:TA}{nm:Option Str}
variable {g:List Value->List Value->List Value}{gV:List V->List V->List V}
end
structure aJ (N P:List Str)(sc:Scope):Prop where
 kind:sc.kind=.function
 co:sc.isCoroutine=false
 gen:sc.isGenerator=false
 nd:N.Nodup
 pre:N.take P.length=P
 par:∀x∈P,sc.names.lookup x=some .local\/sc.names.lookup x=some .cell
 nofree:∀y∈sc.names,y.2≠.free
theorem aDg {kindOf:Str->Option NameKind}{x:Str}:∀{binds:List (Str × Value)} {m:bE0},(∀v,(x,v)∉binds)->bindL kindOf binds m x=m x
 |[],_,_=>rfl
 |(n,v)::r,m,h=>by
  unfold bindL;rw[aDg λw hw=>h w (j6 _ hw)]
  split
  ·have:x≠n:=by rintro rfl;exact h v j8
   simp[this]
  ·rfl
theorem aD9 {kindOf:Str->Option NameKind}{x:Str}:∀{binds:List (Str × Value)} {m:bE0},(∀v,(x,v)∉binds)->bindC kindOf binds m x=m x
 |[],_,_=>rfl
 |(n,v)::r,m,h=>by
  unfold bindC;rw[aD9 λw hw=>h w (j6 _ hw)]
  split
  ·rfl
  ·have:x≠n:=by rintro rfl;exact h v j8
   simp[this]
theorem aDe {kindOf:Str->Option NameKind}{x:Str}{v:Value}:∀{P:List Str} {vs:List Value} {i:Nat} {m:bE0},P.Nodup->P[i]?=some x->vs[i]?=some v->kindOf x=some .local ->
  bindL kindOf (P.zip vs) m x=some v
 |[],_,_,_,_,h,_,_=>by simp at h
 |_::_,[],_,_,_,_,h,_=>by simp at h
 |p::P,w::vs,0,m,nd,h1,h2,hk=>by simp at h1 h2;subst h1;subst h2;show bindL kindOf ((p,w)::P.zip vs) m p=_;unfold bindL;rw[aDg λv hv=>(List.nodup_cons.mp nd).1 (List.of_mem_zip hv).1,if_pos hk];simp
 |p::P,w::vs,i+1,m,nd,h1,h2,hk=>by show bindL kindOf ((p,w)::P.zip vs) m x=_;unfold bindL;exact aDe (i:=i) (List.nodup_cons.mp nd).2 (by simpa using h1) (by simpa using h2) hk
theorem aD3 {kindOf:Str->Option NameKind}{x:Str}{v:Value}:∀{P:List Str} {vs:List Value} {i:Nat} {m:bE0},P.Nodup->P[i]?=some x->vs[i]?=some v->kindOf x≠some .local ->
  bindC kindOf (P.zip vs) m x=some v
 |[],_,_,_,_,h,_,_=>by simp at h
 |_::_,[],_,_,_,_,h,_=>by simp at h
 |p::P,w::vs,0,m,nd,h1,h2,hk=>by simp at h1 h2;subst h1;subst h2;show bindC kindOf ((p,w)::P.zip vs) m p=_;unfold bindC;rw[aD9 λv hv=>(List.nodup_cons.mp nd).1 (List.of_mem_zip hv).1,if_neg hk];simp
 |p::P,w::vs,i+1,m,nd,h1,h2,hk=>by show bindC kindOf ((p,w)::P.zip vs) m x=_;unfold bindC;exact aD3 (i:=i) (List.nodup_cons.mp nd).2 (by simpa using h1) (by simpa using h2) hk
def start (N:List Str)(vs:List V):St:=vs.map some++List.replicate (N.length - vs.length) none
def aBm (CX:CXT)(P:Program)(w:World)(K:bEX)(mg:bE0)(base:Heap)(N:List Str)(qual:Str)(scope:Scope)(f:Addr)(cd:Value)(A:Around)(outer:List Env)(s:Shared)(H:Hp)(E:XK):Cx where
 prog:=P
 w:=w
 K:=K
 mg:=mg
 base:=base
 A:=A.deeper (envOfC qual scope s.heap.objs.size f cd)
 N:=N
 s₀:=s
 H₀:=H
 env:=envOfC qual scope s.heap.objs.size f cd
 outer:=outer
 stack:=envOfC qual scope s.heap.objs.size f cd::outer
 ex:=[]
 calm:=true
 fn:=λ_=>true
 pn:=[]
 xe:=λe s'=>wpAny (model P w) (A.deeper (envOfC qual scope s.heap.objs.size f cd)) (leaving (envOfC qual scope s.heap.objs.size f cd) e) (λ_ s''=>CX outer H s E e s'') (λe' s''=>CX outer H s E e' s'') s'
theorem aJd {sc:Scope}{n:Nat}{x:Str}(h:sc.names.lookup x=some .cell):∃c,(cellsFrom n sc.names []).lookup x=some c:=by have q:=PySem.W.cellsFrom_some sc.names n [] (.inl h);exact Option.isSome_iff_exists.mp q
theorem aOw {CX:CXT}{P:Program}{w:World}{K:bEX}{mg:bE0}{base:Heap}{N ps:List Str}{qual:Str}{scope:Scope}{f:Addr}{cd:Value}{A:Around}{outer:List Env}{s s1:Shared}{H:Hp}{E:XK}{us:List Value}{vs:List V}
  (S:aJ N ps scope) (hd:A.handled=none) (e0:aGp P w K mg base A outer s H) (hl:vs.length=ps.length) (r:Vals vs us)
  (x:InCallC s s.heap.objs.size (bindL (envOfC qual scope s.heap.objs.size f cd).kindOf (ps.zip us) λ_=>none) (cellsFrom (s.heap.objs.size+1) scope.names []) (bindC (envOfC qual scope s.heap.objs.size f cd).kindOf (ps.zip us) λ_=>none) s1) :
  Inv (aBm CX P w K mg base N qual scope f cd A outer s H E) [] (start N vs) H s1:=by
 have hpl:ps.length<=N.length:=by have:=congrArg List.length S.pre;rw[bAM] at this;lia
 obtain⟨h1,tk,rfl,hk⟩:=x.done;have noA:∀b:Addr,b∉(aBm CX P w K mg base N qual scope f cd A outer s H E).ex:=λb z=>absurd (show b∈([]:List Addr) from z) (by simp);refine⟨⟨e0.mod,S.kind,rfl,rfl,j0 _,λy z c h1 h2=>?_,λy hy=>?_,λy c _ h=>?_,λ_=>hd,Around.frames_deeper e0.frames,.inr ⟨rfl,rfl⟩,λb z=>absurd z (noA b),e0.bs,e0.bsz,λb _ _=>noA b,λb z=>absurd z (noA b),e0.funs,e0.frf⟩,
  rfl,e0.bare,Un.kept hk,⟨_,x.toInCall.ns,λi y v h1 h2 h3=>?_⟩,λy c h=>⟨_,x.cell y c h⟩,e0.hok.fresh (j0 _),λy c h=>?_,λp hp=>absurd (show p∈([]:bEZ) from hp) (by simp),e0.hok.kept hk,?_⟩
 ·exact name_of_addr x.apart (PySem.mem_of_lookup h1) (PySem.mem_of_lookup h2)
 ·have hy:scope.names.lookup y=some .cell\/scope.names.lookup y=some .free:=hy;rcases hy with hy|hy
  ·exact aJd hy
  ·exact absurd rfl (S.nofree _ (PySem.mem_of_lookup hy))
 ·exact bC1 (x.above y c (PySem.mem_of_lookup h))
 ·have hi:i<vs.length:=by
   unfold start at h2;by_cases hi:i<vs.length
   ·exact hi
   ·rw[bBG (by simpa using hi)] at h2;rw[List.getElem?_replicate] at h2
    split at h2 <;> cases h2
  have ha:vs[i]?=some v:=by
   unfold start at h2;rw[bBK (by simpa using hi),v9] at h2;cases e:vs[i]? with
   |none=>rw[e] at h2;cases h2
   |some a=>rw[e] at h2;cases h2;rfl
  obtain⟨u,hu,rv⟩:=r.get ha;have hp:ps[i]?=some y:=by rw[<-S.pre,List.getElem?_take_of_lt (by lia)];exact h1
  have ndP:ps.Nodup:=by rw[<-S.pre];exact S.nd.sublist (List.take_sublist _ _)
  refine⟨u,rv,?_⟩;rcases S.par y (v6 hp) with k|k
  ·exact .inl ⟨k,aDe ndP hp hu k⟩
  ·obtain⟨c,e⟩:=aJd (n:=s.heap.objs.size+1) k;refine .inr ⟨.inl k,c,e,?_⟩;have q:=x.cell y c e;rw[aD3 ndP hp hu (by show scope.names.lookup y≠_;rw[k];decide)] at q;exact q
 ·exact e0.hok.fresh (bC1 (x.above y c (PySem.mem_of_lookup h)))
 ·unfold start;show _=N.length;rw[bAG,j9,bC7];lia
theorem aWv {CX:CXT}{P:Program}{w:World}{K:bEX}{mg:bE0}{base:Heap}{k:Nat}{f:Addr}{name qual:Str}{params:Arguments}{body:List Stmt}{scope:Scope}{dV kV doc pm cdv ct oc:Value}{an od:Option Addr}
  {osl:Array (Option Value)} {N ps:List Str} {sp:Sp} (lk:K.lookup f=some ⟨oc,od,.func (PySem.W.fnOf name qual params body scope dV kV doc pm an cdv ct),osl⟩) (hcd:PySem.W.codeIn K cdv qual=true) (S:aJ N ps scope)
  (len:∀vs H Q E,sp vs H Q E->vs.length=ps.length)
  (hbody:∀(A:Around) (outer:List Env) (s:Shared) (H:Hp) (vs:List V) (Q:VK) (E:XK),Room k (A.deeper (envOfC qual scope s.heap.objs.size f cdv))->sp vs H Q E ->
   ∃t,PSs (aBm CX P w K mg base N qual scope f cdv A outer s H E) body t/\t { nx:=λ_ H'=>Q .non H',rt:=Q } (start N vs) H) :
  lJ P w K mg base CX (k+1) f (PySem.W.fnOf name qual params body scope dV kV doc pm an cdv ct) ps sp:=by
 refine⟨len,λA outer s H args us vs Q E hr e0 hb r hsp=>?_⟩;have hl:=len _ _ _ _ hsp;have KX:K.In s.heap:=e0.mod.kin.keeps λb o e=>(e0.bs b o e).1;have lim:s.heap.NoLimit:=e0.mod.nolimit.keeps λb o e=>(e0.bs b o e).1;have hkind:∀y∈ps.zip us,scope.names.lookup y.1=some .local\/(scope.names.lookup y.1=some .cell/\((cellsFrom (s.heap.objs.size+1) scope.names []).lookup y.1).isSome=true):=λ⟨n,v⟩ hy=>by
  rcases S.par n (List.of_mem_zip hy).1 with q|q
  ·exact .inl q
  ·exact .inr ⟨q,PySem.W.cellsFrom_some _ _ _ (.inl q)⟩
 refine codeAny_call_function hr.depth (KX _ _ lk) rfl S.co S.gen rfl (PySem.W.codeRec_of KX hcd) (hb _ _ _ _ ?_);refine wpAny_newFunctionEnv_cells S.kind hkind λenv he s1 x=>?_;subst he;refine⟨lim.keeps x.toInCall.keep,codeAny_func ?_⟩;obtain⟨t,ht,hq⟩:=hbody A outer s H vs Q E (hr.deeper _) hsp;have I:Inv (aBm CX P w K mg base N qual scope f cdv A outer s H E) [] (start N vs) H s1:=aOw S hr.hd e0 hl r x;refine bBL (ht [] s1 (start N vs) H _ I hq) (λfl s' hs=>?_) λe s' hs=>hs;have fin:∀{σ':St} {H':Hp} {v:V} {u:Value},Inv (aBm CX P w K mg base N qual scope f cdv A outer s H E) [] σ' H' s'->RelV v u->Q v H'->CE outer P w H s Q u s':=
  λ{σ' H' v u} J rv q=>⟨v,H',J.os,J.bare,J.base,J.hok,rv,q⟩
 cases fl with
 |ret u=>obtain⟨v,σ',H',J,rv,q⟩:=hs;exact fin J rv q
 |next=>obtain⟨σ',H',J,q⟩:=hs;exact fin (v:=V.non) (u:=Value.none) J rfl q
 |brk=>obtain⟨_,_,_,q⟩:=hs;exact False.elim q
 |cont=>obtain⟨_,_,_,q⟩:=hs;exact False.elim q
section
variable {X:Cx}{x:Str}{p pos:Pos}{e:Expr}{es:List Expr}{t:TA}{id T:String}{r:List V->Hp->VK->Prop}
def tCB (r:List V->Hp->VK->Prop)(t:TA):TE:=fun σ H Q=>t σ H λvs H1=>r vs H1 Q
theorem aRc (hc:cI X (.builtin id) r)(hg:Gl X x)(hm:X.mg x=none)(hv:bootBuiltins x=some (.builtin id))(ha:PA X (e::es) t)(hn:x≠"__name__":=by decide)(hdb:(x == ("__debug__":Str))=false:=by decide)
  (he:starEach (e::es) X.env=(false,eval e X.env)::starEach es X.env:=by rfl) (hpl:(backTo pos (starEach es X.env)).any (·.1)=false:=by rfl):PE X (.Call (.Name x p) (e::es) [] pos) (tCB r t):=by
 intro bE1 s σ H Q I h;refine bBQ (pR I hg hm hv ?_ hn hdb);exact PyProof.Rows.callWith_builtin1 (thn (ha pos bE1 s σ H _ I h) λus s1 ⟨vs,H1,I1,r1,q1⟩=>hc bE1 s1 σ H1 vs us Q I1 r1 q1) he hpl
theorem aPw (hc:cI X (.type T) r)(hg:Gl X x)(hm:X.mg x=none)(hv:bootBuiltins x=some (.type T))(ha:PA X (e::es) t)(hn:x≠"__name__":=by decide)(hdb:(x == ("__debug__":Str))=false:=by decide)
  (he:starEach (e::es) X.env=(false,eval e X.env)::starEach es X.env:=by rfl) (hpl:(backTo pos (starEach es X.env)).any (·.1)=false:=by rfl):PE X (.Call (.Name x p) (e::es) [] pos) (tCB r t):=by
 intro bE1 s σ H Q I h;refine bBQ (pR I hg hm hv ?_ hn hdb);exact bBP (thn (ha pos bE1 s σ H _ I h) λus s1 ⟨vs,H1,I1,r1,q1⟩=>hc bE1 s1 σ H1 vs us Q I1 r1 q1) he hpl
end
end L2
namespace HT
open PySem PyProof.Rows
section
open PySem.SeqAt
open PySem.AutoSeq1 (wpAny_loadPart')
open PySem.MeetsSeq PySem.MeetsSeq2 PySem.MeetsSeq3
end
section
variable {prog:Program}{w:World}{A:Around}{E:bEY}{s:Shared}
theorem aUa {t b:Addr}{vs ws:List Value}{Q:bEY}(ht:IsTup s.heap t vs.toArray)(hb:IsTup s.heap b ws.toArray)(hv:vs≠[])
  (h1:ws=[]->Q (.ref t) s) (h2:ws≠[]->Q (.ref s.heap.objs.size) { s with heap:=s.heap.push { cls:=.type "tuple",data:=.seq (vs++ws).toArray } })
  (hsz:vs.length+ws.length<=sizeLine):wpAny (model prog w) A (binaryOp .Add (.ref t) (.ref b)) Q E s:=by
 obtain⟨⟨cls,dd,data,sl⟩,ho,hc,n,hd⟩:=id ht;obtain⟨⟨cls2,dd2,data2,sl2⟩,ho2,hc2,n2,hd2⟩:=id hb;simp only at hc hd hc2 hd2;subst hc hd hc2 hd2;have e:vs.toArray++ws.toArray=(vs++ws).toArray:=by simp
 by_cases hw:ws=[]
 ·exact concat_meets ⟨_,ho,rfl⟩ ⟨_,ho2,rfl⟩ noFill_tuple_add seq_tuple_add PySem.F.slot_tuple_add PySem.F.entry_tuple_add (PySem.F.args_tuple_add_2 _ _)
   (tuple_addW1 t b vs.toArray ws.toArray n n2 dd dd2 sl sl2 (by simpa using hv) (by simp[hw])) ⟨ho,ho2,h1 hw⟩
 ·refine concat_meets ⟨_,ho,rfl⟩ ⟨_,ho2,rfl⟩ noFill_tuple_add seq_tuple_add PySem.F.slot_tuple_add PySem.F.entry_tuple_add (PySem.F.args_tuple_add_2 _ _)
   (tuple_addW2 t b vs.toArray ws.toArray n n2 dd dd2 sl sl2 (by simpa using hv) (by simpa using hw) (by rw[j7,j7];exact hsz)) ⟨ho,ho2,?_⟩
  rw[e];exact h2 hw
def sIx (n d:Nat):Option Int->Nat
 |none=>d
 |some v=>if v<0 then (v+(n:Int)).toNat else min v.toNat n
theorem aHh (n d:Nat):sIx n d none=d:=rfl
theorem aM8 (n d k:Nat):sIx n d (some (k:Int))=min k n:=by show (if (k:Int)<0 then ((k:Int)+(n:Int)).toNat else min (k:Int).toNat n)=min k n;rw[if_neg (by lia),bAY]
theorem aZv (n d:Nat)(hd:d<=n)(o:Option Int):sIx n d o<=n:=by
 cases o with
 |none=>exact hd
 |some v=>
  show (if v<0 then (v+(n:Int)).toNat else min v.toNat n)<=n;by_cases hv:v<0
  ·rw[if_pos hv];lia
  ·rw[if_neg hv];exact Nat.min_le_right _ _
theorem aM2 (v:Int)(n d:Nat):(if v<0 then max (v+(n:Int)) 0 else min v (n:Int))=((sIx n d (some v):Nat):Int):=by
 show (if v<0 then max (v+(n:Int)) 0 else min v (n:Int))=(((if v<0 then (v+(n:Int)).toNat else min v.toNat n):Nat):Int);by_cases hv:v<0
 ·simp only[if_pos hv];lia
 ·simp only[if_neg hv];lia
theorem aMa (lo hi:Option Int)(n:Nat):Builtin.Slice.sliceAdjust lo hi 1 (n:Int)=(((sIx n 0 lo:Nat):Int),((sIx n n hi:Nat):Int)):=by
 have h1:¬ ((1:Int)<0):=by lia
 unfold Builtin.Slice.sliceAdjust;simp only[h1,if_false];refine Prod.ext ?_ ?_
 ·cases lo with
  |none=>rfl
  |some v=>exact aM2 v n 0
 ·cases hi with
  |none=>rfl
  |some v=>exact aM2 v n n
theorem aLo (i j:Nat):Builtin.Slice.slicePlaces (i:Int) (j:Int) 1=j - i:=by
 unfold Builtin.Slice.slicePlaces;have h1:(1:Int) > 0:=by lia
 simp only[h1,if_true,Int.ediv_one]
 split <;> lia
theorem aAx {v:Value}{o:Option Int}{Q:Option Int->Shared->Prop}(p:IsPart v o)(h:Q o s):wpAny (model prog w) A (Builtin.Slice.slicePartIndex v) Q E s:=by
 cases p with
 |none=>exact slicePart_none h
 |int i t=>exact slicePart_int h
theorem nY {sl:Addr}{vl vu:Value}{lo hi:Option Int}{n:Nat}{Q:Int × Int × Nat->Shared->Prop}(hs:s.heap.IsSliceOf sl vl vu .none)(pl:IsPart vl lo)(pu:IsPart vu hi)
  (h:Q (((sIx n 0 lo:Nat):Int),1,sIx n n hi - sIx n 0 lo) s):wpAny (model prog w) A (Builtin.Slice.sliceApplied (.ref sl) (pure (n:Int))) Q E s:=by
 obtain⟨os,hos,hcs,hds⟩:=id hs;unfold Builtin.Slice.sliceApplied Builtin.Slice.sliceFields;refine c7 (c7 (bAI hos hds (x:=vl) rfl (c7 (bAI hos hds (x:=vu) rfl (c7 (bAI hos hds (x:=.none) rfl (d9 ?_)))))));refine c7 (slicePart_none ?_);show wpAny _ _ (if ((1:Int) == 0)=true then _ else _) _ _ s;rw[if_neg (by decide)];refine c7 (aAx pl (c7 (aAx pu (c7 (d9 ?_)))));show wpAny _ _ (match Builtin.Slice.sliceAdjust lo hi 1 (n:Int) with|(lo,hi)=>pure (lo,(1:Int),Builtin.Slice.slicePlaces lo hi 1)) _ _ s;rw[aMa lo hi n];show wpAny _ _ (pure (((sIx n 0 lo:Nat):Int),(1:Int),Builtin.Slice.slicePlaces ((sIx n 0 lo:Nat):Int) ((sIx n n hi:Nat):Int) 1)) _ _ s;rw[aLo];exact d9 h
theorem aTo (xs:Array Value)(i k:Nat):((List.range k).filterMap λ(m:Nat)=>xs[((i:Int)+(m:Int) * 1).toNat]?).toArray=((xs.toList.drop i).take k).toArray:=by
 have e:(λ(m:Nat)=>xs[((i:Int)+(m:Int) * 1).toNat]?)=λm=>xs[i+m]?:=by
  funext m;have:((i:Int)+(m:Int) * 1).toNat=i+m:=by lia
  rw[this]
 rw[e];have:=pick_run xs i k;rw[bDO] at this;have e2:((λx=>xs[x]?) ∘ λx=>i+x)=λm=>xs[i+m]?:=rfl;rw[e2] at this;rw[this]
theorem vP {t sl:Addr}{items:Array Value}{vl vu:Value}{lo hi:Option Int}{Q:bEY}(ht:IsTup s.heap t items)(hs:s.heap.IsSliceOf sl vl vu .none)(pl:IsPart vl lo)(pu:IsPart vu hi)
  (hw:¬ (sIx items.size 0 lo=0/\sIx items.size items.size hi=items.size))
  (h:Q (.ref s.heap.objs.size) { s with heap:=s.heap.push { cls:=.type "tuple",data:=.seq ((items.toList.drop (sIx items.size 0 lo)).take (sIx items.size items.size hi - sIx items.size 0 lo)).toArray } })
  (hsz:items.size<=sizeLine):wpAny (model prog w) A (getItem (.ref t) (.ref sl)) Q E s:=by
 have htake:sizeOk (.seq ((items.toList.drop (sIx items.size 0 lo)).take (sIx items.size items.size hi - sIx items.size 0 lo)).toArray):=by show ((items.toList.drop (sIx items.size 0 lo)).take (sIx items.size items.size hi - sIx items.size 0 lo)).toArray.size<=sizeLine;rw[j7,bAM,bBW,t7];lia
 have hj:sIx items.size items.size hi<=items.size:=aZv _ _ (j0 _) hi;obtain⟨os,hos,hcs,hds⟩:=id hs;have hTs:s.TypeIs (.ref sl) "slice":=⟨os,hos,hcs⟩;unfold getItem
 try with_reducible refine bAQ ?_
 first|refine c7 (d9 ?_)|skip
 refine c7 (wpAny_sequenceKey ht.typeIs (by decide) ?_);refine c7 (bAF (name:=Str.ofString "__getitem__") ht.typeIs bCB
  (bAD bCB ht.typeIs entry_tuple_getitem ?_ (args_tuple_getitem _ _)))
 show wpAny _ _ (Builtin.Tuple.tupleItemsOf (.ref t) >>= _) _ _ s;refine c7 (tupleItemsOf_ ht ?_);refine c7 (bDW hTs ?_);rw[if_pos (by decide)];refine c7 (nY hs pl pu ?_);have hno:¬ ((((sIx items.size 0 lo:Nat):Int) == 0 && (1:Int) == 1 && (sIx items.size items.size hi - sIx items.size 0 lo) == items.size)=true):=by intro q;rw[bAR,bAR] at q;have q1:((sIx items.size 0 lo:Nat):Int)=0:=eq_of_beq q.1.1;have q2:sIx items.size items.size hi - sIx items.size 0 lo=items.size:=eq_of_beq q.2;exact hw ⟨by lia,by lia⟩
 show wpAny _ _ (if (((sIx items.size 0 lo:Nat):Int) == 0 && (1:Int) == 1 && (sIx items.size items.size hi - sIx items.size 0 lo) == items.size)=true then _ else _) _ _ s;rw[if_neg hno,aTo];first
  |exact c7 (m:=Builtin.Tuple.tupleExact _) (bAJ (d9 ⟨_,rfl,d9 h⟩) htake)
  |exact c7 (m:=Builtin.Tuple.tupleExact _) (bAJ (c7 (d9 (d9 ⟨_,rfl,d9 h⟩))) htake)
  |exact c7 (c7 (m:=Builtin.Tuple.tupleExact _) (bAJ (d9 (d9 ⟨_,rfl,d9 h⟩)) htake))
  |exact c7 (c7 (m:=Builtin.Tuple.tupleExact _) (bAJ (d9 ⟨_,rfl,d9 h⟩) htake))
end
end HT
namespace L2
open PySem PySem.Spec PyProof.Rows
abbrev TO:=St->Hp->(Option Int->Hp->Prop)->Prop
def PO (X:Cx)(e:Option Expr)(t:TO):Prop:=
 ∀(bE1:bEZ) (s:Shared) (σ:St) (H:Hp) (Q:Option Int->Hp->Prop),Inv X bE1 σ H s->t σ H Q ->
  wpAny (model X.prog X.w) X.A (evalPart e X.env) (λu s'=>∃o H',Inv X bE1 σ H' s'/\IsPart u o/\Q o H') X.xe s
def aN1:TO:=λ_ H Q=>Q none H
def aWz (t:TE):TO:=fun σ H Q=>t σ H λx H1=>∃i,x=.int i/\Q (some i) H1
section
variable {X:Cx}{e:Expr}{te:TE}{lo hi:Option Expr}{tl th:TO}{pos p2:Pos}
theorem aV2:PO X none aN1:=by intro bE1 s σ H Q I h;rw[evalPart_none];exact d9 ⟨none,H,I,.none,h⟩
theorem aU8 (h:PE X e te):PO X (some e) (aWz te):=by intro bE1 s σ H Q I hw;rw[evalPart_some];refine thn (h bE1 s σ H _ I hw) λu s1 ⟨x,H1,I1,r1,q1⟩=>?_;obtain⟨i,rfl,q⟩:=q1;obtain⟨t,rfl⟩:=r1;exact⟨some i,H1,I1,.int i t,q⟩
def SlR (X:Cx)(r:V->Option Int->Option Int->Hp->VK->Prop):Prop:=
 ∀(bE1:bEZ) (s:Shared) (σ:St) (H:Hp) (x:V) (v vl vu:Value) (lo hi:Option Int) (sl:Addr) (Q:VK),Inv X bE1 σ H s->RelV x v->s.heap.IsSliceOf sl vl vu .none->IsPart vl lo->IsPart vu hi->r x lo hi H Q ->
  ∃T id,typeLookup (.type T) "__getitem__"=pure (some (.builtin id))/\s.TypeIs v T/\wpAny (model X.prog X.w) X.A (getItem v (.ref sl)) (EP X bE1 σ Q) X.xe s
def tSl (r:V->Option Int->Option Int->Hp->VK->Prop)(te:TE)(tl th:TO):TE:=fun σ H Q=>te σ H λx H1=>tl σ H1 λl H2=>th σ H2 λu H3=>r x l u H3 Q
theorem aTe {r:V->Option Int->Option Int->Hp->VK->Prop}(hr:SlR X r)(he:PE X e te)(hl:PO X lo tl)(hu:PO X hi th):PE X (.Subscript e (.Slice lo hi none p2) pos) (tSl r te tl th):=by intro bE1 s σ H Q I h;refine Subscript_ (thn (he bE1 s σ H _ I h) λv s1 ⟨x,H1,I1,r1,q1⟩=>?_);refine wpAny_Slice (thn (hl bE1 s1 σ H1 _ I1 q1) λvl s2 ⟨l,H2,I2,pl,q2⟩=>thn (hu bE1 s2 σ H2 _ I2 q2) λvu s3 ⟨u,H3,I3,pu,q3⟩=>?_);rw[evalPart_none];refine d9 ?_;have I4:Inv X bE1 σ H3 { s3 with heap:=s3.heap.push { cls:=.type "slice",data:=.fields #[vl,vu,.none] } }:=I3.kept (t':=s3.toks) λb ob q=>d8 _ q;obtain⟨T,id,hT,ht,hg⟩:=hr bE1 { s3 with heap:=s3.heap.push { cls:=.type "slice",data:=.fields #[vl,vu,.none] } } σ H3 x v vl vu l u s3.heap.objs.size Q I4 r1 (Heap.IsSliceOf.new ..) pl pu q3;show wpAny (model X.prog X.w) X.A (subscriptTail e (.Slice lo hi none p2) v (.ref s3.heap.objs.size)) (EP X bE1 σ Q) X.xe { s3 with heap:=s3.heap.push { cls:=.type "slice",data:=.fields #[vl,vu,.none] } };exact tail_any (ops:=[.ref s3.heap.objs.size,v]) ht hT hg (by with_unfolding_all rfl)
def pH (xs:List V)(lo hi:Option Int):List V:=(xs.drop (HT.sIx xs.length 0 lo)).take (HT.sIx xs.length xs.length hi - HT.sIx xs.length 0 lo)
theorem yL (xs:List V)(lo hi:Option Int):(pH xs lo hi).length<=xs.length:=by unfold pH;rw[bAM,bBW];lia
def bBr (K:bEX):V->Option Int->Option Int->Hp->VK->Prop:=λx lo hi H Q=>∃a xs,x=.ref a/\SqT K H a xs /\
 ¬ (HT.sIx xs.length 0 lo=0/\HT.sIx xs.length xs.length hi=xs.length)/\∀p,H p=none->Q (.ref p) (upd H p (.tup (pH xs lo hi)))
theorem aX2:SlR X (bBr X.K):=by
 intro bE1 s σ H x v vl vu lo hi sl Q I rx hs pl pu h;obtain⟨a,xs,rfl,hx,hw,q⟩:=h;cases rx;obtain⟨its,r,ht,hz⟩:=I.tuple hx;have hlen:its.toArray.size=xs.length:=by rw[j7];exact r.length.symm
 refine⟨"tuple",_,PyProof.Rows.slot_tuple_getitem.lookup,ht.typeIs,?_⟩;refine HT.vP ht hs pl pu (by rw[hlen];exact hw) ?_ (by rw[hlen];exact hz);rw[hlen];refine⟨.ref s.heap.objs.size,_,I.laid (t':=s.toks) (o:=.tup (pH xs lo hi)) (λb ob q=>d8 _ q) (j0 _) ?_,rfl,q _ (I.hok.fresh (j0 _))⟩;exact⟨bAL (yL xs lo hi) hz,_,(r.drop (HT.sIx xs.length 0 lo)).take (HT.sIx xs.length xs.length hi - HT.sIx xs.length 0 lo),yW.new _ _⟩
def bBd (K:bEX):R2:=λx y H Q=>∃a b xs ys,x=.ref a/\y=.ref b/\SqT K H a xs/\SqT K H b ys/\xs≠[]/\xs.length+ys.length<=sizeLine /\
 (ys=[]->Q (.ref a) H)/\(ys≠[]->∀p,H p=none->Q (.ref p) (upd H p (.tup (xs++ys))))
theorem Vals.aE3 {xs:List V}{us:List Value}(r:Vals xs us):us=[]↔xs=[]:=by
 cases r with
 |nil=>simp
 |cons _ _=>simp
theorem aU5:OpR X (binaryOp .Add) (bBd X.K):=by intro bE1 s σ H x y v u Q I rx ry h;obtain⟨a,b,xs,ys,rfl,rfl,ha,hb,hx,hz,q1,q2⟩:=h;cases rx;cases ry;obtain⟨its,r1,p1,_⟩:=I.tuple ha;obtain⟨its2,r2,p2,_⟩:=I.tuple hb;refine HT.aUa p1 p2 (λz=>hx (r1.aE3.mp z)) (λz=>⟨.ref a,H,I,rfl,q1 (r2.aE3.mp z)⟩) (λz=>?_) (by rw[<-r1.length,<-r2.length];exact hz);refine⟨.ref s.heap.objs.size,_,I.laid (t':=s.toks) (o:=.tup (xs++ys)) (λb ob q=>d8 _ q) (j0 _) ?_,rfl,q2 (λw=>z (r2.aE3.mpr w)) _ (I.hok.fresh (j0 _))⟩;exact⟨by rw[bAG];exact hz,_,r1.append r2,yW.new _ _⟩
end
def ixN (n:Nat)(i:Int):Option Nat:=if 0<=i then (if i<n then some i.toNat else none) else if -(n:Int)<=i then some (i+n).toNat else none
def atI {α:Type}(xs:List α)(i:Int):Option α:=(ixN xs.length i).bind λj=>xs[j]?
theorem aNe {n:Nat}{i:Int}{j:Nat}(h:ixN n i=some j):seqIndex? i n=some j/\j<n/\-(n:Int)<=i/\i<n:=by
 unfold ixN at h;by_cases h0:0<=i
 ·rw[if_pos h0] at h;by_cases h1:i<n
  ·rw[if_pos h1] at h;have e:i.toNat=j:=bAN h;exact⟨by rw[seqIndex_of h0 h1,e],by lia,by lia,h1⟩
  ·rw[if_neg h1] at h;cases h
 ·rw[if_neg h0] at h;by_cases h1:-(n:Int)<=i
  ·rw[if_pos h1] at h;have e:(i+n).toNat=j:=bAN h;exact⟨by rw[seqIndex_neg (by lia) h1,e],by lia,h1,by lia⟩
  ·rw[if_neg h1] at h;cases h
theorem aNm {α:Type}{xs:List α}{i:Int}{v:α}(h:atI xs i=some v):∃j,seqIndex? i xs.length=some j/\xs[j]?=some v/\j<xs.length/\-(xs.length:Int)<=i/\i<xs.length:=by
 unfold atI at h;cases e:ixN xs.length i with
 |none=>rw[e] at h;cases h
 |some j=>rw[e] at h;obtain⟨h1,h2,h3,h4⟩:=aNe e;exact⟨j,h1,h,h2,h3,h4⟩
theorem cL {α:Type}{xs:List α}{j:Nat}{v:α}(h:xs[j]?=some v):atI xs (j:Int)=some v:=by
 have hj:j<xs.length:=(List.getElem?_eq_some_iff.mp h).1;have e:ixN xs.length (j:Int)=some j:=by unfold ixN;rw[if_pos (by lia),if_pos (by lia)];simp
 unfold atI;rw[e];exact h
def aNo (b:Expr):Prop:=∀o i,subscripted b false o i=operate [o,i] (getItem o i)
def IxR (X:Cx)(r:R2):Prop:=
 ∀(value slice:Expr) (bE1:bEZ) (s:Shared) (σ:St) (H:Hp) (x y:V) (v u:Value) (Q:VK),Inv X bE1 σ H s->RelV x v->RelV y u->r x y H Q ->
  subscripted slice false v u=operate [v,u] (getItem v u)->wpAny (model X.prog X.w) X.A (subscriptTail value slice v u) (EP X bE1 σ Q) X.xe s
def MtR (X:Cx)(id:String)(r:V->List V->Hp->VK->Prop):Prop:=
 ∀(bE1:bEZ) (s:Shared) (σ:St) (H:Hp) (x:V) (xs:List V) (v:Value) (us:List Value) (Q:VK),Inv X bE1 σ H s->RelV x v->Vals xs us->r x xs H Q ->
  wpAny (model X.prog X.w) X.A (call (.builtin id) (v::us)) (EP X bE1 σ Q) X.xe s
section
variable {X:Cx}{a b:Expr}{ta tb:TE}{pos:Pos}
theorem bAk {r:R2}(hr:IxR X r)(ha:PE X a ta)(hb:PE X b tb)(hs:aNo b):PE X (.Subscript a b pos) (tOp r ta tb):=by intro bE1 s σ H Q I h;exact Subscript_ (aUm ha hb I h λv u s2 x y H2 I2 rx ry q=>hr a b bE1 s2 σ H2 x y v u Q I2 rx ry q (hs _ _))
def bBq (K:bEX):R2:=λx y H Q=>∃p xs i v,x=.ref p/\y=.int i/\SqL K H p xs/\atI xs i=some v/\Q v H
def bAz (K:bEX):R2:=λx y H Q=>∃p xs i v,x=.ref p/\y=.int i/\SqT K H p xs/\atI xs i=some v/\Q v H
theorem cN:IxR X (bBq X.K):=by
 intro value slice bE1 s σ H x y v u Q I rx ry h hs;obtain⟨p,xs,i,z,rfl,rfl,hq,he,q⟩:=h;cases rx;obtain⟨t,rfl⟩:=ry;obtain⟨its,r,pl,hz⟩:=I.list hq;obtain⟨j,h1,h2,h3,h4,h5⟩:=aNm he;obtain⟨w,ew,rw'⟩:=r.get h2;have hl:=r.length;have hn:=wQ;have fin:EP X bE1 σ Q w s:=⟨z,H,I,rw',q⟩;by_cases h0:0<=i
 ·have hj:i.toNat=j:=by rw[seqIndex_of h0 h5] at h1;exact bAN h1
  exact item_listR pl.isList h0 (by lia) (by rw[hj];simpa using ew) fin hs
 ·have hj:(i+(its.toArray.size:Int)).toNat=j:=by rw[seqIndex_neg (by lia) h4] at h1;rw[j7,<-hl];exact bAN h1
  exact subscriptTail_builtinR (x:=w) pl.isList.typeIs slot_list_getitem.lookup
   (wpAny_getItem_list_neg (Q:=λr s'=>r=w/\EP X bE1 σ Q r s') pl.isList (by lia) (by rw[j7] <;> lia) (by lia) (by rw[hj];simpa using ew) ⟨rfl,fin⟩) hs
theorem bH:IxR X (bAz X.K):=by
 intro value slice bE1 s σ H x y v u Q I rx ry h hs;obtain⟨p,xs,i,z,rfl,rfl,hq,he,q⟩:=h;cases rx;obtain⟨t,rfl⟩:=ry;obtain⟨its,r,pl,hz⟩:=I.tuple hq;obtain⟨j,h1,h2,h3,h4,h5⟩:=aNm he;obtain⟨w,ew,rw'⟩:=r.get h2;have hl:=r.length;have hn:=wQ;have fin:EP X bE1 σ Q w s:=⟨z,H,I,rw',q⟩;exact subscriptTail_builtinR (x:=w) pl.typeIs slot_tuple_getitem.lookup
  (getItem_tuple (j:=j) (Q:=λr s'=>r=w/\EP X bE1 σ Q r s') pl (by lia) (by lia) (by rw[j7,<-hl];exact h1) (by simpa using ew) ⟨rfl,fin⟩) hs
theorem aKh (its:List Value)(n j:Nat)(u:Value):Obj.mapSeq (·.setIfInBounds j u) { cls:=.type "list",data:=.seq its.toArray n }={ cls:=.type "list",data:=.seq (its.set j u).toArray n }:=by simp[Obj.mapSeq]
theorem Inv.lst {bE1:bEZ}{σ:St}{H:Hp}{s:Shared}{p:Addr}{xs:List V}(I:Inv X bE1 σ H s)(h:H p=some (.lst xs)) :
  ∃(its:List Value) (n:Nat),Vals xs its/\s.heap.get? p=some { cls:=.type "list",data:=.seq its.toArray n }/\xs.length<=sizeLine:=by
 obtain⟨z,its,n,r,e⟩:=I.hok p _ h;exact⟨its,n,r,e,z⟩
theorem Inv.aYc {bE1:bEZ}{σ:St}{H:Hp}{s:Shared}{p:Addr}{xs ys:List V}{its its':List Value}{n n':Nat}{f:Obj->Obj}(I:Inv X bE1 σ H s)(h:H p=some (.lst xs))
  (ho:s.heap.get? p=some { cls:=.type "list",data:=.seq its.toArray n }) (hf:f { cls:=.type "list",data:=.seq its.toArray n }={ cls:=.type "list",data:=.seq its'.toArray n' }) (r:Vals ys its') (hz:ys.length<=sizeLine) (t:Nat) :
  Inv X bE1 σ (upd H p (.lst ys)) { s with heap:=s.heap.update p f,toks:=t }:=by
 have e:(s.heap.update p f).get? p=some { cls:=.type "list",data:=.seq its'.toArray n' }:=by rw[bBF f ho (by rw[hf] <;> rfl),hf]
 refine I.write (x:=p) (e:=p) (by rw[h];trivial) (.inl rfl) (λb u hb q=>(bC2 _ _ (Ne.symm hb)).trans q) ⟨_,e⟩ ?_;exact⟨hz,its',n',r,e⟩
def bAr:V->V->V->Hp->(Hp->Prop)->Prop:=λo i v H Q=>∃p xs k j,o=.ref p/\i=.int k/\H p=some (.lst xs)/\ixN xs.length k=some j/\Q (upd H p (.lst (xs.set j v)))
theorem set_list:aZc X bAr:=by
 intro bE1 s σ H o i v ov iv u Q I ro ri rv h;obtain⟨p,xs,k,j,rfl,rfl,hp,hj,q⟩:=h;cases ro;obtain⟨t,rfl⟩:=ri;obtain⟨its,n,r,ho,hz⟩:=I.lst hp;obtain⟨h1,h2,h3,h4⟩:=aNe hj;have hl:=r.length;have hn:=wQ;have I':Inv X bE1 σ (upd H p (.lst (xs.set j v))) { s with heap:=s.heap.update p (Obj.mapSeq (·.setIfInBounds j u)) }:=
  I.aYc hp ho (aKh its n j u) (r.set rv j) (by rw[List.length_set];exact hz) s.toks
 by_cases h0:0<=k
 ·have hk:k.toNat=j:=by rw[seqIndex_of h0 h4] at h1;exact bAN h1
  exact PySem.W.ki_setAt ho h0 (by lia) (by rw[j7,<-hl];exact h4) (by rw[hk];exact⟨_,I',q⟩)
 ·have hk:(k+(its.toArray.size:Int)).toNat=j:=by rw[seqIndex_neg (by lia) h3] at h1;rw[j7,<-hl];exact bAN h1
  exact PySem.W.ki_setBack ho (by lia) (by rw[j7,<-hl];exact h3) (by lia) (by rw[hk];exact⟨_,I',q⟩)
theorem aE0 (lo hi:Option Int)(n:Nat):(sliceBounds lo hi none n).1=((HT.sIx n 0 lo:Nat):Int)/\(sliceBounds lo hi none n).2.1=((HT.sIx n n hi:Nat):Int)/\(sliceBounds lo hi none n).2.2=1:=by
 refine⟨?_,?_,rfl⟩
 ·cases lo with
  |none=>simp[sliceBounds,HT.sIx]
  |some i=>
   simp only[sliceBounds,HT.sIx,Option.getD_none,show (1:Int) > 0 by decide,if_true];by_cases h:i<0
   ·simp only[h,if_true] <;> lia
   ·simp only[h,if_false] <;> lia
 ·cases hi with
  |none=>simp[sliceBounds,HT.sIx]
  |some i=>
   simp only[sliceBounds,HT.sIx,Option.getD_none,show (1:Int) > 0 by decide,if_true];by_cases h:i<0
   ·simp only[h,if_true] <;> lia
   ·simp only[h,if_false] <;> lia
theorem aCz (its:List Value)(lo hi:Option Int):slicePick its.toArray lo hi none=((its.drop (HT.sIx its.length 0 lo)).take (HT.sIx its.length its.length hi - HT.sIx its.length 0 lo)).toArray:=by obtain⟨h1,h2,h3⟩:=aE0 lo hi its.toArray.size;unfold slicePick;rw[h1,h2,h3];simp only[sliceRange_one,pick_run,j7] <;> rfl
def bBs (K:bEX):V->Option Int->Option Int->Hp->VK->Prop:=λx lo hi H Q=>∃a xs,x=.ref a/\SqL K H a xs/\∀p,H p=none->Q (.ref p) (upd H p (.lst (pH xs lo hi)))
theorem aVx:SlR X (bBs X.K):=by intro bE1 s σ H x v vl vu lo hi sl Q I rx hs pl pu h;obtain⟨a,xs,rfl,hx,q⟩:=h;cases rx;obtain⟨its,r,ht,hz⟩:=I.list hx;have hlen:=r.length;refine⟨"list",_,slot_list_getitem.lookup,ht.isList.typeIs,?_⟩;refine wpAny_getItem_list_slice ht.isList hs pl pu .none (by simp) ?_ (by rw[j7] <;> lia);rw[aCz,<-hlen];refine⟨.ref s.heap.objs.size,_,I.laid (t':=s.toks) (o:=.lst (pH xs lo hi)) (λb ob q=>d8 _ q) (j0 _) ?_,rfl,q _ (I.hok.fresh (j0 _))⟩;exact⟨bAL (yL xs lo hi) hz,_,0,(r.drop (HT.sIx xs.length 0 lo)).take (HT.sIx xs.length xs.length hi - HT.sIx xs.length 0 lo),j5 _ rfl⟩
def jW:V->Bool
 |.non=>true
 |.bl _=>true
 |.int _=>true
 |.str _=>true
 |_=>false
def eqV:V->V->Bool
 |.non,.non=>true
 |.bl a,.bl b=>a == b
 |.bl a,.int b=>(if a then 1 else 0) == b
 |.int a,.bl b=>a == (if b then 1 else 0)
 |.int a,.int b=>a == b
 |.str a,.str b=>a == b
 |_,_=>false
theorem aRv {A:Around}{s:Shared}{y x:V}{u v:Value}(ry:RelV y u)(rx:RelV x v)(fy:jW y=true)(fx:jW x=true):SeqAt.EqAt A s u v (eqV y x):=by
 cases y with
 |non=>
  cases ry;cases x with
  |non=>cases rx;exact bDK _
  |bl b=>cases rx;exact SeqAt.EqAt.none_bool b
  |int b=>obtain⟨t,rfl⟩:=rx;exact SeqAt.EqAt.none_int b t
  |str b=>obtain⟨t,rfl⟩:=rx;exact SeqAt.EqAt.none_str b t
  |_=>exact absurd (show false=true from fx) t8
 |bl a=>
  cases ry;cases x with
  |non=>cases rx;exact SeqAt.EqAt.bool_none a
  |bl b=>cases rx;exact SeqAt.EqAt.bool_bool a b
  |int b=>obtain⟨t,rfl⟩:=rx;exact SeqAt.EqAt.bool_int a b t
  |str b=>obtain⟨t,rfl⟩:=rx;exact SeqAt.EqAt.bool_str a b t
  |_=>exact absurd (show false=true from fx) t8
 |int a=>
  obtain⟨t',rfl⟩:=ry;cases x with
  |non=>cases rx;exact SeqAt.EqAt.int_none a t'
  |bl b=>cases rx;exact SeqAt.EqAt.int_bool a t' b
  |int b=>obtain⟨t,rfl⟩:=rx;exact bDP a t' b t
  |str b=>obtain⟨t,rfl⟩:=rx;exact SeqAt.EqAt.int_str a t' b t
  |_=>exact absurd (show false=true from fx) t8
 |str a=>
  obtain⟨t',rfl⟩:=ry;cases x with
  |non=>cases rx;exact SeqAt.EqAt.str_none a t'
  |bl b=>cases rx;exact SeqAt.EqAt.str_bool a t' b
  |int b=>obtain⟨t,rfl⟩:=rx;exact SeqAt.EqAt.str_int a t' b t
  |str b=>obtain⟨t,rfl⟩:=rx;exact bC3 a t' b t
  |_=>exact absurd (show false=true from fx) t8
 |_=>exact absurd (show false=true from fy) t8
def eqU (x:V)(u:Value):Bool:=match u with
 |.none=>eqV .non x
 |.bool b=>eqV (.bl b) x
 |.int i _=>eqV (.int i) x
 |.str z _=>eqV (.str z) x
 |_=>false
theorem aTq {x y:V}{u:Value}(r:RelV y u)(f:jW y=true):eqU x u=eqV y x:=by
 cases y with
 |non=>cases r;rfl
 |bl b=>cases r;rfl
 |int i=>obtain⟨t,rfl⟩:=r;rfl
 |str z=>obtain⟨t,rfl⟩:=r;rfl
 |_=>exact absurd (show false=true from f) t8
theorem vI {x:V}:∀{xs:List V} {us:List Value},Vals xs us->xs.all jW=true->us.any (eqU x)=xs.any λy=>eqV y x
 |_,_,.nil,_=>rfl
 |y::xs,u::us,.cons r t,f=>by rw[List.all_cons,bAR] at f;rw[bEC,bEC,aTq r f.1,vI t f.2]
theorem rO {A:Around}{s:Shared}{x:V}{v:Value}(rx:RelV x v)(fx:jW x=true):∀{xs:List V} {us:List Value},Vals xs us->xs.all jW=true->∀u∈us,SeqAt.EqAt A s u v (eqU x u)
 |_,_,.nil,_=>λu hu=>by cases hu
 |y::xs,u::us,.cons r t,f=>λu' hu=>by
  rw[List.all_cons,bAR] at f;rcases List.mem_cons.mp hu with rfl|hu
  ·rw[aTq r f.1];exact aRv r rx f.1 fx
  ·exact rO rx fx t f.2 u' hu
def inV (x:V)(xs:List V):Bool:=xs.any λy=>eqV y x
def rIn (K:bEX)(neg:Bool):R2:=λx y H Q=>∃p xs,y=.ref p/\(SqL K H p xs\/SqT K H p xs)/\jW x=true/\xs.all jW=true/\Q (.bl (if neg then !inV x xs else inV x xs)) H
theorem xR:OpR X (compareOp .In) (rIn X.K false):=by
 intro bE1 s σ H x y v u Q I rx ry h;obtain⟨p,xs,rfl,hq,fx,fs,q⟩:=h;cases ry;rcases hq with hq|hq
 ·obtain⟨its,r,pl,hz⟩:=I.list hq;refine SeqAt.in_listAt (eqU x) pl.isList (λw hw=>rO rx fx r fs w (by simpa using hw)) ⟨.bl _,H,I,rfl,?_⟩;rw[show its.toArray.any (eqU x)=its.any (eqU x) by simp,vI r fs];exact q
 ·obtain⟨its,r,pl,hz⟩:=I.tuple hq;refine SeqAt.in_tupleAt (eqU x) pl (λw hw=>rO rx fx r fs w (by simpa using hw)) ⟨.bl _,H,I,rfl,?_⟩;rw[show its.toArray.any (eqU x)=its.any (eqU x) by simp,vI r fs];exact q
theorem aE8:OpR X (compareOp .NotIn) (rIn X.K true):=by
 intro bE1 s σ H x y v u Q I rx ry h;obtain⟨p,xs,rfl,hq,fx,fs,q⟩:=h;cases ry;rcases hq with hq|hq
 ·obtain⟨its,r,pl,hz⟩:=I.list hq;refine SeqAt.notIn_listAt (eqU x) pl.isList (λw hw=>rO rx fx r fs w (by simpa using hw)) ⟨.bl _,H,I,rfl,?_⟩;rw[show its.toArray.any (eqU x)=its.any (eqU x) by simp,vI r fs];exact q
 ·obtain⟨its,r,pl,hz⟩:=I.tuple hq;refine SeqAt.notIn_tupleAt (eqU x) pl (λw hw=>rO rx fx r fs w (by simpa using hw)) ⟨.bl _,H,I,rfl,?_⟩;rw[show its.toArray.any (eqU x)=its.any (eqU x) by simp,vI r fs];exact q
theorem bA:cI X (.builtin "len") (λxs H Q=>∃p ys,xs=[.ref p]/\(SqL X.K H p ys\/SqT X.K H p ys)/\Q (.int ys.length) H):=by
 intro bE1 s σ H xs us Q I r h;obtain⟨p,ys,rfl,hq,q⟩:=h;obtain⟨u,rfl,rx⟩:=vals1 r;cases rx;have hn:=wQ;rcases hq with hq|hq
 ·obtain⟨its,r',pl,hz⟩:=I.list hq;have hlen:=r'.length;exact Calls.call_len_list pl.isList (by simp only[j7] <;> lia) ⟨.int ys.length,H,I.tok _,⟨s.toks+1,by rw[j7,hlen]⟩,q⟩
 ·obtain⟨its,r',pl,hz⟩:=I.tuple hq;have hlen:=r'.length;exact len_tuple pl (by simp only[j7] <;> lia) ⟨.int ys.length,H,I.tok _,⟨s.toks+1,by rw[j7,hlen]⟩,q⟩
theorem uZ:cI X (.builtin "len") (λxs H Q=>∃z,xs=[.str z]/\z.length<=sizeLine/\Q (.int z.length) H):=by intro bE1 s σ H xs us Q I r h;obtain⟨z,rfl,hz,q⟩:=h;obtain⟨u,rfl,t,rfl⟩:=vals1 r;have hn:=wQ;exact len_str (by lia) ⟨.int z.length,H,I.tok _,⟨_,rfl⟩,q⟩
theorem cI.or {f:Value}{r r':List V->Hp->VK->Prop}(h:cI X f r)(h':cI X f r'):cI X f (λxs H Q=>r xs H Q\/r' xs H Q):=by
 intro bE1 s σ H xs us Q I rs q;rcases q with q|q
 ·exact h bE1 s σ H xs us Q I rs q
 ·exact h' bE1 s σ H xs us Q I rs q
theorem aGd:cI X (.type "list") (λxs H Q=>∃p ys,xs=[.ref p]/\(SqL X.K H p ys\/SqT X.K H p ys)/\∀l,H l=none->Q (.ref l) (upd H l (.lst ys))):=by
 intro bE1 s σ H xs us Q I r h;obtain⟨p,ys,rfl,hq,q⟩:=h;obtain⟨u,rfl,rx⟩:=vals1 r;cases rx;have fin:∀(its:List Value),Vals ys its->ys.length<=sizeLine->∀(h':Heap) (c':Nat),(∀b o',s.heap.get? b=some o'->h'.get? b=some o') ->
   h'.get? s.heap.objs.size=some { cls:=.type "list",dict:=none,data:=.seq its.toArray c',slots:=#[] }->EP X bE1 σ Q (.ref s.heap.objs.size) { s with heap:=h' }:=λits r' hz h' c' kp e=>
  ⟨.ref s.heap.objs.size,_,I.laid (t':=s.toks) kp (j0 _) (show dH X.prog X.w _ h' _ (.lst ys) from ⟨hz,its,c',r',e⟩),rfl,q _ (I.hok.fresh (j0 _))⟩
 rcases hq with hq|hq
 ·obtain⟨its,r',pl,hz⟩:=I.list hq;have hlen:=r'.length;obtain⟨o,ho,hc,n,hd⟩:=pl.isList;exact call_list_seq p (.inl rfl) ho hc hd (λh' c' kp e=>fin its r' hz h' c' kp e) (by simp only[j7] <;> lia)
 ·obtain⟨its,r',pl,hz⟩:=I.tuple hq;have hlen:=r'.length;obtain⟨o,ho,hc,n,hd⟩:=pl;exact call_list_seq p (.inr rfl) ho hc hd (λh' c' kp e=>fin its r' hz h' c' kp e) (by simp only[j7] <;> lia)
theorem aCy:cI X (.type "tuple") (λxs H Q=>∃p ys,xs=[.ref p]/\((SqL X.K H p ys/\∀l,H l=none->Q (.ref l) (upd H l (.tup ys)))\/(SqT X.K H p ys/\Q (.ref p) H))):=by
 intro bE1 s σ H xs us Q I r h;obtain⟨p,ys,rfl,h⟩:=h;obtain⟨u,rfl,rx⟩:=vals1 r;cases rx;rcases h with⟨hq,q⟩|⟨hq,q⟩
 ·obtain⟨its,r',pl,hz⟩:=I.list hq;have hlen:=r'.length;refine call_tuple_list pl.isList (λh' kp=>?_) (by simp only[j7] <;> lia);have I1:Inv X bE1 σ H { s with heap:=h' }:=I.kept (t':=s.toks) kp;have I2:Inv X bE1 σ (upd H h'.objs.size (.tup ys)) { s with heap:=h'.push { cls:=.type "tuple",data:=.seq its.toArray } }:=
   I1.laid (t':=s.toks) (λb o e=>d8 _ e) (j0 _) (show dH X.prog X.w _ _ _ (.tup ys) from ⟨hz,its,r',yW.new _ _⟩)
  exact⟨.ref h'.objs.size,_,I2,rfl,q _ (I1.hok.fresh (j0 _))⟩
 ·obtain⟨its,r',pl,hz⟩:=I.tuple hq;exact call_tuple_same pl ⟨.ref p,H,I,rfl,q⟩
def tyV (K:bEX)(T:String)(x:V)(H:Hp):Prop:=match x with
 |.str _=>T = "str"
 |.int _=>T = "int"
 |.ref p=>(T = "list"/\∃xs,SqL K H p xs)\/(T = "tuple"/\∃o,K.lookup p=some o/\o.cls=.type "tuple"/\o.dict=none) \/
   (T = "dict"/\((∃kvs,H p=some (.dK kvs))\/∃kvs,H p=some (.dT kvs)))\/(T = "set"/\∃S n,H p=some (.set S n))
 |_=>False
theorem aMf {bE1:bEZ}{σ:St}{H:Hp}{s:Shared}{T:String}{x:V}{v:Value}(I:Inv X bE1 σ H s)(r:RelV x v)(ty:tyV X.K T x H) :
  s.TypeIs v T/\∀a,v=.ref a->∃ob,s.heap.get? a=some ob/\ob.dict=none:=by
 cases x with
 |str z=>obtain⟨t,rfl⟩:=r;cases (show T = "str" from ty);exact⟨typeIs_str s z t,λ_ e=>nomatch e⟩
 |int i=>obtain⟨t,rfl⟩:=r;cases (show T = "int" from ty);exact⟨typeIs_int s i t,λ_ e=>nomatch e⟩
 |ref p=>
  cases r;rcases ty with⟨rfl,xs,hq⟩|⟨rfl,o,hk,hc,hd⟩|⟨rfl,hk⟩|⟨rfl,S,n,hk⟩
  ·obtain⟨its,_,pl,_⟩:=I.list hq;refine⟨pl.isList.typeIs,λa e=>?_⟩;cases e;obtain⟨o,n,e,c,hd,_⟩:=pl;exact⟨o,e,hd⟩
  ·refine⟨⟨o,I.kIn p o hk,hc⟩,λa e=>?_⟩;cases e;exact⟨o,I.kIn _ o hk,hd⟩
  ·have z:∃o,s.heap.get? p=some o/\o.ExactDict:=by
    rcases hk with⟨kvs,hk⟩|⟨kvs,hk⟩
    ·obtain⟨_,_,_,_,o,_,_,e,ex,_⟩:=I.hok p _ hk;exact⟨o,e,ex⟩
    ·obtain⟨_,_,_,_,o,_,_,e,ex,_⟩:=I.hok p _ hk;exact⟨o,e,ex⟩
   obtain⟨o,e,ex⟩:=z;refine⟨⟨o,e,ex.1⟩,λa e2=>?_⟩;cases e2;exact⟨o,e,ex.2.1⟩
  ·obtain⟨o,_,_,_,e,ex,_⟩:=I.hok p _ hk;refine⟨⟨o,e,ex.1⟩,λa e2=>?_⟩;cases e2;exact⟨o,e,ex.2.1⟩
 |_=>exact False.elim ty
def bA0 (K:bEX)(T:String)(r:V->List V->Hp->VK->Prop)(to:TE):TE:=fun σ H Q=>to σ H λx H1=>tyV K T x H1/\r x [] H1 Q
def tBM (K:bEX)(T:String)(r:V->List V->Hp->VK->Prop)(to:TE)(t:TA):TE:=fun σ H Q=>to σ H λx H1=>tyV K T x H1/\t σ H1 λxs H2=>r x xs H2 Q
variable {o e:Expr}{es:List Expr}{to:TE}{t:TA}{name:Str}{apos cpos:Pos}{T id:String}{r:V->List V->Hp->VK->Prop}
theorem aZh (pa:PlainAttrs T)(slot:Slot T name id)(hty:typeOf (.builtin id)=pure (.type "method_descriptor"))(hm:MtR X id r)(ho:PE X o to)
  (hbase:attributeBase o name X.env (eval o X.env)=eval o X.env:=by rfl) (hline:(apos.endLine == cpos.line)=true:=by rfl):PE X (.Call (.Attribute o name apos) [] [] cpos) (bA0 X.K T r to):=by
 intro bE1 s σ H Q I h;refine wpAny_Call_method0_late hbase hline (thn (ho bE1 s σ H _ I h) λv s1 ⟨x,H1,I1,r1,ty,q1⟩=>?_);obtain⟨h1,h2⟩:=aMf I1 r1 ty;exact⟨T,id,pa,slot,hty,h1,h2,bC4 rfl (PySem.evalArgs_none (hm bE1 s1 σ H1 x [] v [] Q I1 r1 .nil q1))⟩
theorem bAa (pa:PlainAttrs T)(slot:Slot T name id)(hty:typeOf (.builtin id)=pure (.type "method_descriptor"))(hm:MtR X id r)(ho:PE X o to)(ha:PA X (e::es) t)
  (hbase:attributeBase o name X.env (eval o X.env)=eval o X.env:=by rfl)
  (hfew:((backTo cpos (starEach (e::es) X.env)).all (λx=>!x.1) && (backToKw cpos (keywordEach [] X.env)).all (λx=>x.1.isSome)
   && decide ((e::es).length+([]:List Keyword).length+(if ([]:List Keyword).isEmpty then 0 else 1)<30))=true:=by rfl)
  (hline:(apos.endLine == cpos.line)=true:=by rfl) (hs:starEach (e::es) X.env=(false,eval e X.env)::starEach es X.env:=by rfl) (hplain:(backTo cpos (starEach es X.env)).any (·.1)=false:=by rfl) :
  PE X (.Call (.Attribute o name apos) (e::es) [] cpos) (tBM X.K T r to t):=by
 intro bE1 s σ H Q I h;refine wpAny_Call_method_late hbase hfew hline rfl (thn (ho bE1 s σ H _ I h) λv s1 ⟨x,H1,I1,r1,ty,q1⟩=>?_);obtain⟨h1,h2⟩:=aMf I1 r1 ty;refine⟨T,id,pa,slot,hty,h1,h2,?_⟩;have hA:=ha cpos bE1 s1 σ H1 _ I1 q1;rw[hs] at hA ⊢;refine bC4 (by show (false || (backTo cpos (starEach es X.env)).any (·.1))=false;rw[hplain] <;> rfl) (bEE ?_);exact thn hA λus s2 ⟨vs,H2,I2,r2,q2⟩=>hm bE1 s2 σ H2 x vs v us Q I2 r1 r2 q2
end
def MtM (X:Cx)(id:String)(r:V->List V->Hp->VK->Prop):Prop:=
 ∀(bE1:bEZ) (s:Shared) (σ:St) (H:Hp) (x:V) (xs:List V) (v:Value) (us:List Value) (Q:VK),Inv X bE1 σ H s->RelV x v->Vals xs us->r x xs H Q ->
  wpAny (model X.prog X.w) X.A (call (.builtin id) (v::us)) (EP X bE1 σ Q) X.xe s
theorem Vals.one:∀{x:V} {us:List Value},Vals [x] us->∃u,us=[u]/\RelV x u
 |_,_,.cons r .nil=>⟨_,rfl,r⟩
theorem Vals.two:∀{x y:V} {us:List Value},Vals [x,y] us->∃u v,us=[u,v]/\RelV x u/\RelV y v
 |_,_,_,.cons r (.cons q .nil)=>⟨_,_,rfl,r,q⟩
theorem Vals.zero:∀{us:List Value},Vals [] us->us=[]
 |_,.nil=>rfl
theorem Vals.reverse {xs:List V}{us:List Value}(h:Vals xs us):Vals xs.reverse us.reverse:=by
 induction h with
 |nil=>exact .nil
 |cons r t ih=>rw[List.reverse_cons,List.reverse_cons];exact Vals.append ih (.cons r .nil)
section
variable {X:Cx}{bE1:bEZ}{σ:St}{H:Hp}{s:Shared}{l b:Addr}{xs ys zs:List V}
theorem Inv.lset {its its':List Value}{n:Nat}{f:Array Value->Array Value}{t':Nat}(I:Inv X bE1 σ H s)(hH:H l=some (.lst xs))
  (e:s.heap.get? l=some { cls:=.type "list",data:=.seq its.toArray n }) (hf:f its.toArray=its'.toArray) (hv:Vals ys its') (hz:ys.length<=sizeLine) :
  Inv X bE1 σ (upd H l (.lst ys)) { s with heap:=s.heap.update l (Obj.mapSeq f),toks:=t' }:=by
 have q:=PySem.IsL.update e f;rw[hf] at q;refine I.write (x:=l) (e:=l) (by rw[hH];exact trivial) (.inl rfl) (λb' u hb hu=>(bC2 s.heap (Obj.mapSeq f) (Ne.symm hb)).trans hu) ⟨_,q⟩ ?_;exact⟨hz,its',_,hv,q⟩
theorem Inv.lnew {its:List Value}{t':Nat}(I:Inv X bE1 σ H s)(hv:Vals ys its)(hz:ys.length<=sizeLine) :
  Inv X bE1 σ (upd H s.heap.objs.size (.lst ys)) { s with heap:=s.heap.push { cls:=.type "list",data:=.seq its.toArray },toks:=t' }:=
 I.laid (λ_ _ q=>d8 _ q) (j0 _) ⟨hz,its,0,hv,j5 _ rfl⟩
theorem Inv.fresh (I:Inv X bE1 σ H s):H s.heap.objs.size=none:=I.hok.fresh (j0 _)
theorem Inv.aU6 (I:Inv X bE1 σ H s)(hH:H l=some (.lst xs)):xs.length<=sizeLine/\∃(its:List Value) (n:Nat),Vals xs its/\xs.length=its.length/\s.heap.get? l=some { cls:=.type "list",data:=.seq its.toArray n }:=by obtain⟨z,its,n,r,e⟩:=I.hok l _ hH;exact⟨z,its,n,r,r.length,e⟩
end
section
variable {X:Cx}
def aMw:V->List V->Hp->VK->Prop:=λx vs H Q=>∃l xs y,x=.ref l/\vs=[y]/\H l=some (.lst xs)/\xs.length<sizeLine/\Q .non (upd H l (.lst (xs++[y])))
theorem yG:MtM X "list.append" aMw:=by intro bE1 s σ H x vs v us Q I rx rv h;obtain⟨l,xs,y,rfl,rfl,hH,hz,q⟩:=h;cases rx;obtain⟨u,rfl,ru⟩:=rv.one;obtain⟨z,its,n,r,hl,e⟩:=I.aU6 hH;refine call_meets F.slot_list_append ⟨_,e,rfl⟩ F.entry_list_append (F.args_list_append_2 _ _) (PySem.list_append l its.toArray n u (by rw[j7];lia)) ⟨e,?_⟩;refine⟨.non,_,I.lset (its':=its++[u]) hH e (by simp) (r.append (.cons ru .nil)) ?_,rfl,q⟩;rw[bAG,bD6];lia
def aIh:V->List V->Hp->VK->Prop:=λx vs H Q=>∃l xs,x=.ref l/\vs=[]/\H l=some (.lst xs)/\Q .non (upd H l (.lst xs.reverse))
theorem aKl:MtM X "list.reverse" aIh:=by intro bE1 s σ H x vs v us Q I rx rv h;obtain⟨l,xs,rfl,rfl,hH,q⟩:=h;cases rx;have hus:=rv.zero;subst hus;obtain⟨z,its,n,r,hl,e⟩:=I.aU6 hH;refine call_meets F.slot_list_reverse ⟨_,e,rfl⟩ F.entry_list_reverse (F.args_list_reverse_1 _) (AutoSeq1.list_reverse_list_0 l its.toArray n (by rw[j7];lia)) ⟨e,?_⟩;refine⟨.non,_,I.lset (its':=its.reverse) hH e (by simp) r.reverse ?_,rfl,q⟩;rw[List.length_reverse];lia
def bBi:R2:=λx y H Q=>∃l b xs zs,x=.ref l/\y=.ref b/\H l=some (.lst xs)/\H b=some (.lst zs)/\xs.length+zs.length<=sizeLine/\∀p,H p=none->Q (.ref p) (upd H p (.lst (xs++zs)))
theorem aY9:OpR X (binaryOp .Add) bBi:=by
 intro bE1 s σ H x y v u Q I rx ry h;obtain⟨l,b,xs,zs,rfl,rfl,hH,hB,hz,q⟩:=h;cases rx;cases ry;obtain⟨z,its,n,r,hl,e⟩:=I.aU6 hH;obtain⟨z2,its2,n2,r2,hl2,e2⟩:=I.aU6 hB;refine PySem.P.add_list e e2 ?_ (by rw[j7,j7];lia);have ea:its.toArray++its2.toArray=(its++its2).toArray:=by simp
 rw[ea];exact⟨.ref _,_,I.lnew (t':=s.toks) (r.append r2) (by rw[bAG];lia),rfl,q _ I.fresh⟩
end
section
variable {prog:Program}{w:World}{A:Around}{E:bEY}{s:Shared}
end
section
variable {X:Cx}
end
end L2
namespace Att
open PySem PySem.W PySem.Calls PyProof.Rows
theorem yX {P:Params}{h:Heap}:∀(ns:List Int) (vs:List Value),WellAll P h vs (ns.map WData.int)->IntsAre vs ns:=by
 intro ns
 induction ns with
 |nil=>intro vs w;rw[List.map_nil] at w;cases w;exact .nil
 |cons n ns ih=>
  intro vs w;rw[bAV] at w;cases w with
  |cons a b=>cases a;exact .cons _ _ (ih _ b)
theorem aPt {l:OpenLaw}{n:Nat}(hn:l.most=some n){P:Params}{h:Heap}{args:List WData}{vals:List Value}
  (hpre:l.row.toRowW.claim.pre args=true) (hwl:WellAll P h vals args) :
  ∃a vs ns,vals=[Value.ref a]/\args=[WData.list (ns.map WData.int)]/\h.get? a=some { cls:=.type "list",data:=.seq vs.toArray }/\IntsAre vs ns/\ns.length<=n:=by
 have hsh:WShape.hasAll [] args [.list .int]=true:=(pre_splitW hpre).1;have hc:l.pre.holds [] { args:=args }=true:=(pre_splitW hpre).2;obtain⟨d,r,rfl,h1,h2⟩:=hasAllW_cons hsh;obtain rfl:=hasAllW_nil h2;obtain⟨xs,rfl,h3⟩:=hasW_list h1;obtain⟨ns,rfl⟩:=items_int h3;have hlen:ns.length<=n:=by
  unfold OpenLaw.pre at hc;have h4:(WTm.not (.lt (.lit (.int (n:Int))) (.len (.arg 0)))).holds [] { args:=[.list (ns.map .int)] }=true:=by have h4:=(holds_andW hc).1;rw[hn] at h4;exact h4
  have h5:=condW_of h4 (w_not (w_lt w_lit (w_len_list (w_arg rfl))));rw[j9] at h5;refine Nat.le_of_not_lt λq=>?_;have q':(n:Int)<((ns.length:Nat):Int):=by lia
  first
   |(rw[t6 q'] at h5;exact absurd h5 (by decide))
   |(simp at h5;lia)
 cases hwl with
 |cons w1 w2=>
  cases w2;cases w1 with
  |list ho hall=>exact⟨_,_,ns,rfl,rfl,ho,yX ns _ hall,hlen⟩
theorem aOk (l:OpenLaw)(args:List WData):l.row.toRowW.claim.post args (.bool true) args=true:=
 postW_of (r:=l.row.toRowW) (X:=(true == true))
  (show WShape.has [] (.bool true) .bool=true by first|rfl|decide|simp[WShape.has,WShape.arms,WShape.armsAll])
  (show (WTm.eq .res (.lit (.bool true))).value [] { args:=args,res:=some (.bool true),after:=args }=some (.bool (true == true)) from w_eq_bool (w_res rfl) w_lit) rfl
theorem aG0 {l:OpenLaw}{n:Nat}{q:Program}{loose:List Str}{XP:(bE0)->Heap->Prop}{YP:World->Heap->Prop}{d:DefRec}
  (hn:l.most=some n) (hdf:d.params.defaults=[])
  (call:∀(w:World) (s₀ s₁:Shared) (mg mb:bE0) (fa:Addr) (o:Obj) (pm cd doc:Value) (a:Addr) (vs:List Value) (ns:List Int),
   Ground q loose [] XP w s₀ mg mb s₁.heap->YP w s₁.heap ->
   s₁.heap.get? fa=some o->o.data=.func (docDef d.name d.params d.body d.scope pm cd doc)->s₁.heap.CodeRec cd d.name->mg d.name=some (.ref fa) ->
   s₁.heap.get? a=some { cls:=.type "list",data:=.seq vs.toArray }->IntsAre vs ns->ns.length<=n->s₁.gens=#[] ->
   codeAny (model l.prog w) callerA (.call (.ref fa) ⟨[.ref a],[]⟩) (λr s'=>r=.ok (.ret (.bool true))/\OldK s₁.heap s'.heap/\s'.os=s₁.os/\AllBare s'.gens) s₁) :
  WalkO q loose XP YP l.row.toRowW d [] (λf vs=>PySem.call f vs):=by
 intro w s₀ s₁ mg mb G Y fa o pm cd doc dV kV ho hd hcd hD hmg hg args vals as hpre hlay hrd hwl hlo;obtain rfl:dV=.none:=Dflts.none hD hdf;obtain rfl:kV=.none:=Dflts.noKw hD;obtain⟨a,vs,ns,rfl,rfl,hobj,hints,hlen⟩:=aPt hn hpre hwl;refine enter_call (bCF (call w s₀ s₁ mg mb fa o pm cd doc a vs ns G Y ho (fd_plain hd) hcd hmg hobj hints hlen hg) λr s' hq=>?_);obtain⟨rfl,h2,h3,h4⟩:=hq;exact⟨.inl ⟨.bool true,.bool true,[],rfl,λ_=>rfl,.bool true,aOk l _,λ_=>⟨List.Pairwise.nil,λ_ hm=>(nomatch hm)⟩⟩,h2,h3,h4⟩
section
variable {prog:Program}{w:World}{A:Around}{E:bEY}{s:Shared}{K:Frag}
end
end Att
namespace L2
open PySem PySem.Spec PyProof.Rows
theorem aC8:∀{vs:List Value} {ns:List Int},IntsAre vs ns->Vals (ns.map V.int) vs
 |_,_,.nil=>.nil
 |_,_,.cons n t h=>.cons ⟨t,rfl⟩ (aC8 h)
abbrev KOf {K:bEX}{h:Heap}(_:K.In h):bEX:=K
def mK (s:Stmt):Arguments:=match s with
 |.FunctionDef _ a _ _ _ _ _ _ _ _=>a
 |_=>{ posonlyargs:=[],args:=[],vararg:=none,kwonlyargs:=[],kw_defaults:=[],kwarg:=none,defaults:=[] }
def eV (s:Stmt):List Stmt:=match s with
 |.FunctionDef _ _ b _ _ _ _ _ _ _=>b
 |_=>[]
def aD (s:Stmt):Scope:=match s with
 |.FunctionDef _ _ _ _ _ _ sc _ _ _=>sc
 |_=>{ kind:=.function,names:=[],isGenerator:=false,isCoroutine:=false }
abbrev CX0:CXT:=λ_ _ _ _ _ _=>False
abbrev E0:XK:=λ_ _ _=>False
theorem aDf {X:Cx}:qM CX0 X E0:=λ_ _ _ _ _ _ _ h=>h.elim
structure Fun (K:bEX)(x qual:Str)(st:Stmt)(f:Addr)(fd:FuncData):Prop where
 ex:∃(oc:Value) (od:Option Addr) (kV doc pm:Value) (an:Option Addr) (cdv ct:Value) (osl:Array (Option Value)),
  fd=PySem.W.fnOf x qual (mK st) (eV st) (aD st) .none kV doc pm an cdv ct/\K.lookup f=some ⟨oc,od,.func fd,osl⟩/\PySem.W.codeIn K cdv qual=true
 kp:PySem.W.keepIn K (.ref f)=true
section
variable {P:Program}{w:World}{K:bEX}{mg:bE0}{base:Heap}
theorem Fun.ok {x qual:Str}{st:Stmt}{f:Addr}{fd:FuncData}{N ps:List Str}{k:Nat}{sp:Sp}(F:Fun K x qual st f fd)(S:aJ N ps (aD st))(len:∀vs H Q E,sp vs H Q E->vs.length=ps.length)
  (hbody:∀(cdv:Value) (A:Around) (outer:List Env) (s:Shared) (H:Hp) (vs:List V) (Q:VK) (E:XK),Room k (A.deeper (envOfC qual (aD st) s.heap.objs.size f cdv))->sp vs H Q E ->
   ∃t,PSs (aBm CX0 P w K mg base N qual (aD st) f cdv A outer s H E).nox (eV st) t/\t { nx:=λ_ H'=>Q .non H',rt:=Q } (start N vs) H):lJ P w K mg base CX0 (k+1) f fd ps sp:=by
 obtain⟨oc,od,kV,doc,pm,an,cdv,ct,osl,rfl,lk,hcd⟩:=F.ex;refine aWv lk hcd S len λA outer s H vs Q E hr hsp=>?_;obtain⟨t,h,q⟩:=hbody cdv A outer s H vs Q E hr hsp;exact⟨t,h.nox,q⟩
theorem Fun.binds {x qual:Str}{st:Stmt}{f:Addr}{fd:FuncData}{ps:List Str}(F:Fun K x qual st f fd)
  (h:∀(kV doc pm:Value) (an:Option Addr) (cdv ct:Value) (us:List Value),us.length=ps.length->bindArgs (PySem.W.fnOf x qual (mK st) (eV st) (aD st) .none kV doc pm an cdv ct) ⟨us,[]⟩=pure (ps.zip us)):Binds K fd ps []:=by
 obtain⟨oc,od,kV,doc,pm,an,cdv,ct,osl,rfl,lk,hcd⟩:=F.ex;exact .all (h kV doc pm an cdv ct)
theorem aEr {x qual:Str}{st:Stmt}{f:Addr}{oc:Value}{od an:Option Addr}{osl:Array (Option Value)}{kV doc pm cdv ct:Value}(l:K.lookup f=some ⟨oc,od,.func (PySem.W.fnOf x qual (mK st) (eV st) (aD st) .none kV doc pm an cdv ct),osl⟩)
  (c:PySem.W.codeIn K cdv qual=true) (k:PySem.W.keepIn K (.ref f)=true):Fun K x qual st f (PySem.W.fnOf x qual (mK st) (eV st) (aD st) .none kV doc pm an cdv ct):=⟨⟨oc,od,kV,doc,pm,an,cdv,ct,osl,rfl,l,c⟩,k⟩
end
theorem tG {A:Around}{k:Nat}(hr:Room k A):A.units+1<cLine:=bCD (Nat.add_le_add_left (by decide:1<=64) _) hr.units
theorem sH {n:Nat}(h:n<=1000):n<sizeLine:=bCD h (by decide)
section
variable {X:Cx}
theorem pv (i:Nat){x:Str}{pos:Pos}(hN:X.N[i]?=some x:=by rfl)(hv:Vis X.env.scope x:=by trivial)(hd:(x == ("__debug__":Str))=false:=by decide)
  (hcd:(x == ("__classdict__":Str))=false:=by decide):PE X (.Name x pos) (aPn i):=aXi hN hv hd hcd
end
theorem bY {A B:Prop}(h:B):if false=true then A else B:=by rw[if_neg t8];exact h
theorem fV {A B:Prop}(h:A):if true=true then A else B:=by rw[if_pos rfl];exact h
theorem aKg {c A B:Prop}[Decidable c](h1:c->A)(h2:¬ c->B):if c then A else B:=by
 by_cases h:c
 ·rw[if_pos h];exact h1 h
 ·rw[if_neg h];exact h2 h
def Same (H H':Hp):Prop:=∀b o,H b=some o->H' b=some o
theorem Same.refl (H:Hp):Same H H:=λ_ _ h=>h
theorem Same.trans {H H1 H2:Hp}(a:Same H H1)(b:Same H1 H2):Same H H2:=λc o h=>b c o (a c o h)
theorem Same.free {H H':Hp}(e:Same H H'){l:Addr}(h:H' l=Option.none):H l=Option.none:=by
 cases q:H l with
 |none=>rfl
 |some o=>rw[e l o q] at h;cases h
theorem Same.seq {K:bEX}{H H':Hp}{a:Addr}{xs:List V}(e:Same H H')(h:SqL K H a xs):SqL K H' a xs:=by
 rcases h with (h|⟨o,h⟩)|h
 ·exact .inl (.inl (e _ _ h))
 ·exact .inl (.inr ⟨o,e _ _ h⟩)
 ·exact .inr h
end L2
namespace PySem
namespace RvF
end RvF
section
variable {prog:Program}{w:World}{A:Around}{E:bEY}{s:Shared}
end
end PySem
namespace L2
open PySem PySem.Spec PyProof.Rows
theorem aFh:bootBuiltins "int"=some (.type "int"):=by decide +kernel
theorem aMt:bootBuiltins "bool"=some (.type "bool"):=by decide +kernel
theorem aTh:bootBuiltins "str"=some (.type "str"):=by decide +kernel
theorem zV:bootBuiltins "list"=some (.type "list"):=by decide +kernel
theorem eZ:bootBuiltins "tuple"=some (.type "tuple"):=by decide +kernel
theorem aOa:bootBuiltins "dict"=some (.type "dict"):=by decide +kernel
theorem aE5:bootBuiltins "set"=some (.type "set"):=by decide +kernel
theorem aS9:bootBuiltins "zip"=some (.type "zip"):=by decide +kernel
theorem aFg:bootBuiltins "enumerate"=some (.type "enumerate"):=by decide +kernel
theorem bI:bootBuiltins "isinstance"=some (.builtin "isinstance"):=by decide +kernel
theorem cZ:bootBuiltins "len"=some (.builtin "len"):=by decide +kernel
theorem uY:bootBuiltins "all"=some (.builtin "all"):=by decide +kernel
theorem aX8:bootBuiltins "any"=some (.builtin "any"):=by decide +kernel
theorem aZi:bootBuiltins "max"=some (.builtin "max"):=by decide +kernel
theorem dO:bootBuiltins "sorted"=some (.builtin "sorted"):=by decide +kernel
theorem aU9 {J:It}{n:Nat}{item:Nat->V}{g:TG}{tb:TS}{D:Ends}{σ:St}{H:Hp}(Pv:Nat->St->Hp->Prop)
  (hgo:∀i H,i<n->J.go i H) (hst:∀H,J.stop n H) (hy:∀i H x H',i<n->J.yld i H x H'->H'=H/\x=item i) (h0:Pv 0 σ H)
  (hs:∀i σ H,i<n->Pv i σ H->g (item i) σ H fun σ2 H2=>tb { D with nx:=Pv (i+1),ct:=Pv (i+1),bk:=D.nx } σ2 H2) (hd:∀σ H,Pv n σ H->D.nx σ H) :
  ∃W:Nat->Nat->St->Hp->Prop,(∃m,W 0 m σ H)/\∀i m σ H,W i m σ H ->
   (J.stop i H/\D.nx σ H)\/(J.go i H/\∃N:St->Hp->Prop,(∀σ' H',N σ' H'->∃m',m'<m/\W (i+1) m' σ' H')/\∀x H',J.yld i H x H'->g x σ H' fun σ2 H2=>tb { D with nx:=N,ct:=N,bk:=D.nx } σ2 H2):=by
 refine⟨λi m σ H=>m=n - i/\i<=n/\Pv i σ H,⟨n,by simp,bAE _,h0⟩,?_⟩;rintro i m σ H ⟨rfl,hi,p⟩;by_cases hlt:i<n
 ·refine .inr ⟨hgo i H hlt,Pv (i+1),fun σ' H' p'=>⟨n - (i+1),by lia,rfl,hlt,p'⟩,λx H' y=>?_⟩;obtain⟨e1,e2⟩:=hy i H x H' hlt y;subst e1 e2;exact hs i σ _ hlt p
 ·have e:i=n:=by lia
  subst e;exact .inl ⟨hst H,hd σ H p⟩
def sgn (x:Str)(i:Nat):Str:=⟨#[x.cps.getD i 0]⟩
theorem aSk {x:Str}{i c:Nat}(h:x.cps[i]?=some c):(⟨#[c]⟩:Str)=sgn x i:=by unfold sgn;rw[v5,h];rfl
def Its (x:Str):It:=⟨λi _=>i<x.cps.size,λi H v H'=>H'=H/\v=.str (sgn x i),λi _=>x.cps.size<=i⟩
theorem aOv {P:Program}{w:World}{K:bEX}{tg:Expr}(it:Addr)(x:Str)(t:Tok):Turn P w K tg (Its x) [it] it (λi h=>h.IsStrIter it "str_ascii_iterator" x t i) where
 mem:=by simp
 obj:=λi h st b hb=>by
  have e:b=it:=by simpa using hb
  subst e;obtain⟨o,e,c,d⟩:=st;exact⟨o,e,λv z=>by rw[d] at z;cases z⟩
 keep:=λi h h' st k=>let ⟨o,ho,r⟩:=st;⟨o,k it (by simp) o ho,r⟩
 item:=by intro X hP hw hK hc i bE1 s σ H E I hf st hg;subst hP hw hK;obtain⟨f0,f1,f2,f3,f4,f5⟩:=hf it (by simp);refine (Walks.strAscii (prog:=X.prog) (w:=X.w) (I.ok.hd hc) it x t).item i s _ _ hg st λv h' tk hv st' kk=>?_;obtain⟨c,u,hcx,rfl⟩:=hv;have I1:Inv X bE1 σ H { s with heap:=h',toks:=tk }:=I.turned (λb o hb e=>kk b o (by simpa using hb) e) f0 f1 f3 f4 f5;obtain⟨o,e,c',d⟩:=id st';exact⟨_,rfl,aGx (s:={ s with heap:=h',toks:=tk }) e c' d (by decide) ⟨.str ⟨#[c]⟩,H,I1,⟨u,rfl⟩,⟨rfl,by rw[aSk hcx]⟩,st',λb hb=>(hf b hb).1⟩⟩
 done:=by intro X hP hw hK hc i bE1 s σ H E I hf st hg;subst hP hw hK;obtain⟨f0,f1,f2,f3,f4,f5⟩:=hf it (by simp);exact wpAny_pyNext_ascii_end (I.ok.hd hc) st (Array.getElem?_eq_none_iff.mpr hg) λh' eb=>⟨rfl,I.turned (t':=s.toks) (λb o hb e=>eb b o hb e) f0 f1 f3 f4 f5⟩
 self:=λ_ _ _ _ _ st h=>wpAny_pyIter_striter_ascii st h
theorem aO5 {P:Program}{w:World}{K:bEX}{tg:Expr}(it:Addr)(x:Str)(t:Tok):Turn P w K tg (Its x) [it] it (λi h=>h.IsStrIter it "str_iterator" x t i) where
 mem:=by simp
 obj:=λi h st b hb=>by
  have e:b=it:=by simpa using hb
  subst e;obtain⟨o,e,c,d⟩:=st;exact⟨o,e,λv z=>by rw[d] at z;cases z⟩
 keep:=λi h h' st k=>let ⟨o,ho,r⟩:=st;⟨o,k it (by simp) o ho,r⟩
 item:=by intro X hP hw hK hc i bE1 s σ H E I hf st hg;subst hP hw hK;obtain⟨f0,f1,f2,f3,f4,f5⟩:=hf it (by simp);refine (Walks.strWide (prog:=X.prog) (w:=X.w) (I.ok.hd hc) it x t).item i s _ _ hg st λv h' tk hv st' kk=>?_;obtain⟨c,u,hcx,rfl⟩:=hv;have I1:Inv X bE1 σ H { s with heap:=h',toks:=tk }:=I.turned (λb o hb e=>kk b o (by simpa using hb) e) f0 f1 f3 f4 f5;obtain⟨o,e,c',d⟩:=id st';exact⟨_,rfl,aGx (s:={ s with heap:=h',toks:=tk }) e c' d (by decide) ⟨.str ⟨#[c]⟩,H,I1,⟨u,rfl⟩,⟨rfl,by rw[aSk hcx]⟩,st',λb hb=>(hf b hb).1⟩⟩
 done:=by intro X hP hw hK hc i bE1 s σ H E I hf st hg;subst hP hw hK;obtain⟨f0,f1,f2,f3,f4,f5⟩:=hf it (by simp);exact wpAny_pyNext_wide_end (I.ok.hd hc) st (Array.getElem?_eq_none_iff.mpr hg) λh' eb=>⟨rfl,I.turned (t':=s.toks) (λb o hb e=>eb b o hb e) f0 f1 f3 f4 f5⟩
 self:=λ_ _ _ _ _ st h=>wpAny_pyIter_striter_wide st h
section
variable {X:Cx}{tg:Expr}
def aYz (tl:TE):TI:=fun σ H R=>tl σ H λx H1=>∃z,x=.str z/\R (Its z) H1
theorem aZz {l:Expr}{tl:TE}(hl:PE X l tl):PI X tg l (aYz tl):=by
 intro bE1 s σ H R I h;refine thn (hl bE1 s σ H _ I h) λv s1 ⟨x,H1,I1,r1,q1⟩=>?_;obtain⟨z,e,q⟩:=q1;subst e;obtain⟨t,rfl⟩:=r1;have fp:∀b∈[s1.heap.objs.size],sV X bE1 H1 b:=λb hb=>by
  have e:b=s1.heap.objs.size:=by simpa using hb
  subst e;exact I1.aFp (j0 _) (I1.hok.fresh (j0 _))
 cases ha:z.cps.all (·<128)
 ·exact wpAny_pyIter_wide ha ⟨s1.heap.objs.size,[s1.heap.objs.size],_,_,H1,rfl,I1.kept (t':=s1.toks) λb o e=>d8 _ e,aO5 _ z t,⟨_,j5 _ rfl,rfl,rfl⟩,fp,q⟩
 ·exact wpAny_pyIter_ascii ha ⟨s1.heap.objs.size,[s1.heap.objs.size],_,_,H1,rfl,I1.kept (t':=s1.toks) λb o e=>d8 _ e,aOv _ z t,⟨_,j5 _ rfl,rfl,rfl⟩,fp,q⟩
theorem aUi {x:Str}{g:TG}{tb:TS}{D:Ends}{σ:St}{H:Hp}(Pv:Nat->St->Hp->Prop)(h0:Pv 0 σ H)
  (hs:∀i σ H,i<x.cps.size->Pv i σ H->g (.str (sgn x i)) σ H fun σ2 H2=>tb { D with nx:=Pv (i+1),ct:=Pv (i+1),bk:=D.nx } σ2 H2) (hd:∀σ H,Pv x.cps.size σ H->D.nx σ H) :
  ∃W:Nat->Nat->St->Hp->Prop,(∃m,W 0 m σ H)/\∀i m σ H,W i m σ H ->
   ((Its x).stop i H/\D.nx σ H)\/((Its x).go i H/\∃N:St->Hp->Prop,(∀σ' H',N σ' H'->∃m',m'<m/\W (i+1) m' σ' H')/\∀v H',(Its x).yld i H v H'->g v σ H' fun σ2 H2=>tb { D with nx:=N,ct:=N,bk:=D.nx } σ2 H2):=
 aU9 (item:=λi=>.str (sgn x i)) Pv (λi H h=>h) (λH=>j0 _) (λi H v H' _ y=>y) h0 hs hd
def aXk:V->List V->Hp->VK->Prop:=λx vs H Q=>∃a b i rest,x=.str a/\vs=[.str b]/\Builtin.Str.occurrences a b 0 a.length 1=i::rest/\Q (.int (i:Nat)) H
theorem aRn:MtR X "str.index" aXk:=by intro bE1 s σ H x vs v us Q I rx rv h;obtain⟨a,b,i,rest,rfl,rfl,ho,q⟩:=h;obtain⟨t,rfl⟩:=rx;obtain⟨u,rfl,t',rfl⟩:=rv.one;exact SC.index ho ⟨.int (i:Nat),H,I.tok _,⟨_,rfl⟩,q⟩
def aLa (x:V)(T:String):Option Bool:=match x with
 |.int _=>if T = "int" then some true else if T = "bool" then some false else if T = "str" then some false else none
 |.str _=>if T = "int" then some false else if T = "bool" then some false else if T = "str" then some true else none
 |.bl _=>if T = "int" then some true else if T = "bool" then some true else if T = "str" then some false else none
 |_=>none
def bA5:List V->Hp->VK->Prop:=λxs H Q=>∃x T b,xs=[x,.ty T]/\aLa x T=some b/\Q (.bl b) H
theorem oH:cI X (.builtin "isinstance") bA5:=by
 intro bE1 s σ H xs us Q I r h;obtain⟨x,T,b,rfl,e,q⟩:=h;obtain⟨u,v,rfl,rx,rT⟩:=r.two;cases rT;have f0:∀{k:Bool},some k=some b->EP X bE1 σ Q (.bool k) s:=λe=>by cases e;exact⟨.bl _,H,I,rfl,q⟩
 have f1:∀{k:Bool},some k=some b->EP X bE1 σ Q (.bool k) { s with toks:=s.toks+1 }:=λe=>by cases e;exact⟨.bl _,H,I.tok _,rfl,q⟩
 cases x with
 |int i=>
  obtain⟨t,rfl⟩:=rx;unfold aLa at e;dsimp only at e
  split at e
  ·rename_i hT;subst hT;exact IsiPair.int_int (f0 e)
  split at e
  ·rename_i hT;subst hT;exact IsiPair.int_bool (f1 e)
  split at e
  ·rename_i hT;subst hT;exact IsiPair.int_str (f1 e)
  ·cases e
 |str z=>
  obtain⟨t,rfl⟩:=rx;unfold aLa at e;dsimp only at e
  split at e
  ·rename_i hT;subst hT;exact IsiPair.str_int (f1 e)
  split at e
  ·rename_i hT;subst hT;exact IsiPair.str_bool (f1 e)
  split at e
  ·rename_i hT;subst hT;exact IsiPair.str_str (f0 e)
  ·cases e
 |bl z=>
  cases rx;unfold aLa at e;dsimp only at e
  split at e
  ·rename_i hT;subst hT;exact IsiPair.bool_int (f0 e)
  split at e
  ·rename_i hT;subst hT;exact IsiPair.bool_bool (f0 e)
  split at e
  ·rename_i hT;subst hT;exact IsiPair.bool_str (f1 e)
  ·cases e
 |_=>cases (show (none:Option Bool)=some b from e)
end
theorem small {n:Nat}(h:n<=1000):n<=sizeLine:=bC1 (sH h)
theorem aAb:Vals [] []:=.nil
theorem mQ {x:V}{u:Value}{xs:List V}{us:List Value}(r:RelV x u)(t:Vals xs us):Vals (x::xs) (u::us):=.cons r t
def dB:Expr->Bool
 |.Starred ..=>false
 |_=>true
theorem aQ {e:Expr}{es:List Expr}{env:Env}(h:dB e=true):starEach (e::es) env=(false,eval e env)::starEach es env:=by cases e <;> first|rfl|cases h
theorem bBw {X:Cx}{e:Expr}{es:List Expr}{te:TE}{t:TA}(ha:PE X e te)(hr:PA X es t)(hp:dB e=true:=by rfl) :
  PA X (e::es) (eQ te t):=aWk ha hr (aQ hp)
theorem bAy {X:Cx}{x:Str}{v:V}{pos:Pos}(hg:Gl X x)(hm:∃u,X.mg x=some u/\RelV v u)(hd:(x == ("__debug__":Str))=false:=by decide):PE X (.Name x pos) (tC v):=by obtain⟨u,hm,r⟩:=hm;exact aT0 hg hm r hd
section
variable {P:Program}{w:World}{K:bEX}{mg:bE0}{base:Heap}
def Dn (K:bEX)(mg:bE0)(x:Str)(st:Stmt)(ps:List Str):Prop:=∃f fd,Fun K x x st f fd/\Binds K fd ps []/\mg x=some (.ref f)
def Ok (P:Program)(w:World)(K:bEX)(mg:bE0)(base:Heap)(k:Nat)(x:Str)(ps:List Str)(sp:Sp):Prop:=
 ∃f fd,mg x=some (.ref f)/\PySem.W.keepIn K (.ref f)=true/\Binds K fd ps []/\lJ P w K mg base CX0 k f fd ps sp
theorem Ok.mono {j k:Nat}{x:Str}{ps:List Str}{sp:Sp}(h:Ok P w K mg base j x ps sp)(hj:j<=k):Ok P w K mg base k x ps sp:=by obtain⟨f,fd,h1,h2,h3,h4⟩:=h;exact⟨f,fd,h1,h2,h3,h4.mono hj⟩
theorem Ok.of {x:Str}{st:Stmt}{N ps:List Str}{k:Nat}{sp:Sp}(D:Dn K mg x st ps)(S:aJ N ps (aD st))(len:∀vs H Q E,sp vs H Q E->vs.length=ps.length)
  (hbody:∀(f:Addr) (cdv:Value) (A:Around) (outer:List Env) (s:Shared) (H:Hp) (vs:List V) (Q:VK) (E:XK),Room k (A.deeper (envOfC x (aD st) s.heap.objs.size f cdv))->sp vs H Q E ->
   ∃t,PSs (aBm CX0 P w K mg base N x (aD st) f cdv A outer s H E).nox (eV st) t/\t { nx:=λ_ H'=>Q .non H',rt:=Q } (start N vs) H):Ok P w K mg base (k+1) x ps sp:=by
 obtain⟨f,fd,F,B,m⟩:=D;exact⟨f,fd,m,F.kp,B,F.ok S len λcdv A outer s H vs Q E hr h=>hbody f cdv A outer s H vs Q E hr h⟩
end
section
variable {X:Cx}{k:Nat}{ps:List Str}{sp:Sp}{x:Str}{p pos:Pos}{e:Expr}{es:List Expr}{t:TA}
theorem bAx (G:Ok X.prog X.w X.K X.mg X.base k x ps sp)(hr:Room k X.A)(hg:Gl X x)(ha:PA X (e::es) t)(hdb:(x == ("__debug__":Str))=false:=by decide)
  (he:starEach (e::es) X.env=(false,eval e X.env)::starEach es X.env:=by rfl) (hpl:(backTo pos (starEach es X.env)).any (·.1)=false:=by rfl) :
  PE X (.Call (.Name x p) (e::es) [] pos) (aDh sp [] E0 t):=by
 obtain⟨f,fd,h1,h2,h3,h4⟩:=G;exact aT5 h4 hr hg h1 h2 h3 .nil aDf ha hdb he hpl
theorem aYy (G:Ok X.prog X.w X.K X.mg X.base k x ps sp)(hr:Room k X.A)(hg:Gl X x)(hdb:(x == ("__debug__":Str))=false:=by decide) :
  PE X (.Call (.Name x p) [] [] pos) (aDh sp [] E0 aEp):=by
 obtain⟨f,fd,h1,h2,h3,h4⟩:=G;exact aR9 h4 hr hg h1 h2 h3 .nil aDf hdb
end
theorem uE {env:Env}(f:Str × NameKind->List (Str × Addr)->Sem (ForInStep (List (Str × Addr))))
  (h1:∀n r,f (n,.free) r=(cellOf env n >>= λa=>pure (.yield ((n,a)::r)))) (h2:∀n k r,k≠.free->f (n,k) r=pure (.yield r)) :
  ∀(names:List (Str × NameKind)) (acc:List (Str × Addr)),(∀y∈names,y.2=.free->∃c,env.cells.lookup y.1=some c) ->
  ∃cl,forIn names acc f=(pure (cl++acc):Sem _)/\(∀p∈cl,env.cells.lookup p.1=some p.2/\(p.1,NameKind.free)∈names)/\∀y,(y,NameKind.free)∈names->∃c,(y,c)∈cl
 |[],acc,_=>⟨[],by simp,λ_ h=>(nomatch h),λ_ h=>(nomatch h)⟩
 |(n,k)::r,acc,h=>by
  by_cases hk:k=.free
  ·subst hk;obtain⟨c,hc⟩:=h (n,.free) j8 rfl;obtain⟨cl,e,p1,p2⟩:=uE f h1 h2 r ((n,c)::acc) λy hy=>h y (j6 _ hy);refine⟨cl++[(n,c)],?_,λp hp=>?_,λy hy=>?_⟩
   ·rw[bCP,h1];have e0:cellOf env n=pure c:=by unfold cellOf;rw[hc]
    rw[e0,pure_bind,pure_bind];show forIn r ((n,c)::acc) f=_;rw[e,bCR];rfl
   ·rcases List.mem_append.mp hp with hp|hp
    ·exact⟨(p1 p hp).1,j6 _ (p1 p hp).2⟩
    ·obtain rfl:=List.mem_singleton.mp hp;exact⟨hc,j8⟩
   ·rcases List.mem_cons.mp hy with e|hy
    ·cases e;exact⟨c,by simp⟩
    ·obtain⟨c',q⟩:=p2 y hy;exact⟨c',bCG _ q⟩
  ·obtain⟨cl,e,p1,p2⟩:=uE f h1 h2 r acc λy hy=>h y (j6 _ hy);refine⟨cl,?_,λp hp=>⟨(p1 p hp).1,j6 _ (p1 p hp).2⟩,λy hy=>?_⟩
   ·rw[bCP,h2 n k acc hk,pure_bind];exact e
   ·rcases List.mem_cons.mp hy with e|hy
    ·cases e;exact absurd rfl hk
    ·exact p2 y hy
theorem aCd {scope:Scope}{env:Env}(h:∀y∈scope.names,y.2=.free->∃c,env.cells.lookup y.1=some c) :
  ∃cl,closureFor scope env=pure cl/\(∀p∈cl,env.cells.lookup p.1=some p.2/\(p.1,NameKind.free)∈scope.names)/\∀y,(y,NameKind.free)∈scope.names->∃c,(y,c)∈cl:=by
 unfold closureFor;obtain⟨cl,e,p1,p2⟩:=uE (env:=env) (λx r=>match x with|(name,kind)=>if (kind == NameKind.free)=true then do let a <-cellOf env name;pure (.yield ((name,a)::r)) else pure (.yield r))
  (λn r=>rfl) (λn k r hk=>by
   have:(k == NameKind.free)=false:=by simpa using hk
   simp only[this,bBB,if_false]) scope.names [] h
 refine⟨cl,?_,p1,p2⟩;rw[bB9] at e;refine Eq.trans ?_ e;first
 |rfl
 |simp
theorem lookup_mem {α β:Type}[BEq α][LawfulBEq α]{a:α}{b:β}:∀{l:List (α × β)},(a,b)∈l->∃b',l.lookup a=some b'
 |(x,y)::r,h=>by
  rw[bCM];by_cases e:(a == x)=true
  ·exact⟨y,by rw[e]⟩
  ·have e':(a == x)=false:=by simpa using e
   rw[e'];rcases List.mem_cons.mp h with z|z
   ·cases z;simp at e
   ·exact lookup_mem z
theorem wA {env:Env}{y:Str}{k:NameKind}:∀{names:List (Str × NameKind)},names.lookup y=some .free ->
  (names.map λ(x:Str × NameKind)=>match x with|(n,k)=>if (k == NameKind.free && env.scope.kind == ScopeKind.function && env.kindOf n == some NameKind.cell) then (n,NameKind.cell) else (n,k)).lookup y=some .cell \/
  (names.map λ(x:Str × NameKind)=>match x with|(n,k)=>if (k == NameKind.free && env.scope.kind == ScopeKind.function && env.kindOf n == some NameKind.cell) then (n,NameKind.cell) else (n,k)).lookup y=some .free
 |[],h=>by simp at h
 |(n,k')::r,h=>by
  rw[bAV];rw[bCM] at h;by_cases e:(y == n)=true
  ·rw[e] at h;cases h;by_cases q:((NameKind.free == NameKind.free) && env.scope.kind == ScopeKind.function && env.kindOf n == some NameKind.cell)=true
   ·left;simp only[q,if_true,bCM,e]
   ·right;have q':=Bool.eq_false_iff.mpr q;simp only[q',bBB,if_false,bCM,e]
  ·have e':(y == n)=false:=by simpa using e
   rw[e'] at h;have ih:=wA (env:=env) (k:=k) h;have key:∀z:Str × NameKind,z.1=n->(List.lookup y (z::(r.map λ(x:Str × NameKind)=>match x with|(n,k)=>if (k == NameKind.free && env.scope.kind == ScopeKind.function && env.kindOf n == some NameKind.cell) then (n,NameKind.cell) else (n,k)))) =
     List.lookup y (r.map λ(x:Str × NameKind)=>match x with|(n,k)=>if (k == NameKind.free && env.scope.kind == ScopeKind.function && env.kindOf n == some NameKind.cell) then (n,NameKind.cell) else (n,k)):=λz hz=>by
    obtain⟨z1,z2⟩:=z;cases hz;rw[bCM,e']
   have kz:(match ((n,k'):Str × NameKind) with|(n,k)=>if (k == NameKind.free && env.scope.kind == ScopeKind.function && env.kindOf n == some NameKind.cell) then (n,NameKind.cell) else (n,k)).1=n:=by
    dsimp only
    split <;> rfl
   rw[key _ kz];exact ih
theorem wD {env:Env}{y:Str}:∀{names:List (Str × NameKind)},(∀z∈names,z.2≠.cell) ->
  ((names.map λ(x:Str × NameKind)=>match x with|(n,k)=>if (k == NameKind.free && env.scope.kind == ScopeKind.function && env.kindOf n == some NameKind.cell) then (n,NameKind.cell) else (n,k)).lookup y=some .cell \/
  (names.map λ(x:Str × NameKind)=>match x with|(n,k)=>if (k == NameKind.free && env.scope.kind == ScopeKind.function && env.kindOf n == some NameKind.cell) then (n,NameKind.cell) else (n,k)).lookup y=some .free)->(y,NameKind.free)∈names
 |[],_,h=>by simp at h
 |(n,k')::r,hc,h=>by
  rw[bAV] at h;by_cases e:(y == n)=true
  ·have ey:y=n:=by simpa using e
   subst ey;have hk:k'=.free:=by
    by_cases q:((k' == NameKind.free) && env.scope.kind == ScopeKind.function && env.kindOf y == some NameKind.cell)=true
    ·rw[bAR,bAR] at q;simpa using q.1.1
    ·have q':=Bool.eq_false_iff.mpr q;simp only[q',bBB,if_false,bCM,e] at h;rcases h with h|h
     ·cases h;exact absurd rfl (hc (y,.cell) j8)
     ·cases h;rfl
   subst hk;exact j8
  ·have e':(y == n)=false:=by simpa using e
   have key:∀z:Str × NameKind,z.1=n->(List.lookup y (z::(r.map λ(x:Str × NameKind)=>match x with|(n,k)=>if (k == NameKind.free && env.scope.kind == ScopeKind.function && env.kindOf n == some NameKind.cell) then (n,NameKind.cell) else (n,k)))) =
     List.lookup y (r.map λ(x:Str × NameKind)=>match x with|(n,k)=>if (k == NameKind.free && env.scope.kind == ScopeKind.function && env.kindOf n == some NameKind.cell) then (n,NameKind.cell) else (n,k)):=λz hz=>by
    obtain⟨z1,z2⟩:=z;cases hz;rw[bCM,e']
   have kz:(match ((n,k'):Str × NameKind) with|(n,k)=>if (k == NameKind.free && env.scope.kind == ScopeKind.function && env.kindOf n == some NameKind.cell) then (n,NameKind.cell) else (n,k)).1=n:=by
    dsimp only
    split <;> rfl
   rw[key _ kz] at h;exact j6 _ (wD (λz hz=>hc z (j6 _ hz)) h)
section
variable {prog:Program}{w:World}{A:Around}{E:bEY}{R:Result->Shared->Prop}{s:Shared}
theorem aEb {elt target iter:Expr}{ifs:List Expr}{scope:Scope}{pos:Pos}{it acc:Value}{env:Env}(I:Nat->Shared->Prop)
  (turn:∀n s,I n s->wpAny (model prog w) A (pyNext it) (λr s₁=>match r with
   |none=>R (.ok .next) s₁
   |some v=>wpAny (model prog w) A (letOwnedTupleGo target it v) (λ_ s'=>wpAny (model prog w) A (assign target env v) (λ_ s₂=>
     wpAny (model prog w) A (forIn ifs true λc r=>if r=true then do let ok <-isTrue c env (eval c env);pure (ForInStep.yield ok) else pure (ForInStep.yield r)) (λok s₃=>
      if ok=true then wpAny (model prog w) A (eval elt env) (λx s₄=>
       wpAny (model prog w) A (call (.builtin "list.append") [acc,x]) (λ_ s₅=>∃m,m<n/\I m s₅) (notedBy (model prog w) A env λe s'=>R (.error e) s') s₄) (notedBy (model prog w) A env λe s'=>R (.error e) s') s₃
      else ∃m,m<n/\I m s₃) (notedBy (model prog w) A env λe s'=>R (.error e) s') s₂) (notedBy (model prog w) A env λe s'=>R (.error e) s') s') (notedBy (model prog w) A env λe s'=>R (.error e) s') s₁)
   (notedBy (model prog w) A env λe s'=>R (.error e) s') s)
  (n:Nat) (h:I n s):codeAny (model prog w) A (.compLoop (.ListComp elt [⟨target,iter,ifs,0⟩] scope pos) 0 it acc env) R s:=by
 refine codeAny_loop rfl I (λn s hI=>?_) n h;show wpAny _ A ((compTurn (.ListComp elt [⟨target,iter,ifs,0⟩] scope pos) 0 it acc env).onRaise (λx=>do noteFrame x env;theTreesLotGoes x)) _ _ s;refine wpAny_noted ?_;rw[compTurn_list];refine c7 (bEW (c7 (bBL (turn n s hI) (λr s₁ h₁=>?_) λ_ _ h'=>h')));cases r with
 |none=>exact d9 h₁
 |some v=>
  refine c7 (bBL h₁ (λ_ s' h₁'=>c7 (bBL h₁' (λ_ s₂ h₂=>c7 (bBL h₂ (λok s₃ h₃=>?_) λ_ _ h'=>h')) λ_ _ h'=>h')) λ_ _ h'=>h');cases ok with
  |false=>exact d9 ⟨rfl,h₃⟩
  |true=>exact c7 (c7 (bBL h₃ (λx s₄ h₄=>c7 (bBL h₄ (λ_ s₅ h₅=>d9 (d9 ⟨rfl,h₅⟩)) λ_ _ h'=>h')) λ_ _ h'=>h'))
end
def cxC (X:Cx)(N:List Str)(scope:Scope)(cl:List (Str × Addr))(s:Shared)(H:Hp)(fp:List Addr):Cx:=
 { X with N:=N,s₀:=s,H₀:=H,env:=compEnvC scope cl s.heap.objs.size X.env,outer:=X.stack,stack:=X.stack,ex:=fp,fn:=λ_=>false,pn:=[],xe:=λ_ _=>False }
def aQt (X:Cx)(ifs:List Expr)(tt:TT):Prop:=
 ∀(bE1:bEZ) (s:Shared) (σ:St) (H:Hp) (Q:Bool->Hp->Prop),Inv X bE1 σ H s->tt σ H Q ->
  wpAny (model X.prog X.w) X.A (forIn ifs true λc r=>if r=true then do let ok <-isTrue c X.env (eval c X.env);pure (ForInStep.yield ok) else pure (ForInStep.yield r)) (TP X bE1 σ Q) X.xe s
def nZ:TT:=λ_ H Q=>Q true H
theorem aXr {X:Cx}:aQt X [] nZ:=λ_ _ _ H _ I h=>wpAny_tests_nil ⟨H,I,h⟩
theorem aY8 {X:Cx}{c:Expr}{tc:TT}(h:PT X c tc):aQt X [c] tc:=λbE1 s σ H Q I q=>wpAny_tests_one (h bE1 s σ H Q I q)
structure aCh (scope:Scope)(N:List Str):Prop where
 cell:∀y∈scope.names,y.2≠.cell
 kind:scope.kind=.function
 names:∀y∈scope.names,y.2=.local->scope.names.lookup y.1=some .local
 free:∀y∈scope.names,y.2=.free->scope.names.lookup y.1=some .free
def Cap (X:Cx)(scope:Scope)(N:List Str)(σ σ':St):Prop:=
 σ'.length=N.length/\∀(i:Nat) (y:Str) (v:V),N[i]?=some y->σ'[i]?=some (some v)->(y,NameKind.free)∈scope.names/\∃j:Nat,X.N[j]?=some y/\σ[j]?=some (some v)/\Vis X.env.scope y
theorem aHt {X:Cx}{bE1:bEZ}{σ σ':St}{H:Hp}{s:Shared}{scope:Scope}{N:List Str}{cl:List (Str × Addr)}{fp:List Addr}{h1:Heap}{tk:Nat}{m1:bE0}
  (I:Inv X bE1 σ H s) (C:aCh scope N) (hfr:∀y,(y,NameKind.free)∈scope.names->X.env.kindOf y=some .cell\/X.env.kindOf y=some .free)
  (p1:∀p∈cl,X.env.cells.lookup p.1=some p.2/\(p.1,NameKind.free)∈scope.names) (p2:∀y,(y,NameKind.free)∈scope.names->∃c,(y,c)∈cl)
  (cap:Cap X scope N σ σ') (hf:∀b∈fp,sV X bE1 H b) (hfl:∀b∈fp,b<s.heap.objs.size)
  (hn:h1.Ns s.heap.objs.size m1) (hk:∀b o,s.heap.get? b=some o->h1.get? b=some o) :
  Inv (cxC X N scope cl s H fp) [] σ' H { s with heap:=h1,toks:=tk }:=by
 have ok:=I.ok;have lk:∀y c,cl.lookup y=some c->X.env.cells.lookup y=some c:=λy c e=>(p1 _ (PySem.mem_of_lookup e)).1;have lk2:∀y,(y,NameKind.free)∈scope.names->∃c,cl.lookup y=some c/\X.env.cells.lookup y=some c:=λy hy=>by obtain⟨c,hc⟩:=p2 y hy;obtain⟨c',e⟩:=lookup_mem hc;exact⟨c',e,lk y c' e⟩
 have fsub:∀b∈fp,b∉frs X.stack:=λb hb z=>by
  obtain⟨f0,f1,f2,_⟩:=hf b hb;rcases List.mem_cons.mp (I.aFv b z) with e|e
  ·exact f1 e
  ·exact f2 e
 have ok':(cxC X N scope cl s H fp).Ok:=by
  refine⟨ok.mod,C.kind,ok.glob,ok.blt,j0 _,λx y c h1 h2=>ok.inj x y c (lk x c h1) (lk y c h2),λy hy=>?_,λy c h _=>?_,ok.hd,ok.frames,.inl rfl,λb hb=>?_,I.bs,bAL ok.bsz I.sz,
   λb o e hb=>?_,fsub,I.stack,I.vU⟩
  ·obtain⟨c,e,_⟩:=lk2 y (wD (env:=X.env) C.cell hy);exact⟨c,e⟩
  ·exact absurd (show false=true from h) t8
  ·obtain⟨f0,f1,f2,f3,f4,f5⟩:=hf b hb;exact⟨v4 (hfl b hb),λx c e=>f4 x c (lk x c e)⟩
  ·obtain⟨f0,f1,f2,f3,f4,f5⟩:=hf b hb;rcases f3 with z|z
   ·exact ok.noex b o e z
   ·exact absurd (bAA (m8 e) (bAL ok.bsz z)) (bBN _)
 refine⟨ok',rfl,I.bare,Un.kept hk,⟨m1,hn,λi y v e1 e2 e3=>?_⟩,λy c e=>?_,I.hok.fresh (j0 _),λy c e=>I.freeC y c (lk y c e),λp hp=>absurd (show p∈([]:bEZ) from hp) (by simp),I.hok.kept hk,cap.1⟩
 ·obtain⟨hy,j,e4,e5,e6⟩:=cap.2 i y v e1 e2;obtain⟨m,_,hl⟩:=I.loc;obtain⟨u,r,l⟩:=hl j y v e4 e5 e6;refine⟨u,r,.inr ?_⟩;rcases l with⟨k,_⟩|⟨k,c,e,z⟩
  ·rcases hfr y hy with q|q <;> (rw[k] at q;cases q)
  ·obtain⟨c',e',e''⟩:=lk2 y hy;rw[e] at e'';cases e'';have rl:=wA (env:=X.env) (k:=.free) (C.free (y,.free) hy rfl);refine⟨rl,c,e',?_⟩;obtain⟨o,ho,hd⟩:=z;exact⟨o,hk _ _ ho,hd⟩
 ·obtain⟨v,o,ho,hd⟩:=I.cell y c (lk y c e);exact⟨v,o,hk _ _ ho,hd⟩
def kZ (X:Cx)(scope:Scope)(N:List Str)(wi:TI)(g:TG)(tt:TT)(te:TE):TE:=fun σ H Q=>∃σ0,Cap X scope N σ σ0/\wi σ H λJ H1=>∀D,H1 D=none->∃W:Nat->Nat->St->Hp->List V->Prop,(∃m,W 0 m σ0 (upd H1 D (.lst [])) []) /\
 ∀i m σ' H' ys,W i m σ' H' ys->H' D=some (.lst ys)/\((J.stop i H'/\Q (.ref D) H')\/(J.go i H'/\∀x H2,J.yld i H' x H2->g x σ' H2 fun σ3 H3=>tt σ3 H3 λb H4=>
  if b=true then te σ3 H4 λy H5=>H5 D=some (.lst ys)/\ys.length<sizeLine/\∃m',m'<m/\W (i+1) m' σ3 (upd H5 D (.lst (ys++[y]))) (ys++[y]) else H4 D=some (.lst ys)/\∃m',m'<m/\W (i+1) m' σ3 H4 ys))
theorem aVa {X:Cx}{elt target iter:Expr}{ifs:List Expr}{scope:Scope}{pos:Pos}{N:List Str}{wi:TI}{g:TG}{tt:TT}{te:TE}
  (C:aCh scope N) (hfr:∀y,(y,NameKind.free)∈scope.names->X.env.kindOf y=some .cell\/X.env.kindOf y=some .free) (hc:X.calm=true)
  (hi:PI X target iter wi)
  (hb:∀cl s H fp,PG (cxC X N scope cl s H fp) target g/\aQt (cxC X N scope cl s H fp) ifs tt/\PE (cxC X N scope cl s H fp) elt te)
  (hs:∀x,foldedSetIterable iter X.env x=pure x:=by intro _;rfl) :
  PE X (.ListComp elt [⟨target,iter,ifs,0⟩] scope pos) (kZ X scope N wi g tt te):=by
 intro bE1 s σ H Q I hq;obtain⟨σ0,cap,hq⟩:=hq;obtain⟨cl,hcl,p1,p2⟩:=aCd (scope:=scope) (env:=X.env) (λy hy hk=>by obtain⟨n,k⟩:=y;cases hk;exact I.ok.has n (hfr n hy))
 rw[eval_ListComp];refine wpAny_comprehension_free (use:=none) rfl hs hcl C.kind C.names (thn (hi bE1 s σ H _ I hq) λxv s1 h1=>thn h1 λitv s2 h2=>?_);obtain⟨it,fp,tn,J,H2,rfl,I2,T,st2,f2,q2⟩:=h2;refine bAJ (bEF C.cell (by intro y hy;simp at hy) (λh₁ hns₁ hsb₁=>?_) C.kind);dsimp only at hns₁ hsb₁ ⊢;have hD:H2 s2.heap.objs.size=none:=I2.hok.fresh (j0 _);have I3:Inv X bE1 σ (upd H2 s2.heap.objs.size (.lst [])) { s2 with heap:=s2.heap.push { cls:=.type "list",dict:=none,data:=.seq ([]:List Value).toArray } }:=
  I2.laid (t':=s2.toks) (λb u e=>d8 _ e) (j0 _) ⟨bAE _,[],0,.nil,j5 _ rfl⟩
 generalize hs3:({ s2 with heap:=s2.heap.push { cls:=.type "list",dict:=none,data:=.seq ([]:List Value).toArray } }:Shared)=s3 at I3;have hh3:s2.heap.push { cls:=.type "list",dict:=none,data:=.seq ([]:List Value).toArray }=s3.heap:=by rw[<-hs3]
 rw[hh3] at hns₁ hsb₁;have fl2:∀b∈fp,b<s2.heap.objs.size:=λb hb=>by obtain⟨o,e,_⟩:=T.obj _ _ st2 b hb;exact m8 e
 have fl3:∀b∈fp,b<s3.heap.objs.size:=λb hb=>by rw[<-hh3,bAX];exact bBE (fl2 b hb)
 have f3:∀b∈fp,sV X bE1 (upd H2 s2.heap.objs.size (.lst [])) b:=λb hb=>by obtain⟨f0,fr⟩:=f2 b hb;exact⟨by rw[aN (v4 (fl2 b hb))];exact f0,fr⟩
 have keep3:∀b o,s3.heap.get? b=some o->h₁.get? b=some o:=λb o e=>hsb₁.extBut b o (v4 (m8 e)) (d8 _ e);have I4:=aHt (tk:=s3.toks) I3 C hfr p1 p2 cap f3 fl3 hns₁ keep3;have st4:tn 0 h₁:=T.keep _ _ _ st2 λb hb o e=>keep3 b o (by rw[<-hh3];exact d8 _ e);obtain⟨W,⟨m0,w0⟩,turn⟩:=q2 s2.heap.objs.size hD;have fpc:∀{H':Hp},(∀b∈fp,H' b=none)->∀b∈fp,sV (cxC X N scope cl s3 (upd H2 s2.heap.objs.size (.lst [])) fp) [] H' b:=λ{H'} hn b hb=>by obtain⟨e1,e2⟩:=I4.ok.exf b hb;exact⟨hn b hb,e1,I4.ok.exfs b hb,.inl hb,e2,λp hp=>absurd (show p∈([]:bEZ) from hp) (by simp)⟩
 have loop:∀s4:Shared,s4={ s3 with heap:=h₁,toks:=s3.toks } ->
   codeAny (model X.prog X.w) X.A (.compLoop (.ListComp elt [⟨target,iter,ifs,0⟩] scope pos) 0 (.ref it) (.ref s2.heap.objs.size) (compEnvC scope cl s3.heap.objs.size X.env))
    (compPost (model X.prog X.w) X.A X.xe none (EP X bE1 σ Q) (.ref s2.heap.objs.size) s3.heap.objs.size) s4:=by
  rintro s4 rfl;refine aEb (λn s'=>∃i σ' H' ys,Inv (cxC X N scope cl s3 (upd H2 s2.heap.objs.size (.lst [])) fp) [] σ' H' s'/\tn i s'.heap/\(∀b∈fp,H' b=none)/\W i n σ' H' ys) ?_ m0 ⟨0,σ0,_,[],I4,st4,λb hb=>(f3 b hb).1,w0⟩;rintro n s5 ⟨i,σ5,H5,ys,I5,st5,fr5,w5⟩;obtain⟨hacc,w5⟩:=turn i n σ5 H5 ys w5;have noE:∀{α:Type} {t:Sem α} {Q':α->Shared->Prop} {E':bEY} {s':Shared},wpAny (model X.prog X.w) X.A t Q' (λ_ _=>False) s'->wpAny (model X.prog X.w) X.A t Q' E' s':=λh=>bBL h (λ_ _ q=>q) λ_ _ z=>z.elim;rcases w5 with⟨stop,qn⟩|⟨go,step⟩
  ·refine noE (thn (T.done (cxC X N scope cl s3 (upd H2 s2.heap.objs.size (.lst [])) fp) rfl rfl rfl hc i [] s5 σ5 H5 _ I5 (fpc fr5) st5 stop) λr s6 ⟨hr,I6⟩=>?_);subst hr;obtain⟨m6,hn6,_⟩:=I6.loc;refine⟨m6,hn6,λh' sb=>?_⟩;have kp:∀b o,b≠s3.heap.objs.size->s6.heap.get? b=some o->h'.get? b=some o:=λb o hb e=>sb.extBut b o hb e;have ne3:∀b o,s3.heap.get? b=some o->b≠s3.heap.objs.size:=λb o e=>v4 (m8 e);have un:Un (frs X.stack) fp (upd H2 s2.heap.objs.size (.lst [])) H5 s3.heap h':=by
    have u:=I6.base;exact⟨λb o e n hb hx=>kp b o (ne3 b o e) (u.keep b o e n hb hx),λb o e n hb hx=>by
     obtain⟨sl,e1⟩:=u.slot b o e n hb hx;exact⟨sl,kp b _ (ne3 b o e) e1⟩,u.free,λb o e hx=>by
     obtain⟨o',e1⟩:=u.there b o e hx;exact⟨o',kp b _ (ne3 b o e) e1⟩,u.tups,u.frzs,u.tbls⟩
   have hok:HOk X.prog X.w H5 h':=λb u e=>by
    refine (I6.hok b u e).stay (λc v hc' q=>kp c v ?_ q) (λ_ q=>q) λ_ _ q=>q;have hfree:H5 s3.heap.objs.size=none:=I6.free;rintro rfl;rcases hc' with z|z
    ·rw[z] at hfree;rw[hfree] at e;cases e
    ·rw[hfree] at z;cases z
   have I7:Inv X bE1 σ H5 { s6 with heap:=h' }:=by refine I3.call' (s':={ s6 with heap:=h' }) I6.os un hok I6.bare λb hb=>?_;obtain⟨f0,f1,f2',f3',f4,f5⟩:=f3 b hb;exact⟨f3',f1,f4,f5⟩
   exact⟨.ref s2.heap.objs.size,H5,I7,rfl,qn⟩
  ·refine noE (thn (T.item (cxC X N scope cl s3 (upd H2 s2.heap.objs.size (.lst [])) fp) rfl rfl rfl hc i [] s5 σ5 H5 (λ_ _=>False) I5 (fpc fr5) st5 go) λr s6 ⟨u,hr,h6⟩=>?_);subst hr;refine noE (thn h6 λ_ s7 ⟨x,H7,I7,r7,y7,st7,fr7⟩=>?_);obtain⟨hg,ht,he⟩:=hb cl s3 (upd H2 s2.heap.objs.size (.lst [])) fp;have I7':=I7.pinned (fpc fr7) (T.obj _ _ st7);have back:∀{σ8:St} {H8:Hp} {s8:Shared},Inv (cxC X N scope cl s3 (upd H2 s2.heap.objs.size (.lst [])) fp) ([]++xQ fp s7.heap) σ8 H8 s8->tn (i+1) s8.heap/\∀b∈fp,H8 b=none:=λ{σ8 H8 s8} I8=>
    ⟨T.keep _ _ _ st7 λb hb o e=>(I8.pin (b,o) (bAP _ (bAP _ (jJ hb e)))).1,λb hb=>by obtain⟨o,e,d⟩:=T.obj _ _ st7 b hb;exact (I8.pin (b,o) (bAP _ (bAP _ (jJ hb e)))).2.1⟩
   refine noE (thn (hg _ s7 σ5 H7 x u _ I7' r7 (step x H7 y7)) λ_ s8 ⟨σ8,H8,I8,q8⟩=>?_);refine noE (thn (ht _ s8 σ8 H8 _ I8 q8) λb s9 ⟨H9,I9,q9⟩=>?_);cases b with
   |false=>rw[if_neg t8] at q9 ⊢;obtain⟨_,m',hm,w9⟩:=q9;exact⟨m',hm,i+1,σ8,H9,ys,I9.lQ,(back I9).1,(back I9).2,w9⟩
   |true=>rw[if_pos rfl] at q9 ⊢;refine noE (thn (he _ s9 σ8 H9 _ I9 q9) λyv s10 ⟨y,H10,I10,r10,hacc10,hlen,m',hm,w10⟩=>?_);refine noE (thn (yG _ s10 σ8 H10 (.ref s2.heap.objs.size) [y] (.ref s2.heap.objs.size) [yv] (λ_ H11=>H11=upd H10 s2.heap.objs.size (.lst (ys++[y]))) I10 rfl (.cons r10 .nil) ⟨_,_,_,rfl,rfl,hacc10,hlen,rfl⟩) λ_ s11 ⟨z,H11,I11,_,e11⟩=>?_);subst e11;exact⟨m',hm,i+1,σ8,_,ys++[y],I11.lQ,(back I11).1,(back I11).2,w10⟩
 have fin:=codeAny_compStart_list (loop { s3 with heap:=h₁,toks:=s3.toks } rfl) (T.self _ _ _ _ _ st4 (loop { s3 with heap:=h₁,toks:=s3.toks } rfl));subst hs3;exact fin
end L2
namespace PySem
open Sem (wp)
namespace IfF
theorem aRt:typeLookup (.type "function") "__class__"=pure (some (.builtin "object.__class__")):=by rw[typeLookup_type,builtinLookup_eq_fast];kernel_rfl
theorem zT:Slot "function" "__getattribute__" "object.__getattribute__":=
 .of (owner:="object") (n:="__getattribute__") (by rw[typeLookup_type,builtinLookup_eq_fast];kernel_rfl) (by decide +kernel) (by decide +kernel) (by decide +kernel)
  (by first|exact .inl (by decide +kernel)|exact .inr (by decide +kernel)) (by rw[isSubtype_type];kernel_rfl)
theorem aR0:entryFor table "object.__getattribute__"=some Builtin.«object.__getattribute__»:=entryFor_of_tree (by kernel_rfl)
theorem zJ:isSubtype (.type "function") (.type (".".intercalate ("object.__class__".cutAt '.').dropLast))=pure true:=by rw[F.owner_object_class,isSubtype_type];kernel_rfl
theorem sub_int:isSubtype (.type "function") (.type "int")=pure false:=by rw[isSubtype_type];kernel_rfl
theorem sub_bool:isSubtype (.type "function") (.type "bool")=pure false:=by rw[isSubtype_type];kernel_rfl
theorem aWm:isSubtype (.type "function") (.type "str")=pure false:=by rw[isSubtype_type];kernel_rfl
end IfF
section
variable {prog:Program}{w:World}{A:Around}{E:bEY}{h:Heap}{g:Array GenState}{d:Drawn}{t:Nat}{os:OsState}{a:Addr}{o:Obj}
theorem aFw {R:Result->Shared->Prop}(hx:h.get? a=some o)(hc:o.cls=.type "function")(hq:R (.ok (.ret (.type "function"))) ⟨h,g,d,t,os⟩) :
  codeAny (model prog w) A (.call (.builtin "getset_descriptor.__get__") ⟨[.builtin "object.__class__",.ref a,.type "function"],[]⟩) R ⟨h,g,d,t,os⟩:=by
 have hT:(⟨h,g,d,t,os⟩:Shared).TypeIs (.ref a) "function":=⟨_,hx,hc⟩;have hT5:(⟨h,g,d,t,os⟩:Shared).TypeIs (.builtin "object.__class__") "getset_descriptor":=F.typeOf_object_class;have f8:=IfF.zJ;refine bDB F.slot_gs_get.plain F.entry_gs_get (F.slot_gs_get.check _ _ _ _ _ _ _ _ hT5 (F.args_gs_get _ _ _) ?_)
 repeat (any_goals (first|assumption|wp_step))
 refine⟨Code.quiet_builtin _ (by decide +kernel),bBM F.entry_object_class ?_⟩
 repeat (any_goals (first|assumption|wp_step))
theorem aA4 {tk:Tok}{Q:Fin->Shared->Prop}(hx:h.get? a=some o)(hc:o.cls=.type "function")(hq:Q (.done (.ret (.type "function"))) ⟨h,g,d,t,os⟩) :
  wpAny (model prog w) A (Builtin.«object.__getattribute__» ⟨[.ref a,.str "__class__" tk],[]⟩) Q E ⟨h,g,d,t,os⟩:=by
 have hT:(⟨h,g,d,t,os⟩:Shared).TypeIs (.ref a) "function":=⟨_,hx,hc⟩;have hT5:(⟨h,g,d,t,os⟩:Shared).TypeIs (.builtin "object.__class__") "getset_descriptor":=F.typeOf_object_class;have f4:=IfF.aRt;have f5:=F.typeOf_object_class;have f6:=F.slot_gs_get.lookup;have f7:=F.slot_gs_set.lookup
 repeat (any_goals (first|assumption|wp_step))
 refine aFw hx hc ?_
 repeat (any_goals (first|assumption|wp_step))
theorem aG2 {tk:Tok}{Q:bEY}(hx:h.get? a=some o)(hc:o.cls=.type "function")(hq:Q (.type "function") ⟨h,g,d,t,os⟩):wpAny (model prog w) A (getAttrBy (.ref a) (.str "__class__" tk) false) Q E ⟨h,g,d,t,os⟩:=by
 have hT:(⟨h,g,d,t,os⟩:Shared).TypeIs (.ref a) "function":=⟨_,hx,hc⟩;have f2:=IfF.zT.lookup;have f3:=IfF.zT.bind (.ref a)
 repeat (any_goals (first|assumption|wp_step))
 refine bDB IfF.zT.plain IfF.aR0 (IfF.zT.check _ _ _ _ _ _ _ _ hT (F.args_object_getattribute_2 _ _) (aA4 hx hc ?_))
 repeat (any_goals (first|assumption|wp_step))
theorem aCk {Q:Option Value->Shared->Prop}(hx:h.get? a=some o)(hc:o.cls=.type "function")(hq:Q (some (.type "function")) ⟨h,g,d,t+1,os⟩):wpAny (model prog w) A (getAttr? (.ref a) "__class__") Q E ⟨h,g,d,t,os⟩:=by
 unfold getAttr? getAttrBy?
 repeat (any_goals (first|assumption|with_reducible apply aG2 hx hc|wp_step))
theorem aC0 {T:String}{dep:Int}{tk:Tok}{Q:Fin->Shared->Prop}(hx:h.get? a=some o)(hc:o.cls=.type "function")(hne:(Value.type "function" == Value.type T)=false)(hty:typeOf (.type T)=pure (.type "type"))
  (hsub:isSubtype (.type "function") (.type T)=pure false) (hq:Q (.done (.ret (.bool false))) ⟨h,g,d,t+1,os⟩) :
  wpAny (model prog w) A (Builtin.«isinstance.nested» ⟨[.ref a,.type T,.int dep tk],[]⟩) Q E ⟨h,g,d,t,os⟩:=by
 have hT:(⟨h,g,d,t,os⟩:Shared).TypeIs (.ref a) "function":=⟨_,hx,hc⟩
 repeat (any_goals (first|assumption|with_reducible apply aCk hx hc|wp_step))
end
theorem oZ {a:Addr}{T:String}(hne:(Value.type "function" == Value.type T)=false)(hty:typeOf (.type T)=pure (.type "type"))(hsub:isSubtype (.type "function") (.type T)=pure false) :
  Meets (Builtin.«isinstance» ⟨[.ref a,.type T],[]⟩) (λ_ R s=>(∃o,s.heap.get? a=some o/\o.cls=.type "function")/\R (.ok (.ret (.bool false))) { s with toks:=s.toks+1 }):=
 λ_ _ _ _ s hs=>by obtain⟨h,g,d,t,os⟩:=s;obtain⟨⟨o,hx,hc⟩,hq⟩:=hs;exact isinstance_outer (aC0 hx hc hne hty hsub hq)
section
variable {prog:Program}{w:World}{A:Around}{E:bEY}{s:Shared}{Q:bEY}{a:Addr}{o:Obj}
theorem aLv (hx:s.heap.get? a=some o)(hc:o.cls=.type "function")(h:Q (.bool false) { s with toks:=s.toks+1 }):wpAny (model prog w) A (call (.builtin "isinstance") [.ref a,.type "int"]) Q E s:=
 call_isinstance (oZ (by decide) F.isi_meta_int IfF.sub_int) ⟨⟨o,hx,hc⟩,h⟩
theorem aIn (hx:s.heap.get? a=some o)(hc:o.cls=.type "function")(h:Q (.bool false) { s with toks:=s.toks+1 }):wpAny (model prog w) A (call (.builtin "isinstance") [.ref a,.type "bool"]) Q E s:=
 call_isinstance (oZ (by decide) F.isi_meta_bool IfF.sub_bool) ⟨⟨o,hx,hc⟩,h⟩
theorem aKy (hx:s.heap.get? a=some o)(hc:o.cls=.type "function")(h:Q (.bool false) { s with toks:=s.toks+1 }):wpAny (model prog w) A (call (.builtin "isinstance") [.ref a,.type "str"]) Q E s:=
 call_isinstance (oZ (by decide) F.isi_meta_str IfF.aWm) ⟨⟨o,hx,hc⟩,h⟩
end
end PySem
namespace L2
open PySem PySem.Spec PyProof.Rows
section
variable {X:Cx}
theorem PE.imp {e:Expr}{t t':TE}(h:PE X e t)(k:∀σ H Q,t' σ H Q->t σ H Q):PE X e t':=λbE1 s σ H Q I q=>h bE1 s σ H Q I (k σ H Q q)
def bBy (K:bEX):List V->Hp->VK->Prop:=λxs H Q=>∃(p:Addr) (bs:List Bool),xs=[.ref p]/\SqL K H p (bs.map V.bl)/\Q (.bl (bs.all id)) H
theorem all_range (bs:List Bool):(List.range bs.length).all (λi=>bs.getD i false)=bs.all id:=by
 rw[bCJ,bBX,bBX];constructor
 ·intro h b hb;obtain⟨i,hi,e⟩:=List.mem_iff_getElem.mp hb;have:=h i (List.mem_range.mpr hi);rw[j4,d7 hi] at this;rw[<-e];exact this
 ·intro h i hi;have hi:=List.mem_range.mp hi;rw[j4,d7 hi];exact h _ (bAT hi)
theorem lU (hc:X.calm=true):cI X (.builtin "all") (bBy X.K):=by
 intro bE1 s σ H xs us Q I r h;obtain⟨p,bs,rfl,hq,q⟩:=h;obtain⟨u,rfl,rx⟩:=r.one;cases rx;obtain⟨its,rv,pl,hz⟩:=I.list hq;have hl:=rv.length;rw[j9] at hl;have hne:p≠s.heap.objs.size:=by obtain⟨o,ho,_⟩:=pl.isList;exact v4 (m8 ho)
 refine call_all_walk (bB3 pl.isList ?_);refine⟨s.heap.objs.size,_,_,_,_,_,λi=>bs.getD i false,rfl,Walks.list (show X.A.in1.handled=none from I.ok.hd hc) _ p hne its.toArray,⟨⟨_,j5 _ rfl,rfl,rfl⟩,?_⟩,?_,λh' tk kp=>?_⟩
 ·exact pl.isList.at λo e=>d8 _ e
 ·intro i v s' Q' E' hv hq';have hv':its[i]?=some v:=by simpa using hv
  have hi:i<bs.length:=by rw[hl];exact (List.getElem?_eq_some_iff.mp hv').1
  obtain⟨u,hu,ru⟩:=rv.get (i:=i) (x:=.bl bs[i]) (by rw[v9,d7 hi];rfl);rw[hv'] at hu;cases hu;cases ru;have e:bs.getD i false=bs[i]:=by rw[j4,d7 hi];rfl
  replace hq':Q' (bs.getD i false) s':=hq';rw[e] at hq';exact bBD hq'
 ·have e:(List.range its.toArray.size).all (λi=>bs.getD i false)=bs.all id:=by rw[j7,<-hl];exact all_range bs
  rw[e];refine⟨.bl (bs.all id),H,?_,rfl,q⟩;exact I.kept λb o eo=>kp b o (by
   intro z;have:b=s.heap.objs.size:=by simpa using z
   rw[this] at eo;exact absurd (m8 eo) (bBN _)) (d8 _ eo)
inductive Rk (K:bEX)(H:Hp):V->String->Prop
 |non:Rk K H .non "NoneType"
 |lst {a xs}:SqL K H a xs->Rk K H (.ref a) "list"
 |tup {a xs}:SqT K H a xs->Rk K H (.ref a) "tuple"
 |dct {a kvs}:H a=some (.dK kvs)->Rk K H (.ref a) "dict"
 |fn {a o}:K.lookup a=some o->o.cls=.type "function"->Rk K H (.ref a) "function"
def aXd (K:bEX):List V->Hp->VK->Prop:=λxs H Q=>∃x k T,xs=[x,.ty T]/\Rk K H x k/\(T = "int"\/T = "bool"\/T = "str")/\Q (.bl false) H
theorem rW:cI X (.builtin "isinstance") (aXd X.K):=by
 intro bE1 s σ H xs us Q I r h;obtain⟨x,k,T,rfl,hx,hT,q⟩:=h;obtain⟨u,v,rfl,rx,rT⟩:=r.two;cases rT;have f1:EP X bE1 σ Q (.bool false) { s with toks:=s.toks+1 }:=⟨.bl _,H,I.tok _,rfl,q⟩;cases hx with
 |non=>
  cases rx;rcases hT with rfl|rfl|rfl
  ·exact IsiPair.NoneType_int f1
  ·exact IsiPair.NoneType_bool f1
  ·exact IsiPair.NoneType_str f1
 |lst hq=>
  cases rx;obtain⟨its,rv,⟨o,n,e,c,_⟩,hz⟩:=I.list hq;rcases hT with rfl|rfl|rfl
  ·exact IsiPair.list_int e c f1
  ·exact IsiPair.list_bool e c f1
  ·exact IsiPair.list_str e c f1
 |tup hq=>
  cases rx;obtain⟨its,rv,⟨o,e,c,_⟩,hz⟩:=I.tuple hq;rcases hT with rfl|rfl|rfl
  ·exact IsiPair.tuple_int e c f1
  ·exact IsiPair.tuple_bool e c f1
  ·exact IsiPair.tuple_str e c f1
 |dct hq=>
  cases rx;obtain⟨_,_,_,_,o,_,_,e,ex,_⟩:=I.hok _ _ hq;rcases hT with rfl|rfl|rfl
  ·exact IsiPair.dict_int e ex.1 f1
  ·exact IsiPair.dict_bool e ex.1 f1
  ·exact IsiPair.dict_str e ex.1 f1
 |fn hk hc=>
  cases rx;have e:=I.kIn _ _ hk;rcases hT with rfl|rfl|rfl
  ·exact aLv e hc f1
  ·exact aIn e hc f1
  ·exact aKy e hc f1
end
theorem lY {X:Cx}{scope:Scope}(h:∀z∈scope.names,z.2≠.free):∀y,(y,NameKind.free)∈scope.names->X.env.kindOf y=some .cell\/X.env.kindOf y=some .free:=λy hy=>absurd rfl (h _ hy)
theorem dX {X:Cx}{scope:Scope}(sc:Scope)(e:X.env.scope=sc)(h:∀z∈scope.names,z.2=.free->sc.names.lookup z.1=some .cell\/sc.names.lookup z.1=some .free) :
  ∀y,(y,NameKind.free)∈scope.names->X.env.kindOf y=some .cell\/X.env.kindOf y=some .free:=λy hy=>by
 show X.env.scope.names.lookup y=some .cell\/X.env.scope.names.lookup y=some .free;rw[e];exact h _ hy rfl
theorem Same.aV {K:bEX}{H H':Hp}{a:Addr}{xs:List V}(e:Same H H')(h:SqT K H a xs):SqT K H' a xs:=by
 rcases h with (h|⟨o,h⟩)|h
 ·exact .inl (.inl (e _ _ h))
 ·exact .inl (.inr ⟨o,e _ _ h⟩)
 ·exact .inr h
theorem aW {H:Hp}{p:Addr}(h:H p=none)(o:HO):Same H (upd H p o):=λb u q=>by rw[aN (aU q h)];exact q
theorem Rk.same {K:bEX}{H H':Hp}{v:V}{k:String}(e:Same H H')(h:Rk K H v k):Rk K H' v k:=by
 cases h with
 |non=>exact .non
 |lst q=>exact .lst (e.seq q)
 |tup q=>exact .tup (e.aV q)
 |dct q=>exact .dct (e _ _ q)
 |fn q c=>exact .fn q c
theorem wR {X:Cx}{scope:Scope}{x:Str}{σ:St}:Cap X scope [x] σ [none]:=⟨rfl,λi y v _ h2=>by
 cases i with
 |zero=>cases h2
 |succ i=>cases h2⟩
section
theorem aOh {X:Cx}{scope:Scope}{N:List Str}{wi:TI}{te:TE}{σ:St}{H:Hp}{Q:VK}(xs:List V)(f:V->V)(σ0:St)(cap:Cap X scope N σ σ0)(hsz:xs.length<=sizeLine)
  (hw:∀R:It->Hp->Prop,(∀J:It,(∀H' i x,Same H H'->xs[i]?=some x->J.go i H'/\∀y H2,J.yld i H' y H2->H2=H'/\y=x)->(∀H',Same H H'->J.stop xs.length H')->R J H)->wi σ H R)
  (he:∀x∈xs,∀H' R l,Same H H'->R (f x) H'->te ((σ0.set 0 l).set 0 (some x)) H' R) (h0:σ0[0]?=some none)
  (q:∀D,H D=none->Q (.ref D) (upd H D (.lst (xs.map f)))) :
  kZ X scope N wi (cB 0) nZ te σ H Q:=by
 refine⟨σ0,cap,hw _ λJ go stop D hD=>?_⟩;have sm:∀ys:List V,Same H (upd H D (.lst ys)):=λys b o e=>by rw[aN (aU e hD)];exact e
 refine⟨λi m σ' H' ys=>i<=xs.length/\m=xs.length - i/\(∃l,σ'=σ0.set 0 l)/\H'=upd H D (.lst ys)/\ys=(xs.take i).map f,⟨xs.length,bAE _,rfl,⟨none,?_⟩,rfl,rfl⟩,?_⟩
 ·refine (bB4 λj=>?_);rw[List.getElem?_set]
  split
  ·rename_i hj;subst hj
   split
   ·exact h0
   ·rename_i hlt;exact List.getElem?_eq_none_iff.mpr (by lia)
  ·rfl
 ·rintro i m σ' H' ys ⟨hi,rfl,⟨l,rfl⟩,rfl,rfl⟩;refine⟨aH,?_⟩;by_cases hlt:i<xs.length
  ·right;obtain⟨g1,g2⟩:=go (upd H D (.lst ((xs.take i).map f))) i xs[i] (sm _) (d7 hlt);refine⟨g1,λx H2 hy=>?_⟩;obtain⟨rfl,rfl⟩:=g2 x H2 hy;unfold cB nZ;dsimp only;rw[if_pos rfl];refine he xs[i] (bAT hlt) _ _ l (sm _) ⟨aH,?_,xs.length - (i+1),by lia,hlt,rfl,⟨some xs[i],?_⟩,?_,?_⟩
   ·rw[j9,bAM];lia
   ·rw[bB5]
   ·rw[aVp]
   ·rw[bBH,d7 hlt,bCQ];rfl
  ·left;have e:i=xs.length:=by lia
   subst e;refine⟨stop _ (sm _),?_⟩;rw[bCN];exact q D hD
theorem aXx {z:Str}{tl:TE}{σ:St}{H:Hp}(h:∀R:VK,R (.str z) H->tl σ H R)(R:It->Hp->Prop)
  (q:∀J:It,(∀H' i x,Same H H'->((List.range z.cps.size).map λi=>V.str (sgn z i))[i]?=some x->J.go i H'/\∀y H2,J.yld i H' y H2->H2=H'/\y=x) ->
   (∀H',Same H H'->J.stop ((List.range z.cps.size).map λi=>V.str (sgn z i)).length H')->R J H):aYz tl σ H R:=by
 refine h _ ⟨z,rfl,q _ (λH' i x _ e=>?_) λH' _=>?_⟩
 ·rw[v9] at e;have hi:i<z.cps.size:=by
   cases hr:(List.range z.cps.size)[i]? with
   |none=>rw[hr] at e;cases e
   |some j=>have:=(List.getElem?_eq_some_iff.mp hr).1;rwa [bAK] at this
  rw[bB8 hi] at e;cases e;exact⟨hi,λy H2 hy=>hy⟩
 ·rw[j9,bAK];exact j0 _
theorem aNt {K:bEX}{a:Addr}{xs:List V}{tl:TE}{σ:St}{H:Hp}(hS:∀H',Same H H'->SqL K H' a xs)(h:∀R:VK,R (.ref a) H->tl σ H R)(R:It->Hp->Prop)
  (q:∀J:It,(∀H' i x,Same H H'->xs[i]?=some x->J.go i H'/\∀y H2,J.yld i H' y H2->H2=H'/\y=x)->(∀H',Same H H'->J.stop xs.length H')->R J H):aEj K tl σ H R:=by
 refine h _ ⟨a,rfl,⟨xs,hS H (Same.refl H)⟩,q _ (λH' i x s e=>⟨⟨xs,x,hS H' s,e⟩,λy H2 hy=>?_⟩) λH' s=>⟨xs,hS H' s,j0 _⟩⟩;obtain⟨e1,e2⟩:=hy;have e3:=e2 xs (hS H' s);rw[e] at e3;cases e3;exact⟨e1,rfl⟩
end
end L2
namespace PySem
abbrev sS (t:Addr)(i:Nat):Obj:={ cls:=.type "tuple_iterator",data:=.fields #[.ref t,.int (i:Int) 0] }
abbrev jB (f0:Value)(TI TO:Addr):Obj:={ cls:=.type "zip",dict:=none,data:=.fields #[f0,.bool false,.bool false,.ref TI,.ref TO],slots:=#[] }
abbrev dM (a b:Value):Obj:={ cls:=.type "tuple",data:=.seq #[a,b] }
section
variable {prog:Program}{w:World}{A:Around}{E:bEY}{s:Shared}
theorem aA5 {it t:Addr}{i:Nat}{its:Array Value}{x:Value}{Q:bEY}(ho:s.heap.get? it=some (sS t i))(ht:s.heap.IsTuple t its)(hx:its[i]?=some x)
  (q:∀h',h'.get? it=some (sS t (i+1))->Heap.SameBut it s.heap h'->Q x { s with heap:=h' }):wpAny (model prog w) A (Builtin.SmallTypes.nextOf (.ref it)) Q E s:=by
 have hT:s.TypeIs (.ref it) "tuple_iterator":=⟨_,ho,rfl⟩;obtain⟨ol,hol,_,nl,hdl⟩:=ht;unfold Builtin.SmallTypes.nextOf;refine c7 (bAF (name:=Str.ofString "__next__") hT F.slot_tuple_iterator_next (bAD F.slot_tuple_iterator_next hT F.entry_tuple_iterator_next ?_ (F.args_tuple_iterator_next_1 _)));refine c7 (m:=field (.ref it) 0) (bAI ho rfl (x:=.ref t) rfl ?_);refine (if_neg (show ¬ ((Value.ref t == Value.none)=true) from t8)).symm ▸ ?_;refine c7 (m:=field (.ref it) 1) (bAI ho rfl (x:=.int i 0) rfl ?_);refine c7 (m:=seqItems? (.ref t)) (bAS hol hdl ?_);simp only[bAY,hx];refine c7 (bCZ ho rfl (by simp) (d9 ⟨x,rfl,d9 (q _ ?_ (bAZ ..))⟩));exact bBF _ ho rfl
theorem aBh {it t:Addr}{i:Nat}{its:Array Value}{Q:bEY}(hh:A.handled=none)(ho:s.heap.get? it=some (sS t i))(ht:s.heap.IsTuple t its)(hx:its[i]?=none)
  (q:∀h' e,Heap.ExtBut it s.heap h'->(∃o,h'.get? e=some o/\o.cls=.type "StopIteration")->E (.ref e) { s with heap:=h' }):wpAny (model prog w) A (Builtin.SmallTypes.nextOf (.ref it)) Q E s:=by
 have hT:s.TypeIs (.ref it) "tuple_iterator":=⟨_,ho,rfl⟩;obtain⟨ol,hol,_,nl,hdl⟩:=ht;unfold Builtin.SmallTypes.nextOf;refine c7 (bAF (name:=Str.ofString "__next__") hT F.slot_tuple_iterator_next (bAD F.slot_tuple_iterator_next hT F.entry_tuple_iterator_next ?_ (F.args_tuple_iterator_next_1 _)));refine c7 (m:=field (.ref it) 0) (bAI ho rfl (x:=.ref t) rfl ?_);refine (if_neg (show ¬ ((Value.ref t == Value.none)=true) from t8)).symm ▸ ?_;refine c7 (m:=field (.ref it) 1) (bAI ho rfl (x:=.int i 0) rfl ?_);refine c7 (m:=seqItems? (.ref t)) (bAS hol hdl ?_);simp only[bAY,hx];refine c7 (bCU (c7 (bCZ ho rfl (by simp) ?_)));unfold Builtin.SmallTypes.stopIteration;refine c7 ?_;simp only[newExc,newTuple];refine c7 (bAJ ?_ (by size_fits));refine c7 (m:=firstArgMember _ _) (bDT (a:=Value.none) (by first|rfl|(simp only[firstArgMember];rfl)) ?_);refine bAJ ?_ (by size_fits);simp only[raiseNew];refine c7 (bED ?_);first|rw[show A.in1.handled=none from hh]|rw[hh]
 refine c7 (d9 (bER ?_));exact q _ _ (((bAZ ..).extBut.push _).push _) ⟨_,j5 _ rfl,rfl⟩
structure oM (z TI TO a b:Addr):Prop where
 h1:TI≠z
 h2:TO≠z
 h3:a≠z
 h4:b≠z
 h5:TI≠TO
 h6:TI≠a
 h7:TI≠b
 h8:TO≠a
 h9:TO≠b
 h10:a≠b
theorem vQ {T:Addr}{a b x:Value}{k:Nat}{Q:Unit->Shared->Prop}(hT:s.heap.get? T=some (dM a b))
  (q:∀h',h'.get? T=some { cls:=.type "tuple",data:=.seq ((#[a,b]:Array Value).setIfInBounds k x) }->Heap.SameBut T s.heap h'->Q () { s with heap:=h' }) :
  wpAny (model prog w) A (updateSeq T (·.setIfInBounds k x)) Q E s:=by
 refine wpAny_updateSeq hT rfl (q _ ?_ (bAZ ..));rw[bBF _ hT rfl];simp[Obj.mapSeq]
theorem aPd {z TI TO i1 i2 t u:Addr}{k:Nat}{xs ys:Array Value}{x y a b:Value}{Q:Option Value->Shared->Prop}(D:oM z TI TO i1 i2)
  (hz:s.heap.get? z=some (jB .none TI TO)) (hTI:s.heap.get? TI=some (dM (.ref i1) (.ref i2))) (hTO:s.heap.get? TO=some (dM a b))
  (g1:s.heap.get? i1=some (sS t k)) (g2:s.heap.get? i2=some (sS u k)) (ht:s.heap.IsTuple t xs) (hu:s.heap.IsTuple u ys) (hx:xs[k]?=some x) (hy:ys[k]?=some y)
  (t1:t≠z) (t2:t≠TO) (t3:t≠i1) (t4:t≠i2) (u1:u≠z) (u2:u≠TO) (u3:u≠i1) (u4:u≠i2)
  (q:∀h',h'.get? z=some (jB (rawInt s.heap.objs.size) TI TO)->h'.get? TO=some (dM x y)->h'.get? i1=some (sS t (k+1))->h'.get? i2=some (sS u (k+1))->h'.get? s.heap.objs.size=some (dM x y) ->
   (∀c o,c≠z->c≠TO->c≠i1->c≠i2->s.heap.get? c=some o->h'.get? c=some o)->Q (some (.ref s.heap.objs.size)) { s with heap:=h' }) :
  wpAny (model prog w) A (pyNext (.ref z)) Q E s:=by
 have hT:s.TypeIs (.ref z) "zip":=⟨_,hz,rfl⟩;unfold pyNext;refine c7 (bBY (bAF (name:=Str.ofString "__next__") hT F.slot_zip_next (bAD F.slot_zip_next hT F.entry_zip_next ?_ (F.args_zip_next_1 _))));refine c7 (m:=field (.ref z) 2) (bAI hz rfl (x:=.bool false) rfl ?_);refine c7 (m:=field (.ref z) 3) (bAI hz rfl (x:=.ref TI) rfl (c7 (bAS hTI rfl ?_)));refine c7 (m:=Builtin.SmallTypes.ownedTupleIsFree (.ref z)) ?_;unfold Builtin.SmallTypes.ownedTupleIsFree;refine c7 (bAI hz rfl (x:=.none) rfl (d9 ?_));simp only[if_true];refine c7 (bCU (c7 (bAI hz rfl (x:=.ref TO) rfl (c7 (bAH hz (by simp) λh1 z1 s1=>?_)))));replace z1:h1.get? z=some (jB .ellipsis TI TO):=z1;refine c7 ?_;simp only[bDD,bDL,bCP,bDX];refine c7 (c7 (bCV ?_));refine c7 (m:=Builtin.SmallTypes.nextOf (.ref i1)) (aA5 (s:={ s with heap:=h1 }) (s1.extBut _ _ D.h3 g1) (ht.extBut s1.extBut t1) hx λh2 g12 s2=>d9 ?_);have TO2:h2.get? TO=some (dM a b):=s2.extBut _ _ D.h8 (s1.extBut _ _ D.h2 hTO);refine c7 (bAS TO2 rfl (c7 (vQ (s:={ s with heap:=h2 }) TO2 λh3 TO3 s3=>c7 (bEG (d9 ?_)))));replace TO3:h3.get? TO=some (dM x b):=TO3;refine c7 (c7 (bCV ?_));refine c7 (m:=Builtin.SmallTypes.nextOf (.ref i2)) (aA5 (s:={ s with heap:=h3 }) (s3.extBut _ _ D.h9.symm (s2.extBut _ _ D.h10.symm (s1.extBut _ _ D.h4 g2))) (((hu.extBut s1.extBut u1).extBut s2.extBut u3).extBut s3.extBut u2) hy λh4 g24 s4=>d9 ?_);have TO4:h4.get? TO=some (dM x b):=s4.extBut _ _ D.h9 TO3;refine c7 (bAS TO4 rfl (c7 (vQ (s:={ s with heap:=h4 }) TO4 λh5 TO5 s5=>c7 (bEG (d9 (d9 ?_))))));replace TO5:h5.get? TO=some (dM x y):=TO5;refine c7 (bAS TO5 rfl (c7 (bDY ?_)));have hsz:h5.objs.size=s.heap.objs.size:=by rw[s5.1,s4.1,s3.1,s2.1,s1.1]
 have z5:h5.get? z=some (jB .ellipsis TI TO):=s5.extBut _ _ D.h2.symm (s4.extBut _ _ D.h4.symm (s3.extBut _ _ D.h2.symm (s2.extBut _ _ D.h3.symm z1)));have kp:∀c o,c≠z->c≠TO->c≠i1->c≠i2->s.heap.get? c=some o->h5.get? c=some o:=λc o c1 c2 c3 c4 e=>s5.extBut _ _ c2 (s4.extBut _ _ c4 (s3.extBut _ _ c2 (s2.extBut _ _ c3 (s1.extBut _ _ c1 e))));have g15:h5.get? i1=some (sS t (k+1)):=s5.extBut _ _ D.h8.symm (s4.extBut _ _ D.h10 (s3.extBut _ _ D.h8.symm g12));have g25:h5.get? i2=some (sS u (k+1)):=s5.extBut _ _ D.h9.symm g24;refine c7 (m:=Builtin.SmallTypes.ownedTupleHandOut (.ref z) (.ref h5.objs.size)) ?_;unfold Builtin.SmallTypes.ownedTupleHandOut;have z6:(h5.push (dM x y)).get? z=some (jB .ellipsis TI TO):=d8 _ z5;refine c7 (bAH z6 (by simp) λh7 z7 s7=>?_);replace z7:h7.get? z=some (jB (rawInt h5.objs.size) TI TO):=z7;refine bAH z7 (by simp) λh8 z8 s8=>?_;replace z8:h8.get? z=some (jB (rawInt h5.objs.size) TI TO):=z8;have up:∀c o,c≠z->h5.get? c=some o->h8.get? c=some o:=λc o c1 e=>s8.extBut _ _ c1 (s7.extBut _ _ c1 (d8 _ e));have nz:h5.objs.size≠z:=bCL (m8 z5);have T8:h8.get? h5.objs.size=some (dM x y):=s8.extBut _ _ nz (s7.extBut _ _ nz (j5 _ rfl));rw[hsz] at z8 T8;refine d9 ⟨_,rfl,d9 ?_⟩;show Q (some (.ref h5.objs.size)) _;rw[hsz];exact q h8 z8 (up _ _ D.h2 TO5) (up _ _ D.h3 g15) (up _ _ D.h4 g25) T8 λc o c1 c2 c3 c4 e=>up c o c1 (kp c o c1 c2 c3 c4 e)
theorem aRk {z TI TO i1 i2 t:Addr}{k:Nat}{xs:Array Value}{a b:Value}{Q:Option Value->Shared->Prop}(hh:A.handled=none)(D:oM z TI TO i1 i2)
  (hz:s.heap.get? z=some (jB .none TI TO)) (hTI:s.heap.get? TI=some (dM (.ref i1) (.ref i2))) (hTO:s.heap.get? TO=some (dM a b))
  (g1:s.heap.get? i1=some (sS t k)) (ht:s.heap.IsTuple t xs) (hx:xs[k]?=none) (t1:t≠z)
  (q:∀h',(∀c o,c≠z->c≠TO->c≠i1->c≠i2->s.heap.get? c=some o->h'.get? c=some o)->Q none { s with heap:=h' }) :
  wpAny (model prog w) A (pyNext (.ref z)) Q E s:=by
 have hT:s.TypeIs (.ref z) "zip":=⟨_,hz,rfl⟩;unfold pyNext;refine c7 (bBY (bAF (name:=Str.ofString "__next__") hT F.slot_zip_next (bAD F.slot_zip_next hT F.entry_zip_next ?_ (F.args_zip_next_1 _))));refine c7 (m:=field (.ref z) 2) (bAI hz rfl (x:=.bool false) rfl ?_);refine c7 (m:=field (.ref z) 3) (bAI hz rfl (x:=.ref TI) rfl (c7 (bAS hTI rfl ?_)));refine c7 (m:=Builtin.SmallTypes.ownedTupleIsFree (.ref z)) ?_;unfold Builtin.SmallTypes.ownedTupleIsFree;refine c7 (bAI hz rfl (x:=.none) rfl (d9 ?_));simp only[if_true];refine c7 (bCU (c7 (bAI hz rfl (x:=.ref TO) rfl (c7 (bAH hz (by simp) λh1 z1 s1=>?_)))));replace z1:h1.get? z=some (jB .ellipsis TI TO):=z1;refine c7 ?_;simp only[bDD,bDL,bCP,bDX];refine c7 (c7 (bCV ?_));refine c7 (m:=Builtin.SmallTypes.nextOf (.ref i1)) (aBh (s:={ s with heap:=h1 }) hh (s1.extBut _ _ D.h3 g1) (ht.extBut s1.extBut t1) hx λh2 e s2 he=>?_);obtain⟨oe,hoe,hce⟩:=he;have z2:h2.get? z=some (jB .ellipsis TI TO):=s2 _ _ D.h3.symm z1;have hez:e≠z:=λx=>by subst x;rw[z2] at hoe;cases hoe;simp at hce
 refine bAH z2 (by simp) λh3 _ s3=>?_;refine c7 (bCO (T:="StopIteration") (b:=true) ⟨oe,s3.extBut _ _ hez hoe,hce⟩ isSubtype_stop ?_);exact d9 (q _ λc o c1 _ c3 _ x=>s3.extBut _ _ c1 (s2 _ _ c3 (s1.extBut _ _ c1 x)))
end
end PySem
namespace PySem
section
variable {prog:Program}{w:World}{A:Around}{E:bEY}{s:Shared}
abbrev zT1 (h:Heap)(t:Addr):Heap:=h.push (sS t 0)
abbrev zT2 (h:Heap)(t u:Addr):Heap:=(zT1 h t).push (sS u 0)
abbrev zT3 (h:Heap)(t u:Addr):Heap:=(zT2 h t u).push (dM (.ref h.objs.size) (.ref (zT1 h t).objs.size))
abbrev zT4 (h:Heap)(t u:Addr):Heap:=(zT3 h t u).push (dM .none .none)
abbrev zT5 (h:Heap)(t u:Addr):Heap:=(zT4 h t u).push (jB .none (zT2 h t u).objs.size (zT3 h t u).objs.size)
theorem aLm (t u:Addr)(xs ys:Array Value):Meets (Builtin.«zip.__new__» ⟨[.type "zip",.ref t,.ref u],[]⟩)
  (λ_ R s=>s.heap.IsTuple t xs/\s.heap.IsTuple u ys/\R (.ok (.ret (.ref (zT4 s.heap t u).objs.size))) { s with heap:=zT5 s.heap t u }):=
 .of_wp λprog w A R s h=>by
  obtain⟨hp,g,d,tk,os⟩:=s;obtain⟨a1,a2,h⟩:=h;have hsub:=sub_zip;have b1:Heap.IsTuple (Shared.heap ⟨hp,g,d,tk,os⟩) t xs:=a1;have b2:Heap.IsTuple (Shared.heap ⟨hp.push { cls:=.type "tuple_iterator",data:=.fields #[.ref t,.int 0 0] },g,d,tk,os⟩) u ys:=by obtain⟨o,ho,r⟩:=a2;exact⟨o,d8 _ ho,r⟩
  wp_walk using bEL b1,bEL b2;exact⟨_,rfl,h⟩
theorem aPm {t u:Addr}{xs ys:Array Value}{Q:bEY}(ht:s.heap.IsTuple t xs)(hu:s.heap.IsTuple u ys)(q:Q (.ref (zT4 s.heap t u).objs.size) { s with heap:=zT5 s.heap t u }) :
  wpAny (model prog w) A (call (.type "zip") [.ref t,.ref u]) Q E s:=by
 refine callType_new F.called_zip (by decide) (F.typeCall_zip_2 _ _) (F.newCall_zip_2 _ _) (λobj=>F.args_object_init_3 obj _ _) F.entry_zip_new (aLm t u xs ys) ⟨ht,hu,?_⟩;exact⟨⟨_,j5 _ rfl,rfl⟩,q⟩
end
end PySem
namespace L2
open PySem PySem.Spec PyProof.Rows
section
variable {X:Cx}{bE1:bEZ}{σ:St}{H:Hp}{s:Shared}
theorem Inv.tup_ne {t b:Addr}{xs:List V}(I:Inv X bE1 σ H s)(h:SqT X.K H t xs)(f:sV X bE1 H b):t≠b:=by
 rintro rfl;obtain⟨f0,f1,f2,f3,_⟩:=f;rcases h with (h|⟨o,h⟩)|⟨o,its,n,hk,_⟩
 ·rw[f0] at h;cases h
 ·rw[f0] at h;cases h
 ·have e:=I.ok.mod.kin t o hk;rcases f3 with z|z
  ·exact I.ok.noex t o e z
  ·exact absurd (bAA (m8 e) (bAL I.ok.bsz z)) (bBN _)
theorem Inv.drawn {ch:List Addr}{h':Heap}{vs:List V}{its:List Value}{T:Addr}(I:Inv X bE1 σ H s)(hch:∀b∈ch,sV X bE1 H b)(kp:∀b o,b∉ch->s.heap.get? b=some o->h'.get? b=some o)
  (hT:s.heap.objs.size<=T) (hv:Vals vs its) (hz:vs.length<=sizeLine) (ho:yW h' T its.toArray) (hth:∀b∈ch,∃o,h'.get? b=some o):Inv X bE1 σ (upd H T (.tup vs)) { s with heap:=h' }:=by
 have fT:H T=none:=I.hok.fresh hT;have nT:∀b o,s.heap.get? b=some o->b≠T:=λb o e=>v4 (bAA (m8 e) hT);have nch:∀b u,H b=some u->b∉ch:=λb u e z=>by rw[(hch b z).1] at e;cases e
 refine I.step (g':=s.gens) (d':=s.drawn) (t':=s.toks) (ch:=ch) (λb hb=>?_) (λb o _ _ hc e _=>kp b o hc e) (λb o _ _ hc e _=>⟨o.slots,kp b o hc e⟩) (λb o hc e n=>by rw[aN (nT b o e)];exact n)
  (λb o hc e=>⟨o,kp b o hc e⟩) (λb xs e=>by rw[aN (aU e fT)];exact e) (λb o u e=>by rw[aN (aU e fT)];exact e) (λb ps e=>⟨#[],by rw[aN (aU e fT),e];simp⟩) (λm hm=>?_) (λb u e=>?_) I.bare
 ·obtain⟨_,f1,_,f3,f4,f5⟩:=hch b hb;exact⟨f3,f1,f4,f5⟩
 ·obtain⟨o,es,ep,ho',r⟩:=hm;exact⟨o,es,ep,kp _ o (λz=>(hch _ z).2.1 rfl) ho',r⟩
 ·by_cases hb:b=T
  ·subst hb;rw[aH] at e;cases e;exact⟨hz,its,hv,ho⟩
  ·rw[aN hb] at e;refine (I.hok b u e).stay (λc v hc' q=>kp c v ?_ q) (λc q=>by rw[aN (aU q fT)];exact q) λc xs q=>by rw[aN (aU q fT)];exact q
   rcases hc' with z|z
   ·rw[z];exact nch b u e
   ·exact nch c _ z
theorem Inv.aEs {ch:List Addr}{h':Heap}(I:Inv X bE1 σ H s)(hch:∀b∈ch,sV X bE1 H b)(kp:∀b o,b∉ch->s.heap.get? b=some o->h'.get? b=some o):Inv X bE1 σ H { s with heap:=h' }:=by
 have nch:∀b u,H b=some u->b∉ch:=λb u e z=>by rw[(hch b z).1] at e;cases e
 refine I.step (g':=s.gens) (d':=s.drawn) (t':=s.toks) (ch:=ch) (λb hb=>?_) (λb o _ _ hc e _=>kp b o hc e) (λb o _ _ hc e _=>⟨o.slots,kp b o hc e⟩) (λ_ _ _ _ n=>n)
  (λb o hc e=>⟨o,kp b o hc e⟩) (λ_ _ e=>e) (λ_ _ _ e=>e) (λb ps e=>⟨#[],by rw[e];simp⟩) (λm hm=>?_) (λb u e=>?_) I.bare
 ·obtain⟨_,f1,_,f3,f4,f5⟩:=hch b hb;exact⟨f3,f1,f4,f5⟩
 ·obtain⟨o,es,ep,ho',r⟩:=hm;exact⟨o,es,ep,kp _ o (λz=>(hch _ z).2.1 rfl) ho',r⟩
 ·refine (I.hok b u e).stay (λc v hc' q=>kp c v ?_ q) (λ_ q=>q) λ_ _ q=>q;rcases hc' with z|z
  ·rw[z];exact nch b u e
  ·exact nch c _ z
end
def Itz (K:bEX)(t u:Addr)(xs ys:List V):It:=
 ⟨λi H=>SqT K H t xs/\SqT K H u ys/\i<xs.length/\i<ys.length,λi H v H'=>∃T a b,H T=none/\v=.ref T/\H'=upd H T (.tup [a,b])/\xs[i]?=some a/\ys[i]?=some b,λi H=>SqT K H t xs/\xs.length<=i⟩
def ztn (z TI TO i1 i2 t u:Addr)(i:Nat)(h:Heap):Prop:=
 h.get? z=some (jB .none TI TO)/\h.get? TI=some (dM (.ref i1) (.ref i2))/\(∃a b,h.get? TO=some (dM a b))/\h.get? i1=some (sS t i)/\h.get? i2=some (sS u i)
theorem aQg {P:Program}{w:World}{K:bEX}{elts:List Expr}{kt:Nat}{pos:Pos}{z TI TO i1 i2 t u:Addr}{xs ys:List V}(D:oM z TI TO i1 i2) :
  Turn P w K (.Tuple elts kt pos) (Itz K t u xs ys) [z,TI,TO,i1,i2] z (ztn z TI TO i1 i2 t u) where
 mem:=by simp
 obj:=λi h st b hb=>by
  obtain⟨e1,e2,⟨a,c,e3⟩,e4,e5⟩:=st;simp only[bAB,w6,or_false] at hb;rcases hb with rfl|rfl|rfl|rfl|rfl
  ·exact⟨_,e1,λv z=>by cases (show Data.fields _=Data.cell v from z)⟩
  ·exact⟨_,e2,λv z=>by cases (show Data.seq _ _=Data.cell v from z)⟩
  ·exact⟨_,e3,λv z=>by cases (show Data.seq _ _=Data.cell v from z)⟩
  ·exact⟨_,e4,λv z=>by cases (show Data.fields _=Data.cell v from z)⟩
  ·exact⟨_,e5,λv z=>by cases (show Data.fields _=Data.cell v from z)⟩
 keep:=λi h h' st k=>by obtain⟨e1,e2,⟨a,c,e3⟩,e4,e5⟩:=st;exact⟨k z (by simp) _ e1,k TI (by simp) _ e2,⟨a,c,k TO (by simp) _ e3⟩,k i1 (by simp) _ e4,k i2 (by simp) _ e5⟩
 item:=by
  intro X hP hw hK hc i bE1 s σ H E I hf st hg;subst hP hw hK;obtain⟨e1,e2,⟨a0,c0,e3⟩,e4,e5⟩:=st;obtain⟨ht,hu,l1,l2⟩:=hg;obtain⟨its,rv,pt,hz⟩:=I.tuple ht;obtain⟨jts,rw',pu,hz'⟩:=I.tuple hu;obtain⟨x,hx,rx⟩:=rv.get (d7 l1);obtain⟨y,hy,ry⟩:=rw'.get (d7 l2);have fz:=hf z (by simp);have fO:=hf TO (by simp);have f1:=hf i1 (by simp);have f2:=hf i2 (by simp);refine aPd D e1 e2 e3 e4 e5 (show s.heap.IsTuple t its.toArray from pt) (show s.heap.IsTuple u jts.toArray from pu) (by simpa using hx) (by simpa using hy) (I.tup_ne ht fz) (I.tup_ne ht fO) (I.tup_ne ht f1) (I.tup_ne ht f2)
   (I.tup_ne hu fz) (I.tup_ne hu fO) (I.tup_ne hu f1) (I.tup_ne hu f2) λh' a1 a2 a3 a4 a5 kp=>?_
  refine⟨_,rfl,?_⟩;have fT:H s.heap.objs.size=none:=I.hok.fresh (j0 _);have I1:Inv X bE1 σ (upd H s.heap.objs.size (.tup [xs[i],ys[i]])) { s with heap:=h' }:=by
   refine I.drawn (ch:=[z,TO,i1,i2]) (its:=[x,y]) (λb hb=>?_) (λb o hb e=>?_) (j0 _) (.cons rx (.cons ry .nil)) (small (by simp)) (.of a5 rfl ⟨_,a5,rfl,_,rfl⟩) (λb hb=>?_)
   ·refine hf b ?_;simp only[bAB,w6,or_false] at hb ⊢;rcases hb with h|h|h|h <;> simp[h]
   ·simp only[bAB,w6,or_false,not_or] at hb;exact kp b o hb.1 hb.2.1 hb.2.2.1 hb.2.2.2 e
   ·simp only[bAB,w6,or_false] at hb;rcases hb with rfl|rfl|rfl|rfl
    ·exact⟨_,a1⟩
    ·exact⟨_,a2⟩
    ·exact⟨_,a3⟩
    ·exact⟨_,a4⟩
  have nT:∀b∈[z,TI,TO,i1,i2],b≠s.heap.objs.size:=λb hb=>by
   have e:∃o,s.heap.get? b=some o:=by
    simp only[bAB,w6,or_false] at hb;rcases hb with rfl|rfl|rfl|rfl|rfl
    ·exact⟨_,e1⟩
    ·exact⟨_,e2⟩
    ·exact⟨_,e3⟩
    ·exact⟨_,e4⟩
    ·exact⟨_,e5⟩
   obtain⟨o,e⟩:=e;exact v4 (m8 e)
  refine bEQ (s:={ s with heap:=h' }) a1 λh2 z2 s2=>?_;obtain⟨g0,g1,g2,g3,g4,g5⟩:=fz;have I2:Inv X bE1 σ (upd H s.heap.objs.size (.tup [xs[i],ys[i]])) { s with heap:=h2 }:=Inv.turned (s:={ s with heap:=h' }) I1 (t':=s.toks) (it:=z) (λb o hb e=>(s2.2 b hb).trans e) (by rw[aN (nT z (by simp))];exact g0) g1 g3 g4 g5;refine⟨.ref s.heap.objs.size,_,I2,rfl,⟨_,_,_,fT,rfl,rfl,d7 l1,d7 l2⟩,?_,λb hb=>by rw[aN (nT b hb)];exact (hf b hb).1⟩;exact⟨z2,s2.extBut _ _ D.h1 (kp TI _ D.h1 D.h5 D.h6 D.h7 e2),⟨_,_,s2.extBut _ _ D.h2 a2⟩,s2.extBut _ _ D.h3 a3,s2.extBut _ _ D.h4 a4⟩
 done:=by
  intro X hP hw hK hc i bE1 s σ H E I hf st hg;subst hP hw hK;obtain⟨e1,e2,⟨a0,c0,e3⟩,e4,e5⟩:=st;obtain⟨ht,hl⟩:=hg;obtain⟨its,rv,pt,hz⟩:=I.tuple ht;have hlen:=rv.length;refine aRk (I.ok.hd hc) D e1 e2 e3 e4 (show s.heap.IsTuple t its.toArray from pt) (by simp;lia) (I.tup_ne ht (hf z (by simp))) λh' kp=>⟨rfl,?_⟩;refine Inv.aEs (ch:=[z,TO,i1,i2]) I (λb hb=>hf b ?_) λb o hb e=>?_
  ·simp only[bAB,w6,or_false] at hb ⊢;rcases hb with h|h|h|h <;> simp[h]
  ·simp only[bAB,w6,or_false,not_or] at hb;exact kp b o hb.1 hb.2.1 hb.2.2.1 hb.2.2.2 e
 self:=λ_ _ _ _ _ st h=>bD9 st.1 h
section
variable {X:Cx}
def aQ9 (K:bEX)(ta:TA):TI:=fun σ H R=>ta σ H λvs H1=>∃t u xs ys,vs=[.ref t,.ref u]/\SqT K H1 t xs/\SqT K H1 u ys/\R (Itz K t u xs ys) H1
theorem aUn {elts:List Expr}{kt:Nat}{tp:Pos}{a b:Expr}{ta:TA}{p pos:Pos}(hg:Gl X "zip")(hm:X.mg "zip"=none)(ha:PA X [a,b] ta)(hs:starEach [a,b] X.env=(false,eval a X.env)::starEach [b] X.env:=by rfl)
  (hs2:starEach [b] X.env=[(false,eval b X.env)]:=by rfl):PI X (.Tuple elts kt tp) (.Call (.Name "zip" p) [a,b] [] pos) (aQ9 X.K ta):=by
 intro bE1 s σ H R I h;refine Call_ (pR I hg hm aS9 (bBP (thn (ha pos bE1 s σ H _ I h) λus s1 ⟨vs,H1,I1,r1,q1⟩=>?_) hs (by rw[hs2];rfl)));obtain⟨t,u,xs,ys,e,ht,hu,q⟩:=q1;subst e;obtain⟨its,rv,pt,hz⟩:=I1.tuple ht;obtain⟨jts,rw',pu,hz'⟩:=I1.tuple hu;cases r1 with
 |cons r rr=>
  cases rr with
  |cons r' rr'=>
   cases rr';cases r;cases r';refine aPm (show s1.heap.IsTuple t its.toArray from pt) (show s1.heap.IsTuple u jts.toArray from pu) ?_;have z1:(zT1 s1.heap t).objs.size=s1.heap.objs.size+1:=bAX ..;have z2:(zT2 s1.heap t u).objs.size=s1.heap.objs.size+2:=by rw[bAX,z1]
   have z3:(zT3 s1.heap t u).objs.size=s1.heap.objs.size+3:=by rw[bAX,z2]
   have z4:(zT4 s1.heap t u).objs.size=s1.heap.objs.size+4:=by rw[bAX,z3]
   have D:oM (zT4 s1.heap t u).objs.size (zT2 s1.heap t u).objs.size (zT3 s1.heap t u).objs.size s1.heap.objs.size (zT1 s1.heap t).objs.size:=by constructor <;> (show (_:Nat)≠(_:Nat);rw[Ne];intro h;simp only[z1,z2,z3,z4] at h;lia)
   have g5:(zT5 s1.heap t u).get? (zT4 s1.heap t u).objs.size=some (jB .none (zT2 s1.heap t u).objs.size (zT3 s1.heap t u).objs.size):=j5 _ rfl;have g4:(zT5 s1.heap t u).get? (zT3 s1.heap t u).objs.size=some (dM .none .none):=d8 _ (j5 _ rfl);have g3:(zT5 s1.heap t u).get? (zT2 s1.heap t u).objs.size=some (dM (.ref s1.heap.objs.size) (.ref (zT1 s1.heap t).objs.size)):=d8 _ (d8 _ (j5 _ rfl));have g2:(zT5 s1.heap t u).get? (zT1 s1.heap t).objs.size=some (sS u 0):=d8 _ (d8 _ (d8 _ (j5 _ rfl)));have g1:(zT5 s1.heap t u).get? s1.heap.objs.size=some (sS t 0):=d8 _ (d8 _ (d8 _ (d8 _ (j5 _ rfl))));have I2:Inv X bE1 σ H1 { s1 with heap:=zT5 s1.heap t u }:=I1.kept (t':=s1.toks) λb o e=>d8 _ (d8 _ (d8 _ (d8 _ (d8 _ e))));refine bD9 (s:={ s1 with heap:=zT5 s1.heap t u }) g5 ⟨_,_,_,_,H1,rfl,I2,aQg (xs:=xs) (ys:=ys) D,⟨g5,g3,⟨_,_,g4⟩,g1,g2⟩,λb hb=>?_,q⟩;have hb':s1.heap.objs.size<=b:=by
    simp only[bAB,w6,or_false] at hb;rcases hb with rfl|rfl|rfl|rfl|rfl
    ·rw[z4];exact bBR ..
    ·rw[z2];exact bBR ..
    ·rw[z3];exact bBR ..
    ·exact j0 _
    ·rw[z1];exact bBR ..
   exact I1.aFp hb' (I1.hok.fresh hb')
inductive Tk (K:bEX)(H:Hp):V->Bool->Prop
 |int {i}:Tk K H (.int i) false
 |str {x}:Tk K H (.str x) false
 |bl {b}:Tk K H (.bl b) false
 |non:Tk K H .non false
 |lst {a xs}:SqL K H a xs->Tk K H (.ref a) false
 |dct {a kvs}:H a=some (.dK kvs)->Tk K H (.ref a) false
 |tup {a xs}:SqT K H a xs->Tk K H (.ref a) true
def bAn (K:bEX):List V->Hp->VK->Prop:=λxs H Q=>∃x b,xs=[x,.ty "tuple"]/\Tk K H x b/\Q (.bl b) H
theorem gZ:cI X (.builtin "isinstance") (bAn X.K):=by
 intro bE1 s σ H xs us Q I r h;obtain⟨x,b,rfl,hx,q⟩:=h;obtain⟨u,v,rfl,rx,rT⟩:=r.two;cases rT;have f0:EP X bE1 σ Q (.bool b) s:=⟨.bl _,H,I,rfl,q⟩;have f1:EP X bE1 σ Q (.bool b) { s with toks:=s.toks+1 }:=⟨.bl _,H,I.tok _,rfl,q⟩;cases hx with
 |int=>obtain⟨t,rfl⟩:=rx;exact IsiPair.int_tuple f1
 |str=>obtain⟨t,rfl⟩:=rx;exact IsiPair.str_tuple f1
 |bl=>cases rx;exact IsiPair.bool_tuple f1
 |non=>cases rx;exact IsiPair.NoneType_tuple f1
 |lst hq=>cases rx;obtain⟨its,rv,⟨o,n,e,c,_⟩,hz⟩:=I.list hq;exact IsiPair.list_tuple e c f1
 |dct hq=>cases rx;obtain⟨_,_,_,_,o,_,_,e,ex,_⟩:=I.hok _ _ hq;exact IsiPair.dict_tuple e ex.1 f1
 |tup hq=>cases rx;obtain⟨its,rv,⟨o,e,c,_⟩,hz⟩:=I.tuple hq;exact IsiPair.tuple_tuple e c f0
end
section
variable {X:Cx}{scope:Scope}{N:List Str}{wi:TI}{te:TE}{σ:St}{H:Hp}{Q:VK}
theorem lL {σ0:St}{j:Nat}(h0:σ0[j]?=some none):σ0=σ0.set j none:=by
 refine (bB4 λi=>?_);rw[List.getElem?_set]
 split
 ·rename_i hj;subst hj
  split
  ·exact h0
  ·rename_i hlt;exact List.getElem?_eq_none_iff.mpr (by lia)
 ·rfl
theorem aDi (xs:List V)(f:V->V)(σ0:St)(cap:Cap X scope N σ σ0)(hsz:xs.length<=sizeLine)
  (hw:∀R:It->Hp->Prop,(∀J:It,(∀H' i x,Same H H'->xs[i]?=some x->J.go i H'/\∀y H2,J.yld i H' y H2->H2=H'/\y=x)->(∀H',Same H H'->J.stop xs.length H')->R J H)->wi σ H R)
  (he:∀x∈xs,∀H' R l,Same H H'->(∀H2,Same H' H2->R (f x) H2)->te ((σ0.set 0 l).set 0 (some x)) H' R) (h0:σ0[0]?=some none)
  (q:∀D H',Same H H'->H' D=some (.lst (xs.map f))->Q (.ref D) H') :
  kZ X scope N wi (cB 0) nZ te σ H Q:=by
 refine⟨σ0,cap,hw _ λJ go stop D hD=>?_⟩;refine⟨λi m σ' H' ys=>i<=xs.length/\m=xs.length - i/\(∃l,σ'=σ0.set 0 l)/\Same H H'/\H' D=some (.lst ys)/\ys=(xs.take i).map f,⟨xs.length,bAE _,rfl,⟨none,lL h0⟩,aW hD _,aH,rfl⟩,?_⟩;rintro i m σ' H' ys ⟨hi,rfl,⟨l,rfl⟩,sm,hL,rfl⟩;refine⟨hL,?_⟩;by_cases hlt:i<xs.length
 ·right;obtain⟨g1,g2⟩:=go H' i xs[i] sm (d7 hlt);refine⟨g1,λx H2 hy=>?_⟩;obtain⟨rfl,rfl⟩:=g2 x H2 hy;unfold cB nZ;dsimp only;rw[if_pos rfl];refine he xs[i] (bAT hlt) _ _ l sm λH3 s3=>⟨s3 _ _ hL,?_,xs.length - (i+1),by lia,hlt,rfl,⟨some xs[i],?_⟩,?_,aH,?_⟩
  ·rw[j9,bAM];lia
  ·rw[bB5]
  ·intro b o e;rw[aN (aU e hD)];exact s3 _ _ (sm _ _ e)
  ·rw[bBH,d7 hlt,bCQ];rfl
 ·left;have e:i=xs.length:=by lia
  subst e;refine⟨stop _ sm,?_⟩;rw[bCN] at hL;exact q D _ sm hL
theorem aTd {K:bEX}{tl:TA}{t u:Addr}(xs ys:List V)(f:V->V->V)(σ0:St)(cap:Cap X scope N σ σ0)(hsz:xs.length<=sizeLine)(hl:xs.length=ys.length)
  (ht:SqT K H t xs) (hu:SqT K H u ys) (hw:∀R:List V->Hp->Prop,R [.ref t,.ref u] H->tl σ H R)
  (he:∀(i:Nat) (x y:V),xs[i]?=some x->ys[i]?=some y->∀H' R l1 l2,Same H H'->(∀H2,Same H' H2->R (f x y) H2)->te ((((σ0.set 0 l1).set 1 l2).set 0 (some x)).set 1 (some y)) H' R) (h0:σ0[0]?=some none) (h1:σ0[1]?=some none)
  (q:∀D H',Same H H'->H' D=some (.lst (List.zipWith f xs ys))->Q (.ref D) H') :
  kZ X scope N (aQ9 K tl) (aJ3 K 2 (tO (cB 0) (tO (cB 1) aP8))) nZ te σ H Q:=by
 refine⟨σ0,cap,hw _ ⟨t,u,xs,ys,rfl,ht,hu,λD hD=>?_⟩⟩;refine⟨λi m σ' H' zs=>i<=xs.length/\m=xs.length - i/\(∃l1 l2,σ'=(σ0.set 0 l1).set 1 l2)/\Same H H'/\H' D=some (.lst zs)/\zs=(List.zipWith f xs ys).take i,⟨xs.length,bAE _,rfl,⟨none,none,?_⟩,aW hD _,aH,rfl⟩,?_⟩
 ·rw[<-lL h0];exact lL h1
 rintro i m σ' H' zs ⟨hi,rfl,⟨l1,l2,rfl⟩,sm,hL,rfl⟩;refine⟨hL,?_⟩;by_cases hlt:i<xs.length
 ·right;refine⟨⟨sm.aV ht,sm.aV hu,hlt,by lia⟩,λv H2 hy=>?_⟩;obtain⟨T,a,b,hT,rfl,rfl,ha,hb⟩:=hy;have s2:Same H' (upd H' T (.tup [a,b])):=aW hT _;refine⟨T,[a,b],rfl,.inl (.inl aH),rfl,a,[b],rfl,b,[],rfl,rfl,?_⟩;unfold nZ;dsimp only;rw[if_pos rfl];refine he i a b ha hb _ _ l1 l2 (λb o e=>s2 _ _ (sm _ _ e)) λH3 s3=>⟨s3 _ _ (s2 _ _ hL),?_,xs.length - (i+1),by lia,hlt,rfl,⟨some a,some b,?_⟩,?_,aH,?_⟩
  ·rw[bAM,bEI];lia
  ·rw[List.set_comm _ _ (show (1:Nat)≠0 by decide),bB5,bB5]
  ·intro c o e;rw[aN (aU e hD)];exact s3 _ _ (s2 _ _ (sm _ _ e))
  ·rw[bBH,List.getElem?_zipWith,ha,hb];rfl
 ·left;have e:i=xs.length:=by lia
  subst e;refine⟨⟨sm.aV ht,j0 _⟩,?_⟩;rw[bAW (by rw[bEI];lia)] at hL;exact q D _ sm hL
theorem aJz {K:bEX}{a:Addr}{xs:List V}{tl:TE}(hS:SqT K H a xs)(h:∀R:VK,R (.ref a) H->tl σ H R)(R:It->Hp->Prop)
  (q:∀J:It,(∀H' i x,Same H H'->xs[i]?=some x->J.go i H'/\∀y H2,J.yld i H' y H2->H2=H'/\y=x)->(∀H',Same H H'->J.stop xs.length H')->R J H):aV0 K tl σ H R:=by
 refine h _ ⟨a,rfl,⟨xs,hS⟩,q _ (λH' i x s e=>⟨⟨xs,x,s.aV hS,e⟩,λy H2 hy=>?_⟩) λH' s=>⟨xs,s.aV hS,j0 _⟩⟩;obtain⟨e1,e2⟩:=hy;have e3:=e2 xs (s.aV hS);rw[e] at e3;cases e3;exact⟨e1,rfl⟩
end
section
variable {κ:Type}[DecidableEq κ]
def rA (kvs:List (κ × V))(k:κ):Option V:=(kvs.find? λkv=>decide (kv.1=k)).map (·.2)
def putK (kvs:List (κ × V))(k:κ)(v:V):List (κ × V):=
 if (kvs.any λkv=>decide (kv.1=k))=true then kvs.map (λkv=>if kv.1=k then (kv.1,v) else kv) else kvs++[(k,v)]
theorem pX {p:κ × V}{r:List (κ × V)}{k:κ}(e:p.1=k):rA (p::r) k=some p.2:=by simp[rA,bCA,e]
theorem vN {p:κ × V}{r:List (κ × V)}{k:κ}(e:¬ p.1=k):rA (p::r) k=rA r k:=by simp[rA,bCA,e]
theorem vL (k:κ):∀kvs:List (κ × V),(kvs.any λkv=>decide (kv.1=k))=(rA kvs k).isSome
 |[]=>rfl
 |p::r=>by
  rw[bEC];by_cases e:p.1=k
  ·simp only[pX e,t6 e,Bool.true_or,Option.isSome_some]
  ·rw[vN e,v8 e,Bool.false_or];exact vL k r
theorem qF (kvs:List (κ × V))(k:κ)(v:V):(putK kvs k v).length<=kvs.length+1:=by
 unfold putK
 split
 ·rw[j9];lia
 ·rw[bAG,v7,bCK];lia
theorem aR5 {kvs:List (κ × V)}{k:κ}(v:V)(h:rA kvs k=none):putK kvs k v=kvs++[(k,v)]:=by unfold putK;rw[vL,h];exact if_neg (by decide)
theorem pQ.oE {o:Option V}{u:Option Value}(r:pQ o u):o.isSome=u.isSome:=by
 cases o with
 |none=>cases u with
  |none=>rfl
  |some _=>exact (show False from r).elim
 |some _=>cases u with
  |none=>exact (show False from r).elim
  |some _=>rfl
theorem pQ.getD {o:Option V}{u:Option Value}{d:V}{d':Value}(r:pQ o u)(rd:RelV d d'):RelV (o.getD d) (u.getD d'):=by
 cases o with
 |none=>cases u with
  |none=>exact rd
  |some _=>exact (show False from r).elim
 |some _=>cases u with
  |none=>exact (show False from r).elim
  |some _=>exact r
theorem KV.val {kvs:List (κ × V)}{vs:List (κ × Value)}(r:KV kvs vs)(k:κ):pQ (rA kvs k) (valueAt vs k):=by
 unfold KV at r
 induction r with
 |nil=>exact True.intro
 |@cons p q ps qs h t ih=>
  obtain⟨h1,h2⟩:=h;by_cases e:p.1=k
  ·have e':q.1=k:=h1.symm.trans e;have b:valueAt (q::qs) k=some q.2:=by simp[valueAt,bCA,e']
   rw[pX e,b];exact h2
  ·have e':¬ q.1=k:=λz=>e (h1.trans z);have b:valueAt (q::qs) k=valueAt qs k:=by simp[valueAt,bCA,e']
   rw[vN e,b];exact ih
theorem KV.any {kvs:List (κ × V)}{vs:List (κ × Value)}(r:KV kvs vs)(k:κ):(kvs.any λkv=>decide (kv.1=k))=vs.any λkv=>decide (kv.1=k):=by
 unfold KV at r
 induction r with
 |nil=>rfl
 |cons h t ih=>rw[bEC,bEC,ih,h.1]
theorem KV.repl {kvs:List (κ × V)}{vs:List (κ × Value)}(r:KV kvs vs)(k:κ){y:V}{u:Value}(ry:RelV y u) :
  KV (kvs.map λkv=>if kv.1=k then (kv.1,y) else kv) (vs.map λkv=>if kv.1=k then (kv.1,u) else kv):=by
 unfold KV at r ⊢
 induction r with
 |nil=>exact .nil
 |@cons p q ps qs h t ih=>
  rw[bAV,bAV];refine .cons ?_ ih;obtain⟨h1,h2⟩:=h;by_cases e:p.1=k
  ·rw[if_pos e,if_pos (h1.symm.trans e)];exact⟨h1,ry⟩
  ·rw[if_neg e,if_neg (λz=>e (h1.trans z))];exact⟨h1,h2⟩
theorem KV.put {kvs:List (κ × V)}{vs:List (κ × Value)}(r:KV kvs vs)(k:κ){y:V}{u:Value}(ry:RelV y u):KV (putK kvs k y) (stored vs k u):=by
 unfold putK stored;rw[r.any k];by_cases e:(vs.any λkv=>decide (kv.1=k))=true
 ·rw[if_pos e,if_pos e];exact r.repl k ry
 ·rw[if_neg e,if_neg e];exact Paired.snoc r ⟨rfl,ry⟩
theorem KV.length {kvs:List (κ × V)}{vs:List (κ × Value)}(r:KV kvs vs):kvs.length=vs.length:=Paired.length r
end
theorem yQ {P:Program}{w:World}{k:Key}{u:Value}(r:RelV (kV k) u):(bL P w).is k u=true:=by
 cases k with
 |inl i=>obtain⟨t,e⟩:=(show ∃t,u=Value.int i t from r);subst e;exact aIf P w i t
 |inr x=>obtain⟨t,e⟩:=(show ∃t,u=Value.str x t from r);subst e;exact aH5 P w x t
theorem aXq {a b:Key}(e:kV a=kV b):a=b:=by
 cases a with
 |inl i=>cases b with
  |inl j=>have e':V.int i=V.int j:=e;injection e' with e';rw[e']
  |inr y=>exact nomatch (show V.int i=V.str y from e)
 |inr x=>cases b with
  |inl j=>exact nomatch (show V.str x=V.int j from e)
  |inr y=>have e':V.str x=V.str y:=e;injection e' with e';rw[e']
theorem aDp {P:Program}{w:World}:∀{ks:List Key} {us:List Value},Vals (ks.map kV) us->ItemsAre (bL P w) ks us
 |[],_,r=>by rw[List.map_nil] at r;cases r;exact .nil
 |k::ks,_,r=>by
  rw[bAV] at r;cases r with
  |cons h t=>exact .cons (yQ h) (aDp t)
abbrev KT (H:Hp):List (List Key × V)->List (List Key × Addr × Value)->Prop:=Paired λp q=>p.1=q.1/\H q.2.1=some (.tup (p.1.map kV))/\RelV p.2 q.2.2
theorem KT.val {H:Hp}{kvs:List (List Key × V)}{xs:List (List Key × Addr × Value)}(r:KT H kvs xs)(k:List Key):pQ (rA kvs k) ((atKey xs k).map (·.2)):=by
 induction r with
 |nil=>exact True.intro
 |@cons p q ps qs h t ih=>
  obtain⟨h1,_,h2⟩:=h;by_cases e:p.1=k
  ·have e':q.1=k:=h1.symm.trans e;have b:atKey (q::qs) k=some q.2:=by simp[atKey,bCA,e']
   rw[pX e,b];exact h2
  ·have e':¬ q.1=k:=λz=>e (h1.trans z);have b:atKey (q::qs) k=atKey qs k:=by simp[atKey,bCA,e']
   rw[vN e,b];exact ih
theorem KT.repl {H:Hp}{kvs:List (List Key × V)}{xs:List (List Key × Addr × Value)}(r:KT H kvs xs)(k:List Key){y:V}{u:Value}(ry:RelV y u) :
  KT H (kvs.map λkv=>if kv.1=k then (kv.1,y) else kv) (xs.map (putAt k u)):=by
 induction r with
 |nil=>exact .nil
 |@cons p q ps qs h t ih=>
  rw[bAV,bAV];refine .cons ?_ ih;obtain⟨h1,h2,h3⟩:=h;unfold putAt;by_cases e:p.1=k
  ·rw[if_pos e,if_pos (h1.symm.trans e)];exact⟨h1,h2,ry⟩
  ·rw[if_neg e,if_neg (λz=>e (h1.trans z))];exact⟨h1,h2,h3⟩
theorem KT.put {H:Hp}{kvs:List (List Key × V)}{xs:List (List Key × Addr × Value)}(r:KT H kvs xs)(k:List Key){b:Addr}{y:V}{u:Value}(hb:H b=some (.tup (k.map kV)))(ry:RelV y u) :
  KT H (putK kvs k y) (storedH xs k b u):=by
 have e:(kvs.any λkv=>decide (kv.1=k))=(atKey xs k).isSome:=by rw[vL,(r.val k).oE,bES]
 unfold putK storedH;rw[e];by_cases q:(atKey xs k).isSome=true
 ·rw[if_pos q,if_pos q];exact r.repl k ry
 ·rw[if_neg q,if_neg q];exact Paired.snoc r ⟨rfl,hb,ry⟩
theorem KT.keeps {H H':Hp}{kvs:List (List Key × V)}{xs:List (List Key × Addr × Value)}(r:KT H kvs xs)(ht:∀b ys,H b=some (.tup ys)->H' b=some (.tup ys)):KT H' kvs xs:=
 Paired.aZx r λ_ _ z=>⟨z.1,ht _ _ z.2.1,z.2.2⟩
section
variable {P:Program}{w:World}{H:Hp}{h:Heap}{a:Addr}
theorem aXf {u:HO}(ok:HOk P w H h)(e:Rd H a u):dH P w H h a u:=e.ok ok
theorem aBj {kvs:List (Key × V)}(ok:HOk P w H h)(e:Rd H a (.dK kvs)):kvs.length<=sizeLine/\(a == sysModules)=false/\∃vs,KV kvs vs/\h.DictOf (bL P w) a vs:=
 show dH P w H h a (.dK kvs) from aXf ok e
theorem aNj {kvs:List (Key × V)}(ok:HOk P w H h)(e:H a=some (.dK kvs)):kvs.length<=sizeLine/\(a == sysModules)=false/\∃vs,KV kvs vs/\h.DictOf (bL P w) a vs:=aBj ok (.inl e)
theorem xG {ks:List Key}(ok:HOk P w H h)(e:H a=some (.tup (ks.map kV))):(tupleKind (bL P w)).is h ks a:=by obtain⟨_,its,r,⟨o,h1,h2,n,h3⟩,_⟩:=(show dH P w H h a (.tup (ks.map kV)) from ok a _ e);exact⟨o,its.toArray,n,h1,h2,h3,by simpa using aDp r⟩
theorem aBn {kvs:List (List Key × V)}(ok:HOk P w H h)(e:Rd H a (.dT kvs)):kvs.length<=sizeLine/\(a == sysModules)=false /\
  ∃xs,KT H kvs xs/\h.DictOfH (tupleKind (bL P w)) a xs:=by
 obtain⟨z,y,xs,r,o,es,ep,h1,h2,h3,h4,h5⟩:=(show dH P w H h a (.dT kvs) from aXf ok e);refine⟨z,y,xs,r,o,es,ep,h1,h2,h3,h4,λx hx=>?_,h5⟩;have all:∀{l:List (List Key × V)} {m:List (List Key × Addr × Value)},KT H l m->∀x∈m,(tupleKind (bL P w)).is h x.1 x.2.1:=by
  intro l m q
  induction q with
  |nil=>intro x hx;exact nomatch hx
  |@cons p q ps qs hq t ih=>
   intro x hx;rcases List.mem_cons.mp hx with e|hx
   ·subst e;exact xG ok (by rw[<-hq.1];exact hq.2.1)
   ·exact ih x hx
 exact all r x hx
theorem bAg {kvs:List (List Key × V)}(ok:HOk P w H h)(e:H a=some (.dT kvs)):kvs.length<=sizeLine/\(a == sysModules)=false /\
  ∃xs,KT H kvs xs/\h.DictOfH (tupleKind (bL P w)) a xs:=aBn ok (.inl e)
end
def aEw (H:Hp)(a:Addr)(y:V)(r:Option V):Prop:=
 (∃kvs k,Rd H a (.dK kvs)/\y=kV k/\r=rA kvs k)\/∃kvs k b,Rd H a (.dT kvs)/\y=.ref b/\H b=some (.tup (k.map kV))/\r=rA kvs k
def aOn (H:Hp)(a:Addr)(y v:V)(H':Hp):Prop:=
 (∃kvs k,H a=some (.dK kvs)/\y=kV k/\kvs.length<sizeLine/\H'=upd H a (.dK (putK kvs k v))) \/
 ∃kvs k b,H a=some (.dT kvs)/\y=.ref b/\H b=some (.tup (k.map kV))/\kvs.length<sizeLine/\H'=upd H a (.dT (putK kvs k v))
theorem aOn.k {H:Hp}{a:Addr}{kvs:List (Key × V)}{k:Key}{v:V}(e:H a=some (.dK kvs))(hl:kvs.length<sizeLine):aOn H a (kV k) v (upd H a (.dK (putK kvs k v))):=.inl ⟨kvs,k,e,rfl,hl,rfl⟩
section
variable {X:Cx}{bE1:bEZ}{σ:St}{H:Hp}{s:Shared}{a:Addr}{y v:V}{u r:Value}{o:Option V}{A:Around}{E:bEY}
theorem Inv.big (I:Inv X bE1 σ H s):sysModules<s.heap.objs.size:=by have h:mainGlobals<s.heap.objs.size:=(I.mod.glob.keeps I.bk).lt;exact bDZ (by decide) h
theorem aOs {Q:bEY}(hu:A.units+1<cLine)(I:Inv X bE1 σ H s)(g:aEw H a y (some v))(ry:RelV y u)(h:∀w' s',Inv X bE1 σ H s'->RelV v w'->Q w' s') :
  wpAny (model X.prog X.w) A (getItem (.ref a) u) Q E s:=by
 rcases g with⟨kvs,k,e,ey,l⟩|⟨kvs,k,b,e,ey,eb,l⟩
 ·subst ey;obtain⟨z,hd,vs,rel,dd⟩:=aBj I.hok e;obtain⟨w',hw,rw'⟩:=pQ.some_of (v:=v) (o:=valueAt vs k) (by rw[l];exact rel.val k);exact wpAny_getItem_of (yQ ry) dd.mapOf hw (h w' _ (I.tok _) rw')
 ·subst ey;cases (show u=Value.ref b from ry);obtain⟨z,hd,xs,rel,dd⟩:=aBn I.hok e;obtain⟨w',hw,rw'⟩:=pQ.some_of (v:=v) (o:=(atKey xs k).map (·.2)) (by rw[l];exact rel.val k);obtain⟨p,hp,hp2⟩:=Option.map_eq_some_iff.mp hw;refine wpAny_getItem_heap (tupleKind_room_in1 hu) (xG I.hok eb) dd hp ?_;rw[hp2];exact h w' _ (I.tok _) rw'
theorem bBv {Q:bEY}(hu:A.units+1<cLine)(I:Inv X bE1 σ H s)(g:aEw H a y o)(ry:RelV y u)(h:∀s',Inv X bE1 σ H s'->Q (.bool o.isSome) s') :
  wpAny (model X.prog X.w) A (compareOp .In u (.ref a)) Q E s:=by
 rcases g with⟨kvs,k,e,ey,l⟩|⟨kvs,k,b,e,ey,eb,l⟩
 ·subst ey;obtain⟨z,hd,vs,rel,dd⟩:=aBj I.hok e;refine wpAny_in_of (yQ ry) hd dd.mapOf ?_;rw[<-(rel.val k).oE,<-l];exact h _ (I.tok _)
 ·subst ey;cases (show u=Value.ref b from ry);obtain⟨z,hd,xs,rel,dd⟩:=aBn I.hok e;refine wpAny_in_heap (tupleKind_room_in1 hu) (xG I.hok eb) hd dd ?_;have q:=(rel.val k).oE;rw[bES] at q;rw[<-q,<-l];exact h _ (I.tok _)
theorem aVq {Q:bEY}(hu:A.units+1<cLine)(I:Inv X bE1 σ H s)(g:aEw H a y o)(ry:RelV y u)(h:∀s',Inv X bE1 σ H s'->Q (.bool (!o.isSome)) s') :
  wpAny (model X.prog X.w) A (compareOp .NotIn u (.ref a)) Q E s:=by
 rcases g with⟨kvs,k,e,ey,l⟩|⟨kvs,k,b,e,ey,eb,l⟩
 ·subst ey;obtain⟨z,hd,vs,rel,dd⟩:=aBj I.hok e;refine wpAny_notIn_of (yQ ry) hd dd.mapOf ?_;rw[<-(rel.val k).oE,<-l];exact h _ (I.tok _)
 ·subst ey;cases (show u=Value.ref b from ry);obtain⟨z,hd,xs,rel,dd⟩:=aBn I.hok e;refine wpAny_notIn_heap (tupleKind_room_in1 hu) (xG I.hok eb) hd dd ?_;have q:=(rel.val k).oE;rw[bES] at q;rw[<-q,<-l];exact h _ (I.tok _)
theorem aF9 {h':Heap}{t':Nat}{ob:HO}(I:Inv X bE1 σ H s)(mu:Mut (H a))(hs:Heap.SameBut a s.heap h')(he:∃q,h'.get? a=some q)(new:dH X.prog X.w (upd H a ob) h' a ob) :
  Inv X bE1 σ (upd H a ob) { s with heap:=h',toks:=t' }:=
 I.write (x:=a) (e:=a) mu (.inl rfl) (λb q hb z=>(hs.2 b hb).trans z) he new
theorem aQi {P:Program}{w:World}{H':Hp}{h':Heap}{kvs:List (Key × V)}{vs:List (Key × Value)}(z:kvs.length<=sizeLine)(hd:(a == sysModules)=false)(rel:KV kvs vs)(dd:h'.DictOf (bL P w) a vs) :
  dH P w H' h' a (.dK kvs):=⟨z,hd,vs,rel,dd⟩
theorem aOc {H':Hp}{Q:Unit->Shared->Prop}(hu:A.units+1<cLine)(I:Inv X bE1 σ H s)(g:aOn H a y v H')(ry:RelV y u)(rv:RelV v r)(h:∀s',Inv X bE1 σ H' s'->Q () s') :
  wpAny (model X.prog X.w) A (setItem (.ref a) u r) Q E s:=by
 rcases g with⟨kvs,k,e,ey,l,eH⟩|⟨kvs,k,b,e,ey,eb,l,eH⟩
 ·subst ey eH;obtain⟨z,hd,vs,rel,dd⟩:=aNj I.hok e;have hz:vs.length<=sizeLine:=by rw[<-rel.length];exact z
  have hl:(putK kvs k v).length<=sizeLine:=by have:=qF kvs k v;lia
  refine wpAny_setItem_pairs (hsz:=hz) (yQ ry) dd λh' dd' hs=>h _ ?_;have he:∃q,h'.get? a=some q:=let ⟨q,_,_,hq,_⟩:=dd';⟨q,hq⟩
  exact aF9 I (by rw[e];exact True.intro) hs he (aQi hl hd (rel.put k rv) dd')
 ·subst ey eH;cases (show u=Value.ref b from ry);obtain⟨z,hd,xs,rel,dd⟩:=bAg I.hok e;have hz:xs.length<=sizeLine:=by rw[<-Paired.length rel];exact z
  have hl:(putK kvs k v).length<=sizeLine:=by have:=qF kvs k v;lia
  refine wpAny_setItem_heap (hsz:=hz) (tupleKind_room_in1 hu) (xG I.hok eb) dd λh' dd' hs=>h _ ?_;obtain⟨q,es,ep,hq,h2,h3,h4,_,h5⟩:=dd';refine aF9 I (by rw[e];exact True.intro) hs ⟨q,hq⟩ ⟨hl,hd,_,(rel.put k eb rv).keeps λc ys ec=>?_,q,es,ep,hq,h2,h3,h4,h5⟩;rw[aN (aIq ec e (λz=>nomatch z))];exact ec
end
section
variable {X:Cx}{bE1:bEZ}{σ:St}{H:Hp}{s:Shared}{a:Addr}{kvs:List (Key × V)}{k:Key}{u:Value}{A:Around}{E:bEY}
end
def aZw (i:Expr):Prop:=∀ov iv,subscripted i false ov iv=operate [ov,iv] (getItem ov iv)
theorem aVh {prog:Program}{w:World}{A:Around}{E:bEY}{s:Shared}{env:Env}{value slice:Expr}{pos:Pos}{T id:String}{Q:bEY}
  (hl:typeLookup (.type T) "__getitem__"=pure (some (.builtin id))) (hs:aZw slice)
  (h:wpAny (model prog w) A (eval value env) (λo s₁=>wpAny (model prog w) A (eval slice env) (λi s₂=>s₂.TypeIs o T/\wpAny (model prog w) A (getItem o i) Q E s₂) E s₁) E s) :
  wpAny (model prog w) A (eval (.Subscript value slice pos) env) Q E s:=by
 refine Subscript_ (bBL h (λo s₁ h₁=>bBL h₁ (λi s₂ h₂=>?_) λ_ _ x=>x) λ_ _ x=>x);obtain⟨hT,h₂⟩:=h₂;unfold subscriptTail;refine c7 ?_;rw[getitemInPython_of_ne hT.not_modules];refine c7 (wpAny_specialOf hT hl ?_);have fin:wpAny (model prog w) A (subscripted slice false o i) (λr s₃=>wpAny (model prog w) A (letTemporaryGo value o r >>= λ_=>pure r) Q E s₃) E s₂:=by rw[hs o i];exact wpAny_operating (bBL h₂ (λr s₃ h₃=>c7 (wpAny_letTemporaryGo (d9 h₃))) λ_ _ x=>x)
 first
  |exact d9 (c7 fin)
  |exact c7 (d9 (c7 fin))
  |exact c7 fin
theorem aHp {X:Cx}{bE1:bEZ}{σ:St}{H:Hp}{s:Shared}{a:Addr}{y:V}{o:Option V}(I:Inv X bE1 σ H s)(g:aEw H a y o):s.TypeIs (.ref a) "dict":=by
 rcases g with⟨kvs,k,e,_,_⟩|⟨kvs,k,b,e,_,_,_⟩
 ·obtain⟨_,_,vs,_,dd⟩:=aBj I.hok e;exact dd.typeIs
 ·obtain⟨_,_,xs,_,dd⟩:=aBn I.hok e;exact dd.typeIs
def aW5 (td ty:TE):TE:=fun σ H Q=>td σ H λx H1=>ty σ H1 λy H2=>∃a v,x=.ref a/\aEw H2 a y (some v)/\Q v H2
def bAd (ty td:TE):TE:=fun σ H Q=>ty σ H λy H1=>td σ H1 λx H2=>∃a o,x=.ref a/\aEw H2 a y o/\Q (.bl o.isSome) H2
def aNa (ty td:TE):TE:=fun σ H Q=>ty σ H λy H1=>td σ H1 λx H2=>∃a o,x=.ref a/\aEw H2 a y o/\Q (.bl (!o.isSome)) H2
def aWt (td ty tv:TE):TS:=λD σ H=>tv σ H λv H1=>td σ H1 λx H2=>ty σ H2 λy H3=>∃a H4,x=.ref a/\aOn H3 a y v H4/\D.nx σ H4
section
variable {X:Cx}{o i e value:Expr}{pos pos' tpos:Pos}{td ty tv:TE}
theorem aVr (hu:X.A.units+1<cLine)(ho:PE X o td)(hi:PE X i ty)(hs:aZw i):PE X (.Subscript o i pos) (aW5 td ty):=by intro bE1 s σ H Q I h;refine aVh PySem.F.slot_dict_getitem.lookup hs (thn (ho bE1 s σ H _ I h) λu s1 ⟨x,H1,I1,rx,q1⟩=>thn (hi bE1 s1 σ H1 _ I1 q1) λiv s2 ⟨y,H2,I2,ry,a,v,ex,g,q2⟩=>?_);subst ex;obtain rfl:u=Value.ref a:=rx;exact⟨aHp I2 g,aOs hu I2 g ry λw' s3 I3 rw'=>⟨v,H2,I3,rw',q2⟩⟩
theorem aYs (hu:X.A.units+1<cLine)(hi:PE X i ty)(ho:PE X o td):PC X .In i o (bAd ty td):=by intro bE1 s σ H Q I h;refine thn (hi bE1 s σ H _ I h) λiv s1 ⟨y,H1,I1,ry,q1⟩=>thn (ho bE1 s1 σ H1 _ I1 q1) λu s2 ⟨x,H2,I2,rx,a,ov,ex,g,q2⟩=>?_;subst ex;obtain rfl:u=Value.ref a:=rx;exact bBv hu I2 g ry λs3 I3=>⟨.bl ov.isSome,H2,I3,rfl,q2⟩
theorem aOm (hu:X.A.units+1<cLine)(hi:PE X i ty)(ho:PE X o td):PC X .NotIn i o (aNa ty td):=by intro bE1 s σ H Q I h;refine thn (hi bE1 s σ H _ I h) λiv s1 ⟨y,H1,I1,ry,q1⟩=>thn (ho bE1 s1 σ H1 _ I1 q1) λu s2 ⟨x,H2,I2,rx,a,ov,ex,g,q2⟩=>?_;subst ex;obtain rfl:u=Value.ref a:=rx;exact aVq hu I2 g ry λs3 I3=>⟨.bl (!ov.isSome),H2,I3,rfl,q2⟩
theorem aUf (hu:X.A.units+1<cLine)(ho:PE X o td)(hi:PE X i ty)(hv:PE X value tv)(hs:swapsWith value (some (.Subscript o i pos')) pos.line X.env=pure false) :
  PS X (.Assign [.Subscript o i pos'] value pos) (aWt td ty tv):=by
 intro bE1 s σ H D I h;refine wpAny_Assign_Subscript (thn (hv bE1 s σ H _ I h) λr s1 ⟨v,H1,I1,rv,q1⟩=>thn (ho bE1 s1 σ H1 _ I1 q1) λu s2 ⟨x,H2,I2,rx,q2⟩=>thn (hi bE1 s2 σ H2 _ I2 q2) λiv s3 ⟨y,H3,I3,ry,a,H4,ex,g,q3⟩=>?_) hs;subst ex;obtain rfl:u=Value.ref a:=rx;exact aOc hu I3 g ry rv λs4 I4=>⟨σ,H4,I4,q3⟩
end
theorem aI3 {P:Program}{w:World}{H:Hp}(h:Heap)(hb:sysModules<h.objs.size):dH P w H (h.push { cls:=.type "dict",data:=.dict #[] }) h.objs.size (.dK []):=
 ⟨bAE _,beq_eq_false_iff_ne.mpr (Ne.symm (v4 hb)),[],.nil,Heap.DictOf.new h⟩
def aS5:TE:=λ_ H Q=>∀p,H p=none->Q (.ref p) (upd H p (.dK []))
section
variable {X:Cx}{pos:Pos}
theorem aQ2:PE X (.Dict [] [] pos) aS5:=λbE1 s σ H Q I h=>
 wpAny_Dict_empty ⟨.ref s.heap.objs.size,_,I.laid (a:=s.heap.objs.size) (o:=.dK []) (t':=s.toks) (λ_ _ q=>d8 _ q) (j0 _) (aI3 s.heap I.big),rfl,h _ (I.hok.fresh (j0 _))⟩
end
def aLp:List (TE × TE)->St->Hp->(List (V × V)->Hp->Prop)->Prop
 |[],_,H,Q=>Q [] H
 |(tk,tv)::r,σ,H,Q=>tk σ H λx H1=>tv σ H1 λy H2=>aLp r σ H2 λps H3=>Q ((x,y)::ps) H3
abbrev VV:List (V × V)->List (Value × Value)->Prop:=Paired λp q=>RelV p.1 q.1/\RelV p.2 q.2
def PPs (X:Cx)(pos:Pos)(keys:List (Option Expr))(values:List Expr)(trs:List (TE × TE)):Prop:=
 ∀(bE1:bEZ) (s:Shared) (σ:St) (H:Hp) (Q:List (V × V)->Hp->Prop),Inv X bE1 σ H s->aLp trs σ H Q ->
  wpAny (model X.prog X.w) X.A (evalPairs (pairTrees keys values X.env pos)) (λvs s'=>∃ps H',Inv X bE1 σ H' s'/\VV ps vs/\Q ps H') X.xe s
theorem aVk {X:Cx}{pos:Pos}:PPs X pos [] [] []:=λbE1 s σ H Q I h=>pairTrees_nil_walk ⟨[],H,I,.nil,h⟩
theorem aTt {X:Cx}{pos:Pos}{k v:Expr}{ks:List (Option Expr)}{vs:List Expr}{tk tv:TE}{trs:List (TE × TE)}(hk:PE X k tk)(hv:PE X v tv)(hr:PPs X pos ks vs trs) :
  PPs X pos (some k::ks) (v::vs) ((tk,tv)::trs):=λbE1 s σ H Q I h=>
 pairTrees_cons_walk (thn (hk bE1 s σ H _ I h) λu s1 ⟨x,H1,I1,rx,q1⟩=>thn (hv bE1 s1 σ H1 _ I1 q1) λw2 s2 ⟨y,H2,I2,ry,q2⟩=>
  thn (hr bE1 s2 σ H2 _ I2 q2) λws s3 ⟨ps,H3,I3,rel,q3⟩=>⟨(x,y)::ps,H3,I3,.cons ⟨rx,ry⟩ rel,q3⟩)
def lZ (kvs more:List (Key × V)):List (Key × V):=more.foldl (λacc kv=>putK acc kv.1 kv.2) kvs
theorem KV.merge:∀{more:List (Key × V)} {rs:List (Key × Value)} {kvs:List (Key × V)} {vs:List (Key × Value)},KV more rs->KV kvs vs->KV (lZ kvs more) (merged vs rs):=by
 intro more rs kvs vs r;unfold KV at r
 induction r generalizing kvs vs with
 |nil=>intro q;exact q
 |@cons p q ps qs h t ih=>
  intro r0;have e:KV (putK kvs p.1 p.2) (stored vs q.1 q.2):=by have:=r0.put p.1 h.2;rw[<-h.1];exact this
  exact ih e
theorem nJ:∀(more kvs:List (Key × V)),(lZ kvs more).length<=kvs.length+more.length
 |[],kvs=>by show kvs.length<=kvs.length+0;lia
 |p::r,kvs=>by have h1:=nJ r (putK kvs p.1 p.2);have h2:=qF kvs p.1 p.2;show (lZ (putK kvs p.1 p.2) r).length<=_;rw[v7];lia
theorem aAi {P:Program}{w:World}:∀{kvs:List (Key × V)} {ws:List (Value × Value)},VV (kvs.map λkv=>(kV kv.1,kv.2)) ws->∃rs,Carries (bL P w) ws rs/\KV kvs rs
 |[],_,r=>by rw[List.map_nil] at r;cases r;exact⟨[],True.intro,.nil⟩
 |p::kvs,_,r=>by
  rw[bAV] at r;cases r with
  |@cons a b as bs h t=>obtain⟨rs,c,q⟩:=aAi (P:=P) (w:=w) t;obtain⟨b1,b2⟩:=b;exact⟨(p.1,b2)::rs,⟨yQ h.1,rfl,c⟩,.cons ⟨rfl,h.2⟩ q⟩
def aWu (trs:List (TE × TE)):TE:=fun σ H Q=>∀p,H p=none->aLp trs σ (upd H p (.dK [])) λps H2=>H2 p=some (.dK [])/\∃kvs:List (Key × V),ps=kvs.map (λkv=>(kV kv.1,kv.2))/\kvs.length<=15/\Q (.ref p) (upd H2 p (.dK (lZ [] kvs)))
theorem aUo {X:Cx}{pos:Pos}{keys:List (Option Expr)}{values:List Expr}{trs:List (TE × TE)}(h:PPs X pos keys values trs)(hall:keys.all (·.isSome)=true)(hl:keys.length=values.length)(h0:keys≠[])
  (h15:keys.length<=15):PE X (.Dict keys values pos) (aWu trs):=by
 intro bE1 s σ H Q I q;have hn:=I.hok.fresh (j0 s.heap.objs.size);have I1:=I.laid (a:=s.heap.objs.size) (o:=.dK []) (h':=s.heap.push { cls:=.type "dict",data:=.dict #[] }) (t':=s.toks) (λ_ _ q=>d8 _ q) (j0 _) (aI3 s.heap I.big);refine wpAny_Dict_walk (knd:=bL X.prog X.w) hall hl h0 h15 (thn (h bE1 _ σ _ _ I1 (q _ hn)) λws s2 ⟨ps,H2,I2,rel,e,kvs,ep,lk,q2⟩=>?_);subst ep;obtain⟨rs,c,rk⟩:=aAi (P:=X.prog) (w:=X.w) rel;obtain⟨z,hd,vs0,r0,dd⟩:=aNj I2.hok e;cases r0;refine⟨rs,c,dd,λh' dd' hs=>⟨.ref s.heap.objs.size,_,?_,rfl,q2⟩⟩;have hz:(lZ [] kvs).length<=sizeLine:=by have h1:=nJ kvs [];rw[bCK] at h1;rw[sizeLine_eq];lia
 have he:∃q,h'.get? s.heap.objs.size=some q:=let ⟨q,_,_,hq,_⟩:=dd';⟨q,hq⟩
 exact aF9 I2 (by rw[e];exact True.intro) hs he (aQi hz hd (rk.merge .nil) dd')
structure M1 (X:Cx)(o:Expr)(m:Str)(apos:Pos)(e:Expr)(cpos:Pos):Prop where
 base:attributeBase o m X.env (eval o X.env)=eval o X.env
 few:((backTo cpos (starEach [e] X.env)).all (λx=>!x.1) && (backToKw cpos (keywordEach [] X.env)).all (λx=>x.1.isSome)
  && decide (([e]:List Expr).length+([]:List Keyword).length+(if ([]:List Keyword).isEmpty then 0 else 1)<30))=true
 line:(apos.endLine == cpos.line)=true
 trees:backTo cpos (starEach [e] X.env)=[(false,eval e X.env)]
def IsD (H:Hp)(a:Addr):Prop:=(∃kvs,Rd H a (.dK kvs))\/∃kvs,Rd H a (.dT kvs)
theorem aY3 {X:Cx}{bE1:bEZ}{σ:St}{H:Hp}{s:Shared}{a:Addr}(I:Inv X bE1 σ H s)(d:IsD H a) :
  s.TypeIs (.ref a) "dict"/\(∀b,Value.ref a=.ref b->∃ob,s.heap.get? b=some ob/\ob.dict=none)/\(a == sysModules)=false:=by
 rcases d with⟨kvs,e⟩|⟨kvs,e⟩
 ·obtain⟨_,hd,vs,_,dd⟩:=aBj I.hok e;refine⟨dd.typeIs,λb q=>?_,hd⟩;cases q;obtain⟨ob,_,_,h1,h2,_⟩:=dd;exact⟨ob,h1,h2.2.1⟩
 ·obtain⟨_,hd,xs,_,dd⟩:=aBn I.hok e;refine⟨dd.typeIs,λb q=>?_,hd⟩;cases q;obtain⟨ob,_,_,h1,h2,_⟩:=dd;exact⟨ob,h1,h2.2.1⟩
section
variable {X:Cx}{bE1:bEZ}{σ:St}{H:Hp}{s:Shared}{a:Addr}{y d:V}{u r:Value}{o:Option V}{A:Around}{E:bEY}
theorem aZf {Q:bEY}(hu:A.units+1<cLine)(I:Inv X bE1 σ H s)(g:aEw H a y o)(ry:RelV y u)(h:∀w' s',Inv X bE1 σ H s'->RelV (o.getD .non) w'->Q w' s') :
  wpAny (model X.prog X.w) A (call (.builtin "dict.get") [.ref a,u]) Q E s:=by
 rcases g with⟨kvs,k,e,ey,l⟩|⟨kvs,k,b,e,ey,eb,l⟩
 ·subst ey;obtain⟨z,hd,vs,rel,dd⟩:=aBj I.hok e;refine call_meetsIn PySem.F.slot_dict_get dd.typeIs PySem.F.entry_dict_get (PySem.F.args_dict_get_2 _ _) (meets_dict_get (bL X.prog X.w) a (yQ ry) hd) ⟨_,dd.mapOf,h _ _ (I.tok _) ?_⟩;rw[l];exact (rel.val k).getD rfl
 ·subst ey;cases (show u=Value.ref b from ry);obtain⟨z,hd,xs,rel,dd⟩:=aBn I.hok e;refine call_meetsIn PySem.F.slot_dict_get dd.typeIs PySem.F.entry_dict_get (PySem.F.args_dict_get_2 _ _) (meetsH_dict_get (tupleKind (bL X.prog X.w)) a b hd) ⟨tupleKind_room_in1 hu,k,xs,xG I.hok eb,dd,h _ _ (I.tok _) ?_⟩;rw[l];exact (rel.val k).getD rfl
end
def aSs (td ty:TE):TE:=fun σ H Q=>td σ H λx H1=>∃a,x=.ref a/\IsD H1 a/\ty σ H1 λy H2=>∃o,aEw H2 a y o/\Q (o.getD .non) H2
section
variable {X:Cx}{o e f:Expr}{apos cpos:Pos}{td ty tx:TE}
theorem aRd (hu:X.A.units+1<cLine)(ho:PE X o td)(he:PE X e ty)(m:M1 X o "get" apos e cpos):PE X (.Call (.Attribute o "get" apos) [e] [] cpos) (aSs td ty):=by intro bE1 s σ H Q I h;refine wpAny_Call_method m.base m.few m.line PySem.F.plainAttrs_dict PySem.F.slot_dict_get PySem.F.type_dict_get (thn (ho bE1 s σ H _ I h) λu s1 ⟨x,H1,I1,rx,a,ex,d,q1⟩=>?_);subst ex;obtain rfl:u=Value.ref a:=rx;obtain⟨t1,t2,_⟩:=aY3 I1 d;refine⟨t1,t2,?_⟩;rw[m.trees];refine bC4 rfl (bEE (bBV (thn (he bE1 s1 σ H1 _ I1 q1) λiv s2 ⟨y,H2,I2,ry,ov,g,q2⟩=>bDV ?_)));exact aZf hu I2 g ry λw' s3 I3 rw'=>⟨_,H2,I3,rw',q2⟩
end
section
variable {X:Cx}{bE1:bEZ}{σ:St}{H:Hp}{s:Shared}{a:Addr}{kvs:List (Key × V)}{A:Around}{E:bEY}
end
section
variable {X:Cx}{bE1:bEZ}{σ:St}{H:Hp}{s:Shared}{a:Addr}{y:V}{u:Value}{A:Around}{E:bEY}
end
section
variable {X:Cx}
end
section
variable {κ:Type}[DecidableEq κ]
theorem aWj {kvs:List (κ × V)}{k:κ}{v:V}(h:rA kvs k=some v):k∈kvs.map (·.1):=by
 have q:(kvs.any λkv=>decide (kv.1=k))=true:=by rw[vL,h];all_goals rfl
 obtain⟨p,hp,e⟩:=List.any_eq_true.mp q;exact List.mem_map.mpr ⟨p,hp,of_decide_eq_true e⟩
end
structure VE (X:Cx)(e:Expr)(t:TE):Prop where
 out:PE X e t
structure VT (X:Cx)(e:Expr)(t:TT):Prop where
 out:PT X e t
structure VW (X:Cx)(e:Expr)(t:TT):Prop where
 out:PW X e t
structure VA (X:Cx)(es:List Expr)(t:TA):Prop where
 out:PA X es t
structure VS (X:Cx)(st:Stmt)(t:TS):Prop where
 out:PS X st t
structure VSs (X:Cx)(st:List Stmt)(t:TS):Prop where
 out:PSs X st t
structure VI (X:Cx)(tg iter:Expr)(t:TI):Prop where
 out:PI X tg iter t
structure VG (X:Cx)(tg:Expr)(t:TG):Prop where
 out:PG X tg t
structure VGs (X:Cx)(tg:List Expr)(t:TGs):Prop where
 out:PGs X tg t
structure VO (X:Cx)(e:Option Expr)(t:TO):Prop where
 out:PO X e t
structure VF (X:Cx)(ifs:List Expr)(t:TT):Prop where
 out:aQt X ifs t
structure VP (X:Cx)(pos:Pos)(keys:List (Option Expr))(values:List Expr)(trs:List (TE × TE)):Prop where
 out:PPs X pos keys values trs
section
variable {X:Cx}{a b c e:Expr}{es:List Expr}{ta tb tc te:TE}{t:TA}{tA tB':TT}{pos p:Pos}{x:Str}
theorem vv (i:Nat){x:Str}{pos:Pos}(hN:X.N[i]?=some x:=by rfl)(hv:Vis X.env.scope x:=by trivial)(hd:(x == ("__debug__":Str))=false:=by decide)
  (hcd:(x == ("__classdict__":Str))=false:=by decide):VE X (.Name x pos) (aPn i):=⟨pv i hN hv hd hcd⟩
theorem tQ {v:V}(hg:Gl X x)(hm:∃u,X.mg x=some u/\RelV v u)(hd:(x == ("__debug__":Str))=false:=by decide):VE X (.Name x pos) (tC v):=⟨bAy hg hm hd⟩
theorem dJ {v:V}{u:Value}(hg:Gl X x)(hm:X.mg x=none)(hv:bootBuiltins x=some u)(r:RelV v u)(hn:x≠"__name__":=by decide)(hd:(x == ("__debug__":Str))=false:=by decide):VE X (.Name x pos) (tC v):=⟨aV7 hg hm hv r hn hd⟩
theorem aF {i j}:VE X (.Constant (.int i) j pos) (tC (.int i)):=⟨aYv⟩
theorem gQ {b j}:VE X (.Constant (.bool b) j pos) (tC (.bl b)):=⟨bBh⟩
theorem kJ {j}:VE X (.Constant .none j pos) (tC .non):=⟨aXl⟩
theorem bN {x j}:VE X (.Constant (.str x) j pos) (tC (.str x)):=⟨aX9⟩
theorem bQ {op:Operator}{r:R2}(ho:OpR X (binaryOp op) r)(ha:VE X a ta)(hb:VE X b tb):VE X (.BinOp a op b pos) (tOp r ta tb):=⟨bBc ho ha.1 hb.1⟩
theorem aW8 {op:UnaryOp}{r:V->Hp->VK->Prop}(ho:UnR X (unaryOp op) r)(ha:VE X a ta):VE X (.UnaryOp op a pos) (tUn r ta):=⟨bBe ho ha.1⟩
theorem cQ {op:CmpOp}{r:R2}(ho:OpR X (compareOp op) r)(ha:VE X a ta)(hb:VE X b tb)(hm:behindInMarks op b=false):VE X (.Compare a [op] [b] pos) (tOp r ta tb):=⟨aT2 ho ha.1 hb.1 hm⟩
theorem bC {op:CmpOp}{r:R2}(ho:OpR X (compareOp op) r)(ha:VE X a ta)(hb:VE X b tb)(hm:behindInMarks op b=false):VT X (.Compare a [op] [b] pos) (aM6 (tOp r ta tb)):=⟨aWe ho ha.1 hb.1 hm⟩
theorem aQf {op op':CmpOp}{r r':R2}(ho:OpR X (compareOp op) r)(ho':OpR X (compareOp op') r')(ha:VE X a ta)(hb:VE X b tb)(hc:VE X c tc)
  (hm:lastMarks [op,op'] [b,c]=false:=by with_unfolding_all rfl):VE X (.Compare a [op,op'] [b,c] pos) (aFr r r' ta tb tc):=⟨aRz ho ho' ha.1 hb.1 hc.1 hm⟩
theorem aBq {op op':CmpOp}{r r':R2}(ho:OpR X (compareOp op) r)(ho':OpR X (compareOp op') r')(ha:VE X a ta)(hb:VE X b tb)(hc:VE X c tc)
  (hm:lastMarks [op,op'] [b,c]=false:=by with_unfolding_all rfl):VT X (.Compare a [op,op'] [b,c] pos) (aM6 (aFr r r' ta tb tc)):=⟨aS2 ho ho' ha.1 hb.1 hc.1 hm⟩
theorem gK {op}(h:VE X a te):VE X (.BoolOp op [a] pos) te:=⟨aYj h.1⟩
theorem gJ {rest:List Expr}(ha:VE X a ta)(hb:VE X (.BoolOp .And (b::rest) pos) tb):VE X (.BoolOp .And (a::b::rest) pos) (aXc ta tb):=⟨aZt ha.1 hb.1⟩
theorem aWr {rest:List Expr}(ha:VE X a ta)(hb:VE X (.BoolOp .Or (b::rest) pos) tb):VE X (.BoolOp .Or (a::b::rest) pos) (bAt ta tb):=⟨bAm ha.1 hb.1⟩
theorem aZ4 (ha:VE X a ta):VE X (.UnaryOp .Not a pos) (aW9 ta):=⟨aXn ha.1⟩
theorem aIz (hc:VT X c tA)(ha:VE X a ta)(hb:VE X b tb):VE X (.IfExp c a b pos) (tIf tA ta tb):=⟨aTb hc.1 ha.1 hb.1⟩
theorem aA:VA X [] aEp:=⟨aYq⟩
theorem aB (ha:VE X e te)(hr:VA X es t)(hp:dB e=true:=by rfl):VA X (e::es) (eQ te t):=⟨bBw ha.1 hr.1 hp⟩
theorem aO {k:Nat}{ps:List Str}{sp:Sp}(G:Ok X.prog X.w X.K X.mg X.base k x ps sp)(hr:Room k X.A)(hg:Gl X x)(ha:VA X (e::es) t)(hdb:(x == ("__debug__":Str))=false:=by decide)
  (hp:dB e=true:=by rfl) (hpl:(backTo pos (starEach es X.env)).any (·.1)=false:=by rfl) :
  VE X (.Call (.Name x p) (e::es) [] pos) (aDh sp [] E0 t):=⟨bAx G hr hg ha.1 hdb (aQ hp) hpl⟩
theorem aXw {k:Nat}{ps:List Str}{sp:Sp}(G:Ok X.prog X.w X.K X.mg X.base k x ps sp)(hr:Room k X.A)(hg:Gl X x)(hdb:(x == ("__debug__":Str))=false:=by decide) :
  VE X (.Call (.Name x p) [] [] pos) (aDh sp [] E0 aEp):=⟨aYy G hr hg hdb⟩
theorem aK {id:String}{r:List V->Hp->VK->Prop}(hc:cI X (.builtin id) r)(hg:Gl X x)(hm:X.mg x=none)(hv:bootBuiltins x=some (.builtin id))(ha:VA X (e::es) t)(hn:x≠"__name__":=by decide)(hdb:(x == ("__debug__":Str))=false:=by decide)
  (hp:dB e=true:=by rfl) (hpl:(backTo pos (starEach es X.env)).any (·.1)=false:=by rfl):VE X (.Call (.Name x p) (e::es) [] pos) (tCB r t):=⟨aRc hc hg hm hv ha.1 hn hdb (aQ hp) hpl⟩
theorem cW {T:String}{r:List V->Hp->VK->Prop}(hc:cI X (.type T) r)(hg:Gl X x)(hm:X.mg x=none)(hv:bootBuiltins x=some (.type T))(ha:VA X (e::es) t)(hn:x≠"__name__":=by decide)(hdb:(x == ("__debug__":Str))=false:=by decide)
  (hp:dB e=true:=by rfl) (hpl:(backTo pos (starEach es X.env)).any (·.1)=false:=by rfl):VE X (.Call (.Name x p) (e::es) [] pos) (tCB r t):=⟨aPw hc hg hm hv ha.1 hn hdb (aQ hp) hpl⟩
theorem aDj {o:Expr}{to:TE}{name:Str}{apos cpos:Pos}{T id:String}{r:V->List V->Hp->VK->Prop}(pa:PlainAttrs T)(slot:Slot T name id)(hty:typeOf (.builtin id)=pure (.type "method_descriptor"))(hm:MtR X id r)(ho:VE X o to)(ha:VA X (e::es) t)
  (hbase:attributeBase o name X.env (eval o X.env)=eval o X.env:=by rfl)
  (hfew:((backTo cpos (starEach (e::es) X.env)).all (λx=>!x.1) && (backToKw cpos (keywordEach [] X.env)).all (λx=>x.1.isSome)
   && decide ((e::es).length+([]:List Keyword).length+(if ([]:List Keyword).isEmpty then 0 else 1)<30))=true:=by rfl)
  (hline:(apos.endLine == cpos.line)=true:=by rfl) (hp:dB e=true:=by rfl) (hplain:(backTo cpos (starEach es X.env)).any (·.1)=false:=by rfl) :
  VE X (.Call (.Attribute o name apos) (e::es) [] cpos) (tBM X.K T r to t):=⟨bAa pa slot hty hm ho.1 ha.1 hbase hfew hline (aQ hp) hplain⟩
theorem qR (ha:VE X a ta)(hb:VE X b tb)(hs:aJc b) :
  VE X (.Subscript a b pos) (tOp (λx y H Q=>∃z i c,x=.str z/\y=.int i/\0<=i/\i<2 ^ 63/\i<z.length/\z.cps[i.toNat]?=some c/\Q (.str ⟨#[c]⟩) H) ta tb):=⟨aJl ha.1 hb.1 hs⟩
theorem lH:VO X none aN1:=⟨aV2⟩
theorem iK (h:VE X e te):VO X (some e) (aWz te):=⟨aU8 h.1⟩
theorem fY {r:V->Option Int->Option Int->Hp->VK->Prop}{lo hi:Option Expr}{tl th:TO}{p2:Pos}(hr:SlR X r)(he:VE X e te)(hl:VO X lo tl)(hu:VO X hi th):VE X (.Subscript e (.Slice lo hi none p2) pos) (tSl r te tl th):=⟨aTe hr he.1 hl.1 hu.1⟩
theorem aP {r:R2}(hr:IxR X r)(ha:VE X a ta)(hb:VE X b tb)(hs:aNo b):VE X (.Subscript a b pos) (tOp r ta tb):=⟨bAk hr ha.1 hb.1 hs⟩
theorem aSl:VE X (.Dict [] [] pos) aS5:=⟨aQ2⟩
theorem aTy:VP X pos [] [] []:=⟨aVk⟩
theorem aSv {k v:Expr}{ks:List (Option Expr)}{vs:List Expr}{tk tv:TE}{trs:List (TE × TE)}(hk:VE X k tk)(hv:VE X v tv)(hr:VP X pos ks vs trs):VP X pos (some k::ks) (v::vs) ((tk,tv)::trs):=⟨aTt hk.1 hv.1 hr.1⟩
theorem aVn {keys:List (Option Expr)}{values:List Expr}{trs:List (TE × TE)}(h:VP X pos keys values trs)(hall:keys.all (·.isSome)=true)(hl:keys.length=values.length)(h0:keys≠[])(h15:keys.length<=15):VE X (.Dict keys values pos) (aWu trs):=⟨aUo h.1 hall hl h0 h15⟩
theorem VE.imp {t t':TE}(h:VE X e t)(k:∀σ H Q,t' σ H Q->t σ H Q):VE X e t':=⟨PE.imp h.1 k⟩
theorem aVf (ha:VT X a tA):VW X (.BoolOp .And [a] pos) tA:=⟨aUp ha.1⟩
theorem dN (ha:VT X a tA):VW X (.BoolOp .Or [a] pos) tA:=⟨aZ5 ha.1⟩
theorem aSe {rest:List Expr}(ha:VT X a tA)(hb:VW X (.BoolOp .And (b::rest) pos) tB'):VW X (.BoolOp .And (a::b::rest) pos) (bAu tA tB'):=⟨aXt ha.1 hb.1⟩
theorem fB {rest:List Expr}(ha:VT X a tA)(hb:VW X (.BoolOp .Or (b::rest) pos) tB'):VW X (.BoolOp .Or (a::b::rest) pos) (tOr tA tB'):=⟨bAl ha.1 hb.1⟩
theorem VW.pt (h:VW X e tA):VT X e tA:=⟨h.1.pt⟩
theorem cG (ha:VT X a tA):VT X (.UnaryOp .Not a pos) (aZ2 tA):=⟨aYe ha.1⟩
theorem bV (h:VE X e te)(he:∀whole,isTrue e X.env whole=(do let v <-whole;standAt e.pos;holding [v] (truthy v)):=by intro _;rfl):VT X e (tB te):=⟨aYa h.1 he⟩
theorem aSd (ha:VE X a ta)(he:∀whole,isTrue a X.env whole=(do let v <-whole;standAt a.pos;holding [v] (truthy v)):=by intro _;rfl) :
  VT X a (fun σ H Q=>ta σ H λx H'=>∃k,aY0 X.K x H' k/\Q k H'):=⟨aQ5 ha.1 he⟩
variable {st:Stmt}{rest:List Stmt}{u w':TS}
theorem aZ:VSs X [] tK:=⟨aV4⟩
theorem aC (h1:VS X st u)(h2:VSs X rest w'):VSs X (st::rest) (aEy u w'):=⟨aS8 h1.1 h2.1⟩
theorem aG (h1:VS X st u):VSs X [st] u:=⟨aUj h1.1⟩
theorem aL (he:VE X e te):VS X (.Return (some e) pos) (sY te):=⟨aXg he.1⟩
theorem cA {a b:List Stmt}(hc:VT X c tA)(ha:VSs X a u)(hb:VSs X b w'):VS X (.If c a b pos) (aUv tA u w'):=⟨bA3 hc.1 ha.1 hb.1⟩
theorem aX {i:Nat}{pos':Pos}(hN:X.N.Nodup)(hi:X.N[i]?=some x)(hx:Loc X.env.scope x)(he:VE X e te)(hs:swapsWith e (some (.Name x pos')) pos.line X.env=pure false:=by rfl)(hf:X.fn x=true\/X.env.scope.names.lookup x=some .local:=by first|exact .inl rfl|exact .inr rfl|assumption) :
  VS X (.Assign [.Name x pos'] e pos) (zA te (cB i)):=⟨aXz hN hi hx he.1 hs hf⟩
theorem mW (he:VE X e te)(hs:swapsWith e none pos.line X.env=pure false:=by rfl):VS X (.Expr e pos) (aW0 te):=⟨aWi he.1 hs⟩
theorem jF {tg iter:Expr}{body:List Stmt}{wi:TI}{g:TG}{tb:TS}(hp:PassesOwn (model X.prog X.w) X.A X.env X.xe)(hc:X.calm=true)(hi:VI X tg iter wi)(hg:VG X tg g)(hb:VSs X body tb)
  (hs:∀x,foldedSetIterable iter X.env x=pure x:=by intro _;rfl):VS X (.For tg iter body [] pos) (aZp wi g tb):=⟨aY5 hp hc hi.1 hg.1 hb.1 hs⟩
theorem aM {i:Nat}(hN:X.N.Nodup)(hi:X.N[i]?=some x)(hx:Loc X.env.scope x)(hf:X.fn x=true\/X.env.scope.names.lookup x=some .local:=by first|exact .inl rfl|exact .inr rfl|assumption):VG X (.Name x pos) (cB i):=⟨aUk hN hi hx hf⟩
theorem fM:VGs X [] aP8:=⟨aU3⟩
theorem bF {t:TG}{u:TGs}(h1:VG X e t)(h2:VGs X es u)(hs:(assignEach (e::es) X.env).map (·.2)=assign e X.env::(assignEach es X.env).map (·.2):=by rfl):VGs X (e::es) (tO t u):=⟨aSi h1.1 h2.1 hs⟩
theorem xX {k:Nat}{t:TGs}{n:Nat}(hc:X.calm=true)(h:VGs X es t)(hn:(assignEach es X.env).length=n:=by rfl)(hst:(assignEach es X.env).findIdx? (·.1)=none:=by rfl):VG X (.Tuple es k pos) (aJ3 X.K n t):=⟨aZ1 hc h.1 hn hst⟩
variable {tg:Expr}
theorem dR (h:VE X e te):VI X tg e (aEj X.K te):=⟨aT9 h.1⟩
theorem rH (h:VE X e te):VI X tg e (aV0 X.K te):=⟨aX7 h.1⟩
theorem aQw (h:VE X e te):VI X tg e (aYz te):=⟨aZz h.1⟩
theorem iC (hg:Gl X "range")(hm:X.mg "range"=none)(ha:VA X [a] t)(hp:dB a=true:=by rfl):VI X tg (.Call (.Name "range" p) [a] [] pos) (aSf t):=⟨aPi hg hm ha.1 (aQ (es:=[]) hp)⟩
theorem gO:VF X [] nZ:=⟨aXr⟩
theorem lO (h:VT X c tA):VF X [c] tA:=⟨aY8 h.1⟩
theorem cJ {elt target iter:Expr}{ifs:List Expr}{scope:Scope}{N:List Str}{wi:TI}{g:TG}{tt:TT}
  (C:aCh scope N) (hfr:∀y,(y,NameKind.free)∈scope.names->X.env.kindOf y=some .cell\/X.env.kindOf y=some .free) (hc:X.calm=true)
  (hi:VI X target iter wi)
  (hb:∀cl s H fp,VG (cxC X N scope cl s H fp) target g/\VF (cxC X N scope cl s H fp) ifs tt/\VE (cxC X N scope cl s H fp) elt te)
  (hs:∀x,foldedSetIterable iter X.env x=pure x:=by intro _;rfl) :
  VE X (.ListComp elt [⟨target,iter,ifs,0⟩] scope pos) (kZ X scope N wi g tt te):=
 ⟨aVa C hfr hc hi.1 (λcl s H fp=>⟨(hb cl s H fp).1.1,(hb cl s H fp).2.1.1,(hb cl s H fp).2.2.1⟩) hs⟩
end
section
variable {P:Program}{w:World}{K:bEX}{mg:bE0}{base:Heap}
theorem Fun.okV {x qual:Str}{st:Stmt}{f:Addr}{fd:FuncData}{N ps:List Str}{k:Nat}{sp:Sp}(F:Fun K x qual st f fd)(S:aJ N ps (aD st))(len:∀vs H Q E,sp vs H Q E->vs.length=ps.length)
  (hbody:∀(cdv:Value) (A:Around) (outer:List Env) (s:Shared) (H:Hp) (vs:List V) (Q:VK) (E:XK),Room k (A.deeper (envOfC qual (aD st) s.heap.objs.size f cdv))->sp vs H Q E ->
   ∃t,VSs (aBm CX0 P w K mg base N qual (aD st) f cdv A outer s H E).nox (eV st) t/\t { nx:=λ_ H'=>Q .non H',rt:=Q } (start N vs) H):lJ P w K mg base CX0 (k+1) f fd ps sp:=
 F.ok S len λcdv A outer s H vs Q E hr h=>let ⟨t,h1,h2⟩:=hbody cdv A outer s H vs Q E hr h;⟨t,h1.1,h2⟩
theorem Ok.ofV {x:Str}{st:Stmt}{N ps:List Str}{k:Nat}{sp:Sp}(D:Dn K mg x st ps)(S:aJ N ps (aD st))(len:∀vs H Q E,sp vs H Q E->vs.length=ps.length)
  (hbody:∀(f:Addr) (cdv:Value) (A:Around) (outer:List Env) (s:Shared) (H:Hp) (vs:List V) (Q:VK) (E:XK),Room k (A.deeper (envOfC x (aD st) s.heap.objs.size f cdv))->sp vs H Q E ->
   ∃t,VSs (aBm CX0 P w K mg base N x (aD st) f cdv A outer s H E).nox (eV st) t/\t { nx:=λ_ H'=>Q .non H',rt:=Q } (start N vs) H):Ok P w K mg base (k+1) x ps sp:=
 Ok.of D S len λf cdv A outer s H vs Q E hr h=>let ⟨t,h1,h2⟩:=hbody f cdv A outer s H vs Q E hr h;⟨t,h1.1,h2⟩
end
def Held (P:Program)(w:World)(K:bEX)(mg:bE0)(base:Heap)(k:Nat)(f:Addr)(ps:List Str)(sp:Sp):Prop:=
 ∃fd,PySem.W.keepIn K (.ref f)=true/\Binds K fd ps []/\lJ P w K mg base CX0 k f fd ps sp
theorem Ok.held {P:Program}{w:World}{K:bEX}{mg:bE0}{base:Heap}{k:Nat}{x:Str}{ps:List Str}{sp:Sp}(G:Ok P w K mg base k x ps sp):∃f,mg x=some (.ref f)/\Held P w K mg base k f ps sp:=by obtain⟨f,fd,h1,h2,h3,h4⟩:=G;exact⟨f,h1,fd,h2,h3,h4⟩
section
variable {X:Cx}{x:Str}{p pos:Pos}{e:Expr}{es:List Expr}{te:TE}{t:TA}
def aSx (P:Program)(w:World)(K:bEX)(mg:bE0)(base:Heap)(k:Nat)(te:TE)(t:TA):TE:=fun σ H Q=>te σ H λv H1=>∃f ps sp,v=.ref f/\Held P w K mg base k f ps sp/\t σ H1 λvs H2=>sp vs H2 Q E0
theorem aUc {k:Nat}(hr:Room k X.A)(hf:PE X (.Name x p) te)(ha:PA X (e::es) t)
  (he:starEach (e::es) X.env=(false,eval e X.env)::starEach es X.env:=by rfl) (hpl:(backTo pos (starEach es X.env)).any (·.1)=false:=by rfl) :
  PE X (.Call (.Name x p) (e::es) [] pos) (aSx X.prog X.w X.K X.mg X.base k te t):=by
 intro bE1 s σ H Q I h;refine bBQ (thn (hf bE1 s σ H _ I h) λu s1 ⟨v,H1,I1,r1,q1⟩=>?_);obtain⟨f,ps,sp,rfl,⟨fd,hk,hb,F⟩,q⟩:=q1;obtain rfl:u=Value.ref f:=r1;refine PySem.W.callWith_K (h₀:=X.base) I1.ok.mod.kin hk (thn (ha pos bE1 s1 σ H1 _ I1 q) λus s2 ⟨vs,H2,I2,r,q2⟩=>⟨I2.kIn,?_⟩) he hpl;exact aA2 F hr hb .nil aDf I2 r (by simpa using q2)
end
end L2
namespace PySem
end PySem
namespace L2
open PySem PySem.Spec PyProof.Rows
section
variable {X:Cx}
theorem aT6:OpR X (binaryOp .Add) (λx y H Q=>∃a b ys,x=.ref a/\y=.ref b/\SqT X.K H a []/\SqT X.K H b ys/\Q (.ref b) H):=by
 intro bE1 s σ H x y v u Q I rx ry h;obtain⟨a,b,ys,rfl,rfl,ha,hb,q⟩:=h;cases rx;cases ry;obtain⟨its,r1,p1,_⟩:=I.tuple ha;obtain⟨its2,r2,p2,_⟩:=I.tuple hb;cases r1;obtain⟨⟨cls,dd,data,sl⟩,ho,hc,n,hd⟩:=id p1;obtain⟨⟨cls2,dd2,data2,sl2⟩,ho2,hc2,n2,hd2⟩:=id p2;simp only at hc hd hc2 hd2;subst hc hd hc2 hd2;exact concat_meets ⟨_,ho,rfl⟩ ⟨_,ho2,rfl⟩ noFill_tuple_add seq_tuple_add PySem.F.slot_tuple_add PySem.F.entry_tuple_add (PySem.F.args_tuple_add_2 _ _)
  (tuple_addW0 a b #[] its2.toArray n n2 dd dd2 sl sl2 rfl) ⟨ho,ho2,⟨.ref b,H,I,rfl,q⟩⟩
end
end L2
namespace PySem
def aAn (σ:List Str)(v:Str):List Str:=if v∈σ then σ else σ++[v]
def nP (ss:List Str):List Str:=ss.foldl aAn []
theorem aDw (ss:List Str)(v:Str):nP (ss++[v])=aAn (nP ss) v:=by unfold nP;rw[List.foldl_append];rfl
theorem vO (σ:List Str)(v k:Str):k∈aAn σ v↔k∈σ\/k=v:=by
 unfold aAn;by_cases h:v∈σ
 ·rw[if_pos h];exact⟨.inl,λq=>q.elim id λe=>e ▸ h⟩
 ·rw[if_neg h];simp
theorem aAt (σ:List Str)(v:Str):(aAn σ v).length=if v∈σ then σ.length else σ.length+1:=by
 unfold aAn
 split <;> simp
theorem wZ:∀(ss σ:List Str),(ss.foldl aAn σ).length<=σ.length+ss.length
 |[],σ=>by simp
 |v::r,σ=>by
  rw[List.foldl_cons,v7];have h:=wZ r (aAn σ v);rw[aAt] at h
  split at h <;> lia
theorem aTj (ss:List Str):(nP ss).length<=ss.length:=by have h:=wZ ss [];unfold nP;simpa using h
theorem aAw:∀(ss σ:List Str),(ss.foldl aAn σ).length=σ.length+ss.length↔ss.Nodup/\∀v∈ss,v∉σ
 |[],σ=>by simp
 |v::r,σ=>by
  rw[List.foldl_cons,v7,bDM];have hle:=wZ r (aAn σ v);have ih:=aAw r (aAn σ v);rw[aAt] at ih hle;by_cases h:v∈σ
  ·rw[if_pos h] at ih hle;constructor
   ·intro q;lia
   ·intro q;exact absurd h (q.2 v j8)
  ·rw[if_neg h] at ih hle;have e:σ.length+(r.length+1)=σ.length+1+r.length:=by lia
   rw[e,ih];constructor
   ·rintro⟨q1,q2⟩;refine⟨⟨λm=>q2 v m ((vO σ v v).mpr (.inr rfl)),q1⟩,λy hy=>?_⟩;rcases List.mem_cons.mp hy with rfl|hy
    ·exact h
    ·exact λm=>q2 y hy ((vO σ v y).mpr (.inl m))
   ·rintro⟨⟨q1,q2⟩,q3⟩;refine⟨q2,λy hy m=>?_⟩;rcases (vO σ v y).mp m with m|rfl
    ·exact q3 y (j6 _ hy) m
    ·exact q1 hy
theorem aO1 (ss:List Str):(nP ss).length=ss.length↔ss.Nodup:=by have h:=aAw ss [];simp only[bCK,bCS,w6,not_false_eq_true,implies_true,and_true] at h;exact h
section
variable {prog:Program}{w:World}
def dG (prog:Program)(w:World)(h:Heap)(D:Addr)(ss:List Str):Prop:=h.SetOf (strKind prog w) D (λy=>decide (y∈nP ss)) (nP ss).length
theorem dG.at {h h':Heap}{D:Addr}{ss:List Str}(x:dG prog w h D ss)(e:∀o,h.get? D=some o->h'.get? D=some o):dG prog w h' D ss:=by obtain⟨o,es,ep,t,ho,r⟩:=x;exact⟨o,es,ep,t,e o ho,r⟩
theorem dG.congr {h:Heap}{D:Addr}{S:Str->Bool}{n:Nat}{ss:List Str}(x:h.SetOf (strKind prog w) D S n)(e1:∀y,S y=decide (y∈nP ss))(e2:n=(nP ss).length):dG prog w h D ss:=by have e:S=λy=>decide (y∈nP ss):=funext e1;subst e e2;exact x
theorem aCa {A:Around}{R:Result->Shared->Prop}{I:Addr}{fp wr:List Addr}{n:Nat}{P:Nat->Value->Prop}{St:Nat->Heap->Prop}(W:Walks prog w A.in1 I fp wr n P St)(D:Addr)(hD:D∉fp)
  (ss:List Str) (hss:ss.length=n) (hval:∀i v,P i v->∃t,v=.str (ss.getD i "") t) (hb:n+1<scanBound) :
  ∀(k i:Nat) (s:Shared),i+k=n->St i s.heap->dG prog w s.heap D (ss.take i) ->
   (∀h' tk,(∀b o,b∉D::wr->s.heap.get? b=some o->h'.get? b=some o)->dG prog w h' D ss->R (.ok (.ret .none)) { s with heap:=h',toks:=tk }) ->
   codeAny (model prog w) A (.builtin "set.update.loop" ⟨[.ref D,.ref I],[]⟩) R s:=by
 have hDw:D∉wr:=λq=>hD (W.sub _ q);intro k
 induction k with
 |zero=>
  intro i s hi st hS q;obtain rfl:i=n:=by lia
  refine bBM bBS ?_;rw[bBJ bBA _];show wpAny _ A.in1 (pyNext (.ref I) >>= _) _ _ _;refine c7 (W.done s _ _ st λh' tk kp=>?_);refine d9 (q h' tk (λb o nb e=>kp b o (λz=>nb (j6 _ z)) e) ?_);rw[bAW (bEK hss)] at hS;exact hS.at λo e=>kp D o hDw e
 |succ k ih=>
  intro i s hi st hS q;refine bBM bBS ?_;rw[bBJ bBA _];show wpAny _ A.in1 (pyNext (.ref I) >>= _) _ _ _;refine c7 (W.item i s _ _ (by lia) st λv h1 tk1 hP st1 kp1=>?_);obtain⟨t,rfl⟩:=hval i v hP;have hS1:dG prog w h1 D (ss.take i):=hS.at λo e=>kp1 D o hDw e;show wpAny _ A.in1 (holding [Value.str (ss.getD i "") t] (setAdd D (.str (ss.getD i "") t)) >>= _) _ _ _;refine c7 (bAQ ?_);unfold setAdd;refine bAQ (c7 ((strKind prog w).pyHash (k:=ss.getD i "") (strKind_is _ _ _ _) ?_));have room:(nP (ss.take i)).length+1<scanBound:=by
   have h1:=aTj (ss.take i);have h2:(ss.take i).length<=ss.length:=by rw[bAM];exact Nat.min_le_right _ _
   lia
  refine wpAny_setAddHashed_of (knd:=strKind prog w) (strKind_is _ _ _ _) rfl hS1 room λh2 sb2 hS2=>?_;have hlt:i<ss.length:=by lia
  have et:ss.take (i+1)=ss.take i++[ss.getD i ""]:=by rw[bBH,d7 hlt,j4,d7 hlt];rfl
  have hS3:dG prog w h2 D (ss.take (i+1)):=by
   refine dG.congr hS2 (λy=>?_) ?_
   ·rw[et,aDw,bCJ,Bool.or_eq_true,decide_eq_true_eq,decide_eq_true_eq,decide_eq_true_eq,vO]
   ·rw[et,aDw,aAt];by_cases z:ss.getD i ""∈nP (ss.take i)
    ·rw[if_pos z,if_pos (t6 z)]
    ·rw[if_neg z,if_neg (by rw[v8 z];exact t8)]
  have kp2:∀b o,b∉D::wr->s.heap.get? b=some o->h2.get? b=some o:=λb o nb e=>by rw[sb2.2 b (λz=>nb (by rw[z];exact j8))];exact kp1 b o (λz=>nb (j6 _ z)) e
  refine d9 ⟨bCW bBA _,ih (i+1) _ (by lia) (W.frame _ _ _ st1 λb hb o e=>?_) hS3 λh' tk kp hS'=>q h' tk (λb o nb e=>kp b o nb (kp2 b o nb e)) hS'⟩;rw[sb2.2 b (λz=>hD (by rw[<-z];exact hb))];exact e
variable {A:Around}{E:bEY}{s:Shared}
abbrev bB (led:Bool):Obj:={ cls:=.type "set",dict:=none,data:=.set #[] 0 (.fresh 0 0 led) }
theorem aKs {A:Around}{R:Fin->Shared->Prop}{E:bEY}{s:Shared}{l:Addr}{its:Array Value}{ss:List Str}(led:Bool)(hh:A.handled=none)(hl:s.heap.IsList l its)(hlen:ss.length=its.size)
  (hval:∀(i:Nat) (v:Value),its[i]?=some v->∃t,v=Value.str (ss.getD i "") t) (hb:its.size+1<scanBound)
  (q:∀h' tk,dG prog w h' s.heap.objs.size ss->(∀b o,b<s.heap.objs.size->s.heap.get? b=some o->h'.get? b=some o)->R (.done (.ret .none)) { s with heap:=h',toks:=tk }) :
  wpAny (model prog w) A (Builtin.«set.__init__» ⟨[.ref s.heap.objs.size,.ref l],[]⟩) R E { s with heap:=s.heap.push (bB led) }:=by
 obtain⟨⟨oc,od,ox,osl⟩,hol,hcl,nl,hdl⟩:=id hl;simp only at hcl hdl;subst hcl hdl;have hS:(s.heap.push (bB led)).get? s.heap.objs.size=some (bB led):=j5 _ rfl;have hT:Shared.TypeIs { s with heap:=s.heap.push (bB led) } (.ref s.heap.objs.size) "set":=⟨_,hS,rfl⟩;have hol':(s.heap.push (bB led)).get? l=some { cls:=.type "list",dict:=od,data:=.seq its nl,slots:=osl }:=d8 _ hol;have f1:=F.sub_list_set;have f2:=F.sub_list_frozenset;have f3:(Value.type "list" == Value.type "dict")=false:=by decide
 have hl1:(s.heap.push (bB led)).IsList l its:=⟨_,hol',rfl,nl,rfl⟩;have hlt:l<s.heap.objs.size:=m8 hol;unfold Builtin.«set.__init__» noKeywords Builtin.Frozenset.updateFrom;generalize hPI:pyIter=PI;wp_walk;subst hPI;refine bB3 hl1 ?_;refine c7 (wpAny_runValue ?_);have hz:(s.heap.push (bB led)).objs.size=s.heap.objs.size+1:=bAX ..;have hne:l≠(s.heap.push (bB led)).objs.size:=by rw[hz];exact v4 (bBE hlt)
 have hSf:s.heap.objs.size∉[(s.heap.push (bB led)).objs.size,l]:=by rw[hz];simp only[bAB,w6,or_false,not_or];exact⟨v4 (bCC _),bCL hlt⟩
 refine aCa (Walks.list (by first|exact hh|simp[hh]) _ l hne its) s.heap.objs.size hSf ss hlen hval hb its.size 0 _ (by lia) ⟨⟨_,j5 _ rfl,rfl,rfl⟩,hl1.push _⟩ ?_ λh' tk kp hS'=>?_
 ·have hg:((s.heap.push (bB led)).push { cls:=.type "list_iterator",data:=.fields #[.ref l,.int 0 0] }).get? s.heap.objs.size=some (bB led):=d8 _ hS;exact dG.congr ((PyProof.Rows.setObjOf_fresh (knd:=strKind prog w) led).setOf hg (by unfold scanBound;lia)) (λ_=>rfl) rfl
 ·refine d9 (d9 (q h' tk hS' λb o hb' e=>kp b o ?_ (d8 _ (d8 _ e))));rw[hz];simp only[bAB,w6,or_false,not_or];exact⟨v4 hb',v4 (bBE hb')⟩
theorem aAk {l:Addr}{its:Array Value}{ss:List Str}{Q:bEY}(hh:A.handled=none)(hl:s.heap.IsList l its)(hlen:ss.length=its.size)
  (hval:∀(i:Nat) (v:Value),its[i]?=some v->∃t,v=Value.str (ss.getD i "") t) (hb:its.size+1<scanBound)
  (q:∀h' tk,dG prog w h' s.heap.objs.size ss->(∀b o,b<s.heap.objs.size->s.heap.get? b=some o->h'.get? b=some o)->Q (.ref s.heap.objs.size) { s with heap:=h',toks:=tk }) :
  wpAny (model prog w) A (call (.type "set") [.ref l]) Q E s:=by
 have ft:=F.called_set;obtain⟨c,tl,hmro⟩:=ft.mro;have g1:=ft.made;have g2:=ft.sub;have g3:=ft.notType;have g4:=ft.canCreate;have g5:=F.typeCall_set_1 (.ref l);refine bD8 (codeAny_of_tree (show wpAny _ _ (callAny (.type "set") _) _ _ _ from d9 ⟨Code.quiet_builtin _ (by decide +kernel),bBM F.entry_type_call ?_⟩));rw[Around.under_plain (weight_type_call_type "set" [.ref l] []) (by rfl)]
 repeat (any_goals (first|assumption|wp_step))
 refine bCF (code_set_new_1 (.ref l) (Q₁:=λobj s1=>∃led:Bool,obj=.ref s.heap.objs.size/\s1={ s with heap:=s.heap.push (bB led) }) (E:=E) λled=>⟨led,rfl,rfl⟩) λr s1 hr=>?_;rcases r with e|fl
 ·exact hr
 rcases fl with _|_|_|obj
 ·exact hr.elim
 ·exact hr.elim
 ·exact hr.elim
 obtain⟨led,rfl,rfl⟩:=hr;have hT:Shared.TypeIs { s with heap:=s.heap.push (bB led) } (.ref s.heap.objs.size) "set":=⟨_,j5 _ rfl,rfl⟩;have g6:=ft.init.lookup;have g7:=ft.init.bind (.ref s.heap.objs.size)
 repeat (any_goals (first|assumption|wp_step))
 refine bCF (bDB (R:=wants (λr s2=>r=.none/\∃h' tk,s2={ s with heap:=h',toks:=tk }/\dG prog w h' s.heap.objs.size ss/\∀b o,b<s.heap.objs.size->s.heap.get? b=some o->h'.get? b=some o) E)
  ft.init.plain F.entry_set_init (check_set_init_1 hT (aKs led (by first|exact hh|simp[hh]) hl hlen hval hb λh' tk x kp=>⟨rfl,h',tk,rfl,x,kp⟩))) λr2 s2 hr2=>?_
 rcases r2 with e|fl
 ·exact hr2
 rcases fl with _|_|_|v
 ·exact hr2.elim
 ·exact hr2.elim
 ·exact hr2.elim
 obtain⟨rfl,h',tk,rfl,x,kp⟩:=hr2
 repeat (any_goals (first|assumption|wp_step))
 exact q h' tk x kp
theorem aPq {D:Addr}{ss:List Str}{Q:bEY}(x:dG prog w s.heap D ss)(q:Q (.int ((nP ss).length:Nat) (s.toks+1)) { s with toks:=s.toks+1+1 }):wpAny (model prog w) A (call (.builtin "len") [.ref D]) Q E s:=by
 obtain⟨o,es,ep,t,ho,hex,hd,hel,hmem,hb,hf,hn⟩:=x;refine call_len_set ho hex hd hf ?_ ?_
 ·unfold scanBound at hb;lia
 ·rw[hn];exact q
end
end PySem
namespace L2
open PySem PySem.Spec PyProof.Rows
def aQx (P:Program)(w:World)(D:Addr)(ss:List Str):HO:=.ext λh=>dG P w h D ss
section
variable {X:Cx}
def aZr (P:Program)(w:World)(K:bEX):List V->Hp->VK->Prop:=λxs H Q=>∃(p:Addr) (ss:List Str),xs=[.ref p]/\SqL K H p (ss.map V.str)/\ss.length<=1000/\∀D,H D=none->Q (.ref D) (upd H D (aQx P w D ss))
theorem aMc (hc:X.calm=true):cI X (.type "set") (aZr X.prog X.w X.K):=by
 intro bE1 s σ H xs us Q I r h;obtain⟨p,ss,rfl,hq,hl,q⟩:=h;obtain⟨u,rfl,rx⟩:=r.one;cases rx;obtain⟨its,rv,pl,hz⟩:=I.list hq;have hlen:=rv.length;rw[j9] at hlen;refine aAk (I.ok.hd hc) pl.isList (by rw[j7];exact hlen) (λi v hv=>?_) (by rw[j7,<-hlen];unfold scanBound;lia) λh' tk x kp=>?_
 ·have hv':its[i]?=some v:=by simpa using hv
  have hi:i<ss.length:=by rw[hlen];exact (List.getElem?_eq_some_iff.mp hv').1
  obtain⟨u,hu,t,rfl⟩:=rv.get (i:=i) (x:=.str ss[i]) (by rw[v9,d7 hi];rfl);rw[hv'] at hu;cases hu;exact⟨t,by rw[j4,d7 hi];rfl⟩
 ·have e:∃o,h'.get? s.heap.objs.size=some o:=by obtain⟨o,_,_,_,ho,_⟩:=x;exact⟨o,ho⟩
  exact⟨.ref s.heap.objs.size,_,I.laid (o:=aQx X.prog X.w s.heap.objs.size ss) (λb o eo=>kp b o (m8 eo) eo) (j0 _) (show dG X.prog X.w h' s.heap.objs.size ss/\_/\_ from ⟨x,e,λh1 h2 y k=>y.at k⟩),rfl,q _ (I.hok.fresh (j0 _))⟩
theorem aKw:cI X (.builtin "len") (λxs H Q=>∃(D:Addr) (ss:List Str),xs=[.ref D]/\H D=some (aQx X.prog X.w D ss)/\Q (.int ((nP ss).length:Nat)) H):=by intro bE1 s σ H xs us Q I r h;obtain⟨D,ss,rfl,hD,q⟩:=h;obtain⟨u,rfl,rx⟩:=r.one;cases rx;obtain⟨x,_⟩:=I.hok D _ hD;exact aPq x ⟨.int ((nP ss).length:Nat),H,I.tok _,⟨_,rfl⟩,q⟩
end
theorem jT {X:Cx}{scope:Scope}{x y:Str}{σ:St}{v:V}(j:Nat)(hf:(y,NameKind.free)∈scope.names)(hj:X.N[j]?=some y)(hs:σ[j]?=some (some v))(hv:Vis X.env.scope y):Cap X scope [x,y] σ [none,some v]:=
 ⟨rfl,λi z u h1 h2=>by
  match i,h1,h2 with
  |0,_,h2=>cases h2
  |1,h1,h2=>cases h1;cases h2;exact⟨hf,j,hj,hs,hv⟩
  |i+2,h1,_=>cases h1⟩
theorem rR {X:Cx}{scope:Scope}{x y:Str}{σ:St}:Cap X scope [x,y] σ [none,none]:=⟨rfl,λi z u h1 h2=>by
  match i,h1,h2 with
  |0,_,h2=>cases h2
  |1,_,h2=>cases h2
  |i+2,h1,_=>cases h1⟩
section
variable {X:Cx}{a b e:Expr}{es:List Expr}{te:TE}{t:TA}{pos p:Pos}{x:Str}
theorem aVl {k:Nat}(hr:Room k X.A)(hf:VE X (.Name x p) te)(ha:VA X (e::es) t)(hp:dB e=true:=by rfl)(hpl:(backTo pos (starEach es X.env)).any (·.1)=false:=by rfl) :
  VE X (.Call (.Name x p) (e::es) [] pos) (aSx X.prog X.w X.K X.mg X.base k te t):=⟨aUc hr hf.1 ha.1 (aQ hp) hpl⟩
theorem aSm {P:Program}{w:World}{K:bEX}{mg:bE0}{base:Heap}{k:Nat}(hr:Room k X.A)(hf:VE X (.Name x p) te)(ha:VA X (e::es) t)(hp:dB e=true:=by rfl)(hpl:(backTo pos (starEach es X.env)).any (·.1)=false:=by rfl)
  (h1:X.prog=P:=by rfl) (h2:X.w=w:=by rfl) (h3:X.K=K:=by rfl) (h4:X.mg=mg:=by rfl) (h5:X.base=base:=by rfl) :
  VE X (.Call (.Name x p) (e::es) [] pos) (aSx P w K mg base k te t):=by
 subst h1 h2 h3 h4 h5;exact aVl hr hf ha hp hpl
theorem bO {K:bEX}(h:X.K=K:=by rfl):IxR X (bAz K):=by subst h;exact bH
theorem sE {K:bEX}{k:Nat}{u:TGs}{n:Nat}(hc:X.calm=true)(h:VGs X es u)(hn:(assignEach es X.env).length=n:=by rfl)(hst:(assignEach es X.env).findIdx? (·.1)=none:=by rfl)(hK:X.K=K:=by rfl):VG X (.Tuple es k pos) (aJ3 K n u):=by subst hK;exact xX hc h hn hst
theorem aVs {elts:List Expr}{kt:Nat}{tp:Pos}(hg:Gl X "zip")(hm:X.mg "zip"=none)(ha:VA X [a,b] t)(hp:dB a=true:=by rfl)(hp2:dB b=true:=by rfl) :
  VI X (.Tuple elts kt tp) (.Call (.Name "zip" p) [a,b] [] pos) (aQ9 X.K t):=⟨aUn hg hm ha.1 (aQ hp) (aQ (es:=[]) hp2)⟩
theorem qK {tg:Expr}{g:TG}(he:VE X e te)(hg:VG X tg g)(hs:swapsWithSole [tg] e pos.line X.env=pure false:=by rfl)(hw:swappedStores [tg] e X.env=pure none:=by rfl)
  (h1:(assignEach [tg] X.env).map (·.2)=[assign tg X.env]:=by rfl):VS X (.Assign [tg] e pos) (zA te g):=⟨aXs he.1 hg.1 hs hw h1⟩
end
section
variable {X:Cx}
def bBl:V->Option Int->Option Int->Hp->VK->Prop:=λx lo hi H Q=>∃z,x=.str z/\z.length<=sizeLine/\Q (.str (Txt.slice z lo hi)) H
theorem aFs:SlR X bBl:=by
 intro bE1 s σ H x v vl vu lo hi sl Q I rx hs pl pu h;obtain⟨z,rfl,hz,q⟩:=h;obtain⟨t,rfl⟩:=rx;have fin:∀l u:Option (Int × Tok),l.map (·.1)=lo->u.map (·.1)=hi->s.heap.IsSlice sl l u none->wpAny (model X.prog X.w) X.A (getItem (.str z t) (.ref sl)) (EP X bE1 σ Q) X.xe s:=λl u e1 e2 hsl=>by subst e1 e2;refine wpAny_getItem_str_slice (st:=none) hsl rfl ?_;unfold sliceMade;have hle:=Txt.slice_le z (l.map (·.1)) (u.map (·.1));exact post_val_or_str ⟨bAL hle hz,λt' k=>⟨.str (Txt.slice z (l.map (·.1)) (u.map (·.1))),H,I.tok _,⟨_,rfl⟩,q⟩⟩
 refine⟨"str",_,F.slot_str_getitem.lookup,typeIs_str _ _ _,?_⟩;obtain⟨o,ho,hc,hd⟩:=hs;cases pl with
 |none=>
  cases pu with
  |none=>exact fin none none rfl rfl ⟨o,ho,hc,hd⟩
  |int j u=>exact fin none (some (j,u)) rfl rfl ⟨o,ho,hc,hd⟩
 |int i t=>
  cases pu with
  |none=>exact fin (some (i,t)) none rfl rfl ⟨o,ho,hc,hd⟩
  |int j u=>exact fin (some (i,t)) (some (j,u)) rfl rfl ⟨o,ho,hc,hd⟩
end
theorem aRl {x:Str}{j:Nat}(h:j<=x.length):(Txt.slice x none (some (j:Int))).cps.toList=x.cps.toList.take j:=by have e:=StrLaws.sliceText_to (x:=x) (j:=(j:Int)) ⟨by lia,by rw[t7];exact Int.ofNat_le.mpr h⟩;show (StrLaws.sliceText x none (some (j:Int))).cps.toList=_;rw[e];simp
theorem aJ8 {x:Str}{j:Nat}(h:j<=x.length):(Txt.slice x (some (j:Int)) none).cps.toList=x.cps.toList.drop j:=by have e:=StrLaws.sliceText_from (x:=x) (i:=(j:Int)) ⟨by lia,by rw[t7];exact Int.ofNat_le.mpr h⟩;show (StrLaws.sliceText x (some (j:Int)) none).cps.toList=_;rw[e];simp only[bAY];refine bAW ?_;rw[bBW];lia
def put (x:Str)(a:Nat)(c:Nat):Str:=Txt.slice x none (some (a:Int))++⟨#[c]⟩++Txt.slice x (some (a:Int)) none
theorem aGr {x:Str}{a c:Nat}(h:a<=x.length):(put x a c).cps.toList=x.cps.toList.take a++c::x.cps.toList.drop a:=by show ((Txt.slice x none (some (a:Int))).cps++#[c]++(Txt.slice x (some (a:Int)) none).cps).toList=_;rw[bCX,bCX,aRl h,aJ8 h];simp
theorem aV5 {x:Str}{a c d:Nat}(h:a<=x.length)(e:put x a c=put x a d):c=d:=by have e1:=congrArg (λy:Str=>y.cps.toList) e;simp only[aGr h] at e1;have e2:=List.append_cancel_left e1;exact (List.cons.inj e2).1
theorem aWg {x:Str}{a c:Nat}(h:a<=x.length):(put x a c).length=x.length+1:=by
 have e:=congrArg List.length (aGr (c:=c) h);have l:x.length=x.cps.toList.length:=by rw[t7];rfl
 rw[t7,bAG,v7,bAM,bBW] at e;show (put x a c).cps.size=_;lia
theorem aV1 {x:Str}{a c d:Nat}(h:a<=x.length)(m:d∈(put x a c).cps):d=c\/d∈x.cps:=by
 have m1:d∈(put x a c).cps.toList:=Array.mem_toList_iff.mpr m;rw[aGr h] at m1;rcases List.mem_append.mp m1 with z|z
 ·exact .inr (Array.mem_toList_iff.mp (bCT z))
 ·rcases List.mem_cons.mp z with z|z
  ·exact .inl z
  ·exact .inr (Array.mem_toList_iff.mp (List.mem_of_mem_drop z))
section
variable {X:Cx}{scope:Scope}{N:List Str}{wi:TI}{te:TE}{σ:St}{H:Hp}{Q:VK}
end
section
variable {X:Cx}{e:Expr}{es:List Expr}{t:TA}{pos:Pos}
def bAi (t:TA):TE:=fun σ H Q=>t σ H λxs H1=>xs.length<=sizeLine/\∀p H',H1 p=none->Same H1 H'->H' p=some (.tup xs)->Q (.ref p) H'
def bAp (t:TA):TE:=fun σ H Q=>t σ H λxs H1=>xs.length<=sizeLine/\∀p H',H1 p=none->Same H1 H'->H' p=some (.lst xs)->Q (.ref p) H'
def aZb:TE:=λ_ H Q=>∀p H',H p=none->Same H H'->H' p=some (.dK [])->Q (.ref p) H'
theorem dZ {x1}(h:VA X es t):VE X (.Tuple es x1 pos) (bAi t):=⟨by intro bE1 s σ H Q I hq;refine wpAny_Tuple_spliced (thn (h.1 pos bE1 s σ H _ I hq) λus s1 ⟨xs,H1,I1,r,z,q⟩=>⟨by rw[<-r.length];exact z,?_⟩);have hf:H1 s1.heap.objs.size=none:=I1.hok.fresh (j0 _);refine⟨.ref s1.heap.objs.size,upd H1 s1.heap.objs.size (.tup xs),I1.laid (t':=s1.toks) (λb u e=>d8 _ e) (j0 _) ?_,rfl,q _ _ hf (aW hf _) aH⟩;exact⟨z,us,r,.of (j5 _ rfl) rfl ⟨_,j5 _ rfl,rfl,_,rfl⟩⟩⟩
theorem fP (h:VA X es t):VE X (.List es pos) (bAp t):=⟨by intro bE1 s σ H Q I hq;refine wpAny_List_spliced (thn (h.1 pos bE1 s σ H _ I hq) λus s1 ⟨xs,H1,I1,r,z,q⟩=>⟨by rw[<-r.length];exact z,?_⟩);have hf:H1 s1.heap.objs.size=none:=I1.hok.fresh (j0 _);refine⟨.ref s1.heap.objs.size,upd H1 s1.heap.objs.size (.lst xs),I1.laid (t':=s1.toks) (λb u e=>d8 _ e) (j0 _) ?_,rfl,q _ _ hf (aW hf _) aH⟩;exact⟨z,us,0,r,j5 _ rfl⟩⟩
theorem aQc:VE X (.Dict [] [] pos) aZb:=VE.imp aSl fun σ H Q h p hp=>h p _ hp (aW hp _) aH
theorem OpR.imp {f:Value->Value->Sem Value}{r r':R2}(h:OpR X f r)(k:∀x y H Q,r' x y H Q->r x y H Q):OpR X f r':=λbE1 s σ H x y v u Q I rx ry q=>h bE1 s σ H x y v u Q I rx ry (k _ _ _ _ q)
theorem cI.imp {f:Value}{r r':List V->Hp->VK->Prop}(h:cI X f r)(k:∀xs H Q,r' xs H Q->r xs H Q):cI X f r':=λbE1 s σ H xs us Q I rv q=>h bE1 s σ H xs us Q I rv (k _ _ _ q)
def bA2 (K:bEX):R2:=λx y H Q=>∃a b xs ys,x=.ref a/\y=.ref b/\SqT K H a xs/\SqT K H b ys/\xs.length+ys.length<=sizeLine/\∀r H',Same H H'->SqT K H' r (xs++ys)->Q (.ref r) H'
theorem aTw:OpR X (binaryOp .Add) (bA2 X.K):=OpR.imp (aU5.or aT6) λx y H Q ⟨a,b,xs,ys,ex,ey,ha,hb,hz,q⟩=>by
 by_cases h:xs=[]
 ·subst h;exact .inr ⟨a,b,ys,ex,ey,ha,hb,q b H (Same.refl H) hb⟩
 ·refine .inl ⟨a,b,xs,ys,ex,ey,ha,hb,h,hz,λz=>?_,λ_ p hp=>q p _ (aW hp _) (SqT.of aH)⟩;subst z;exact q a H (Same.refl H) (by rw[bB9];exact ha)
def bBx (K:bEX):V->Option Int->Option Int->Hp->VK->Prop:=λx lo hi H Q=>∃a xs,x=.ref a/\SqT K H a xs /\
 ¬ (HT.sIx xs.length 0 lo=0/\HT.sIx xs.length xs.length hi=xs.length)/\∀p H',Same H H'->H' p=some (.tup (pH xs lo hi))->Q (.ref p) H'
theorem aMl:SlR X (bBx X.K):=λbE1 s σ H x v vl vu lo hi sl Q I rx hs pl pu ⟨a,xs,e,ha,hn,q⟩=>
 aX2 bE1 s σ H x v vl vu lo hi sl Q I rx hs pl pu ⟨a,xs,e,ha,hn,λp hp=>q p _ (aW hp _) aH⟩
def aX5:R2:=λx y H Q=>∃l b xs zs,x=.ref l/\y=.ref b/\H l=some (.lst xs)/\H b=some (.lst zs)/\xs.length+zs.length<=sizeLine/\∀p H',H p=none->Same H H'->H' p=some (.lst (xs++zs))->Q (.ref p) H'
theorem vG:OpR X (binaryOp .Add) aX5:=OpR.imp aY9 λx y H Q ⟨l,b,xs,zs,ex,ey,hl,hb,hz,q⟩=>⟨l,b,xs,zs,ex,ey,hl,hb,hz,λp hp=>q p _ hp (aW hp _) aH⟩
def aQa (K:bEX):List V->Hp->VK->Prop:=λxs H Q=>∃p ys,xs=[.ref p]/\(SqL K H p ys\/SqT K H p ys)/\∀l H',H l=none->Same H H'->H' l=some (.lst ys)->Q (.ref l) H'
theorem aB6:cI X (.type "list") (aQa X.K):=cI.imp aGd λxs H Q ⟨p,ys,e,h,q⟩=>⟨p,ys,e,h,λl hl=>q l _ hl (aW hl _) aH⟩
def aU0 (K:bEX):List V->Hp->VK->Prop:=λxs H Q=>∃p ys,xs=[.ref p]/\SqL K H p ys/\∀l H',H l=none->Same H H'->H' l=some (.tup ys)->Q (.ref l) H'
theorem rB:cI X (.type "tuple") (aU0 X.K):=cI.imp aCy λxs H Q ⟨p,ys,e,h,q⟩=>⟨p,ys,e,.inl ⟨h,λl hl=>q l _ hl (aW hl _) aH⟩⟩
theorem uJ:MtR X "list.append" aMw:=yG
theorem lV {H H':Hp}{D:Addr}{o:HO}(f:H D=none)(s:Same H H'):Same H (upd H' D o):=λb u e=>by rw[aN (aU e f)];exact s _ _ e
end
end L2
namespace PySem
section
variable {prog:Program}{w:World}{A:Around}{E:bEY}{s:Shared}{T:String}{r d:Addr}{n:Nat}{P:Nat->Value->Prop}{OK:Heap->Prop}
end
end PySem
namespace L2
open PySem PySem.Spec PyProof.Rows
section
variable {X:Cx}
end
section
variable {X:Cx}{bE1:bEZ}{σ:St}{H:Hp}{s:Shared}
theorem Inv.jM {t b:Addr}{xs:List V}(I:Inv X bE1 σ H s)(h:SqL X.K H t xs)(f:sV X bE1 H b):t≠b:=by
 rintro rfl;obtain⟨f0,f1,f2,f3,_⟩:=f;rcases h with (h|⟨o,h⟩)|⟨o,its,n,hk,_⟩
 ·rw[f0] at h;cases h
 ·rw[f0] at h;cases h
 ·have e:=I.ok.mod.kin t o hk;rcases f3 with z|z
  ·exact I.ok.noex t o e z
  ·exact absurd (bAA (m8 e) (bAL I.ok.bsz z)) (bBN _)
end
def Ite (K:bEX)(l:Addr)(xs:List V):It:=
 ⟨λi H=>SqL K H l xs/\i<xs.length,λi H v H'=>∃T a,H T=none/\v=.ref T/\H'=upd H T (.tup [.int (i:Nat),a])/\xs[i]?=some a,λi H=>SqL K H l xs/\xs.length<=i⟩
def etn (e it l:Addr)(i:Nat)(h:Heap):Prop:=(∃old,IsEnum h e it (i:Int) old)/\h.IsListIter it l i
theorem aPz {P:Program}{w:World}{K:bEX}{elts:List Expr}{kt:Nat}{pos:Pos}{e it l:Addr}{xs:List V}(hne:e≠it) :
  Turn P w K (.Tuple elts kt pos) (Ite K l xs) [e,it] e (etn e it l) where
 mem:=by simp
 obj:=λi h st b hb=>by
  obtain⟨⟨old,e1⟩,o,e2,c2,d2⟩:=st;simp only[bAB,w6,or_false] at hb;rcases hb with rfl|rfl
  ·exact⟨_,e1,λv z=>by cases (show Data.fields _=Data.cell v from z)⟩
  ·exact⟨_,e2,λv z=>by rw[d2] at z;cases z⟩
 keep:=λi h h' st k=>by obtain⟨⟨old,e1⟩,o,e2,r⟩:=st;exact⟨⟨old,k e (by simp) _ e1⟩,o,k it (by simp) _ e2,r⟩
 item:=by
  intro X hP hw hK hc i bE1 s σ H E I hf st hg;subst hP hw hK;obtain⟨⟨old,e1⟩,e2⟩:=st;obtain⟨hl,l1⟩:=hg;obtain⟨its,rv,pl,hz⟩:=I.list hl;obtain⟨x,hx,rx⟩:=rv.get (d7 l1);have fe:=hf e (by simp);have fi:=hf it (by simp);refine wpAny_pyNext_enum_item e1 e2 pl.isList (by simpa using hx) hne λh' a1 a2 a3 a4 kp=>?_;refine⟨_,rfl,?_⟩;have fT:H s.heap.objs.size=none:=I.hok.fresh (j0 _);obtain⟨oi,e2',_⟩:=id e2;obtain⟨oi2,a2',_⟩:=id a2;have I1:Inv X bE1 σ (upd H s.heap.objs.size (.tup [.int (i:Nat),xs[i]])) { s with heap:=h' }:=by
   refine I.drawn (ch:=[e,it]) (its:=[.int i s.toks,x]) (λb hb=>hf b hb) (λb o hb z=>?_) (j0 _) (.cons ⟨_,rfl⟩ (.cons rx .nil)) (small (by simp)) (.of a3 rfl ⟨_,a3,rfl,_,rfl⟩) (λb hb=>?_)
   ·simp only[bAB,w6,or_false,not_or] at hb;exact kp b o hb.1 hb.2 z
   ·simp only[bAB,w6,or_false] at hb;rcases hb with rfl|rfl
    ·exact⟨_,a1⟩
    ·exact⟨_,a2'⟩
  have I1':Inv X bE1 σ (upd H s.heap.objs.size (.tup [.int (i:Nat),xs[i]])) { s with heap:=h',toks:=s.toks+1 }:=I1.tok _;have nT:∀b∈[e,it],b≠s.heap.objs.size:=λb hb=>by
   simp only[bAB,w6,or_false] at hb;rcases hb with rfl|rfl
   ·exact v4 (m8 e1)
   ·exact v4 (m8 e2')
  refine wpAny_letOwnedTupleGo_enum (s:={ s with heap:=h',toks:=s.toks+1 }) a1 λh2 z2 s2=>?_;obtain⟨g0,g1,g2,g3,g4,g5⟩:=fe;have I2:Inv X bE1 σ (upd H s.heap.objs.size (.tup [.int (i:Nat),xs[i]])) { s with heap:=h2,toks:=s.toks+1 }:=Inv.turned (s:={ s with heap:=h',toks:=s.toks+1 }) I1' (t':=s.toks+1) (it:=e) (λb o hb z=>(s2.2 b hb).trans z) (by rw[aN (nT e (by simp))];exact g0) g1 g3 g4 g5;refine⟨.ref s.heap.objs.size,_,I2,rfl,⟨_,_,fT,rfl,rfl,d7 l1⟩,⟨⟨x,?_⟩,?_⟩,λb hb=>by rw[aN (nT b hb)];exact (hf b hb).1⟩
  ·rw[show ((i+1:Nat):Int)=(i:Int)+1 from by lia];exact z2
  ·obtain⟨o,ho,r⟩:=a2;exact⟨o,(s2.2 it (Ne.symm hne)).trans ho,r⟩
 done:=by intro X hP hw hK hc i bE1 s σ H E I hf st hg;subst hP hw hK;obtain⟨⟨old,e1⟩,e2⟩:=st;obtain⟨hl,hi⟩:=hg;obtain⟨its,rv,pl,hz⟩:=I.list hl;have hlen:=rv.length;refine wpAny_pyNext_enum_end (I.ok.hd hc) e1 e2 pl.isList (by simp;lia) λh' kp=>⟨rfl,?_⟩;refine Inv.aEs (ch:=[it]) I (λb hb=>hf b (j6 _ hb)) λb o hb z=>kp b o (by simpa using hb) z
 self:=λ_ _ _ _ _ st h=>by obtain⟨⟨old,e1⟩,_⟩:=st;exact wpAny_pyIter_enum e1 h
section
variable {X:Cx}
def aXe (K:bEX)(ta:TA):TI:=fun σ H R=>ta σ H λvs H1=>∃l xs,vs=[.ref l]/\SqL K H1 l xs/\R (Ite K l xs) H1
theorem aUu {elts:List Expr}{kt:Nat}{tp:Pos}{a:Expr}{ta:TA}{p pos:Pos}(hg:Gl X "enumerate")(hm:X.mg "enumerate"=none)(ha:PA X [a] ta)(hs:starEach [a] X.env=[(false,eval a X.env)]:=by rfl) :
  PI X (.Tuple elts kt tp) (.Call (.Name "enumerate" p) [a] [] pos) (aXe X.K ta):=by
 intro bE1 s σ H R I h;refine Call_ (pR I hg hm aFg (bBP (thn (ha pos bE1 s σ H _ I h) λus s1 ⟨vs,H1,I1,r1,q1⟩=>?_) hs (by rfl)));obtain⟨l,xs,e,hl,q⟩:=q1;subst e;obtain⟨its,rv,pl,hz⟩:=I1.list hl;obtain⟨u,rfl,ru⟩:=vals1 r1;cases ru;refine call_enumerate_list pl.isList λh' a1 a2 a3 kp=>?_;have I2:Inv X bE1 σ H1 { s1 with heap:=h' }:=I1.kept (t':=s1.toks) kp;refine wpAny_pyIter_enum (s:={ s1 with heap:=h' }) a1 ⟨_,_,_,_,H1,rfl,I2,aPz (xs:=xs) (l:=l) (bCL (bCC _)),⟨⟨_,a1⟩,a2⟩,λb hb=>?_,q⟩;have hb':s1.heap.objs.size<=b:=by
  simp only[bAB,w6,or_false] at hb;rcases hb with rfl|rfl
  ·exact bDS _
  ·exact j0 _
 exact I1.aFp hb' (I1.hok.fresh hb')
theorem aRa {K:bEX}{l:Addr}{xs:List V}{g:TG}{tb:TS}{D:Ends}{σ:St}{H:Hp}(Pv:Nat->St->Hp->Prop)(h0:Pv 0 σ H)(hl:∀i σ H,i<=xs.length->Pv i σ H->SqL K H l xs)
  (hs:∀i σ H a T H',xs[i]?=some a->Pv i σ H->H T=none->H'=upd H T (.tup [.int (i:Nat),a])->g (.ref T) σ H' fun σ2 H2=>tb { D with nx:=Pv (i+1),ct:=Pv (i+1),bk:=D.nx } σ2 H2) (hd:∀σ H,Pv xs.length σ H->D.nx σ H) :
  ∃W:Nat->Nat->St->Hp->Prop,(∃m,W 0 m σ H)/\∀i m σ H,W i m σ H ->
   ((Ite K l xs).stop i H/\D.nx σ H)\/((Ite K l xs).go i H/\∃N:St->Hp->Prop,(∀σ' H',N σ' H'->∃m',m'<m/\W (i+1) m' σ' H')/\∀x H',(Ite K l xs).yld i H x H'->g x σ H' fun σ2 H2=>tb { D with nx:=N,ct:=N,bk:=D.nx } σ2 H2):=by
 refine⟨λi m σ H=>m=xs.length - i/\i<=xs.length/\Pv i σ H,⟨xs.length,by simp,bAE _,h0⟩,?_⟩;rintro i m σ H ⟨rfl,hi,p⟩;by_cases hlt:i<xs.length
 ·refine .inr ⟨⟨hl i σ H hi p,hlt⟩,Pv (i+1),fun σ' H' p'=>⟨xs.length - (i+1),by lia,rfl,hlt,p'⟩,λx H' y=>?_⟩;obtain⟨T,a,hT,rfl,e,ha⟩:=y;exact hs i σ H a T H' ha p hT e
 ·have e:i=xs.length:=by lia
  subst e;exact .inl ⟨⟨hl _ σ H hi p,j0 _⟩,hd σ H p⟩
end
section
variable {X:Cx}{a c e:Expr}{st:Stmt}{body:List Stmt}{tc:TT}{tb:TS}{t:TA}{te:TE}{pos p:Pos}
theorem fX:VS X st aQj:=⟨aTr⟩
theorem aWo {elts:List Expr}{kt:Nat}{tp:Pos}(hg:Gl X "enumerate")(hm:X.mg "enumerate"=none)(ha:VA X [a] t)(hp:dB a=true:=by rfl) :
  VI X (.Tuple elts kt tp) (.Call (.Name "enumerate" p) [a] [] pos) (aXe X.K t):=⟨aUu hg hm ha.1 (aQ (es:=[]) hp)⟩
theorem aX0 {o:Expr}{to:TE}{name:Str}{apos cpos:Pos}{T id:String}{r:V->List V->Hp->VK->Prop}(pa:PlainAttrs T)(slot:Slot T name id)(hty:typeOf (.builtin id)=pure (.type "method_descriptor"))(hm:MtR X id r)(ho:VE X o to)
  (hbase:attributeBase o name X.env (eval o X.env)=eval o X.env:=by rfl) (hline:(apos.endLine == cpos.line)=true:=by rfl):VE X (.Call (.Attribute o name apos) [] [] cpos) (bA0 X.K T r to):=⟨aZh pa slot hty hm ho.1 hbase hline⟩
end
section
variable {P:Program}{w:World}{K:bEX}{mg:bE0}{base:Heap}
end
section
variable {X:Cx}{scope:Scope}{N:List Str}{wi:TI}{te:TE}{σ:St}{H:Hp}{Q:VK}
theorem aOy (xs:List V)(Rel:Nat->Hp->V->Prop)(st:∀{i H1 H2 y},Same H1 H2->Rel i H1 y->Rel i H2 y)(su:∀{i H1 D ys zs y},H1 D=some (.lst ys)->Rel i H1 y->Rel i (upd H1 D (.lst zs)) y)
  (σ0:St) (cap:Cap X scope N σ σ0) (hsz:xs.length<=sizeLine)
  (hw:∀R:It->Hp->Prop,(∀J:It,(∀H' i x,Same H H'->xs[i]?=some x->J.go i H'/\∀y H2,J.yld i H' y H2->H2=H'/\y=x)->(∀H',Same H H'->J.stop xs.length H')->R J H)->wi σ H R)
  (he:∀(i:Nat) (x:V),xs[i]?=some x->∀H' R l,Same H H'->(∀y H2,Same H' H2->Rel i H2 y->R y H2)->te ((σ0.set 0 l).set 0 (some x)) H' R) (h0:σ0[0]?=some none)
  (q:∀D H' ys,Same H H'->H' D=some (.lst ys)->ys.length=xs.length->(∀(i:Nat) (y:V),ys[i]?=some y->Rel i H' y)->Q (.ref D) H') :
  kZ X scope N wi (cB 0) nZ te σ H Q:=by
 refine⟨σ0,cap,hw _ λJ go stop D hD=>?_⟩;refine⟨λi m σ' H' ys=>i<=xs.length/\m=xs.length - i/\(∃l,σ'=σ0.set 0 l)/\Same H H'/\H' D=some (.lst ys)/\ys.length=i/\∀(j:Nat) (y:V),ys[j]?=some y->Rel j H' y,⟨xs.length,bAE _,rfl,⟨none,lL h0⟩,aW hD _,aH,rfl,λj y e=>by simp at e⟩,?_⟩;rintro i m σ' H' ys ⟨hi,rfl,⟨l,rfl⟩,sm,hL,hl,hR⟩;refine⟨hL,?_⟩;by_cases hlt:i<xs.length
 ·right;obtain⟨g1,g2⟩:=go H' i xs[i] sm (d7 hlt);refine⟨g1,λx H2 hy=>?_⟩;obtain⟨rfl,rfl⟩:=g2 x H2 hy;unfold cB nZ;dsimp only;rw[if_pos rfl];refine he i xs[i] (d7 hlt) _ _ l sm λy H3 s3 r3=>⟨s3 _ _ hL,by lia,xs.length - (i+1),by lia,hlt,rfl,⟨some xs[i],?_⟩,?_,aH,?_,?_⟩
  ·rw[bB5]
  ·intro b o e;rw[aN (aU e hD)];exact s3 _ _ (sm _ _ e)
  ·rw[bAG,bD6,hl]
  ·intro j z ez;refine su (s3 _ _ hL) ?_;by_cases hj:j<ys.length
   ·rw[bBK hj] at ez;exact st s3 (hR j z ez)
   ·rw[bBG (by lia)] at ez;have hj0:j - ys.length=0:=by
     by_cases z0:j - ys.length=0
     ·exact z0
     ·rw[bAC (by simp;lia)] at ez;cases ez
    have hj1:j=i:=by lia
    subst hj1;rw[hj0] at ez;cases ez;exact r3
 ·left;have e:i=xs.length:=by lia
  subst e;exact⟨stop _ sm,q D _ ys sm hL hl hR⟩
theorem aV9 (xs ys:List V)(hly:ys.length=xs.length)(σ0:St)(cap:Cap X scope N σ σ0)(hsz:xs.length<=sizeLine)
  (hw:∀R:It->Hp->Prop,(∀J:It,(∀H' i x,Same H H'->xs[i]?=some x->J.go i H'/\∀y H2,J.yld i H' y H2->H2=H'/\y=x)->(∀H',Same H H'->J.stop xs.length H')->R J H)->wi σ H R)
  (he:∀(i:Nat) (x y:V),xs[i]?=some x->ys[i]?=some y->∀H' R l,Same H H'->(∀H2,Same H' H2->R y H2)->te ((σ0.set 0 l).set 0 (some x)) H' R) (h0:σ0[0]?=some none)
  (q:∀D H',Same H H'->H' D=some (.lst ys)->Q (.ref D) H') :
  kZ X scope N wi (cB 0) nZ te σ H Q:=by
 refine aOy xs (λi _ y=>ys[i]?=some y) (λ_ h=>h) (λ_ h=>h) σ0 cap hsz hw (λi x ex H' R l sm r=>?_) h0 λD H' zs sm hD hl hR=>?_
 ·have hi:i<ys.length:=by rw[hly];exact (List.getElem?_eq_some_iff.mp ex).1
  exact he i x ys[i] ex (d7 hi) H' R l sm λH2 s2=>r _ H2 s2 (d7 hi)
 ·have e:zs=ys:=by
   refine bB4 λi=>?_;by_cases hi:i<zs.length
   ·rw[hR i zs[i] (d7 hi),d7 hi]
   ·rw[bAC (by lia),bAC (by lia)]
  subst e;exact q D H' sm hD
end
section
variable {X:Cx}{tg e o i:Expr}{te td ty:TE}{pos:Pos}
theorem zX (hu:X.A.units+1<cLine)(ho:VE X o td)(hi:VE X i ty)(hs:aZw i):VE X (.Subscript o i pos) (aW5 td ty):=⟨aVr hu ho.1 hi.1 hs⟩
end
theorem aD8 {X:Cx}{i o:Expr}{td ty:TE}{pos:Pos}(hu:X.A.units+1<cLine)(hi:VE X i ty)(ho:VE X o td)(h1:behindInMarks .NotIn o=false:=by first|exact nobehind _ (by decide) (by decide)|rfl):VT X (.Compare i [.NotIn] [o] pos) (tB (aNa ty td)):=⟨aSp (aOm hu hi.1 ho.1) h1⟩
end L2
namespace L2
open PySem PySem.Spec PyProof.Rows
def sel {α:Type}(p:Nat->Bool):Nat->List α->List α
 |_,[]=>[]
 |i,x::r=>if p i then x::sel p (i+1) r else sel p (i+1) r
theorem aA6 {α:Type}(p:Nat->Bool)(x:α):∀(k:Nat) (xs:List α),sel p k (xs++[x])=sel p k xs++(if p (k+xs.length) then [x] else [])
 |k,[]=>by show (if p k then x::sel p (k+1) [] else sel p (k+1) [])=[]++(if p (k+0) then [x] else []);rw[Nat.add_zero,bDN];rfl
 |k,y::r=>by
  show (if p k then y::sel p (k+1) (r++[x]) else sel p (k+1) (r++[x]))=(if p k then y::sel p (k+1) r else sel p (k+1) r)++_;rw[aA6 p x (k+1) r,v7,show k+1+r.length=k+(r.length+1) by lia]
  split <;> rfl
theorem aGv {α:Type}(p:Nat->Bool):∀(k:Nat) (xs:List α),(sel p k xs).length<=xs.length
 |_,[]=>j0 _
 |k,y::r=>by
  have:=aGv p (k+1) r;show (if p k then y::sel p (k+1) r else sel p (k+1) r).length<=r.length+1
  split
  ·rw[v7];lia
  ·lia
section
variable {X:Cx}{scope:Scope}{N:List Str}{wi:TI}{te:TE}{σ:L2.St}{H:Hp}{Q:VK}
end
theorem aVw {X:Cx}{i0:Nat}{x0:Str}{pos' spos:Pos}{elt target iter:Expr}{ifs:List Expr}{scope:Scope}{pos:Pos}{N:List Str}{wi:TI}{g:TG}{tt:TT}{te:TE}
  (hN:X.N.Nodup) (hi0:X.N[i0]?=some x0) (hx0:Loc X.env.scope x0) (C:aCh scope N) (hfr:∀y,(y,NameKind.free)∈scope.names->X.env.kindOf y=some .cell\/X.env.kindOf y=some .free) (hc:X.calm=true)
  (hi:PI X target iter wi)
  (hb:∀cl s H fp,PG (cxC X N scope cl s H fp) target g/\aQt (cxC X N scope cl s H fp) ifs tt/\PE (cxC X N scope cl s H fp) elt te)
  (hs:∀x,foldedSetIterable iter X.env x=pure x:=by intro _;rfl) (hsw:swapsWith (.ListComp elt [⟨target,iter,ifs,0⟩] scope pos) (some (.Name x0 pos')) spos.line X.env=pure true:=by rfl)
  (hf:X.fn x0=true\/X.env.scope.names.lookup x0=some .local:=by first|exact .inl rfl|exact .inr rfl|assumption) :
  PS X (.Assign [.Name x0 pos'] (.ListComp elt [⟨target,iter,ifs,0⟩] scope pos) spos) (zA (kZ X scope N wi g tt te) (cB i0)):=by
 intro bE1 s σ H Dn I hq;obtain⟨σ0,cap,hq⟩:=hq;obtain⟨cl,hcl,p1,p2⟩:=aCd (scope:=scope) (env:=X.env) (λy hy hk=>by obtain⟨n,k⟩:=y;cases hk;exact I.ok.has n (hfr n hy))
 rw[exec_Assign_Name_used _ _ _ _ hsw];refine c7 (bEW (c7 ?_));show wpAny _ X.A (do let _ <-comprehension (.ListComp elt [⟨target,iter,ifs,0⟩] scope pos) scope X.env _ (newList []) false (eval iter X.env) (some (assign (.Name x0 pos') X.env))) _ _ s;refine c7 (bBL (wpAny_comprehension_free (use:=some (assign (.Name x0 pos') X.env)) (Q:=λ_ s'=>SP X bE1 Dn .next s') rfl hs hcl C.kind C.names (thn (hi bE1 s σ H _ I hq) λxv s1 h1=>thn h1 λitv s2 h2=>?_))
  (λ_ s' hq=>d9 (d9 hq)) λ_ _ e=>e)
 obtain⟨it,fp,tn,J,H2,rfl,I2,T,st2,f2,q2⟩:=h2;refine bAJ (bEF C.cell (by intro y hy;simp at hy) (λh₁ hns₁ hsb₁=>?_) C.kind);dsimp only at hns₁ hsb₁ ⊢;have hD:H2 s2.heap.objs.size=none:=I2.hok.fresh (j0 _);have I3:Inv X bE1 σ (upd H2 s2.heap.objs.size (.lst [])) { s2 with heap:=s2.heap.push { cls:=.type "list",dict:=none,data:=.seq ([]:List Value).toArray } }:=
  I2.laid (t':=s2.toks) (λb u e=>d8 _ e) (j0 _) ⟨bAE _,[],0,.nil,j5 _ rfl⟩
 generalize hs3:({ s2 with heap:=s2.heap.push { cls:=.type "list",dict:=none,data:=.seq ([]:List Value).toArray } }:Shared)=s3 at I3;have hh3:s2.heap.push { cls:=.type "list",dict:=none,data:=.seq ([]:List Value).toArray }=s3.heap:=by rw[<-hs3]
 rw[hh3] at hns₁ hsb₁;have fl2:∀b∈fp,b<s2.heap.objs.size:=λb hb=>by obtain⟨o,e,_⟩:=T.obj _ _ st2 b hb;exact m8 e
 have fl3:∀b∈fp,b<s3.heap.objs.size:=λb hb=>by rw[<-hh3,bAX];exact bBE (fl2 b hb)
 have f3:∀b∈fp,sV X bE1 (upd H2 s2.heap.objs.size (.lst [])) b:=λb hb=>by obtain⟨f0,fr⟩:=f2 b hb;exact⟨by rw[aN (v4 (fl2 b hb))];exact f0,fr⟩
 have keep3:∀b o,s3.heap.get? b=some o->h₁.get? b=some o:=λb o e=>hsb₁.extBut b o (v4 (m8 e)) (d8 _ e);have I4:=aHt (tk:=s3.toks) I3 C hfr p1 p2 cap f3 fl3 hns₁ keep3;have st4:tn 0 h₁:=T.keep _ _ _ st2 λb hb o e=>keep3 b o (by rw[<-hh3];exact d8 _ e);obtain⟨W,⟨m0,w0⟩,turn⟩:=q2 s2.heap.objs.size hD;have fpc:∀{H':Hp},(∀b∈fp,H' b=none)->∀b∈fp,sV (cxC X N scope cl s3 (upd H2 s2.heap.objs.size (.lst [])) fp) [] H' b:=λ{H'} hn b hb=>by obtain⟨e1,e2⟩:=I4.ok.exf b hb;exact⟨hn b hb,e1,I4.ok.exfs b hb,.inl hb,e2,λp hp=>absurd (show p∈([]:bEZ) from hp) (by simp)⟩
 have loop:∀s4:Shared,s4={ s3 with heap:=h₁,toks:=s3.toks } ->
   codeAny (model X.prog X.w) X.A (.compLoop (.ListComp elt [⟨target,iter,ifs,0⟩] scope pos) 0 (.ref it) (.ref s2.heap.objs.size) (compEnvC scope cl s3.heap.objs.size X.env))
    (compPost (model X.prog X.w) X.A X.xe (some (assign (.Name x0 pos') X.env)) (λ_ s'=>SP X bE1 Dn .next s') (.ref s2.heap.objs.size) s3.heap.objs.size) s4:=by
  rintro s4 rfl;refine aEb (λn s'=>∃i σ' H' ys,Inv (cxC X N scope cl s3 (upd H2 s2.heap.objs.size (.lst [])) fp) [] σ' H' s'/\tn i s'.heap/\(∀b∈fp,H' b=none)/\W i n σ' H' ys) ?_ m0 ⟨0,σ0,_,[],I4,st4,λb hb=>(f3 b hb).1,w0⟩;rintro n s5 ⟨i,σ5,H5,ys,I5,st5,fr5,w5⟩;obtain⟨hacc,w5⟩:=turn i n σ5 H5 ys w5;have noE:∀{α:Type} {t:Sem α} {Q':α->Shared->Prop} {E':bEY} {s':Shared},wpAny (model X.prog X.w) X.A t Q' (λ_ _=>False) s'->wpAny (model X.prog X.w) X.A t Q' E' s':=λh=>bBL h (λ_ _ q=>q) λ_ _ z=>z.elim;rcases w5 with⟨stop,qn⟩|⟨go,step⟩
  ·refine noE (thn (T.done (cxC X N scope cl s3 (upd H2 s2.heap.objs.size (.lst [])) fp) rfl rfl rfl hc i [] s5 σ5 H5 _ I5 (fpc fr5) st5 stop) λr s6 ⟨hr,I6⟩=>?_);subst hr;obtain⟨m6,hn6,_⟩:=I6.loc;have kp:∀b o,b≠s3.heap.objs.size->s6.heap.get? b=some o->s6.heap.get? b=some o:=λb o hb e=>e;have ne3:∀b o,s3.heap.get? b=some o->b≠s3.heap.objs.size:=λb o e=>v4 (m8 e);have un:Un (frs X.stack) fp (upd H2 s2.heap.objs.size (.lst [])) H5 s3.heap s6.heap:=by
    have u:=I6.base;exact⟨λb o e n hb hx=>kp b o (ne3 b o e) (u.keep b o e n hb hx),λb o e n hb hx=>by
     obtain⟨sl,e1⟩:=u.slot b o e n hb hx;exact⟨sl,kp b _ (ne3 b o e) e1⟩,u.free,λb o e hx=>by
     obtain⟨o',e1⟩:=u.there b o e hx;exact⟨o',kp b _ (ne3 b o e) e1⟩,u.tups,u.frzs,u.tbls⟩
   have hok:HOk X.prog X.w H5 s6.heap:=λb u e=>by
    refine (I6.hok b u e).stay (λc v hc' q=>kp c v ?_ q) (λ_ q=>q) λ_ _ q=>q;have hfree:H5 s3.heap.objs.size=none:=I6.free;rintro rfl;rcases hc' with z|z
    ·rw[z] at hfree;rw[hfree] at e;cases e
    ·rw[hfree] at z;cases z
   have I7:Inv X bE1 σ H5 s6:=by refine I3.call' (s':=s6) I6.os un hok I6.bare λb hb=>?_;obtain⟨f0,f1,f2',f3',f4,f5⟩:=f3 b hb;exact⟨f3',f1,f4,f5⟩
   have hfree:H5 s3.heap.objs.size=none:=I6.free;obtain⟨g0,g1,g2,g3,g4,g5⟩:=I3.aFp (j0 _) hfree;show wpAny (model X.prog X.w) X.A (assign (.Name x0 pos') X.env (.ref s2.heap.objs.size)) _ _ s6;refine wpAny_assign_Name (aDl I7 hN hi0 hx0 (v:=.ref s2.heap.objs.size) rfl (λs8 I8 ⟨a,sb,ha⟩=>?_) hf);have nea:s3.heap.objs.size≠a:=by
    rcases ha with z|z
    ·rw[z];exact g1
    ·exact λe=>g4 x0 a z e.symm
   refine⟨m6,hn6.sameBut sb nea,λh' sb'=>?_⟩;exact⟨_,H5,Inv.turned I8 (t':=s8.toks) (it:=s3.heap.objs.size) (λb o hb e=>sb'.extBut b o hb e) g0 g1 g3 g4 g5,qn⟩
  ·refine noE (thn (T.item (cxC X N scope cl s3 (upd H2 s2.heap.objs.size (.lst [])) fp) rfl rfl rfl hc i [] s5 σ5 H5 (λ_ _=>False) I5 (fpc fr5) st5 go) λr s6 ⟨u,hr,h6⟩=>?_);subst hr;refine noE (thn h6 λ_ s7 ⟨x,H7,I7,r7,y7,st7,fr7⟩=>?_);obtain⟨hg,ht,he⟩:=hb cl s3 (upd H2 s2.heap.objs.size (.lst [])) fp;have I7':=I7.pinned (fpc fr7) (T.obj _ _ st7);have back:∀{σ8:St} {H8:Hp} {s8:Shared},Inv (cxC X N scope cl s3 (upd H2 s2.heap.objs.size (.lst [])) fp) ([]++xQ fp s7.heap) σ8 H8 s8->tn (i+1) s8.heap/\∀b∈fp,H8 b=none:=λ{σ8 H8 s8} I8=>
    ⟨T.keep _ _ _ st7 λb hb o e=>(I8.pin (b,o) (bAP _ (bAP _ (jJ hb e)))).1,λb hb=>by obtain⟨o,e,d⟩:=T.obj _ _ st7 b hb;exact (I8.pin (b,o) (bAP _ (bAP _ (jJ hb e)))).2.1⟩
   refine noE (thn (hg _ s7 σ5 H7 x u _ I7' r7 (step x H7 y7)) λ_ s8 ⟨σ8,H8,I8,q8⟩=>?_);refine noE (thn (ht _ s8 σ8 H8 _ I8 q8) λb s9 ⟨H9,I9,q9⟩=>?_);cases b with
   |false=>rw[if_neg t8] at q9 ⊢;obtain⟨_,m',hm,w9⟩:=q9;exact⟨m',hm,i+1,σ8,H9,ys,I9.lQ,(back I9).1,(back I9).2,w9⟩
   |true=>rw[if_pos rfl] at q9 ⊢;refine noE (thn (he _ s9 σ8 H9 _ I9 q9) λyv s10 ⟨y,H10,I10,r10,hacc10,hlen,m',hm,w10⟩=>?_);refine noE (thn (yG _ s10 σ8 H10 (.ref s2.heap.objs.size) [y] (.ref s2.heap.objs.size) [yv] (λ_ H11=>H11=upd H10 s2.heap.objs.size (.lst (ys++[y]))) I10 rfl (.cons r10 .nil) ⟨_,_,_,rfl,rfl,hacc10,hlen,rfl⟩) λ_ s11 ⟨z,H11,I11,_,e11⟩=>?_);subst e11;exact⟨m',hm,i+1,σ8,_,ys++[y],I11.lQ,(back I11).1,(back I11).2,w10⟩
 have fin:=codeAny_compStart_list (loop { s3 with heap:=h₁,toks:=s3.toks } rfl) (T.self _ _ _ _ _ st4 (loop { s3 with heap:=h₁,toks:=s3.toks } rfl));subst hs3;exact fin
theorem aGn {X:Cx}{i0:Nat}{x0:Str}{pos' spos:Pos}{elt target iter:Expr}{ifs:List Expr}{scope:Scope}{pos:Pos}{N:List Str}{wi:TI}{g:TG}{tt:TT}{te:TE}
  (hN:X.N.Nodup) (hi0:X.N[i0]?=some x0) (hx0:Loc X.env.scope x0) (C:aCh scope N) (hfr:∀y,(y,NameKind.free)∈scope.names->X.env.kindOf y=some .cell\/X.env.kindOf y=some .free) (hc:X.calm=true)
  (hi:VI X target iter wi)
  (hb:∀cl s H fp,VG (cxC X N scope cl s H fp) target g/\VF (cxC X N scope cl s H fp) ifs tt/\VE (cxC X N scope cl s H fp) elt te)
  (hs:∀x,foldedSetIterable iter X.env x=pure x:=by intro _;rfl) (hsw:swapsWith (.ListComp elt [⟨target,iter,ifs,0⟩] scope pos) (some (.Name x0 pos')) spos.line X.env=pure true:=by rfl)
  (hf:X.fn x0=true\/X.env.scope.names.lookup x0=some .local:=by first|exact .inl rfl|exact .inr rfl|assumption) :
  VS X (.Assign [.Name x0 pos'] (.ListComp elt [⟨target,iter,ifs,0⟩] scope pos) spos) (zA (kZ X scope N wi g tt te) (cB i0)):=
 ⟨aVw hN hi0 hx0 C hfr hc hi.1 (λcl s H fp=>⟨(hb cl s H fp).1.1,(hb cl s H fp).2.1.1,(hb cl s H fp).2.2.1⟩) hs hsw hf⟩
section
variable {te:TE}{H:Hp}{Q:VK}
theorem aMe (xs:List V)(Rel:Nat->Hp->V->Prop)(st:∀{i H1 H2 y},Same H1 H2->Rel i H1 y->Rel i H2 y)(su:∀{i H1 D ys zs y},H1 D=some (.lst ys)->Rel i H1 y->Rel i (upd H1 D (.lst zs)) y)
  (σ0:St) (hsz:xs.length<=sizeLine)
  (J:It) (go:∀H' i x,Same H H'->xs[i]?=some x->J.go i H'/\∀y H2,J.yld i H' y H2->H2=H'/\y=x) (stop:∀H',Same H H'->J.stop xs.length H')
  (he:∀(i:Nat) (x:V),xs[i]?=some x->∀H' R l,Same H H'->(∀y H2,Same H' H2->Rel i H2 y->R y H2)->te ((σ0.set 0 l).set 0 (some x)) H' R) (h0:σ0[0]?=some none)
  (q:∀D H' ys,Same H H'->H' D=some (.lst ys)->ys.length=xs.length->(∀(i:Nat) (y:V),ys[i]?=some y->Rel i H' y)->Q (.ref D) H') :
  ∀D,H D=none->∃W:Nat->Nat->St->Hp->List V->Prop,(∃m,W 0 m σ0 (upd H D (.lst [])) []) /\
   ∀i m σ' H' ys,W i m σ' H' ys->H' D=some (.lst ys)/\((J.stop i H'/\Q (.ref D) H')\/(J.go i H'/\∀x H2,J.yld i H' x H2->cB 0 x σ' H2 fun σ3 H3=>nZ σ3 H3 λb H4=>
    if b=true then te σ3 H4 λy H5=>H5 D=some (.lst ys)/\ys.length<sizeLine/\∃m',m'<m/\W (i+1) m' σ3 (upd H5 D (.lst (ys++[y]))) (ys++[y]) else H4 D=some (.lst ys)/\∃m',m'<m/\W (i+1) m' σ3 H4 ys)):=by
 intro D hD;refine⟨λi m σ' H' ys=>i<=xs.length/\m=xs.length - i/\(∃l,σ'=σ0.set 0 l)/\Same H H'/\H' D=some (.lst ys)/\ys.length=i/\∀(j:Nat) (y:V),ys[j]?=some y->Rel j H' y,⟨xs.length,bAE _,rfl,⟨none,lL h0⟩,aW hD _,aH,rfl,λj y e=>by simp at e⟩,?_⟩;rintro i m σ' H' ys ⟨hi,rfl,⟨l,rfl⟩,sm,hL,hl,hR⟩;refine⟨hL,?_⟩;by_cases hlt:i<xs.length
 ·right;obtain⟨g1,g2⟩:=go H' i xs[i] sm (d7 hlt);refine⟨g1,λx H2 hy=>?_⟩;obtain⟨rfl,rfl⟩:=g2 x H2 hy;unfold cB nZ;dsimp only;rw[if_pos rfl];refine he i xs[i] (d7 hlt) _ _ l sm λy H3 s3 r3=>⟨s3 _ _ hL,by lia,xs.length - (i+1),by lia,hlt,rfl,⟨some xs[i],?_⟩,?_,aH,?_,?_⟩
  ·rw[bB5]
  ·intro b o e;rw[aN (aU e hD)];exact s3 _ _ (sm _ _ e)
  ·rw[bAG,bD6,hl]
  ·intro j z ez;refine su (s3 _ _ hL) ?_;by_cases hj:j<ys.length
   ·rw[bBK hj] at ez;exact st s3 (hR j z ez)
   ·rw[bBG (by lia)] at ez;have hj0:j - ys.length=0:=by
     by_cases z0:j - ys.length=0
     ·exact z0
     ·rw[bAC (by simp;lia)] at ez;cases ez
    have hj1:j=i:=by lia
    subst hj1;rw[hj0] at ez;cases ez;exact r3
 ·left;have e:i=xs.length:=by lia
  subst e;exact⟨stop _ sm,q D _ ys sm hL hl hR⟩
end
section
variable {K:bEX}
theorem aK1 {a:Addr}{xs:List V}{H:Hp}(hS:∀H',Same H H'->SqL K H' a xs):∀H' i x,Same H H'->xs[i]?=some x->(Itl K a).go i H'/\∀y H2,(Itl K a).yld i H' y H2->H2=H'/\y=x:=λH' i x s e=>
 ⟨⟨xs,x,hS H' s,e⟩,λy H2 hy=>by obtain⟨e1,e2⟩:=hy;have e3:=e2 xs (hS H' s);rw[e] at e3;cases e3;exact⟨e1,rfl⟩⟩
theorem aAh {a:Addr}{xs:List V}{H:Hp}(hS:∀H',Same H H'->SqL K H' a xs):∀H',Same H H'->(Itl K a).stop xs.length H':=λH' s=>⟨xs,hS H' s,j0 _⟩
end
section
variable {X:Cx}{K:bEX}{scope:Scope}{N:List Str}{tl te:TE}{σ:L2.St}{H:Hp}{Q:VK}
theorem aPh (Pr:List V->Prop)(Rel:Nat->Hp->V->Prop)(st:∀{i H1 H2 y},Same H1 H2->Rel i H1 y->Rel i H2 y)(su:∀{i H1 D ys zs y},H1 D=some (.lst ys)->Rel i H1 y->Rel i (upd H1 D (.lst zs)) y)
  (σ0:L2.St) (cap:Cap X scope N σ σ0) (h0:σ0[0]?=some none)
  (hw:∀R:VK,(∀D H1 us,Same H H1->H1 D=some (.lst us)->Pr us->R (.ref D) H1)->tl σ H R)
  (hsz:∀us,Pr us->us.length<=sizeLine)
  (he:∀us,Pr us->∀(i:Nat) (x:V),us[i]?=some x->∀H' R l,Same H H'->(∀y H2,Same H' H2->Rel i H2 y->R y H2)->te ((σ0.set 0 l).set 0 (some x)) H' R)
  (q:∀us,Pr us->∀D H' ys,Same H H'->H' D=some (.lst ys)->ys.length=us.length->(∀(i:Nat) (y:V),ys[i]?=some y->Rel i H' y)->Q (.ref D) H') :
  kZ X scope N (aEj K tl) (cB 0) nZ te σ H Q:=
 ⟨σ0,cap,hw _ λD H1 us s1 g1 p=>⟨D,rfl,⟨us,SqL.of g1⟩,aMe us Rel st su σ0 (hsz us p) (Itl K D) (aK1 λH' sm=>SqL.of (sm _ _ g1)) (aAh λH' sm=>SqL.of (sm _ _ g1))
  (λi x ex H' R l sm r=>he us p i x ex H' R l (s1.trans sm) r) h0 λD2 H' ys sm=>q us p D2 H' ys (s1.trans sm)⟩⟩
end
theorem SqT.nU {K:bEX}{H:Hp}{a D:Addr}{xs ys zs:List V}(hD:H D=some (.lst ys))(h:SqT K H a xs):SqT K (upd H D (.lst zs)) a xs:=by
 rcases h with (h|⟨o,h⟩)|h
 ·exact .inl (.inl (by rw[aN (aIq h hD (by intro z;cases z))];exact h))
 ·exact .inl (.inr ⟨o,by rw[aN (aIq h hD (by intro z;cases z))];exact h⟩)
 ·exact .inr h
end L2
namespace PySem
end PySem
namespace L2
open PySem PySem.Spec PyProof.Rows
def classAt:Stmt->Nat->Stmt
 |.ClassDef _ _ _ body _ _ _ _ _ _ _,j=>body.getD j (.Pass ⟨0,0,0,0⟩)
 |st,_=>st
structure aVi (K:bEX)(mg:bE0)(x:Str)(C:Addr):Prop where
 at_:mg x=some (.ref C)
 cls:Cls K C
 mks:PySem.W.makesIn K C=true
 kp:PySem.W.keepIn K (.ref C)=true
def iD (K:bEX)(C:Addr)(m qual:Str)(st:Stmt)(ps:List Str):Prop:=∃f fd,Meth K C m f/\Fun K m qual st f fd/\Binds K fd ps []
section
variable {P:Program}{w:World}{K:bEX}{mg:bE0}{base:Heap}
def OkM (P:Program)(w:World)(K:bEX)(mg:bE0)(base:Heap)(C:Addr)(k:Nat)(m:Str)(ps:List Str)(sp:Sp):Prop:=
 ∃f fd,Cls K C/\Meth K C m f/\Binds K fd ps []/\lJ P w K mg base CX0 k f fd ps sp
theorem OkM.mono {C:Addr}{j k:Nat}{m:Str}{ps:List Str}{sp:Sp}(h:OkM P w K mg base C j m ps sp)(hj:j<=k):OkM P w K mg base C k m ps sp:=by obtain⟨f,fd,h1,h2,h3,h4⟩:=h;exact⟨f,fd,h1,h2,h3,h4.mono hj⟩
theorem OkM.ofV {C:Addr}{m qual:Str}{st:Stmt}{N ps:List Str}{k:Nat}{sp:Sp}(c:Cls K C)(D:iD K C m qual st ps)(S:aJ N ps (aD st))(len:∀vs H Q E,sp vs H Q E->vs.length=ps.length)
  (hbody:∀(f:Addr) (cdv:Value) (A:Around) (outer:List Env) (s:Shared) (H:Hp) (vs:List V) (Q:VK) (E:XK),Room k (A.deeper (envOfC qual (aD st) s.heap.objs.size f cdv))->sp vs H Q E ->
   ∃t,VSs (aBm CX0 P w K mg base N qual (aD st) f cdv A outer s H E).nox (eV st) t/\t { nx:=λ_ H'=>Q .non H',rt:=Q } (start N vs) H):OkM P w K mg base C (k+1) m ps sp:=by
 obtain⟨f,fd,hm,F,B⟩:=D;exact⟨f,fd,c,hm,B,Fun.okV F S len λcdv A outer s H vs Q E hr h=>hbody f cdv A outer s H vs Q E hr h⟩
def OkC (P:Program)(w:World)(K:bEX)(mg:bE0)(base:Heap)(C:Addr)(k:Nat)(x:Str)(ps:List Str)(sp:Sp):Prop:=
 ∃f fd,mg x=some (.ref C)/\Mk K C f/\Binds K fd ps []/\lJ P w K mg base CX0 k f fd ps sp
theorem OkC.mono {C:Addr}{j k:Nat}{x:Str}{ps:List Str}{sp:Sp}(h:OkC P w K mg base C j x ps sp)(hj:j<=k):OkC P w K mg base C k x ps sp:=by obtain⟨f,fd,h1,h2,h3,h4⟩:=h;exact⟨f,fd,h1,h2,h3,h4.mono hj⟩
theorem OkM.make {C:Addr}{k:Nat}{x:Str}{ps:List Str}{sp:Sp}(c:aVi K mg x C)(h:OkM P w K mg base C k "__init__" ps sp):OkC P w K mg base C k x ps sp:=by obtain⟨f,fd,h1,h2,h3,h4⟩:=h;exact⟨f,fd,c.at_,⟨c.mks,h2.at_,h2.fn,c.kp⟩,h3,h4⟩
end
section
variable {X:Cx}{e o value:Expr}{es:List Expr}{f m x:Str}{p pos pos' apos:Pos}{ta tv:TE}{t:TA}{C:Addr}{k:Nat}{ps:List Str}{sp:Sp}
theorem dU {K:bEX}(he:VE X e ta)(hb:attributeBase e f X.env (eval e X.env)=eval e X.env:=by rfl)(h:X.K=K:=by rfl):VE X (.Attribute e f pos) (bA4 K ta f):=by subst h;exact⟨aYi he.1 hb⟩
theorem aBv {K:bEX}(ha:VE X o ta)(hv:VE X value tv)(hs:swapsWith value (some (.Attribute o f pos')) pos.line X.env=pure false:=by rfl)(h:X.K=K:=by rfl):VS X (.Assign [.Attribute o f pos'] value pos) (bAw K ta tv f):=by subst h;exact⟨aZm ha.1 hv.1 hs⟩
theorem eE {pl:Sem Bool}(G:OkM X.prog X.w X.K X.mg X.base C k m ps sp)(hr:Room k X.A)(he:VE X o ta)(ha:VA X (e::es) t)
  (hp:dB e=true:=by rfl) (hpl:(backTo pos (starEach es X.env)).any (·.1)=false:=by rfl)
  (ht:eval (.Call (.Attribute o m apos) (e::es) [] pos) X.env=(do
   let ov <-eval o X.env
   standAt apos.atName
   let (f,first) <-holding [ov] (getMethod ov m pl)
   callWith pos f first (backTo pos (starEach (e::es) X.env)) (backToKw pos (keywordEach [] X.env))):=by rfl):VE X (.Call (.Attribute o m apos) (e::es) [] pos) (aMr C m sp [] E0 ta t):=by
 obtain⟨f,fd,h1,h2,h3,h4⟩:=G;exact⟨aUy he.1 h1 h2 h4 hr h3 .nil aDf ha.1 (aQ hp) hpl ht⟩
theorem aQm {pl:Sem Bool}(G:OkM X.prog X.w X.K X.mg X.base C k m ps sp)(hr:Room k X.A)(he:VE X o ta)
  (ht:eval (.Call (.Attribute o m apos) [] [] pos) X.env=(do
   let ov <-eval o X.env
   standAt apos.atName
   let (f,first) <-holding [ov] (getMethod ov m pl)
   callWith pos f first (backTo pos (starEach [] X.env)) (backToKw pos (keywordEach [] X.env))):=by rfl):VE X (.Call (.Attribute o m apos) [] [] pos) (aMr C m sp [] E0 ta aEp):=by
 obtain⟨f,fd,h1,h2,h3,h4⟩:=G;exact⟨aQs he.1 h1 h2 h4 hr h3 .nil aDf ht⟩
theorem aMn (G:OkC X.prog X.w X.K X.mg X.base C k x ps sp)(hr:Room (k+1) X.A)(hg:Gl X x)(ha:VA X (e::es) t)(hdb:(x == ("__debug__":Str))=false:=by decide)(hp:dB e=true:=by rfl)(hpl:(backTo pos (starEach es X.env)).any (·.1)=false:=by rfl) :
  VE X (.Call (.Name x p) (e::es) [] pos) (aWw C sp [] E0 t):=by
 obtain⟨f,fd,h1,h2,h3,h4⟩:=G;exact⟨aTx h2 h4 hr hg h1 h3 .nil aDf ha.1 hdb (aQ hp) hpl⟩
end
section
variable {X:Cx}
def bB1 (K:bEX):List V->Hp->VK->Prop:=λxs H Q=>∃(p:Addr) (bs:List Bool),xs=[.ref p]/\SqL K H p (bs.map V.bl)/\Q (.bl (bs.any id)) H
theorem any_range (bs:List Bool):(List.range bs.length).any (λi=>bs.getD i false)=bs.any id:=by
 rw[bCJ,bDE,bDE];constructor
 ·rintro⟨i,hi,h⟩;have hi:=List.mem_range.mp hi;rw[j4,d7 hi] at h;exact⟨_,bAT hi,h⟩
 ·rintro⟨b,hb,h⟩;obtain⟨i,hi,e⟩:=List.mem_iff_getElem.mp hb;refine⟨i,List.mem_range.mpr hi,?_⟩;rw[j4,d7 hi];show bs[i]=true;rw[e];exact h
theorem aRi (hc:X.calm=true):cI X (.builtin "any") (bB1 X.K):=by
 intro bE1 s σ H xs us Q I r h;obtain⟨p,bs,rfl,hq,q⟩:=h;obtain⟨u,rfl,rx⟩:=r.one;cases rx;obtain⟨its,rv,pl,hz⟩:=I.list hq;have hl:=rv.length;rw[j9] at hl;have hne:p≠s.heap.objs.size:=by obtain⟨o,ho,_⟩:=pl.isList;exact v4 (m8 ho)
 refine call_any_walk (bB3 pl.isList ?_);refine⟨s.heap.objs.size,_,_,_,_,_,λi=>bs.getD i false,rfl,Walks.list (show X.A.in1.handled=none from I.ok.hd hc) _ p hne its.toArray,⟨⟨_,j5 _ rfl,rfl,rfl⟩,?_⟩,?_,λh' tk kp=>?_⟩
 ·exact pl.isList.at λo e=>d8 _ e
 ·intro i v s' Q' E' hv hq';have hv':its[i]?=some v:=by simpa using hv
  have hi:i<bs.length:=by rw[hl];exact (List.getElem?_eq_some_iff.mp hv').1
  obtain⟨u,hu,ru⟩:=rv.get (i:=i) (x:=.bl bs[i]) (by rw[v9,d7 hi];rfl);rw[hv'] at hu;cases hu;cases ru;have e:bs.getD i false=bs[i]:=by rw[j4,d7 hi];rfl
  replace hq':Q' (bs.getD i false) s':=hq';rw[e] at hq';exact bBD hq'
 ·have e:(List.range its.toArray.size).any (λi=>bs.getD i false)=bs.any id:=by rw[j7,<-hl];exact any_range bs
  rw[e];refine⟨.bl (bs.any id),H,?_,rfl,q⟩;exact I.kept λb o eo=>kp b o (by
   intro z;have:b=s.heap.objs.size:=by simpa using z
   rw[this] at eo;exact absurd (m8 eo) (bBN _)) (d8 _ eo)
def aY7:List V->Hp->VK->Prop:=λxs H Q=>∃z:Str,xs=[.str z]/\z.length<=1000/\∀l H',H l=none->Same H H'->H' l=some (.lst ((List.range z.cps.size).map λi=>V.str (sgn z i)))->Q (.ref l) H'
theorem aB1 (z:Str):∀(n k:Nat) (vs:List Value),vs.length=n->(∀(j:Nat) (v:Value),vs[j]?=some v->∃t,v=.str (sgn z (k+j)) t)->Vals ((List.range' k n).map λi=>V.str (sgn z i)) vs
 |0,k,[],_,_=>.nil
 |n+1,k,v::vs,hl,h=>by obtain⟨t,rfl⟩:=h 0 v rfl;rw[List.range'_succ,bAV];refine .cons ⟨t,rfl⟩ (aB1 z n (k+1) vs (by simpa using hl) λj u e=>?_);obtain⟨t',e'⟩:=h (j+1) u e;exact⟨t',by rw[e',show k+(j+1)=k+1+j by lia]⟩
theorem aLc (hc:X.calm=true):cI X (.type "list") aY7:=by
 intro bE1 s σ H xs us Q I r h;obtain⟨z,rfl,hl,q⟩:=h;obtain⟨u,rfl,t,rfl⟩:=vals1 r;refine call_list_str (I.ok.hd hc) z t (λh' tk acc' c' kp hS hacc=>?_) (small hl);have hv:=aB1 z z.cps.size 0 acc'.toList (by rw[t7];exact hacc.1) λj v e=>by have hj:=hacc.2 j v (by rw[<-bBT];exact e);obtain⟨c,t',e1,e2⟩:=hj;refine⟨t',?_⟩;rw[e2];unfold sgn;rw[bCS,v5,e1];rfl
 rw[<-List.range_eq_range'] at hv;have ea:acc'.toList.toArray=acc':=by simp
 have hf:H s.heap.objs.size=none:=I.hok.fresh (j0 _);refine⟨.ref s.heap.objs.size,_,I.laid (t':=tk) (o:=.lst ((List.range z.cps.size).map λi=>V.str (sgn z i))) kp (j0 _) ?_,rfl,q _ _ hf (aW hf _) aH⟩;refine⟨by rw[j9,bAK];exact small hl,acc'.toList,c',hv,?_⟩;rw[ea];exact hS
end
theorem aLe {X:Cx}{K:bEX}(h:X.K=K:=by rfl):OpR X (compareOp .In) (rIn K false):=by subst h;exact xR
structure aX1 (E:Hp->Hp->Prop)(H:Hp):Prop where
 new:∀D o,H D=none->E H (upd H D o)
 trans:∀{H1 H2},E H H1->E H1 H2->E H H2
 upd:∀D o H',H D=none->E H H'->E H (upd H' D o)
 keep:∀D H1 H2 xs,H D=none->E H H1->H1 D=some (.lst xs)->E H1 H2->H2 D=some (.lst xs)
theorem aM1 (H:Hp):aX1 Same H:=⟨λD o h=>aW h o,λa b=>a.trans b,λD o H' h s=>lV h s,λD H1 H2 xs _ _ h s=>s _ _ h⟩
def qW (J:It)(H1:Hp)(σ0:L2.St)(g:TG)(tt:TT)(te:TE)(Q:VK):Prop:=∀D,H1 D=none->∃W:Nat->Nat->L2.St->Hp->List V->Prop,(∃m,W 0 m σ0 (L2.upd H1 D (.lst [])) []) /\
 ∀i m σ' H' ys,W i m σ' H' ys->H' D=some (.lst ys)/\((J.stop i H'/\Q (.ref D) H')\/(J.go i H'/\∀x H2,J.yld i H' x H2->g x σ' H2 fun σ3 H3=>tt σ3 H3 λb H4=>
  if b=true then te σ3 H4 λy H5=>H5 D=some (.lst ys)/\ys.length<sizeLine/\∃m',m'<m/\W (i+1) m' σ3 (L2.upd H5 D (.lst (ys++[y]))) (ys++[y]) else H4 D=some (.lst ys)/\∃m',m'<m/\W (i+1) m' σ3 H4 ys))
section
variable {X:Cx}{K:bEX}{scope:Scope}{N:List Str}{tl te:TE}{tt:TT}{g:TG}{σ:L2.St}{H:Hp}{Q:VK}
theorem iV (σ0:L2.St)(cap:Cap X scope N σ σ0)(h:tl σ H λv H1=>∃a,v=.ref a/\(∃xs,SqL K H1 a xs)/\qW (Itl K a) H1 σ0 g tt te Q):kZ X scope N (aEj K tl) g tt te σ H Q:=⟨σ0,cap,h⟩
theorem wK (σ0:L2.St)(cap:Cap X scope N σ σ0)(h:tl σ H λv H1=>∃a,v=.ref a/\(∃xs,SqT K H1 a xs)/\qW (Itt K a) H1 σ0 g tt te Q):kZ X scope N (aV0 K tl) g tt te σ H Q:=⟨σ0,cap,h⟩
theorem aFo {a:Addr}{xs:List V}{E:Hp->Hp->Prop}(hS:∀H',E H H'->SqT K H' a xs):∀H' i x,E H H'->xs[i]?=some x->(Itt K a).go i H'/\∀y H2,(Itt K a).yld i H' y H2->H2=H'/\y=x:=λH' i x s e=>
 ⟨⟨xs,x,hS H' s,e⟩,λy H2 hy=>by obtain⟨e1,e2⟩:=hy;have e3:=e2 xs (hS H' s);rw[e] at e3;cases e3;exact⟨e1,rfl⟩⟩
theorem wN {a:Addr}{xs:List V}{E:Hp->Hp->Prop}(hS:∀H',E H H'->SqT K H' a xs):∀H',E H H'->(Itt K a).stop xs.length H':=λH' s=>⟨xs,hS H' s,j0 _⟩
theorem aTv {a:Addr}{xs:List V}{E:Hp->Hp->Prop}(hS:∀H',E H H'->SqL K H' a xs):∀H' i x,E H H'->xs[i]?=some x->(Itl K a).go i H'/\∀y H2,(Itl K a).yld i H' y H2->H2=H'/\y=x:=λH' i x s e=>
 ⟨⟨xs,x,hS H' s,e⟩,λy H2 hy=>by obtain⟨e1,e2⟩:=hy;have e3:=e2 xs (hS H' s);rw[e] at e3;cases e3;exact⟨e1,rfl⟩⟩
theorem aP9 {a:Addr}{xs:List V}{E:Hp->Hp->Prop}(hS:∀H',E H H'->SqL K H' a xs):∀H',E H H'->(Itl K a).stop xs.length H':=λH' s=>⟨xs,hS H' s,j0 _⟩
inductive sO (R:Nat->V->Prop):List Nat->List V->Prop
 |nil:sO R [] []
 |cons {i y is ys}:R i y->sO R is ys->sO R (i::is) (y::ys)
theorem sO.snoc {R:Nat->V->Prop}{is:List Nat}{ys:List V}{i:Nat}{y:V}(h:sO R is ys)(r:R i y):sO R (is++[i]) (ys++[y]):=by
 induction h with
 |nil=>exact .cons r .nil
 |cons r' _ ih=>exact .cons r' ih
theorem sO.imp {R S:Nat->V->Prop}{is:List Nat}{ys:List V}(h:sO R is ys)(k:∀i y,R i y->S i y):sO S is ys:=by
 induction h with
 |nil=>exact .nil
 |cons r _ ih=>exact .cons (k _ _ r) ih
theorem sO.len {R:Nat->V->Prop}{is:List Nat}{ys:List V}(h:sO R is ys):is.length=ys.length:=by
 induction h with
 |nil=>rfl
 |cons _ _ ih=>rw[v7,v7,ih]
theorem aJa {σ0:L2.St}(E:Hp->Hp->Prop)(eo:aX1 E H)(xs:List V)(p:Nat->Bool)(Rel:Nat->Hp->V->Prop)
  (st:∀{i H1 H2 y},E H H1->E H1 H2->Rel i H1 y->Rel i H2 y) (su:∀{i H1 D ys zs y},H D=none->E H H1->H1 D=some (.lst ys)->Rel i H1 y->Rel i (L2.upd H1 D (.lst zs)) y)
  (At:Nat->L2.St->Prop) (Ps:L2.St->Prop) (h0:Ps σ0) (hsz:xs.length<=sizeLine)
  (J:It) (go:∀H' i x,E H H'->xs[i]?=some x->J.go i H'/\∀y H2,J.yld i H' y H2->H2=H'/\y=x) (stop:∀H',E H H'->J.stop xs.length H')
  (hg:∀(i:Nat) (x:V) σ' H' Q',xs[i]?=some x->Ps σ'->E H H'->(∀σ2,Ps σ2->At i σ2->Q' σ2 H')->g x σ' H' Q')
  (ht:∀(i:Nat) (x:V) σ2,xs[i]?=some x->At i σ2->∀H' R,E H H'->(∀H2,E H' H2->R (p i) H2)->tt σ2 H' R)
  (he:∀(i:Nat) (x:V) σ2,xs[i]?=some x->At i σ2->p i=true->∀H' R,E H H'->(∀y H2,E H' H2->Rel i H2 y->R y H2)->te σ2 H' R)
  (q:∀D H' ys,E H H'->H D=none->H' D=some (.lst ys)->sO (λi y=>Rel i H' y) (sel p 0 (List.range xs.length)) ys->Q (.ref D) H'):qW J H σ0 g tt te Q:=by
 intro D hD;refine⟨λi m σ' H' ys=>i<=xs.length/\m=xs.length - i/\Ps σ'/\E H H'/\H' D=some (.lst ys)/\sO (λi y=>Rel i H' y) (sel p 0 (List.range i)) ys,⟨xs.length,bAE _,rfl,h0,eo.new _ _ hD,aH,.nil⟩,?_⟩;rintro i m σ' H' ys ⟨hi,rfl,hps,sm,hL,hR⟩;refine⟨hL,?_⟩;by_cases hlt:i<xs.length
 ·right;have hx:=d7 hlt;obtain⟨g1,g2⟩:=go H' i xs[i] sm hx;refine⟨g1,λx H2 hy=>?_⟩;obtain⟨rfl,rfl⟩:=g2 x H2 hy;have tk:sel p 0 (List.range (i+1))=sel p 0 (List.range i)++(if p i then [i] else []):=by rw[List.range_succ,aA6,bAK,bCS]
  have lR:=hR.len;have lS:=aGv p 0 (List.range i);rw[bAK] at lS;refine hg i xs[i] σ' _ _ hx hps sm fun σ2 hp2 hat=>?_;refine ht i xs[i] σ2 hx hat _ _ sm λH3 s3=>?_;have sm3:=eo.trans sm s3;have hL3:=eo.keep D _ _ _ hD sm hL s3;cases hp:p i with
  |true=>rw[if_pos rfl];refine he i xs[i] σ2 hx hat hp _ _ sm3 λy H4 s4 r4=>?_;have sm4:=eo.trans sm3 s4;have hL4:=eo.keep D _ _ _ hD sm3 hL3 s4;refine⟨hL4,by lia,xs.length - (i+1),by lia,hlt,rfl,hp2,eo.upd D _ _ hD sm4,aH,?_⟩;rw[tk,hp];exact sO.snoc (hR.imp λj z r=>su hD sm4 hL4 (st sm3 s4 (st sm s3 r))) (su hD sm4 hL4 r4)
  |false=>rw[if_neg (by simp)];refine⟨hL3,xs.length - (i+1),by lia,hlt,rfl,hp2,sm3,hL3,?_⟩;rw[tk,hp];simp only[bBB,if_false,bB9];exact hR.imp λj z r=>st sm s3 r
 ·left;have e:i=xs.length:=by lia
  subst e;exact⟨stop _ sm,q D _ ys sm hD hL hR⟩
end
def At1 (σ0:L2.St)(v:V)(σ:L2.St):Prop:=∃l,σ=(σ0.set 0 l).set 0 (some v)
def Ps1 (σ0:L2.St)(σ:L2.St):Prop:=∃l,σ=σ0.set 0 l
def At2 (σ0:L2.St)(a b:V)(σ:L2.St):Prop:=σ=(σ0.set 0 (some a)).set 1 (some b)
def Ps2 (σ0:L2.St)(σ:L2.St):Prop:=∃l m,σ=(σ0.set 0 l).set 1 m
theorem hg1 {σ0:L2.St}{i:Nat}{x:V}{σ':L2.St}{H':Hp}{Q':L2.St->Hp->Prop}(h:Ps1 σ0 σ')(q:∀σ2,Ps1 σ0 σ2->At1 σ0 x σ2->Q' σ2 H'):cB 0 x σ' H' Q':=by obtain⟨l,rfl⟩:=h;exact q _ ⟨some x,by rw[bB5]⟩ ⟨l,rfl⟩
theorem hg2 {K:bEX}{σ0:L2.St}{p:Addr}{a b:V}{σ':L2.St}{H':Hp}{Q':L2.St->Hp->Prop}(hp:SqT K H' p [a,b])(h:Ps2 σ0 σ')(q:∀σ2,Ps2 σ0 σ2->At2 σ0 a b σ2->Q' σ2 H'):aJ3 K 2 (tO (cB 0) (tO (cB 1) aP8)) (.ref p) σ' H' Q':=by
 obtain⟨l,m,rfl⟩:=h;have e:(((σ0.set 0 l).set 1 m).set 0 (some a)).set 1 (some b)=(σ0.set 0 (some a)).set 1 (some b):=by rw[List.set_comm _ _ (show (1:Nat)≠0 by decide),bB5,bB5]
 refine⟨p,_,rfl,hp,rfl,_,_,rfl,_,_,rfl,rfl,?_⟩;show Q' ((((σ0.set 0 l).set 1 m).set 0 (some a)).set 1 (some b)) H';rw[e];exact q _ ⟨some a,some b,rfl⟩ rfl
theorem zP (xs:List V)(n:Nat):pH xs none (some (n:Int))=xs.take n:=by
 unfold pH;rw[HT.aHh,HT.aM8,List.drop_zero,Nat.sub_zero];by_cases h:n<=xs.length
 ·rw[Nat.min_eq_left h]
 ·rw[Nat.min_eq_right (by lia),bCN,bAW (by lia)]
theorem xJ (xs:List V)(n:Nat):pH xs (some (n:Int)) none=xs.drop n:=by
 unfold pH;rw[HT.aHh,HT.aM8];by_cases h:n<=xs.length
 ·rw[Nat.min_eq_left h];exact bAW (by rw[bBW];lia)
 ·rw[Nat.min_eq_right (by lia),List.drop_length,bD0 (by lia),bDH]
def bAo (K:bEX):V->Option Int->Option Int->Hp->VK->Prop:=λx lo hi H Q=>∃a xs,x=.ref a/\SqL K H a xs/\∀p H',H p=none->Same H H'->H' p=some (.lst (pH xs lo hi))->Q (.ref p) H'
theorem vY {X:Cx}:SlR X (bAo X.K):=λbE1 s σ H x v vl vu lo hi sl Q I rx hs pl pu ⟨a,xs,e,ha,q⟩=>
 aVx bE1 s σ H x v vl vu lo hi sl Q I rx hs pl pu ⟨a,xs,e,ha,λp hp=>q p _ hp (aW hp _) aH⟩
end L2
namespace L2
open PySem PySem.Spec PyProof.Rows
inductive Al2 {α β:Type}(R:α->β->Prop):List α->List β->Prop
 |nil:Al2 R [] []
 |cons {a b as bs}:R a b->Al2 R as bs->Al2 R (a::as) (b::bs)
theorem Al2.len {α β:Type}{R:α->β->Prop}{as:List α}{bs:List β}(h:Al2 R as bs):as.length=bs.length:=by
 induction h with
 |nil=>rfl
 |cons _ _ ih=>rw[v7,v7,ih]
theorem Al2.at {α β:Type}{R:α->β->Prop}{as:List α}{bs:List β}(h:Al2 R as bs):∀{j:Nat} {a:α},as[j]?=some a->∃b,bs[j]?=some b/\R a b:=by
 induction h with
 |nil=>intro j a e;simp at e
 |cons r _ ih=>
  intro j a e;cases j with
  |zero=>cases e;exact⟨_,rfl,r⟩
  |succ j=>exact ih (by simpa using e)
def DEq (K:bEX)(H:Hp):Nat->V->V->Prop
 |0,x,y=>jW x=true/\x=y
 |n+1,x,y=>(jW x=true/\x=y)\/∃a b xs ys,x=.ref a/\y=.ref b/\SqT K H a xs/\SqT K H b ys/\Al2 (DEq K H n) xs ys
theorem aD7 {A:Around}{s:Shared}{x:V}{v u:Value}(h:jW x=true)(rv:RelV x v)(ru:RelV x u):SeqAt.EqAt A s v u true:=by
 cases x with
 |non=>cases rv;cases ru;exact bDK _
 |bl b=>cases rv;cases ru;exact bDK _
 |int i=>obtain⟨t,rfl⟩:=rv;obtain⟨t',rfl⟩:=ru;have z:=bDP (A:=A) (s:=s) i t i t';simpa using z
 |str y=>obtain⟨t,rfl⟩:=rv;obtain⟨t',rfl⟩:=ru;have z:=bC3 (A:=A) (s:=s) y t y t';simpa using z
 |_=>cases h
section
variable {X:Cx}{bE1:bEZ}{σ:L2.St}{H:Hp}{s:Shared}
theorem uQ (I:Inv X bE1 σ H s){n:Nat}{A:Around}{xs ys:List V}{its jts:List Value}(rv:Vals xs its)(rw':Vals ys jts)(h:Al2 (DEq X.K H n) xs ys)
  (ih:∀{x y v u},DEq X.K H n x y->RelV x v->RelV y u->SeqAt.EqAt A s v u true):∀(j:Nat) (h1:j<its.toArray.size) (h2:j<jts.toArray.size),SeqAt.EqAt A s its.toArray[j] jts.toArray[j] ((λ_=>true) j):=λj h1 h2=>by
 have e1:=rv.length;have hj1:j<xs.length:=by rw[j7] at h1;lia
 obtain⟨y,hy,d⟩:=h.at (d7 hj1);obtain⟨u1,hu1,r1⟩:=rv.get (d7 hj1);obtain⟨u2,hu2,r2⟩:=rw'.get hy;have g1:its.toArray[j]=u1:=by rw[bCH];exact (List.getElem?_eq_some_iff.mp hu1).2
 have g2:jts.toArray[j]=u2:=by rw[bCH];exact (List.getElem?_eq_some_iff.mp hu2).2
 rw[g1,g2];exact ih d r1 r2
theorem vM (n:Nat):(List.range n).all (λ_=>true)=true:=by rw[bBX];intro _ _;rfl
theorem xN (I:Inv X bE1 σ H s):∀(n:Nat) {A:Around} {x y:V} {v u:Value},DEq X.K H n x y->RelV x v->RelV y u->A.units+n<cLine->SeqAt.EqAt A s v u true
 |0,A,x,y,v,u,h,rv,ru,_=>by obtain⟨h,rfl⟩:=h;exact aD7 h rv ru
 |n+1,A,x,y,v,u,h,rv,ru,hu=>by
  rcases h with⟨h,rfl⟩|⟨a,b,xs,ys,rfl,rfl,ha,hb,h⟩
  ·exact aD7 h rv ru
  cases rv;cases ru;by_cases e:a=b
  ·subst e;exact bDK _
  obtain⟨its,r1,pl,hz⟩:=I.tuple ha;obtain⟨jts,r2,pm,hw⟩:=I.tuple hb;refine SeqAt.EqAt.of_refs e ?_;have z:=SeqAt.RcAt.tuples (A:=A) (e:=λ_=>true) (show s.heap.IsTuple a its.toArray from pl) (show s.heap.IsTuple b jts.toArray from pm) (by lia) (uQ I r1 r2 h λd q1 q2=>xN I n d q1 q2 (by show A.units+1+n<cLine;lia));have z2:(its.toArray.size == jts.toArray.size)=true:=by rw[j7,j7];have:=r1.length;have:=r2.length;have:=h.len;simp;lia
  rw[vM,z2] at z;exact z
end
def bBu (K:bEX)(r:Bool):R2:=λx y H Q=>∃a b xs ys,x=.ref a/\y=.ref b/\SqT K H a xs/\SqT K H b ys/\Al2 (DEq K H 40) xs ys/\Q (.bl r) H
theorem aRs {X:Cx}(hu:X.A.units+64<cLine):OpR X (compareOp .NotEq) (bBu X.K false):=by
 intro bE1 s σ H x y v u Q I rx ry h;obtain⟨a,b,xs,ys,rfl,rfl,ha,hb,h,q⟩:=h;cases rx;cases ry;obtain⟨its,r1,pl,hz⟩:=I.tuple ha;obtain⟨jts,r2,pm,hw⟩:=I.tuple hb;refine SeqAt.RcNeAt.tuples (e:=λ_=>true) (show s.heap.IsTuple a its.toArray from pl) (show s.heap.IsTuple b jts.toArray from pm) (by lia) (uQ I r1 r2 h λd q1 q2=>xN I 40 d q1 q2 (by show X.A.units+1+40<cLine;lia)) _ _ _ _ ?_;have z2:(its.toArray.size == jts.toArray.size)=true:=by rw[j7,j7];have:=r1.length;have:=r2.length;have:=h.len;simp;lia
 rw[vM,z2];exact⟨.bl _,H,I,rfl,q⟩
section
variable {X:Cx}
def bA6:R2:=λx y H Q=>(∃a b,x=.int a/\y=.int b/\Q (.bl (decide (a<b))) H)\/∃a b:Str,x=.str a/\y=.str b/\Q (.bl (decide (a.cps.toList<b.cps.toList))) H
theorem aZq:OpR X (compareOp .Lt) bA6:=by
 intro bE1 s σ H x y v u Q I rx ry h;rcases h with⟨a,b,rfl,rfl,q⟩|⟨a,b,rfl,rfl,q⟩
 ·obtain⟨t,rfl⟩:=rx;obtain⟨t',rfl⟩:=ry;exact lt_int ⟨.bl _,H,I,rfl,q⟩
 ·obtain⟨t,rfl⟩:=rx;obtain⟨t',rfl⟩:=ry;exact lt_str ⟨.bl _,H,I,rfl,q⟩
def aT1 (K:bEX):V->List V->Hp->VK->Prop:=λx vs H Q=>∃(l:Addr) (ss:List Str) (n:Str) (i:Nat),x=.ref l/\vs=[.str n]/\SqL K H l (ss.map V.str)/\ss.length<=1000/\ss[i]?=some n/\(∀(j:Nat) (m:Str),j<i->ss[j]?=some m->m≠n)/\Q (.int (i:Nat)) H
def aLg (n:Str):Value->Bool
 |.str x _=>x == n
 |_=>false
theorem aEd:MtR X "list.index" (aT1 X.K):=by
 intro bE1 s σ H x vs v us Q I rx rv h;obtain⟨l,ss,n,i,rfl,rfl,hH,h1000,hi,hno,q⟩:=h;cases rx;obtain⟨u,rfl,ru⟩:=rv.one;obtain⟨t,rfl⟩:=ru;obtain⟨its,r,pl,hz⟩:=I.list hH;have el:=r.length;rw[j9] at el;obtain⟨⟨cls,dd,data,sl⟩,ho,hc,nn,hd⟩:=id pl.isList;simp only at hc hd;subst hc hd;have hil:=(List.getElem?_eq_some_iff.mp hi).1;have get:∀{j:Nat} (hj:j<its.length),∃m t',ss[j]?=some m/\its[j]=.str m t':=λ{j} hj=>by
  have hj':j<ss.length:=by lia
  obtain⟨w,hw,rw'⟩:=r.get (show (ss.map V.str)[j]?=some (.str ss[j]) by rw[v9,d7 hj'];rfl);obtain⟨t',rfl⟩:=rw';exact⟨ss[j],t',d7 hj',(List.getElem?_eq_some_iff.mp hw).2⟩
 refine call_meets PySem.F.slot_list_index ⟨_,ho,rfl⟩ PySem.F.entry_list_index (PySem.F.args_list_index_2 _ _)
  (SeqAt.list_indexAt l its.toArray nn dd sl (.str n t) (aLg n) i (by rw[j7];lia) (by lia) ?_ ?_) ⟨ho,λy hy=>?_,⟨.int _,H,I.tok _,⟨_,rfl⟩,q⟩⟩
 ·obtain⟨m,t',h1,h2⟩:=get (j:=i) (by lia);rw[hi] at h1;cases h1;show aLg n its[i]=true;rw[h2];show (n == n)=true;simp
 ·intro j hj hlt;obtain⟨m,t',h1,h2⟩:=get (j:=j) (by simpa using hj);show aLg n its[j]=false;rw[h2];have:=hno j m hlt h1;show (m == n)=false;simpa using this
 ·have hy:y∈its:=by simpa using hy
  obtain⟨j,hj,rfl⟩:=bBC hy;obtain⟨m,t',h1,h2⟩:=get (j:=j) hj;rw[h2];exact bC3 m t' n t
end
end L2
namespace L2
open PySem PySem.Spec PyProof.Rows Builtin
section
variable {prog:Program}{w:World}{A:Around}{E:bEY}{s:Shared}
end
section
variable {X:Cx}
def bAv (K:bEX):List V->Hp->VK->Prop:=λxs H Q=>∃l us,xs=[.ref l,.ty "list"]/\SqL K H l us/\Q (.bl true) H
theorem aO9:cI X (.builtin "isinstance") (bAv X.K):=by intro bE1 s σ H xs us Q I r h;obtain⟨l,zs,rfl,hl,q⟩:=h;obtain⟨u,v,rfl,rx,rT⟩:=r.two;obtain rfl:v=Value.type "list":=rT;obtain rfl:u=Value.ref l:=rx;obtain⟨its,rv,pl,_⟩:=I.list hl;obtain⟨o,ho,hc,_⟩:=id pl.isList;exact call_isinstance (isinstance_true F.isi_meta_list F.isi_self_list) ⟨⟨o,ho,hc⟩,⟨.bl true,H,I,rfl,q⟩⟩
end
variable {X:Cx}
end L2
namespace My
open PySem PySem.Spec PyProof.Rows L2
def top (i:Nat):Stmt:=PySem.Challenge.pw_shardask_k62_carry.main.body.getD i (.Pass ⟨0,0,0,0⟩)
abbrev uK:Stmt:=top 17
abbrev iZ:Stmt:=top 18
abbrev yF:Stmt:=top 19
abbrev rP:Stmt:=top 20
abbrev fW:Stmt:=top 21
abbrev oY:Stmt:=top 22
abbrev uT:Stmt:=top 23
abbrev xO:Stmt:=top 24
abbrev uH:Stmt:=top 25
abbrev xZ:Stmt:=top 26
abbrev nF:Stmt:=top 27
abbrev rJ:Stmt:=top 28
abbrev xY:Stmt:=top 29
abbrev aCb:Stmt:=top 30
abbrev mZ:Stmt:=top 31
abbrev aKv:Stmt:=top 32
abbrev xW:Stmt:=top 34
abbrev tV:Stmt:=top 36
abbrev aBi:Stmt:=top 40
abbrev pA:Stmt:=top 41
abbrev lN:Stmt:=top 42
abbrev pC:Stmt:=top 43
abbrev oR:Stmt:=top 44
abbrev uB:Stmt:=top 45
abbrev pW:Stmt:=top 46
abbrev kE:Stmt:=top 47
abbrev uC:Stmt:=top 48
abbrev aAq:Stmt:=top 49
abbrev qN:Stmt:=top 50
abbrev rQ:Stmt:=top 51
abbrev gH:Stmt:=classAt (top 52) 0
abbrev iU:Stmt:=classAt (top 52) 3
abbrev lG:Stmt:=classAt (top 52) 4
abbrev mL:Stmt:=classAt (top 52) 6
abbrev mY:Stmt:=top 54
abbrev uF:Stmt:=top 55
abbrev fQ:Stmt:=classAt (top 56) 0
abbrev eO:Stmt:=classAt (top 56) 2
abbrev dY:Stmt:=classAt (top 56) 3
abbrev gF:Stmt:=classAt (top 56) 4
abbrev lD:Stmt:=classAt (top 56) 8
abbrev cP:Stmt:=classAt (top 56) 9
abbrev jO:Stmt:=classAt (top 56) 10
abbrev iY:Stmt:=classAt (top 56) 12
abbrev eY:Stmt:=classAt (top 56) 13
abbrev lA:Stmt:=classAt (top 56) 14
abbrev rD:Stmt:=top 58
abbrev rE:Stmt:=top 59
abbrev pL:Stmt:=top 60
abbrev lC:Stmt:=top 61
abbrev oK:Stmt:=top 62
abbrev pK:Stmt:=top 63
abbrev qI:Stmt:=top 64
abbrev pB:Stmt:=top 65
abbrev pU:Stmt:=top 66
abbrev mX:Stmt:=top 67
abbrev qG:Stmt:=top 68
abbrev iM:Stmt:=top 69
abbrev jC:Stmt:=top 70
abbrev jR:Stmt:=top 71
abbrev cY:Stmt:=top 72
abbrev rN:Stmt:=top 73
abbrev oO:Stmt:=top 74
abbrev aDd:Stmt:=top 75
structure Txt (w:World)(K:bEX)(mg:bE0):Prop where
 aUq:mg "ValueError"=none
 aBk:mg "all"=none
 bAq:mg "any"=none
 aR8:mg "bool"=none
 aQl:mg "dict"=none
 aHo:mg "enumerate"=none
 aMh:mg "int"=none
 bM:mg "isinstance"=none
 fJ:mg "len"=none
 aEv:mg "list"=none
 aZ7:mg "max"=none
 lE:mg "range"=none
 aMx:mg "set"=none
 fH:mg "sorted"=none
 aXb:mg "str"=none
 iT:mg "tuple"=none
 aW1:mg "zip"=none
 jG:∃a,mg "QUESTION_WORDS"=some (.ref a)/\∀H,SqT K H a [.str "and",.str "by",.str "count",.str "down",.str "first",.str "group",.str "join",.str "keep",.str "least",.str "most",.str "named",.str "on",.str "sum",.str "table",.str "up",.str "where",.str "with"]
 aDt:∃u,mg "LETTERS"=some u/\RelV (.str "abcdefghijklmnopqrstuvwxyz") u
 aGg:∃a,mg "KINDS"=some (.ref a)/\∀H,SqT K H a [.str "number",.str "word"]
 aAz:∃u,mg "MOST_LETTERS"=some u/\RelV (.int 8) u
 aA7:∃u,mg "MOST_COLUMNS"=some u/\RelV (.int 8) u
 aI1:∃u,mg "WORD_BASE"=some u/\RelV (.int 27) u
 aCj:∃u,mg "MOST_HOUSES"=some u/\RelV (.int 6) u
 aIx:∃u,mg "MOST_CUTS"=some u/\RelV (.int 8) u
 yP:∃f o,(∃u,mg "is_column"=some u/\RelV (.ref f) u)/\K.lookup f=some o/\o.cls=.type "function"
 aJ0:Dn K mg "is_whole" uK ["thing"]
 vD:Dn K mg "is_number_below" iZ ["thing","many"]
 aPj:Dn K mg "is_word" yF ["thing"]
 aIp:Dn K mg "is_one_of" rP ["thing","texts"]
 tL:Dn K mg "is_tuple_of" fW ["thing","least","most","is_part"]
 aF5:Dn K mg "are_unlike" oY ["names"]
 aKf:Dn K mg "names_of" uT ["head"]
 aPr:Dn K mg "is_name" xO ["thing"]
 aLh:Dn K mg "is_value" uH ["thing"]
 aOo:Dn K mg "kind_of" xZ ["value"]
 aC5:Dn K mg "is_value_of" nF ["thing","kind"]
 aIk:Dn K mg "is_column" rJ ["thing"]
 aOi:Dn K mg "is_head" xY ["thing"]
 aR6:Dn K mg "is_row" aCb ["head","thing"]
 aCl:Dn K mg "word_number" mZ ["word"]
 aZl:Dn K mg "home" aKv ["value","houses"]
 aP7:Dn K mg "kind_in" xW ["head","name"]
 aKr:Dn K mg "place_of" tV ["head","name"]
 aQ3:Dn K mg "is_cut" aBi ["thing","houses"]
 aJ9:Dn K mg "are_cuts" pA ["thing","kind","houses"]
 aB4:Dn K mg "is_column_in" lN ["head","thing"]
 aEk:Dn K mg "is_placing" pC ["thing","head","houses"]
 aLf:Dn K mg "are_rows" oR ["thing","head"]
 aKm:Dn K mg "is_table" uB ["thing","houses"]
 aHb:Dn K mg "need_town" pW ["houses","tables"]
 yZ:Dn K mg "placed_tables" kE ["houses","tables"]
 aL4:Dn K mg "table_in" uC ["placed","name"]
 aQ4:Dn K mg "cut_of" aAq ["cuts","value"]
 aIj:Dn K mg "stands_at" qN ["head","placing","row","house","houses"]
 aPo:Dn K mg "rows_at" rQ ["table","house","houses"]
 aJs:Dn K mg "span_rows" mY ["table","number"]
 aL7:Dn K mg "is_above" uF ["row","mark"]
 aIv:Dn K mg "_law_seed" rD ["_law_script"]
 aJg:Dn K mg "_law_next" rE ["_law_state","_law_many"]
 aGh:Dn K mg "_law_words" pL []
 aEq:Dn K mg "_law_names" lC ["_law_state","_law_many"]
 aFy:Dn K mg "_law_great" oK ["_law_state"]
 aFz:Dn K mg "_law_value" pK ["_law_state","_law_kind"]
 aJt:Dn K mg "_law_head" qI ["_law_state","_law_names_here"]
 aLx:Dn K mg "_law_row" pB ["_law_state","_law_head_here"]
 aH3:Dn K mg "_law_home" pU ["_law_value_here","_law_houses"]
 aHw:Dn K mg "_law_span" mX ["_law_cuts","_law_value_here"]
 aJk:Dn K mg "_law_spot" qG ["_law_head_here","_law_name"]
 aGe:Dn K mg "_law_stood" iM ["_law_table","_law_houses","_law_house"]
 aCg:Dn K mg "_law_of_span" jC ["_law_table"]
 aC1:Dn K mg "_law_stands" jR ["_law_table","_law_houses","_law_house"]
 uV:Dn K mg "_law_spans_begun" cY ["_law_state","_law_names_here","_law_most"]
 aIt:Dn K mg "_law_lent" rN ["_law_state","_law_store","_law_name","_law_table","_law_houses"]
 aE1:Dn K mg "_law_right" oO ["_law_store","_law_name","_law_table","_law_houses"]
 bBg:Dn K mg "law" aDd ["_law_script"]
 aXo:∃C,aVi K mg "Town" C/\iD K C "__init__" "Town.__init__" gH ["self","houses","tables"]/\iD K C "placing" "Town.placing" iU ["self","name"]/\iD K C "whole" "Town.whole" lG ["self","name"]/\iD K C "part" "Town.part" mL ["self","name","house"]/\bK K C "placed"/\bK K C "house_count"
 aUz:∃C,aVi K mg "Store" C/\iD K C "__init__" "Store.__init__" fQ ["self","houses","tables"]/\iD K C "cut_table" "Store.cut_table" eO ["self","name"]/\iD K C "need_still" "Store.need_still" dY ["self","name"]/\iD K C "move_of" "Store.move_of" gF ["self","name"]/\iD K C "lend" "Store.lend" lD ["self","name","number","house"]/\iD K C "rows_to_come" "Store.rows_to_come" cP ["self","name"]/\iD K C "carry" "Store.carry" jO ["self","name","many"]/\iD K C "moving" "Store.moving" iY ["self","name"]/\iD K C "stands" "Store.stands" eY ["self","name","house"]/\iD K C "town" "Store.town" lA ["self"]/\bK K C "placed"/\bK K C "house_count"/\bK K C "moves"
abbrev abc:Str:="abcdefghijklmnopqrstuvwxyz"
abbrev words:List V:=[.str "and",.str "by",.str "count",.str "down",.str "first",.str "group",.str "join",.str "keep",.str "least",.str "most",.str "named",.str "on",.str "sum",.str "table",.str "up",.str "where",.str "with"]
def Th (K:bEX)(H:Hp)(v:V):Prop:=(∃x,v=.str x/\x.length<=1000)\/(∃i,v=.int i)\/(∃b,v=.bl b)\/∃k,Rk K H v k
theorem Th.same {K:bEX}{H H':Hp}{v:V}(e:Same H H')(h:Th K H v):Th K H' v:=by
 rcases h with h|h|h|⟨k,h⟩
 ·exact .inl h
 ·exact .inr (.inl h)
 ·exact .inr (.inr (.inl h))
 ·exact .inr (.inr (.inr ⟨k,h.same e⟩))
def aU1:V->String->Bool
 |.int _,T=>T == "int"
 |.str _,T=>T == "str"
 |.bl _,T=>T == "int" || T == "bool"
 |_,_=>false
def isS:V->Bool
 |.str _=>true
 |_=>false
def whole:V->Bool
 |.int _=>true
 |_=>false
theorem vJ {K:bEX}{H:Hp}{v:V}{T:String}{Q:VK}(hv:Th K H v)(hT:T = "int"\/T = "bool"\/T = "str")(q:Q (.bl (aU1 v T)) H):bA5 [v,.ty T] H Q\/aXd K [v,.ty T] H Q:=by
 rcases hv with⟨x,rfl,_⟩|⟨i,rfl⟩|⟨b,rfl⟩|⟨k,h⟩
 ·refine .inl ⟨_,_,_,rfl,?_,q⟩;rcases hT with rfl|rfl|rfl <;> simp[aLa,aU1]
 ·refine .inl ⟨_,_,_,rfl,?_,q⟩;rcases hT with rfl|rfl|rfl <;> simp[aLa,aU1]
 ·refine .inl ⟨_,_,_,rfl,?_,q⟩;rcases hT with rfl|rfl|rfl <;> simp[aLa,aU1]
 ·refine .inr ⟨_,_,_,rfl,h,hT,?_⟩;cases h <;> exact q
def inA (y:Str):Bool:=!(Builtin.Str.occurrences abc y 0 abc.length 1).isEmpty
def allIn (x:Str):Bool:=((List.range x.cps.size).map λi=>inA (sgn x i)).all id
def sX (l:Nat):V->Bool
 |.str x=>decide (l<=x.length) && (decide (x.length<=8) && allIn x)
 |_=>false
def nameB (v:V):Bool:=sX 1 v && !inV v words
def aKe (v:V):Bool:=whole v || sX 0 v
def oG (K:bEX):Sp:=λvs H Q _=>∃v,vs=[v]/\Th K H v/\Q (.bl (whole v)) H
def aC3 (K:bEX)(f:V->Bool):Sp:=λvs H Q _=>∃v,vs=[v]/\Th K H v/\∀H',Same H H'->Q (.bl (f v)) H'
def aMo (K:bEX):Sp:=λvs H Q _=>∃v,vs=[v]/\Th K H v/\Q (.str (if whole v then "number" else "word")) H
def aYd (K:bEX):Sp:=λvs H Q _=>∃(a:Addr) (ns:List Int),vs=[.ref a]/\SqL K H a (ns.map V.int)/\ns.length<=63/\∀H',Q (.bl true) H'
theorem aZ6 {K:bEX}{H:Hp}{a:Addr}{ns:List Int}(h:ns.length<=63)(hS:SqL K H a (ns.map V.int)):aYd K [.ref a] H (λv _=>v=.bl true) λ_ _ _=>False:=
 ⟨a,ns,rfl,hS,h,λ_=>rfl⟩
theorem aJo:aJ ["thing"] ["thing"] (aD uK):=by trivial
theorem tZ:aJ ["thing","many"] ["thing","many"] (aD iZ):=by trivial
theorem aLq:aJ ["thing"] ["thing"] (aD yF):=by trivial
theorem aGu:aJ ["thing","texts"] ["thing","texts"] (aD rP):=by trivial
theorem qY:aJ ["thing","least","most","is_part"] ["thing","least","most","is_part"] (aD fW):=by trivial
theorem aCo:aJ ["names"] ["names"] (aD oY):=by trivial
theorem aHe:aJ ["head"] ["head"] (aD uT):=by trivial
theorem aK0:aJ ["thing"] ["thing"] (aD xO):=by trivial
theorem aI6:aJ ["thing"] ["thing"] (aD uH):=by trivial
theorem aLn:aJ ["value"] ["value"] (aD xZ):=by trivial
theorem aAm:aJ ["thing","kind"] ["thing","kind"] (aD nF):=by trivial
theorem aFm:aJ ["thing"] ["thing"] (aD rJ):=by trivial
theorem aJ5:aJ ["thing"] ["thing"] (aD xY):=by trivial
theorem aO3:aJ ["head","thing"] ["head","thing"] (aD aCb):=by trivial
theorem iJ:aJ ["word","number","letter"] ["word"] (aD mZ):=by trivial
theorem aN4:aJ ["value","houses","number"] ["value","houses"] (aD aKv):=by trivial
theorem aA1:aJ ["head","name","column"] ["head","name"] (aD xW):=by trivial
theorem aHk:aJ ["head","name"] ["head","name"] (aD tV):=by trivial
theorem aOd:aJ ["thing","houses"] ["thing","houses"] (aD aBi):=by trivial
theorem yN:aJ ["thing","kind","houses","lows"] ["thing","kind","houses"] (aD pA):=by trivial
theorem zL:aJ ["head","thing"] ["head","thing"] (aD lN):=by trivial
theorem aCv:aJ ["thing","head","houses"] ["thing","head","houses"] (aD pC):=by trivial
theorem aG4:aJ ["thing","head"] ["thing","head"] (aD oR):=by trivial
theorem aJb:aJ ["thing","houses"] ["thing","houses"] (aD uB):=by trivial
theorem oJ:aJ ["houses","tables","name","table"] ["houses","tables"] (aD pW):=by trivial
theorem xP:aJ ["houses","tables"] ["houses","tables"] (aD kE):=by trivial
theorem aJv:aJ ["placed","name"] ["placed","name"] (aD uC):=by trivial
theorem sG:aJ ["cuts","value","number","place"] ["cuts","value"] (aD aAq):=by trivial
theorem oU:aJ ["head","placing","row","house","houses","value","cuts"] ["head","placing","row","house","houses"] (aD qN):=by trivial
theorem aMg:aJ ["table","house","houses"] ["table","house","houses"] (aD rQ):=by trivial
theorem wU:aJ ["self","houses","tables"] ["self","houses","tables"] (aD gH):=by trivial
theorem zM:aJ ["self","name"] ["self","name"] (aD iU):=by trivial
theorem aCn:aJ ["self","name"] ["self","name"] (aD lG):=by trivial
theorem aFu:aJ ["self","name","house"] ["self","name","house"] (aD mL):=by trivial
theorem vZ:aJ ["table","number","place"] ["table","number"] (aD mY):=by trivial
theorem aIy:aJ ["row","mark"] ["row","mark"] (aD uF):=by trivial
theorem vR:aJ ["self","houses","tables"] ["self","houses","tables"] (aD fQ):=by trivial
theorem mC:aJ ["self","name","table"] ["self","name"] (aD eO):=by trivial
theorem sW:aJ ["self","name"] ["self","name"] (aD dY):=by trivial
theorem wO:aJ ["self","name"] ["self","name"] (aD gF):=by trivial
theorem tE:aJ ["self","name","number","house","cuts"] ["self","name","number","house"] (aD lD):=by trivial
theorem jE:aJ ["self","name","move"] ["self","name"] (aD cP):=by trivial
theorem iR:aJ ["self","name","many","move","waiting","unlike"] ["self","name","many"] (aD jO):=by trivial
theorem zO:aJ ["self","name"] ["self","name"] (aD iY):=by trivial
theorem gA:aJ ["self","name","house","table","rows","move"] ["self","name","house"] (aD eY):=by trivial
theorem aC6:aJ ["self"] ["self"] (aD lA):=by trivial
theorem iQ:aJ ["_law_script","_law_seed_here","_law_k","_law_cell"] ["_law_script"] (aD rD):=by trivial
theorem aFd:aJ ["_law_state","_law_many"] ["_law_state","_law_many"] (aD rE):=by trivial
theorem sZ:aJ ["_law_words_here"] [] (aD pL):=by trivial
theorem cH:aJ ["_law_state","_law_many","_law_small","_law_odd","_law_base","_law_k","_law_at","_law_names_here"] ["_law_state","_law_many"] (aD lC):=by trivial
theorem jN:aJ ["_law_state","_law_number","_law_k"] ["_law_state"] (aD oK):=by trivial
theorem fZ:aJ ["_law_state","_law_kind","_law_way","_law_word","_law_k"] ["_law_state","_law_kind"] (aD pK):=by trivial
theorem iW:aJ ["_law_state","_law_names_here","_law_start","_law_head_here","_law_k","_law_kind"] ["_law_state","_law_names_here"] (aD qI):=by trivial
theorem aIo:aJ ["_law_state","_law_head_here"] ["_law_state","_law_head_here"] (aD pB):=by trivial
theorem aFf:aJ ["_law_value_here","_law_houses","_law_number","_law_letter"] ["_law_value_here","_law_houses"] (aD pU):=by trivial
theorem aF2:aJ ["_law_cuts","_law_value_here"] ["_law_cuts","_law_value_here"] (aD mX):=by trivial
theorem aFx:aJ ["_law_head_here","_law_name"] ["_law_head_here","_law_name"] (aD qG):=by trivial
theorem eG:aJ ["_law_table","_law_houses","_law_house","_law_head_here","_law_placing","_law_rows","_law_move","_law_spot_here"] ["_law_table","_law_houses","_law_house"] (aD iM):=by trivial
theorem dD:aJ ["_law_table","_law_head_here","_law_placing","_law_rows","_law_move","_law_spot_here"] ["_law_table"] (aD jC):=by trivial
theorem iG:aJ ["_law_table","_law_houses","_law_house","_law_found","_law_move"] ["_law_table","_law_houses","_law_house"] (aD jR):=by trivial
theorem bJ:aJ ["_law_state","_law_names_here","_law_most","_law_houses","_law_head_here","_law_column","_law_kind","_law_cuts","_law_low","_law_placing","_law_rows","_law_store"] ["_law_state","_law_names_here","_law_most"] (aD cY):=by trivial
theorem lB:aJ ["_law_state","_law_store","_law_name","_law_table","_law_houses","_law_number","_law_own","_law_house"] ["_law_state","_law_store","_law_name","_law_table","_law_houses"] (aD rN):=by trivial
theorem jQ:aJ ["_law_store","_law_name","_law_table","_law_houses","_law_found","_law_town","_law_house"] ["_law_store","_law_name","_law_table","_law_houses"] (aD oO):=by trivial
theorem jA:aJ ["_law_script","_law_state","_law_names_here","_law_store","_law_table","_law_houses","_law_cell","_law_many","_law_number","_law_house","_law_mark","_law_above","_law_some","_law_found"] ["_law_script"] (aD aDd):=by trivial
section
variable {P:Program}{w:World}{K:bEX}{mg:bE0}{base:Heap}
theorem aH0 (T:Txt w K mg):Ok P w K mg base 1 "is_whole" ["thing"] (oG K):=by
 refine Ok.ofV T.aJ0 aJo (λvs H Q E h=>?_) (λf cdv A outer s H vs Q E hr h=>?_)
 ·obtain⟨v,rfl,_⟩:=h;rfl
 obtain⟨v,rfl,hv,q⟩:=h;refine⟨_,(aG (aL (gJ (aK (oH.or rW) (by rfl) T.bM bI (aB (vv 0) (aB (dJ (v:=.ty "int") (by rfl) T.aMh aFh rfl) aA))) (gK (aZ4 (aK (oH.or rW) (by rfl) T.bM bI (aB (vv 0) (aB (dJ (v:=.ty "bool") (by rfl) T.aR8 aMt rfl) aA)))))))),?_⟩;refine⟨_,rfl,vJ hv (.inl rfl) ⟨_,rfl,?_⟩⟩;rcases id hv with⟨x,rfl,_⟩|⟨i,rfl⟩|⟨b,rfl⟩|⟨k,h⟩
 ·exact bY q
 ·exact fV ⟨_,rfl,vJ hv (.inr (.inl rfl)) ⟨_,rfl,q⟩⟩
 ·exact fV ⟨_,rfl,vJ hv (.inr (.inl rfl)) ⟨_,rfl,q⟩⟩
 ·cases h <;> exact bY q
theorem aQb (x:Str):(((List.range x.cps.size).map λi=>V.str (sgn x i)).map λv=>match v with|.str y=>V.bl (inA y)|_=>.bl false)=(((List.range x.cps.size).map λi=>inA (sgn x i)).map V.bl):=by rw[bDF,bDF];rfl
theorem aLb (T:Txt w K mg):Ok P w K mg base 1 "is_word" ["thing"] (aC3 K (sX 0)):=by
 refine Ok.ofV T.aPj aLq (λvs H Q E h=>?_) (λf cdv A outer s H vs Q E hr h=>?_)
 ·obtain⟨v,rfl,_⟩:=h;rfl
 obtain⟨v,rfl,hv,q⟩:=h;refine⟨_,(aC (cA (VW.pt (fB (cG (bV (aK (oH.or rW) (by rfl) T.bM bI (aB (vv 0) (aB (dJ (v:=.ty "str") (by rfl) T.aXb aTh rfl) aA))))) (dN (bC bAe (aK uZ (by rfl) T.fJ cZ (aB (vv 0) aA)) (tQ (by rfl) T.aAz) (aY _))))) (aG (aL gQ)) aZ) (aG (aL (aK (lU rfl) (by rfl) T.aBk uY (aB (cJ (N:=["sign"]) (by trivial) (lY (by decide +kernel)) rfl (aQw (vv 0)) (λcl s' H' fp=>⟨(aM (i:=0) (show (["sign"]:List Str).Nodup from by decide +kernel) rfl (Or.inl rfl)),gO,(cQ aPc (vv 0) (tQ (by rfl) T.aDt) (by with_unfolding_all rfl))⟩)) aA))))),?_⟩;refine⟨_,rfl,vJ hv (.inr (.inr rfl)) ⟨_,rfl,?_⟩⟩;have no:isS v=false->Q (.bl false) H:=λe=>by
  have z:sX 0 v=false:=by cases v <;> first|rfl|cases e
  rw[<-z];exact q H (Same.refl H)
 rcases id hv with⟨x,rfl,hx⟩|⟨i,rfl⟩|⟨b,rfl⟩|⟨k,h⟩
 ·refine bY ⟨_,rfl,_,rfl,small hx,_,_,rfl,rfl,_,rfl,?_⟩;refine aKg (λc=>?_) (λc=>?_)
  ·have c':(8:Int)<x.length:=of_decide_eq_true c;have z:sX 0 (.str x)=false:=by show (decide (0<=x.length) && (decide (x.length<=8) && allIn x))=false;rw[v8 (p:=x.length<=8) (by lia)];simp
   rw[<-z];exact q H (Same.refl H)
  ·have c':¬ (8:Int)<x.length:=of_decide_eq_false (Bool.eq_false_iff.mpr c);dsimp only[tK,sY,tCB,eQ];refine aOh ((List.range x.cps.size).map λi=>V.str (sgn x i)) (λv=>match v with|.str y=>V.bl (inA y)|_=>.bl false) [none] wR ?_
    (λR r=>aXx (z:=x) (λR' r'=>⟨_,rfl,r'⟩) R r) (λv hv' H' R l sm r=>?_) rfl λD hD=>?_
   ·rw[j9,bAK];exact small hx
   ·obtain⟨i,_,rfl⟩:=List.mem_map.mp hv';exact⟨_,rfl,_,_,rfl,rfl,r⟩
   ·refine⟨D,(List.range x.cps.size).map λi=>inA (sgn x i),rfl,SqL.of (by rw[aH,aQb]),?_⟩;have z:sX 0 (.str x)=allIn x:=by show (decide (0<=x.length) && (decide (x.length<=8) && allIn x))=allIn x;rw[t6 (p:=x.length<=8) (by lia)];simp
    show Q (.bl (allIn x)) _;rw[<-z];exact q _ (aW hD _)
 ·exact fV (no rfl)
 ·exact fV (no rfl)
 ·cases h <;> exact fV (no rfl)
theorem aFt {v:V}{l:Nat}(h:sX l v=true):∃x,v=.str x/\l<=x.length/\x.length<=8/\allIn x=true:=by
 cases v with
 |str x=>have h:(decide (l<=x.length) && (decide (x.length<=8) && allIn x))=true:=h;rw[bAR,bAR] at h;exact⟨x,rfl,of_decide_eq_true h.1,of_decide_eq_true h.2.1,h.2.2⟩
 |_=>cases h
theorem aD4 {x:Str}:x=("":Str)↔x.length=0:=by
 constructor
 ·rintro rfl;decide +kernel
 ·intro h;obtain⟨cps⟩:=x;have h:cps.size=0:=h;rw[Array.size_eq_zero_iff] at h;subst h;decide +kernel
theorem aBt:words.all jW=true:=rfl
theorem aLr (T:Txt w K mg)(xM:Ok P w K mg base 1 "is_word" ["thing"] (aC3 K (sX 0))):Ok P w K mg base 2 "is_name" ["thing"] (aC3 K nameB):=by
 refine Ok.ofV T.aPr aK0 (λvs H Q E h=>?_) (λf cdv A outer s H vs Q E hr h=>?_)
 ·obtain⟨v,rfl,_⟩:=h;rfl
 obtain⟨v,rfl,hv,q⟩:=h;obtain⟨qa,mq,hqa⟩:=T.jG;have jG:∃u,mg "QUESTION_WORDS"=some u/\RelV (.ref qa) u:=⟨_,mq,rfl⟩;refine⟨_,(aG (aL (gJ (aO (xM.mono (by decide)) hr (by rfl) (aB (vv 0) aA)) (gJ (cQ yV (vv 0) bN (aY _)) (gK (cQ aE8 (vv 0) (tQ (by rfl) jG) (by with_unfolding_all rfl))))))),?_⟩;refine⟨_,rfl,_,rfl,hv,λH1 s1=>⟨_,rfl,?_⟩⟩;refine aKg (λc=>?_) (λc=>?_)
 ·obtain⟨x,rfl,_,h8,ha⟩:=aFt c;refine⟨_,rfl,rfl,_,rfl,?_⟩;by_cases e:x.length=0
  ·have ex:=aD4.mpr e;subst ex;refine bY ?_;have z:nameB (.str "")=false:=by decide +kernel
   rw[<-z];exact q H1 s1
  ·have ne:¬ (V.str x=V.str ""):=λz=>e (aD4.mp (V.str.inj z));have e2:(!decide (V.str x=V.str ""))=true:=by rw[v8 ne];rfl
   rw[e2];refine fV ⟨_,rfl,qa,words,rfl,.inr (hqa _),rfl,aBt,?_⟩;have z:nameB (.str x)=!inV (.str x) words:=by show ((decide (1<=x.length) && (decide (x.length<=8) && allIn x)) && !inV (.str x) words)=!inV (.str x) words;rw[t6 (p:=1<=x.length) (by lia),t6 h8,ha];rfl
   show Q (.bl (!inV (.str x) words)) H1;rw[<-z];exact q H1 s1
 ·have z:nameB v=false:=by
   show (sX 1 v && !inV v words)=false;cases hv1:sX 1 v with
   |false=>rfl
   |true=>obtain⟨x,rfl,h1,h8,ha⟩:=aFt hv1;refine absurd ?_ c;show (decide (0<=x.length) && (decide (x.length<=8) && allIn x))=true;rw[t6 h8,ha,t6 (bAE _)];rfl
  rw[<-z];exact q H1 s1
theorem aJp (T:Txt w K mg)(dW:Ok P w K mg base 1 "is_whole" ["thing"] (oG K))(xM:Ok P w K mg base 1 "is_word" ["thing"] (aC3 K (sX 0))) :
  Ok P w K mg base 2 "is_value" ["thing"] (aC3 K aKe):=by
 refine Ok.ofV T.aLh aI6 (λvs H Q E h=>?_) (λf cdv A outer s H vs Q E hr h=>?_)
 ·obtain⟨v,rfl,_⟩:=h;rfl
 obtain⟨v,rfl,hv,q⟩:=h;refine⟨_,(aG (aL (aWr (aO (dW.mono (by decide)) hr (by rfl) (aB (vv 0) aA)) (gK (aO (xM.mono (by decide)) hr (by rfl) (aB (vv 0) aA)))))),?_⟩;refine⟨_,rfl,_,rfl,hv,_,rfl,?_⟩;cases hw:whole v with
 |true=>
  refine fV ?_;have z:aKe v=true:=by show (whole v || sX 0 v)=true;rw[hw];rfl
  rw[<-z];exact q H (Same.refl H)
 |false=>
  refine bY ⟨_,rfl,_,rfl,hv,λH1 s1=>?_⟩;have z:aKe v=sX 0 v:=by show (whole v || sX 0 v)=sX 0 v;rw[hw];rfl
  rw[<-z];exact q H1 s1
theorem aKx (T:Txt w K mg)(dW:Ok P w K mg base 1 "is_whole" ["thing"] (oG K)):Ok P w K mg base 2 "kind_of" ["value"] (aMo K):=by
 refine Ok.ofV T.aOo aLn (λvs H Q E h=>?_) (λf cdv A outer s H vs Q E hr h=>?_)
 ·obtain⟨v,rfl,_⟩:=h;rfl
 obtain⟨v,rfl,hv,q⟩:=h;refine⟨_,(aG (aL (aIz (bV (aO (dW.mono (by decide)) hr (by rfl) (aB (vv 0) aA))) bN bN))),?_⟩;refine⟨_,rfl,_,rfl,hv,_,rfl,?_⟩;cases hw:whole v with
 |true=>rw[hw] at q;exact fV q
 |false=>rw[hw] at q;exact bY q
theorem at0 (x:V)(r:List V):atI (x::r) 0=some x:=by unfold atI ixN;simp
theorem at1 (x y:V)(r:List V):atI (x::y::r) 1=some y:=by unfold atI ixN;simp only[v7];rw[if_pos (by lia),if_pos (by lia)];rfl
theorem Tk.same {K:bEX}{H H':Hp}{v:V}{b:Bool}(e:Same H H')(h:Tk K H v b):Tk K H' v b:=by
 cases h with
 |int=>exact .int
 |str=>exact .str
 |bl=>exact .bl
 |non=>exact .non
 |lst q=>exact .lst (e.seq q)
 |dct q=>exact .dct (e _ _ q)
 |tup q=>exact .tup (e.aV q)
structure Tells (R:Hp->V->Bool->Prop):Prop where
 same:∀{H H' v b},Same H H'->R H v b->R H' v b
def aYf (R:Hp->V->Bool->Prop):Sp:=λvs H Q _=>∃v b,vs=[v]/\R H v b/\∀H',Same H H'->Q (.bl b) H'
inductive aDk (K:bEX)(R:Hp->V->Bool->Prop)(lo hi:Nat)(H:Hp):V->Bool->Prop
 |no {v}:Tk K H v false->aDk K R lo hi H v false
 |len {a xs}:SqT K H a xs->¬ (lo<=xs.length/\xs.length<=hi)->aDk K R lo hi H (.ref a) false
 |yes {a xs} (f:V->Bool):SqT K H a xs->lo<=xs.length->xs.length<=hi->(∀x∈xs,R H x (f x))->aDk K R lo hi H (.ref a) (xs.all f)
def aKi (K:bEX):Sp:=λvs H Q _=>∃v a xs,vs=[v,.ref a]/\Th K H v/\SqT K H a xs/\xs.all jW=true/\Q (.bl (isS v && inV v xs)) H
def aIc (P:Program)(w:World)(K:bEX)(mg:bE0)(base:Heap)(k:Nat):Sp:=λvs H Q _=>∃v lo hi f ps R b,vs=[v,.int (lo:Nat),.int (hi:Nat),.ref f]/\hi<=1000/\Held P w K mg base k f ps (aYf R)/\Tells R/\aDk K R lo hi H v b/\∀H',Same H H'->Q (.bl b) H'
def aEh (K:bEX):Sp:=λvs H Q _=>∃a ss,vs=[.ref a]/\SqL K H a (ss.map V.str)/\ss.length<=1000/\∀H',Same H H'->Q (.bl (decide ((nP ss).length=ss.length))) H'
theorem aGk (T:Txt w K mg):Ok P w K mg base 1 "is_one_of" ["thing","texts"] (aKi K):=by
 refine Ok.ofV T.aIp aGu (λvs H Q E h=>?_) (λf cdv A outer s H vs Q E hr h=>?_)
 ·obtain⟨v,a,xs,rfl,_⟩:=h;rfl
 obtain⟨v,a,xs,rfl,hv,ha,hf,q⟩:=h;refine⟨_,(aG (aL (gJ (aK (oH.or rW) (by rfl) T.bM bI (aB (vv 0) (aB (dJ (v:=.ty "str") (by rfl) T.aXb aTh rfl) aA))) (gK (cQ xR (vv 0) (vv 1) (by with_unfolding_all rfl)))))),?_⟩;refine⟨_,rfl,vJ hv (.inr (.inr rfl)) ⟨_,rfl,?_⟩⟩;rcases id hv with⟨x,rfl,_⟩|⟨i,rfl⟩|⟨b,rfl⟩|⟨k,h⟩
 ·exact fV ⟨_,rfl,_,rfl,a,xs,rfl,.inr ha,rfl,hf,q⟩
 ·exact bY q
 ·exact bY q
 ·cases h <;> exact bY q
theorem aBd {k:Nat}(T:Txt w K mg):Ok P w K mg base (k+1) "is_tuple_of" ["thing","least","most","is_part"] (aIc P w K mg base k):=by
 refine Ok.ofV T.tL qY (λvs H Q E h=>?_) (λf cdv A outer s H vs Q E hr h=>?_)
 ·obtain⟨v,lo,hi,f,ps,R,b,rfl,_⟩:=h;rfl
 obtain⟨v,lo,hi,g,ps,R,b,rfl,h1000,hg,hR,hv,q⟩:=h;refine⟨_,(aC (cA (VW.pt (fB (cG (bV (aK gZ (by rfl) T.bM bI (aB (vv 0) (aB (dJ (v:=.ty "tuple") (by rfl) T.iT eZ rfl) aA))))) (dN (cG (aBq aBu aBu (vv 1) (aK bA (by rfl) T.fJ cZ (aB (vv 0) aA)) (vv 2)))))) (aG (aL gQ)) aZ) (aG (aL (aK (lU rfl) (by rfl) T.aBk uY (aB (cJ (N:=["part","is_part"]) (by trivial) (dX (aD fW) rfl (by decide +kernel)) rfl (rH (vv 0)) (λcl s' H' fp=>⟨(aM (i:=0) (show (["part","is_part"]:List Str).Nodup from by decide +kernel) rfl (Or.inl rfl)),gO,(aSm (P:=P) (w:=w) (K:=K) (mg:=mg) (base:=base) hr (vv 1) (aB (vv 0) aA))⟩)) aA))))),?_⟩;cases hv with
 |no h=>exact⟨_,rfl,_,_,rfl,h,_,rfl,fV (q H (Same.refl H))⟩
 |@len a xs ha hn=>refine⟨_,rfl,_,_,rfl,.tup ha,_,rfl,bY ?_⟩;refine⟨_,rfl,_,rfl,_,_,rfl,.inr ha,_,_,rfl,rfl,_,rfl,?_⟩;refine aKg (λc=>⟨_,rfl,_,_,rfl,rfl,_,rfl,?_⟩) (λc=>⟨_,rfl,fV (q H (Same.refl H))⟩);have c':(lo:Int)<=xs.length:=of_decide_eq_true c;have e:decide ((xs.length:Int)<=(hi:Int))=false:=v8 λz=>hn ⟨by lia,by lia⟩;rw[e];exact fV (q H (Same.refl H))
 |@yes a xs t ha h1 h2 hx=>
  refine⟨_,rfl,_,_,rfl,.tup ha,_,rfl,bY ?_⟩;refine⟨_,rfl,_,rfl,_,_,rfl,.inr ha,_,_,rfl,rfl,_,rfl,?_⟩;have e1:decide ((lo:Int)<=(xs.length:Int))=true:=t6 (by lia);have e2:decide ((xs.length:Int)<=(hi:Int))=true:=t6 (by lia);rw[e1];refine fV ⟨_,rfl,_,_,rfl,rfl,_,rfl,?_⟩;rw[e2];refine bY ?_;dsimp only[tK,sY,tCB,eQ];refine aDi xs (λx=>.bl (t x)) [none,some (.ref g)] ?_ (small (by lia)) (λR r=>aJz ha (λR' r'=>⟨_,rfl,r'⟩) R r) (λx hx' H' R l sm r=>?_) rfl λD H' sm hD=>?_
  ·exact jT 3 (by decide +kernel) rfl rfl (by trivial)
  ·exact⟨_,rfl,g,ps,_,rfl,hg,_,rfl,x,t x,rfl,hR.same sm (hx x hx'),r⟩
  ·refine⟨D,xs.map t,rfl,SqL.of (by rw[hD,bDF];rfl),?_⟩;rw[List.all_map];exact q H' sm
theorem aCi (T:Txt w K mg):Ok P w K mg base 1 "are_unlike" ["names"] (aEh K):=by
 refine Ok.ofV T.aF5 aCo (λvs H Q E h=>?_) (λf cdv A outer s H vs Q E hr h=>?_)
 ·obtain⟨a,ss,rfl,_⟩:=h;rfl
 obtain⟨a,ss,rfl,ha,hl,q⟩:=h;refine⟨_,(aG (aL (cQ fK (aK aKw (by rfl) T.fJ cZ (aB (cW (aMc rfl) (by rfl) T.aMx aE5 (aB (vv 0) aA)) aA)) (aK bA (by rfl) T.fJ cZ (aB (vv 0) aA)) (aY _)))),?_⟩;refine⟨_,rfl,a,ss,rfl,ha,hl,λD hD=>⟨D,ss,rfl,aH,_,rfl,a,_,rfl,.inl ((aW hD _).seq ha),rfl,?_⟩⟩;have e:decide (V.int ((nP ss).length:Nat)=V.int (ss.map V.str).length)=decide ((nP ss).length=ss.length):=by
  rw[j9];by_cases z:(nP ss).length=ss.length
  ·rw[z];simp
  ·rw[v8 z,v8 (by intro y;apply z;have:=V.int.inj y;lia)]
 rw[e];exact q _ (aW hD _)
abbrev kinds:List V:=[.str "number",.str "word"]
inductive aGi (K:bEX)(H:Hp):V->Bool->Prop
 |no {v}:Tk K H v false->aGi K H v false
 |len {a xs}:SqT K H a xs->xs.length≠2->aGi K H (.ref a) false
 |two {a x y}:SqT K H a [x,y]->Th K H x->Th K H y->aGi K H (.ref a) (nameB x && (isS y && inV y kinds))
theorem aO8 (K:bEX):Tells (aGi K):=⟨λe h=>by
 cases h with
 |no q=>exact .no (Tk.same e q)
 |len q n=>exact .len (e.aV q) n
 |two q x y=>exact .two (e.aV q) (x.same e) (y.same e)⟩
theorem aFi (T:Txt w K mg)(jL:Ok P w K mg base 2 "is_name" ["thing"] (aC3 K nameB))(jV:Ok P w K mg base 1 "is_one_of" ["thing","texts"] (aKi K)):Ok P w K mg base 3 "is_column" ["thing"] (aYf (aGi K)):=by
 refine Ok.ofV T.aIk aFm (λvs H Q E h=>?_) (λf cdv A outer s H vs Q E hr h=>?_)
 ·obtain⟨v,b,rfl,_⟩:=h;rfl
 obtain⟨v,b,rfl,hv,q⟩:=h;obtain⟨ka,mk,hka⟩:=T.aGg;have aGg:∃u,mg "KINDS"=some u/\RelV (.ref ka) u:=⟨_,mk,rfl⟩;refine⟨_,(aC (cA (VW.pt (fB (cG (bV (aK gZ (by rfl) T.bM bI (aB (vv 0) (aB (dJ (v:=.ty "tuple") (by rfl) T.iT eZ rfl) aA))))) (dN (bC yV (aK bA (by rfl) T.fJ cZ (aB (vv 0) aA)) aF (aY _))))) (aG (aL gQ)) aZ) (aG (aL (gJ (aO (jL.mono (by decide)) hr (by rfl) (aB (aP bH (vv 0) aF (λ_ _=>rfl)) aA)) (gK (aO (jV.mono (by decide)) hr (by rfl) (aB (aP bH (vv 0) aF (λ_ _=>rfl)) (aB (tQ (by rfl) aGg) aA)))))))),?_⟩;cases hv with
 |no h=>exact⟨_,rfl,_,_,rfl,h,_,rfl,fV (q H (Same.refl H))⟩
 |@len a xs ha hn=>
  refine⟨_,rfl,_,_,rfl,.tup ha,_,rfl,bY ?_⟩;refine⟨_,rfl,_,_,rfl,.inr ha,rfl,_,rfl,?_⟩;have e:(!decide (V.int (xs.length:Nat)=V.int 2))=true:=by rw[v8 (by intro y;apply hn;have:=V.int.inj y;lia)];rfl
  rw[e];exact fV (q H (Same.refl H))
 |@two a x y ha hx hy=>
  refine⟨_,rfl,_,_,rfl,.tup ha,_,rfl,bY ?_⟩;refine⟨_,rfl,_,_,rfl,.inr ha,rfl,_,rfl,bY ?_⟩;refine⟨_,rfl,a,_,0,_,rfl,rfl,ha,at0 _ _,x,rfl,hx,λH1 s1=>⟨_,rfl,?_⟩⟩;cases hn:nameB x with
  |false=>rw[hn] at q;exact bY (q H1 s1)
  |true=>rw[hn] at q;refine fV ⟨_,rfl,a,_,1,_,rfl,rfl,s1.aV ha,at1 _ _ _,y,ka,kinds,rfl,hy.same s1,hka _,rfl,q H1 s1⟩
def kindS (v:V):Str:=if whole v then "number" else "word"
def aKa (K:bEX):Sp:=λvs H Q _=>∃v k,vs=[v,.str k]/\Th K H v/\∀H',Same H H'->Q (.bl (aKe v && decide (kindS v=k))) H'
theorem aAg (T:Txt w K mg)(aLd:Ok P w K mg base 2 "is_value" ["thing"] (aC3 K aKe))(aPu:Ok P w K mg base 2 "kind_of" ["value"] (aMo K)):Ok P w K mg base 3 "is_value_of" ["thing","kind"] (aKa K):=by
 refine Ok.ofV T.aC5 aAm (λvs H Q E h=>?_) (λf cdv A outer s H vs Q E hr h=>?_)
 ·obtain⟨v,k,rfl,_⟩:=h;rfl
 obtain⟨v,k,rfl,hv,q⟩:=h;refine⟨_,(aG (aL (gJ (aO (aLd.mono (by decide)) hr (by rfl) (aB (vv 0) aA)) (gK (cQ fK (aO (aPu.mono (by decide)) hr (by rfl) (aB (vv 0) aA)) (vv 1) (aY _)))))),?_⟩;refine⟨_,rfl,v,rfl,hv,λH1 s1=>⟨_,rfl,?_⟩⟩;cases hvb:aKe v with
 |false=>rw[hvb] at q;exact bY (q H1 s1)
 |true=>rw[hvb] at q;refine fV ⟨_,rfl,v,rfl,hv.same s1,_,rfl,rfl,?_⟩;have z:decide (V.str (if whole v then "number" else "word")=V.str k)=decide (kindS v=k):=decide_eq_decide.mpr ⟨λy=>V.str.inj y,λy=>congrArg V.str y⟩;rw[z];exact q H1 s1
theorem at2 (x y z:V)(r:List V):atI (x::y::z::r) 2=some z:=by unfold atI ixN;simp only[v7];rw[if_pos (by lia),if_pos (by lia)];rfl
theorem aL0 {K:bEX}{H:Hp}{x:Str}(h:x.length<=8):Th K H (.str x):=.inl ⟨x,rfl,by lia⟩
def Nm (x:Str):Prop:=nameB (.str x)=true
theorem aRp {x:Str}(h:nameB (.str x)=true):x.length<=8:=by have h:(sX 1 (.str x) && !inV (.str x) words)=true:=h;rw[bAR] at h;obtain⟨y,e,_,h8,_⟩:=aFt h.1;cases e;exact h8
theorem Nm.th {K:bEX}{H:Hp}{x:Str}(h:Nm x):Th K H (.str x):=aL0 (aRp h)
inductive cU {α β:Type}(R:α->β->Prop):List α->List β->Prop
 |nil:cU R [] []
 |cons {a b as bs}:R a b->cU R as bs->cU R (a::as) (b::bs)
theorem cU.len {α β:Type}{R:α->β->Prop}{as:List α}{bs:List β}(h:cU R as bs):as.length=bs.length:=by
 induction h with
 |nil=>rfl
 |cons _ _ ih=>rw[v7,v7,ih]
theorem cU.imp {α β:Type}{R S:α->β->Prop}{as:List α}{bs:List β}(h:cU R as bs)(k:∀a b,R a b->S a b):cU S as bs:=by
 induction h with
 |nil=>exact .nil
 |cons r _ ih=>exact .cons (k _ _ r) ih
theorem cU.mem {α β:Type}{R:α->β->Prop}{as:List α}{bs:List β}(h:cU R as bs){a:α}(m:a∈as):∃b,b∈bs/\R a b:=by
 induction h with
 |nil=>cases m
 |cons r _ ih=>
  rcases List.mem_cons.mp m with rfl|m
  ·exact⟨_,j8 ..,r⟩
  ·obtain⟨b,hb,q⟩:=ih m;exact⟨b,j6 _ hb,q⟩
theorem cU.app {α β:Type}{R:α->β->Prop}{as cs:List α}{bs ds:List β}(h:cU R as bs)(k:cU R cs ds):cU R (as++cs) (bs++ds):=by
 induction h with
 |nil=>exact k
 |cons r _ ih=>exact .cons r ih
def qP {α:Type}(K:bEX)(H:Hp)(R:V->α->Prop)(v:V)(xs:List α):Prop:=∃a vs,v=.ref a/\SqT K H a vs/\cU R vs xs
theorem qP.same {α:Type}{K:bEX}{H H':Hp}{R S:V->α->Prop}{v:V}{xs:List α}(e:Same H H')(k:∀a b,R a b->S a b)(h:qP K H R v xs):qP K H' S v xs:=by obtain⟨a,vs,rfl,ha,hr⟩:=h;exact⟨a,vs,rfl,e.aV ha,hr.imp k⟩
abbrev Hdr:=List (Str × Str)
def IsC (K:bEX)(H:Hp)(v:V)(c:Str × Str):Prop:=∃p,v=.ref p/\SqT K H p [.str c.1,.str c.2]
theorem IsC.same {K:bEX}{H H':Hp}{v:V}{c:Str × Str}(e:Same H H')(h:IsC K H v c):IsC K H' v c:=by obtain⟨p,rfl,hp⟩:=h;exact⟨p,rfl,e.aV hp⟩
def kI (K:bEX)(H:Hp)(v:V)(hd:Hdr):Prop:=qP K H (IsC K H) v hd
theorem kI.same {K:bEX}{H H':Hp}{v:V}{hd:Hdr}(e:Same H H')(h:kI K H v hd):kI K H' v hd:=qP.same e (λ_ _ q=>q.same e) h
def look (hd:Hdr)(n:Str):Option Str:=(hd.find? λc=>decide (c.1=n)).map (·.2)
theorem aFj {n k:Str}:∀{hd:Hdr},look hd n=some k->∃i,hd[i]?=some (n,k)/\∀(j:Nat) (c:Str × Str),j<i->hd[j]?=some c->c.1≠n
 |[],h=>by cases h
 |(m,j)::r,h=>by
  unfold look at h;rw[bCA] at h;by_cases e:m=n
  ·rw[t6 (p:=(m,j).1=n) e] at h;have h':j=k:=bAN h;subst e h';exact⟨0,rfl,λj c hj=>absurd hj (bC6 _)⟩
  ·rw[v8 (p:=(m,j).1=n) e] at h;obtain⟨i,h1,h2⟩:=aFj (hd:=r) h;refine⟨i+1,by simpa using h1,λj' c hj hc=>?_⟩;cases j' with
   |zero=>cases hc;exact e
   |succ j'=>exact h2 j' c (by lia) (by simpa using hc)
theorem cM {α β:Type}{R:α->β->Prop}:∀{as:List α} {bs:List β},cU R as bs->∀{i:Nat} {a:α},as[i]?=some a->∃b,bs[i]?=some b/\R a b
 |_,_,.cons r t,0,_,h1=>by cases h1;exact⟨_,rfl,r⟩
 |_,_,.cons r t,i+1,a,h1=>by obtain⟨b,e,q⟩:=cM t (i:=i) (a:=a) (by simpa using h1);exact⟨b,by simpa using e,q⟩
def aS6 (K:bEX):Sp:=λvs H Q _=>∃vh n hd k,vs=[vh,.str n]/\kI K H vh hd/\look hd n=some k/\Q (.str k) H
theorem aLw (T:Txt w K mg):Ok P w K mg base 1 "kind_in" ["head","name"] (aS6 K):=by
 refine Ok.ofV T.aP7 aA1 (λvs H Q E h=>?_) (λf cdv A outer s H vs Q E hr h=>?_)
 ·obtain⟨vh,n,hd,k,rfl,_⟩:=h;rfl
 obtain⟨vh,n,hd,k,rfl,⟨a,us,rfl,ha,hu⟩,hk,q⟩:=h;refine⟨_,(aC (jF PassesOwn.never rfl (rH (vv 0)) (aM (i:=2) aA1.nd rfl (by trivial)) (aG (cA (bC fK (aP (bO (K:=K)) (vv 2) aF (λ_ _=>rfl)) (vv 1) (aY _)) (aG (aL (aP (bO (K:=K)) (vv 2) aF (λ_ _=>rfl)))) aZ))) (aG fX)),?_⟩;obtain⟨i0,h0,hf⟩:=aFj hk;have hi0:i0<us.length:=by rw[hu.len];exact (List.getElem?_eq_some_iff.mp h0).1
 refine⟨_,rfl,a,rfl,⟨_,ha⟩,aWn (xs:=us) (λi σ H'=>H'=H/\i<=i0/\∃l,σ=[some (.ref a),some (.str n),l]) ⟨rfl,bAE _,_,rfl⟩ (λi σ H' _ ⟨e,_⟩=>by rw[e];exact ha) ?_ ?_⟩
 ·rintro i x σ H' hx ⟨rfl,hi,l,rfl⟩;obtain⟨c,hc,p,rfl,hp⟩:=cM hu hx;refine⟨_,rfl,p,_,0,_,rfl,rfl,hp,at0 _ _,_,rfl,rfl,_,rfl,?_⟩;by_cases e:i=i0
  ·subst e;rw[h0] at hc;cases hc;rw[t6 rfl];exact fV ⟨_,rfl,p,_,1,_,rfl,rfl,hp,at1 _ _ _,q⟩
  ·have hn:=hf i c (by lia) hc;rw[v8 (by intro z;exact hn (V.str.inj z))];exact bY ⟨rfl,by lia,_,rfl⟩
 ·rintro σ H' ⟨rfl,hi,_⟩;lia
theorem aQn {α:Type}{f:α->V}{xs:List α}{i:Nat}{y:V}(h:(xs.map f)[i]?=some y):∃x,xs[i]?=some x/\y=f x:=by
 rw[v9] at h;cases e:xs[i]? with
 |none=>rw[e] at h;cases h
 |some x=>rw[e] at h;cases h;exact⟨x,rfl,rfl⟩
def Good (hd:Hdr):Prop:=(hd.map (·.1)).Nodup/\1<=hd.length/\hd.length<=8
def aEn (K:bEX):Sp:=λvs H Q _=>∃v hd,vs=[v]/\kI K H v hd/\hd.length<=1000/\∀D H',Same H H'->H' D=some (.lst ((hd.map (·.1)).map V.str))->Q (.ref D) H'
theorem aGc (T:Txt w K mg):Ok P w K mg base 1 "names_of" ["head"] (aEn K):=by
 refine Ok.ofV T.aKf aHe (λvs H Q E h=>?_) (λf cdv A outer s H vs Q E hr h=>?_)
 ·obtain⟨v,hd,rfl,_⟩:=h;rfl
 obtain⟨v,hd,rfl,⟨a,us,rfl,ha,hu⟩,hl,q⟩:=h;refine⟨_,(aG (aL (cJ (N:=["column"]) (by trivial) (lY (by decide +kernel)) rfl (rH (vv 0)) (λcl s' H' fp=>⟨(aM (i:=0) (show (["column"]:List Str).Nodup from by decide +kernel) rfl (Or.inl rfl)),gO,(aP (bO (K:=K)) (vv 0) aF (λ_ _=>rfl))⟩)))),?_⟩;have lu:=hu.len;refine aV9 us ((hd.map (·.1)).map V.str) (by rw[j9,j9];lia) [none] wR (small (by lia)) (λR r=>aJz ha (λR' r'=>⟨_,rfl,r'⟩) R r) (λi x y ex ey H' R l sm r=>?_) rfl λD H' sm hD=>q D H' sm hD;obtain⟨c,hc,p,rfl,hp⟩:=cM hu ex;obtain⟨n,hn,rfl⟩:=aQn ey;rw[v9,hc] at hn;cases hn;exact⟨_,rfl,p,_,0,_,rfl,rfl,sm.aV hp,at0 _ _,r H' (Same.refl H')⟩
def plc:Hdr->Str->Nat
 |[],_=>0
 |c::r,n=>if c.1=n then 0 else plc r n+1
theorem aGl {n k:Str}:∀{hd:Hdr},look hd n=some k->hd[plc hd n]?=some (n,k)/\∀(j:Nat) (c:Str × Str),j<plc hd n->hd[j]?=some c->c.1≠n
 |[],h=>by cases h
 |(m,q)::r,h=>by
  unfold look at h;rw[bCA] at h;by_cases e:m=n
  ·rw[t6 (p:=(m,q).1=n) e] at h;have h':q=k:=bAN h;subst e h';have z:plc ((m,q)::r) m=0:=if_pos rfl;rw[z];exact⟨rfl,λj c hj=>absurd hj (bC6 _)⟩
  ·rw[v8 (p:=(m,q).1=n) e] at h;obtain⟨h1,h2⟩:=aGl (hd:=r) h;have z:plc ((m,q)::r) n=plc r n+1:=if_neg e;rw[z];refine⟨by simpa using h1,λj c hj hc=>?_⟩;cases j with
   |zero=>cases hc;exact e
   |succ j=>exact h2 j c (by lia) (by simpa using hc)
def oA (K:bEX):Sp:=λvs H Q _=>∃vh n hd k,vs=[vh,.str n]/\kI K H vh hd/\hd.length<=1000/\look hd n=some k/\∀H',Same H H'->Q (.int (plc hd n:Nat)) H'
theorem yK (T:Txt w K mg)(mD:Ok P w K mg base 1 "names_of" ["head"] (aEn K)):Ok P w K mg base 2 "place_of" ["head","name"] (oA K):=by
 refine Ok.ofV T.aKr aHk (λvs H Q E h=>?_) (λf cdv A outer s H vs Q E hr h=>?_)
 ·obtain⟨vh,n,hd,k,rfl,_⟩:=h;rfl
 obtain⟨vh,n,hd,k,rfl,hI,hl,hk,q⟩:=h;obtain⟨h1,h2⟩:=aGl hk;refine⟨_,(aG (aL (aDj PySem.F.plainAttrs_list PySem.F.slot_list_index PySem.F.type_list_index aEd (aO (mD.mono (by decide)) hr (by rfl) (aB (vv 0) aA)) (aB (vv 1) aA)))),?_⟩;refine⟨_,rfl,vh,hd,rfl,hI,hl,λD H1 s1 g1=>?_⟩;refine⟨.inl ⟨rfl,_,SqL.of g1⟩,_,rfl,D,hd.map (·.1),n,plc hd n,rfl,rfl,SqL.of g1,by rw[j9];exact hl,by rw[v9,h1];rfl,λj m hj hm=>?_,q H1 s1⟩;rw[v9] at hm;obtain⟨c,hc,rfl⟩:=Option.map_eq_some_iff.mp hm;exact h2 j c hj hc
theorem aOb {n:Str}{ss:List Str}:inV (.str n) (ss.map V.str)=decide (n∈ss):=by
 unfold inV;rw[bCJ,bDE,decide_eq_true_eq];constructor
 ·rintro⟨v,hv,e⟩;obtain⟨z,hz,rfl⟩:=List.mem_map.mp hv;have e2:(z == n)=true:=e;have e3:z=n:=by simpa using e2
  rw[<-e3];exact hz
 ·intro h;refine⟨.str n,List.mem_map.mpr ⟨n,h,rfl⟩,?_⟩;show (n == n)=true;simp
theorem aHi {ss:List Str}:(ss.map V.str).all jW=true:=by rw[bBX];intro v hv;obtain⟨z,_,rfl⟩:=List.mem_map.mp hv;rfl
theorem aM9 {z:Str}{j:Int}(h0:0<=j)(h1:j<z.length):∃c,z.cps[j.toNat]?=some c:=
 ⟨_,m9 (by show j.toNat<z.length;lia)⟩
theorem aFa (x y:Str):(x++y).length=x.length+y.length:=by show (x.cps++y.cps).size=_;rw[Array.size_append];rfl
theorem at_of {xs:List V}{j:Int}(h0:0<=j)(h1:j<xs.length):∃v,atI xs j=some v/\v∈xs:=by
 have hj:j.toNat<xs.length:=by lia
 refine⟨xs[j.toNat],?_,bAT hj⟩;have e2:atI xs ((j.toNat:Nat):Int)=some xs[j.toNat]:=cL (d7 hj);rw[show ((j.toNat:Nat):Int)=j by lia] at e2;exact e2
def Lets (x:Str):Prop:=∀c∈x.cps,97<=c/\c<=122
theorem aVm:∀k:_root_.Fin 26,inA ⟨#[97+k.val]⟩=true:=by decide +kernel
theorem aX6 {c:Nat}(h1:97<=c)(h2:c<=122):inA ⟨#[c]⟩=true:=by have:=aVm ⟨c - 97,by lia⟩;simp only at this;rw[show 97+(c - 97)=c by lia] at this;exact this
theorem allIn_of {x:Str}(h:Lets x):allIn x=true:=by
 unfold allIn;rw[bBX];intro b hb;obtain⟨i,hi,rfl⟩:=List.mem_map.mp hb;have hi':i<x.cps.size:=List.mem_range.mp hi;have e:x.cps.getD i 0=x.cps[i]:=by rw[v5,m9 hi'];rfl
 obtain⟨h1,h2⟩:=h _ (bD1 hi');show inA (sgn x i)=true;unfold sgn;rw[e];exact aX6 h1 h2
theorem Lets.add {x y:Str}(hx:Lets x)(hy:Lets y):Lets (x++y):=λc hc=>by
 have hc:c∈x.cps++y.cps:=hc;rcases Array.mem_append.mp hc with h|h
 ·exact hx c h
 ·exact hy c h
theorem Lets.one {z:Str}{i c:Nat}(hz:Lets z)(h:z.cps[i]?=some c):Lets ⟨#[c]⟩:=λd hd=>by
 have hd:d∈#[c]:=hd;have e:d=c:=by simpa using hd
 subst e;exact hz _ (bC8 h)
theorem aH6:Lets abc:=by
 have h:(abc.cps.all λc=>decide (97<=c) && decide (c<=122))=true:=by decide +kernel
 intro c hc;have:=(Array.all_eq_true_iff_forall_mem.mp h) c hc;rw[bAR] at this;exact⟨of_decide_eq_true this.1,of_decide_eq_true this.2⟩
inductive cF:Str->V->Prop
 |num {i}:cF "number" (.int i)
 |wrd {x}:Lets x->x.length<=8->cF "word" (.str x)
def val (c:Nat):Int:=(c:Int) - 96
def num (x:Str):Nat->Int
 |0=>0
 |n+1=>num x n * 27+val (x.cps.getD n 0)
theorem aWf:∀k:_root_.Fin 26,Builtin.Str.occurrences abc ⟨#[97+k.val]⟩ 0 abc.length 1=[k.val]:=by decide +kernel
theorem occ {c:Nat}(h1:97<=c)(h2:c<=122):Builtin.Str.occurrences abc ⟨#[c]⟩ 0 abc.length 1=[c - 97]:=by
 have h:=aWf ⟨c - 97,by lia⟩;have e:97+(c - 97)=c:=by lia
 simpa [e] using h
def Vl (v:V):Prop:=(∃i,v=.int i)\/∃x,v=.str x/\Lets x/\x.length<=8
def nm:V->Int
 |.int i=>i
 |.str x=>num x x.cps.size
 |_=>0
theorem Lets.at {x:Str}(h:Lets x){i:Nat}(hi:i<x.cps.size):97<=x.cps.getD i 0/\x.cps.getD i 0<=122:=by rw[v5,m9 hi];exact h _ (bD1 hi)
theorem Vl.th {K:bEX}{H:Hp}{v:V}(h:Vl v):Th K H v:=by
 rcases h with⟨i,rfl⟩|⟨x,rfl,_,h8⟩
 ·exact .inr (.inl ⟨i,rfl⟩)
 ·exact .inl ⟨x,rfl,by lia⟩
def aMq:Sp:=λvs H Q _=>∃x,vs=[.str x]/\Lets x/\Q (.int (num x x.cps.size)) H
def aNc:Sp:=λvs H Q _=>∃v h,vs=[v,.int h]/\Vl v/\0<h/\Q (.int (nm v % h)) H
theorem aAu (T:Txt w K mg):Ok P w K mg base 1 "word_number" ["word"] aMq:=by
 refine Ok.ofV T.aCl iJ (λvs H Q E h=>?_) (λf cdv A outer s H vs Q E hr h=>?_)
 ·obtain⟨v,rfl,_⟩:=h;rfl
 obtain⟨x,rfl,hx,q⟩:=h;refine⟨_,(aC (aX (i:=1) iJ.nd rfl (by trivial) aF) (aC (jF PassesOwn.never rfl (aQw (vv 0)) (aM (i:=2) iJ.nd rfl (by trivial)) (aG (aX (i:=1) iJ.nd rfl (by trivial) (bQ eN (bQ eN (bQ yE (vv 1) (tQ (by rfl) T.aI1)) (aDj PySem.F.plainAttrs_str PySem.F.slot_str_index PySem.F.type_str_index aRn (tQ (by rfl) T.aDt) (aB (vv 2) aA))) aF)))) (aG (aL (vv 1))))),?_⟩;refine⟨_,rfl,_,rfl,aUi (x:=x) (λi σ H'=>H'=H/\∃l,σ=[some (.str x),some (.int (num x i)),l]) ⟨rfl,_,rfl⟩ ?_ ?_⟩
 ·rintro i σ H' hi ⟨rfl,l,rfl⟩;obtain⟨h1,h2⟩:=hx.at hi;refine⟨_,rfl,_,_,rfl,rfl,.inr ⟨by decide,by decide⟩,rfl,_,rfl,_,_,_,_,rfl,rfl,occ h1 h2,_,_,rfl,rfl,_,_,rfl,rfl,rfl,some (.str (sgn x i)),?_⟩;have e:num x i * 27+((x.cps.getD i 0 - 97:Nat):Int)+1=num x (i+1):=by show num x i * 27+((x.cps.getD i 0 - 97:Nat):Int)+1=num x i * 27+((x.cps.getD i 0:Int) - 96);lia
  exact congrArg (λn=>[some (V.str x),some (V.int n),some (V.str (sgn x i))]) e
 ·rintro σ H' ⟨rfl,l,rfl⟩;exact⟨_,rfl,q⟩
theorem aUw (T:Txt w K mg)(dW:Ok P w K mg base 1 "is_whole" ["thing"] (oG K))(aCr:Ok P w K mg base 1 "word_number" ["word"] aMq):Ok P w K mg base 2 "home" ["value","houses"] aNc:=by
 refine Ok.ofV T.aZl aN4 (λvs H Q E h=>?_) (λf cdv A outer s H vs Q E hr h=>?_)
 ·obtain⟨v,h,rfl,_⟩:=h;rfl
 obtain⟨v,h,rfl,hv,h0,q⟩:=h;refine⟨_,(aC (aX (i:=2) aN4.nd rfl (by trivial) (aIz (bV (aO (dW.mono (by decide)) hr (by rfl) (aB (vv 0) aA))) (vv 0) (aO (aCr.mono (by decide)) hr (by rfl) (aB (vv 0) aA)))) (aG (aL (bQ pG (vv 2) (vv 1))))),?_⟩;have ht:=hv.th (K:=K) (H:=H);rcases hv with⟨i,rfl⟩|⟨x,rfl,hx,h8⟩
 ·exact⟨_,rfl,_,rfl,ht,_,rfl,fV ⟨_,rfl,_,rfl,_,rfl,_,_,rfl,rfl,h0,q⟩⟩
 ·exact⟨_,rfl,_,rfl,ht,_,rfl,bY ⟨_,rfl,_,rfl,hx,_,rfl,_,rfl,_,_,rfl,rfl,h0,q⟩⟩
def wI:Sp:=λvs H Q _=>∃i m:Int,vs=[.int i,.int m]/\Q (.bl (decide (0<=i) && decide (i<m))) H
theorem uL (T:Txt w K mg)(dW:Ok P w K mg base 1 "is_whole" ["thing"] (oG K)):Ok P w K mg base 2 "is_number_below" ["thing","many"] wI:=by
 refine Ok.ofV T.vD tZ (λvs H Q E h=>?_) (λf cdv A outer s H vs Q E hr h=>?_)
 ·obtain⟨i,m,rfl,_⟩:=h;rfl
 obtain⟨i,m,rfl,q⟩:=h;refine⟨_,(aG (aL (gJ (aO (dW.mono (by decide)) hr (by rfl) (aB (vv 0) aA)) (gK (aQf aBu aWx aF (vv 0) (vv 1)))))),?_⟩;refine⟨_,rfl,_,rfl,.inr (.inl ⟨i,rfl⟩),_,rfl,fV ?_⟩;refine⟨_,rfl,_,_,rfl,rfl,_,rfl,?_⟩;cases h0:decide (0<=i) with
 |false=>rw[h0] at q;exact bY q
 |true=>rw[h0] at q;exact fV ⟨_,rfl,_,_,rfl,rfl,q⟩
end
end My
namespace PySem.W
open PySem PySem.Calls PyProof.Rows
def KasT.ev {α:Type}(f:Nat->Nat->Bool):KasT α->α
 |.ret a=>a
 |.ask i j k=>(k (f i j)).ev f
inductive KasT.Low {α:Type}(n:Nat)(P:α->Prop):KasT α->Prop
 |ret {a}:P a->KasT.Low n P (.ret a)
 |ask {i j k}:i<n->j<n->(∀b,KasT.Low n P (k b))->KasT.Low n P (.ask i j k)
theorem KasT.Low.bind {α β:Type}{n:Nat}{P:α->Prop}{R:β->Prop}{t:KasT α}{f:α->KasT β}(h:t.Low n P)(hf:∀a,P a->(f a).Low n R):(t.bind f).Low n R:=by
 induction h with
 |ret h=>exact hf _ h
 |ask a b _ ih=>exact .ask a b ih
theorem KasT.Low.of {α:Type}{n:Nat}{P:α->Prop}{t:KasT α}(h:t.Low n P)(f:Nat->Nat->Bool):P (t.ev f):=by
 induction h with
 |ret h=>exact h
 |@ask i j k a b _ ih=>exact ih (f i j)
theorem aZo {α:Type}{n:Nat}{P:α->Prop}{f:Nat->Nat->Bool}{cmp:Nat->Nat->(Bool->Shared->Prop)->Shared->Prop}{s:Shared}(hc:∀i j C,i<n->j<n->C (f i j) s->cmp i j C s){t:KasT α}(h:t.Low n P){Q:α->Shared->Prop}(q:Q (t.ev f) s):t.kasWp cmp Q s:=by
 induction h with
 |ret h=>exact q
 |@ask i j k a b _ ih=>exact hc i j _ a b (ih (f i j) q)
def Pl (n:Nat)(p:Array Nat):Prop:=p.size=n/\∀k,p.getD k 0<n
theorem Pl.perm {n:Nat}{p q:Array Nat}(h:Pl n p)(e:q.Perm p)(h0:0<n):Pl n q:=by
 refine⟨e.size_eq.trans h.1,λk=>?_⟩;by_cases hk:k<q.size
 ·have hm:q[k]∈p.toList:=(Array.perm_iff_toList_perm.mp e).mem_iff.mp (by simp);obtain⟨j,hj,ej⟩:=bBC hm;have hj':j<p.size:=by simpa using hj
  have:=h.2 j;rw[v5,m9 hj',bBO] at this;rw[v5,m9 hk,bBO,<-ej];simpa using this
 ·rw[v5,bB6 (by lia)];exact h0
theorem aF4 {n:Nat}{p:Array Nat}(h:Pl n p):∀f m,(kas_asc p f m).Low n (λr=>m<=r/\r<=m+f)
 |0,m=>.ret ⟨j0 _,j0 _⟩
 |f+1,m=>by
  refine .ask (h.2 _) (h.2 _) λc=>?_;by_cases e:c=true
  ·rw[if_pos e];exact .ret ⟨j0 _,by lia⟩
  ·rw[if_neg e];have z:=aF4 h f (m+1);generalize kas_asc p f (m+1)=t at z
   induction z with
   |ret q=>exact .ret ⟨by lia,by lia⟩
   |ask a b _ ih=>exact .ask a b ih
theorem vK {n:Nat}(h0:0<n):∀(f:Nat) (p:Array Nat) (m q:Nat),Pl n p->(kas_desc f p m q).Low n (λr=>Pl n r.1)
 |0,p,m,q,h=>.ret h
 |f+1,p,m,q,h=>by
  refine .ask (h.2 _) (h.2 _) λc=>?_;by_cases e:c=true
  ·rw[if_pos e];by_cases e2:q > 0
   ·rw[if_pos e2];exact vK h0 f _ _ _ (h.perm (mirror_perm _ _ _ _) h0)
   ·rw[if_neg e2];exact vK h0 f _ _ _ h
  ·rw[if_neg e];refine .ask (h.2 _) (h.2 _) λd=>?_;by_cases e3:d=true
   ·rw[if_pos e3];exact .ret h
   ·rw[if_neg e3];exact vK h0 f _ _ _ h
theorem aDr {n:Nat}(h0:0<n){p:Array Nat}(h:Pl n p)(m nrem:Nat):(kas_tail3 m nrem p).Low n (λr=>Pl n r.2):=by have h':Pl n (kas_rev p 0 m):=h.perm (mirror_perm _ _ _ _) h0;exact (aF4 h' _ _).bind λ_ _=>.ret h'
theorem wJ {n:Nat}(h0:0<n){p:Array Nat}(h:Pl n p)(m nrem:Nat):(kas_descPart m nrem p).Low n (λr=>Pl n r.2):=by
 refine (vK h0 _ _ _ _ h).bind λr hr=>?_;by_cases e:r.2.2 > 0
 ·rw[if_pos e];exact aDr h0 (hr.perm (mirror_perm _ _ _ _) h0) _ _
 ·rw[if_neg e];exact aDr h0 hr _ _
theorem aPk {n:Nat}(h0:0<n){p:Array Nat}(h:Pl n p)(nrem:Nat):(kas_count nrem p).Low n (λr=>Pl n r.2):=by
 refine (aF4 h _ _).bind λm _=>?_;by_cases e:(m == nrem)=true
 ·rw[if_pos e];exact .ret h
 ·rw[if_neg e];by_cases e2:m > 1
  ·rw[if_pos e2];refine .ask (h.2 _) (h.2 _) λc=>?_;by_cases e3:c=true
   ·rw[if_pos e3];exact .ret h
   ·rw[if_neg e3];exact wJ h0 (h.perm (mirror_perm _ _ _ _) h0) _ _
  ·rw[if_neg e2];exact wJ h0 h _ _
theorem wW {n:Nat}{p:Array Nat}(h:Pl n p)(k:Nat):∀f l r,(kas_place p k f l r).Low n (λ_=>True)
 |0,l,r=>.ret trivial
 |f+1,l,r=>by
  unfold kas_place;by_cases e:l ≥ r
  ·rw[if_pos e];exact .ret trivial
  ·rw[if_neg e];refine .ask (h.2 _) (h.2 _) λc=>?_;by_cases e2:c=true
   ·rw[if_pos e2];exact wW h k f _ _
   ·rw[if_neg e2];exact wW h k f _ _
theorem aN5 {n:Nat}(h0:0<n):∀(f:Nat) (p:Array Nat) (k:Nat),Pl n p->(kas_bin f p k).Low n (Pl n)
 |0,p,k,h=>.ret h
 |f+1,p,k,h=>(wW h k k 0 k).bind λl _=>aN5 h0 f _ _ (h.perm (bubble_perm _ _ _) h0)
theorem aTc {n:Nat}(h0:0<n):Pl n (List.toArray (List.range n)):=by
 refine⟨by simp,λk=>?_⟩;rw[v5,bC9];by_cases h:k<n
 ·rw[bB8 h];exact h
 ·rw[bAC (by simpa using h)];exact h0
theorem wH {n:Nat}(h0:0<n):(kas_sort n).Low n (Pl n):=by
 refine (aPk h0 (aTc h0) n).bind λr hr=>?_;by_cases e:r.1<n
 ·rw[if_pos e];exact aN5 h0 _ _ _ hr
 ·rw[if_neg e];exact .ret hr
def dI (n:Nat)(f:Nat->Nat->Bool):List Nat:=if n<2 then List.range n else ((kas_sort n).ev f).toList
theorem sI (n:Nat)(f:Nat->Nat->Bool):(dI n f).length=n:=by
 unfold dI;by_cases h:n<2
 ·rw[if_pos h,bAK]
 ·rw[if_neg h,t7];exact ((wH (by lia)).of f).1
theorem nO {n:Nat}{f:Nat->Nat->Bool}{i:Nat}(h:i∈dI n f):i<n:=by
 unfold dI at h;by_cases h2:n<2
 ·rw[if_pos h2] at h;exact List.mem_range.mp h
 ·rw[if_neg h2] at h;have z:=(wH (n:=n) (by lia)).of f;obtain⟨j,hj,e⟩:=bBC h;have hj':j<((kas_sort n).ev f).size:=by simpa using hj
  have:=z.2 j;rw[v5,m9 hj',bBO] at this;rw[<-e];simpa using this
section
variable {prog:Program}{w:World}{A:Around}{E:bEY}{s:Shared}{f:Nat->Nat->Bool}
theorem pM {a:Addr}{vs:List Value}{n:Nat}{P:PySem.Fin->Shared->Prop}(ho:s.heap.get? a=some (seqObj "list" vs.toArray n))(h64:vs.length<64)
  (hk:2<=vs.length->∀h',(∀b o,b≠a->s.heap.get? b=some o->h'.get? b=some o)->∃κ,(∀(Q:SortKind->Shared->Prop),Q κ { s with heap:=h' }->wpAny (model prog w) A (keyKind' vs.toArray) Q (λ_ _=>False) { s with heap:=h' })/\∀i j (C:Bool->Shared->Prop),i<vs.length->j<vs.length->C (f i j) { s with heap:=h' }->kas_ask prog w A κ vs i j C { s with heap:=h' })
  (h:P (.done (.ret .none)) { s with heap:=sortedHeap s.heap a vs (List.toArray ((dI vs.length f).map λi=>vs.getD i Value.none)) }) :
  wpAny (model prog w) A (Builtin.«list.sort» ⟨[.ref a],[]⟩) P E s:=by
 rw[list_sort_plain];have ha:a<s.heap.objs.size:=m8 ho;refine c7 (listItems_at ho rfl ?_);refine c7 (listUpdate_at ho rfl ?_ (by rw[j7,sizeLine_eq];lia) (bAE _));obtain⟨e1,ho1⟩:∃e1,(s.heap.update a (Obj.mapSeq λ_=>#[])).get? a=some (seqObj "list" #[] e1):=⟨_,get?_update_seq ho (λ_=>#[])⟩;refine c7 (seqEpoch_at ho1 rfl ?_);refine c7 (bDY ?_ (by show vs.length<=_;rw[sizeLine_eq];lia));refine c7 (wpAny_newList ?_ (bAE _));refine bAQ ?_;have ho6:(((s.heap.update a (Obj.mapSeq λ_=>#[])).push (seqObj "tuple" vs.toArray 0)).push (seqObj "list" #[] 0)).get? a=some (seqObj "list" #[] e1):=by rw[bD2 _ _ _ (by rw[size_push',Heap.size_update];exact v4 (bBE ha)),bD2 _ _ _ (by rw[Heap.size_update];exact v4 ha)];exact ho1
 have keep:∀b o,b≠a->s.heap.get? b=some o->(((s.heap.update a (Obj.mapSeq λ_=>(#[]:Array Value))).push (seqObj "tuple" vs.toArray 0)).push (seqObj "list" #[] 0)).get? b=some o:=λb o ne q=>by refine d8 _ (d8 _ ?_);rw[Heap.get?_update_ne _ _ _ _ ne];exact q
 show wpAny (model prog w) A _ P E { s with heap:=((s.heap.update a (Obj.mapSeq λ_=>#[])).push (seqObj "tuple" vs.toArray 0)).push (seqObj "list" #[] 0) };dsimp only;have hsz:vs.toArray.size=vs.length:=by simp
 by_cases h2:vs.toArray.size<2
 ·rw[if_pos h2,if_pos h2];refine c7 (d9 ?_);rw[StateT.run_pure];refine c7 (d9 ?_);dsimp only;refine c7 (seqEpoch_at ho6 rfl ?_);refine c7 (listUpdate_at ho6 rfl ?_ (hsz2:=by rw[Array.size_map];show (pairsOf vs).size<=_;rw[pairsOf_size,sizeLine_eq];lia));simp only[bne_self_eq_false,bBB,if_false];refine d9 ?_;have e:((arrOf (SortSt.mk' general' (vs.toArray.zip vs.toArray) #[] 7 none)).map (·.2))=List.toArray ((dI vs.length f).map λi=>vs.getD i Value.none):=by
   show ((vs.toArray.zip vs.toArray).map (·.2))=_;unfold dI;rw[if_pos (by lia)]
   match vs,hsz,h2 with
   |[],_,_=>simp
   |[x],_,_=>simp[List.range,List.range.loop]
   |_::_::_,hsz,h2=>rw[hsz,v7,v7] at h2;lia
  rw[e];exact h
 ·rw[if_neg h2,if_neg h2];have h2':2<=vs.length:=by lia
  obtain⟨κ,hk1,hk2⟩:=hk h2' _ keep;refine c7 (bBL (hk1 (fun κ' s'=>(kas_sort vs.length).kasWp (kas_ask prog w A κ' vs) (λp s'=>s'={ s with heap:=((s.heap.update a (Obj.mapSeq λ_=>#[])).push (seqObj "tuple" vs.toArray 0)).push (seqObj "list" #[] 0) }/\p=(kas_sort vs.length).ev f) s') (aZo (n:=vs.length) (P:=Pl vs.length) (f:=f) (cmp:=kas_ask prog w A κ vs) (t:=kas_sort vs.length) hk2 (wH (by lia)) (Q:=λp s'=>s'={ s with heap:=((s.heap.update a (Obj.mapSeq λ_=>#[])).push (seqObj "tuple" vs.toArray 0)).push (seqObj "list" #[] 0) }/\p=(kas_sort vs.length).ev f) ⟨rfl,rfl⟩)) (fun κ' s0 hk=>?_) λ_ _ x=>x.elim);refine c7 (bBL (kat_run (Q:=λst' s'=>∃p:Array Nat,p.size=vs.length/\arrOf st'=p.map (kas_item (vs.toArray.zip vs.toArray))/\failedOf st'=none/\s'={ s with heap:=((s.heap.update a (Obj.mapSeq λ_=>#[])).push (seqObj "tuple" vs.toArray 0)).push (seqObj "list" #[] 0) }/\p=(kas_sort vs.length).ev f)
   rfl h2' h64 (λp' st' s' a1 a2 a3 a4=>⟨p',a1,a2,a3,a4⟩) hk) ?_ λ_ _ e=>e)
  rintro⟨⟨⟩,st'⟩ s' ⟨p,hp,har,hf,rfl,rfl⟩;dsimp only;have hout:=kat_snds rfl har;rw[hout];refine c7 (seqEpoch_at ho6 rfl ?_);refine c7 (listUpdate_at ho6 rfl ?_ (bAE _) (by rw[j7,j9,t7,hp,sizeLine_eq];lia));rw[hf];simp only[bne_self_eq_false,bBB,if_false];refine d9 ?_;have e:dI vs.length f=((kas_sort vs.length).ev f).toList:=by unfold dI;rw[if_neg (by lia)]
  rw[e] at h;exact h
theorem aFe {l:Addr}{vs:List Value}{Q:bEY}(hl:s.heap.IsList l vs.toArray)(h64:vs.length<64)
  (hk:2<=vs.length->∀h',(∀b o,s.heap.get? b=some o->h'.get? b=some o)->∃κ,(∀(Q:SortKind->Shared->Prop),Q κ { s with heap:=h' }->wpAny (model prog w) A.in1.in1 (keyKind' vs.toArray) Q (λ_ _=>False) { s with heap:=h' })/\∀i j (C:Bool->Shared->Prop),i<vs.length->j<vs.length->C (f i j) { s with heap:=h' }->kas_ask prog w A.in1.in1 κ vs i j C { s with heap:=h' })
  (h:Q (.ref (s.heap.objs.size+1)) { s with heap:=sortedAll s.heap vs (List.toArray ((dI vs.length f).map λi=>vs.getD i Value.none)) }) :
  wpAny (model prog w) A (call (.builtin "sorted") [.ref l]) Q E s:=by
 refine Calls.call_function_entry kind_sorted plain_sorted entry_sorted (args_sorted1 _) ?_;unfold Builtin.«sorted»;refine c7 (m:=checkCount "sorted" 1 1 _) (d9 ?_);refine c7 (collect_list hl ?_ (by rw[sizeLine_eq];lia));refine c7 (wpAny_newList ?_ (by rw[sizeLine_eq];lia));have hsz:((s.heap.push (seqObj "list" #[] 0)).update s.heap.objs.size (Obj.mapSeq (·++vs.toArray))).objs.size=s.heap.objs.size+1:=by rw[Heap.size_update,size_push']
 have hoL:(((s.heap.push (seqObj "list" #[] 0)).update s.heap.objs.size (Obj.mapSeq (·++vs.toArray))).push (seqObj "list" vs.toArray 0)).get? (s.heap.objs.size+1)=some (seqObj "list" vs.toArray 0):=by rw[<-hsz];exact j5 _ rfl
 have keep:∀b o,s.heap.get? b=some o->(((s.heap.push (seqObj "list" #[] 0)).update s.heap.objs.size (Obj.mapSeq (·++vs.toArray))).push (seqObj "list" vs.toArray 0)).get? b=some o:=λb o q=>by have hlt:b<s.heap.objs.size:=m8 q;rw[bD2 _ _ _ (by rw[hsz];exact v4 (bBE hlt)),Heap.get?_update_ne _ _ _ _ (v4 hlt),bD2 _ _ _ (v4 hlt)];exact q
 show wpAny _ _ _ _ _ { s with heap:=((s.heap.push (seqObj "list" #[] 0)).update s.heap.objs.size (Obj.mapSeq (·++vs.toArray))).push (seqObj "list" vs.toArray 0) };rw[hsz];refine c7 (bAQ (bAD slot_list_sort ⟨_,hoL,rfl⟩ entry_list_sort (pM (f:=f) (s:={ s with heap:=((s.heap.push (seqObj "list" #[] 0)).update s.heap.objs.size (Obj.mapSeq (·++vs.toArray))).push (seqObj "list" vs.toArray 0) }) hoL h64 (λh2 h' kp=>hk h2 h' λb o q=>kp b o (v4 (bBE (m8 q))) (keep b o q)) ⟨_,rfl,?_⟩) (args_list_sort _)));exact d9 ⟨_,rfl,h⟩
end
end PySem.W
namespace PySem.W
open PySem PySem.Calls PyProof.Rows
structure Swo (f:Nat->Nat->Bool):Prop where
 asym:∀{i j},f i j=true->f j i=false
 tr:∀{i j k},f j i=false->f k j=false->f k i=false
def Pre (f:Nat->Nat->Bool)(i j:Nat):Prop:=f j i=false/\(f i j=true\/i<j)
section
variable {f:Nat->Nat->Bool}
theorem Swo.lt1 (S:Swo f){i j k:Nat}(h1:f i j=true)(h2:f k j=false):f i k=true:=by
 cases e:f i k with
 |true=>rfl
 |false=>have:=S.tr (i:=j) (j:=k) (k:=i) h2 e;rw[h1] at this;cases this
theorem Swo.lt2 (S:Swo f){i j k:Nat}(h1:f j i=false)(h2:f j k=true):f i k=true:=by
 cases e:f i k with
 |true=>rfl
 |false=>have:=S.tr (i:=k) (j:=i) (k:=j) e h1;rw[h2] at this;cases this
theorem Pre.trans (S:Swo f){i j k:Nat}(h1:Pre f i j)(h2:Pre f j k):Pre f i k:=by
 refine⟨S.tr h1.1 h2.1,?_⟩;rcases h1.2 with a|a
 ·exact .inl (S.lt1 a h2.1)
 ·rcases h2.2 with b|b
  ·exact .inl (S.lt2 h1.1 b)
  ·exact .inr (by lia)
theorem Pre.of (S:Swo f){i j:Nat}(h:f i j=true):Pre f i j:=⟨S.asym h,.inl h⟩
theorem KasT.rZ {α β:Type}{f:Nat->Nat->Bool}{g:α->KasT β}:∀t:KasT α,(t.bind g).ev f=(g (t.ev f)).ev f
 |.ret a=>rfl
 |.ask i j k=>KasT.rZ (k (f i j))
theorem pZ {p:Array Nat}{i j:Nat}(hj:j<=p.size)(k:Nat):(kas_rev p i j).getD k 0=if i<=k/\k<j then p.getD (i+j - 1 - k) 0 else p.getD k 0:=by
 unfold kas_rev;rw[v5,getElem?_mirror_all hj]
 split <;> rw[v5]
theorem aYt {p:Array Nat}{k d:Nat}(hs:k<p.size)(hd:d<=k)(x:Nat):(bubble p k d).getD x 0=if x=k - d then p.getD k 0 else if k - d<x/\x<=k then p.getD (x - 1) 0 else p.getD x 0:=by
 rw[v5,getElem?_bubble hs d hd,v5,v5,v5];by_cases a:x=k - d
 ·rw[if_pos a,if_pos a]
 ·rw[if_neg a,if_neg a];by_cases b:k - d<x/\x<=k
  ·rw[if_pos b,if_pos b]
  ·rw[if_neg b,if_neg b]
structure Ld (N:Nat)(p:Array Nat)(m:Nat):Prop where
 sz:p.size=N
 lo:∀k,k<m->p.getD k 0<m
 hi:∀k,m<=k->k<N->p.getD k 0=k
 pm:p.Perm (List.range N).toArray
def Asc (f:Nat->Nat->Bool)(p:Array Nat)(m:Nat):Prop:=∀i j,i<j->j<m->Pre f (p.getD i 0) (p.getD j 0)
def Fds (f:Nat->Nat->Bool)(p:Array Nat)(m:Nat):Prop:=∀i j,i<j->j<m->Pre f (p.getD j 0) (p.getD i 0)
theorem Ld.rev {N m i j:Nat}{p:Array Nat}(L:Ld N p m)(hij:i<=j)(hj:j<=m)(hm:m<=N):Ld N (kas_rev p i j) m:=by
 have hs:j<=p.size:=by rw[L.sz];lia
 refine⟨by unfold kas_rev;rw[mirror_size];exact L.sz,λk hk=>?_,λk h1 h2=>?_,(mirror_perm _ _ _ _).trans L.pm⟩
 ·rw[pZ hs];split
  ·exact L.lo _ (by lia)
  ·exact L.lo _ hk
 ·rw[pZ hs,if_neg (by lia)];exact L.hi k h1 h2
theorem aLu (p:Array Nat):∀fu m,m<=(kas_asc p fu m).ev f/\(kas_asc p fu m).ev f<=m+fu/\(∀k,m<=k->k<(kas_asc p fu m).ev f->f (p.getD k 0) (p.getD (k - 1) 0)=false)/\((kas_asc p fu m).ev f<m+fu->f (p.getD ((kas_asc p fu m).ev f) 0) (p.getD ((kas_asc p fu m).ev f - 1) 0)=true)
 |0,m=>⟨j0 _,j0 _,λk h1 h2=>absurd (show k<m from h2) (by lia),λh=>absurd (show m<m+0 from h) (by lia)⟩
 |fu+1,m=>by
  show m<=(if f (p.getD m 0) (p.getD (m - 1) 0)=true then KasT.ret m else kas_asc p fu (m+1)).ev f/\(if f (p.getD m 0) (p.getD (m - 1) 0)=true then KasT.ret m else kas_asc p fu (m+1)).ev f<=m+(fu+1)/\(∀k,m<=k->k<(if f (p.getD m 0) (p.getD (m - 1) 0)=true then KasT.ret m else kas_asc p fu (m+1)).ev f->f (p.getD k 0) (p.getD (k - 1) 0)=false)/\((if f (p.getD m 0) (p.getD (m - 1) 0)=true then KasT.ret m else kas_asc p fu (m+1)).ev f<m+(fu+1)->f (p.getD ((if f (p.getD m 0) (p.getD (m - 1) 0)=true then KasT.ret m else kas_asc p fu (m+1)).ev f) 0) (p.getD ((if f (p.getD m 0) (p.getD (m - 1) 0)=true then KasT.ret m else kas_asc p fu (m+1)).ev f - 1) 0)=true);by_cases e:f (p.getD m 0) (p.getD (m - 1) 0)=true
  ·simp only[if_pos e];exact⟨j0 _,bBR _ _,λk h1 h2=>absurd (show k<m from h2) (by lia),λ_=>e⟩
  ·simp only[if_neg e];obtain⟨h1,h2,h3,h4⟩:=aLu p fu (m+1);refine⟨by lia,by lia,λk hk hr=>?_,λh=>h4 (by lia)⟩;by_cases z:k=m
   ·subst z;simpa using e
   ·exact h3 k (by lia) hr
theorem aE2 (S:Swo f){N m:Nat}{p:Array Nat}(L:Ld N p m)(hA:Asc f p m)(h1:1<=m):∀d,m+d<=N->(∀k,m<=k->k<m+d->f (p.getD k 0) (p.getD (k - 1) 0)=false)->Ld N p (m+d)/\Asc f p (m+d)
 |0,_,_=>⟨L,hA⟩
 |d+1,hN,h=>by
  obtain⟨L',A'⟩:=aE2 S L hA h1 d (by lia) λk a b=>h k a (by lia);have e:p.getD (m+d) 0=m+d:=L.hi _ (by lia) (by lia);have hlt:=L'.lo (m+d - 1) (by lia);have hp:Pre f (p.getD (m+d - 1) 0) (p.getD (m+d) 0):=⟨h _ (by lia) (by lia),.inr (by lia)⟩;refine⟨⟨L.sz,λk hk=>?_,λk a b=>L.hi k (by lia) b,L.pm⟩,λi j hij hj=>?_⟩
  ·by_cases z:k=m+d
   ·subst z;lia
   ·have:=L'.lo k (by lia);lia
  ·by_cases z:j=m+d
   ·subst z;by_cases y:i=m+d - 1
    ·subst y;exact hp
    ·exact (A' i (m+d - 1) (by lia) (by lia)).trans S hp
   ·exact A' i j hij (by lia)
structure Dsc (f:Nat->Nat->Bool)(N:Nat)(p:Array Nat)(n q:Nat):Prop where
 ld:Ld N p n
 hq:q+1<=n
 hn:n<=N
 a1:∀i j,i<j->j<n - (q+1)->Pre f (p.getD j 0) (p.getD i 0)
 a2:∀i j,i<n - (q+1)->n - (q+1)<=j->j<n->f (p.getD j 0) (p.getD i 0)=true
 a3:∀i j,n - (q+1)<=i->i<j->j<n->f (p.getD i 0) (p.getD j 0)=false/\f (p.getD j 0) (p.getD i 0)=false/\p.getD i 0<p.getD j 0
def qL (p:Array Nat)(n q:Nat):Array Nat:=if q > 0 then kas_rev p (n - (q+1)) n else p
theorem Dsc.close (S:Swo f){N n q:Nat}{p:Array Nat}(D:Dsc f N p n q):Ld N (qL p n q) n/\Fds f (qL p n q) n/\∀k,k<n->∃k',k'<n/\(qL p n q).getD k 0=p.getD k' 0:=by
 have hq:=D.hq;have hs:n<=p.size:=by rw[D.ld.sz];exact D.hn
 by_cases h:q > 0
 ·unfold qL;rw[if_pos h];refine⟨D.ld.rev (by lia) (j0 _) D.hn,λi j hij hj=>?_,λk hk=>?_⟩
  ·rw[pZ hs,pZ hs];by_cases a:n - (q+1)<=i
   ·rw[if_pos ⟨by lia,hj⟩,if_pos ⟨a,by lia⟩];obtain⟨h1,h2,h3⟩:=D.a3 (n - (q+1)+n - 1 - j) (n - (q+1)+n - 1 - i) (by lia) (by lia) (by lia);exact⟨h2,.inr h3⟩
   ·rw[if_neg (show ¬ (n - (q+1)<=i/\i<n) by lia)];by_cases b:n - (q+1)<=j
    ·rw[if_pos ⟨b,hj⟩];exact .of S (D.a2 i _ (by lia) (by lia) (by lia))
    ·rw[if_neg (by lia)];exact D.a1 i j hij (by lia)
  ·rw[pZ hs]
   split
   ·exact⟨_,by lia,rfl⟩
   ·exact⟨k,hk,rfl⟩
 ·have e:q=0:=by lia
  subst e;unfold qL;rw[if_neg h];refine⟨D.ld,λi j hij hj=>?_,λk hk=>⟨k,hk,rfl⟩⟩;by_cases b:n - 1<=j
  ·exact .of S (D.a2 i j (by lia) (by lia) hj)
  ·exact D.a1 i j hij (by lia)
theorem Dsc.down (S:Swo f){N n q:Nat}{p:Array Nat}(D:Dsc f N p n q)(hn:n<N)(h:f (p.getD n 0) (p.getD (n - 1) 0)=true):Dsc f N (qL p n q) (n+1) 0:=by
 obtain⟨L,F,R⟩:=D.close S;have hq:=D.hq;have e:=D.ld.hi n (j0 _) hn;have e':=L.hi n (j0 _) hn;rw[e] at h;have all:∀k,k<n->f n (p.getD k 0)=true:=λk hk=>by
  by_cases a:n - (q+1)<=k
  ·by_cases z:k=n - 1
   ·subst z;exact h
   ·exact S.lt1 h (D.a3 k (n - 1) a (by lia) (by lia)).1
  ·have:=D.a2 k (n - 1) (by lia) (by lia) (by lia);exact S.lt1 h (S.asym this)
 refine⟨⟨L.sz,λk hk=>?_,λk a b=>L.hi k (by lia) b,L.pm⟩,by lia,hn,λi j hij hj=>F i j hij (by lia),λi j hi hj hj2=>?_,λi j a b c=>by lia⟩
 ·by_cases z:k=n
  ·subst z;lia
  ·have:=L.lo k (by lia);lia
 ·have z:j=n:=by lia
  subst z;obtain⟨k',hk',ek⟩:=R i (by lia);rw[e',ek];exact all k' hk'
theorem Dsc.flat (S:Swo f){N n q:Nat}{p:Array Nat}(D:Dsc f N p n q)(hn:n<N)(h1:f (p.getD n 0) (p.getD (n - 1) 0)=false)(h2:f (p.getD (n - 1) 0) (p.getD n 0)=false):Dsc f N p (n+1) (q+1):=by
 have hq:=D.hq;have e:=D.ld.hi n (j0 _) hn;have es:n+1 - (q+1+1)=n - (q+1):=by lia
 rw[e] at h1 h2;refine⟨⟨D.ld.sz,λk hk=>?_,λk a b=>D.ld.hi k (by lia) b,D.ld.pm⟩,by lia,hn,λi j hij hj=>D.a1 i j hij (by lia),λi j hi hj hj2=>?_,λi j a b c=>?_⟩
 ·by_cases z:k=n
  ·subst z;lia
  ·have:=D.ld.lo k (by lia);lia
 ·rw[es] at hi hj;by_cases z:j=n
  ·subst z;rw[e];exact S.lt2 h2 (D.a2 i (j - 1) hi (by lia) (by lia))
  ·exact D.a2 i j hi hj (by lia)
 ·rw[es] at a;by_cases z:j=n
  ·subst z;rw[e];have hl:=D.ld.lo i b;by_cases y:i=j - 1
   ·subst y;exact⟨h2,h1,hl⟩
   ·obtain⟨g1,g2,_⟩:=D.a3 i (j - 1) a (by lia) (by lia);exact⟨S.tr h2 g1,S.tr g2 h1,hl⟩
  ·exact D.a3 i j a b (by lia)
theorem zR (S:Swo f){N:Nat}:∀(fu:Nat) (p:Array Nat) (n q:Nat),Dsc f N p n q->n+fu<=N->Dsc f N ((kas_desc fu p n q).ev f).1 ((kas_desc fu p n q).ev f).2.1 ((kas_desc fu p n q).ev f).2.2
 |0,p,n,q,D,_=>D
 |fu+1,p,n,q,D,h=>by
  show Dsc f N ((if f (p.getD n 0) (p.getD (n - 1) 0)=true then (if q > 0 then kas_desc fu (kas_rev p (n - (q+1)) n) (n+1) 0 else kas_desc fu p (n+1) 0) else .ask (p.getD (n - 1) 0) (p.getD n 0) λd=>if d=true then .ret (p,n,q) else kas_desc fu p (n+1) (q+1)).ev f).1 ((if f (p.getD n 0) (p.getD (n - 1) 0)=true then (if q > 0 then kas_desc fu (kas_rev p (n - (q+1)) n) (n+1) 0 else kas_desc fu p (n+1) 0) else .ask (p.getD (n - 1) 0) (p.getD n 0) λd=>if d=true then .ret (p,n,q) else kas_desc fu p (n+1) (q+1)).ev f).2.1 ((if f (p.getD n 0) (p.getD (n - 1) 0)=true then (if q > 0 then kas_desc fu (kas_rev p (n - (q+1)) n) (n+1) 0 else kas_desc fu p (n+1) 0) else .ask (p.getD (n - 1) 0) (p.getD n 0) λd=>if d=true then .ret (p,n,q) else kas_desc fu p (n+1) (q+1)).ev f).2.2;by_cases e:f (p.getD n 0) (p.getD (n - 1) 0)=true
  ·have D':=D.down S (by lia) e;unfold qL at D';simp only[if_pos e];by_cases hq:q > 0
   ·simp only[if_pos hq] at D' ⊢;exact zR S fu _ _ _ D' (by lia)
   ·simp only[if_neg hq] at D' ⊢;exact zR S fu _ _ _ D' (by lia)
  ·simp only[if_neg e];show Dsc f N ((if f (p.getD (n - 1) 0) (p.getD n 0)=true then KasT.ret (p,n,q) else kas_desc fu p (n+1) (q+1)).ev f).1 ((if f (p.getD (n - 1) 0) (p.getD n 0)=true then KasT.ret (p,n,q) else kas_desc fu p (n+1) (q+1)).ev f).2.1 ((if f (p.getD (n - 1) 0) (p.getD n 0)=true then KasT.ret (p,n,q) else kas_desc fu p (n+1) (q+1)).ev f).2.2;by_cases e2:f (p.getD (n - 1) 0) (p.getD n 0)=true
   ·simp only[if_pos e2];exact D
   ·simp only[if_neg e2];exact zR S fu _ _ _ (D.flat S (by lia) (by simpa using e) (by simpa using e2)) (by lia)
def aJy (f:Nat->Nat->Bool)(N:Nat)(r:Nat × Array Nat):Prop:=1<=r.1/\r.1<=N/\Ld N r.2 r.1/\Asc f r.2 r.1
theorem aI8 (S:Swo f){N n:Nat}{p:Array Nat}(L:Ld N p n)(F:Fds f p n)(h1:1<=n)(hN:n<=N):aJy f N ((kas_tail3 n N p).ev f):=by
 unfold kas_tail3;rw[KasT.rZ];have hs:n<=p.size:=by rw[L.sz];exact hN
 have L':Ld N (kas_rev p 0 n) n:=L.rev (bAE _) (j0 _) hN;have A':Asc f (kas_rev p 0 n) n:=λi j hij hj=>by rw[pZ hs,pZ hs,if_pos ⟨bAE _,by lia⟩,if_pos ⟨bAE _,hj⟩];exact F _ _ (by lia) (by lia)
 obtain⟨g1,g2,g3,_⟩:=aLu (f:=f) (kas_rev p 0 n) (N - n) n;obtain⟨d,hd⟩:∃d,(kas_asc (kas_rev p 0 n) (N - n) n).ev f=n+d:=⟨(kas_asc (kas_rev p 0 n) (N - n) n).ev f - n,by lia⟩;show aJy f N ((kas_asc (kas_rev p 0 n) (N - n) n).ev f,kas_rev p 0 n);rw[hd] at g2 g3 ⊢;obtain⟨k1,k2⟩:=aE2 S L' A' h1 d (by lia) g3;exact⟨by show 1<=n+d;lia,by show n+d<=N;lia,k1,k2⟩
theorem yM (S:Swo f){N n:Nat}{p:Array Nat}(D:Dsc f N p (n+1) 0):aJy f N ((kas_descPart n N p).ev f):=by
 unfold kas_descPart;rw[KasT.rZ];have D':=zR S (N - (n+1)) p (n+1) 0 D (by have:=D.hn;lia);generalize (kas_desc (N - (n+1)) p (n+1) 0).ev f=r at D';obtain⟨L,F,_⟩:=D'.close S;have hq:=D'.hq;unfold qL at L F;by_cases h:r.2.2 > 0
 ·simp only[if_pos h] at L F ⊢;exact aI8 S L F (by lia) D'.hn
 ·simp only[if_neg h] at L F ⊢;exact aI8 S L F (by lia) D'.hn
theorem gG {N k:Nat}(h:k<N):(List.range N).toArray.getD k 0=k:=by rw[v5,bC9,bB8 h];rfl
theorem aQ6 (S:Swo f){N:Nat}(h1:1<=N):aJy f N ((kas_count N (List.range N).toArray).ev f):=by
 unfold kas_count;rw[KasT.rZ];have L1:Ld N (List.range N).toArray 1:=⟨by simp,λk hk=>by rw[gG (by lia)];exact hk,λk _ h=>gG h,.refl _⟩;obtain⟨g1,g2,g3,g4⟩:=aLu (f:=f) (List.range N).toArray (N - 1) 1;generalize em:(kas_asc (List.range N).toArray (N - 1) 1).ev f=m at g1 g2 g3 g4;obtain⟨d,rfl⟩:∃d,m=1+d:=⟨m - 1,by lia⟩;obtain⟨L,A⟩:=aE2 S L1 (λi j hij hj=>by lia) (j0 _) d (by lia) g3;by_cases e:(1+d == N)=true
 ·simp only[if_pos e];exact⟨g1,by show 1+d<=N;lia,L,A⟩
 ·simp only[if_neg e];have hlt:1+d<N:=by
   have:1+d≠N:=by simpa using e
   lia
  have hd:=g4 (by lia);have e1:(List.range N).toArray.getD (1+d) 0=1+d:=gG hlt;have e2:(List.range N).toArray.getD (1+d - 1) 0=d:=by rw[gG (by lia)];lia
  rw[e1,e2] at hd;by_cases hm:1+d > 1
  ·simp only[if_pos hm];show aJy f N ((if f ((List.range N).toArray.getD 0 0) ((List.range N).toArray.getD (1+d - 1) 0)=true then KasT.ret (1+d,(List.range N).toArray) else kas_descPart (1+d) N (kas_rev (List.range N).toArray 0 (1+d))).ev f);rw[e2,gG (show 0<N by lia)];by_cases e3:f 0 d=true
   ·simp only[if_pos e3];exact⟨g1,by show 1+d<=N;lia,L,A⟩
   ·simp only[if_neg e3];have e3:f 0 d=false:=by simpa using e3
    have L':Ld N (kas_rev (List.range N).toArray 0 (1+d)) (1+d):=L.rev (bAE _) (j0 _) (by lia);have hs:1+d<=(List.range N).toArray.size:=by simp;lia
    have at':∀k,k<1+d->(kas_rev (List.range N).toArray 0 (1+d)).getD k 0=d - k:=λk hk=>by rw[pZ hs,if_pos ⟨bAE _,hk⟩,gG (by lia)];lia
    have up:∀i j,i<j->j<1+d->f j i=false:=λi j hij hj=>by have:=(A i j hij hj).1;rw[gG (by lia),gG (by lia)] at this;exact this
    have all:∀k,k<1+d->f (1+d) k=true:=λk hk=>by
     by_cases z:k=d
     ·subst z;exact hd
     ·refine S.lt1 hd ?_;by_cases y:k=0
      ·subst y;exact e3
      ·exact S.tr e3 (up 0 k (by lia) hk)
    refine yM S ⟨⟨L'.sz,λk hk=>?_,λk a b=>L'.hi k (by lia) b,L'.pm⟩,by lia,by lia,λi j hij hj=>?_,λi j hi hj hj2=>?_,λi j a b c=>by lia⟩
    ·by_cases z:k=1+d
     ·subst z;rw[L'.hi _ (j0 _) hlt];lia
     ·have:=L'.lo k (by lia);lia
    ·rw[at' i (by lia),at' j (by lia)];exact⟨up _ _ (by lia) (by lia),.inr (by lia)⟩
    ·have z:j=1+d:=by lia
     subst z;rw[L'.hi _ (j0 _) hlt,at' i (by lia)];exact all _ (by lia)
  ·have z:d=0:=by lia
   subst z;simp only[if_neg hm];refine yM S ⟨⟨L1.sz,λk hk=>by rw[gG (by lia)];exact hk,λk a b=>gG b,L1.pm⟩,by lia,by lia,λi j hij hj=>by lia,λi j hi hj hj2=>?_,λi j a b c=>by lia⟩;have z:j=1:=by lia
   have y:i=0:=by lia
   subst z y;rw[gG (by lia),gG (by lia)];exact hd
theorem aCf (S:Swo f){p:Array Nat}{k:Nat}(A:Asc f p k):∀fu l r,l<=r->r<=k->r - l<=fu->(∀i,i<l->f (p.getD k 0) (p.getD i 0)=false)->(∀i,r<=i->i<k->f (p.getD k 0) (p.getD i 0)=true) ->
  (kas_place p k fu l r).ev f<=k/\(∀i,i<(kas_place p k fu l r).ev f->f (p.getD k 0) (p.getD i 0)=false)/\∀i,(kas_place p k fu l r).ev f<=i->i<k->f (p.getD k 0) (p.getD i 0)=true
 |0,l,r,h1,h2,h3,a,b=>by
  have z:l=r:=by lia
  subst z;exact⟨h2,a,b⟩
 |fu+1,l,r,h1,h2,h3,a,b=>by
  unfold kas_place;by_cases e:l ≥ r
  ·have z:l=r:=by lia
   subst z;simp only[if_pos e];exact⟨h2,a,b⟩
  ·simp only[if_neg e];show ((if f (p.getD k 0) (p.getD ((l+r) / 2) 0)=true then kas_place p k fu l ((l+r) / 2) else kas_place p k fu ((l+r) / 2+1) r).ev f<=k/\_);by_cases c:f (p.getD k 0) (p.getD ((l+r) / 2) 0)=true
   ·have hb:∀i,(l+r) / 2<=i->i<k->f (p.getD k 0) (p.getD i 0)=true:=λi h1 h2=>by
     by_cases z:i=(l+r) / 2
     ·subst z;exact c
     ·exact S.lt1 c (A _ i (by lia) h2).1
    have:=aCf S A fu l ((l+r) / 2) (by lia) (by lia) (by lia) a hb;simpa only [KasT.ev,if_pos c] using this
   ·have c':f (p.getD k 0) (p.getD ((l+r) / 2) 0)=false:=by simpa using c
    have ha:∀i,i<(l+r) / 2+1->f (p.getD k 0) (p.getD i 0)=false:=λi h=>by
     by_cases z:i=(l+r) / 2
     ·subst z;exact c'
     ·exact S.tr (A i _ (by lia) (by lia)).1 c'
    have:=aCf S A fu ((l+r) / 2+1) r (by lia) h2 (by lia) ha b;simpa only [KasT.ev,if_neg c] using this
theorem aS0 (S:Swo f){N:Nat}:∀(fu:Nat) (p:Array Nat) (k:Nat),Ld N p k->Asc f p k->1<=k->k+fu=N->Ld N ((kas_bin fu p k).ev f) N/\Asc f ((kas_bin fu p k).ev f) N
 |0,p,k,L,A,_,e=>by
  have z:k=N:=by lia
  subst z;exact⟨L,A⟩
 |fu+1,p,k,L,A,h1,e=>by
  unfold kas_bin;rw[KasT.rZ];obtain⟨g1,g2,g3⟩:=aCf S A k 0 k (bAE _) (j0 _) (by lia) (λi h=>by lia) (λi h h'=>by lia);generalize (kas_place p k k 0 k).ev f=l at g1 g2 g3;have hs:k<p.size:=by rw[L.sz];lia
  have ek:p.getD k 0=k:=L.hi k (j0 _) (by lia);have bt:=λx=>aYt (p:=p) (k:=k) (d:=k - l) hs (by lia) x;have ez:k - (k - l)=l:=by lia
  rw[ez] at bt;refine aS0 S fu _ (k+1) ⟨by rw[bubble_size];exact L.sz,λx hx=>?_,λx a b=>?_,(bubble_perm _ _ _).trans L.pm⟩ (λi j hij hj=>?_) (by lia) (by lia)
  ·rw[bt];by_cases a:x=l
   ·rw[if_pos a];lia
   ·rw[if_neg a];by_cases b:l<x/\x<=k
    ·rw[if_pos b];have:=L.lo (x - 1) (by lia);lia
    ·rw[if_neg b];have:=L.lo x (by lia);lia
  ·rw[bt,if_neg (by lia),if_neg (by lia)];exact L.hi x (by lia) b
  ·rw[bt i,bt j];by_cases i1:i=l
   ·rw[if_pos i1,if_neg (by lia),if_pos (by lia)];exact .of S (g3 _ (by lia) (by lia))
   ·rw[if_neg i1];by_cases i2:l<i/\i<=k
    ·rw[if_pos i2,if_neg (by lia),if_pos (by lia)];exact A _ _ (by lia) (by lia)
    ·rw[if_neg i2];by_cases j1:j=l
     ·rw[if_pos j1];have:=L.lo i (by lia);exact⟨g2 i (by lia),.inr (by lia)⟩
     ·rw[if_neg j1];by_cases j2:l<j/\j<=k
      ·rw[if_pos j2];exact A _ _ (by lia) (by lia)
      ·rw[if_neg j2];exact A _ _ hij (by lia)
theorem aV3 (S:Swo f){N:Nat}(h1:1<=N):Ld N ((kas_sort N).ev f) N/\Asc f ((kas_sort N).ev f) N:=by
 unfold kas_sort;rw[KasT.rZ];have R:=aQ6 S h1;generalize (kas_count N (List.range N).toArray).ev f=r at R;obtain⟨r1,r2,L,A⟩:=R;by_cases e:r.1<N
 ·simp only[if_pos e];have z:max r.1 1=r.1:=by lia
  rw[z];exact aS0 S _ _ _ L A r1 (by lia)
 ·simp only[if_neg e];have z:r.1=N:=by lia
  rw[z] at L A;exact⟨L,A⟩
end
theorem KasT.Low.same {α:Type}{n:Nat}{P:α->Prop}{t:KasT α}(h:t.Low n P){f g:Nat->Nat->Bool}(e:∀i j,i<n->j<n->f i j=g i j):t.ev f=t.ev g:=by
 induction h with
 |ret h=>rfl
 |@ask i j k a b _ ih=>show (k (f i j)).ev f=(k (g i j)).ev g;rw[e i j a b];exact ih (g i j)
theorem aMb {n:Nat}{f g:Nat->Nat->Bool}(e:∀i j,i<n->j<n->f i j=g i j):dI n f=dI n g:=by
 unfold dI;by_cases h:n<2
 ·rw[if_pos h,if_pos h]
 ·rw[if_neg h,if_neg h,(wH (by lia)).same e]
theorem aH2 {n:Nat}{f:Nat->Nat->Bool}(S:Swo f):(dI n f).Perm (List.range n)/\(dI n f).Pairwise (Pre f):=by
 unfold dI;by_cases h:n<2
 ·rw[if_pos h];refine⟨.refl _,?_⟩
  match n,h with
  |0,_=>exact .nil
  |1,_=>exact List.pairwise_singleton _ _
 ·rw[if_neg h];obtain⟨L,A⟩:=aV3 S (show 1<=n by lia);generalize (kas_sort n).ev f=p at L A;refine⟨?_,List.pairwise_iff_getElem.mpr λi j hi hj hij=>?_⟩
  ·have:=Array.perm_iff_toList_perm.mp L.pm;simpa using this
  ·have hi':i<p.size:=by simpa using hi
   have hj':j<p.size:=by simpa using hj
   have:=A i j hij (by rw[<-L.sz];exact hj');rw[v5,v5,m9 hi',m9 hj'] at this;simpa using this
end PySem.W
namespace PySem.W
open PySem PySem.Calls PyProof.Rows
section
variable {prog:Program}{w:World}{A:Around}{E:bEY}{s:Shared}{f:Nat->Nat->Bool}
end
end PySem.W
namespace PySem.W
open PySem PySem.Calls PyProof.Rows
theorem aBo {pos:Pos}{a b:Int}{c cv:Value}(l:List Value)(h:TriplesOk l)(hf:codeAmong pos (l++[rawInt a,rawInt b,c])=some cv):codeAmong pos l=some cv\/cv=c:=by
 fun_induction TriplesOk l with
 |case1=>
  simp only[bDN,codeAmong,rawInt] at hf
  split at hf
  ·exact .inr (bAN hf).symm
  ·cases hf
 |case2 a' t b' u x rest ih=>
  simp only[List.cons_append,codeAmong] at hf ⊢
  split at hf
  ·rename_i hc;rw[if_pos hc];exact .inl hf
  ·rename_i hc;rw[if_neg hc];exact ih h hf
 |case3 l h1 h2=>exact h.elim
section
variable {prog:Program}{w:World}{A:Around}{E:bEY}{s:Shared}
end
end PySem.W
namespace L2
open PySem PySem.Spec PyProof.Rows
def BM (mg:bE0)(base:Heap):Prop:=∃bm ob,mg "__builtins__"=some (.ref bm)/\bm≠builtinsNs/\base.get? bm=some ob/\ob.cls=.type "module"/\ob.dict=some builtinsNs/\ob.data=.plain
section
variable {X:Cx}{bE1:bEZ}{σ:List (Option V)}{H:Hp}{s:Shared}
end
def ExO (a:Addr)(o:Obj):HO:=.ext λh=>h.get? a=some o
theorem aYg {P:Program}{w:World}{H:Hp}{h:Heap}{a:Addr}{o:Obj}(e:h.get? a=some o):dH P w H h a (ExO a o):=⟨e,⟨o,e⟩,λ_ _ e1 k=>k o e1⟩
def bBp (g x y:Str)(p0 p1 p2 p3:Pos):Expr:=.Call (.Name g p0) [.Name x p1,.Name y p2] [] p3
structure aYn (qual g x y:Str)(params:Arguments)(bd:Expr)(scope:Scope):Prop where
 body:∃p0 p1 p2 p3,bd=bBp g x y p0 p1 p2 p3
 bind:∀(cp c':Addr) (pm ctv v:Value),bindArgs (PySem.W.kla_fn "<lambda>" qual params bd scope [(y,cp)] pm (.ref c') ctv) ⟨[v],[]⟩=pure [(x,v)]
 co:scope.isCoroutine=false
 gen:scope.isGenerator=false
 kind:scope.kind=.function
 cell:∀z∈scope.names,z.2≠.cell
 hx:scope.names.lookup x=some .local
 hy:scope.names.lookup y=some .free
 hg:scope.names.lookup g=some .globalImplicit
 dx:(x == ("__debug__":Str))=false
 dy:(y == ("__debug__":Str))=false
 dg:(g == ("__debug__":Str))=false
 cy:(y == ("__classdict__":Str))=false
 xy:(y == x)=false
def vA (H:Hp)(f:Addr)(qual g x y:Str)(v:V):Prop:=∃(params:Arguments) (body:Expr) (scope:Scope) (cp c':Addr) (pm ctv:Value) (oc ol:Obj) (u:Value) (vs:Array Value) (t:Tok),
 aYn qual g x y params body scope/\H f=some (ExO f (PySem.W.kla_obj "<lambda>" qual params body scope [(y,cp)] pm c' ctv))/\H cp=some (ExO cp ol)/\(∀h:Heap,h.get? cp=some ol->h.IsCell cp (some u))/\RelV v u/\H c'=some (ExO c' oc)/\oc.data=.fields vs/\vs[1]?=some (.str qual t)
theorem vA.same {H H':Hp}{f:Addr}{qual g x y:Str}{v:V}(L:vA H f qual g x y v)(s:Same H H'):vA H' f qual g x y v:=by obtain⟨pa,bo,sc,cp,c',pm,ctv,oc,ol,u,vs,t,S,h1,h2,h3,h4,h5,h6,h7⟩:=L;exact⟨pa,bo,sc,cp,c',pm,ctv,oc,ol,u,vs,t,S,s _ _ h1,s _ _ h2,h3,h4,s _ _ h5,h6,h7⟩
section
variable {X:Cx}
theorem aWd {bE1:bEZ}{σ:St}{H:Hp}{s:Shared}{Q:VK}{f ga:Addr}{qual g x y:Str}{v a:V}{ua:Value}{k:Nat}{fd:FuncData}{ps:List Str}{sp:Sp}
  (L:vA H f qual g x y v) (hr:Room (k+1) X.A) (hm:X.mg g=some (.ref ga)) (hk:PySem.W.keepIn X.K (.ref ga)=true) (hb:Binds X.K fd ps []) (F:lJ X.prog X.w X.K X.mg X.base CX0 k ga fd ps sp)
  (I:Inv X bE1 σ H s) (r:RelV a ua) (h:sp [a,v] H Q E0):wpAny (model X.prog X.w) X.A (call (.ref f) [ua]) (EP X bE1 σ Q) X.xe s:=by
 obtain⟨pa,bo,sc,cp,c',pm,ctv,oc,ol,u,vs,t,S,h1,h2,h3,h4,h5,h6,h7⟩:=L;have e1:s.heap.get? f=some _:=(I.hok f _ h1).1;have e2:s.heap.get? cp=some ol:=(I.hok cp _ h2).1;have e5:s.heap.get? c'=some oc:=(I.hok c' _ h5).1;refine bD8 (PySem.W.kla_callFunE hr.depth e1 rfl S.co S.gen rfl ⟨c',oc,vs,t,rfl,e5,h6,h7⟩ ?_);rw[S.bind];refine d9 (bEF S.cell (λz hz=>?_) (λh₁ hns hsb=>⟨I.nolimit.fresh _ hsb,?_⟩) S.kind)
 ·have e:z=(x,ua):=by simpa using hz
  rw[e];exact S.hx
 have kp:∀b o,s.heap.get? b=some o->h₁.get? b=some o:=λb o e=>hsb.extBut b o (v4 (m8 e)) (d8 _ e);have szz:s.heap.objs.size<=h₁.objs.size:=by have:=hsb.1;rw[bAX] at this;lia
 refine PySem.W.kla_codeExpr ?_;obtain⟨p0,p1,p2,p3,rfl⟩:=S.body;have hG:h₁.Ns mainGlobals X.mg:=(I.mod.glob.keeps I.bk).keeps kp;refine bBQ (bDA S.kind S.hg (Calls.loadGlobal_global hG hm ?_) S.dg);refine PySem.W.callWith_K (h₀:=X.base) I.ok.mod.kin hk (bBV (wpAny_Name (wpAny_loadName_local S.kind S.hx hns (v:=ua) (by simp) ?_) S.dx)) rfl rfl;refine bBV (wpAny_Name (wpAny_loadName_free S.kind S.hy (c:=cp) (by simp[newEnv,PySem.W.kla_fn]) (v:=u) (h3 h₁ (kp _ _ e2)) ?_ S.cy) S.dy);have kin:X.K.In h₁:=I.kIn.keeps kp;refine bDV ⟨kin,?_⟩;generalize henv:newEnv _ s.heap.objs.size _ _ _ _ _ _ _=env;have hfr:env.frame=some s.heap.objs.size:=by rw[<-henv];rfl
 have hkd:env.scope.kind≠.module:=by rw[<-henv];show sc.kind≠_;rw[S.kind];decide
 have fresh:X.base.get? s.heap.objs.size=none:=Heap.get?_none_of_le (bAL I.ok.bsz I.sz);have hfresh:H s.heap.objs.size=none:=I.hok.fresh (j0 _);have E1:aGp X.prog X.w X.K X.mg X.base (X.A.deeper env) (env::X.stack) { s with heap:=h₁,toks:=s.toks+1 } H:=by
  refine⟨Around.frames_deeper I.ok.frames,I.ok.mod,λb o e=>⟨kp _ _ (I.bs b o e).1,(I.bs b o e).2⟩,bAL (bAL I.ok.bsz I.sz) szz,.cons hkd hfr hns fresh ?_,?_,I.hok.kept kp,I.bare⟩
  ·exact I.stack.of_keeps λb o e _=>⟨o,kp _ _ e,rfl⟩
  ·intro b hb;unfold frs at hb;rw[bB7,hfr] at hb;rcases List.mem_cons.mp hb with e|hb
   ·rw[e];exact hfresh
   ·exact I.vU b hb
 have r2:Vals [a,v] [ua,u]:=.cons r (.cons h4 .nil);have hl:([ua,u]++([]:List Value)).length=ps.length:=by rw[bB9,<-r2.length];exact F.len _ _ _ _ h
 refine bD8 (bCF (F.run (X.A.deeper env) (env::X.stack) _ H ⟨[ua,u],[]⟩ [ua,u] [a,v] Q E0 (hr.deeper env) E1 (by simpa using hb { s with heap:=h₁,toks:=s.toks+1 } [ua,u] kin hl) r2 h) λrr s' hq=>?_);cases rr with
 |error e=>exact hq.elim
 |ok fl=>
  cases fl with
  |next=>exact False.elim hq
  |brk=>exact False.elim hq
  |cont=>exact False.elim hq
  |ret uu=>
   obtain⟨v',H',os,bare,un,hok,rel,q⟩:=hq;refine I.after (Q:=Q) (u:=uu) (s':=s') ⟨v',H',os,bare,?_,hok,rel,q⟩;have neL:∀b o,s.heap.get? b=some o->b≠s.heap.objs.size:=λb o e=>v4 (m8 e);have fe:frs (env::X.stack)=s.heap.objs.size::frs X.stack:=by unfold frs;rw[bB7,hfr]
   rw[fe] at un;exact⟨λb o e n hb hx=>un.keep b o (kp b o e) n (λz=>(List.mem_cons.mp z).elim (neL b o e) hb) hx,λb o e n hb hx=>un.slot b o (kp b o e) n (j6 _ hb) hx,λb o e n hx=>un.free b o (kp b o e) n hx,λb o e hx=>un.there b o (kp b o e) hx,un.tups,un.frzs,un.tbls⟩
def aQ0 (P:Program)(w:World)(K:bEX)(mg:bE0)(base:Heap)(k:Nat)(te:TE)(t:TA):TE:=fun σ H Q=>te σ H λv H1=>∃(f:Addr) (qual g x y:Str) (z:V) (ps:List Str) (sp:Sp),v=.ref f/\vA H1 f qual g x y z/\Ok P w K mg base k g ps sp /\
 t σ H1 λvs H2=>∃a,vs=[a]/\vA H2 f qual g x y z/\sp [a,z] H2 Q E0
theorem aRo {n:Str}{p pos:Pos}{e:Expr}{es:List Expr}{te:TE}{t:TA}{k:Nat}(hr:Room (k+1) X.A)(hf:PE X (.Name n p) te)(ha:PA X (e::es) t)
  (he:starEach (e::es) X.env=(false,eval e X.env)::starEach es X.env:=by rfl) (hpl:(backTo pos (starEach es X.env)).any (·.1)=false:=by rfl) :
  PE X (.Call (.Name n p) (e::es) [] pos) (aQ0 X.prog X.w X.K X.mg X.base k te t):=by
 intro bE1 s σ H Q I h;refine bBQ (thn (hf bE1 s σ H _ I h) λu s1 ⟨v,H1,I1,r1,q1⟩=>?_);obtain⟨f,qual,g,x,y,z,ps,sp,rfl,L,G,q⟩:=q1;obtain rfl:u=Value.ref f:=r1;obtain⟨ga,fd,hm,hk,hb,F⟩:=G;have hh:=ha pos bE1 s1 σ H1 _ I1 q;rw[he] at hh ⊢;refine PySem.W.callWith_of (P:=λh=>∃pa bo sc cl pm c' ctv,h.get? f=some (PySem.W.kla_obj "<lambda>" qual pa bo sc cl pm c' ctv)) (by show ((false || (backTo pos (starEach es X.env)).any (·.1)) || false)=false;rw[hpl];rfl) (λh ⟨pa,bo,sc,cl,pm,c',ctv,eh⟩=>⟨.frame,.inl rfl,(PySem.W.Looks.ld (part:=none) eh).andThen .now⟩) (bEE (thn hh λus s2 ⟨vs,H2,I2,r,q2⟩=>?_));obtain⟨a,rfl,L2,q3⟩:=q2;cases r with
 |cons r rn=>cases rn;refine⟨?_,aWd L2 hr hm hk hb F I2 r q3⟩;obtain⟨pa,bo,sc,cp,c',pm,ctv,oc,ol,u,vs,t,S,h1,_⟩:=L2;exact⟨pa,bo,sc,_,pm,c',ctv,(I2.hok f _ h1).1⟩
end
section
variable {X:Cx}{bE1:bEZ}{σ:List (Option V)}{H:Hp}{s:Shared}
theorem aP2 {params:Arguments}{body:Expr}{scope:Scope}{pos:Pos}{c P:Addr}{clos:List (Str × Addr)}{Q:bEY}{E:bEY}
  (I:Inv X bE1 σ H s) (hcode:X.env.code=.ref c) (CH:PySem.W.CodeHd X.base c P) (hP:H P=some (.tab (X.env.qual++"<lambda>"))) (hbm:BM X.mg X.base) (hcl:closureFor scope X.env=pure clos) (hdef:defaultsOf params X.env=([],[]))
  (q:∀f c' pm ctv H' h' tk,Inv X bE1 σ H' { s with heap:=h',toks:=tk }->Same H H'->s.heap.objs.size<=f->H' f=none->H' c'=some (.own P)->H' P=some (.tab (X.env.qual++"<lambda>"))->h'.get? f=some (PySem.W.kla_obj "<lambda>" (X.env.qual++"<lambda>") params body scope clos pm c' ctv)->h'.CodeRec (.ref c') (X.env.qual++"<lambda>")->Q (.ref f) { s with heap:=h',toks:=tk }) :
  wpAny (model X.prog X.w) X.A (eval (.Lambda params body scope pos) X.env) Q E s:=by
 obtain⟨ps,hp,ht,hcodes⟩:=I.hok P _ hP;have hg:s.heap.Ns mainGlobals X.mg:=I.mod.glob.keeps I.bk;obtain⟨bm,ob,b1,b2,b3,b4,b5,b6⟩:=hbm;have bG:bm≠mainGlobals:=λz=>by obtain⟨o,es,ep,e,d,_⟩:=I.mod.glob;rw[z,e] at b3;cases b3;rw[d] at b6;cases b6
 have bP:bm≠P:=λz=>by have:=(I.bs bm ob b3).2;rw[z,hP] at this;cases this
 have gP:mainGlobals≠P:=λz=>by obtain⟨o,es,ep,e,d,_⟩:=I.mod.glob;have:=(I.bs _ o e).2;rw[z,hP] at this;cases this
 have hB:s.heap.BuiltinsAt X.mg P:=⟨bm,ob,b1,b2,bG,bP,I.bk _ _ b3,b4,b5,b6⟩;refine PySem.W.kla_eval hdef ?_;cases hca:codeAmong pos ps.toList with
 |some cv=>obtain⟨c',oc,vs,t,rfl,a2,a3,a4,a5⟩:=hcodes pos cv hca;refine PySem.W.kla_makeFunctionHit (mg:=X.mg) hcl I.ok.glob hg hcode (CH.keeps I.bk) hp ht hca hB λctv h' tk hk hsz=>?_;exact q _ c' _ ctv H _ tk (I.kept (t':=tk) λb o e=>d8 _ (hk b o e)) (λ_ _ e=>e) hsz (I.hok.fresh hsz) a2 hP (j5 _ rfl) ⟨c',oc,vs,t,rfl,d8 _ (hk _ _ a3),a4,a5⟩
 |none=>
  refine PySem.W.kla_makeFunction (mg:=X.mg) hcl I.ok.glob hg hcode (CH.keeps I.bk) hp ht hca gP hB λc' ctv h' tk hx hge hlt hrec htb=>?_;obtain⟨c2,oc,vs,t,e2,hoc,hd,hv⟩:=hrec;cases e2;have nc:H c'=none:=I.hok.fresh hge;have neP:∀b u,b≠P->H b=some u->∀o,s.heap.get? b=some o->(h'.push (PySem.W.kla_obj "<lambda>" (X.env.qual++"<lambda>") params body scope clos ((X.mg "__name__").getD .none) c' ctv)).get? b=some o:=λb u hb _ o e=>d8 _ (hx b o hb e);have kp:∀b o,b≠P->s.heap.get? b=some o->(h'.push (PySem.W.kla_obj "<lambda>" (X.env.qual++"<lambda>") params body scope clos ((X.mg "__name__").getD .none) c' ctv)).get? b=some o:=λb o hb e=>d8 _ (hx b o hb e);have nPn:∀b,H b=none->b≠P:=λb e z=>by rw[z,hP] at e;cases e
  have upne:∀{b u},H b=some u->upd H c' (.own P) b=some u:=λ{b u} e=>by rw[aN (aU e nc)];exact e
  refine q _ c' _ ctv (upd H c' (.own P)) _ tk (I.step (g':=s.gens) (d':=s.drawn) (ch:=[]) (λ_ z=>nomatch z) (λb o _ _ _ e n=>kp b o (nPn b n) e) (λb o _ _ _ e n=>⟨o.slots,kp b o (nPn b n) e⟩) (λb o _ e n=>?_) (λb o _ e=>?_)
   (λb xs e=>upne e) (λb o u e=>upne e) (λb qs e=>⟨#[],by rw[upne e];simp⟩) (λm hm=>?_) (λb u e=>?_) I.bare) (λb o e=>upne e) (bC1 (bCD hge hlt)) (by rw[aN (bCL hlt)];exact I.hok.fresh (bC1 (bCD hge hlt))) aH (upne hP) (j5 _ rfl) ⟨c',oc,vs,t,rfl,d8 _ hoc,hd,hv⟩
  ·rw[aN (v4 (bAA (m8 e) hge))];exact n
  ·by_cases z:b=P
   ·subst z;exact⟨_,d8 _ htb⟩
   ·exact⟨o,kp b o z e⟩
  ·obtain⟨o,es,ep,e,r⟩:=hm;exact⟨o,es,ep,kp _ o (nPn _ I.free) e,r⟩
  ·by_cases z:b=c'
   ·subst z;rw[aH] at e;cases e;exact⟨oc,d8 _ hoc⟩
   ·rw[aN z] at e;by_cases y:b=P
    ·subst y;rw[hP] at e;cases e;refine⟨_,d8 _ htb,by rw[bCX];exact TriplesOk_snoc _ _ _ _ ht,λpos' cv' hf=>?_⟩;rw[bCX] at hf;rcases PySem.W.aBo _ ht hf with hf|rfl
     ·obtain⟨c2,oc2,vs2,t2,rfl,a2,a3,a4,a5⟩:=hcodes pos' cv' hf;exact⟨c2,oc2,vs2,t2,rfl,upne a2,kp _ _ (λz=>by rw[z,hP] at a2;cases a2) a3,a4,a5⟩
     ·exact⟨c',oc,vs,t,rfl,aH,d8 _ hoc,hd,hv⟩
    ·refine (I.hok b u e).stay (λd v hd' r=>kp d v ?_ r) (λd r=>upne r) λd xs r=>upne r;rcases hd' with rfl|r'
     ·exact y
     ·intro z;rw[z,hP] at r';cases r'
open Classical in
noncomputable def aCp (S:Addr->Prop) (h:Heap) (H:Hp):Hp:=λb=>if S b then (h.get? b).map (ExO b) else H b
open Classical in
noncomputable def aEe (S:Addr->Prop) (H Z:Hp):Hp:=λb=>if S b then H b else Z b
theorem oN {S:Addr->Prop}{h:Heap}{b:Addr}{o:Obj}(hb:S b)(e:h.get? b=some o):aCp S h H b=some (ExO b o):=by unfold aCp;rw[if_pos hb,e];rfl
theorem dF {S:Addr->Prop}{h:Heap}{b:Addr}(hb:¬ S b):aCp S h H b=H b:=by unfold aCp;rw[if_neg hb]
theorem aBr {S:Addr->Prop}{Z:Hp}{b:Addr}(hb:S b):aEe S H Z b=H b:=by unfold aEe;rw[if_pos hb]
theorem gU {S:Addr->Prop}{Z:Hp}{b:Addr}(hb:¬ S b):aEe S H Z b=Z b:=by unfold aEe;rw[if_neg hb]
structure aBw (X:Cx)(H:Hp)(h:Heap)(S:Addr->Prop):Prop where
 there:∀b,S b->∃o,h.get? b=some o
 own:∀d a o,¬ S a->H a=some o->H d=some (.own a)->¬ S d
 own2:∀d a o,S a->H a=some o->(∃e,o=.own e)\/(H d=some (.own a)->S d)
 tup:∀d xs,H d=some (.tup xs)->¬ S d
 frz:∀d o u,H d=some (.frz o u)->¬ S d
 tbl:∀d ps,H d=some (.tbl ps)->¬ S d
 base:∀b o,X.base.get? b=some o->¬ S b
 frs:∀b∈frs X.stack,¬ S b
theorem aBw.hok {S:Addr->Prop}(p:aBw X H s.heap S)(I:Inv X bE1 σ H s):HOk X.prog X.w (aCp S s.heap H) s.heap:=by
 intro b o e;by_cases hb:S b
 ·obtain⟨ob,eo⟩:=p.there b hb;rw[oN hb eo] at e;cases e;exact aYg eo
 ·rw[dF hb] at e;refine (I.hok b o e).stay (λ_ _ _ q=>q) (λd q=>?_) λd xs q=>?_
  ·rw[dF (p.own d b o hb e q)];exact q
  ·rw[dF (p.tup d xs q)];exact q
theorem aBw.env0 {S:Addr->Prop}(p:aBw X H s.heap S)(I:Inv X bE1 σ H s):aGp X.prog X.w X.K X.mg X.base X.A X.stack s (aCp S s.heap H):=
 ⟨I.ok.frames,I.ok.mod,λb o e=>⟨(I.bs b o e).1,by rw[dF (p.base b o e)];exact (I.bs b o e).2⟩,bAL I.ok.bsz I.sz,I.stack,λb hb=>by rw[dF (p.frs b hb)];exact I.vU b hb,p.hok I,I.bare⟩
theorem aBw.after {S:Addr->Prop}{Q:VK}{u:Value}{s':Shared}(p:aBw X H s.heap S)(I:Inv X bE1 σ H s)(h:CE X.stack X.prog X.w (aCp S s.heap H) s (λv Z=>Same (aCp S s.heap H) Z/\∀H4,Same H H4->Q v H4) u s'):EP X bE1 σ Q u s':=by
 obtain⟨v,Z,os,bare,un,hok,rel,sm,q⟩:=h;have ex:∀b o,S b->s.heap.get? b=some o->s'.heap.get? b=some o:=λb o hb e=>(hok b _ (sm _ _ (oN hb e))).1;have same:Same H (aEe S H Z):=λb o e=>by
  by_cases hb:S b
  ·rw[aBr hb];exact e
  ·rw[gU hb];exact sm _ _ (by rw[dF hb];exact e)
 refine I.after (Q:=Q) ⟨v,aEe S H Z,os,bare,⟨λb o e n hb hx=>?_,λb o e n hb hx=>?_,λb o e n hx=>?_,un.there,λb xs e=>?_,λb o u e=>?_,λb ps e=>?_⟩,λb o e=>?_,rel,q _ same⟩
 ·by_cases hs:S b
  ·exact ex b o hs e
  ·exact un.keep b o e (by rw[dF hs];exact n) hb hx
 ·exact un.slot b o e (by rw[dF (p.frs b hb)];exact n) hb hx
 ·by_cases hs:S b
  ·rw[aBr hs];exact n
  ·rw[gU hs];exact un.free b o e (by rw[dF hs];exact n) hx
 ·rw[gU (p.tup b xs e)];exact un.tups b xs (by rw[dF (p.tup b xs e)];exact e)
 ·rw[gU (p.frz b o u e)];exact un.frzs b o u (by rw[dF (p.frz b o u e)];exact e)
 ·rw[gU (p.tbl b ps e)];exact un.tbls b ps (by rw[dF (p.tbl b ps e)];exact e)
 ·by_cases hs:S b
  ·rw[aBr hs] at e;rcases p.own2 b b o hs e with⟨x,rfl⟩|_
   ·obtain⟨ob,eo⟩:=p.there b hs;exact⟨ob,ex b ob hs eo⟩
   ·by_cases ho:∃x,o=.own x
    ·obtain⟨x,rfl⟩:=ho;obtain⟨ob,eo⟩:=p.there b hs;exact⟨ob,ex b ob hs eo⟩
    ·refine (I.hok b o e).stay (λc u hc eu=>?_) (λd q=>same _ _ q) λd xs q=>same _ _ q;rcases hc with rfl|hc
     ·exact ex _ _ hs eu
     ·rcases p.own2 c b o hs e with z|z
      ·exact absurd z ho
      ·exact ex _ _ (z hc) eu
  ·rw[gU hs] at e;refine (hok b o e).stay (λ_ _ _ q=>q) (λd q=>?_) λd xs q=>?_
   ·by_cases hd:S d
    ·obtain⟨ob,eo⟩:=p.there d hd;rw[sm _ _ (oN hd eo)] at q;cases q
    ·rw[gU hd];exact q
   ·by_cases hd:S d
    ·obtain⟨ob,eo⟩:=p.there d hd;rw[sm _ _ (oN hd eo)] at q;cases q
    ·rw[gU hd];exact q
end
section
variable {X:Cx}
def aR2 (X:Cx)(iy:Nat)(P:Addr)(g x y:Str)(sp:Sp)(t:TA):TE:=fun σ H Q=>t σ H λvs H1=>∃z,σ[iy]?=some (some z)/\H1 P=some (.tab (X.env.qual++"<lambda>")) /\
 ∀f H2,vA H2 f (X.env.qual++"<lambda>") g x y z->(∀a xs,SqT X.K H1 a xs->SqT X.K H2 a xs)->sp (vs++[.ref f]) H2 (λr H3=>Same H2 H3/\∀H4,Same H1 H4->Q r H4) E0
theorem aLs {fn g x y:Str}{p pos lpos:Pos}{e1 e2 e3:Expr}{te1 te2 te3:TE}{params:Arguments}{body:Expr}{scope:Scope}{iy k:Nat}{c P cp fa:Addr}{fd:FuncData}{ps:List Str}{sp:Sp}
  (F:lJ X.prog X.w X.K X.mg X.base CX0 k fa fd ps sp) (hr:Room k X.A) (hgl:Gl X fn) (hm:X.mg fn=some (.ref fa)) (hk:PySem.W.keepIn X.K (.ref fa)=true) (hb:Binds X.K fd ps [])
  (h1:PE X e1 te1) (h2:PE X e2 te2) (h3:PE X e3 te3)
  (hcode:X.env.code=.ref c) (CH:PySem.W.CodeHd X.base c P) (hbm:BM X.mg X.base) (S:aYn (X.env.qual++"<lambda>") g x y params body scope) (hN:X.N[iy]?=some y) (hyc:X.env.kindOf y=some .cell) (hcp:X.env.cells.lookup y=some cp) (hfn:X.fn y=true) (hcl:closureFor scope X.env=pure [(y,cp)]) (hdef:defaultsOf params X.env=([],[]))
  (hdb:(fn == ("__debug__":Str))=false:=by decide)
  (he1:starEach [e1,e2,e3,.Lambda params body scope lpos] X.env=[(false,eval e1 X.env),(false,eval e2 X.env),(false,eval e3 X.env),(false,eval (.Lambda params body scope lpos) X.env)]:=by rfl)
  (he2:starEach [e2,e3,.Lambda params body scope lpos] X.env=[(false,eval e2 X.env),(false,eval e3 X.env),(false,eval (.Lambda params body scope lpos) X.env)]:=by rfl) :
  PE X (.Call (.Name fn p) [e1,e2,e3,.Lambda params body scope lpos] [] pos) (aR2 X iy P g x y sp (eQ te1 (eQ te2 (eQ te3 aEp)))):=by
 intro bE1 s σ H Q I h;refine bBQ (vC I hgl hm ?_ hdb);refine PySem.W.callWith_K (h₀:=X.base) I.ok.mod.kin hk ?_ (by rw[he1,he2]) (by rw[he2];rfl);rw[he1];refine bBV (thn (h1 bE1 s σ H _ I h) λu1 s1 ⟨v1,H1,I1,r1,q1⟩=>?_);refine bBV (thn (h2 bE1 s1 σ H1 _ I1 q1) λu2 s2 ⟨v2,H2,I2,r2,q2⟩=>?_);refine bBV (thn (h3 bE1 s2 σ H2 _ I2 q2) λu3 s3 ⟨v3,H3,I3,r3,q3⟩=>?_);obtain⟨z,hz,hP,q⟩:=q3;refine bBV (aP2 I3 hcode CH hP hbm hcl hdef λf c' pm ctv H' h' tk I4 s4 hsz hf hc' hP' ef ecd=>bDV ⟨I4.kIn,?_⟩);generalize hs4:({ s3 with heap:=h',toks:=tk }:Shared)=s4' at I4;have hh:s4'.heap=h':=by rw[<-hs4]
 rw[<-hh] at ef ecd;obtain⟨m,hn,hl⟩:=I4.loc;obtain⟨u,ru,lk⟩:=hl iy y z hN hz (.inr (.inl hyc));have hcell:s4'.heap.IsCell cp (some u):=by
  rcases lk with⟨k',_⟩|⟨_,c2,e,hc⟩
  ·rw[hyc] at k';cases k'
  ·rw[hcp] at e;cases e;exact hc
 obtain⟨ol,eol,dol⟩:=id hcell;obtain⟨c2,oc,vs,t,ec2,eoc,doc,hv⟩:=ecd;cases ec2;have hcpn:H' cp=none:=I4.freeC y cp hcp;obtain⟨v0,ov,eov,_⟩:=I3.cell y cp hcp;have ltf:cp<f:=bAA (m8 eov) hsz;have PO:aBw X H' s4'.heap (λb=>b=f\/b=cp\/b=P\/H' b=some (.own P)):=by
  refine⟨λb hb=>?_,λd a o ha eo ed hd=>?_,λd a o ha eo=>?_,λd xs e hd=>?_,λd o u e hd=>?_,λd ps e hd=>?_,λb o e hd=>?_,λb hb hd=>?_⟩
  ·rcases hb with rfl|rfl|rfl|hb
   ·exact⟨_,ef⟩
   ·exact⟨_,eol⟩
   ·obtain⟨ps,e,_⟩:=I4.hok _ _ hP';exact⟨_,e⟩
   ·exact I4.hok _ _ hb
  ·rcases hd with rfl|rfl|rfl|hd
   ·rw[hf] at ed;cases ed
   ·rw[hcpn] at ed;cases ed
   ·rw[hP'] at ed;cases ed
   ·rw[hd] at ed;cases ed;exact ha (.inr (.inr (.inl rfl)))
  ·rcases ha with rfl|rfl|rfl|ha
   ·rw[hf] at eo;cases eo
   ·rw[hcpn] at eo;cases eo
   ·exact .inr λq=>.inr (.inr (.inr q))
   ·rw[ha] at eo;cases eo;exact .inl ⟨_,rfl⟩
  ·rcases hd with rfl|rfl|rfl|hd
   ·rw[hf] at e;cases e
   ·rw[hcpn] at e;cases e
   ·rw[hP'] at e;cases e
   ·rw[hd] at e;cases e
  ·rcases hd with rfl|rfl|rfl|hd
   ·rw[hf] at e;cases e
   ·rw[hcpn] at e;cases e
   ·rw[hP'] at e;cases e
   ·rw[hd] at e;cases e
  ·rcases hd with rfl|rfl|rfl|hd
   ·rw[hf] at e;cases e
   ·rw[hcpn] at e;cases e
   ·rw[hP'] at e;cases e
   ·rw[hd] at e;cases e
  ·have hbn:=(I4.bs b o e).2;have hlt:b<X.s₀.heap.objs.size:=bAA (m8 e) I.ok.bsz;rcases hd with rfl|rfl|rfl|hd
   ·exact absurd (bAA hlt (bAL I3.sz hsz)) (bBN _)
   ·exact absurd (bAA hlt (I.ok.cab y _ hfn hcp)) (bBN _)
   ·rw[hP'] at hbn;cases hbn
   ·rw[hd] at hbn;cases hbn
  ·have hbn:=I4.vU b hb;rcases hd with rfl|rfl|rfl|hd
   ·obtain⟨_,o,eo,_⟩:=I3.stack.mem hb;exact absurd (bAA (m8 eo) hsz) (bBN _)
   ·rcases List.mem_cons.mp (I4.aFv _ hb) with e|hb'
    ·obtain⟨o,es,ep,eo,ed,_⟩:=hn;rw[<-e,eol] at eo;cases eo;rw[dol] at ed;cases ed
    ·obtain⟨_,o,eo,_⟩:=I.ok.funs.mem hb';exact absurd (bAA (m8 eo) (I.ok.cab y _ hfn hcp)) (bBN _)
   ·rw[hP'] at hbn;cases hbn
   ·rw[hd] at hbn;cases hbn
 have LA:vA (aCp (λb=>b=f\/b=cp\/b=P\/H' b=some (.own P)) s4'.heap H') f (X.env.qual++"<lambda>") g x y z:=
  ⟨params,body,scope,cp,c',pm,ctv,oc,ol,u,vs,t,S,oN (.inl rfl) ef,oN (.inr (.inl rfl)) eol,λh e=>⟨ol,e,dol⟩,ru,oN (.inr (.inr (.inr hc'))) eoc,doc,hv⟩
 have hq:=q f _ LA λb xs e=>by
  rcases s4.aV e with (e|⟨ob,e⟩)|e
  ·exact .inl (.inl (by rw[dF (PO.tup b xs e)];exact e))
  ·exact .inl (.inr ⟨ob,by rw[dF (PO.frz b ob _ e)];exact e⟩)
  ·exact .inr e
 have r:Vals [v1,v2,v3,.ref f] [u1,u2,u3,.ref f]:=.cons r1 (.cons r2 (.cons r3 (.cons rfl .nil)));have hlen:([u1,u2,u3,Value.ref f]++([]:List Value)).length=ps.length:=by rw[bB9,<-r.length];exact F.len _ _ _ _ hq
 refine bD8 (bCF (F.run X.A X.stack s4' (aCp (λb=>b=f\/b=cp\/b=P\/H' b=some (.own P)) s4'.heap H') ⟨[u1,u2,u3,.ref f],[]⟩ [u1,u2,u3,.ref f] [v1,v2,v3,.ref f] _ E0 hr (PO.env0 I4) (by simpa using hb s4' [u1,u2,u3,.ref f] I4.kIn hlen) r hq) λrr s' hq'=>?_);cases rr with
 |error e=>exact hq'.elim
 |ok fl=>
  cases fl with
  |next=>exact False.elim hq'
  |brk=>exact False.elim hq'
  |cont=>exact False.elim hq'
  |ret uu=>obtain⟨v',Z,os,bare,un,hok,rel,sm,qq⟩:=hq';exact PO.after I4 ⟨v',Z,os,bare,un,hok,rel,sm,λH4 s5=>qq H4 (s4.trans s5)⟩
theorem aPy {n:Str}{p pos:Pos}{e:Expr}{es:List Expr}{te:TE}{t:TA}{P:Program}{w:World}{K:bEX}{mg:bE0}{base:Heap}{k:Nat}(hr:Room (k+1) X.A)(hf:VE X (.Name n p) te)(ha:VA X (e::es) t)(hp:dB e=true:=by rfl)(hpl:(backTo pos (starEach es X.env)).any (·.1)=false:=by rfl)
  (h1:X.prog=P:=by rfl) (h2:X.w=w:=by rfl) (h3:X.K=K:=by rfl) (h4:X.mg=mg:=by rfl) (h5:X.base=base:=by rfl) :
  VE X (.Call (.Name n p) (e::es) [] pos) (aQ0 P w K mg base k te t):=by
 subst h1 h2 h3 h4 h5;exact⟨aRo hr hf.1 ha.1 (aQ hp) hpl⟩
theorem aK7 {fn g x y:Str}{p pos lpos:Pos}{e1 e2 e3:Expr}{te1 te2 te3:TE}{params:Arguments}{body:Expr}{scope:Scope}{iy k:Nat}{c P cp:Addr}{ps:List Str}{sp:Sp}
  (G:Ok X.prog X.w X.K X.mg X.base k fn ps sp) (hr:Room k X.A) (hgl:Gl X fn) (h1:VE X e1 te1) (h2:VE X e2 te2) (h3:VE X e3 te3)
  (hcode:X.env.code=.ref c) (CH:PySem.W.CodeHd X.base c P) (hbm:BM X.mg X.base) (S:aYn (X.env.qual++"<lambda>") g x y params body scope) (hN:X.N[iy]?=some y) (hyc:X.env.kindOf y=some .cell) (hcp:X.env.cells.lookup y=some cp) (hfn:X.fn y=true) (hcl:closureFor scope X.env=pure [(y,cp)]) (hdef:defaultsOf params X.env=([],[]))
  (hp1:dB e1=true:=by rfl) (hp2:dB e2=true:=by rfl) (hp3:dB e3=true:=by rfl) (hdb:(fn == ("__debug__":Str))=false:=by decide)
  (hl:starEach [.Lambda params body scope lpos] X.env=[(false,eval (.Lambda params body scope lpos) X.env)]:=by rfl) :
  VE X (.Call (.Name fn p) [e1,e2,e3,.Lambda params body scope lpos] [] pos) (aR2 X iy P g x y sp (eQ te1 (eQ te2 (eQ te3 aEp)))):=by
 obtain⟨fa,fd,g1,g2,g3,g4⟩:=G;refine⟨aLs g4 hr hgl g1 g2 g3 h1.1 h2.1 h3.1 hcode CH hbm S hN hyc hcp hfn hcl hdef hdb ?_ ?_⟩
 ·rw[aQ hp1,aQ hp2,aQ hp3,hl]
 ·rw[aQ hp2,aQ hp3,hl]
end
end L2
namespace HT
open PySem PySem.Spec PyProof.Rows L2
section
variable {prog:Program}{w:World}{A:Around}{E:bEY}{s:Shared}
theorem sU {t sl:Addr}{items:Array Value}{vl vu:Value}{lo hi:Option Int}{Q:bEY}(ht:IsTup s.heap t items)(hs:s.heap.IsSliceOf sl vl vu .none)(pl:IsPart vl lo)(pu:IsPart vu hi)
  (hw:sIx items.size 0 lo=0/\sIx items.size items.size hi=items.size) (h:Q (.ref t) s):wpAny (model prog w) A (getItem (.ref t) (.ref sl)) Q E s:=by
 obtain⟨os,hos,hcs,hds⟩:=id hs;have hTs:s.TypeIs (.ref sl) "slice":=⟨os,hos,hcs⟩;obtain⟨⟨cls,dd,data,slt⟩,ho,hc,n,hd⟩:=id ht;simp only at hc hd;subst hc hd;unfold getItem
 try with_reducible refine bAQ ?_
 first|refine c7 (d9 ?_)|skip
 refine c7 (wpAny_sequenceKey ht.typeIs (by decide) ?_);refine c7 (bAF (name:=Str.ofString "__getitem__") ht.typeIs bCB
  (bAD bCB ht.typeIs entry_tuple_getitem ?_ (args_tuple_getitem _ _)))
 show wpAny _ _ (Builtin.Tuple.tupleItemsOf (.ref t) >>= _) _ _ s;refine c7 (tupleItemsOf_ ht ?_);refine c7 (bDW hTs ?_);rw[if_pos (by decide)];refine c7 (nY hs pl pu ?_);have hyes:((((sIx items.size 0 lo:Nat):Int) == 0 && (1:Int) == 1 && (sIx items.size items.size hi - sIx items.size 0 lo) == items.size)=true):=by rw[hw.1,hw.2];simp
 show wpAny _ _ (if (((sIx items.size 0 lo:Nat):Int) == 0 && (1:Int) == 1 && (sIx items.size items.size hi - sIx items.size 0 lo) == items.size)=true then _ else _) _ _ s;rw[if_pos hyes];obtain⟨hp,g,d,tk,os'⟩:=s;wp_walk using AutoSeq1.wpAny_loadPart' ho;exact⟨_,rfl,d9 h⟩
end
end HT
namespace L2
open PySem PySem.Spec PyProof.Rows
def bBz (K:bEX):V->Option Int->Option Int->Hp->VK->Prop:=λx lo hi H Q=>∃a xs,x=.ref a/\SqT K H a xs/\∀p H',Same H H'->SqT K H' p (pH xs lo hi)->Q (.ref p) H'
theorem aMp {X:Cx}:SlR X (bBz X.K):=by
 intro bE1 s σ H x v vl vu lo hi sl Q I rx hs pl pu h;obtain⟨a,xs,rfl,hx,q⟩:=h;by_cases hw:HT.sIx xs.length 0 lo=0/\HT.sIx xs.length xs.length hi=xs.length
 ·cases rx;obtain⟨its,r,ht,hz⟩:=I.tuple hx;have hlen:its.toArray.size=xs.length:=by rw[j7];exact r.length.symm
  refine⟨"tuple",_,PyProof.Rows.slot_tuple_getitem.lookup,ht.typeIs,?_⟩;refine HT.sU ht hs pl pu (by rw[hlen];exact hw) ⟨.ref a,H,I,rfl,q a H (Same.refl H) ?_⟩;have e:pH xs lo hi=xs:=by unfold pH;rw[hw.1,hw.2,List.drop_zero,Nat.sub_zero,bCN]
  rw[e];exact hx
 ·exact aMl bE1 s σ H _ v vl vu lo hi sl Q I rx hs pl pu ⟨a,xs,rfl,hx,hw,λp H' s' g'=>q p H' s' (SqT.of g')⟩
end L2
namespace L2
open PySem PySem.Spec PyProof.Rows
section
variable {X:Cx}
end
inductive PH (P:Program)(w:World):List DictEntry->List (Str × Value)->Prop
 |nil:PH P w [] []
 |cons {e:DictEntry} {kv:Str × Value} {es:List DictEntry} {kvs:List (Str × Value)}:(strKind P w).is kv.1 e.key=true->e.hash=(strKind P w).hash kv.1->e.val=kv.2->PH P w es kvs->PH P w (e::es) (kv::kvs)
end L2
namespace PySem
theorem aAd:typeLookup (.type "list") "keys"=pure none:=am_miss_of_fast (by decide +kernel)
section
variable {prog:Program}{w:World}{A:Around}{E:bEY}{s:Shared}
end
end PySem
namespace PySem
theorem iH:entryFor table "dict.update.loop"=some Builtin.«dict.update.loop»:=entryFor_of_tree (by kernel_rfl)
theorem cV:plainId "dict.update.loop"=true:=by decide +kernel
section
variable {prog:Program}{w:World}{κ:Type}[DecidableEq κ]{knd:KeyKind prog w κ}
def tW (knd:KeyKind prog w κ)(h:Heap)(v:Value)(kv:κ × Value):Prop:=∃p key,v=.ref p/\PyProof.Rows.IsTup h p #[key,kv.2]/\knd.is kv.1 key=true
theorem tW.at {h h':Heap}{v:Value}{kv:κ × Value}(x:tW knd h v kv)(k:∀p,v=.ref p->∀o,h.get? p=some o->h'.get? p=some o):tW knd h' v kv:=by obtain⟨p,key,rfl,⟨o,ho,r⟩,hk⟩:=x;exact⟨p,key,rfl,⟨o,k p rfl o ho,r⟩,hk⟩
theorem zB {A:Around}{R:Result->Shared->Prop}{I:Addr}{fp wr:List Addr}{n:Nat}{P:Nat->Value->Prop}{St:Nat->Heap->Prop}(W:Walks prog w A.in1 I fp wr n P St)(D:Addr)(hD:D∉fp)
  (kvs:List (κ × Value)) (hlen:kvs.length=n) (hb:n<=1000) (hP:∀i v,P i v->∀p,v=.ref p->p∉D::wr) :
  ∀(k i:Nat) (s:Shared) (t:Tok),i+k=n->St i s.heap->s.heap.DictOf knd D (merged [] (kvs.take i))->(∀j v kv,P j v->kvs[j]?=some kv->tW knd s.heap v kv) ->
   (∀h' tk,(∀b o,b∉D::wr->s.heap.get? b=some o->h'.get? b=some o)->h'.DictOf knd D (merged [] kvs)->R (.ok (.ret .none)) { s with heap:=h',toks:=tk }) ->
   codeAny (model prog w) A (.builtin "dict.update.loop" ⟨[.ref D,.ref I,.int (i:Nat) t,.none],[]⟩) R s:=by
 have hDw:D∉wr:=λq=>hD (W.sub _ q);intro k
 induction k with
 |zero=>
  intro i s t hi st hd hp q;obtain rfl:i=n:=by lia
  refine bBM iH ?_;rw[bBJ cV _];show wpAny _ A.in1 (pyNext (.ref I) >>= _) _ _ _;refine c7 (W.done s _ _ st λh' tk kp=>?_);show wpAny _ _ (Builtin.Dict.addKeywords D [] >>= _) _ _ _;refine c7 (d9 (d9 (q h' tk (λb o nb e=>kp b o (λz=>nb (j6 _ z)) e) ?_)));rw[bAW (bEK hlen)] at hd;exact hd.at λo e=>kp D o hDw e
 |succ k ih=>
  intro i s t hi st hd hp q;refine bBM iH ?_;rw[bBJ cV _];show wpAny _ A.in1 (pyNext (.ref I) >>= _) _ _ _;refine c7 (W.item i s _ _ (by lia) st λv h1 tk1 hv st1 kp1=>?_);have hlt:i<kvs.length:=by lia
  have hkv:=d7 hlt;have hd1:h1.DictOf knd D (merged [] (kvs.take i)):=hd.at λo e=>kp1 D o hDw e;have hp1:∀j v kv,P j v->kvs[j]?=some kv->tW knd h1 v kv:=λj v kv pj e=>(hp j v kv pj e).at λp ev o eo=>kp1 p o (λz=>hP j v pj p ev (j6 _ z)) eo;obtain⟨p,key,rfl,⟨⟨oc,od,ox,osl⟩,ho,hc,m,hx⟩,hk⟩:=hp1 i v _ hv hkv;simp only at hc hx;subst hc hx;have hml:(merged [] (kvs.take i)).length<=i:=by have:=merged_length_le [] (kvs.take i);rw[bAM] at this;simp only[bCK] at this;lia
  obtain⟨hp0,g,d,tk,os⟩:=s;have hT:(⟨h1,g,d,tk1,os⟩:Shared).TypeIs (.ref p) "tuple":=⟨_,ho,rfl⟩;have hpi:∀(Q:List Value->Shared->Prop) (E:bEY),Q [key,kvs[i].2] ⟨h1,g,d,tk1,os⟩->wpAny (model prog w) A.in1 (Builtin.Dict.pairItems (.ref p)) Q E ⟨h1,g,d,tk1,os⟩:=by intro Q E h;unfold Builtin.Dict.pairItems;wp_walk;exact h
  show wpAny _ A.in1 (holding [.ref p] _ >>= _) _ _ ⟨h1,g,d,tk1,os⟩;refine c7 (bAQ (c7 (wpAny_tryCatch (hpi _ _ ?_))));show wpAny _ A.in1 (holding [key,kvs[i].2] (dictSet D key kvs[i].2)) _ _ ⟨h1,g,d,tk1,os⟩;refine bAQ (wpAny_dictSet_pairs (s:=⟨h1,g,d,tk1,os⟩) hk hd1 (λh2 hd2 sb2=>?_) (bAL hml (bAL (by lia) (show 1000<=sizeLine by decide))));have e1:merged [] (kvs.take (i+1))=stored (merged [] (kvs.take i)) kvs[i].1 kvs[i].2:=merged_take_succ [] kvs i _ hkv;rw[<-e1] at hd2;refine d9 ⟨bCW cV _,?_⟩;have kp2:∀b o,b∉D::wr->hp0.get? b=some o->h2.get? b=some o:=λb o nb e=>by rw[sb2.2 b (λz=>nb (by rw[z];exact j8))];exact kp1 b o (λz=>nb (j6 _ z)) e
  refine ih (i+1) _ _ (by lia) (W.frame _ _ _ st1 λb hb o e=>?_) hd2 (λj v kv pj e=>(hp1 j v kv pj e).at λp' ev o eo=>?_) λh' tk' kp hd'=>q h' tk' (λb o nb e=>kp b o nb (kp2 b o nb e)) hd'
  ·rw[sb2.2 b (λz=>hD (by rw[<-z];exact hb))];exact e
  ·rw[sb2.2 p' (λz=>hP j v pj p' ev (by rw[z];exact j8))];exact eo
end
end PySem
namespace PySem
section
variable {prog:Program}{w:World}{κ:Type}[DecidableEq κ]{knd:KeyKind prog w κ}{A:Around}{E:bEY}{s:Shared}
end
end PySem
namespace PySem
open PySem.Calls PyProof.Rows
section
variable {prog:Program}{w:World}{κ:Type}[DecidableEq κ]{knd:PySem.KeyKind prog w κ}{A:Around}{E:bEY}{s:Shared}
end
end PySem
namespace L2
open PySem PySem.Spec PyProof.Rows
section
variable {X:Cx}
abbrev aS4 (K:bEX)(H:Hp):List V->List (Key × V)->Prop:=Paired λu kv=>∃p,u=.ref p/\SqT K H p [kV kv.1,kv.2]
theorem aZy {bE1:bEZ}{σ:L2.St}{H:Hp}{s:Shared}(I:Inv X bE1 σ H s){us:List V}{kvs:List (Key × V)}(h:aS4 X.K H us kvs):∀{its:List Value},Vals us its ->
  ∃vs:List (Key × Value),KV kvs vs/\vs.length=its.length/\∀(j:Nat) (v:Value) (kv:Key × Value),its[j]?=some v->vs[j]?=some kv->tW (bL X.prog X.w) s.heap v kv:=by
 induction h with
 |nil=>intro its hv;cases hv;exact⟨[],.nil,rfl,λj v kv e _=>by simp at e⟩
 |@cons u kv us kvs r t ih=>
  intro its hv;cases hv with
  |cons q z=>
   obtain⟨p,rfl,hp⟩:=r;cases q;obtain⟨ks,rv,pl,hz⟩:=I.tuple hp;obtain⟨vs,h1,h2,h3⟩:=ih z;obtain⟨key,val,rfl,rk,rx⟩:=vals2 rv;refine⟨(kv.1,val)::vs,.cons ⟨rfl,rx⟩ h1,by rw[v7,v7,h2],λj v kv' e e'=>?_⟩;cases j with
   |zero=>cases e;cases e';exact⟨p,key,rfl,pl,yQ rk⟩
   |succ j=>exact h3 j v kv' (by simpa using e) (by simpa using e')
theorem aA8:∀(kvs acc:List (Key × V)),((acc++kvs).map (·.1)).Nodup->lZ acc kvs=acc++kvs
 |[],acc,_=>by simp[lZ]
 |kv::r,acc,h=>by
  have hn:rA acc kv.1=none:=by
   cases e:rA acc kv.1 with
   |none=>rfl
   |some v=>exfalso;have:=aWj e;rw[bCQ,List.nodup_append] at h;exact h.2.2 _ this _ (by rw[bAV];exact j8 ..) rfl
  show lZ (putK acc kv.1 kv.2) r=_;rw[aR5 _ hn,aA8 r _ (by rw[bCR];exact h),bCR];rfl
end
section
variable {X:Cx}{e st:Expr}{te ts:TE}{pos p2:Pos}
end
section
variable {X:Cx}{o i value:Expr}{td ty tv:TE}{pos pos':Pos}
theorem aNb (hu:X.A.units+1<cLine)(ho:VE X o td)(hi:VE X i ty)(hv:VE X value tv)(hs:swapsWith value (some (.Subscript o i pos')) pos.line X.env=pure false:=by rfl):VS X (.Assign [.Subscript o i pos'] value pos) (aWt td ty tv):=⟨aUf hu ho.1 hi.1 hv.1 hs⟩
end
theorem aL2 {X:Cx}{pos:Pos}{o i:Expr}{to ti:TE}{t:aUh}(ho:VE X o to)(hi:VE X i ti)(hs:aZc X t)
  (ha:∀v,assign (.Subscript o i pos) X.env v=(do
   let ov <-holding [v] (eval o X.env)
   let iv <-holding [v,ov] (eval i X.env)
   standAt pos
   holding [v,ov,iv] (setItem ov iv v)
   release [v,ov,iv] []):=by intro _;rfl):VG X (.Subscript o i pos) (aZ8 to ti t):=⟨aXv ho.1 hi.1 hs ha⟩
theorem aHa {X:Cx}:MtR X "list.reverse" aIh:=aKl
end L2
namespace PySem
abbrev pO (t:Addr)(i:Nat):Obj:={ cls:=.type "list_iterator",data:=.fields #[.ref t,.int (i:Int) 0] }
section
variable {prog:Program}{w:World}{A:Around}{E:bEY}{s:Shared}
theorem uU {it t:Addr}{i:Nat}{its:Array Value}{x:Value}{Q:bEY}(ho:s.heap.get? it=some (pO t i))(ht:s.heap.IsList t its)(hx:its[i]?=some x)
  (q:∀h',h'.get? it=some (pO t (i+1))->Heap.SameBut it s.heap h'->Q x { s with heap:=h' }):wpAny (model prog w) A (Builtin.SmallTypes.nextOf (.ref it)) Q E s:=by
 have hT:s.TypeIs (.ref it) "list_iterator":=⟨_,ho,rfl⟩;obtain⟨ol,hol,_,nl,hdl⟩:=ht;unfold Builtin.SmallTypes.nextOf;refine c7 (bAF (name:=Str.ofString "__next__") hT slot_listiter_next (bAD slot_listiter_next hT entry_listiter_next ?_ (args_listiter_next _)));refine c7 (m:=field (.ref it) 0) (bAI ho rfl (x:=.ref t) rfl ?_);refine (if_neg (show ¬ ((Value.ref t == Value.none)=true) from t8)).symm ▸ ?_;refine c7 (m:=field (.ref it) 1) (bAI ho rfl (x:=.int i 0) rfl ?_);refine c7 (m:=seqItems? (.ref t)) (bAS hol hdl ?_);simp only[bAY,hx];refine c7 (bCZ ho rfl (by simp) (d9 ⟨x,rfl,d9 (q _ ?_ (bAZ ..))⟩));exact bBF _ ho rfl
end
section
variable {prog:Program}{w:World}{κ:Type}[DecidableEq κ]{knd:KeyKind prog w κ}
end
end PySem
namespace PySem
section
variable {prog:Program}{w:World}{A:Around}{E:bEY}{s:Shared}
end
section
variable {prog:Program}{w:World}{κ:Type}[DecidableEq κ]{knd:KeyKind prog w κ}{A:Around}{E:bEY}{s:Shared}
end
end PySem
namespace L2
open PySem PySem.Spec PyProof.Rows
section
variable {X:Cx}{a b:Expr}{ta:TA}{pos p pos2 p2:Pos}
end
end L2
namespace PySem
section
variable {prog:Program}{w:World}{A:Around}{E:bEY}{s:Shared}
theorem qJ {it t:Addr}{i:Nat}{its:Array Value}{Q:bEY}(hh:A.handled=none)(ho:s.heap.get? it=some (pO t i))(ht:s.heap.IsList t its)(hx:its[i]?=none)
  (q:∀h' e,Heap.ExtBut it s.heap h'->(∃o,h'.get? e=some o/\o.cls=.type "StopIteration")->E (.ref e) { s with heap:=h' }):wpAny (model prog w) A (Builtin.SmallTypes.nextOf (.ref it)) Q E s:=by
 have hT:s.TypeIs (.ref it) "list_iterator":=⟨_,ho,rfl⟩;obtain⟨ol,hol,_,nl,hdl⟩:=ht;unfold Builtin.SmallTypes.nextOf;refine c7 (bAF (name:=Str.ofString "__next__") hT slot_listiter_next (bAD slot_listiter_next hT entry_listiter_next ?_ (args_listiter_next _)));refine c7 (m:=field (.ref it) 0) (bAI ho rfl (x:=.ref t) rfl ?_);refine (if_neg (show ¬ ((Value.ref t == Value.none)=true) from t8)).symm ▸ ?_;refine c7 (m:=field (.ref it) 1) (bAI ho rfl (x:=.int i 0) rfl ?_);refine c7 (m:=seqItems? (.ref t)) (bAS hol hdl ?_);simp only[bAY,hx];refine c7 (bCU (c7 (bCZ ho rfl (by simp) ?_)));unfold Builtin.SmallTypes.stopIteration;refine c7 ?_;simp only[newExc,newTuple];refine c7 (bAJ ?_ (by size_fits));refine c7 (m:=firstArgMember _ _) (bDT (a:=Value.none) (by first|rfl|(simp only[firstArgMember];rfl)) ?_);refine bAJ ?_ (by size_fits);simp only[raiseNew];refine c7 (bED ?_);first|rw[show A.in1.handled=none from hh]|rw[hh]
 refine c7 (d9 (bER ?_));exact q _ _ (((bAZ ..).extBut.push _).push _) ⟨_,j5 _ rfl,rfl⟩
theorem aLj {z TI TO i1 i2 t u:Addr}{k:Nat}{xs ys:Array Value}{x y a b:Value}{Q:Option Value->Shared->Prop}(D:oM z TI TO i1 i2)
  (hz:s.heap.get? z=some (jB .none TI TO)) (hTI:s.heap.get? TI=some (dM (.ref i1) (.ref i2))) (hTO:s.heap.get? TO=some (dM a b))
  (g1:s.heap.get? i1=some (pO t k)) (g2:s.heap.get? i2=some (pO u k)) (ht:s.heap.IsList t xs) (hu:s.heap.IsList u ys) (hx:xs[k]?=some x) (hy:ys[k]?=some y)
  (t1:t≠z) (t2:t≠TO) (t3:t≠i1) (t4:t≠i2) (u1:u≠z) (u2:u≠TO) (u3:u≠i1) (u4:u≠i2)
  (q:∀h',h'.get? z=some (jB (rawInt s.heap.objs.size) TI TO)->h'.get? TO=some (dM x y)->h'.get? i1=some (pO t (k+1))->h'.get? i2=some (pO u (k+1))->h'.get? s.heap.objs.size=some (dM x y) ->
   (∀c o,c≠z->c≠TO->c≠i1->c≠i2->s.heap.get? c=some o->h'.get? c=some o)->Q (some (.ref s.heap.objs.size)) { s with heap:=h' }) :
  wpAny (model prog w) A (pyNext (.ref z)) Q E s:=by
 have hT:s.TypeIs (.ref z) "zip":=⟨_,hz,rfl⟩;unfold pyNext;refine c7 (bBY (bAF (name:=Str.ofString "__next__") hT F.slot_zip_next (bAD F.slot_zip_next hT F.entry_zip_next ?_ (F.args_zip_next_1 _))));refine c7 (m:=field (.ref z) 2) (bAI hz rfl (x:=.bool false) rfl ?_);refine c7 (m:=field (.ref z) 3) (bAI hz rfl (x:=.ref TI) rfl (c7 (bAS hTI rfl ?_)));refine c7 (m:=Builtin.SmallTypes.ownedTupleIsFree (.ref z)) ?_;unfold Builtin.SmallTypes.ownedTupleIsFree;refine c7 (bAI hz rfl (x:=.none) rfl (d9 ?_));simp only[if_true];refine c7 (bCU (c7 (bAI hz rfl (x:=.ref TO) rfl (c7 (bAH hz (by simp) λh1 z1 s1=>?_)))));replace z1:h1.get? z=some (jB .ellipsis TI TO):=z1;refine c7 ?_;simp only[bDD,bDL,bCP,bDX];refine c7 (c7 (bCV ?_));refine c7 (m:=Builtin.SmallTypes.nextOf (.ref i1)) (uU (s:={ s with heap:=h1 }) (s1.extBut _ _ D.h3 g1) (ht.extBut s1.extBut t1) hx λh2 g12 s2=>d9 ?_);have TO2:h2.get? TO=some (dM a b):=s2.extBut _ _ D.h8 (s1.extBut _ _ D.h2 hTO);refine c7 (bAS TO2 rfl (c7 (vQ (s:={ s with heap:=h2 }) TO2 λh3 TO3 s3=>c7 (bEG (d9 ?_)))));replace TO3:h3.get? TO=some (dM x b):=TO3;refine c7 (c7 (bCV ?_));refine c7 (m:=Builtin.SmallTypes.nextOf (.ref i2)) (uU (s:={ s with heap:=h3 }) (s3.extBut _ _ D.h9.symm (s2.extBut _ _ D.h10.symm (s1.extBut _ _ D.h4 g2))) (((hu.extBut s1.extBut u1).extBut s2.extBut u3).extBut s3.extBut u2) hy λh4 g24 s4=>d9 ?_);have TO4:h4.get? TO=some (dM x b):=s4.extBut _ _ D.h9 TO3;refine c7 (bAS TO4 rfl (c7 (vQ (s:={ s with heap:=h4 }) TO4 λh5 TO5 s5=>c7 (bEG (d9 (d9 ?_))))));replace TO5:h5.get? TO=some (dM x y):=TO5;refine c7 (bAS TO5 rfl (c7 (bDY ?_)));have hsz:h5.objs.size=s.heap.objs.size:=by rw[s5.1,s4.1,s3.1,s2.1,s1.1]
 have z5:h5.get? z=some (jB .ellipsis TI TO):=s5.extBut _ _ D.h2.symm (s4.extBut _ _ D.h4.symm (s3.extBut _ _ D.h2.symm (s2.extBut _ _ D.h3.symm z1)));have kp:∀c o,c≠z->c≠TO->c≠i1->c≠i2->s.heap.get? c=some o->h5.get? c=some o:=λc o c1 c2 c3 c4 e=>s5.extBut _ _ c2 (s4.extBut _ _ c4 (s3.extBut _ _ c2 (s2.extBut _ _ c3 (s1.extBut _ _ c1 e))));have g15:h5.get? i1=some (pO t (k+1)):=s5.extBut _ _ D.h8.symm (s4.extBut _ _ D.h10 (s3.extBut _ _ D.h8.symm g12));have g25:h5.get? i2=some (pO u (k+1)):=s5.extBut _ _ D.h9.symm g24;refine c7 (m:=Builtin.SmallTypes.ownedTupleHandOut (.ref z) (.ref h5.objs.size)) ?_;unfold Builtin.SmallTypes.ownedTupleHandOut;have z6:(h5.push (dM x y)).get? z=some (jB .ellipsis TI TO):=d8 _ z5;refine c7 (bAH z6 (by simp) λh7 z7 s7=>?_);replace z7:h7.get? z=some (jB (rawInt h5.objs.size) TI TO):=z7;refine bAH z7 (by simp) λh8 z8 s8=>?_;replace z8:h8.get? z=some (jB (rawInt h5.objs.size) TI TO):=z8;have up:∀c o,c≠z->h5.get? c=some o->h8.get? c=some o:=λc o c1 e=>s8.extBut _ _ c1 (s7.extBut _ _ c1 (d8 _ e));have nz:h5.objs.size≠z:=bCL (m8 z5);have T8:h8.get? h5.objs.size=some (dM x y):=s8.extBut _ _ nz (s7.extBut _ _ nz (j5 _ rfl));rw[hsz] at z8 T8;refine d9 ⟨_,rfl,d9 ?_⟩;show Q (some (.ref h5.objs.size)) _;rw[hsz];exact q h8 z8 (up _ _ D.h2 TO5) (up _ _ D.h3 g15) (up _ _ D.h4 g25) T8 λc o c1 c2 c3 c4 e=>up c o c1 (kp c o c1 c2 c3 c4 e)
theorem aO2 {z TI TO i1 i2 t u:Addr}{k:Nat}{xs ys:Array Value}{x a b:Value}{Q:Option Value->Shared->Prop}(hh:A.handled=none)(D:oM z TI TO i1 i2)
  (hz:s.heap.get? z=some (jB .none TI TO)) (hTI:s.heap.get? TI=some (dM (.ref i1) (.ref i2))) (hTO:s.heap.get? TO=some (dM a b))
  (g1:s.heap.get? i1=some (pO t k)) (g2:s.heap.get? i2=some (pO u k)) (ht:s.heap.IsList t xs) (hu:s.heap.IsList u ys) (hx:xs[k]?=some x) (hy:ys[k]?=none) (t1:t≠z) (u1:u≠z) (u2:u≠TO) (u3:u≠i1)
  (q:∀h',(∀c o,c≠z->c≠TO->c≠i1->c≠i2->s.heap.get? c=some o->h'.get? c=some o)->Q none { s with heap:=h' }) :
  wpAny (model prog w) A (pyNext (.ref z)) Q E s:=by
 have hT:s.TypeIs (.ref z) "zip":=⟨_,hz,rfl⟩;unfold pyNext;refine c7 (bBY (bAF (name:=Str.ofString "__next__") hT F.slot_zip_next (bAD F.slot_zip_next hT F.entry_zip_next ?_ (F.args_zip_next_1 _))));refine c7 (m:=field (.ref z) 2) (bAI hz rfl (x:=.bool false) rfl ?_);refine c7 (m:=field (.ref z) 3) (bAI hz rfl (x:=.ref TI) rfl (c7 (bAS hTI rfl ?_)));refine c7 (m:=Builtin.SmallTypes.ownedTupleIsFree (.ref z)) ?_;unfold Builtin.SmallTypes.ownedTupleIsFree;refine c7 (bAI hz rfl (x:=.none) rfl (d9 ?_));simp only[if_true];refine c7 (bCU (c7 (bAI hz rfl (x:=.ref TO) rfl (c7 (bAH hz (by simp) λh1 z1 s1=>?_)))));replace z1:h1.get? z=some (jB .ellipsis TI TO):=z1;refine c7 ?_;simp only[bDD,bDL,bCP,bDX];refine c7 (c7 (bCV ?_));refine c7 (m:=Builtin.SmallTypes.nextOf (.ref i1)) (uU (s:={ s with heap:=h1 }) (s1.extBut _ _ D.h3 g1) (ht.extBut s1.extBut t1) hx λh2 g12 s2=>d9 ?_);have TO2:h2.get? TO=some (dM a b):=s2.extBut _ _ D.h8 (s1.extBut _ _ D.h2 hTO);refine c7 (bAS TO2 rfl (c7 (vQ (s:={ s with heap:=h2 }) TO2 λh3 TO3 s3=>c7 (bEG (d9 ?_)))));replace TO3:h3.get? TO=some (dM x b):=TO3;refine c7 (c7 (bCV ?_));refine c7 (m:=Builtin.SmallTypes.nextOf (.ref i2)) (qJ (s:={ s with heap:=h3 }) hh (s3.extBut _ _ D.h9.symm (s2.extBut _ _ D.h10.symm (s1.extBut _ _ D.h4 g2))) (((hu.extBut s1.extBut u1).extBut s2.extBut u3).extBut s3.extBut u2) hy λh4 e s4 he=>?_);obtain⟨oe,hoe,hce⟩:=he;have z4:h4.get? z=some (jB .ellipsis TI TO):=s4 _ _ D.h4.symm (s3.extBut _ _ D.h2.symm (s2.extBut _ _ D.h3.symm z1));have hez:e≠z:=λx=>by subst x;rw[z4] at hoe;cases hoe;simp at hce
 refine bAH z4 (by simp) λh5 _ s5=>?_;refine c7 (bCO (T:="StopIteration") (b:=true) ⟨oe,s5.extBut _ _ hez hoe,hce⟩ isSubtype_stop ?_);exact d9 (q _ λc o c1 c2 c3 c4 x=>s5.extBut _ _ c1 (s4 _ _ c4 (s3.extBut _ _ c2 (s2.extBut _ _ c3 (s1.extBut _ _ c1 x)))))
theorem aL8 {z TI TO i1 i2 t:Addr}{k:Nat}{xs:Array Value}{a b:Value}{Q:Option Value->Shared->Prop}(hh:A.handled=none)(D:oM z TI TO i1 i2)
  (hz:s.heap.get? z=some (jB .none TI TO)) (hTI:s.heap.get? TI=some (dM (.ref i1) (.ref i2))) (hTO:s.heap.get? TO=some (dM a b))
  (g1:s.heap.get? i1=some (pO t k)) (ht:s.heap.IsList t xs) (hx:xs[k]?=none) (t1:t≠z)
  (q:∀h',(∀c o,c≠z->c≠TO->c≠i1->c≠i2->s.heap.get? c=some o->h'.get? c=some o)->Q none { s with heap:=h' }) :
  wpAny (model prog w) A (pyNext (.ref z)) Q E s:=by
 have hT:s.TypeIs (.ref z) "zip":=⟨_,hz,rfl⟩;unfold pyNext;refine c7 (bBY (bAF (name:=Str.ofString "__next__") hT F.slot_zip_next (bAD F.slot_zip_next hT F.entry_zip_next ?_ (F.args_zip_next_1 _))));refine c7 (m:=field (.ref z) 2) (bAI hz rfl (x:=.bool false) rfl ?_);refine c7 (m:=field (.ref z) 3) (bAI hz rfl (x:=.ref TI) rfl (c7 (bAS hTI rfl ?_)));refine c7 (m:=Builtin.SmallTypes.ownedTupleIsFree (.ref z)) ?_;unfold Builtin.SmallTypes.ownedTupleIsFree;refine c7 (bAI hz rfl (x:=.none) rfl (d9 ?_));simp only[if_true];refine c7 (bCU (c7 (bAI hz rfl (x:=.ref TO) rfl (c7 (bAH hz (by simp) λh1 z1 s1=>?_)))));replace z1:h1.get? z=some (jB .ellipsis TI TO):=z1;refine c7 ?_;simp only[bDD,bDL,bCP,bDX];refine c7 (c7 (bCV ?_));refine c7 (m:=Builtin.SmallTypes.nextOf (.ref i1)) (qJ (s:={ s with heap:=h1 }) hh (s1.extBut _ _ D.h3 g1) (ht.extBut s1.extBut t1) hx λh2 e s2 he=>?_);obtain⟨oe,hoe,hce⟩:=he;have z2:h2.get? z=some (jB .ellipsis TI TO):=s2 _ _ D.h3.symm z1;have hez:e≠z:=λx=>by subst x;rw[z2] at hoe;cases hoe;simp at hce
 refine bAH z2 (by simp) λh3 _ s3=>?_;refine c7 (bCO (T:="StopIteration") (b:=true) ⟨oe,s3.extBut _ _ hez hoe,hce⟩ isSubtype_stop ?_);exact d9 (q _ λc o c1 _ c3 _ x=>s3.extBut _ _ c1 (s2 _ _ c3 (s1.extBut _ _ c1 x)))
abbrev zM1 (h:Heap)(t:Addr):Heap:=h.push (pO t 0)
abbrev zM2 (h:Heap)(t u:Addr):Heap:=(zM1 h t).push (pO u 0)
abbrev zM3 (h:Heap)(t u:Addr):Heap:=(zM2 h t u).push (dM (.ref h.objs.size) (.ref (zM1 h t).objs.size))
abbrev zM4 (h:Heap)(t u:Addr):Heap:=(zM3 h t u).push (dM .none .none)
abbrev zM5 (h:Heap)(t u:Addr):Heap:=(zM4 h t u).push (jB .none (zM2 h t u).objs.size (zM3 h t u).objs.size)
theorem aHz (t u:Addr)(xs ys:Array Value):Meets (Builtin.«zip.__new__» ⟨[.type "zip",.ref t,.ref u],[]⟩)
  (λ_ R s=>s.heap.IsList t xs/\s.heap.IsList u ys/\R (.ok (.ret (.ref (zM4 s.heap t u).objs.size))) { s with heap:=zM5 s.heap t u }):=
 .of_wp λprog w A R s h=>by
  obtain⟨hp,g,d,tk,os⟩:=s;obtain⟨a1,a2,h⟩:=h;have hsub:=sub_zip;have b1:Heap.IsList (Shared.heap ⟨hp,g,d,tk,os⟩) t xs:=a1;have b2:Heap.IsList (Shared.heap ⟨hp.push { cls:=.type "list_iterator",data:=.fields #[.ref t,.int 0 0] },g,d,tk,os⟩) u ys:=by obtain⟨o,ho,r⟩:=a2;exact⟨o,d8 _ ho,r⟩
  wp_walk using bB3 b1,bB3 b2;exact⟨_,rfl,h⟩
theorem aK2 {t u:Addr}{xs ys:Array Value}{Q:bEY}(ht:s.heap.IsList t xs)(hu:s.heap.IsList u ys)(q:Q (.ref (zM4 s.heap t u).objs.size) { s with heap:=zM5 s.heap t u }) :
  wpAny (model prog w) A (call (.type "zip") [.ref t,.ref u]) Q E s:=by
 refine callType_new F.called_zip (by decide) (F.typeCall_zip_2 _ _) (F.newCall_zip_2 _ _) (λobj=>F.args_object_init_3 obj _ _) F.entry_zip_new (aHz t u xs ys) ⟨ht,hu,?_⟩;exact⟨⟨_,j5 _ rfl,rfl⟩,q⟩
end
end PySem
namespace L2
open PySem PySem.Spec PyProof.Rows
section
variable {X:Cx}{bE1:bEZ}{σ:St}{H:Hp}{s:Shared}
end
def Itw (K:bEX)(t u:Addr)(xs ys:List V):It:=
 ⟨λi H=>SqL K H t xs/\SqL K H u ys/\i<xs.length/\i<ys.length,λi H v H'=>∃T a b,H T=none/\v=.ref T/\H'=upd H T (.tup [a,b])/\xs[i]?=some a/\ys[i]?=some b,λi H=>SqL K H t xs/\SqL K H u ys/\i=ys.length/\ys.length<=xs.length⟩
def wtn (z TI TO i1 i2 t u:Addr)(i:Nat)(h:Heap):Prop:=
 h.get? z=some (jB .none TI TO)/\h.get? TI=some (dM (.ref i1) (.ref i2))/\(∃a b,h.get? TO=some (dM a b))/\h.get? i1=some (pO t i)/\h.get? i2=some (pO u i)
theorem aKk {P:Program}{w:World}{K:bEX}{elts:List Expr}{kt:Nat}{pos:Pos}{z TI TO i1 i2 t u:Addr}{xs ys:List V}(D:oM z TI TO i1 i2) :
  Turn P w K (.Tuple elts kt pos) (Itw K t u xs ys) [z,TI,TO,i1,i2] z (wtn z TI TO i1 i2 t u) where
 mem:=by simp
 obj:=λi h st b hb=>by
  obtain⟨e1,e2,⟨a,c,e3⟩,e4,e5⟩:=st;simp only[bAB,w6,or_false] at hb;rcases hb with rfl|rfl|rfl|rfl|rfl
  ·exact⟨_,e1,λv z=>by cases (show Data.fields _=Data.cell v from z)⟩
  ·exact⟨_,e2,λv z=>by cases (show Data.seq _ _=Data.cell v from z)⟩
  ·exact⟨_,e3,λv z=>by cases (show Data.seq _ _=Data.cell v from z)⟩
  ·exact⟨_,e4,λv z=>by cases (show Data.fields _=Data.cell v from z)⟩
  ·exact⟨_,e5,λv z=>by cases (show Data.fields _=Data.cell v from z)⟩
 keep:=λi h h' st k=>by obtain⟨e1,e2,⟨a,c,e3⟩,e4,e5⟩:=st;exact⟨k z (by simp) _ e1,k TI (by simp) _ e2,⟨a,c,k TO (by simp) _ e3⟩,k i1 (by simp) _ e4,k i2 (by simp) _ e5⟩
 item:=by
  intro X hP hw hK hc i bE1 s σ H E I hf st hg;subst hP hw hK;obtain⟨e1,e2,⟨a0,c0,e3⟩,e4,e5⟩:=st;obtain⟨ht,hu,l1,l2⟩:=hg;obtain⟨its,rv,pt,hz⟩:=I.list ht;obtain⟨jts,rw',pu,hz'⟩:=I.list hu;obtain⟨x,hx,rx⟩:=rv.get (d7 l1);obtain⟨y,hy,ry⟩:=rw'.get (d7 l2);have fz:=hf z (by simp);have fO:=hf TO (by simp);have f1:=hf i1 (by simp);have f2:=hf i2 (by simp);refine aLj D e1 e2 e3 e4 e5 pt.isList pu.isList (by simpa using hx) (by simpa using hy) (I.jM ht fz) (I.jM ht fO) (I.jM ht f1) (I.jM ht f2)
   (I.jM hu fz) (I.jM hu fO) (I.jM hu f1) (I.jM hu f2) λh' a1 a2 a3 a4 a5 kp=>?_
  refine⟨_,rfl,?_⟩;have fT:H s.heap.objs.size=none:=I.hok.fresh (j0 _);have I1:Inv X bE1 σ (upd H s.heap.objs.size (.tup [xs[i],ys[i]])) { s with heap:=h' }:=by
   refine I.drawn (ch:=[z,TO,i1,i2]) (its:=[x,y]) (λb hb=>?_) (λb o hb e=>?_) (j0 _) (.cons rx (.cons ry .nil)) (small (by simp)) (.of a5 rfl ⟨_,a5,rfl,_,rfl⟩) (λb hb=>?_)
   ·refine hf b ?_;simp only[bAB,w6,or_false] at hb ⊢;rcases hb with h|h|h|h <;> simp[h]
   ·simp only[bAB,w6,or_false,not_or] at hb;exact kp b o hb.1 hb.2.1 hb.2.2.1 hb.2.2.2 e
   ·simp only[bAB,w6,or_false] at hb;rcases hb with rfl|rfl|rfl|rfl
    ·exact⟨_,a1⟩
    ·exact⟨_,a2⟩
    ·exact⟨_,a3⟩
    ·exact⟨_,a4⟩
  have nT:∀b∈[z,TI,TO,i1,i2],b≠s.heap.objs.size:=λb hb=>by
   have e:∃o,s.heap.get? b=some o:=by
    simp only[bAB,w6,or_false] at hb;rcases hb with rfl|rfl|rfl|rfl|rfl
    ·exact⟨_,e1⟩
    ·exact⟨_,e2⟩
    ·exact⟨_,e3⟩
    ·exact⟨_,e4⟩
    ·exact⟨_,e5⟩
   obtain⟨o,e⟩:=e;exact v4 (m8 e)
  refine bEQ (s:={ s with heap:=h' }) a1 λh2 z2 s2=>?_;obtain⟨g0,g1,g2,g3,g4,g5⟩:=fz;have I2:Inv X bE1 σ (upd H s.heap.objs.size (.tup [xs[i],ys[i]])) { s with heap:=h2 }:=Inv.turned (s:={ s with heap:=h' }) I1 (t':=s.toks) (it:=z) (λb o hb e=>(s2.2 b hb).trans e) (by rw[aN (nT z (by simp))];exact g0) g1 g3 g4 g5;refine⟨.ref s.heap.objs.size,_,I2,rfl,⟨_,_,_,fT,rfl,rfl,d7 l1,d7 l2⟩,?_,λb hb=>by rw[aN (nT b hb)];exact (hf b hb).1⟩;exact⟨z2,s2.extBut _ _ D.h1 (kp TI _ D.h1 D.h5 D.h6 D.h7 e2),⟨_,_,s2.extBut _ _ D.h2 a2⟩,s2.extBut _ _ D.h3 a3,s2.extBut _ _ D.h4 a4⟩
 done:=by
  intro X hP hw hK hc i bE1 s σ H E I hf st hg;subst hP hw hK;obtain⟨e1,e2,⟨a0,c0,e3⟩,e4,e5⟩:=st;obtain⟨ht,hu,hl,hle⟩:=hg;obtain⟨its,rv,pt,hz⟩:=I.list ht;obtain⟨jts,rw',pu,hz'⟩:=I.list hu;have hlen:=rv.length;have hlen':=rw'.length;have fz:=hf z (by simp);have fO:=hf TO (by simp);have f1:=hf i1 (by simp);refine (λ(go:∀h',(∀c o,c≠z->c≠TO->c≠i1->c≠i2->s.heap.get? c=some o->h'.get? c=some o)->_)=>?_:_->_) (λh' kp=>(⟨rfl,?_⟩:(none:Option Value)=none/\Inv X bE1 σ H { s with heap:=h' }))
  ·cases hx:its[i]? with
   |none=>exact aL8 (I.ok.hd hc) D e1 e2 e3 e4 pt.isList (by simpa using hx) (I.jM ht fz) λh' kp=>go h' kp
   |some x=>exact aO2 (I.ok.hd hc) D e1 e2 e3 e4 e5 pt.isList pu.isList (by simpa using hx) (by simp;lia) (I.jM ht fz) (I.jM hu fz) (I.jM hu fO) (I.jM hu f1) λh' kp=>go h' kp
  refine Inv.aEs (ch:=[z,TO,i1,i2]) I (λb hb=>hf b ?_) λb o hb e=>?_
  ·simp only[bAB,w6,or_false] at hb ⊢;rcases hb with h|h|h|h <;> simp[h]
  ·simp only[bAB,w6,or_false,not_or] at hb;exact kp b o hb.1 hb.2.1 hb.2.2.1 hb.2.2.2 e
 self:=λ_ _ _ _ _ st h=>bD9 st.1 h
section
variable {X:Cx}
def aK5 (K:bEX)(ta:TA):TI:=fun σ H R=>ta σ H λvs H1=>∃t u xs ys,vs=[.ref t,.ref u]/\SqL K H1 t xs/\SqL K H1 u ys/\R (Itw K t u xs ys) H1
theorem aTi {elts:List Expr}{kt:Nat}{tp:Pos}{a b:Expr}{ta:TA}{p pos:Pos}(hg:Gl X "zip")(hm:X.mg "zip"=none)(ha:PA X [a,b] ta)(hs:starEach [a,b] X.env=(false,eval a X.env)::starEach [b] X.env:=by rfl)
  (hs2:starEach [b] X.env=[(false,eval b X.env)]:=by rfl):PI X (.Tuple elts kt tp) (.Call (.Name "zip" p) [a,b] [] pos) (aK5 X.K ta):=by
 intro bE1 s σ H R I h;refine Call_ (pR I hg hm aS9 (bBP (thn (ha pos bE1 s σ H _ I h) λus s1 ⟨vs,H1,I1,r1,q1⟩=>?_) hs (by rw[hs2];rfl)));obtain⟨t,u,xs,ys,e,ht,hu,q⟩:=q1;subst e;obtain⟨its,rv,pt,hz⟩:=I1.list ht;obtain⟨jts,rw',pu,hz'⟩:=I1.list hu;cases r1 with
 |cons r rr=>
  cases rr with
  |cons r' rr'=>
   cases rr';cases r;cases r';refine aK2 pt.isList pu.isList ?_;have z1:(zM1 s1.heap t).objs.size=s1.heap.objs.size+1:=bAX ..;have z2:(zM2 s1.heap t u).objs.size=s1.heap.objs.size+2:=by rw[bAX,z1]
   have z3:(zM3 s1.heap t u).objs.size=s1.heap.objs.size+3:=by rw[bAX,z2]
   have z4:(zM4 s1.heap t u).objs.size=s1.heap.objs.size+4:=by rw[bAX,z3]
   have D:oM (zM4 s1.heap t u).objs.size (zM2 s1.heap t u).objs.size (zM3 s1.heap t u).objs.size s1.heap.objs.size (zM1 s1.heap t).objs.size:=by constructor <;> (show (_:Nat)≠(_:Nat);rw[Ne];intro h;simp only[z1,z2,z3,z4] at h;lia)
   have g5:(zM5 s1.heap t u).get? (zM4 s1.heap t u).objs.size=some (jB .none (zM2 s1.heap t u).objs.size (zM3 s1.heap t u).objs.size):=j5 _ rfl;have g4:(zM5 s1.heap t u).get? (zM3 s1.heap t u).objs.size=some (dM .none .none):=d8 _ (j5 _ rfl);have g3:(zM5 s1.heap t u).get? (zM2 s1.heap t u).objs.size=some (dM (.ref s1.heap.objs.size) (.ref (zM1 s1.heap t).objs.size)):=d8 _ (d8 _ (j5 _ rfl));have g2:(zM5 s1.heap t u).get? (zM1 s1.heap t).objs.size=some (pO u 0):=d8 _ (d8 _ (d8 _ (j5 _ rfl)));have g1:(zM5 s1.heap t u).get? s1.heap.objs.size=some (pO t 0):=d8 _ (d8 _ (d8 _ (d8 _ (j5 _ rfl))));have I2:Inv X bE1 σ H1 { s1 with heap:=zM5 s1.heap t u }:=I1.kept (t':=s1.toks) λb o e=>d8 _ (d8 _ (d8 _ (d8 _ (d8 _ e))));refine bD9 (s:={ s1 with heap:=zM5 s1.heap t u }) g5 ⟨_,_,_,_,H1,rfl,I2,aKk (xs:=xs) (ys:=ys) D,⟨g5,g3,⟨_,_,g4⟩,g1,g2⟩,λb hb=>?_,q⟩;have hb':s1.heap.objs.size<=b:=by
    simp only[bAB,w6,or_false] at hb;rcases hb with rfl|rfl|rfl|rfl|rfl
    ·rw[z4];exact bBR ..
    ·rw[z2];exact bBR ..
    ·rw[z3];exact bBR ..
    ·exact j0 _
    ·rw[z1];exact bBR ..
   exact I1.aFp hb' (I1.hok.fresh hb')
theorem aRu {elts:List Expr}{kt:Nat}{tp:Pos}{a b:Expr}{t:TA}{p pos:Pos}(hg:Gl X "zip")(hm:X.mg "zip"=none)(ha:VA X [a,b] t)(hp:dB a=true:=by rfl)(hp2:dB b=true:=by rfl) :
  VI X (.Tuple elts kt tp) (.Call (.Name "zip" p) [a,b] [] pos) (aK5 X.K t):=⟨aTi hg hm ha.1 (aQ hp) (aQ (es:=[]) hp2)⟩
end
theorem aG7 {K:bEX}{t u:Addr}{xs ys:List V}{H:Hp}{σ0:L2.St}{te:TE}{Q:VK}(ht:SqL K H t xs)(hu:SqL K H u ys)(hle:ys.length<=xs.length)(h2:Ps2 σ0 σ0)(hsz:ys.length<=1000)(zs:List V)(hzl:zs.length=ys.length)
  (he:∀(i:Nat) (x y z:V),xs[i]?=some x->ys[i]?=some y->zs[i]?=some z->∀H' R,Same H H'->(∀H2,Same H' H2->R z H2)->te ((σ0.set 0 (some x)).set 1 (some y)) H' R)
  (q:∀D H',Same H H'->H' D=some (.lst zs)->Q (.ref D) H'):qW (Itw K t u xs ys) H σ0 (aJ3 K 2 (tO (cB 0) (tO (cB 1) aP8))) nZ te Q:=by
 intro D hD;refine⟨λi m σ' H' vs=>m=ys.length - i/\i<=ys.length/\Same H H'/\H' D=some (.lst vs)/\vs=zs.take i/\Ps2 σ0 σ',⟨ys.length,by simp,bAE _,aW hD _,aH,rfl,h2⟩,?_⟩;rintro i m σ' H' vs ⟨rfl,hi,sm,gD,rfl,hps⟩;refine⟨gD,?_⟩;by_cases hlt:i<ys.length
 ·right;refine⟨⟨sm.seq ht,sm.seq hu,by lia,hlt⟩,?_⟩;rintro v H2 ⟨T,a,b,hT,rfl,rfl,ha,hb⟩;have s2:Same H' (L2.upd H' T (.tup [a,b])):=aW hT _;refine hg2 (SqT.of aH) hps fun σ2 hps2 hat=>?_;have hat':σ2=_:=hat;subst hat';dsimp only[nZ];rw[if_pos rfl];have hiz:i<zs.length:=by lia
  refine he i a b zs[i] ha hb (d7 hiz) _ _ (sm.trans s2) λH3 s3=>?_;have gD3:H3 D=some (.lst (zs.take i)):=s3 _ _ (s2 _ _ gD);refine⟨gD3,bCD (show (zs.take i).length<=1000 by rw[bAM];lia) (by decide),ys.length - (i+1),by lia,rfl,by lia,lV hD (sm.trans (s2.trans s3)),aH,?_,hps2⟩;rw[bBH,d7 hiz];rfl
 ·left;have e:i=ys.length:=by lia
  subst e;rw[bAW (by lia)] at gD;exact⟨⟨sm.seq ht,sm.seq hu,rfl,hle⟩,q D H' sm gD⟩
theorem aKq {J:It}{H:Hp}{xs:List V}{σ0:L2.St}{te:TE}{Q:VK}(go:∀H' i x,Same H H'->xs[i]?=some x->J.go i H'/\∀y H2,J.yld i H' y H2->H2=H'/\y=x)(stop:∀H',Same H H'->J.stop xs.length H')(h1:Ps1 σ0 σ0)(hsz:xs.length<=1000)
  (zs:List V) (hzl:zs.length=xs.length) (he:∀(i:Nat) (x z:V),xs[i]?=some x->zs[i]?=some z->∀H' R l,Same H H'->(∀H2,Same H' H2->R z H2)->te ((σ0.set 0 l).set 0 (some x)) H' R)
  (q:∀D H',Same H H'->H D=none->H' D=some (.lst zs)->Q (.ref D) H'):qW J H σ0 (cB 0) nZ te Q:=by
 intro D hD;refine⟨λi m σ' H' vs=>m=xs.length - i/\i<=xs.length/\Same H H'/\H' D=some (.lst vs)/\vs=zs.take i/\Ps1 σ0 σ',⟨xs.length,by simp,bAE _,aW hD _,aH,rfl,h1⟩,?_⟩;rintro i m σ' H' vs ⟨rfl,hi,sm,gD,rfl,hps⟩;refine⟨gD,?_⟩;by_cases hlt:i<xs.length
 ·right;obtain⟨g1,g2⟩:=go H' i xs[i] sm (d7 hlt);refine⟨g1,λv H2 hy=>?_⟩;obtain⟨rfl,rfl⟩:=g2 v H2 hy;refine hg1 (i:=i) hps fun σ2 hps2 hat=>?_;obtain⟨l,rfl⟩:=hat;dsimp only[nZ];rw[if_pos rfl];have hiz:i<zs.length:=by lia
  refine he i _ zs[i] (d7 hlt) (d7 hiz) _ _ l sm λH3 s3=>?_;refine⟨s3 _ _ gD,bCD (show (zs.take i).length<=1000 by rw[bAM];lia) (by decide),xs.length - (i+1),by lia,rfl,by lia,lV hD (sm.trans s3),aH,?_,hps2⟩;rw[bBH,d7 hiz];rfl
 ·left;have e:i=xs.length:=by lia
  subst e;rw[bAW (by lia)] at gD;exact⟨stop H' sm,q D H' sm hD gD⟩
theorem aSu {X:Cx}{K:bEX}{scope:Scope}{N:List Str}{tl:TA}{te:TE}{tt:TT}{g:TG}{σ:L2.St}{H:Hp}{Q:VK}(σ0:L2.St)(cap:Cap X scope N σ σ0)(h:tl σ H λvs H1=>∃t u xs ys,vs=[.ref t,.ref u]/\SqL K H1 t xs/\SqL K H1 u ys/\qW (Itw K t u xs ys) H1 σ0 g tt te Q):kZ X scope N (aK5 K tl) g tt te σ H Q:=⟨σ0,cap,h⟩
def tH (ts:List (Addr × Str))(H:Hp):Prop:=∀p∈ts,H p.1=some (.tab p.2)
def mG:List (Addr × Str)->Addr->Option Str
 |[],_=>none
 |p::r,b=>if b=p.1 then some p.2 else mG r b
theorem aC9 {b:Addr}:∀{ts:List (Addr × Str)},(∀p∈ts,b≠p.1)->mG ts b=none
 |[],_=>rfl
 |p::r,h=>by unfold mG;rw[if_neg (h p j8)];exact aC9 λq hq=>h q (j6 _ hq)
theorem qH {b:Addr}{q:Str}:∀{ts:List (Addr × Str)},mG ts b=some q->∃p∈ts,p.1=b/\p.2=q
 |p::r,h=>by
  unfold mG at h;by_cases e:b=p.1
  ·rw[if_pos e] at h;exact⟨p,j8,e.symm,bAN h⟩
  ·rw[if_neg e] at h;obtain⟨p',h1,h2⟩:=qH h;exact⟨p',j6 _ h1,h2⟩
theorem aNx:∀{ts:List (Addr × Str)},(ts.map (·.1)).Nodup->∀{p:Addr × Str},p∈ts->mG ts p.1=some p.2
 |p::r,nd,q,hq=>by
  rw[bAV,bDM] at nd;unfold mG;rcases List.mem_cons.mp hq with rfl|hq
  ·rw[if_pos rfl]
  ·rw[if_neg λz=>nd.1 (by rw[<-z];exact List.mem_map.mpr ⟨q,hq,rfl⟩)];exact aNx nd.2 hq
theorem aPl {P:Program}{w:World}{K:bEX}{mg mb:bE0}{CX:CXT}{k:Nat}{fa a:Addr}{fd:FuncData}{x:Str}{sp:Sp}{s₁:Shared}{vs:List Value}{ns:List Int}
  (KX:K.In s₁.heap) (hns:s₁.heap.Ns mainGlobals mg) (hb:s₁.heap.Ns builtinsNs mb) (hbb:∀x:Str,x≠"__name__"->mb x=bootBuiltins x) (hlim:s₁.heap.NoLimit) (hg:s₁.gens=#[])
  (ha:s₁.heap.get? a=some { cls:=.type "list",data:=.seq vs.toArray }) (hi:IntsAre vs ns) (hl:ns.length<=sizeLine) (hr:Room k callerA)
  (ts:List (Addr × Str)) (hts:∀p∈ts,s₁.heap.get? p.1=some { cls:=.none,data:=.fields #[] }/\isCodeTable s₁.heap p.1/\K.lookup p.1=none) (hnd:(ts.map (·.1)).Nodup) (hbm:BM mg s₁.heap)
  (F:∀base:Heap,K.In base->base.Ns mainGlobals mg->BM mg base->lJ P w K mg base CX k fa fd [x] sp) (hbind:∀(s:Shared) (u:Value),BindsTo s fd ⟨[u],[]⟩ [(x,u)])
  (hsp:∀H:Hp,tH ts H->SqL K H a (ns.map V.int)->sp [.ref a] H (λv H'=>v=.bl true/\tH ts H') λ_ _ _=>False)
  (hCX:∀H e s',CX [] H s₁ (λ_ _ _=>False) e s'->False) :
  codeAny (model P w) callerA (.call (.ref fa) ⟨[.ref a],[]⟩) (λr s'=>r=.ok (.ret (.bool true))/\OldK s₁.heap s'.heap/\s'.os=s₁.os/\AllBare s'.gens) s₁:=by
 have rv:=aC8 hi;have lenV:=hi.length;have core:∀H:Hp,tH ts H->(∀b,(∀p∈ts,b≠p.1)->H b=none\/∃o xs,H b=some (.frz o (.lst xs)))->SqL K H a (ns.map V.int)->HOk P w H s₁.heap->(∀b,H b≠none->b=a\/∃p∈ts,b=p.1)->(H a≠none->K.lookup a=none) ->
   codeAny (model P w) callerA (.call (.ref fa) ⟨[.ref a],[]⟩) (λr s'=>r=.ok (.ret (.bool true))/\OldK s₁.heap s'.heap/\s'.os=s₁.os/\AllBare s'.gens) s₁:=by
  intro H hT hO hS hok hA hK;have base_of:∀{b:Addr} {o:Obj},s₁.heap.get? b=some o->H b=none->(aCu s₁.heap H).get? b=some o:=λe n=>aQu e n;have noA:∀{b:Addr} {o:Obj} {es:Array DictEntry} {ep:Nat},s₁.heap.get? b=some o->o.data=.dict es ep->H b=none:=λ{b o es ep} e d=>by
   cases q:H b with
   |none=>rfl
   |some u=>
    rcases hA b (by rw[q];simp) with e'|⟨p,hp,e'⟩
    ·subst e';rw[ha] at e;cases e;have d':Data.seq vs.toArray _=Data.dict es ep:=d;cases d'
    ·subst e';rw[(hts p hp).1] at e;cases e;have d':Data.fields _=Data.dict es ep:=d;cases d'
  have nsK:∀{b:Addr} {m:bE0},s₁.heap.Ns b m->(aCu s₁.heap H).Ns b m:=λ{b m} ⟨o,es,ep,e,d,r⟩=>⟨o,es,ep,base_of e (noA e d),d,r⟩;have hKb:K.In (aCu s₁.heap H):=λb o e=>base_of (KX b o e) (by
   cases q:H b with
   |none=>rfl
   |some u=>
    rcases hA b (by rw[q];simp) with e'|⟨p,hp,e'⟩
    ·subst e';rw[hK (by rw[q];simp)] at e;cases e
    ·subst e';rw[(hts p hp).2.2] at e;cases e)
  have hbm':BM mg (aCu s₁.heap H):=by
   obtain⟨bm,ob,b1,b2,b3,b4,b5,b6⟩:=hbm;refine⟨bm,ob,b1,b2,base_of b3 ?_,b4,b5,b6⟩;cases q:H bm with
   |none=>rfl
   |some u=>
    rcases hA bm (by rw[q];simp) with e'|⟨p,hp,e'⟩
    ·rw[e',ha] at b3;cases b3;cases (show Data.seq vs.toArray _=Data.plain from b6)
    ·rw[e',(hts p hp).1] at b3;cases b3;cases (show Data.fields _=Data.plain from b6)
  have hM:Mod K mg (aCu s₁.heap H):=⟨hKb,nsK hns,⟨mb,nsK hb,hbb⟩,let ⟨mc,h1,h2⟩:=hlim;⟨mc,nsK h1,h2⟩⟩;have e0:aGp P w K mg (aCu s₁.heap H) callerA [] s₁ H:=⟨rfl,hM,λb o e=>aUt e,bEK (aOu _ _),trivial,λb hb=>absurd (show b∈([]:List Addr) from hb) (by simp),hok,.of_eq hg⟩;refine bCF ((F _ hKb (nsK hns) hbm').run callerA [] s₁ H ⟨[.ref a],[]⟩ [.ref a] [.ref a] _ _ hr e0 (hbind s₁ (.ref a)) (.cons rfl .nil) (hsp H hT hS)) λr s' h=>?_;cases r with
  |error e=>exact (hCX H e s' h).elim
  |ok fl=>
   cases fl with
   |next=>exact False.elim h
   |brk=>exact False.elim h
   |cont=>exact False.elim h
   |ret u=>
    obtain⟨v,H',os,bare,un,hok',r',q⟩:=h;obtain⟨q',qT⟩:=(show v=.bl true/\tH ts H' from q);subst q';obtain rfl:u=Value.bool true:=r';have kp:∀b o,s₁.heap.get? b=some o->(∀p∈ts,b≠p.1)->s'.heap.get? b=some o:=λb o e hb=>by
     cases q:H b with
     |none=>exact un.keep b o e q (by intro z;exact absurd (show b∈([]:List Addr) from z) (by simp)) (by simp)
     |some u=>
      rcases hO b hb with z|⟨ob,xs,z⟩
      ·rw[q] at z;cases z
      ·have z2:=un.frzs b ob _ z;obtain⟨e1,_⟩:=hok b _ z;obtain⟨e2,_⟩:=hok' b _ z2;rw[e] at e1;cases e1;exact e2
    refine⟨rfl,⟨λb o e=>?_,λb o e=>?_⟩,os,bare⟩
    ·by_cases hb:∃p∈ts,b=p.1
     ·obtain⟨p,hp,rfl⟩:=hb;obtain⟨ps,e1,_⟩:=hok' p.1 _ (qT p hp);rw[(hts p hp).1] at e;cases e;exact .inr (.inl ⟨(hts p hp).2.1,rfl,#[],ps,rfl,by rw[e1];simp⟩)
     ·exact .inl (kp b o e λp hp z=>hb ⟨p,hp,z⟩)
    ·by_cases hb:∃p∈ts,b=p.1
     ·obtain⟨p,hp,rfl⟩:=hb;obtain⟨ps,e1,_⟩:=hok' p.1 _ (qT p hp);exact⟨_,e1⟩
     ·exact⟨o,kp b o e λp hp z=>hb ⟨p,hp,z⟩⟩
 have aT:∀p∈ts,p.1≠a:=λp hp z=>by have:=(hts p hp).1;rw[z,ha] at this;cases this
 have tlk:∀p∈ts,mG ts p.1=some p.2:=λp hp=>aNx hnd hp;have tno:∀b,(∀p∈ts,b≠p.1)->mG ts b=none:=λb hb=>aC9 hb;have tok:∀(H:Hp) (p:Addr × Str),p∈ts->dH P w H s₁.heap p.1 (.tab p.2):=λH p hp=>⟨#[],(hts p hp).1,trivial,λpos cv z=>by cases z⟩;cases hk:K.lookup a with
 |some o=>
  have e:=KX a o hk;rw[ha] at e;cases e;refine core (λb=>(mG ts b).map .tab) (λp hp=>by show (mG ts p.1).map _=_;rw[tlk p hp];rfl) (λb hb=>.inl (by show (mG ts b).map _=_;rw[tno b hb];rfl)) (.inr ⟨_,vs.toArray,_,hk,rfl,rfl,rfl,by rw[j7,lenV];exact hl,by simpa using rv⟩) (λb u z=>?_) (λb z=>?_) λz=>?_
  ·obtain⟨qn,hq,rfl⟩:=Option.map_eq_some_iff.mp (show (mG ts b).map .tab=some u from z);obtain⟨p,hp,e1,e2⟩:=qH hq;subst e1 e2;exact tok _ p hp
  ·refine .inr ?_;cases hq:mG ts b with
   |none=>exact absurd (show (mG ts b).map HO.tab=none by rw[hq];rfl) z
   |some qn=>obtain⟨p,hp,e1,_⟩:=qH hq;exact⟨p,hp,e1.symm⟩
  ·exact absurd (show (mG ts a).map HO.tab=none by rw[tno a λp hp z=>aT p hp z.symm];rfl) z
 |none=>
  refine core (λb=>if b=a then some (.frz { cls:=.type "list",data:=.seq vs.toArray } (.lst (ns.map V.int))) else (mG ts b).map .tab) (λp hp=>by show (if p.1=a then _ else (mG ts p.1).map HO.tab)=_;rw[if_neg (aT p hp),tlk p hp];rfl) (λb hb=>?_) (.inl (.inr ⟨{ cls:=.type "list",data:=.seq vs.toArray },if_pos rfl⟩)) (λb u z=>?_) (λb z=>?_) λ_=>hk
  ·by_cases h:b=a
   ·exact .inr ⟨_,_,if_pos h⟩
   ·exact .inl (by show (if b=a then _ else (mG ts b).map HO.tab)=_;rw[if_neg h,tno b hb];rfl)
  ·by_cases hb:b=a
   ·have z':=(if_pos hb).symm.trans z;cases z';subst hb;exact⟨ha,by rw[j9];exact hl,vs,_,rv,ha⟩
   ·have z':(mG ts b).map HO.tab=some u:=(if_neg hb).symm.trans z;obtain⟨qn,hq,rfl⟩:=Option.map_eq_some_iff.mp z';obtain⟨p,hp,e1,e2⟩:=qH hq;subst e1 e2;exact tok _ p hp
  ·by_cases hb:b=a
   ·exact .inl hb
   ·refine .inr ?_;cases hq:mG ts b with
    |none=>exact absurd (show (if b=a then _ else (mG ts b).map HO.tab)=none by rw[if_neg hb,hq];rfl) z
    |some qn=>obtain⟨p,hp,e1,_⟩:=qH hq;exact⟨p,hp,e1.symm⟩
theorem aRr {l:PySem.W.OpenLaw}{n k:Nat}{q:Program}{loose:List Str}{XP:(bE0)->Heap->Prop}{YP:World->Heap->Prop}{d:DefRec}{K:Params->bEX}{CX:World->CXT}{sp:World->Sp}{x:Str}
  (hn:l.most=some n) (hn2:n<=sizeLine) (hdf:d.params.defaults=[]) (hr:Room k callerA)
  (ts:List (Addr × Str)) (hnd:(ts.map (·.1)).Nodup)
  (hY:∀(w:World) (h:Heap),YP w h->(K w.params).In h/\∀p∈ts,h.get? p.1=some { cls:=.none,data:=.fields #[] })
  (hC:∀(w:World),∀p∈ts,(∃c,PySem.W.codeHdIn (K w.params) c p.1=true)/\(K w.params).lookup p.1=none)
  (F:∀(w:World) (mg:bE0) (fa:Addr) (h:Heap),(K w.params).In h->h.Ns mainGlobals mg->mg d.name=some (.ref fa) ->
   ∃fd:FuncData,(∀(s:Shared) (u:Value),BindsTo s fd ⟨[u],[]⟩ [(x,u)]) /\
    ∀base:Heap,(K w.params).In base->base.Ns mainGlobals mg->BM mg base->lJ l.prog w (K w.params) mg base (CX w) k fa fd [x] (sp w))
  (hsp:∀(w:World) (H:Hp) (a:Addr) (ns:List Int),ns.length<=n->tH ts H->SqL (K w.params) H a (ns.map V.int)->sp w [.ref a] H (λv H'=>v=.bl true/\tH ts H') λ_ _ _=>False)
  (hCX:∀(w:World) (H:Hp) (s:Shared) (e:Value) (s':Shared),CX w [] H s (λ_ _ _=>False) e s'->False) :
  PySem.W.WalkO q loose XP YP l.row.toRowW d [] (λf vs=>PySem.call f vs):=by
 refine Att.aG0 hn hdf λw s₀ s₁ mg mb fa o pm cd doc a vs ns G Y ho hd hcd hmg hobj hints hlen hg=>?_;obtain⟨KX,hTab⟩:=hY w _ Y;obtain⟨fd,hb,hF⟩:=F w mg fa _ KX G.T.g hmg;refine aPl KX G.T.g G.T.b G.T.builtins G.T.nolimit hg hobj hints (bAL hlen hn2) hr ts (λp hp=>⟨hTab p hp,?_,(hC w p hp).2⟩) hnd G.T.bmain hF hb (λH hO hS=>hsp w H a ns hlen hO hS) λH e s'=>hCX w H s₁ e s';obtain⟨c,hc⟩:=(hC w p hp).1;exact Heap.TableAt.isCodeTable ((PySem.W.codeHd_of_K KX hc).tab (hTab p hp))
def cT (K:bEX)(H:Hp)(u:V)(r:List V):Prop:=∃a,u=.ref a/\SqT K H a r
theorem cT.same {K:bEX}{H H':Hp}{u:V}{r:List V}(e:Same H H')(h:cT K H u r):cT K H' u r:=by obtain⟨a,rfl,ha⟩:=h;exact⟨a,rfl,e.aV ha⟩
def KdV:Bool->V->Prop
 |true,x=>∃i,x=.int i
 |false,x=>∃z,x=.str z
def KdR (ks:List Bool)(r:List V):Prop:=Al2 KdV ks r
def rlt:List V->List V->Bool
 |.int a::xs,.int b::ys=>if (a == b)=true then rlt xs ys else decide (a<b)
 |.str a::xs,.str b::ys=>if (a == b)=true then rlt xs ys else decide (a.cps.toList<b.cps.toList)
 |_,_=>false
def srt (rs:List (List V)):List (List V):=(PySem.W.dI rs.length λi j=>rlt (rs.getD i []) (rs.getD j [])).map λi=>rs.getD i []
theorem zQ (rs:List (List V)):(srt rs).length=rs.length:=by unfold srt;rw[j9,PySem.W.sI]
theorem jP {rs:List (List V)}{r:List V}(h:r∈srt rs):r∈rs:=by
 obtain⟨i,hi,rfl⟩:=List.mem_map.mp h;have:=PySem.W.nO hi;have e:rs.getD i []=rs[i]:=by simp[this]
 rw[e];exact bAT this
theorem Al2.get {α β:Type}{R:α->β->Prop}{as:List α}{bs:List β}(h:Al2 R as bs){i:Nat}{a:α}{b:β}(h1:as[i]?=some a)(h2:bs[i]?=some b):R a b:=by obtain⟨b',e,r⟩:=h.at h1;rw[h2] at e;cases e;exact r
theorem Al2.of {α β:Type}{R:α->β->Prop}:∀{as:List α} {bs:List β},as.length=bs.length->(∀(i:Nat) (a:α) (b:β),as[i]?=some a->bs[i]?=some b->R a b)->Al2 R as bs
 |[],[],_,_=>.nil
 |a::as,b::bs,hl,h=>.cons (h 0 a b rfl rfl) (Al2.of (by simpa using hl) λi x y h1 h2=>h (i+1) x y (by simpa using h1) (by simpa using h2))
theorem Al2.imp {α β:Type}{R S:α->β->Prop}{as:List α}{bs:List β}(h:Al2 R as bs)(k:∀a b,R a b->S a b):Al2 S as bs:=by
 induction h with
 |nil=>exact .nil
 |cons r _ ih=>exact .cons (k _ _ r) ih
section
variable {prog:Program}{w:World}{A:Around}{s:Shared}{b:Bool}{Q:Bool->Shared->Prop}
theorem aVv (ks:List Bool):∀{r1 r2:List V} {i1 i2:List Value},KdR ks r1->KdR ks r2->Vals r1 i1->Vals r2 i2->∀i:Nat,Q (rlt r1 r2) s->PySem.W.KatLex prog w A b false Q (i1.zip i2) i s:=by
 induction ks with
 |nil=>intro r1 r2 i1 i2 h1 h2 v1 v2 i q;cases h1;cases h2;cases v1;cases v2;exact q
 |cons k ks ih=>
  intro r1 r2 i1 i2 h1 h2 v1 v2 i q;cases h1 with
  |cons a1 t1=>
   cases h2 with
   |cons a2 t2=>
    cases v1 with
    |cons p1 w1=>
     cases v2 with
     |cons p2 w2=>
      cases k with
      |true=>
       obtain⟨x,rfl⟩:=a1;obtain⟨y,rfl⟩:=a2;obtain⟨t,rfl⟩:=p1;obtain⟨u,rfl⟩:=p2;refine (bDP x t y u) prog w _ _ ?_;unfold rlt at q;by_cases e:(x == y)=true
       ·rw[e,if_pos rfl];rw[if_pos e] at q;exact ih t1 t2 w1 w2 (i+1) q
       ·rw[if_neg e] at q;rw[Bool.not_eq_true] at e;rw[e,if_neg (by decide)];cases hb:(b && i == 0) with
        |true=>exact oneLt_int q
        |false=>exact PySem.W.kat_one _ _ (lt_int q)
      |false=>
       obtain⟨x,rfl⟩:=a1;obtain⟨y,rfl⟩:=a2;obtain⟨t,rfl⟩:=p1;obtain⟨u,rfl⟩:=p2;refine (bC3 x t y u) prog w _ _ ?_;unfold rlt at q;by_cases e:(x == y)=true
       ·rw[e,if_pos rfl];rw[if_pos e] at q;exact ih t1 t2 w1 w2 (i+1) q
       ·rw[if_neg e] at q;rw[Bool.not_eq_true] at e;rw[e,if_neg (by decide)];cases hb:(b && i == 0) with
        |true=>exact oneLt_str q
        |false=>exact PySem.W.kat_one _ _ (lt_str q)
end
section
variable {X:Cx}
def aLt (K:bEX):List V->Hp->VK->Prop:=λxs H Q=>∃(l:Addr) (us:List V) (rs:List (List V)) (ks:List Bool),xs=[.ref l]/\SqL K H l us/\Al2 (cT K H) us rs/\us.length<64/\ks≠[]/\(∀r∈rs,KdR ks r) /\
 ∀D H' us',H D=none->Same H H'->H' D=some (.lst us')->Al2 (cT K H) us' (srt rs)->Q (.ref D) H'
theorem aNf {bE1:bEZ}{σ:L2.St}{H:Hp}{s:Shared}{h':Heap}{k:Bool}{ks:List Bool}(I:Inv X bE1 σ H s)(kp:∀b o,s.heap.get? b=some o->h'.get? b=some o):∀{us:List V} {rs:List (List V)} {its:List Value},Al2 (cT X.K H) us rs->Vals us its->(∀r∈rs,KdR (k::ks) r) ->
  ∃fs,PySem.W.KatTups h' its fs/\fs.length=its.length/\∀f∈fs,∀M:Model,PySem.W.Looks M h' (typeOf f) (.type (if k=true then "int" else "str"))
 |_,_,_,.nil,.nil,_=>⟨[],.nil,rfl,λf h=>by cases h⟩
 |_,_,_,.cons (b:=r) hr t,.cons q z,hk=>by
  obtain⟨fs,h1,h2,h3⟩:=aNf I kp t z λr m=>hk r (j6 _ m);obtain⟨a,rfl,ha⟩:=hr;cases q;obtain⟨ks',rv,⟨o,ho,hc,n,hd⟩,_⟩:=I.tuple ha;have hkr:=hk r (j8 ..);cases hkr with
  |cons hx _=>
   cases rv with
   |@cons _ f _ fr rx _=>
    refine⟨f::fs,.cons (kp _ _ ho) hc hd (by simp) h1,by rw[v7,v7,h2],λg hg M=>?_⟩;rcases List.mem_cons.mp hg with rfl|hg
    ·cases k with
     |true=>obtain⟨i,rfl⟩:=hx;obtain⟨tk,rfl⟩:=rx;exact .now
     |false=>obtain⟨i,rfl⟩:=hx;obtain⟨tk,rfl⟩:=rx;exact .now
    ·exact h3 g hg M
theorem aHg {bE1:bEZ}{σ:L2.St}{H:Hp}{s:Shared}{us:List V}{rs:List (List V)}{ks:List Bool}{its:List Value}(I:Inv X bE1 σ H s)(rv:Vals us its)(hr:Al2 (cT X.K H) us rs)(hne:ks≠[])(hk:∀r∈rs,KdR ks r)(A:Around)(h2:2<=its.length)(h':Heap)(kp:∀b o,s.heap.get? b=some o->h'.get? b=some o) :
  ∃κ,(∀(Q:SortKind->Shared->Prop),Q κ { s with heap:=h' }->wpAny (model X.prog X.w) A (keyKind' its.toArray) Q (λ_ _=>False) { s with heap:=h' })/\∀i j (C:Bool->Shared->Prop),i<its.length->j<its.length->C (rlt (rs.getD i []) (rs.getD j [])) { s with heap:=h' }->PySem.W.kas_ask X.prog X.w A κ its i j C { s with heap:=h' }:=by
 have e1:=rv.length;have e2:=hr.len;obtain⟨k,ks',rfl⟩:∃k ks',ks=k::ks':=by
  cases ks with
  |nil=>exact absurd rfl hne
  |cons k ks'=>exact⟨k,ks',rfl⟩
 obtain⟨fs,t1,t2,t3⟩:=aNf I kp hr rv hk;refine⟨_,λQ hq=>PySem.W.kat_kind (s:={ s with heap:=h' }) (T:=.type (if k=true then "int" else "str")) t1 (by lia) (λv hv=>t3 v hv _) (by simp) hq,λi j C hi hj hC=>?_⟩;have row:∀{i:Nat},i<its.length->∃a o r xs n,its.getD i Value.none=.ref a/\h'.get? a=some o/\o.data=.seq (List.toArray xs) n/\Vals r xs/\rs.getD i []=r/\KdR (k::ks') r:=λ{i} hi=>by
  have hiu:i<us.length:=by lia
  have hir:i<rs.length:=by lia
  obtain⟨a,ea,ha⟩:=hr.get (d7 hiu) (d7 hir);obtain⟨v,hv,rx⟩:=rv.get (d7 hiu);rw[ea] at rx;cases rx;obtain⟨xs,rr,⟨o,ho,hc,n,hd⟩,_⟩:=I.tuple ha;refine⟨a,o,rs[i],xs,n,?_,kp _ _ ho,hd,rr,by simp[hir],hk _ (bAT hir)⟩;rw[j4,hv];rfl
 obtain⟨a,o,r1,x1,n1,g1,g2,g3,g4,g5,g6⟩:=row hi;obtain⟨b,o',r2,x2,n2,g1',g2',g3',g4',g5',g6'⟩:=row hj;show wpAny _ _ (keyLt' _ (its.getD i Value.none) (its.getD j Value.none)) C _ _;rw[g1,g1'];refine PySem.W.kat_lt (s:={ s with heap:=h' }) g2 g3 g2' g3' ?_;have hsz:decide ((List.toArray x1).size<(List.toArray x2).size)=false:=by rw[j7,j7];have:=g4.length;have:=g4'.length;have:=Al2.len g6;have:=Al2.len g6';exact v8 (by lia)
 rw[hsz];refine aVv (k::ks') g6 g6' g4 g4' 0 ?_;rw[g5,g5'] at hC;exact hC
theorem aEc {us:List V}{its:List Value}(rv:Vals us its):∀L:List Nat,(∀i∈L,i<us.length)->Vals (L.map λi=>us.getD i .non) (L.map λi=>its.getD i Value.none):=by
 intro L
 induction L with
 |nil=>intro _;exact .nil
 |cons i L ih=>intro hL;have hi:=hL i (j8 ..);obtain⟨v,hv,rx⟩:=rv.get (d7 hi);refine .cons ?_ (ih λj hj=>hL j (j6 _ hj));show RelV (us.getD i .non) (its.getD i Value.none);rw[j4,d7 hi,j4,hv];exact rx
theorem aDn {K:bEX}{H:Hp}{us:List V}{rs:List (List V)}(hr:Al2 (cT K H) us rs):∀L:List Nat,(∀i∈L,i<us.length)->Al2 (cT K H) (L.map λi=>us.getD i .non) (L.map λi=>rs.getD i []):=by
 intro L
 induction L with
 |nil=>intro _;exact .nil
 |cons i L ih=>
  intro hL;have hi:=hL i (j8 ..);have hir:i<rs.length:=by have:=hr.len;lia
  refine .cons ?_ (ih λj hj=>hL j (j6 _ hj));show cT K H (us.getD i .non) (rs.getD i []);rw[j4,d7 hi,j4,d7 hir];exact hr.get (d7 hi) (d7 hir)
theorem fC:cI X (.builtin "sorted") (aLt X.K):=by
 intro bE1 s σ H xs us0 Q I r h;obtain⟨l,us,rs,ks,rfl,hl,hr,h64,hne,hk,q⟩:=h;obtain⟨u,rfl,ru⟩:=vals1 r;cases ru;obtain⟨its,rv,pl,hz⟩:=I.list hl;have e1:=rv.length;have e2:=hr.len;refine PySem.W.aFe (f:=λi j=>rlt (rs.getD i []) (rs.getD j [])) pl.isList (by lia) (aHg I rv hr hne hk _) ?_;obtain⟨e,he⟩:=sortedAll_at s.heap its (List.toArray ((PySem.W.dI its.length λi j=>rlt (rs.getD i []) (rs.getD j [])).map λi=>its.getD i Value.none));have hf:H (s.heap.objs.size+1)=none:=I.hok.fresh (bDS _);have el:its.length=rs.length:=by lia
 refine⟨.ref (s.heap.objs.size+1),_,I.laid (t':=s.toks) (o:=.lst ((PySem.W.dI rs.length λi j=>rlt (rs.getD i []) (rs.getD j [])).map λi=>us.getD i .non)) (λb o q=>sortedAll_old q) (bDS _) ?_,rfl,q _ _ _ hf (aW hf _) aH (aDn hr _ λi hi=>by have:=PySem.W.nO hi;lia)⟩;refine⟨small (by rw[j9,PySem.W.sI];lia),_,e,?_,he⟩;rw[el];exact aEc rv _ λi hi=>by have:=PySem.W.nO hi;lia
end
def kvlt:V->V->Bool
 |.int a,.int b=>decide (a<b)
 |.str a,.str b=>decide (a.cps.toList<b.cps.toList)
 |_,_=>false
section
variable {X:Cx}{bE1:bEZ}{σ:List (Option V)}{H:Hp}{s:Shared}
end
section
variable {X:Cx}
end
section
variable {P:Program}{w:World}{K:bEX}{mg:bE0}{base:Heap}
def aSa (K:bEX)(mg:bE0)(x:Str)(Pt:Addr):Prop:=∃f o fd c,mg x=some (.ref f)/\K.lookup f=some o/\o.data=.func fd/\fd.code=.ref c/\PySem.W.codeHdIn K c Pt=true
theorem Ok.bBk {x:Str}{st:Stmt}{N ps:List Str}{k:Nat}{sp:Sp}{Pt:Addr}(D:Dn K mg x st ps)(C:aSa K mg x Pt)(hK:K.In base)(S:aJ N ps (aD st))(len:∀vs H Q E,sp vs H Q E->vs.length=ps.length)
  (hbody:∀(f c:Addr) (A:Around) (outer:List Env) (s:Shared) (H:Hp) (vs:List V) (Q:VK) (E:XK),PySem.W.CodeHd base c Pt->Room k (A.deeper (envOfC x (aD st) s.heap.objs.size f (.ref c)))->sp vs H Q E ->
   ∃t,VSs (aBm CX0 P w K mg base N x (aD st) f (.ref c) A outer s H E).nox (eV st) t/\t { nx:=λ_ H'=>Q .non H',rt:=Q } (start N vs) H):Ok P w K mg base (k+1) x ps sp:=by
 obtain⟨f,fd,F,B,m⟩:=D;obtain⟨f',o',fd',c,m',lk',hd',hc',hh⟩:=C;rw[m] at m';cases m';refine⟨f,fd,m,F.kp,B,?_⟩;obtain⟨oc,od,kV,doc,pm,an,cdv,ct,osl,rfl,lk,hcd⟩:=F.ex;rw[lk] at lk';cases lk';cases hd';have e:cdv=.ref c:=hc';subst e;refine aWv lk hcd S len λA outer s H vs Q E hr hsp=>?_;obtain⟨t,h,q⟩:=hbody f c A outer s H vs Q E (PySem.W.codeHd_of_K hK hh) hr hsp;exact⟨t,h.1.nox,q⟩
end
section
variable {X:Cx}
end
end L2
namespace My
open PySem PySem.Spec PyProof.Rows L2
section
variable {P:Program}{w:World}{K:bEX}{mg:bE0}{base:Heap}
def vlt:V->V->Bool
 |.int a,.int b=>decide (a<b)
 |.str a,.str b=>decide (a.cps.toList<b.cps.toList)
 |_,_=>false
def aOq (k:Str):Prop:=k = "number"\/k = "word"
def qC:Str:="are_cuts.<locals>.<lambda>"
def aN3 (P:Program)(w:World)(K:bEX)(mg:bE0)(base:Heap)(k:Nat):Sp:=λvs H Q _=>∃(a:Addr) (lo hi:Nat) (f:Addr) (xs:List V) (qual g x y:Str) (z:V) (ps:List Str) (sp:Sp),vs=[.ref a,.int (lo:Nat),.int (hi:Nat),.ref f]/\SqT K H a xs/\lo<=xs.length/\xs.length<=hi/\hi<=1000/\vA H f qual g x y z/\Ok P w K mg base k g ps sp /\
 (∀v∈xs,∀(H':Hp) (R:VK),Same H H'->(∀H2,Same H' H2->R (.bl true) H2)->sp [v,z] H' R E0)/\∀H',Same H H'->Q (.bl true) H'
theorem zH {k:Nat}(T:Txt w K mg):Ok P w K mg base (k+2) "is_tuple_of" ["thing","least","most","is_part"] (aN3 P w K mg base k):=by
 refine Ok.ofV T.tL qY (λvs H Q E h=>?_) (λf cdv A outer s H vs Q E hr h=>?_)
 ·obtain⟨a,lo,hi,f,xs,qual,g,x,y,z,ps,sp,rfl,_⟩:=h;rfl
 obtain⟨a,lo,hi,g,xs,qual,gn,x,y,z,ps,sp,rfl,ha,h1,h2,h1000,hL,hG,hsp,q⟩:=h;refine⟨_,(aC (cA (VW.pt (fB (cG (bV (aK gZ (by rfl) T.bM bI (aB (vv 0) (aB (dJ (v:=.ty "tuple") (by rfl) T.iT eZ rfl) aA))))) (dN (cG (aBq aBu aBu (vv 1) (aK bA (by rfl) T.fJ cZ (aB (vv 0) aA)) (vv 2)))))) (aG (aL gQ)) aZ) (aG (aL (aK (lU rfl) (by rfl) T.aBk uY (aB (cJ (N:=["part","is_part"]) (by trivial) (dX (aD fW) rfl (by decide +kernel)) rfl (rH (vv 0)) (λcl s' H' fp=>⟨(aM (i:=0) (show (["part","is_part"]:List Str).Nodup from by decide +kernel) rfl (Or.inl rfl)),gO,(aPy (P:=P) (w:=w) (K:=K) (mg:=mg) (base:=base) hr (vv 1) (aB (vv 0) aA))⟩)) aA))))),?_⟩;refine⟨_,rfl,_,_,rfl,.tup ha,_,rfl,bY ?_⟩;refine⟨_,rfl,_,rfl,_,_,rfl,.inr ha,_,_,rfl,rfl,_,rfl,?_⟩;have e1:decide ((lo:Int)<=(xs.length:Int))=true:=t6 (by lia);have e2:decide ((xs.length:Int)<=(hi:Int))=true:=t6 (by lia);rw[e1];refine fV ⟨_,rfl,_,_,rfl,rfl,_,rfl,?_⟩;rw[e2];refine bY ?_;dsimp only[tK,sY,tCB,eQ];refine aDi xs (λ_=>.bl true) [none,some (.ref g)] ?_ (small (by lia)) (λR r=>aJz ha (λR' r'=>⟨_,rfl,r'⟩) R r) (λv hv H' R l sm r=>?_) rfl λD H' sm hD=>?_
 ·exact jT 3 (by decide +kernel) rfl rfl (by trivial)
 ·exact⟨_,rfl,g,qual,gn,x,y,z,ps,sp,rfl,hL.same sm,hG,_,rfl,v,rfl,hL.same sm,hsp v hv H' R sm r⟩
 ·refine⟨D,xs.map λ_=>true,rfl,SqL.of (by rw[hD,bDF];rfl),?_⟩;rw[show (xs.map λ_=>true).all id=true by rw[List.all_map];exact List.all_eq_true.mpr λ_ _=>rfl];exact q H' sm
def aTg (K:bEX):Sp:=λvs H Q _=>∃(p:Addr) (v:V) (h m:Int),vs=[.ref p,.int m]/\SqT K H p [v,.int h]/\0<=h/\h<m/\∀H',Same H H'->Q (.bl true) H'
theorem aPa (T:Txt w K mg)(cR:Ok P w K mg base 2 "is_number_below" ["thing","many"] wI):Ok P w K mg base 3 "is_cut" ["thing","houses"] (aTg K):=by
 refine Ok.ofV T.aQ3 aOd (λvs H Q E h=>?_) (λf cdv A outer s H vs Q E hr h=>?_)
 ·obtain⟨p,v,h,m,rfl,_⟩:=h;rfl
 obtain⟨p,v,h,m,rfl,hp,h0,h1,q⟩:=h;refine⟨_,(aG (aL (gJ (aK gZ (by rfl) T.bM bI (aB (vv 0) (aB (dJ (v:=.ty "tuple") (by rfl) T.iT eZ rfl) aA))) (gJ (cQ fK (aK bA (by rfl) T.fJ cZ (aB (vv 0) aA)) aF (aY _)) (gK (aO (cR.mono (by decide)) hr (by rfl) (aB (aP bH (vv 0) aF (λ_ _=>rfl)) (aB (vv 1) aA)))))))),?_⟩;refine⟨_,rfl,_,_,rfl,.tup hp,_,rfl,fV ⟨_,rfl,_,_,rfl,.inr hp,rfl,_,rfl,?_⟩⟩;refine fV ⟨_,rfl,p,_,1,_,rfl,rfl,hp,at1 _ _ _,_,rfl,h,m,rfl,?_⟩;rw[t6 h0,t6 h1];exact q H (Same.refl H)
theorem aSc {x g y:Str}{env:Env}{cp:Addr}(h:env.cells.lookup y=some cp):closureFor { kind:=.function,names:=[(x,.local),(y,.free),(g,.globalImplicit)],isGenerator:=false,isCoroutine:=false,more:=[] } env=pure [(y,cp)]:=by
 have e0:cellOf env y=pure cp:=by unfold cellOf;rw[h]
 simp[closureFor,e0]
def jU (K:bEX)(H:Hp)(v:V)(c:V × Int):Prop:=∃p,v=.ref p/\SqT K H p [c.1,.int c.2]
theorem jU.same {K:bEX}{H H':Hp}{v:V}{c:V × Int}(e:Same H H')(h:jU K H v c):jU K H' v c:=by obtain⟨p,rfl,hp⟩:=h;exact⟨p,rfl,e.aV hp⟩
structure aF0 (kd:Str)(m:Int)(h0:Int)(cs:List (V × Int)):Prop where
 first:0<=h0/\h0<m
 each:∀c∈cs,cF kd c.1/\0<=c.2/\c.2<m
 up:(cs.map (·.1)).Pairwise λa b=>vlt a b=true
 few:cs.length<=7
theorem aBl {kd:Str}{v:V}(h:cF kd v):aKe v=true/\kindS v=kd:=by
 cases h with
 |num=>exact⟨rfl,rfl⟩
 |@wrd x hx h8=>refine⟨?_,rfl⟩;show (false || (decide (0<=x.length) && (decide (x.length<=8) && allIn x)))=true;rw[allIn_of hx,t6 h8];rfl
theorem yC {kd:Str}{v:V}(h:cF kd v):Vl v:=by
 cases h with
 |num=>exact .inl ⟨_,rfl⟩
 |wrd hx h8=>exact .inr ⟨_,rfl,hx,h8⟩
theorem aZa {a b:V}{H:Hp}{Q:VK}(h:vlt a b=true)(q:Q (.bl true) H):bA6 a b H Q:=by
 unfold vlt at h
 split at h
 ·exact .inl ⟨_,_,rfl,rfl,by rw[h];exact q⟩
 ·exact .inr ⟨_,_,rfl,rfl,by rw[h];exact q⟩
 ·cases h
def aM4 (K:bEX)(Pt:Addr):Sp:=λvs H Q _=>∃(v:V) (kd:Str) (m h0:Int) (cs:List (V × Int)),vs=[v,.str kd,.int m]/\qP K H (jU K H) v ((.non,h0)::cs)/\aOq kd/\aF0 kd m h0 cs/\H Pt=some (.tab qC)/\∀H',Same H H'->Q (.bl true) H'
theorem aIe (T:Txt w K mg){Pt:Addr}(C:aSa K mg "are_cuts" Pt)(hK:K.In base)(hbm:BM mg base)(nH:Ok P w K mg base 5 "is_tuple_of" ["thing","least","most","is_part"] (aN3 P w K mg base 3))(aTa:Ok P w K mg base 3 "is_cut" ["thing","houses"] (aTg K))
  (nG:Ok P w K mg base 3 "is_value_of" ["thing","kind"] (aKa K)):Ok P w K mg base 6 "are_cuts" ["thing","kind","houses"] (aM4 K Pt):=by
 refine Ok.bBk T.aJ9 C hK yN (λvs H Q E h=>?_) (λf c A outer s H vs Q E CH hr h=>?_)
 ·obtain⟨v,kd,m,h0,cs,rfl,_⟩:=h;rfl
 obtain⟨v,kd,m,h0,cs,rfl,⟨a,us,rfl,ha,hu⟩,hkd,ok,hP,q⟩:=h;have hu':=tG hr;refine⟨_,(aC (cA (VW.pt (fB (cG (bV (aK7 (iy:=2) nH hr (by rfl) (vv 0) aF (tQ (by rfl) T.aIx) rfl CH hbm ⟨⟨_,_,_,_,rfl⟩,λ_ _ _ _ _=>rfl,rfl,rfl,rfl,by decide +kernel,rfl,rfl,rfl,by decide +kernel,by decide +kernel,by decide +kernel,by decide +kernel,by decide +kernel⟩ rfl rfl rfl rfl (aSc rfl) rfl))) (dN (bC aGt (aP bH (aP bH (vv 0) aF (λ_ _=>rfl)) aF (λ_ _=>rfl)) kJ (aY _))))) (aG (aL gQ)) aZ) (aC (aGn (i0:=3) yN.nd rfl (by trivial) (N:=["cut"]) (by trivial) (lY (by decide +kernel)) rfl (rH (fY aMp (vv 0) (iK aF) lH)) (λcl s' H' fp=>⟨(aM (i:=0) (show (["cut"]:List Str).Nodup from by decide +kernel) rfl (Or.inl rfl)),gO,(aP (bO (K:=K)) (vv 0) aF (λ_ _=>rfl))⟩)) (aC (cA (cG (bV (aK (lU rfl) (by rfl) T.aBk uY (aB (cJ (N:=["low","kind"]) (by trivial) (dX (aD pA) rfl (by decide +kernel)) rfl (dR (vv 3)) (λcl s' H' fp=>⟨(aM (i:=0) (show (["low","kind"]:List Str).Nodup from by decide +kernel) rfl (Or.inl rfl)),gO,(aO (nG.mono (by decide)) hr (by rfl) (aB (vv 0) (aB (vv 1) aA)))⟩)) aA)))) (aG (aL gQ)) aZ) (aG (aL (aK (lU rfl) (by rfl) T.aBk uY (aB (cJ (N:=["low","after"]) (by trivial) (lY (by decide +kernel)) rfl (aRu (by rfl) T.aW1 (aB (vv 3) (aB (fY vY (vv 3) (iK aF) lH) aA))) (λcl s' H' fp=>⟨(sE (K:=K) (n:=2) rfl (bF (aM (i:=0) (show (["low","after"]:List Str).Nodup from by decide +kernel) rfl (Or.inl rfl)) (bF (aM (i:=1) (show (["low","after"]:List Str).Nodup from by decide +kernel) rfl (Or.inl rfl)) fM))),gO,(cQ aZq (vv 0) (vv 1) (aY _))⟩)) aA))))))),?_⟩;have lu:=hu.len;have few:=ok.few;rw[v7] at lu;refine⟨_,rfl,.int m,rfl,hP,λlf H2 hL hT=>⟨a,1,8,lf,us,_,_,_,_,_,_,_,rfl,hT _ _ ha,by lia,by lia,by decide,hL,aTa,λv hv H' R sm r=>?_,λH3 s3=>⟨s3,λH4 s4=>?_⟩⟩⟩
 ·obtain⟨c,hc,p,rfl,hp⟩:=hu.mem hv;have hb:0<=c.2/\c.2<m:=by
   rcases List.mem_cons.mp hc with rfl|hc
   ·exact ok.first
   ·exact (ok.each c hc).2
  exact⟨p,c.1,c.2,m,rfl,sm.aV (hT _ _ hp),hb.1,hb.2,λH2 s2=>r H2 s2⟩
 obtain⟨u0,ut,rfl,⟨p0,rfl,hp0⟩,hut⟩:∃u0 ut,us=u0::ut/\jU K H u0 (.non,h0)/\cU (jU K H) ut cs:=by
  cases hu with
  |cons r t=>exact⟨_,_,rfl,r,t⟩
 refine⟨_,rfl,bY ?_⟩;refine⟨_,rfl,a,_,0,_,rfl,rfl,s4.aV ha,at0 _ _,p0,_,0,_,rfl,rfl,s4.aV hp0,at0 _ _,rfl,_,rfl,bY ?_⟩;dsimp only[tK,cB,aEy,zA];have lt:=hut.len;refine wK [none] wR ⟨_,rfl,_,rfl,a,_,rfl,s4.aV ha,λts H5 s5 g5=>?_⟩;rw[show (1:Int)=((1:Nat):Int) from rfl,xJ,List.drop_one,List.tail_cons] at g5;refine⟨ts,rfl,⟨_,g5⟩,aKq (aFo λH' s'=>s'.aV g5) (wN λH' s'=>s'.aV g5) ⟨none,rfl⟩ (by lia) (cs.map (·.1)) (by rw[j9];lia) (λi x z ex ez H' R l sm r=>?_) λL H6 s6 nL gL=>?_⟩
 ·obtain⟨c',hc',p',rfl,hp'⟩:=cM hut ex;rw[v9,hc'] at ez;cases ez;exact⟨_,rfl,p',_,0,_,rfl,rfl,(s4.trans (s5.trans sm)).aV hp',at0 _ _,r H' (Same.refl _)⟩
 have allT:∀n:Nat,(List.replicate n true).all id=true:=λn=>List.all_eq_true.mpr λb hb=>(bBU hb);dsimp only[aUv,aZ2,tB,tCB,eQ,List.set];refine iV [none,some (.str kd)] (jT 1 (by decide +kernel) rfl rfl (by trivial)) ⟨_,rfl,L,rfl,⟨_,SqL.of gL⟩,aKq (aK1 λH' s'=>SqL.of (s' _ _ gL)) (aAh λH' s'=>SqL.of (s' _ _ gL)) ⟨none,rfl⟩ (by rw[j9];lia) (List.replicate cs.length (.bl true)) (by rw[bC7,j9]) (λi x z ex ez H' R l sm r=>?_) λD H7 s7 _ g7=>?_⟩
 ·rw[v9] at ex;obtain⟨c',hc',rfl⟩:=Option.map_eq_some_iff.mp ex;have ez':=bBU (v6 ez);subst ez';have hk:=(ok.each c' (v6 hc')).1;obtain⟨v1,v2⟩:=aBl hk;refine⟨_,rfl,_,rfl,c'.1,kd,rfl,(yC hk).th,λH2 s2=>?_⟩;rw[v1,v2,t6 rfl];exact r H2 s2
 refine⟨D,List.replicate cs.length true,rfl,SqL.of (by rw[g7,bDQ]),?_⟩;rw[allT];refine⟨_,rfl,bY ?_⟩;dsimp only[tK,sY,tCB,eQ];have gL7:=s7 _ _ gL;refine aSu [none,none] rR ⟨_,rfl,_,rfl,_,rfl,L,_,rfl,SqL.of gL7,λL2' H8 _ s8 g8=>?_⟩;rw[show (1:Int)=((1:Nat):Int) from rfl,xJ] at g8;refine⟨L,L2',_,_,rfl,SqL.of (s8 _ _ gL7),SqL.of g8,aG7 (SqL.of (s8 _ _ gL7)) (SqL.of g8) (by rw[bBW];lia) ⟨none,none,rfl⟩ (by rw[bBW,j9];lia) (List.replicate ((cs.map (·.1)).drop 1).length (.bl true)) (by rw[bC7]) (λi x y z ex ey ez H' R sm r=>?_) λD2 H9 s9 g9=>?_⟩
 ·have ez':=bBU (v6 ez);subst ez';rw[List.getElem?_drop] at ey;obtain⟨hi,rfl⟩:=List.getElem?_eq_some_iff.mp ex;obtain⟨hj,rfl⟩:=List.getElem?_eq_some_iff.mp ey;exact⟨_,rfl,_,rfl,aZa ((List.pairwise_iff_getElem.mp ok.up) i (1+i) hi hj (by lia)) (r H' (Same.refl _))⟩
 ·refine⟨D2,List.replicate ((cs.map (·.1)).drop 1).length true,rfl,SqL.of (by rw[g9,bDQ]),?_⟩;rw[allT];exact q H9 (s4.trans (s5.trans (s6.trans (s7.trans (s8.trans s9)))))
def aTf (hd:Hdr):Prop:=Good hd/\∀c∈hd,Nm c.1/\aOq c.2
def aHy (K:bEX):Sp:=λvs H Q _=>∃(v:V) (hd:Hdr),vs=[v]/\kI K H v hd/\aTf hd/\∀H',Same H H'->Q (.bl true) H'
def cC (K:bEX)(H:Hp)(D:Addr)(rs:List (List V)):Prop:=∃us,H D=some (.lst us)/\cU (cT K H) us rs
theorem cC.same {H H':Hp}{D:Addr}{rs:List (List V)}(e:Same H H')(h:cC K H D rs):cC K H' D rs:=by obtain⟨us,h1,h2⟩:=h;exact⟨us,e _ _ h1,h2.imp λ_ _ r=>r.same e⟩
theorem aIi (T:Txt w K mg)(aIu:Ok P w K mg base 3 "is_column" ["thing"] (aYf (aGi K)))(nH:Ok P w K mg base 4 "is_tuple_of" ["thing","least","most","is_part"] (aIc P w K mg base 3))
  (aGb:Ok P w K mg base 1 "are_unlike" ["names"] (aEh K)) (mD:Ok P w K mg base 1 "names_of" ["head"] (aEn K)):Ok P w K mg base 5 "is_head" ["thing"] (aHy K):=by
 refine Ok.ofV T.aOi aJ5 (λvs H Q E h=>?_) (λf cdv A outer s H vs Q E hr h=>?_)
 ·obtain⟨v,hd,rfl,_⟩:=h;rfl
 obtain⟨v,hd,rfl,⟨a,us,rfl,ha,hu⟩,hok,q⟩:=h;obtain⟨fa,mf,hf⟩:=aIu.held;have yP:∃u,mg "is_column"=some u/\RelV (.ref fa) u:=⟨_,mf,rfl⟩;refine⟨_,(aG (aL (gJ (aO (nH.mono (by decide)) hr (by rfl) (aB (vv 0) (aB aF (aB (tQ (by rfl) T.aA7) (aB (tQ (by rfl) yP) aA))))) (gK (aO (aGb.mono (by decide)) hr (by rfl) (aB (aO (mD.mono (by decide)) hr (by rfl) (aB (vv 0) aA)) aA)))))),?_⟩;have lu:=hu.len;have l1:=hok.1.2.1;have l2:=hok.1.2.2;have hall:us.all (λ_=>true)=true:=List.all_eq_true.mpr λ_ _=>rfl;have ht:aDk K (aGi K) 1 8 H (.ref a) true:=by
  have:=aDk.yes (K:=K) (R:=aGi K) (lo:=1) (hi:=8) (H:=H) (λ_=>true) ha (by lia) (by lia) (λx hx=>by
   obtain⟨c,hc,p,rfl,hp⟩:=hu.mem hx;obtain⟨hn,hk⟩:=hok.2 c hc;have hth:Th K H (.str c.2):=aL0 (by rcases hk with e|e <;> rw[e] <;> decide +kernel);have z:=aGi.two (K:=K) (H:=H) hp hn.th hth;have e:(nameB (.str c.1) && (isS (.str c.2) && inV (.str c.2) kinds))=true:=by rw[show nameB (.str c.1)=true from hn];rcases hk with e|e <;> rw[e] <;> decide +kernel
   rw[e] at z;exact z)
  rw[hall] at this;exact this
 refine⟨_,rfl,_,1,8,fa,_,_,_,rfl,by decide,hf,aO8 K,ht,λH1 s1=>⟨_,rfl,fV ?_⟩⟩;refine⟨_,rfl,.ref a,hd,rfl,kI.same s1 ⟨a,us,rfl,ha,hu⟩,by lia,λD H2 s2 hD=>?_⟩;refine⟨D,hd.map (·.1),rfl,SqL.of hD,by rw[j9];lia,λH3 s3=>?_⟩;rw[t6 ((aO1 _).mpr hok.1.1)];exact q H3 ((s1.trans s2).trans s3)
def pP (hd:Hdr)(r:List V):Prop:=cU (λc v=>cF c.2 v) hd r
def aM7 (K:bEX):Sp:=λvs H Q _=>∃(vh v:V) (hd:Hdr) (r:List V),vs=[vh,v]/\kI K H vh hd/\hd.length<=1000/\cT K H v r/\pP hd r/\∀H',Same H H'->Q (.bl true) H'
theorem aKu (T:Txt w K mg)(nG:Ok P w K mg base 3 "is_value_of" ["thing","kind"] (aKa K)):Ok P w K mg base 4 "is_row" ["head","thing"] (aM7 K):=by
 refine Ok.ofV T.aR6 aO3 (λvs H Q E h=>?_) (λf cdv A outer s H vs Q E hr h=>?_)
 ·obtain⟨vh,v,hd,r,rfl,_⟩:=h;rfl
 obtain⟨vh,v,hd,r,rfl,⟨b,cs,rfl,hb,hc⟩,hl,⟨a,rfl,ha⟩,hr',q⟩:=h;have lc:=hc.len;have lr:=hr'.len;refine⟨_,(aC (cA (VW.pt (fB (cG (bV (aK gZ (by rfl) T.bM bI (aB (vv 1) (aB (dJ (v:=.ty "tuple") (by rfl) T.iT eZ rfl) aA))))) (dN (bC yV (aK bA (by rfl) T.fJ cZ (aB (vv 1) aA)) (aK bA (by rfl) T.fJ cZ (aB (vv 0) aA)) (aY _))))) (aG (aL gQ)) aZ) (aG (aL (aK (lU rfl) (by rfl) T.aBk uY (aB (cJ (N:=["value","column"]) (by trivial) (lY (by decide +kernel)) rfl (aVs (by rfl) T.aW1 (aB (vv 1) (aB (vv 0) aA))) (λcl s' H' fp=>⟨(sE (K:=K) (n:=2) rfl (bF (aM (i:=0) (show (["value","column"]:List Str).Nodup from by decide +kernel) rfl (Or.inl rfl)) (bF (aM (i:=1) (show (["value","column"]:List Str).Nodup from by decide +kernel) rfl (Or.inl rfl)) fM))),gO,(aO (nG.mono (by decide)) hr (by rfl) (aB (vv 0) (aB (aP (bO (K:=K)) (vv 1) aF (λ_ _=>rfl)) aA)))⟩)) aA))))),?_⟩;refine⟨_,rfl,_,_,rfl,.tup ha,_,rfl,bY ?_⟩;refine⟨_,rfl,_,_,rfl,.inr ha,_,rfl,_,_,rfl,.inr hb,rfl,_,rfl,?_⟩;have e:(!decide (V.int (r.length:Nat)=V.int (cs.length:Nat)))=false:=by rw[show r.length=cs.length by lia];simp
 rw[e];refine bY ?_;dsimp only[tK,sY,tCB,eQ];refine aTd r cs (λ_ _=>.bl true) [none,none] rR (small (by lia)) (by lia) ha hb (λR r=>⟨_,rfl,_,rfl,r⟩) (λi x c ex ec H' R l1 l2 sm r'=>?_) rfl rfl λD H' sm hD=>?_
 ·obtain⟨c',hc',p,rfl,hp⟩:=cM hc ec;obtain⟨x',hx',hk⟩:=cM hr' hc';rw[ex] at hx';cases hx';obtain⟨v1,v2⟩:=aBl hk;refine⟨_,rfl,_,rfl,p,_,1,_,rfl,rfl,sm.aV hp,at1 _ _ _,x,c'.2,rfl,(yC hk).th,λH1 s1=>?_⟩;rw[v1,v2,t6 rfl];exact r' H1 s1
 ·have ez:List.zipWith (λ_ _:V=>V.bl true) r cs=(List.replicate r.length true).map V.bl:=by rw[bDQ];refine List.eq_replicate_iff.mpr ⟨by rw[bEI];lia,λb hb'=>?_⟩;obtain⟨i,hi,rfl⟩:=bBC hb';rw[List.getElem_zipWith]
  refine⟨D,List.replicate r.length true,rfl,SqL.of (by rw[hD,ez]),?_⟩;rw[show (List.replicate r.length true).all id=true from List.all_eq_true.mpr λb hb'=>bBU hb'];exact q H' sm
def aI2 (K:bEX):Sp:=λvs H Q _=>∃(vh:V) (hd:Hdr) (n:Str),vs=[vh,.str n]/\kI K H vh hd/\hd.length<=1000/\Nm n/\n∈hd.map (·.1)/\∀H',Same H H'->Q (.bl true) H'
theorem zN (T:Txt w K mg)(jL:Ok P w K mg base 2 "is_name" ["thing"] (aC3 K nameB))(mD:Ok P w K mg base 1 "names_of" ["head"] (aEn K)):Ok P w K mg base 3 "is_column_in" ["head","thing"] (aI2 K):=by
 refine Ok.ofV T.aB4 zL (λvs H Q E h=>?_) (λf cdv A outer s H vs Q E hr h=>?_)
 ·obtain⟨vh,hd,n,rfl,_⟩:=h;rfl
 obtain⟨vh,hd,n,rfl,hI,hl,hn,hm,q⟩:=h;refine⟨_,(aG (aL (gJ (aO (jL.mono (by decide)) hr (by rfl) (aB (vv 1) aA)) (gK (cQ xR (vv 1) (aO (mD.mono (by decide)) hr (by rfl) (aB (vv 0) aA)) (by with_unfolding_all rfl)))))),?_⟩;refine⟨_,rfl,_,rfl,hn.th,λH1 s1=>⟨_,rfl,?_⟩⟩;rw[show nameB (.str n)=true from hn];refine fV ⟨_,rfl,_,rfl,vh,hd,rfl,hI.same s1,hl,λD H2 s2 hD=>?_⟩;refine⟨D,_,rfl,.inl (SqL.of hD),rfl,aHi,?_⟩;show Q (.bl (inV (.str n) _)) H2;rw[aOb,t6 hm];exact q H2 (s1.trans s2)
inductive Plc where
 |copies
 |keys (n:Str)
 |spans (n:Str) (h0:Int) (cs:List (V × Int))
def qQ (K:bEX)(H:Hp)(v:V):Plc->Prop
 |.copies=>∃a,v=.ref a/\SqT K H a [.str "copies"]
 |.keys n=>∃a,v=.ref a/\SqT K H a [.str "keys",.str n]
 |.spans n h0 cs=>∃a vc,v=.ref a/\SqT K H a [.str "spans",.str n,vc]/\qP K H (jU K H) vc ((.non,h0)::cs)
theorem qQ.same {K:bEX}{H H':Hp}{v:V}{pl:Plc}(e:Same H H')(h:qQ K H v pl):qQ K H' v pl:=by
 cases pl with
 |copies=>obtain⟨a,rfl,ha⟩:=h;exact⟨a,rfl,e.aV ha⟩
 |keys n=>obtain⟨a,rfl,ha⟩:=h;exact⟨a,rfl,e.aV ha⟩
 |spans n h0 cs=>obtain⟨a,vc,rfl,ha,hc⟩:=h;exact⟨a,vc,rfl,e.aV ha,qP.same e (λ_ _ q=>q.same e) hc⟩
def aUs (hd:Hdr)(m:Int):Plc->Prop
 |.copies=>True
 |.keys n=>Nm n/\∃k,look hd n=some k
 |.spans n h0 cs=>Nm n/\∃k,look hd n=some k/\aOq k/\aF0 k m h0 cs
theorem aBb {hd:Hdr}{n k:Str}(h:look hd n=some k):n∈hd.map (·.1):=by obtain⟨i,h1,_⟩:=aFj h;exact List.mem_map.mpr ⟨_,v6 h1,rfl⟩
theorem nQ {c:Bool}{p q:Prop}(h:c=true)(hp:p):if c=true then p else q:=by rw[if_pos h];exact hp
theorem gY {c:Bool}{p q:Prop}(h:c=false)(hq:q):if c=true then p else q:=by rw[if_neg (by rw[h];exact t8)];exact hq
def aWq (K:bEX)(Pt:Addr):Sp:=λvs H Q _=>∃(v vh:V) (m:Int) (hd:Hdr) (pl:Plc),vs=[v,vh,.int m]/\qQ K H v pl/\kI K H vh hd/\hd.length<=1000/\aUs hd m pl/\H Pt=some (.tab qC)/\∀H',Same H H'->Q (.bl true) H'
theorem th8 {K:bEX}{H:Hp}{x:Str}(h:x.length<=8):Th K H (.str x):=aL0 h
theorem aCq (T:Txt w K mg){Pt:Addr}(jV:Ok P w K mg base 1 "is_one_of" ["thing","texts"] (aKi K))(qD:Ok P w K mg base 3 "is_column_in" ["head","thing"] (aI2 K))(aPx:Ok P w K mg base 1 "kind_in" ["head","name"] (aS6 K))(aLz:Ok P w K mg base 6 "are_cuts" ["thing","kind","houses"] (aM4 K Pt)):Ok P w K mg base 7 "is_placing" ["thing","head","houses"] (aWq K Pt):=by
 refine Ok.ofV T.aEk aCv (λvs H Q E h=>?_) (λf cdv A outer s H vs Q E hr h=>?_)
 ·obtain⟨v,vh,m,hd,pl,rfl,_⟩:=h;rfl
 obtain⟨v,vh,m,hd,pl,rfl,hpl,hI,hl,hok,hP,q⟩:=h;refine⟨_,(aC (cA (VW.pt (fB (cG (bV (aK gZ (by rfl) T.bM bI (aB (vv 0) (aB (dJ (v:=.ty "tuple") (by rfl) T.iT eZ rfl) aA))))) (dN (bC fK (aK bA (by rfl) T.fJ cZ (aB (vv 0) aA)) aF (aY _))))) (aG (aL gQ)) aZ) (aC (cA (bV (aO (jV.mono (by decide)) hr (by rfl) (aB (aP bH (vv 0) aF (λ_ _=>rfl)) (aB (dZ (aB bN aA)) aA)))) (aG (aL (cQ fK (aK bA (by rfl) T.fJ cZ (aB (vv 0) aA)) aF (aY _)))) aZ) (aC (cA (bV (aO (jV.mono (by decide)) hr (by rfl) (aB (aP bH (vv 0) aF (λ_ _=>rfl)) (aB (dZ (aB bN aA)) aA)))) (aG (aL (gJ (cQ fK (aK bA (by rfl) T.fJ cZ (aB (vv 0) aA)) aF (aY _)) (gK (aO (qD.mono (by decide)) hr (by rfl) (aB (vv 1) (aB (aP bH (vv 0) aF (λ_ _=>rfl)) aA))))))) aZ) (aC (cA (VW.pt (fB (cG (bV (aO (jV.mono (by decide)) hr (by rfl) (aB (aP bH (vv 0) aF (λ_ _=>rfl)) (aB (dZ (aB bN aA)) aA))))) (fB (bC yV (aK bA (by rfl) T.fJ cZ (aB (vv 0) aA)) aF (aY _)) (dN (cG (bV (aO (qD.mono (by decide)) hr (by rfl) (aB (vv 1) (aB (aP bH (vv 0) aF (λ_ _=>rfl)) aA))))))))) (aG (aL gQ)) aZ) (aG (aL (aO (aLz.mono (by decide)) hr (by rfl) (aB (aP bH (vv 0) aF (λ_ _=>rfl)) (aB (aO (aPx.mono (by decide)) hr (by rfl) (aB (vv 1) (aB (aP bH (vv 0) aF (λ_ _=>rfl)) aA))) (aB (vv 2) aA)))))))))),?_⟩;cases pl with
 |copies=>obtain⟨a,rfl,ha⟩:=hpl;refine⟨_,rfl,_,_,rfl,.tup ha,_,rfl,bY ⟨_,rfl,_,_,rfl,.inr ha,rfl,_,rfl,bY ?_⟩⟩;refine⟨_,rfl,a,_,0,_,rfl,rfl,ha,at0 _ _,by show 1<=sizeLine;decide,λt1 H1 _ s1 g1=>⟨_,t1,_,rfl,th8 (by decide +kernel),SqT.of g1,rfl,_,rfl,nQ (by decide +kernel) ?_⟩⟩;refine⟨_,rfl,_,_,rfl,.inr (s1.aV ha),rfl,?_⟩;exact q H1 s1
 |keys n=>obtain⟨a,rfl,ha⟩:=hpl;obtain⟨hn,k,hk⟩:=hok;refine⟨_,rfl,_,_,rfl,.tup ha,_,rfl,bY ⟨_,rfl,_,_,rfl,.inr ha,rfl,_,rfl,bY ?_⟩⟩;refine⟨_,rfl,a,_,0,_,rfl,rfl,ha,at0 _ _,by show 1<=sizeLine;decide,λt1 H1 _ s1 g1=>⟨_,t1,_,rfl,th8 (by decide +kernel),SqT.of g1,rfl,_,rfl,gY (by decide +kernel) ?_⟩⟩;refine⟨_,rfl,a,_,0,_,rfl,rfl,s1.aV ha,at0 _ _,by show 1<=sizeLine;decide,λt2 H2 _ s2 g2=>⟨_,t2,_,rfl,th8 (by decide +kernel),SqT.of g2,rfl,_,rfl,nQ (by decide +kernel) ?_⟩⟩;have s12:=s1.trans s2;refine⟨_,rfl,_,_,rfl,.inr (s12.aV ha),rfl,_,rfl,fV ?_⟩;exact⟨_,rfl,_,rfl,a,_,1,_,rfl,rfl,s12.aV ha,at1 _ _ _,vh,hd,n,rfl,hI.same s12,hl,hn,aBb hk,λH' s'=>q H' (s12.trans s')⟩
 |spans n h0 cs=>obtain⟨a,vc,rfl,ha,hc⟩:=hpl;obtain⟨hn,k,hk,hkd,hcs⟩:=hok;refine⟨_,rfl,_,_,rfl,.tup ha,_,rfl,bY ⟨_,rfl,_,_,rfl,.inr ha,rfl,_,rfl,bY ?_⟩⟩;refine⟨_,rfl,a,_,0,_,rfl,rfl,ha,at0 _ _,by show 1<=sizeLine;decide,λt1 H1 _ s1 g1=>⟨_,t1,_,rfl,th8 (by decide +kernel),SqT.of g1,rfl,_,rfl,gY (by decide +kernel) ?_⟩⟩;refine⟨_,rfl,a,_,0,_,rfl,rfl,s1.aV ha,at0 _ _,by show 1<=sizeLine;decide,λt2 H2 _ s2 g2=>⟨_,t2,_,rfl,th8 (by decide +kernel),SqT.of g2,rfl,_,rfl,gY (by decide +kernel) ?_⟩⟩;have s12:=s1.trans s2;refine⟨_,rfl,a,_,0,_,rfl,rfl,s12.aV ha,at0 _ _,by show 1<=sizeLine;decide,λt3 H3 _ s3 g3=>⟨_,t3,_,rfl,th8 (by decide +kernel),SqT.of g3,rfl,_,rfl,gY (by decide +kernel) ?_⟩⟩;have s13:=s12.trans s3;refine⟨_,rfl,_,_,rfl,.inr (s13.aV ha),rfl,_,rfl,bY ?_⟩;refine⟨_,rfl,_,rfl,a,_,1,_,rfl,rfl,s13.aV ha,at1 _ _ _,vh,hd,n,rfl,hI.same s13,hl,hn,aBb hk,λH4 s4=>⟨_,rfl,bY ?_⟩⟩;have s14:=s13.trans s4;refine⟨_,rfl,a,_,2,_,rfl,rfl,s14.aV ha,at2 _ _ _ _,_,rfl,_,rfl,a,_,1,_,rfl,rfl,s14.aV ha,at1 _ _ _,vh,n,hd,k,rfl,hI.same s14,hk,_,rfl,?_⟩;exact⟨vc,k,m,h0,cs,rfl,qP.same s14 (λ_ _ z=>z.same s14) hc,hkd,hcs,s14 _ _ hP,λH' s'=>q H' (s14.trans s')⟩
def aHd (K:bEX):Sp:=λvs H Q _=>∃(L:Addr) (vh:V) (hd:Hdr) (rows:List (List V)),vs=[.ref L,vh]/\kI K H vh hd/\hd.length<=1000/\cC K H L rows/\rows.length<=1000/\(∀r∈rows,pP hd r)/\∀H',Same H H'->Q (.bl true) H'
theorem aI9 (T:Txt w K mg)(aRx:Ok P w K mg base 4 "is_row" ["head","thing"] (aM7 K)):Ok P w K mg base 5 "are_rows" ["thing","head"] (aHd K):=by
 refine Ok.ofV T.aLf aG4 (λvs H Q E h=>?_) (λf cdv A outer s H vs Q E hr h=>?_)
 ·obtain⟨L,vh,hd,rows,rfl,_⟩:=h;rfl
 obtain⟨L,vh,hd,rows,rfl,hI,hl,⟨us,gL,hu⟩,hn,hok,q⟩:=h;refine⟨_,(aG (aL (gJ (aK aO9 (by rfl) T.bM bI (aB (vv 0) (aB (dJ (v:=.ty "list") (by rfl) T.aEv zV rfl) aA))) (gK (aK (lU rfl) (by rfl) T.aBk uY (aB (cJ (N:=["row","head"]) (by trivial) (dX (aD oR) rfl (by decide +kernel)) rfl (dR (vv 0)) (λcl s' H' fp=>⟨(aM (i:=0) (show (["row","head"]:List Str).Nodup from by decide +kernel) rfl (Or.inl rfl)),gO,(aO (aRx.mono (by decide)) hr (by rfl) (aB (vv 1) (aB (vv 0) aA)))⟩)) aA)))))),?_⟩;have lu:=hu.len;refine⟨_,rfl,L,us,rfl,SqL.of gL,_,rfl,fV ?_⟩;dsimp only[sY,tCB,eQ];refine iV [none,some vh] (jT 1 (by decide +kernel) rfl rfl (by trivial)) ⟨_,rfl,L,rfl,⟨_,SqL.of gL⟩,aKq (aK1 λH' s'=>SqL.of (s' _ _ gL)) (aAh λH' s'=>SqL.of (s' _ _ gL)) ⟨none,rfl⟩ (by lia) (List.replicate us.length (.bl true)) (by rw[bC7]) (λi x z ex ez H' R l sm r=>?_) λD H7 s7 _ g7=>?_⟩
 ·have ez':=bBU (v6 ez);subst ez';obtain⟨r',hr',hx⟩:=cM hu ex;exact⟨_,rfl,_,rfl,vh,x,hd,r',rfl,hI.same sm,hl,hx.same sm,hok r' (v6 hr'),λH2 s2=>r H2 s2⟩
 ·refine⟨D,List.replicate us.length true,rfl,SqL.of (by rw[g7,bDQ]),?_⟩;rw[show (List.replicate us.length true).all id=true from List.all_eq_true.mpr λb hb'=>bBU hb'];exact q H7 s7
structure Tb where
 hd:Hdr
 pl:Plc
 rows:List (List V)
def rC (K:bEX)(H:Hp)(v:V)(vh vp:V)(L:Addr)(t:Tb):Prop:=∃a,v=.ref a/\SqT K H a [vh,vp,.ref L]/\kI K H vh t.hd/\qQ K H vp t.pl/\cC K H L t.rows
structure pD (m:Int)(t:Tb):Prop where
 hd:aTf t.hd
 pl:aUs t.hd m t.pl
 few:t.rows.length<=60
 rows:∀r∈t.rows,pP t.hd r
def aW4 (K:bEX)(Pt:Addr):Sp:=λvs H Q _=>∃(v vh vp:V) (L:Addr) (m:Int) (t:Tb),vs=[v,.int m]/\rC K H v vh vp L t/\pD m t/\H Pt=some (.tab qC)/\∀H',Same H H'->Q (.bl true) H'
theorem aJr (T:Txt w K mg){Pt:Addr}(aPe:Ok P w K mg base 5 "is_head" ["thing"] (aHy K))(aF3:Ok P w K mg base 7 "is_placing" ["thing","head","houses"] (aWq K Pt))(aKn:Ok P w K mg base 5 "are_rows" ["thing","head"] (aHd K)):Ok P w K mg base 8 "is_table" ["thing","houses"] (aW4 K Pt):=by
 refine Ok.ofV T.aKm aJb (λvs H Q E h=>?_) (λf cdv A outer s H vs Q E hr h=>?_)
 ·obtain⟨v,vh,vp,L,m,t,rfl,_⟩:=h;rfl
 obtain⟨v,vh,vp,L,m,t,rfl,⟨a,rfl,ha,hI,hpl,hR⟩,ok,hP,q⟩:=h;have l8:=ok.hd.1.2.2;have few:=ok.few;refine⟨_,(aC (cA (VW.pt (fB (cG (bV (aK gZ (by rfl) T.bM bI (aB (vv 0) (aB (dJ (v:=.ty "tuple") (by rfl) T.iT eZ rfl) aA))))) (fB (bC yV (aK bA (by rfl) T.fJ cZ (aB (vv 0) aA)) aF (aY _)) (dN (cG (bV (aO (aPe.mono (by decide)) hr (by rfl) (aB (aP bH (vv 0) aF (λ_ _=>rfl)) aA)))))))) (aG (aL gQ)) aZ) (aG (aL (gJ (aO (aF3.mono (by decide)) hr (by rfl) (aB (aP bH (vv 0) aF (λ_ _=>rfl)) (aB (aP bH (vv 0) aF (λ_ _=>rfl)) (aB (vv 1) aA)))) (gK (aO (aKn.mono (by decide)) hr (by rfl) (aB (aP bH (vv 0) aF (λ_ _=>rfl)) (aB (aP bH (vv 0) aF (λ_ _=>rfl)) aA)))))))),?_⟩;refine⟨_,rfl,_,_,rfl,.tup ha,_,rfl,bY ⟨_,rfl,_,_,rfl,.inr ha,rfl,_,rfl,bY ?_⟩⟩;refine⟨_,rfl,a,_,0,_,rfl,rfl,ha,at0 _ _,vh,t.hd,rfl,hI,ok.hd,λH1 s1=>⟨_,rfl,bY ?_⟩⟩;refine⟨_,rfl,a,_,1,_,rfl,rfl,s1.aV ha,at1 _ _ _,_,rfl,a,_,0,_,rfl,rfl,s1.aV ha,at0 _ _,_,rfl,vp,vh,m,t.hd,t.pl,rfl,hpl.same s1,hI.same s1,by lia,ok.pl,s1 _ _ hP,λH2 s2=>⟨_,rfl,fV ?_⟩⟩;have s12:=s1.trans s2;exact⟨_,rfl,a,_,2,_,rfl,rfl,s12.aV ha,at2 _ _ _ _,_,rfl,a,_,0,_,rfl,rfl,s12.aV ha,at0 _ _,L,vh,t.hd,t.rows,rfl,hI.same s12,by lia,hR.same s12,by lia,ok.rows,λH3 s3=>q H3 (s12.trans s3)⟩
end
end My
namespace L2
open PySem PySem.Spec PyProof.Rows
section
variable {X:Cx}{bE1:bEZ}{σ:L2.St}{H:Hp}{s:Shared}{d:Addr}{o:Obj}{kvs:List (Key × V)}
theorem aVz {u u':HO}(ok:HOk X.prog X.w H s.heap)(hd:H d=some u)(nt:∀xs,u≠.tup xs)(no:∀a,u≠.own a)(h:dH X.prog X.w H s.heap d u'):HOk X.prog X.w (upd H d u') s.heap:=by
 have st:∀{b v},dH X.prog X.w H s.heap b v->dH X.prog X.w (upd H d u') s.heap b v:=λ{b v} z=>z.stay (λ_ _ _ q=>q) (λc q=>by
  rw[aN (λe=>by subst e;rw[hd] at q;exact no _ (bAN q))];exact q) λc xs q=>by
  rw[aN (λe=>by subst e;rw[hd] at q;exact nt _ (bAN q))];exact q
 intro b v e;by_cases hb:b=d
 ·subst hb;rw[aH] at e;cases e;exact st h
 ·rw[aN hb] at e;exact st (ok b v e)
theorem Inv.setd {u u':HO}(I:Inv X bE1 σ H s)(hd:H d=some u)(nt:∀xs,u≠.tup xs)(no:∀a,u≠.own a)(nb:∀ps,u≠.tbl ps)(nf:∀ob v,X.H₀ d≠some (.frz ob v))(h:dH X.prog X.w H s.heap d u'):Inv X bE1 σ (upd H d u') s:=by
 have ne:∀{b},H b=none->upd H d u' b=none:=λ{b} e=>by rw[aN (λz=>by subst z;rw[hd] at e;cases e)];exact e
 refine⟨I.ok,I.os,I.bare,⟨I.base.keep,I.base.slot,λb ob e n hx=>ne (I.base.free b ob e n hx),I.base.there,λb xs e=>?_,λb ob v e=>?_,λb ps e=>?_⟩,I.loc,I.cell,ne I.free,λx c e=>ne (I.freeC x c e),λp hp=>?_,aVz I.hok hd nt no h,I.len⟩
 ·have q:=I.base.tups b xs e;rw[aN (λz=>by subst z;rw[hd] at q;exact nt _ (bAN q))];exact q
 ·have q:=I.base.frzs b ob v e;rw[aN (λz=>by subst z;exact nf _ _ e)];exact q
 ·obtain⟨more,q⟩:=I.base.tbls b ps e;refine⟨more,?_⟩;rw[aN (λz=>by subst z;rw[hd] at q;exact nb _ (bAN q))];exact q
 ·obtain⟨h1,h2,h3⟩:=I.pin p hp;exact⟨h1,ne h2,h3⟩
end
theorem aNd {P:Program}{w:World}{H:Hp}{h:Heap}{d:Addr}{o:Obj}{kvs:List (Key × V)}{es:Array DictEntry}{ep:Nat}(hep:o.data=.dict es ep)(ok:dH P w H h d (.frz o (.dK kvs))):∃vs,KV kvs vs/\h.DictAt (bL P w) d vs ep:=by obtain⟨ho,_,_,vs,rel,⟨o',es',ep',h1,h2,h3,h4⟩⟩:=ok;rw[ho] at h1;cases h1;rw[hep] at h3;cases h3;exact⟨vs,rel,o,es,ho,h2,hep,h4⟩
section
variable {X:Cx}{tg:Expr}
def bA1 (d:Addr)(kvs:List (Key × V))(D:Ends):Ends:={ nx:=fun σ H=>(∃o,H d=some (.frz o (.dK kvs)))/\D.nx σ (upd H d (.dK kvs)),rt:=λv H=>(∃o,H d=some (.frz o (.dK kvs)))/\D.rt v (upd H d (.dK kvs)) }
def bBf (X:Cx)(t:TS):TS:=λD σ H=>∃d kvs,H d=some (.dK kvs)/\((∀ob u,X.H₀ d≠some (.frz ob u))->t (bA1 d kvs D) σ H)
theorem aWa {st:Stmt}{t:TS}(h:VS X st t):VS X st (bBf X t):=⟨by
 intro bE1 s σ H D I ⟨d,kvs,hd,q⟩;have nf:∀ob u,X.H₀ d≠some (.frz ob u):=λob u e=>by have:=I.base.frzs d ob u e;rw[hd] at this;cases this
 have thaw:∀{σ' H' s' o},Inv X bE1 σ' H' s'->H' d=some (.frz o (.dK kvs))->Inv X bE1 σ' (upd H' d (.dK kvs)) s':=λ{σ' H' s' o} I' ho=>I'.setd ho (λ_ z=>by cases z) (λ_ z=>by cases z) (λ_ z=>by cases z) nf (I'.hok d _ ho).2;refine thn (h.1 bE1 s σ H _ I (q nf)) λf s' hf=>?_;cases f with
 |next=>obtain⟨σ',H',I',⟨o,ho⟩,q'⟩:=hf;exact⟨σ',_,thaw I' ho,q'⟩
 |brk=>obtain⟨_,_,_,z⟩:=hf;exact z.elim
 |cont=>obtain⟨_,_,_,z⟩:=hf;exact z.elim
 |ret u=>obtain⟨v,σ',H',I',r,⟨o,ho⟩,q'⟩:=hf;exact⟨v,σ',_,thaw I' ho,r,q'⟩⟩
end
end L2
namespace PySem
section
variable {prog:Program}{w:World}{K:Type}[DecidableEq K]{knd:HeapKind prog w K}{A:Around}{E:bEY}{s:Shared}
end
end PySem
namespace L2
open PySem PySem.Spec PyProof.Rows
section
variable {X:Cx}
end
end L2
namespace PySem
section
variable {prog:Program}{w:World}{A:Around}{E:bEY}{s:Shared}
end
end PySem
namespace L2
open PySem PySem.Spec PyProof.Rows
section
variable {X:Cx}{tg:Expr}
end
end L2
namespace PySem
section
variable {prog:Program}{w:World}{A:Around}{E:bEY}{s:Shared}
theorem aVd {it d:Addr}{i ep:Nat}{od:Obj}{es:Array DictEntry}{k0 v0:Value}{Q:Option Value->Shared->Prop}(ki:IsItemIter s.heap it d i es.size ep k0 v0)(gd:s.heap.get? d=some od)(dd:od.data=.dict es ep)(lt:i<es.size)
  (q:∀h',IsItemIterOut h' it d (i+1) es.size ep es[i].key es[i].val s.heap.objs.size->h'.get? s.heap.objs.size=some { cls:=.type "tuple",data:=.seq #[es[i].key,es[i].val] }->h'.objs.size=s.heap.objs.size+1 ->
   (∀b o,b≠it->s.heap.get? b=some o->h'.get? b=some o)->Q (some (.ref s.heap.objs.size)) { s with heap:=h' }):wpAny (model prog w) A (pyNext (.ref it)) Q E s:=by
 have ty:s.TypeIs (.ref it) "dict_itemiterator":=⟨_,ki,rfl⟩;have li:it<s.heap.objs.size:=m8 ki;unfold pyNext;refine c7 (bBY (bAF (name:="__next__") ty F.slot_dict_itemiterator_next (bAD F.slot_dict_itemiterator_next ty F.entry_dict_itemiterator_next (c7 (d9 (c7 (c7 ?_)))) (F.args_dict_itemiterator_next_1 _))));refine c7 (bCE ty (d9 (c7 (bDC ki rfl ?_))));rw[show Builtin.Dict_items.ownsTuple "dict_itemiterator"=true from by decide];simp only[if_true];have nz:¬ ((Value.ref d == Value.none)=true):=t8;show wpAny _ _ (ite ((Value.ref d == Value.none)=true) _ _) _ _ _;rw[if_neg nz];refine c7 (d9 (c7 (bET gd dd ?_)));rw[if_neg (by simp)];refine c7 (d9 (c7 (wpAny_dictEpoch gd dd ?_)));rw[if_neg (by simp)];have ni:¬ ((i:Int)<0):=by lia
 refine d9 ?_;simp only[ni,if_false,bAY,m9 lt];refine c7 (c7 (bCE ty (d9 (c7 (bD3 ty ?_)))));show wpAny _ _ (setField (.ref it) 3 (rawInt ((i:Int)+1)) >>= _) _ _ s;refine c7 (bAH ki (by simp) λh1 e1 s1=>?_);have f1:IsItemIter h1 it d (i+1) es.size ep k0 v0:=by
  have z:((i+1:Nat):Int)=(i:Int)+1:=by lia
  unfold IsItemIter;rw[z];simpa [rawInt] using e1
 have ty1:Shared.TypeIs { s with heap:=h1 } (.ref it) "dict_itemiterator":=⟨_,f1,rfl⟩;refine c7 (bAQ (c7 (bD3 ty1 (c7 (bD3 ty1 ?_)))));have sz1:h1.objs.size=s.heap.objs.size:=s1.1;show wpAny _ _ (Builtin.Dict_items.pairFromOwner (.ref it) 6 es[i].key es[i].val) _ _ { s with heap:=h1 };unfold Builtin.Dict_items.pairFromOwner;refine c7 (bDY ?_);have f2:IsItemIter (h1.push { cls:=.type "tuple",data:=.seq #[es[i].key,es[i].val] }) it d (i+1) es.size ep k0 v0:=d8 _ f1;have t2:(h1.push { cls:=.type "tuple",data:=.seq #[es[i].key,es[i].val] }).get? s.heap.objs.size=some { cls:=.type "tuple",data:=.seq #[es[i].key,es[i].val] }:=by rw[<-sz1];exact j5 _ rfl
 have sz2:(h1.push { cls:=.type "tuple",data:=.seq #[es[i].key,es[i].val] }).objs.size=s.heap.objs.size+1:=by rw[bAX,sz1]
 have k2:∀b o,b≠it->s.heap.get? b=some o->(h1.push { cls:=.type "tuple",data:=.seq #[es[i].key,es[i].val] }).get? b=some o:=λb o hb e=>d8 _ (s1.extBut b o hb e);rw[show ({ s with heap:=h1 }:Shared).heap.objs.size=s.heap.objs.size from sz1];show wpAny _ _ (Builtin.Dict_items.ownedTupleIsFree (.ref it) >>= _) _ _ { s with heap:=h1.push { cls:=.type "tuple",data:=.seq #[es[i].key,es[i].val] } };generalize h1.push { cls:=.type "tuple",data:=.seq #[es[i].key,es[i].val] }=h2 at f2 t2 sz2 k2 ⊢;unfold Builtin.Dict_items.ownedTupleIsFree;refine c7 (c7 (bAI f2 rfl (x:=.none) rfl (d9 ?_)));simp only[if_true];refine c7 (bAI f2 rfl (x:=k0) rfl (c7 (bAI f2 rfl (x:=v0) rfl (c7 (bAH f2 (by simp) λh3 e3 s3=>?_)))));have f3:IsItemIter h3 it d (i+1) es.size ep es[i].key v0:=e3;refine c7 (bAH f3 (by simp) λh4 e4 s4=>?_);have f4:IsItemIter h4 it d (i+1) es.size ep es[i].key es[i].val:=e4;refine c7 (bAH f4 (by simp) λh5 e5 s5=>?_);have f5:IsItemIterOut h5 it d (i+1) es.size ep es[i].key es[i].val s.heap.objs.size:=e5;refine c7 (bAH f5 (by simp) λh6 e6 s6=>?_);have f6:IsItemIterOut h6 it d (i+1) es.size ep es[i].key es[i].val s.heap.objs.size:=e6;have go:∀b o,b≠it->h2.get? b=some o->h6.get? b=some o:=λb o hb e=>s6.extBut b o hb (s5.extBut b o hb (s4.extBut b o hb (s3.extBut b o hb e)));have sz6:h6.objs.size=s.heap.objs.size+1:=by have a3:h3.objs.size=h2.objs.size:=s3.1;have a4:h4.objs.size=h3.objs.size:=s4.1;have a5:h5.objs.size=h4.objs.size:=s5.1;have a6:h6.objs.size=h5.objs.size:=s6.1;lia
 exact c7 (bEG (d9 (d9 ⟨_,rfl,d9 (q h6 f6 (go _ _ (bCL li) t2) sz6 λb o hb e=>go b o hb (k2 b o hb e))⟩)))
theorem aKt {it d:Addr}{ep:Nat}{od:Obj}{es:Array DictEntry}{k0 v0:Value}{Q:Option Value->Shared->Prop}(hh:A.handled=none)(ki:IsItemIter s.heap it d es.size es.size ep k0 v0)(gd:s.heap.get? d=some od)(dd:od.data=.dict es ep)
  (q:∀h',Heap.ExtBut it s.heap h'->Q none { s with heap:=h' }):wpAny (model prog w) A (pyNext (.ref it)) Q E s:=by
 have ty:s.TypeIs (.ref it) "dict_itemiterator":=⟨_,ki,rfl⟩;unfold pyNext;refine c7 (bBY (bAF (name:="__next__") ty F.slot_dict_itemiterator_next (bAD F.slot_dict_itemiterator_next ty F.entry_dict_itemiterator_next (c7 (d9 (c7 (c7 ?_)))) (F.args_dict_itemiterator_next_1 _))));refine c7 (bCE ty (d9 (c7 (bDC ki rfl ?_))));rw[show Builtin.Dict_items.ownsTuple "dict_itemiterator"=true from by decide];simp only[if_true];have nz:¬ ((Value.ref d == Value.none)=true):=t8;show wpAny _ _ (ite ((Value.ref d == Value.none)=true) _ _) _ _ _;rw[if_neg nz];refine c7 (d9 (c7 (bET gd dd ?_)));rw[if_neg (by simp)];refine c7 (d9 (c7 (wpAny_dictEpoch gd dd ?_)));rw[if_neg (by simp)];have ni:¬ ((es.size:Int)<0):=by lia
 refine d9 ?_;simp only[ni,if_false,bAY,bB6 (j0 es.size)];refine c7 (c7 (bCE ty (d9 ?_)));show wpAny _ _ (setField (.ref it) 2 .none >>= _) _ _ s;refine c7 (bCZ ki rfl (by simp) ?_);show wpAny _ _ (newExc (.type "StopIteration") [] >>= _) _ _ _;refine c7 ?_;simp only[newExc,newTuple,raiseNew];refine c7 (bAJ ?_ (by size_fits));refine c7 (m:=firstArgMember _ _) (bDT (a:=Value.none) (by simp only[firstArgMember];rfl) ?_);refine bAJ (c7 (bED ?_)) (by size_fits);rw[show A.in1.handled=none from hh];refine c7 (d9 (bER ?_));refine c7 (bCO (T:="StopIteration") (b:=true) ⟨_,j5 _ rfl,rfl⟩ isSubtype_stop ?_);exact d9 (q _ (((bAZ ..).extBut.push _).push _))
theorem aQd {d:Addr}{Q:bEY}(nd:(d == sysModules)=false)(ty:s.TypeIs (.ref d) "dict")
  (q:Q (.ref s.heap.objs.size) { s with heap:=s.heap.push { cls:=.type "dict_items",data:=.fields #[.ref d] } }):wpAny (model prog w) A (call (.builtin "dict.items") [.ref d]) Q E s:=by
 refine bAD F.slot_dict_items ty F.entry_dict_items ?_ (F.args_dict_items_1 _);unfold Builtin.«dict.items» Builtin.Dict.noArgs;refine c7 (c7 (wpAny_notOrdered_dict ty ?_));show wpAny _ _ (pure d) _ _ s;refine d9 ?_;show wpAny _ _ (Builtin.Dict.showsAll d >>= _) _ _ _;unfold Builtin.Dict.showsAll;rw[if_neg (show ¬ (d == sysModules)=true by rw[nd];exact t8)];exact c7 (d9 (c7 (bAJ (d9 ⟨_,rfl,q⟩))))
theorem aIa {v d:Addr}{ep:Nat}{od:Obj}{es:Array DictEntry}{Q:bEY}(hv:s.heap.IsItemsView v d)(gd:s.heap.get? d=some od)(dd:od.data=.dict es ep)
  (q:Q (.ref s.heap.objs.size) { s with heap:=s.heap.push { cls:=.type "dict_itemiterator",data:=.fields #[.none,.bool false,.ref d,.int 0 0,.int es.size 0,.int ep 0,.none,.none] } }):wpAny (model prog w) A (pyIter (.ref v)) Q E s:=by
 obtain⟨ov,g1,g2,g3⟩:=id hv;refine bD4 hv.typeIs F.slot_dict_items_iter (bAD F.slot_dict_items_iter hv.typeIs F.entry_dict_items_iter ?_ (F.args_dict_items_iter_1 _));unfold Builtin.«dict_items.__iter__» Builtin.Dict_items.dictOf;refine c7 (d9 (c7 (c7 (bAI g1 g3 (x:=.ref d) rfl (d9 ?_)))));refine c7 ?_;unfold Builtin.Dict_items.newIterator;refine c7 (bET gd dd (c7 (wpAny_dictEpoch gd dd ?_)));rw[show Builtin.Dict_items.ownsTuple "dict_itemiterator"=true from by decide];simp only[if_true];refine bAJ (d9 ⟨_,rfl,"dict_itemiterator",_,⟨_,j5 _ rfl,rfl⟩,F.slot_dict_itemiterator_next.lookup,?_⟩) (by simp only[sizeOk,Builtin.Dict_items.ownedTupleFields,j7,bAG,v7,bCK,sizeLine_eq];lia);simpa [rawInt,Builtin.Dict_items.ownedTupleFields] using q
end
end PySem
namespace PySem
open Builtin in
theorem aB9:entryFor table "dict_itemiterator.__iter__"=some Builtin.«dict_keyiterator.__iter__»:=entryFor_alias (id':="dict_keyiterator.__iter__") (by kernel_rfl) rfl (by decide +kernel) (by kernel_rfl)
end PySem
namespace L2
open PySem PySem.Spec PyProof.Rows
section
variable {X:Cx}
end
def aKp (d:Addr)(o:Obj)(kvs:List (Key × V)):It:=
 ⟨λi H=>H d=some (.frz o (.dK kvs))/\i<kvs.length,λi H x H'=>∃T kv,H T=none/\x=.ref T/\kvs[i]?=some kv/\H'=upd H T (.tup [kV kv.1,kv.2]),λi H=>H d=some (.frz o (.dK kvs))/\i=kvs.length⟩
theorem bA7 {kvs:List (Key × V)}{vs:List (Key × Value)}(r:KV kvs vs):∀{i:Nat} {kv:Key × V},kvs[i]?=some kv->∃q,vs[i]?=some q/\kv.1=q.1/\RelV kv.2 q.2:=by
 unfold KV at r
 induction r with
 |nil=>intro i kv h;cases h
 |cons a _ ih=>
  intro i kv h;cases i with
  |zero=>cases h;exact⟨_,rfl,a⟩
  |succ i=>exact ih h
theorem aUx {P:Program}{w:World}{n:Str}{key:Value}(h:(bL P w).is (Sum.inr n) key=true):∃t,key=.str n t:=by
 cases key with
 |str x t=>
  have e:x=n:=by simpa [bL,vV,Value.isStrOf] using h
  exact⟨t,by rw[e]⟩
 |_=>exact absurd (show false=true from h) t8
theorem aGy {P:Program}{w:World}{K:bEX}{elts:List Expr}{kt:Nat}{pos:Pos}(d it:Addr)(o:Obj)(kvs:List (Key × V))(es:Array DictEntry)(ep:Nat)(hep:o.data=.dict es ep)(hk:∀kv∈kvs,∃n,kv.1=Sum.inr n) :
  Turn P w K (.Tuple elts kt pos) (aKp d o kvs) [it] it (λi h=>∃k0 v0,IsItemIter h it d i kvs.length ep k0 v0) where
 mem:=by simp
 obj:=λi h st b hb=>by
  have e:b=it:=by simpa using hb
  subst e;obtain⟨k0,v0,h1⟩:=st;exact⟨_,h1,λv z=>by cases (show Data.fields _=Data.cell v from z)⟩
 keep:=λi h h' st k=>by obtain⟨k0,v0,h1⟩:=st;exact⟨k0,v0,k it (by simp) _ h1⟩
 item:=by
  intro X hP hw hK hc i bE1 s σ H E I hf st hg;subst hP hw hK;obtain⟨k0,v0,st⟩:=st;obtain⟨hd,hi⟩:=hg;obtain⟨vs,rel,od,es',gd,_,hep',_,hpr,_⟩:=aNd hep (I.hok d _ hd);have go:s.heap.get? d=some o:=(I.hok d _ hd).1;rw[go] at gd;cases gd;rw[hep] at hep';cases hep';have lk:es.size=kvs.length:=by rw[KV.length rel,<-hpr.length,t7]
  have hkv:kvs[i]?=some kvs[i]:=d7 hi;obtain⟨x,hx,e1,e3⟩:=bA7 rel hkv;have hie:i<es.size:=by lia
  obtain⟨ek1,ek2⟩:=hpr.get? (i:=i) (e:=es[i]) (k:=x.1) (v:=x.2) (by rw[bBT];exact m9 hie) hx;obtain⟨n,en⟩:=hk _ (bAT hi);rw[<-e1,en] at ek1;obtain⟨t,ek1⟩:=aUx ek1;have fit:=hf it (by simp);rw[<-lk] at st;refine aVd st go hep hie λh' a1 a2 a3 kp=>?_;rw[ek1,ek2] at a1 a2;refine⟨_,rfl,?_⟩;have fT:H s.heap.objs.size=none:=I.hok.fresh (j0 _);have nit:it≠s.heap.objs.size:=v4 (m8 st);have ekv:kV kvs[i].1=.str n:=by rw[en];rfl
  have I1:Inv X bE1 σ (upd H s.heap.objs.size (.tup [kV kvs[i].1,kvs[i].2])) { s with heap:=h' }:=by
   rw[ekv];refine I.drawn (ch:=[it]) (its:=[.str n t,x.2]) (λb hb=>?_) (λb o hb e=>kp b o (by simpa using hb) e) (j0 _) (.cons ⟨t,rfl⟩ (.cons e3 .nil)) (small (by simp)) (.of a2 rfl ⟨_,a2,rfl,_,rfl⟩) (λb hb=>?_)
   ·have:b=it:=by simpa using hb
    rw[this];exact fit
   ·have:b=it:=by simpa using hb
    rw[this];exact⟨_,a1⟩
  refine wpAny_letOwnedTupleGo_items (s:={ s with heap:=h' }) a1 λh2 z2 s2=>?_;obtain⟨g0,g1,g2,g3,g4,g5⟩:=fit;have I2:Inv X bE1 σ (upd H s.heap.objs.size (.tup [kV kvs[i].1,kvs[i].2])) { s with heap:=h2 }:=Inv.turned (s:={ s with heap:=h' }) I1 (t':=s.toks) (it:=it) (λb o hb e=>(s2.2 b hb).trans e) (by rw[aN nit];exact g0) g1 g3 g4 g5;refine⟨.ref s.heap.objs.size,_,I2,rfl,⟨_,kvs[i],fT,rfl,hkv,rfl⟩,⟨_,_,by rw[<-lk];exact z2⟩,λb hb=>?_⟩;have:b=it:=by simpa using hb
  rw[this,aN nit];exact g0
 done:=by
  intro X hP hw hK hc i bE1 s σ H E I hf st hg;subst hP hw hK;obtain⟨k0,v0,st⟩:=st;obtain⟨f0,f1,f2,f3,f4,f5⟩:=hf it (by simp);obtain⟨hd,hi⟩:=hg;obtain⟨vs,rel,od,es',gd,_,hep',_,hpr,_⟩:=aNd hep (I.hok d _ hd);have go:s.heap.get? d=some o:=(I.hok d _ hd).1;rw[go] at gd;cases gd;rw[hep] at hep';cases hep';have lk:es.size=kvs.length:=by rw[KV.length rel,<-hpr.length,t7]
  rw[hi,<-lk] at st;exact aKt (I.ok.hd hc) st go hep λh' eb=>⟨rfl,I.turned (t':=s.toks) (λb o hb e=>eb b o hb e) f0 f1 f3 f4 f5⟩
 self:=λA i s Q E st h=>by obtain⟨k0,v0,st⟩:=st;have ty:s.TypeIs (.ref it) "dict_itemiterator":=⟨_,st,rfl⟩;refine bD4 ty PySem.F.slot_dict_itemiterator_iter (bAD PySem.F.slot_dict_itemiterator_iter ty PySem.aB9 ?_ (PySem.F.args_dict_itemiterator_iter_1 _));show wpAny _ _ (ret (.ref it)) _ _ s;exact d9 ⟨_,rfl,"dict_itemiterator",_,ty,PySem.F.slot_dict_itemiterator_next.lookup,h⟩
section
variable {X:Cx}
def aNi (te:TE):TI:=fun σ H R=>te σ H λv H1=>∃d kvs,v=.ref d/\H1 d=some (.dK kvs)/\(∀kv∈kvs,∃n,kv.1=Sum.inr n)/\(∀ob u,X.H₀ d≠some (.frz ob u))/\∀o,R (aKp d o kvs) (upd H1 d (.frz o (.dK kvs)))
theorem aDc {elts:List Expr}{kt:Nat}{tp apos cpos:Pos}{e:Expr}{te:TE}(h:VE X e te)(hbase:attributeBase e "items" X.env (eval e X.env)=eval e X.env:=by rfl)(hline:(apos.endLine == cpos.line)=true:=by rfl) :
  VI X (.Tuple elts kt tp) (.Call (.Attribute e "items" apos) [] [] cpos) (aNi (X:=X) te):=⟨by
 intro bE1 s σ H R I hh;refine wpAny_Call_method0_late hbase hline (thn (h.1 bE1 s σ H _ I hh) λv s1 ⟨x,H1,I1,r1,q1⟩=>?_);obtain⟨d,kvs,e,hd,hk,nf,q⟩:=q1;subst e;cases r1;obtain⟨z,hm,vs,rel,⟨o,es,ep,h1,h2,h3,h4,hpr,h6⟩⟩:=aNj I1.hok hd;have lk:es.size=kvs.length:=by rw[KV.length rel,<-hpr.length,t7]
 have ty:s1.TypeIs (.ref d) "dict":=(show s1.heap.DictOf (bL X.prog X.w) d vs from ⟨o,es,ep,h1,h2,h3,h4,hpr,h6⟩).typeIs;obtain⟨y1,y2⟩:=aMf (T:="dict") I1 (show RelV (.ref d) (.ref d) from rfl) (.inr (.inr (.inl ⟨rfl,.inl ⟨kvs,hd⟩⟩)));refine⟨"dict","dict.items",PySem.F.plainAttrs_dict,PySem.F.slot_dict_items,PySem.F.type_dict_items,y1,y2,bC4 rfl (PySem.evalArgs_none ?_)⟩;refine aQd hm ty ?_;have I2:Inv X bE1 σ (upd H1 d (.frz o (.dK kvs))) s1:=I1.setd hd (λ_ z=>by cases z) (λ_ z=>by cases z) (λ_ z=>by cases z) nf ⟨h1,I1.hok d _ hd⟩;have I3:Inv X bE1 σ (upd H1 d (.frz o (.dK kvs))) { s1 with heap:=s1.heap.push { cls:=.type "dict_items",data:=.fields #[.ref d] } }:=I2.kept (t':=s1.toks) λb o e=>d8 _ e;have gv:(s1.heap.push { cls:=.type "dict_items",data:=.fields #[.ref d] }).IsItemsView s1.heap.objs.size d:=⟨_,j5 _ rfl,rfl,rfl⟩;have gd:(s1.heap.push { cls:=.type "dict_items",data:=.fields #[.ref d] }).get? d=some o:=d8 _ h1;generalize s1.heap.push { cls:=.type "dict_items",data:=.fields #[.ref d] }=hp at I3 gv gd ⊢;refine aIa (s:={ s1 with heap:=hp }) gv gd h3 ?_;refine⟨hp.objs.size,[hp.objs.size],_,_,_,rfl,I3.kept (t':=s1.toks) λb o e=>d8 _ e,aGy d _ o kvs es ep h3 hk,?_,λb hb=>?_,q o⟩
 ·rw[<-lk];exact⟨_,_,j5 _ rfl⟩
 ·have e:b=hp.objs.size:=by simpa using hb
  subst e;exact I3.aFp (j0 _) (I3.hok.fresh (j0 _))⟩
end
theorem aKc {d:Addr}{o:Obj}{kvs:List (Key × V)}{g:TG}{tb:TS}{D:Ends}{σ:L2.St}{H:Hp}(Pv:Nat->L2.St->Hp->Prop)(h0:Pv 0 σ H)(hl:∀i σ H,i<=kvs.length->Pv i σ H->H d=some (.frz o (.dK kvs)))
  (hs:∀i kv T σ H,kvs[i]?=some kv->Pv i σ H->H T=none->g (.ref T) σ (upd H T (.tup [kV kv.1,kv.2])) fun σ2 H2=>tb { D with nx:=Pv (i+1),ct:=Pv (i+1),bk:=D.nx } σ2 H2) (hd:∀σ H,Pv kvs.length σ H->D.nx σ H) :
  ∃W:Nat->Nat->L2.St->Hp->Prop,(∃m,W 0 m σ H)/\∀i m σ H,W i m σ H ->
   ((aKp d o kvs).stop i H/\D.nx σ H)\/((aKp d o kvs).go i H/\∃N:L2.St->Hp->Prop,(∀σ' H',N σ' H'->∃m',m'<m/\W (i+1) m' σ' H')/\∀x H',(aKp d o kvs).yld i H x H'->g x σ H' fun σ2 H2=>tb { D with nx:=N,ct:=N,bk:=D.nx } σ2 H2):=by
 refine⟨λi m σ H=>m=kvs.length - i/\i<=kvs.length/\Pv i σ H,⟨kvs.length,by simp,bAE _,h0⟩,?_⟩;rintro i m σ H ⟨rfl,hi,p⟩;have q:=hl i σ H hi p;by_cases hlt:i<kvs.length
 ·right;refine⟨⟨q,hlt⟩,Pv (i+1),fun σ' H' h=>⟨kvs.length - (i+1),by lia,rfl,by lia,h⟩,?_⟩;rintro x H' ⟨T,kv,hT,rfl,hkv,rfl⟩;exact hs i kv T σ H hkv p hT
 ·left;have e:i=kvs.length:=by lia
  subst e;exact⟨⟨q,rfl⟩,hd σ H p⟩
section
variable {X:Cx}
def aYk (X:Cx)(t:TE):TE:=fun σ H Q=>∃d kvs,H d=some (.dK kvs)/\((∀ob u,X.H₀ d≠some (.frz ob u))->t σ H λv H'=>(∃o,H' d=some (.frz o (.dK kvs)))/\Q v (upd H' d (.dK kvs)))
theorem aUl {e:Expr}{t:TE}(h:VE X e t):VE X e (aYk X t):=⟨by
 intro bE1 s σ H Q I ⟨d,kvs,hd,q⟩;have nf:∀ob u,X.H₀ d≠some (.frz ob u):=λob u e=>by have:=I.base.frzs d ob u e;rw[hd] at this;cases this
 refine thn (h.1 bE1 s σ H _ I (q nf)) λu s' ⟨v,H',I',r,⟨o,ho⟩,q'⟩=>?_;exact⟨v,_,I'.setd ho (λ_ z=>by cases z) (λ_ z=>by cases z) (λ_ z=>by cases z) nf (I'.hok d _ ho).2,r,q'⟩⟩
end
theorem aG3 {K:bEX}{d:Addr}{o:Obj}{kvs:List (Key × V)}{H:Hp}{σ0:L2.St}{te:TE}{Q:VK}(hd:H d=some (.frz o (.dK kvs)))(h2:Ps2 σ0 σ0)(hsz:kvs.length<=1000)
  (Rel:Addr->Nat->Hp->V->Prop) (st:∀{D i H1 H2 y},Same H1 H2->Rel D i H1 y->Rel D i H2 y) (su:∀{D i H1 ys zs y},H1 D=some (.lst ys)->Rel D i H1 y->Rel D i (L2.upd H1 D (.lst zs)) y)
  (he:∀(i:Nat) (kv:Key × V),kvs[i]?=some kv->∀H' R D ys,Same H H'->H D=none->H' D=some (.lst ys)->(∀y H2,Same H' H2->Rel D i H2 y->R y H2)->te ((σ0.set 0 (some (kV kv.1))).set 1 (some kv.2)) H' R)
  (q:∀D H' ys,Same H H'->H D=none->H' D=some (.lst ys)->ys.length=kvs.length->(∀i y,ys[i]?=some y->Rel D i H' y)->Q (.ref D) H'):qW (aKp d o kvs) H σ0 (aJ3 K 2 (tO (cB 0) (tO (cB 1) aP8))) nZ te Q:=by
 intro D hD;refine⟨λi m σ' H' ys=>m=kvs.length - i/\i<=kvs.length/\Same H H'/\H' D=some (.lst ys)/\ys.length=i/\Ps2 σ0 σ'/\∀j y,ys[j]?=some y->Rel D j H' y,⟨kvs.length,by simp,bAE _,aW hD _,aH,rfl,h2,λj y e=>by cases e⟩,?_⟩;rintro i m σ' H' ys ⟨rfl,hi,sm,gD,ly,hps,hr⟩;refine⟨gD,?_⟩;by_cases hlt:i<kvs.length
 ·right;refine⟨⟨sm _ _ hd,hlt⟩,?_⟩;rintro x H2 ⟨T,kv,hT,rfl,hkv,rfl⟩;have s2:Same H' (L2.upd H' T (.tup [kV kv.1,kv.2])):=aW hT _;refine hg2 (SqT.of aH) hps fun σ2 hps2 hat=>?_;have hat':σ2=_:=hat;subst hat';dsimp only[nZ];rw[if_pos rfl];refine he i kv hkv _ _ D ys (sm.trans s2) hD (s2 _ _ gD) λy H3 s3 hy=>?_;have gD3:H3 D=some (.lst ys):=s3 _ _ (s2 _ _ gD);have s03:=sm.trans (s2.trans s3);refine⟨gD3,bCD (show ys.length<=1000 by lia) (by decide),kvs.length - (i+1),by lia,rfl,by lia,lV hD s03,aH,by rw[bAG,ly];rfl,hps2,λj z e=>?_⟩;by_cases hj:j<ys.length
  ·rw[bBK hj] at e;exact su gD3 (st (s2.trans s3) (hr j z e))
  ·rw[bBG (by lia)] at e;have ej:j - ys.length=0:=by have:=(List.getElem?_eq_some_iff.mp e).1;simpa using this
   rw[ej] at e;cases e;have:j=i:=by lia
   rw[this];exact su gD3 hy
 ·left;have e:i=kvs.length:=by lia
  subst e;exact⟨⟨sm _ _ hd,rfl⟩,q D H' ys sm hD gD ly hr⟩
theorem aQz {X:Cx}{scope:Scope}{N:List Str}{tl:TE}{te:TE}{tt:TT}{g:TG}{σ:L2.St}{H:Hp}{Q:VK}(σ0:L2.St)(cap:Cap X scope N σ σ0)(h:tl σ H λv H1=>∃d kvs,v=.ref d/\H1 d=some (.dK kvs)/\(∀kv∈kvs,∃n,kv.1=Sum.inr n)/\(∀ob u,X.H₀ d≠some (.frz ob u))/\∀o,qW (aKp d o kvs) (upd H1 d (.frz o (.dK kvs))) σ0 g tt te Q):kZ X scope N (aNi (X:=X) tl) g tt te σ H Q:=⟨σ0,cap,h⟩
section
variable {X:Cx}
def aVb:List V->Hp->VK->Prop:=λxs H Q=>∃(d:Addr) (kvs:List (Key × V)),xs=[.ref d,.ty "dict"]/\H d=some (.dK kvs)/\Q (.bl true) H
theorem aJm:cI X (.builtin "isinstance") aVb:=by intro bE1 s σ H xs us Q I r h;obtain⟨d,kvs,rfl,hd,q⟩:=h;obtain⟨u,v,rfl,rx,rT⟩:=r.two;obtain rfl:v=Value.type "dict":=rT;obtain rfl:u=Value.ref d:=rx;obtain⟨z,hm,vs,rel,dof⟩:=aNj I.hok hd;obtain⟨o,ho,hc⟩:=(show s.TypeIs (.ref d) "dict" from dof.typeIs);exact call_isinstance (isinstance_true F.isi_meta_dict F.isi_self_dict) ⟨⟨o,ho,hc⟩,⟨.bl true,H,I,rfl,q⟩⟩
end
end L2
namespace PySem
section
variable {prog:Program}{w:World}{A:Around}{E:bEY}{s:Shared}
theorem aIw {a:Addr}{o:Obj}{xs:Array Value}{k:Nat}{Q:Option Value->Shared->Prop}(hx:s.heap.get? a=some o)(hc:o.cls=.type "list")(hdat:o.data=.seq xs k)(hd:o.dict=none)(hA:A.handled=none)
  (h:∀h' tk,(∀b u,s.heap.get? b=some u->h'.get? b=some u)->Q none { s with heap:=h',toks:=tk }):wpAny (model prog w) A (getAttr? (.ref a) "keys") Q E s:=by
 obtain⟨c,dct,dat,sl⟩:=o;simp only at hc hdat hd;subst hc hdat hd;obtain⟨hp,g,d,tk,os⟩:=s;have hT:∀tk',(⟨hp,g,d,tk',os⟩:Shared).TypeIs (.ref a) "list":=λ_=>⟨_,hx,rfl⟩;have f1:=sub_AttributeError;have f3:=F.slot_list_getattribute.lookup;have f4:=F.slot_list_getattribute.bind (.ref a);have f5:=am_list_getattr_none;unfold getAttr? getAttrBy? getAttrBy
 repeat (any_goals (first|assumption|exact hT _|((with_reducible show wpAny _ _ (call (Value.builtin "list.__getattribute__") _ _) _ _ _);refine call_meets F.slot_list_getattribute (hT _) am_entry_list_getattribute (F.args_list_getattribute_2 _ _) (meets_getattribute_miss_list a xs k sl "keys" _ aAd (by decide +kernel) (by size_fits)) ⟨hx,hA,λh' tk' e hx'=>?_⟩)|wp_step))
 obtain⟨t',u',he⟩:=hx'.there;show wpAny _ _ (getattributeRaised _ _ _ _ _ _ _) _ _ _;unfold getattributeRaised
 repeat (any_goals (first|assumption|wp_step))
 exact h _ _ hx'.keeps
end
section
variable {prog:Program}{w:World}{κ:Type}[DecidableEq κ]{knd:KeyKind prog w κ}{A:Around}{E:bEY}{s:Shared}
theorem wY {t:Addr}{its:Array Value}{kvs:List (κ × Value)}{Q:bEY}(hh:A.handled=none){o:Obj}{n:Nat}(ho:s.heap.get? t=some o)(hc:o.cls=.type "list")(hx:o.data=.seq its n)(hod:o.dict=none)(hlen:kvs.length=its.size)(hb:its.size<=1000)
  (hp:∀(j:Nat) (v:Value) (kv:κ × Value),its[j]?=some v->kvs[j]?=some kv->tW knd s.heap v kv)
  (q:∀h' tk,h'.DictOf knd s.heap.objs.size (merged [] kvs)->(∀b o,s.heap.get? b=some o->h'.get? b=some o)->Q (.ref s.heap.objs.size) { s with heap:=h',toks:=tk }) :
  wpAny (model prog w) A (call (.type "dict") [.ref t]) Q E s:=by
 refine callType_codes (Q₁:=λobj s₁=>obj=.ref s.heap.objs.size/\s₁={ s with heap:=s.heap.push { cls:=.type "dict",data:=.dict #[] } }) F.kt_called_dict (F.kt_typeCall_dict_1 _) F.entry_dict_init (kt_code_dict_new _ ⟨rfl,rfl⟩) ?_;rintro obj s₁ ⟨rfl,rfl⟩;have hnew:(s.heap.push { cls:=.type "dict",data:=.dict #[] }).DictOf knd s.heap.objs.size []:=Heap.DictOf.new s.heap;have ho1:(s.heap.push { cls:=.type "dict",data:=.dict #[] }).get? t=some o:=d8 _ ho;have hT:Shared.TypeIs { s with heap:=s.heap.push { cls:=.type "dict",data:=.dict #[] } } (.ref t) "list":=⟨o,ho1,hc⟩;have hlt:t<s.heap.objs.size:=m8 ho;refine⟨hnew.typeIs,F.args_dict_init_2 _ _,?_⟩;unfold Builtin.«dict.__init__»;refine c7 ?_;unfold Builtin.Dict.selfAndRest;refine c7 (wpAny_notOrdered_dict hnew.typeIs ?_);show wpAny _ _ (pure (s.heap.objs.size,[Value.ref t])) _ _ _;refine d9 ?_;show wpAny _ _ (Builtin.Dict.updateFrom "dict.__init__" s.heap.objs.size (.ref t) [] .none) _ _ _;unfold Builtin.Dict.updateFrom;refine c7 (bDW hT ?_);rw[if_pos (by decide)];refine c7 (aIw ho1 hc hx hod (by first|exact hh|simp[hh]) λh2 tk2 kp2=>?_);rw[if_pos (show (none:Option Value).isNone=true from rfl)];have ho2:h2.get? t=some o:=kp2 _ _ ho1;have ht2:h2.IsList t its:=⟨o,ho2,hc,n,hx⟩;refine c7 (bCU (c7 (bB3 ht2 ?_)));have hs1:(s.heap.push { cls:=.type "dict",data:=.dict #[] }).objs.size=s.heap.objs.size+1:=bAX ..;have hs2:s.heap.objs.size<h2.objs.size:=by obtain⟨od,_,_,hg,_⟩:=id hnew;exact m8 (kp2 _ _ hg)
 refine d9 ⟨bCW cV _,?_⟩;have hne:t≠h2.objs.size:=v4 (bDZ hlt hs2);refine zB (knd:=knd) (Walks.list (by first|exact hh|simp[hh]) _ t hne its) s.heap.objs.size ?_ kvs hlen hb ?_ its.size 0 _ _ (by lia) ⟨⟨_,j5 _ rfl,rfl,rfl⟩,ht2.push _⟩ ?_ ?_ λh' tk kp hd'=>?_
 ·simp only[bAB,w6,or_false,not_or];exact⟨v4 hs2,bCL hlt⟩
 ·intro j v e p ev;have hj:j<kvs.length:=by rw[hlen];exact (Array.getElem?_eq_some_iff.mp e).1
  obtain⟨p',key,ev',⟨o',ho',_⟩,_⟩:=hp j v _ e (d7 hj);rw[ev] at ev';cases ev';have:=m8 ho';simp only[bAB,w6,or_false,not_or];exact⟨v4 this,v4 (bDZ this hs2)⟩
 ·exact (hnew.at λo e=>kp2 _ _ e).at λo e=>d8 _ e
 ·intro j v kv e ek;exact (hp j v kv e ek).at λp _ o eo=>d8 _ (kp2 _ _ (d8 _ eo))
 ·refine⟨rfl,q h' tk hd' λb o e=>kp b o ?_ (d8 _ (kp2 _ _ (d8 _ e)))⟩;have:=m8 e;simp only[bAB,w6,or_false,not_or];exact⟨v4 this,v4 (bDZ this hs2)⟩
end
end PySem
namespace L2
open PySem PySem.Spec PyProof.Rows
section
variable {X:Cx}
def aZs (K:bEX):List V->Hp->VK->Prop:=λxs H Q=>∃t us kvs,xs=[.ref t]/\H t=some (.lst us)/\aS4 K H us kvs/\us.length<=1000/\∀p H',H p=none->Same H H'->H' p=some (.dK (lZ [] kvs))->Q (.ref p) H'
theorem aK9 (hc:X.calm=true):cI X (.type "dict") (aZs X.K):=by intro bE1 s σ H xs us Q I r h;obtain⟨t,us,kvs,rfl,ht,hp,hl,q⟩:=h;obtain⟨u,rfl,ru⟩:=vals1 r;cases ru;obtain⟨hz,its,n,rv,ho⟩:=I.hok t _ ht;have e1:=rv.length;obtain⟨vs,h1,h2,h3⟩:=aZy I hp rv;have lk:=KV.length h1;refine wY (knd:=bL X.prog X.w) (kvs:=vs) (I.ok.hd hc) ho rfl rfl rfl (by rw[j7];exact h2) (by rw[j7];lia) (λj v kv e e'=>h3 j v kv (by simpa using e) e') λh' tk hd kp=>?_;have hf:H s.heap.objs.size=none:=I.hok.fresh (j0 _);refine⟨.ref s.heap.objs.size,_,I.laid (t':=tk) (o:=.dK (lZ [] kvs)) kp (j0 _) ?_,rfl,q _ _ hf (aW hf _) aH⟩;have lm:=nJ kvs [];simp only[bCK] at lm;exact⟨small (by lia),beq_eq_false_iff_ne.mpr (Ne.symm (v4 I.big)),_,KV.merge h1 .nil,hd⟩
end
end L2
namespace My
open PySem PySem.Spec PyProof.Rows L2
section
variable {P:Program}{w:World}{K:bEX}{mg:bE0}{base:Heap}
def aW3 (k:Str):Bool:=decide (k = "number")
def knds (hd:Hdr):List Bool:=hd.map λc=>aW3 c.2
theorem aJh {X:Cx}{K:bEX}(h:X.K=K:=by rfl):cI X (.builtin "sorted") (aLt K):=by subst h;exact fC
theorem aJj {X:Cx}{K:bEX}(h:X.K=K:=by rfl):cI X (.type "list") (aQa K):=by subst h;exact aB6
theorem none_of {H H':Hp}{D:Addr}(e:Same H H')(h:H' D=none):H D=none:=by
 cases g:H D with
 |none=>rfl
 |some o=>rw[e _ _ g] at h;cases h
def But (d:Addr)(H H':Hp):Prop:=∀b o,b≠d->H b=some o->H' b=some o
section
variable {K:bEX}{H H':Hp}{d:Addr}{kvs:List (Key × V)}
def eU (H:Hp)(d:Addr):Prop:=(∀xs,H d≠some (.tup xs))/\(∀ob xs,H d≠some (.frz ob (.tup xs)))/\∀xs,H d≠some (.lst xs)
theorem eU.dK (h:H d=some (.dK kvs)):eU H d:=⟨λ_ z=>(by rw[h] at z;cases z),λ_ _ z=>(by rw[h] at z;cases z),λ_ z=>(by rw[h] at z;cases z)⟩
theorem eU.fz {o:Obj}(h:H d=some (.frz o (.dK kvs))):eU H d:=⟨λ_ z=>(by rw[h] at z;cases z),λ_ _ z=>(by rw[h] at z;cases z),λ_ z=>(by rw[h] at z;cases z)⟩
theorem But.aV {a:Addr}{xs:List V}(b:But d H H')(hd:eU H d)(h:SqT K H a xs):SqT K H' a xs:=by
 rcases h with (h|⟨o,h⟩)|h
 ·exact .inl (.inl (b _ _ (λz=>hd.1 _ (z ▸ h)) h))
 ·exact .inl (.inr ⟨o,b _ _ (λz=>hd.2.1 _ _ (z ▸ h)) h⟩)
 ·exact .inr h
theorem But.lst {a:Addr}{xs:List V}(b:But d H H')(hd:eU H d)(h:H a=some (.lst xs)):H' a=some (.lst xs):=b _ _ (λz=>hd.2.2 _ (z ▸ h)) h
theorem But.hdr {v:V}{hr:Hdr}(b:But d H H')(hd:eU H d)(h:kI K H v hr):kI K H' v hr:=by obtain⟨a,us,rfl,ha,hu⟩:=h;exact⟨a,us,rfl,b.aV hd ha,hu.imp λ_ _ ⟨p,e,hp⟩=>⟨p,e,b.aV hd hp⟩⟩
theorem But.pl {v:V}{pl:Plc}(b:But d H H')(hd:eU H d)(h:qQ K H v pl):qQ K H' v pl:=by
 cases pl with
 |copies=>obtain⟨a,rfl,ha⟩:=h;exact⟨a,rfl,b.aV hd ha⟩
 |keys n=>obtain⟨a,rfl,ha⟩:=h;exact⟨a,rfl,b.aV hd ha⟩
 |spans n h0 cs=>obtain⟨a,vc,rfl,ha,⟨c,us,rfl,hc,hu⟩⟩:=h;exact⟨a,_,rfl,b.aV hd ha,c,us,rfl,b.aV hd hc,hu.imp λ_ _ ⟨p,e,hp⟩=>⟨p,e,b.aV hd hp⟩⟩
theorem But.rows {L:Addr}{rs:List (List V)}(b:But d H H')(hd:eU H d)(h:cC K H L rs):cC K H' L rs:=by obtain⟨us,h1,h2⟩:=h;exact⟨us,b.lst hd h1,h2.imp λ_ _ ⟨p,e,hp⟩=>⟨p,e,b.aV hd hp⟩⟩
theorem But.tb {v vh vp:V}{L:Addr}{t:Tb}(b:But d H H')(hd:eU H d)(h:rC K H v vh vp L t):rC K H' v vh vp L t:=by obtain⟨a,rfl,ha,h1,h2,h3⟩:=h;exact⟨a,rfl,b.aV hd ha,b.hdr hd h1,b.pl hd h2,b.rows hd h3⟩
theorem But.upd {u:HO}:But d H (L2.upd H d u):=λb o hb h=>by rw[aN hb];exact h
theorem But.same {H2:Hp}(b:But d H H')(s:Same H' H2):But d H H2:=λc o hc h=>s _ _ (b c o hc h)
theorem But.thaw {H2:Hp}(b:But d H H2)(hd:H d=some (.dK kvs)):Same H (L2.upd H2 d (.dK kvs)):=λc o h=>by
 by_cases e:c=d
 ·rw[e,aH,<-hd,<-e];exact h
 ·rw[aN e];exact b c o e h
end
structure En where
 n:Str
 v:V
 vh:V
 vp:V
 L:Addr
 t:Tb
def enK (es:List En):List (Key × V):=es.map λe=>(Sum.inr e.n,e.v)
structure lX (K:bEX)(H:Hp)(d:Addr)(es:List En):Prop where
 at_:H d=some (.dK (enK es))
 nd:(es.map (·.n)).Nodup
 few:es.length<=60
 nm:∀e∈es,Nm e.n
 tb:∀e∈es,rC K H e.v e.vh e.vp e.L e.t
theorem rC.same {K:bEX}{H H':Hp}{v vh vp:V}{L:Addr}{t:Tb}(s:Same H H')(h:rC K H v vh vp L t):rC K H' v vh vp L t:=by obtain⟨a,rfl,ha,h1,h2,h3⟩:=h;exact⟨a,rfl,s.aV ha,h1.same s,h2.same s,h3.same s⟩
theorem lX.same {K:bEX}{H H':Hp}{d:Addr}{es:List En}(s:Same H H')(h:lX K H d es):lX K H' d es:=⟨s _ _ h.at_,h.nd,h.few,h.nm,λe he=>(h.tb e he).same s⟩
theorem aSt {es:List En}{i:Nat}{kv:Key × V}(h:(enK es)[i]?=some kv):∃e,es[i]?=some e/\kv=(Sum.inr e.n,e.v):=by unfold enK at h;rw[v9] at h;obtain⟨e,he,rfl⟩:=Option.map_eq_some_iff.mp h;exact⟨e,he,rfl⟩
theorem aN9 {es:List En}:∀kv∈enK es,∃n,kv.1=Sum.inr n:=λkv h=>by unfold enK at h;obtain⟨e,_,rfl⟩:=List.mem_map.mp h;exact⟨_,rfl⟩
theorem aNr {es:List En}:(enK es).length=es.length:=j9 _
def aN6 (K:bEX)(Pt:Addr):Sp:=λvs H Q _=>∃(d:Addr) (m:Int) (es:List En),vs=[.int m,.ref d]/\1<=m/\m<=6/\lX K H d es/\(∀e∈es,pD m e.t)/\H Pt=some (.tab qC)/\∀H',Same H H'->Q .non H'
theorem aEo (T:Txt w K mg){Pt:Addr}(dW:Ok P w K mg base 1 "is_whole" ["thing"] (oG K))(jL:Ok P w K mg base 2 "is_name" ["thing"] (aC3 K nameB))(aKd:Ok P w K mg base 8 "is_table" ["thing","houses"] (aW4 K Pt)):Ok P w K mg base 9 "need_town" ["houses","tables"] (aN6 K Pt):=by
 refine Ok.ofV T.aHb oJ (λvs H Q E h=>?_) (λf cdv A outer s H vs Q E hr h=>?_)
 ·obtain⟨d,m,es,rfl,_⟩:=h;rfl
 obtain⟨d,m,es,rfl,m1,m6,hE,hok,hP,q⟩:=h;refine⟨_,(aC (cA (VW.pt (fB (cG (bV (aO (dW.mono (by decide)) hr (by rfl) (aB (vv 0) aA)))) (fB (cG (aBq aBu aBu aF (vv 0) (tQ (by rfl) T.aCj))) (dN (cG (bV (aK aJm (by rfl) T.bM bI (aB (vv 1) (aB (dJ (v:=.ty "dict") (by rfl) T.aQl aOa rfl) aA))))))))) (aG fX) aZ) (aG (aWa (jF PassesOwn.never rfl (aDc (vv 1)) (xX rfl (bF (aM (i:=2) oJ.nd rfl (by trivial)) (bF (aM (i:=3) oJ.nd rfl (by trivial)) fM))) (aG (cA (VW.pt (fB (cG (bV (aO (jL.mono (by decide)) hr (by rfl) (aB (vv 2) aA)))) (dN (cG (bV (aO (aKd.mono (by decide)) hr (by rfl) (aB (vv 3) (aB (vv 0) aA)))))))) (aG fX) aZ)))))),?_⟩;refine⟨_,rfl,_,rfl,.inr (.inl ⟨m,rfl⟩),_,rfl,bY ?_⟩;refine⟨_,rfl,_,_,rfl,rfl,_,rfl,?_⟩;rw[t6 m1];refine fV ⟨_,_,rfl,rfl,_,rfl,?_⟩;rw[t6 m6];refine bY ⟨_,rfl,d,_,rfl,hE.at_,_,rfl,bY ?_⟩;refine⟨d,enK es,hE.at_,λnf=>⟨_,rfl,d,_,rfl,hE.at_,aN9,nf,λo=>?_⟩⟩;have hPd:Pt≠d:=λz=>by rw[z,hE.at_] at hP;cases hP
 have b0:But d H (L2.upd H d (.frz o (.dK (enK es)))):=But.upd;have g0:L2.upd H d (.frz o (.dK (enK es))) d=some (.frz o (.dK (enK es))):=aH;generalize L2.upd H d (.frz o (.dK (enK es)))=B at b0 g0 ⊢;refine aKc (λi σ H'=>Same B H'/\∃l1 l2,σ=[some (.int m),some (.ref d),l1,l2]) ⟨Same.refl B,_,_,rfl⟩ (λi σ H' _ p=>p.1 _ _ g0) (λi kv Tp σ H' ek p hT=>?_) fun σ H' p=>?_
 ·obtain⟨sm,l1,l2,rfl⟩:=p;obtain⟨en,he,rfl⟩:=aSt ek;have hm:=v6 he;have sT:Same H' (L2.upd H' Tp (.tup [kV (Sum.inr en.n),en.v])):=aW hT _;have bT:But d H (L2.upd H' Tp (.tup [kV (Sum.inr en.n),en.v])):=(b0.same sm).same sT;refine⟨Tp,_,rfl,SqT.of aH,rfl,_,_,rfl,_,_,rfl,rfl,?_⟩;refine⟨_,rfl,_,rfl,(hE.nm en hm).th,λH2 s2=>⟨_,rfl,?_⟩⟩;rw[show nameB (kV (Sum.inr en.n,en.v).fst)=true from hE.nm en hm];refine bY ?_;have b2:=bT.same s2;refine⟨_,rfl,_,rfl,en.v,en.vh,en.vp,en.L,m,en.t,rfl,b2.tb (eU.dK hE.at_) (hE.tb en hm),hok en hm,b2 _ _ hPd hP,λH3 s3=>⟨_,rfl,bY ?_⟩⟩;exact⟨sm.trans (sT.trans (s2.trans s3)),_,_,rfl⟩
 ·obtain⟨sm,l1,l2,rfl⟩:=p;exact⟨⟨o,sm _ _ g0⟩,q _ ((b0.same sm).thaw hE.at_)⟩
def aBf (e:En)(v:V)(L:Addr):En:={ e with v:=v,L:=L,t:={ e.t with rows:=srt e.t.rows } }
def xU (K:bEX)(Pt:Addr):Sp:=λvs H Q _=>∃(d:Addr) (m:Int) (es:List En),vs=[.int m,.ref d]/\1<=m/\m<=6/\lX K H d es/\(∀e∈es,pD m e.t)/\H Pt=some (.tab qC) /\
 ∀d' H' es',H d'=none->Same H H'->lX K H' d' es'->cU (λe e'=>∃v L,e'=aBf e v L/\H L=none) es es'->Q (.ref d') H'
theorem bA8 {kd:Str}{v:V}(h:cF kd v):KdV (aW3 kd) v:=by
 cases h with
 |num=>exact⟨_,rfl⟩
 |wrd _ _=>exact⟨_,rfl⟩
theorem jY {hd:Hdr}{r:List V}(h:pP hd r):KdR (knds hd) r:=by
 unfold pP at h;unfold KdR knds
 induction h with
 |nil=>exact .nil
 |cons a _ ih=>exact .cons (bA8 a) ih
theorem mU {hd:Hdr}(h:Good hd):knds hd≠[]:=λz=>by have e:=congrArg List.length z;unfold knds at e;rw[j9] at e;have:=h.2.1;rw[e] at this;exact absurd this (by decide)
theorem cX {α β:Type}{R:α->β->Prop}{as:List α}{bs:List β}(h:cU R as bs):Al2 R as bs:=by
 induction h with
 |nil=>exact .nil
 |cons r _ ih=>exact .cons r ih
theorem jZ {α β:Type}{R:α->β->Prop}{as:List α}{bs:List β}(h:Al2 R as bs):cU R as bs:=by
 induction h with
 |nil=>exact .nil
 |cons r _ ih=>exact .cons r ih
def PlR (K:bEX)(H0:Hp)(es:List En)(D:Addr)(i:Nat)(H:Hp)(y:V):Prop:=∃e v L tp,es[i]?=some e/\y=.ref tp/\SqT K H tp [.str e.n,v]/\rC K H v e.vh e.vp L { e.t with rows:=srt e.t.rows }/\L≠D/\H0 L=none
theorem rC.nU {K:bEX}{H:Hp}{D L:Addr}{ys zs:List V}{v vh vp:V}{t:Tb}(gD:H D=some (.lst ys))(hne:L≠D)(h:rC K H v vh vp L t):rC K (L2.upd H D (.lst zs)) v vh vp L t:=by
 obtain⟨a,rfl,ha,⟨b,us,rfl,hb,hu⟩,h2,⟨ws,h3,h4⟩⟩:=h;refine⟨a,rfl,SqT.nU gD ha,⟨b,us,rfl,SqT.nU gD hb,hu.imp λ_ _ ⟨p,e,hp⟩=>⟨p,e,SqT.nU gD hp⟩⟩,?_,⟨ws,by rw[aN hne];exact h3,h4.imp λ_ _ ⟨p,e,hp⟩=>⟨p,e,SqT.nU gD hp⟩⟩⟩;cases hpl:t.pl with
 |copies=>rw[hpl] at h2;obtain⟨a2,rfl,ha2⟩:=h2;exact⟨a2,rfl,SqT.nU gD ha2⟩
 |keys n=>rw[hpl] at h2;obtain⟨a2,rfl,ha2⟩:=h2;exact⟨a2,rfl,SqT.nU gD ha2⟩
 |spans n h0 cs=>rw[hpl] at h2;obtain⟨a2,vc,rfl,ha2,⟨c,us,rfl,hc,hu⟩⟩:=h2;exact⟨a2,_,rfl,SqT.nU gD ha2,c,us,rfl,SqT.nU gD hc,hu.imp λ_ _ ⟨p,e,hp⟩=>⟨p,e,SqT.nU gD hp⟩⟩
theorem aN8 {K:bEX}{H0 H:Hp}{D:Addr}:∀{es:List En} {ys:List V},ys.length=es.length->(∀(i:Nat) (y:V),ys[i]?=some y->PlR K H0 es D i H y) ->
  ∃es',cU (λe e'=>∃v L,e'=aBf e v L/\H0 L=none) es es'/\cU (λy (e':En)=>∃tp,y=.ref tp/\SqT K H tp [.str e'.n,e'.v]) ys es'/\∀e'∈es',rC K H e'.v e'.vh e'.vp e'.L e'.t
 |[],[],_,_=>⟨[],.nil,.nil,λe h=>by cases h⟩
 |en::es,y::ys,hl,h=>by
  obtain⟨es',a1,a2,a3⟩:=aN8 (es:=es) (ys:=ys) (Nat.succ.inj hl) λi y hy=>by obtain⟨e,v,L,tp,he,r⟩:=h (i+1) y (by simpa using hy);exact⟨e,v,L,tp,by simpa using he,r⟩
  obtain⟨e,v,L,tp,he,rfl,ht,hb,_,hL⟩:=h 0 y rfl;cases he;refine⟨aBf en v L::es',.cons ⟨v,L,rfl,hL⟩ a1,.cons ⟨tp,rfl,ht⟩ a2,λe' h'=>?_⟩;rcases List.mem_cons.mp h' with rfl|h'
  ·exact hb
  ·exact a3 e' h'
theorem aYh {K:bEX}{H:Hp}{ys:List V}{es':List En}(h:cU (λy (e':En)=>∃tp,y=.ref tp/\SqT K H tp [.str e'.n,e'.v]) ys es'):aS4 K H ys (enK es'):=by
 unfold enK
 induction h with
 |nil=>exact .nil
 |cons r _ ih=>exact .cons r ih
theorem aG9 {H0:Hp}{es es':List En}(h:cU (λe e'=>∃v L,e'=aBf e v L/\H0 L=none) es es'):es'.map (·.n)=es.map (·.n):=by
 induction h with
 |nil=>rfl
 |cons r _ ih=>obtain⟨v,L,rfl,_⟩:=r;rw[bAV,bAV,ih];rfl
theorem xF (T:Txt w K mg){Pt:Addr}(aHc:Ok P w K mg base 9 "need_town" ["houses","tables"] (aN6 K Pt)):Ok P w K mg base 10 "placed_tables" ["houses","tables"] (xU K Pt):=by
 refine Ok.ofV T.yZ xP (λvs H Q E h=>?_) (λf cdv A outer s H vs Q E hr h=>?_)
 ·obtain⟨d,m,es,rfl,_⟩:=h;rfl
 obtain⟨d,m,es,rfl,m1,m6,hE,hok,hP,q⟩:=h;refine⟨_,(aC (mW (aO (aHc.mono (by decide)) hr (by rfl) (aB (vv 0) (aB (vv 1) aA)))) (aG (aL (cW (aK9 rfl) (by rfl) T.aQl aOa (aB (aUl (cJ (N:=["name","table"]) (by trivial) (lY (by decide +kernel)) rfl (aDc (vv 1)) (λcl s' H' fp=>⟨(sE (K:=K) (n:=2) rfl (bF (aM (i:=0) (show (["name","table"]:List Str).Nodup from by decide +kernel) rfl (Or.inl rfl)) (bF (aM (i:=1) (show (["name","table"]:List Str).Nodup from by decide +kernel) rfl (Or.inl rfl)) fM))),gO,(dZ (aB (vv 0) (aB (dZ (aB (aP (bO (K:=K)) (vv 1) aF (λ_ _=>rfl)) (aB (aP (bO (K:=K)) (vv 1) aF (λ_ _=>rfl)) (aB (aK (aJh (K:=K)) (by rfl) T.fH dO (aB (aP (bO (K:=K)) (vv 1) aF (λ_ _=>rfl)) aA)) aA)))) aA)))⟩))) aA))))),?_⟩;refine⟨_,rfl,_,rfl,d,m,es,rfl,m1,m6,hE,hok,hP,λH1 s1=>?_⟩;have hE1:=hE.same s1;dsimp only[sY,tCB,eQ];refine⟨d,enK es,hE1.at_,λnf=>aQz [none,none] rR ⟨_,rfl,d,_,rfl,hE1.at_,aN9,nf,λo=>?_⟩⟩;have b0:But d H1 (L2.upd H1 d (.frz o (.dK (enK es)))):=But.upd;have g0:L2.upd H1 d (.frz o (.dK (enK es))) d=some (.frz o (.dK (enK es))):=aH;have n0:∀b,L2.upd H1 d (.frz o (.dK (enK es))) b=none->H1 b=none:=λb h=>by
  by_cases e:b=d
  ·rw[e,aH] at h;cases h
  ·rw[aN e] at h;exact h
 generalize L2.upd H1 d (.frz o (.dK (enK es)))=B at b0 g0 n0 ⊢;refine aG3 g0 ⟨none,none,rfl⟩ (by rw[aNr];have:=hE.few;lia) (PlR K H es) ?_ ?_ (λi kv ek H' R D ys sm hD gD r=>?_) λD H' ys sm hD gD ly hy=>?_
 ·rintro D i H2 H3 y s2 ⟨e,v,L,tp,he,rfl,ht,hb,hne⟩;exact⟨e,v,L,tp,he,rfl,s2.aV ht,hb.same s2,hne⟩
 ·rintro D i H2 ys zs y gD ⟨e,v,L,tp,he,rfl,ht,hb,hne,h0⟩;exact⟨e,v,L,tp,he,rfl,SqT.nU gD ht,hb.nU gD hne,hne,h0⟩
 ·obtain⟨en,he,rfl⟩:=aSt ek;have hm:=v6 he;have hok1:=hok en hm;obtain⟨a,ev,ha,h1,h2,⟨us,h3,h4⟩⟩:=(b0.same sm).tb (eU.dK hE1.at_) (hE1.tb en hm);have lu:=h4.len;have few:=hok1.few;refine⟨_,rfl,_,rfl,a,_,0,_,ev,rfl,ha,at0 _ _,_,rfl,a,_,1,_,ev,rfl,ha,at1 _ _ _,_,rfl,a,_,2,_,ev,rfl,ha,at2 _ _ _ _,en.L,us,en.t.rows,knds en.t.hd,rfl,SqL.of h3,cX h4,by lia,mU hok1.hd.1,λr hr'=>jY (hok1.rows r hr'),λL' H2 us' hN s2 g2 h5=>?_⟩;refine⟨by show 3<=sizeLine;decide,λt1 H3 _ s3 g3=>⟨by show 2<=sizeLine;decide,λt2 H4 _ s4 g4=>r _ H4 (s2.trans (s3.trans s4)) ?_⟩⟩;have s24:=s2.trans (s3.trans s4);refine⟨en,.ref t1,L',t2,he,rfl,SqT.of g4,⟨t1,rfl,s4.aV (SqT.of g3),h1.same s24,h2.same s24,⟨us',(s3.trans s4) _ _ g2,(jZ h5).imp λ_ _ z=>z.same s24⟩⟩,λz=>?_,none_of s1 (n0 _ (none_of sm hN))⟩;rw[z,gD] at hN;cases hN
 ·rw[aNr] at ly;obtain⟨es',a1,a2,a3⟩:=aN8 ly hy;have bD:=b0.same sm;refine⟨⟨o,sm _ _ g0⟩,?_⟩;have nz:eU H' d:=eU.fz (sm _ _ g0);have bz:But d H' (L2.upd H' d (.dK (enK es))):=But.upd;have s05:Same H1 (L2.upd H' d (.dK (enK es))):=bD.thaw hE1.at_;have gD5:=bz.lst nz gD;have a2':cU (λy (e':En)=>∃tp,y=.ref tp/\SqT K (L2.upd H' d (.dK (enK es))) tp [.str e'.n,e'.v]) ys es':=a2.imp λy e' ⟨tp,ey,ht⟩=>⟨tp,ey,bz.aV nz ht⟩;have hdn:H D=none:=none_of s1 (n0 _ hD);generalize L2.upd H' d (.dK (enK es))=H5 at bz s05 gD5 a2';have le:=a2.len;have la:=a1.len;have fw:=hE.few;refine⟨D,ys,enK es',rfl,gD5,aYh a2',by lia,λp H6 hN s6 g6=>?_⟩;have ndn:(es'.map (·.n)).Nodup:=by rw[aG9 a1];exact hE.nd
  have ndk:((enK es').map (·.1)).Nodup:=by unfold enK;rw[bDF];exact List.pairwise_map.mpr ((List.pairwise_map.mp ndn).imp λ{a b} hab z=>hab (Sum.inr.inj z))
  rw[aA8 _ [] (by rw[bDN];exact ndk),bDN] at g6;refine q p H6 es' (none_of s1 (none_of s05 hN)) (s1.trans (s05.trans s6)) ⟨g6,ndn,by lia,λe' h'=>?_,λe' h'=>(bz.tb nz (a3 e' h')).same s6⟩ a1;have:e'.n∈es.map (·.n):=by rw[<-aG9 a1];exact bEJ h'
  obtain⟨e0,h0,e1⟩:=List.mem_map.mp this;rw[<-e1];exact hE.nm e0 h0
end
end My
namespace L2
open PySem PySem.Spec PyProof.Rows
section
variable {X:Cx}{scope:Scope}{N:List Str}{wi:TI}{te:TE}{σ:L2.St}{H:Hp}{Q:VK}
theorem aA9 {tt:TT}(xs:List V)(p:Nat->Bool)(σ0:L2.St)(hsz:xs.length<=sizeLine){J:It}(go:∀H' i x,Same H H'->xs[i]?=some x->J.go i H'/\∀y H2,J.yld i H' y H2->H2=H'/\y=x)(stop:∀H',Same H H'->J.stop xs.length H')
  (ht:∀(i:Nat) (x:V),xs[i]?=some x->∀H' R l,Same H H'->(∀H2,Same H' H2->R (p i) H2)->tt ((σ0.set 0 l).set 0 (some x)) H' R) (h0:σ0[0]?=some none)
  (q:∀D H',H D=none->Same H H'->H' D=some (.lst (sel p 0 xs))->Q (.ref D) H'):qW J H σ0 (cB 0) tt (aPn 0) Q:=by
 intro D hD;refine⟨λi m σ' H' ys=>i<=xs.length/\m=xs.length - i/\(∃l,σ'=σ0.set 0 l)/\Same H H'/\H' D=some (.lst ys)/\ys=sel p 0 (xs.take i),⟨xs.length,bAE _,rfl,⟨none,lL h0⟩,aW hD _,aH,rfl⟩,?_⟩;rintro i m σ' H' ys ⟨hi,rfl,⟨l,rfl⟩,sm,hL,rfl⟩;refine⟨hL,?_⟩;by_cases hlt:i<xs.length
 ·right;obtain⟨g1,g2⟩:=go H' i xs[i] sm (d7 hlt);refine⟨g1,λx H2 hy=>?_⟩;obtain⟨rfl,rfl⟩:=g2 x H2 hy;unfold cB;dsimp only;have hj:0<σ0.length:=by
   by_cases z:0<σ0.length
   ·exact z
   ·rw[bAC (by lia)] at h0;cases h0
  have tk:sel p 0 (xs.take (i+1))=sel p 0 (xs.take i)++(if p i then [xs[i]] else []):=by rw[bBH,d7 hlt];show sel p 0 (xs.take i++[xs[i]])=_;rw[aA6,bAM,bCS,Nat.min_eq_left (bC1 hlt)]
  refine ht i xs[i] (d7 hlt) _ _ l sm λH3 s3=>?_;cases hp:p i with
  |true=>
   rw[if_pos rfl];refine⟨xs[i],by rw[bB5,bDU hj],s3 _ _ hL,?_,xs.length - (i+1),by lia,hlt,rfl,⟨some xs[i],by rw[bB5]⟩,?_,aH,?_⟩
   ·have:=aGv p 0 (xs.take i);rw[bAM] at this;lia
   ·intro b o e;rw[aN (aU e hD)];exact s3 _ _ (sm _ _ e)
   ·rw[tk,hp];rfl
  |false=>rw[if_neg (by simp)];refine⟨s3 _ _ hL,xs.length - (i+1),by lia,hlt,rfl,⟨some xs[i],by rw[bB5]⟩,sm.trans s3,s3 _ _ hL,?_⟩;rw[tk,hp];simp
 ·left;have e:i=xs.length:=by lia
  subst e;refine⟨stop _ sm,?_⟩;rw[bCN] at hL;exact q D _ hD sm hL
theorem aDa {tt:TT}(xs:List V)(p:Nat->Bool)(σ0:L2.St)(cap:Cap X scope N σ σ0)(hsz:xs.length<=sizeLine)
  (hw:∀R:It->Hp->Prop,(∀J:It,(∀H' i x,Same H H'->xs[i]?=some x->J.go i H'/\∀y H2,J.yld i H' y H2->H2=H'/\y=x)->(∀H',Same H H'->J.stop xs.length H')->R J H)->wi σ H R)
  (ht:∀(i:Nat) (x:V),xs[i]?=some x->∀H' R l,Same H H'->(∀H2,Same H' H2->R (p i) H2)->tt ((σ0.set 0 l).set 0 (some x)) H' R) (h0:σ0[0]?=some none)
  (q:∀D H',H D=none->Same H H'->H' D=some (.lst (sel p 0 xs))->Q (.ref D) H') :
  kZ X scope N wi (cB 0) tt (aPn 0) σ H Q:=
 ⟨σ0,cap,hw _ λJ go stop=>aA9 xs p σ0 hsz go stop ht h0 q⟩
end
end L2
namespace My
open PySem PySem.Spec PyProof.Rows L2
section
variable {P:Program}{w:World}{K:bEX}{mg:bE0}{base:Heap}
section
variable {X:Cx}
def aYb:R2:=λx y H Q=>(∃a b,x=.int a/\y=.int b/\Q (.bl (!decide (b<a))) H)\/∃a b:Str,x=.str a/\y=.str b/\Q (.bl (!decide (b.cps.toList<a.cps.toList))) H
theorem aQy:OpR X (compareOp .LtE) aYb:=by
 intro bE1 s σ H x y v u Q I rx ry h;rcases h with⟨a,b,rfl,rfl,q⟩|⟨a,b,rfl,rfl,q⟩
 ·obtain⟨t,rfl⟩:=rx;obtain⟨t',rfl⟩:=ry;refine PyProof.Rows.le_int ?_;rw[show decide (a<=b)=!decide (b<a) by by_cases h:b<a <;> simp[h] <;> lia];exact⟨.bl _,H,I,rfl,q⟩
 ·obtain⟨t,rfl⟩:=rx;obtain⟨t',rfl⟩:=ry;exact P.le_str ⟨.bl _,H,I,rfl,q⟩
end
theorem aP0 {X:Cx}{tg a b:Expr}{t:TA}{p pos:Pos}(hg:Gl X "range")(hm:X.mg "range"=none)(ha:VA X [a,b] t)(hp:dB a=true:=by rfl)(hp2:dB b=true:=by rfl):VI X tg (.Call (.Name "range" p) [a,b] [] pos) (aW7 t):=⟨aOj hg hm ha.1 (by rw[aQ hp,aQ (es:=[]) hp2];rfl) (by rw[aQ (es:=[]) hp2];rfl)⟩
def uP (K:bEX):Sp:=λvs H Q _=>∃(d:Addr) (es:List En) (e:En),vs=[.ref d,.str e.n]/\lX K H d es/\e∈es/\∀H',Same H H'->Q e.v H'
theorem aFl:∀{es:List En} {e:En},(es.map (·.n)).Nodup->e∈es->rA (enK es) (Sum.inr e.n)=some e.v
 |[],e,nd,h=>by cases h
 |a::es,e,nd,h=>by
  rw[bAV,bDM] at nd;rcases List.mem_cons.mp h with rfl|h
  ·exact pX rfl
  ·have:a.n≠e.n:=λz=>nd.1 (z ▸ bEJ h);show rA ((Sum.inr a.n,a.v)::enK es) (Sum.inr e.n)=_;rw[vN (λz=>this (Sum.inr.inj z))];exact aFl nd.2 h
theorem aI0 (T:Txt w K mg)(jL:Ok P w K mg base 2 "is_name" ["thing"] (aC3 K nameB)):Ok P w K mg base 3 "table_in" ["placed","name"] (uP K):=by
 refine Ok.ofV T.aL4 aJv (λvs H Q E h=>?_) (λf cdv A outer s H vs Q E hr h=>?_)
 ·obtain⟨d,es,e,rfl,_⟩:=h;rfl
 obtain⟨d,es,e,rfl,hE,he,q⟩:=h;have hu:=tG hr;refine⟨_,(aC (cA (VW.pt (fB (cG (bV (aO (jL.mono (by decide)) hr (by rfl) (aB (vv 1) aA)))) (dN (aD8 hu (vv 1) (vv 0))))) (aG fX) aZ) (aG (aL (zX hu (vv 0) (vv 1) (λ_ _=>rfl))))),?_⟩;refine⟨_,rfl,_,rfl,(hE.nm e he).th,λH1 s1=>⟨_,rfl,?_⟩⟩;rw[show nameB (.str e.n)=true from hE.nm e he];refine bY ?_;have hv:=aFl hE.nd he;refine⟨_,rfl,_,rfl,d,_,rfl,.inl ⟨_,Sum.inr e.n,.inl (s1 _ _ hE.at_),rfl,rfl⟩,_,rfl,?_⟩;rw[hv];refine bY ?_;exact⟨_,rfl,_,rfl,d,e.v,rfl,.inl ⟨_,Sum.inr e.n,.inl (s1 _ _ hE.at_),rfl,hv.symm⟩,q H1 s1⟩
theorem aY4 {kd:Str}{a b:V}{H:Hp}{Q:VK}(ha:cF kd a)(hb:cF kd b)(q:Q (.bl (!vlt b a)) H):aYb a b H Q:=by
 cases ha with
 |num=>cases hb;exact .inl ⟨_,_,rfl,rfl,q⟩
 |wrd _ _=>cases hb;exact .inr ⟨_,_,rfl,rfl,q⟩
def jK (v:V):List (V × Int)->Nat->Nat->Nat
 |[],_,n=>n
 |c::t,p,n=>jK v t (p+1) (if vlt v c.1=true then n else p)
theorem xT (v:V):∀(l:List (V × Int)) (c:V × Int) (p n:Nat),jK v (l++[c]) p n=if vlt v c.1=true then jK v l p n else p+l.length
 |[],c,p,n=>by show (if _ then _ else _)=_;rfl
 |a::l,c,p,n=>by
  show jK v (l++[c]) (p+1) _=_;rw[xT v l c];show (if _ then jK v l (p+1) _ else p+1+l.length)=if _ then jK v l (p+1) _ else p+(l.length+1)
  rw[show p+1+l.length=p+(l.length+1) by lia]
theorem aMk (v:V)(l:List (V × Int)):jK v l 1 0<=l.length:=by
 suffices ∀(l:List (V × Int)) (p n:Nat),n<=p+l.length - 1\/n=0->jK v l p n<=p+l.length - 1\/jK v l p n=0 by rcases this l 1 0 (.inr rfl) with h|h <;> lia
 intro l
 induction l with
 |nil=>intro p n h;exact h
 |cons c t ih=>
  intro p n h;have:=ih (p+1) (if vlt v c.1=true then n else p) (by
   rw[v7] at h
   split
   ·rcases h with h|h
    ·left;lia
    ·right;exact h
   ·left;lia)
  rw[v7];rcases this with h|h
  ·left;show jK v t (p+1) _<=_;lia
  ·right;exact h
def aAr (K:bEX):Sp:=λvs H Q _=>∃(vc v:V) (kd:Str) (h0:Int) (cs:List (V × Int)),vs=[vc,v]/\qP K H (jU K H) vc ((.non,h0)::cs)/\cs.length<=7/\cF kd v/\(∀c∈cs,cF kd c.1)/\Q (.int (jK v cs 1 0:Nat)) H
theorem aOe (T:Txt w K mg):Ok P w K mg base 1 "cut_of" ["cuts","value"] (aAr K):=by
 refine Ok.ofV T.aQ4 sG (λvs H Q E h=>?_) (λf cdv A outer s H vs Q E hr h=>?_)
 ·obtain⟨vc,v,kd,h0,cs,rfl,_⟩:=h;rfl
 obtain⟨vc,v,kd,h0,cs,rfl,⟨a,us,rfl,ha,hu⟩,l7,hk,hks,q⟩:=h;refine⟨_,(aC (aX (i:=2) sG.nd rfl (by trivial) aF) (aC (jF PassesOwn.never rfl (aP0 (by rfl) T.lE (aB aF (aB (aK bA (by rfl) T.fJ cZ (aB (vv 0) aA)) aA))) (aM (i:=3) sG.nd rfl (by trivial)) (aG (cA (bC aQy (aP bH (aP bH (vv 0) (vv 3) (λ_ _=>rfl)) aF (λ_ _=>rfl)) (vv 1) (aY _)) (aG (aX (i:=2) sG.nd rfl (by trivial) (vv 3))) aZ))) (aG (aL (vv 2))))),?_⟩;have lu:=hu.len;rw[v7] at lu;have lt:us.length<=8:=by lia
 refine⟨_,rfl,_,_,rfl,.inr ha,1,us.length,rfl,⟨by decide,by decide,by lia,by lia⟩,?_⟩;rw[show ((us.length:Int) - 1).toNat=cs.length by lia];refine jH (λi σ H'=>H'=H/\∃l,σ=[some (.ref a),some v,some (.int (jK v (cs.take i) 1 0:Nat)),l]) ⟨rfl,_,rfl⟩ (λi σ H' hi p=>?_) fun σ H' p=>?_
 ·obtain⟨rfl,l,rfl⟩:=p;have hi1:i+1<us.length:=by lia
  obtain⟨c,hc,pc,epc,hpc⟩:=cM hu (d7 hi1);rw[List.getElem?_cons_succ] at hc;have e:atI us (1+(i:Int))=some (.ref pc):=by rw[show (1+(i:Int))=((i+1:Nat):Int) by lia,<-epc];exact cL (d7 hi1)
  have hck:=hks c (v6 hc);have tk:cs.take (i+1)=cs.take i++[c]:=by rw[bBH,hc];rfl
  have hlt:(cs.take i).length=i:=by rw[bAM];lia
  refine⟨_,rfl,_,rfl,a,us,_,_,rfl,rfl,ha,e,pc,_,0,_,rfl,rfl,hpc,at0 _ _,_,rfl,aY4 hck hk ⟨_,rfl,?_⟩⟩;have sn:=xT v (cs.take i) c 1 0;rw[<-tk,hlt] at sn;cases hv:vlt v c.1 with
  |true=>rw[hv,if_pos rfl] at sn;exact bY ⟨rfl,some (.int (1+(i:Int))),by rw[sn];rfl⟩
  |false=>rw[hv,if_neg t8] at sn;refine fV ⟨_,rfl,rfl,some (.int (1+(i:Int))),?_⟩;rw[sn,show (((1+i:Nat)):Int)=1+(i:Int) by lia];rfl
 ·obtain⟨rfl,l,rfl⟩:=p;rw[bAW (j0 _)];exact⟨_,rfl,q⟩
def cD (hd:Hdr)(m:Int)(r:List V)(house:Int):Plc->Bool
 |.copies=>true
 |.keys n=>decide (nm (r.getD (plc hd n) .non) % m=house)
 |.spans n h0 cs=>decide ((((.non,h0)::cs).map (·.2)).getD (jK (r.getD (plc hd n) .non) cs 1 0) 0=house)
def aDo (K:bEX):Sp:=λvs H Q _=>∃(vh vp vr:V) (house m:Int) (hd:Hdr) (pl:Plc) (r:List V),vs=[vh,vp,vr,.int house,.int m]/\kI K H vh hd/\aTf hd/\qQ K H vp pl/\aUs hd m pl/\cT K H vr r/\pP hd r/\0<m/\∀H',Same H H'->Q (.bl (cD hd m r house pl)) H'
theorem aG6 {hd:Hdr}{r:List V}(h:pP hd r){n k:Str}(hk:look hd n=some k):∃v,r[plc hd n]?=some v/\r.getD (plc hd n) .non=v/\cF k v:=by obtain⟨h1,_⟩:=aGl hk;obtain⟨v,hv,ok⟩:=cM h h1;exact⟨v,hv,by rw[j4,hv];rfl,ok⟩
theorem aF1 (T:Txt w K mg)(tU:Ok P w K mg base 2 "place_of" ["head","name"] (oA K))(aZ0:Ok P w K mg base 2 "home" ["value","houses"] aNc)(aAv:Ok P w K mg base 1 "cut_of" ["cuts","value"] (aAr K)):Ok P w K mg base 3 "stands_at" ["head","placing","row","house","houses"] (aDo K):=by
 refine Ok.ofV T.aIj oU (λvs H Q E h=>?_) (λf cdv A outer s H vs Q E hr h=>?_)
 ·obtain⟨vh,vp,vr,house,m,hd,pl,r,rfl,_⟩:=h;rfl
 obtain⟨vh,vp,vr,house,m,hd,pl,r,rfl,hI,hok,hpl,plok,⟨ra,rfl,hra⟩,hr',m0,q⟩:=h;have l8:=hok.1.2.2;refine⟨_,(aC (cA (bC fK (aP bH (vv 1) aF (λ_ _=>rfl)) bN (aY _)) (aG (aL gQ)) aZ) (aC (aX (i:=5) oU.nd rfl (by trivial) (aP bH (vv 2) (aO (tU.mono (by decide)) hr (by rfl) (aB (vv 0) (aB (aP bH (vv 1) aF (λ_ _=>rfl)) aA))) (λ_ _=>rfl))) (aC (cA (bC fK (aP bH (vv 1) aF (λ_ _=>rfl)) bN (aY _)) (aG (aL (cQ fK (aO (aZ0.mono (by decide)) hr (by rfl) (aB (vv 5) (aB (vv 4) aA))) (vv 3) (aY _)))) aZ) (aC (aX (i:=6) oU.nd rfl (by trivial) (aP bH (vv 1) aF (λ_ _=>rfl))) (aG (aL (cQ fK (aP bH (aP bH (vv 6) (aO (aAv.mono (by decide)) hr (by rfl) (aB (vv 6) (aB (vv 5) aA))) (λ_ _=>rfl)) aF (λ_ _=>rfl)) (vv 3) (aY _)))))))),?_⟩;cases pl with
 |copies=>obtain⟨a,rfl,ha⟩:=hpl;exact⟨_,rfl,a,_,0,_,rfl,rfl,ha,at0 _ _,rfl,_,rfl,fV (q H (Same.refl H))⟩
 |keys n=>
  obtain⟨a,rfl,ha⟩:=hpl;obtain⟨hn,k,hk⟩:=plok;obtain⟨v,hv,hg,okv⟩:=aG6 hr' hk;refine⟨_,rfl,a,_,0,_,rfl,rfl,ha,at0 _ _,rfl,_,rfl,gY (by decide +kernel) ?_⟩;refine⟨_,rfl,_,rfl,_,rfl,a,_,1,_,rfl,rfl,ha,at1 _ _ _,vh,n,hd,k,rfl,hI,by lia,hk,λH1 s1=>?_⟩;refine⟨ra,r,_,v,rfl,rfl,s1.aV hra,cL hv,?_⟩;refine⟨_,rfl,a,_,0,_,rfl,rfl,s1.aV ha,at0 _ _,rfl,_,rfl,nQ (by decide +kernel) ?_⟩;refine⟨_,rfl,_,rfl,v,m,rfl,yC okv,m0,_,rfl,rfl,?_⟩;have e:decide (V.int (nm v % m)=V.int house)=cD hd m r house (.keys n):=by show _=decide (nm (r.getD (plc hd n) .non) % m=house);rw[hg];exact decide_eq_decide.mpr ⟨λz=>V.int.inj z,λz=>congrArg V.int z⟩
  rw[e];exact q H1 s1
 |spans n h0 cs=>
  obtain⟨a,vc,rfl,ha,hc⟩:=hpl;obtain⟨hn,k,hk,hkd,hcs⟩:=plok;obtain⟨v,hv,hg,okv⟩:=aG6 hr' hk;refine⟨_,rfl,a,_,0,_,rfl,rfl,ha,at0 _ _,rfl,_,rfl,gY (by decide +kernel) ?_⟩;refine⟨_,rfl,_,rfl,_,rfl,a,_,1,_,rfl,rfl,ha,at1 _ _ _,vh,n,hd,k,rfl,hI,by lia,hk,λH1 s1=>?_⟩;refine⟨ra,r,_,v,rfl,rfl,s1.aV hra,cL hv,?_⟩;refine⟨_,rfl,a,_,0,_,rfl,rfl,s1.aV ha,at0 _ _,rfl,_,rfl,gY (by decide +kernel) ?_⟩;refine⟨_,rfl,a,_,2,_,rfl,rfl,s1.aV ha,at2 _ _ _ _,?_⟩;have hc1:=qP.same s1 (λ_ _ z=>z.same s1) hc;obtain⟨ca,us,ec,hca,hus⟩:=id hc1;subst ec;have lu:=hus.len;rw[v7] at lu;have nle:=aMk v cs;obtain⟨c,hcc,pc,epc,hpc⟩:=cM hus (d7 (show jK v cs 1 0<us.length by lia));refine⟨_,rfl,_,rfl,_,rfl,.ref ca,v,k,h0,cs,rfl,hc1,hcs.few,okv,λc hc=>(hcs.each c hc).1,ca,us,_,.ref pc,rfl,rfl,hca,cL (by rw[d7 (show jK v cs 1 0<us.length by lia),epc]),pc,_,1,_,rfl,rfl,hpc,at1 _ _ _,_,rfl,rfl,?_⟩;have e:decide (V.int c.2=V.int house)=cD hd m r house (.spans n h0 cs):=by show _=decide ((((.non,h0)::cs).map (·.2)).getD (jK (r.getD (plc hd n) .non) cs 1 0) 0=house);rw[hg,j4,v9,hcc];exact decide_eq_decide.mpr ⟨λz=>V.int.inj z,λz=>congrArg V.int z⟩
  rw[e];exact q H1 s1
theorem mF {α:Type}{p:Nat->Bool}{p':α->Bool}:∀{k:Nat} {xs:List α},(∀(i:Nat) (x:α),xs[i]?=some x->p (k+i)=p' x)->sel p k xs=xs.filter p'
 |_,[],_=>rfl
 |k,x::r,h=>by have h0:=h 0 x rfl;rw[Nat.add_zero] at h0;show (if p k then x::sel p (k+1) r else sel p (k+1) r)=_;rw[bEA,h0,mF (k:=k+1) (xs:=r) λi y e=>by rw[show k+1+i=k+(i+1) by lia];exact h (i+1) y (by simpa using e)]
theorem aB2 {α β:Type}{R:α->β->Prop}{p:Nat->Bool}{as:List α}{bs:List β}(h:cU R as bs):∀k,cU R (sel p k as) (sel p k bs):=by
 induction h with
 |nil=>exact λ_=>.nil
 |@cons a b as bs r _ ih=>
  intro k;show cU R (if p k then a::sel p (k+1) as else sel p (k+1) as) (if p k then b::sel p (k+1) bs else sel p (k+1) bs)
  split
  ·exact .cons r (ih _)
  ·exact ih _
theorem zW {X:Cx}{scope:Scope}{x y z y3:Str}{σ:L2.St}{u v u3:V}(i j k:Nat)(hf:(y,NameKind.free)∈scope.names)(hg:(z,NameKind.free)∈scope.names)(hf3:(y3,NameKind.free)∈scope.names)(hi:X.N[i]?=some y)(hj:X.N[j]?=some z)(hk:X.N[k]?=some y3)(hs:σ[i]?=some (some u))(ht:σ[j]?=some (some v))(hs3:σ[k]?=some (some u3))(hv:Vis X.env.scope y)(hw:Vis X.env.scope z)(hv3:Vis X.env.scope y3):Cap X scope [x,y,z,y3] σ [none,some u,some v,some u3]:=
 ⟨rfl,λn q r h1 h2=>by
  match n,h1,h2 with
  |0,_,h2=>cases h2
  |1,h1,h2=>cases h1;cases h2;exact⟨hf,i,hi,hs,hv⟩
  |2,h1,h2=>cases h1;cases h2;exact⟨hg,j,hj,ht,hw⟩
  |3,h1,h2=>cases h1;cases h2;exact⟨hf3,k,hk,hs3,hv3⟩
  |n+4,h1,_=>cases h1⟩
def wX (K:bEX):Sp:=λvs H Q _=>∃(v vh vp:V) (L:Addr) (t:Tb) (house m:Int),vs=[v,.int house,.int m]/\rC K H v vh vp L t/\pD m t/\0<=house/\house<m /\
 ∀D' H',H D'=none->Same H H'->cC K H' D' (t.rows.filter λr=>cD t.hd m r house t.pl)->Q (.ref D') H'
theorem aMd (T:Txt w K mg)(cR:Ok P w K mg base 2 "is_number_below" ["thing","many"] wI)(aIr:Ok P w K mg base 3 "stands_at" ["head","placing","row","house","houses"] (aDo K)):Ok P w K mg base 4 "rows_at" ["table","house","houses"] (wX K):=by
 refine Ok.ofV T.aPo aMg (λvs H Q E h=>?_) (λf cdv A outer s H vs Q E hr h=>?_)
 ·obtain⟨v,vh,vp,L,t,house,m,rfl,_⟩:=h;rfl
 obtain⟨v,vh,vp,L,t,house,m,rfl,hT,ok,h0,hm,q⟩:=h;refine⟨_,(aC (cA (cG (bV (aO (cR.mono (by decide)) hr (by rfl) (aB (vv 1) (aB (vv 2) aA))))) (aG fX) aZ) (aG (aL (cJ (N:=["row","house","houses","table"]) (by trivial) (dX (aD rQ) rfl (by decide +kernel)) rfl (dR (aP (bO (K:=K)) (vv 0) aF (λ_ _=>rfl))) (λcl s' H' fp=>⟨(aM (i:=0) (show (["row","house","houses","table"]:List Str).Nodup from by decide +kernel) rfl (Or.inl rfl)),(lO (bV (aO (aIr.mono (by decide)) hr (by rfl) (aB (aP (bO (K:=K)) (vv 3) aF (λ_ _=>rfl)) (aB (aP (bO (K:=K)) (vv 3) aF (λ_ _=>rfl)) (aB (vv 0) (aB (vv 1) (aB (vv 2) aA)))))))),(vv 0)⟩))))),?_⟩;refine⟨_,rfl,_,rfl,house,m,rfl,_,rfl,?_⟩;rw[t6 h0,t6 hm];refine bY ?_;obtain⟨a,rfl,ha,hI,hpl,⟨us,hL,hu⟩⟩:=hT;have lu:=hu.len;have fw:=ok.few;have m0:0<m:=by lia
 refine aDa us (λi=>cD t.hd m (t.rows.getD i []) house t.pl) [none,some (.int house),some (.int m),some (.ref a)] ?_ (small (by lia)) (λR r=>aNt (λH' sm=>SqL.of (sm _ _ hL)) (λR' r'=>⟨_,rfl,a,_,2,_,rfl,rfl,ha,at2 _ _ _ _,r'⟩) R r) (λi u ex H' R l sm rr=>?_) rfl λD' H' hN sm hD'=>?_
 ·exact zW 1 2 0 (by decide +kernel) (by decide +kernel) (by decide +kernel) rfl rfl rfl rfl rfl rfl (by trivial) (by trivial) (by trivial)
 ·obtain⟨r,er,hr'⟩:=cM hu ex;have hkr:=ok.rows r (v6 er);have eg:t.rows.getD i []=r:=by rw[j4,er];rfl
  rw[eg] at rr;refine⟨_,rfl,a,_,0,_,rfl,rfl,sm.aV ha,at0 _ _,_,rfl,a,_,1,_,rfl,rfl,sm.aV ha,at1 _ _ _,_,rfl,_,rfl,_,rfl,vh,vp,u,house,m,t.hd,t.pl,r,rfl,hI.same sm,ok.hd,hpl.same sm,ok.pl,hr'.same sm,hkr,m0,λH2 s2=>⟨_,rfl,rr H2 s2⟩⟩
 ·refine q D' H' hN sm ⟨_,hD',?_⟩;have e:(t.rows.filter λr=>cD t.hd m r house t.pl)=sel (λi=>cD t.hd m (t.rows.getD i []) house t.pl) 0 t.rows:=(mF λi r er=>by rw[bCS,j4,er];rfl).symm;rw[e];exact (aB2 hu 0).imp λ_ _ r=>r.same sm
def rM (K:bEX)(H:Hp)(C x:Addr)(m:Int)(d:Addr)(es:List En):Prop:=(∃dx,H x=some (.ins C dx [("placed",.ref d),("house_count",.int m)]))/\lX K H d es/\∀e∈es,pD m e.t
theorem rM.same {H H':Hp}{C x d:Addr}{m:Int}{es:List En}(s:Same H H')(h:rM K H C x m d es):rM K H' C x m d es:=by obtain⟨⟨dx,h1⟩,h2,h3⟩:=h;exact⟨⟨dx,s _ _ h1⟩,h2.same s,h3⟩
theorem eU.ins {H:Hp}{x C dx:Addr}{fs:List (Str × V)}(h:H x=some (.ins C dx fs)):eU H x:=⟨λ_ z=>(by rw[h] at z;cases z),λ_ _ z=>(by rw[h] at z;cases z),λ_ z=>(by rw[h] at z;cases z)⟩
theorem aD6 {α β:Type}{R:α->β->Prop}{as:List α}{bs:List β}(h:cU R as bs){b:β}(hb:b∈bs):∃a∈as,R a b:=by
 induction h with
 |nil=>cases hb
 |cons r _ ih=>
  rcases List.mem_cons.mp hb with rfl|hb
  ·exact⟨_,j8,r⟩
  ·obtain⟨a,h1,h2⟩:=ih hb;exact⟨a,j6 _ h1,h2⟩
theorem pD.sorted {m:Int}{t:Tb}(h:pD m t):pD m { t with rows:=srt t.rows }:=⟨h.hd,h.pl,by show (srt t.rows).length<=60;rw[zQ];exact h.few,λr hr=>h.rows r (jP hr)⟩
def aN0 (K:bEX)(C Pt:Addr):Sp:=λvs H Q _=>∃(H0:Hp) (x dx d:Addr) (m:Int) (es:List En),vs=[.ref x,.int m,.ref d]/\H x=some (.ins C dx [])/\H0 x=none/\Same H0 H/\1<=m/\m<=6/\lX K H0 d es/\(∀e∈es,pD m e.t)/\H0 Pt=some (.tab qC) /\
 ∀d' H' es',H0 d'=none->Same H0 H'->rM K H' C x m d' es'->cU (λe e'=>∃v L,e'=aBf e v L/\H0 L=none) es es'->Q .non H'
theorem aQ8 (T:Txt w K mg){C Pt:Addr}(c:Cls K C)(D:iD K C "__init__" "Town.__init__" gH ["self","houses","tables"])(n1:bK K C "placed")(n2:bK K C "house_count")(kY:Ok P w K mg base 10 "placed_tables" ["houses","tables"] (xU K Pt)):OkM P w K mg base C 11 "__init__" ["self","houses","tables"] (aN0 K C Pt):=by
 refine OkM.ofV c D wU (λvs H Q E h=>?_) (λf cdv A outer s H vs Q E hr h=>?_)
 ·obtain⟨_,x,dx,d,m,es,rfl,_⟩:=h;rfl
 obtain⟨H0,x,dx,d,m,es,rfl,hx,hN,s0,m1,m6,hE,ok,hP,q⟩:=h;refine⟨_,(aC (aBv (K:=K) (vv 0) (aO (kY.mono (by decide)) hr (by rfl) (aB (vv 1) (aB (vv 2) aA)))) (aG (aBv (K:=K) (vv 0) (vv 1)))),?_⟩;refine⟨_,rfl,_,rfl,d,m,es,rfl,m1,m6,hE.same s0,ok,s0 _ _ hP,λd' H1 es' hd' s1 hE' a1=>?_⟩;have hx1:=s1 _ _ hx;refine⟨_,rfl,x,C,dx,[],rfl,hx1,c,n1,by decide,?_⟩;refine⟨_,rfl,_,rfl,x,C,dx,_,rfl,aH,c,n2,by show 1<1000;decide,?_⟩;have nx:eU H1 x:=eU.ins hx1;have dne:d'≠x:=λz=>by rw[z,hx] at hd';cases hd'
 have b1:But x H1 (L2.upd (L2.upd H1 x (.ins C dx [("placed",.ref d')])) x (.ins C dx [("placed",.ref d'),("house_count",.int m)])):=λb o hb h=>by rw[aN hb,aN hb];exact h
 have s2:Same H0 (L2.upd (L2.upd H1 x (.ins C dx [("placed",.ref d')])) x (.ins C dx [("placed",.ref d'),("house_count",.int m)])):=λb o h=>b1 _ _ (λz=>by rw[z,hN] at h;cases h) (s1 _ _ (s0 _ _ h));refine q d' _ es' (none_of s0 hd') s2 ⟨⟨dx,aH⟩,⟨b1 _ _ dne hE'.at_,hE'.nd,hE'.few,hE'.nm,λe he=>b1.tb nx (hE'.tb e he)⟩,λe he=>?_⟩ (a1.imp λe e' ⟨v,L,e1,e2⟩=>⟨v,L,e1,none_of s0 e2⟩);obtain⟨e0,h0,v,L,rfl,_⟩:=aD6 a1 he;exact (ok e0 h0).sorted
def aAs (K:bEX)(C:Addr):Sp:=λvs H Q _=>∃(x d:Addr) (m:Int) (es:List En) (e:En),vs=[.ref x,.str e.n]/\rM K H C x m d es/\e∈es/\∀H',Same H H'->Q e.vp H'
theorem aI7 (T:Txt w K mg){C:Addr}(c:Cls K C)(D:iD K C "placing" "Town.placing" iU ["self","name"])(n1:bK K C "placed")(dC:Ok P w K mg base 3 "table_in" ["placed","name"] (uP K)):OkM P w K mg base C 4 "placing" ["self","name"] (aAs K C):=by
 refine OkM.ofV c D zM (λvs H Q E h=>?_) (λf cdv A outer s H vs Q E hr h=>?_)
 ·obtain⟨x,d,m,es,e,rfl,_⟩:=h;rfl
 obtain⟨x,d,m,es,e,rfl,⟨⟨dx,hx⟩,hE,ok⟩,he,q⟩:=h;refine⟨_,(aG (aL (aP (bO (K:=K)) (aO (dC.mono (by decide)) hr (by rfl) (aB (dU (K:=K) (vv 0)) (aB (vv 1) aA))) aF (λ_ _=>rfl)))),?_⟩;obtain⟨a,ev,ha,h1,h2,h3⟩:=hE.tb e he;exact⟨_,rfl,x,C,dx,_,_,rfl,hx,c,n1,rfl,_,rfl,d,es,e,rfl,hE,he,λH1 s1=>⟨a,_,1,_,ev,rfl,s1.aV ha,at1 _ _ _,q H1 s1⟩⟩
def wL (K:bEX)(C:Addr):Sp:=λvs H Q _=>∃(x d:Addr) (m:Int) (es:List En) (e:En),vs=[.ref x,.str e.n]/\rM K H C x m d es/\e∈es/\∀L H',H L=none->Same H H'->cC K H' L e.t.rows->Q (.ref L) H'
theorem aPs (T:Txt w K mg){C:Addr}(c:Cls K C)(D:iD K C "whole" "Town.whole" lG ["self","name"])(n1:bK K C "placed")(dC:Ok P w K mg base 3 "table_in" ["placed","name"] (uP K)):OkM P w K mg base C 4 "whole" ["self","name"] (wL K C):=by
 refine OkM.ofV c D aCn (λvs H Q E h=>?_) (λf cdv A outer s H vs Q E hr h=>?_)
 ·obtain⟨x,d,m,es,e,rfl,_⟩:=h;rfl
 obtain⟨x,d,m,es,e,rfl,⟨⟨dx,hx⟩,hE,ok⟩,he,q⟩:=h;refine⟨_,(aG (aL (cW (aJj (K:=K)) (by rfl) T.aEv zV (aB (aP (bO (K:=K)) (aO (dC.mono (by decide)) hr (by rfl) (aB (dU (K:=K) (vv 0)) (aB (vv 1) aA))) aF (λ_ _=>rfl)) aA)))),?_⟩;obtain⟨a,ev,ha,h1,h2,⟨us,h3,h4⟩⟩:=hE.tb e he;have lu:=h4.len;have fw:=(ok e he).few;refine⟨_,rfl,x,C,dx,_,_,rfl,hx,c,n1,rfl,_,rfl,d,es,e,rfl,hE,he,λH1 s1=>⟨a,_,2,_,ev,rfl,s1.aV ha,at2 _ _ _ _,e.L,us,rfl,.inl (SqL.of (s1 _ _ h3)),λL H2 hN s2 g2=>q L H2 (none_of s1 hN) (s1.trans s2) ⟨us,g2,h4.imp λ_ _ r=>r.same (s1.trans s2)⟩⟩⟩
def aMi (K:bEX)(C:Addr):Sp:=λvs H Q _=>∃(x d:Addr) (m house:Int) (es:List En) (e:En),vs=[.ref x,.str e.n,.int house]/\rM K H C x m d es/\e∈es/\0<=house/\house<m/\∀L H',H L=none->Same H H'->cC K H' L (e.t.rows.filter λr=>cD e.t.hd m r house e.t.pl)->Q (.ref L) H'
theorem aQ7 (T:Txt w K mg){C:Addr}(c:Cls K C)(D:iD K C "part" "Town.part" mL ["self","name","house"])(n1:bK K C "placed")(n2:bK K C "house_count")(dC:Ok P w K mg base 3 "table_in" ["placed","name"] (uP K))(yI:Ok P w K mg base 4 "rows_at" ["table","house","houses"] (wX K)):OkM P w K mg base C 5 "part" ["self","name","house"] (aMi K C):=by
 refine OkM.ofV c D aFu (λvs H Q E h=>?_) (λf cdv A outer s H vs Q E hr h=>?_)
 ·obtain⟨x,d,m,house,es,e,rfl,_⟩:=h;rfl
 obtain⟨x,d,m,house,es,e,rfl,⟨⟨dx,hx⟩,hE,ok⟩,he,h0,hm,q⟩:=h;refine⟨_,(aG (aL (aO (yI.mono (by decide)) hr (by rfl) (aB (aO (dC.mono (by decide)) hr (by rfl) (aB (dU (K:=K) (vv 0)) (aB (vv 1) aA))) (aB (vv 2) (aB (dU (K:=K) (vv 0)) aA)))))),?_⟩;refine⟨_,rfl,x,C,dx,_,_,rfl,hx,c,n1,rfl,_,rfl,d,es,e,rfl,hE,he,λH1 s1=>?_⟩;refine⟨_,rfl,_,rfl,x,C,dx,_,_,rfl,s1 _ _ hx,c,n2,rfl,e.v,e.vh,e.vp,e.L,e.t,house,m,rfl,(hE.tb e he).same s1,ok e he,h0,hm,λL H2 hN s2 hR=>q L H2 (none_of s1 hN) (s1.trans s2) hR⟩
end
end My
namespace L2
open PySem PySem.Spec PyProof.Rows
abbrev M61:Int:=2305843009213693951
def kO (H:Hp)(a:Addr):Prop:=∃s:Int,H a=some (.lst [.int s])/\True
structure Fx (a:Addr)(H H':Hp):Prop where
 same:∀b o,b≠a->H b=some o->H' b=some o
 st:kO H' a
theorem Fx.trans {a:Addr}{H H1 H2:Hp}(f:Fx a H H1)(g:Fx a H1 H2):Fx a H H2:=⟨λb o n e=>g.same b o n (f.same b o n e),g.st⟩
theorem kO.same {a:Addr}{H H':Hp}(h:kO H a)(e:Same H H'):kO H' a:=by obtain⟨s,h1,h2⟩:=h;exact⟨s,e _ _ h1,h2⟩
theorem Fx.of {a:Addr}{H H':Hp}(h:kO H a)(e:Same H H'):Fx a H H':=⟨λb o _ q=>e b o q,h.same e⟩
theorem Fx.refl {a:Addr}{H:Hp}(h:kO H a):Fx a H H:=.of h (Same.refl H)
theorem Fx.sm {a:Addr}{H H1 H2:Hp}(f:Fx a H H1)(e:Same H1 H2):Fx a H H2:=f.trans (.of f.st e)
theorem kO.ne {a p:Addr}{H:Hp}(h:kO H a)(f:H p=none):p≠a:=by obtain⟨s,h1,_⟩:=h;exact (aU h1 f).symm
theorem Fx.aV {K:bEX}{a p:Addr}{H H':Hp}{xs:List V}(f:Fx a H H')(h:kO H a)(e:SqT K H p xs):SqT K H' p xs:=by
 obtain⟨s,h1,_⟩:=h;rcases e with (e|⟨o,e⟩)|e
 ·exact .inl (.inl (f.same p _ (aIq e h1 (by intro z;cases z)) e))
 ·exact .inl (.inr ⟨o,f.same p _ (aIq e h1 (by intro z;cases z)) e⟩)
 ·exact .inr e
theorem Fx.upd {a D:Addr}{H H':Hp}{o:HO}(f:Fx a H H')(hD:H D=none)(ne:D≠a):Fx a H (L2.upd H' D o):=⟨λb u n e=>by rw[aN (aU e hD)];exact f.same b u n e,by obtain⟨s,h1,h2⟩:=f.st;exact⟨s,by rw[aN ne.symm];exact h1,h2⟩⟩
theorem Fx.free {a p:Addr}{H H':Hp}(f:Fx a H H')(h:H' p=none):H p=none:=by
 cases e:H p with
 |none=>rfl
 |some o=>
  by_cases z:p=a
  ·subst z;obtain⟨s,hs,_⟩:=f.st;rw[hs] at h;cases h
  ·rw[f.same p o z e] at h;cases h
theorem aQh {a:Addr}{H:Hp}(h:kO H a):aX1 (Fx a) H:=⟨λD o hD=>.of h (aW hD o),λa b=>a.trans b,λD o H' hD f=>f.upd hD (h.ne hD),λD H1 H2 xs hD _ e f=>f.same _ _ (h.ne hD) e⟩
end L2
namespace My
open PySem PySem.Spec PyProof.Rows L2
section
variable {P:Program}{w:World}{K:bEX}{mg:bE0}{base:Heap}
def aM0 (K:bEX):Sp:=λvs H Q _=>∃(a:Addr) (ns:List Int),vs=[.ref a]/\SqL K H a (ns.map V.int)/\ns.length<=63/\∀c H',Same H H'->0<=c->c<M61->Q (.int c) H'
theorem aE7 (T:Txt w K mg):Ok P w K mg base 1 "_law_seed" ["_law_script"] (aM0 K):=by
 refine Ok.ofV T.aIv iQ (λvs H Q E h=>?_) (λf cdv A outer s H vs Q E hr h=>?_)
 ·obtain⟨a,ns,rfl,_⟩:=h;rfl
 obtain⟨a,ns,rfl,ha,h63,q⟩:=h;refine⟨_,(aC (aX (i:=1) iQ.nd rfl (by trivial) aF) (aC (jF PassesOwn.never rfl (aWo (by rfl) T.aHo (aB (vv 0) aA)) (xX rfl (bF (aM (i:=2) iQ.nd rfl (by trivial)) (bF (aM (i:=3) iQ.nd rfl (by trivial)) fM))) (aG (aX (i:=1) iQ.nd rfl (by trivial) (bQ pG (bQ eN (bQ eN (bQ eN (bQ yE (vv 1) aF) (bQ pG (vv 3) (bQ aJ2 aF aF))) (bQ yE aF (vv 2))) aF) aF)))) (aG (aL (vv 1))))),?_⟩;refine⟨_,rfl,a,ns.map V.int,rfl,ha,aRa (λi σ H'=>Same H H'/\∃(c:Int) (l2 l3:Option V),0<=c/\c<M61/\σ=[some (.ref a),some (.int c),l2,l3]) ⟨Same.refl H,7,_,_,by decide,by decide,rfl⟩ (λi σ H' _ ⟨e,_⟩=>e.seq ha) ?_ ?_⟩
 ·rintro i σ H' x Tp H'' ex ⟨sm,c,l2,l3,c0,c1,rfl⟩ hT rfl;obtain⟨z,hz,rfl⟩:=aQn ex;refine⟨Tp,_,rfl,SqT.of aH,rfl,_,_,rfl,_,_,rfl,rfl,?_⟩;refine⟨_,rfl,_,_,rfl,rfl,.inr ⟨by decide,by decide⟩,_,rfl,_,_,rfl,rfl,⟨by decide,by decide,by decide⟩,_,_,rfl,rfl,(by show (0:Int)<10 ^ 30;decide),_,_,rfl,rfl,_,rfl,_,_,rfl,rfl,.inl ⟨by decide,by decide⟩,_,_,rfl,rfl,_,_,rfl,rfl,_,_,rfl,rfl,(by show (0:Int)<2305843009213693951;decide),?_⟩;exact⟨sm.trans (aW hT _),_,_,_,bEH _ (by decide),bDR _ (by decide),rfl⟩
 ·rintro σ H' ⟨sm,c,l2,l3,c0,c1,rfl⟩;exact⟨_,rfl,q c H' sm c0 c1⟩
def pI:Sp:=λvs H Q _=>∃(a:Addr) (m:Int),vs=[.ref a,.int m]/\kO H a/\(0<m/\m<2 ^ 64)/\∀c H',Fx a H H'->0<=c->c<m->Q (.int c) H'
theorem aGa (T:Txt w K mg):Ok P w K mg base 1 "_law_next" ["_law_state","_law_many"] pI:=by
 refine Ok.ofV T.aJg aFd (λvs H Q E h=>?_) (λf cdv A outer s H vs Q E hr h=>?_)
 ·obtain⟨a,m,rfl,_⟩:=h;rfl
 obtain⟨a,m,rfl,⟨st,hs,s0⟩,⟨hm,hm2⟩,q⟩:=h;refine⟨_,(aC (qK (bQ pG (bQ eN (bQ yE (aP cN (vv 0) aF (λ_ _=>rfl)) aF) aF) aF) (aL2 (vv 0) aF set_list)) (aG (aL (bQ pG (bQ aT7 (aP cN (vv 0) aF (λ_ _=>rfl)) aF) (vv 1))))),?_⟩;refine⟨_,rfl,a,_,0,_,rfl,rfl,SqL.of hs,at0 _ _,_,_,rfl,rfl,.inr ⟨by decide,by decide⟩,_,_,rfl,rfl,_,_,rfl,rfl,(by show (0:Int)<2305843009213693951;decide),?_⟩;refine⟨_,rfl,a,_,0,0,rfl,rfl,hs,rfl,?_⟩;refine⟨_,rfl,a,[.int ((st * 1181783497276652981+12345678910987) % 2305843009213693951)],0,_,rfl,rfl,SqL.of aH,at0 _ _,_,_,rfl,rfl,⟨by decide,by decide⟩,_,rfl,_,_,rfl,rfl,hm,?_⟩;exact q _ _ ⟨λb o n h=>by rw[aN n];exact h,(st * 1181783497276652981+12345678910987) % 2305843009213693951,aH,trivial⟩ (bEH _ (by lia)) (bDR _ hm)
def aI5:Sp:=λvs H Q _=>∃a:Addr,vs=[.ref a]/\kO H a/\∀i H',Fx a H H'->Q (.int i) H'
theorem aCx (T:Txt w K mg)(aR:Ok P w K mg base 1 "_law_next" ["_law_state","_law_many"] pI):Ok P w K mg base 2 "_law_great" ["_law_state"] aI5:=by
 refine Ok.ofV T.aFy jN (λvs H Q E h=>?_) (λf cdv A outer s H vs Q E hr h=>?_)
 ·obtain⟨a,rfl,_⟩:=h;rfl
 obtain⟨a,rfl,hs,q⟩:=h;refine⟨_,(aC (aX (i:=1) jN.nd rfl (by trivial) aF) (aC (jF PassesOwn.never rfl (iC (by rfl) T.lE (aB aF aA)) (aM (i:=2) jN.nd rfl (by trivial)) (aG (aX (i:=1) jN.nd rfl (by trivial) (bQ eN (bQ yE (vv 1) (bQ aJ2 aF aF)) (aO (aR.mono (by decide)) hr (by rfl) (aB (vv 0) (aB (bQ aJ2 aF aF) aA))))))) (aG (aL (aP cN (fP (aB (vv 1) (aB (bQ aBa aF (vv 1)) aA))) (aO (aR.mono (by decide)) hr (by rfl) (aB (vv 0) (aB aF aA))) (λ_ _=>rfl)))))),?_⟩;refine⟨_,rfl,by decide,by decide,jH (n:=4) (λi σ H'=>Fx a H H'/\∃(c:Int) (l2:Option V),σ=[some (.ref a),some (.int c),l2]) ⟨.refl hs,0,_,rfl⟩ ?_ ?_⟩
 ·rintro i σ H' hi ⟨fx,c,l2,rfl⟩;refine⟨_,rfl,_,_,rfl,rfl,⟨by decide,by decide,by decide⟩,_,_,rfl,rfl,.inr ⟨by decide,by decide⟩,_,rfl,_,_,rfl,rfl,⟨by decide,by decide,by decide⟩,a,_,rfl,fx.st,(by show (0:Int)<10 ^ 15/\(10:Int) ^ 15<2 ^ 64;decide),λd H1 f1 _ _=>?_⟩;exact⟨_,_,rfl,rfl,fx.trans f1,_,_,rfl⟩
 ·rintro σ H' ⟨fx,c,l2,rfl⟩;refine⟨_,rfl,_,rfl,_,_,rfl,rfl,(by show 2<=sizeLine;decide),λp H1 fp s1 g1=>?_⟩;refine⟨_,rfl,a,2,rfl,fx.st.same s1,by decide,λd H2 f2 d0 d1=>?_⟩;obtain⟨v,hv,mv⟩:=at_of (xs:=[.int c,.int (0 - c)]) d0 (by show d<2;lia);refine⟨p,_,_,v,rfl,rfl,SqL.of (f2.same _ _ (fx.st.ne fp) g1),hv,?_⟩;simp only[bAB,w6,or_false] at mv;rcases mv with rfl|rfl
  ·exact q _ _ ((fx.sm s1).trans f2)
  ·exact q _ _ ((fx.sm s1).trans f2)
abbrev aL6:List V:=[.str "",.str "a",.str "b",.str "ab"]
def aGw:Sp:=λvs H Q _=>∃(a:Addr) (kd:Str),vs=[.ref a,.str kd]/\kO H a/\aOq kd/\∀v H',Fx a H H'->cF kd v->Q v H'
theorem aKb {v:V}(h:v∈aL6):cF "word" v:=by
 simp only[aL6,bAB,w6,or_false] at h;have le:∀x:Str,(x.cps.all λc=>decide (97<=c) && decide (c<=122))=true->Lets x:=λx hx c hc=>by have:=(Array.all_eq_true_iff_forall_mem.mp hx) c hc;rw[bAR] at this;exact⟨of_decide_eq_true this.1,of_decide_eq_true this.2⟩
 rcases h with rfl|rfl|rfl|rfl
 ·exact .wrd (le _ (by decide +kernel)) (by decide +kernel)
 ·exact .wrd (le _ (by decide +kernel)) (by decide +kernel)
 ·exact .wrd (le _ (by decide +kernel)) (by decide +kernel)
 ·exact .wrd (le _ (by decide +kernel)) (by decide +kernel)
theorem aCw (T:Txt w K mg)(aR:Ok P w K mg base 1 "_law_next" ["_law_state","_law_many"] pI)(aGj:Ok P w K mg base 2 "_law_great" ["_law_state"] aI5):Ok P w K mg base 3 "_law_value" ["_law_state","_law_kind"] aGw:=by
 refine Ok.ofV T.aFz fZ (λvs H Q E h=>?_) (λf cdv A outer s H vs Q E hr h=>?_)
 ·obtain⟨a,kd,rfl,_⟩:=h;rfl
 obtain⟨a,kd,rfl,hs,hk,q⟩:=h;refine⟨_,(aC (aX (i:=2) fZ.nd rfl (by trivial) (aO (aR.mono (by decide)) hr (by rfl) (aB (vv 0) (aB aF aA)))) (aC (cA (bC fK (vv 1) bN (aY _)) (aG (aL (aP cN (fP (aB (bQ aBa (aO (aR.mono (by decide)) hr (by rfl) (aB (vv 0) (aB aF aA))) aF) (aB (aO (aGj.mono (by decide)) hr (by rfl) (aB (vv 0) aA)) aA))) (cW aD0 (by rfl) T.aMh aFh (aB (cQ fK (vv 2) aF (aY _)) aA)) (λ_ _=>rfl)))) aZ) (aC (cA (bC aWx (vv 2) aF (aY _)) (aG (aL (aP cN (fP (aB bN (aB bN (aB bN (aB bN aA))))) (bQ pG (vv 2) aF) (λ_ _=>rfl)))) aZ) (aC (aX (i:=3) fZ.nd rfl (by trivial) bN) (aC (jF PassesOwn.never rfl (iC (by rfl) T.lE (aB (aO (aR.mono (by decide)) hr (by rfl) (aB (vv 0) (aB aF aA))) aA)) (aM (i:=4) fZ.nd rfl (by trivial)) (aG (aX (i:=3) fZ.nd rfl (by trivial) (bQ pF (vv 3) (qR bN (aO (aR.mono (by decide)) hr (by rfl) (aB (vv 0) (aB aF aA))) (λ_ _=>rfl)))))) (aG (aL (vv 3)))))))),?_⟩;refine⟨_,rfl,a,10,rfl,hs,by decide,λway H1 f1 w0 w1=>?_⟩;rcases hk with rfl|rfl
 ·refine⟨_,rfl,rfl,_,rfl,fV ?_⟩;refine⟨_,rfl,a,4,rfl,f1.st,by decide,λd H2 f2 d0 d1=>?_⟩;refine⟨_,_,rfl,rfl,_,rfl,a,rfl,f2.st,λg H3 f3=>?_⟩;refine⟨(by show 2<=sizeLine;decide),λp H4 _ s4 g4=>?_⟩;have fx:=(f1.trans (f2.trans f3)).sm s4;refine⟨_,rfl,rfl,.inr ⟨_,rfl,?_⟩⟩;by_cases e:way=9
  ·rw[t6 (congrArg V.int e)];exact⟨p,_,_,_,rfl,rfl,SqL.of g4,cL (j:=1) rfl,q _ _ fx .num⟩
  ·rw[v8 (by intro z;exact e (V.int.inj z))];exact⟨p,_,_,_,rfl,rfl,SqL.of g4,cL (j:=0) rfl,q _ _ fx .num⟩
 ·refine⟨_,rfl,rfl,_,rfl,bY ?_⟩;refine⟨_,rfl,_,_,rfl,rfl,_,rfl,aKg (λ_=>?_) (λ_=>?_)⟩
  ·refine⟨(by show 4<=sizeLine;decide),λp H4 _ s4 g4=>?_⟩;obtain⟨v,hv,mv⟩:=at_of (xs:=aL6) (j:=way % 4) (by lia) (by show way % 4<4;lia);exact⟨_,rfl,_,_,rfl,rfl,(by show (0:Int)<4;decide),p,_,_,v,rfl,rfl,SqL.of g4,hv,q _ _ (f1.sm s4) (aKb mv)⟩
  ·refine⟨_,rfl,a,9,rfl,f1.st,by decide,λn H2 f2 n0 n1=>?_⟩;refine⟨_,rfl,by lia,by lia,jH (n:=n.toNat) (λi σ H'=>Fx a H H'/\∃(x:Str) (l4:Option V),σ=[some (.ref a),some (.str "word"),some (.int way),some (.str x),l4]/\x.length<=i/\Lets x) ⟨f1.trans f2,_,_,rfl,by decide +kernel,λd hd=>by simp[show (("":Str).cps)=#[] from rfl] at hd⟩ ?_ ?_⟩
   ·rintro i σ H' hi ⟨fx,x,l4,rfl,hl,hx⟩;have al:abc.length=26:=by decide +kernel
    refine⟨_,rfl,_,rfl,a,26,rfl,fx.st,by decide,λd H3 f3 d0 d1=>?_⟩;obtain⟨ch,hch⟩:=aM9 (z:=abc) d0 (by rw[al];exact d1);refine⟨_,_,_,rfl,rfl,d0,(by lia),(by rw[al];exact d1),hch,_,_,rfl,rfl,?_,fx.trans f3,_,_,rfl,?_,hx.add (aH6.one hch)⟩
    ·show x.length+1<=sizeLine;exact small (by lia)
    ·rw[aFa];show x.length+1<=i+1;lia
   ·rintro σ H' ⟨fx,x,l4,rfl,hl,hx⟩;exact⟨_,rfl,q _ _ fx (.wrd hx (by lia))⟩
def aDz:Sp:=λvs H Q _=>vs=[]/\∀p H',H p=none->Same H H'->H' p=some (.lst words)->Q (.ref p) H'
theorem aCt (T:Txt w K mg):Ok P w K mg base 1 "_law_words" [] aDz:=by
 refine Ok.ofV T.aGh sZ (λvs H Q E h=>?_) (λf cdv A outer s H vs Q E hr h=>?_)
 ·obtain⟨rfl,_⟩:=h;rfl
 obtain⟨rfl,q⟩:=h;refine⟨_,(aC (aX (i:=0) sZ.nd rfl (by trivial) (fP (aB bN (aB bN (aB bN (aB bN (aB bN (aB bN (aB bN (aB bN (aB bN aA))))))))))) (aG (aL (bQ vG (vv 0) (fP (aB bN (aB bN (aB bN (aB bN (aB bN (aB bN (aB bN (aB bN aA))))))))))))),?_⟩;refine⟨(by show 9<=sizeLine;decide),λp1 H1 _ s1 g1=>?_⟩;refine⟨_,rfl,(by show 8<=sizeLine;decide),λp2 H2 _ s2 g2=>?_⟩;exact⟨p1,p2,_,_,rfl,rfl,s2 _ _ g1,g2,(by show 9+8<=sizeLine;decide),λp H3 f3 s3 g3=>q p H3 ((s1.trans s2).free f3) (s1.trans (s2.trans s3)) g3⟩
def vW (ns:List Str):Prop:=ns.length=17/\(∀n∈ns,Nm n)/\ns.Nodup
theorem vW.rev {ns:List Str}(h:vW ns):vW ns.reverse:=⟨by rw[List.length_reverse];exact h.1,λn hn=>h.2.1 n (List.mem_reverse.mp hn),List.pairwise_reverse.mpr (h.2.2.imp λq=>Ne.symm q)⟩
theorem aX3:∀j:_root_.Fin 26,abc.cps[j.val]?=some (97+j.val):=by decide +kernel
theorem aWc {j:Nat}(h:j<26):abc.cps[j]?=some (97+j):=aX3 ⟨j,h⟩
def sgl (o:Nat):List Str:=(List.range 17).map λk=>⟨#[97+(o+k)]⟩
theorem aNu:∀o:_root_.Fin 10,((sgl o.val).all λn=>nameB (.str n))=true/\(Txt.slice abc (some (o.val:Int)) (some ((o.val:Int)+17))).cps.size=17/\((List.range 17).all λi=>decide (sgn (Txt.slice abc (some (o.val:Int)) (some ((o.val:Int)+17))) i=⟨#[97+(o.val+i)]⟩))=true:=by decide +kernel
theorem aSr {a b:Nat}(h:(⟨#[a]⟩:Str)=⟨#[b]⟩):a=b:=by have:=congrArg (λx:Str=>x.cps.toList) h;simpa using this
theorem aR7 {o:Nat}(h:o<10):vW (sgl o):=by
 refine⟨by simp[sgl],λn hn=>?_,?_⟩
 ·have:=(aNu ⟨o,h⟩).1;rw[bBX] at this;exact this n hn
 ·refine List.pairwise_map.mpr (bDI ?_ List.nodup_range);intro k l _ _ ne e;have:=aSr e;exact ne (by lia)
theorem aVy {o:Nat}(h:o<10):((List.range (Txt.slice abc (some (o:Int)) (some ((o:Int)+17))).cps.size).map λi=>V.str (sgn (Txt.slice abc (some (o:Int)) (some ((o:Int)+17))) i))=(sgl o).map V.str:=by obtain⟨_,h2,h3⟩:=aNu ⟨o,h⟩;have h2:(Txt.slice abc (some (o:Int)) (some ((o:Int)+17))).cps.size=17:=h2;rw[h2];unfold sgl;rw[bDF];refine List.map_congr_left λi hi=>?_;rw[bBX] at h3;have:=of_decide_eq_true (h3 i hi);show V.str _=V.str _;exact congrArg V.str this
def stm (b:Str)(a o:Nat):Nat->List Str:=λi=>(List.range i).map λk=>put b a (97+(o+k))
theorem aY6 {b:Str}{a o:Nat}(hb:Lets b)(hl:b.length<=7)(ha:a<=b.length)(ho:o<10)(hw:∀w∈words,inV w ((stm b a o 17).map V.str)=false):vW (stm b a o 17):=by
 refine⟨by simp[stm],λn hn=>?_,?_⟩
 ·obtain⟨k,hk,rfl⟩:=List.mem_map.mp hn;have hk:=List.mem_range.mp hk;have hin:inV (.str (put b a (97+(o+k)))) words=false:=by
   cases e:inV (.str (put b a (97+(o+k)))) words with
   |false=>rfl
   |true=>
    exfalso;unfold inV at e;rw[bDE] at e;obtain⟨v,hv,ev⟩:=e;have hvs:∃z:Str,v=.str z:=by simp only[words,bAB,w6,or_false] at hv;rcases hv with rfl|rfl|rfl|rfl|rfl|rfl|rfl|rfl|rfl|rfl|rfl|rfl|rfl|rfl|rfl|rfl|rfl <;> exact⟨_,rfl⟩
    obtain⟨z,rfl⟩:=hvs;have e2:(z == put b a (97+(o+k)))=true:=ev;have e3:z=put b a (97+(o+k)):=by simpa using e2
    have:=hw _ hv;rw[aOb,decide_eq_false_iff_not] at this;exact this (by rw[e3];exact hn)
  show ((decide (1<=(put b a (97+(o+k))).length) && (decide ((put b a (97+(o+k))).length<=8) && allIn (put b a (97+(o+k))))) && !inV (.str (put b a (97+(o+k)))) words)=true;have hL:Lets (put b a (97+(o+k))):=λc hc=>by
   rcases aV1 ha hc with rfl|z
   ·lia
   ·exact hb c z
  rw[aWg ha,t6 (p:=1<=b.length+1) (by lia),t6 (p:=b.length+1<=8) (by lia),allIn_of hL,hin];rfl
 ·refine List.pairwise_map.mpr (bDI ?_ List.nodup_range);intro k l _ _ ne e;have:=aV5 ha e;exact ne (by lia)
def aQo:Sp:=λvs H Q _=>∃a:Addr,vs=[.ref a,.int 17]/\kO H a/\∀p H' ns,Fx a H H'->H p=none->H' p=some (.lst (ns.map V.str))->vW ns->Q (.ref p) H'
theorem aC2 (T:Txt w K mg)(aR:Ok P w K mg base 1 "_law_next" ["_law_state","_law_many"] pI)(aEz:Ok P w K mg base 1 "_law_words" [] aDz):Ok P w K mg base 2 "_law_names" ["_law_state","_law_many"] aQo:=by
 refine Ok.ofV T.aEq cH (λvs H Q E h=>?_) (λf cdv A outer s H vs Q E hr h=>?_)
 ·obtain⟨a,rfl,_⟩:=h;rfl
 obtain⟨a,rfl,hs,q⟩:=h;refine⟨_,(aC (aX (i:=2) cH.nd rfl (by trivial) bN) (aC (aX (i:=3) cH.nd rfl (by trivial) (aO (aR.mono (by decide)) hr (by rfl) (aB (vv 0) (aB (bQ aBa aF (vv 1)) aA)))) (aC (aX (i:=4) cH.nd rfl (by trivial) bN) (aC (jF PassesOwn.never rfl (iC (by rfl) T.lE (aB (aO (aR.mono (by decide)) hr (by rfl) (aB (vv 0) (aB aF aA))) aA)) (aM (i:=5) cH.nd rfl (by trivial)) (aG (aX (i:=4) cH.nd rfl (by trivial) (bQ pF (vv 4) (qR (vv 2) (aO (aR.mono (by decide)) hr (by rfl) (aB (vv 0) (aB aF aA))) (λ_ _=>rfl)))))) (aC (aX (i:=6) cH.nd rfl (by trivial) (aO (aR.mono (by decide)) hr (by rfl) (aB (vv 0) (aB (bQ eN (aK uZ (by rfl) T.fJ cZ (aB (vv 4) aA)) aF) aA)))) (aC (aX (i:=7) cH.nd rfl (by trivial) (fP aA)) (aC (jF PassesOwn.never rfl (iC (by rfl) T.lE (aB (vv 1) aA)) (aM (i:=5) cH.nd rfl (by trivial)) (aG (mW (aDj PySem.F.plainAttrs_list PySem.F.slot_list_append PySem.F.type_list_append uJ (vv 7) (aB (bQ pF (bQ pF (fY aFs (vv 4) lH (iK (vv 6))) (qR (vv 2) (bQ eN (vv 3) (vv 5)) (λ_ _=>rfl))) (fY aFs (vv 4) (iK (vv 6)) lH)) aA))))) (aC (cA (bV (aK (aRi rfl) (by rfl) T.bAq aX8 (aB (cJ (N:=["_law_word","_law_names_here"]) (by trivial) (dX (aD lC) rfl (by decide +kernel)) rfl (dR (aXw (aEz.mono (by decide)) hr (by rfl))) (λcl s' H' fp=>⟨(aM (i:=0) (show (["_law_word","_law_names_here"]:List Str).Nodup from by decide +kernel) rfl (Or.inl rfl)),gO,(cQ (aLe (K:=K)) (vv 0) (vv 1) (by with_unfolding_all rfl))⟩)) aA))) (aG (aX (i:=7) cH.nd rfl (by trivial) (cW (aLc rfl) (by rfl) T.aEv zV (aB (fY aFs (vv 2) (iK (vv 3)) (iK (bQ eN (vv 3) (vv 1)))) aA)))) aZ) (aC (cA (bC fK (aO (aR.mono (by decide)) hr (by rfl) (aB (vv 0) (aB aF aA))) aF (aY _)) (aG (mW (aX0 PySem.F.plainAttrs_list PySem.F.slot_list_reverse PySem.F.type_list_reverse aHa (vv 7)))) aZ) (aG (aL (vv 7)))))))))))),?_⟩;have al:abc.length=26:=by decide +kernel
 refine⟨_,rfl,_,rfl,_,_,rfl,rfl,a,10,rfl,hs,by decide,λod H1 f1 o0 o1=>?_⟩;obtain⟨o,rfl⟩:∃o:Nat,od=o:=⟨od.toNat,by lia⟩;have ho:o<10:=by lia
 refine⟨_,rfl,a,8,rfl,f1.st,by decide,λn H2 f2 n0 n1=>?_⟩;refine⟨_,rfl,by lia,by lia,jH (n:=n.toNat) (λi σ H'=>Fx a H H'/\∃(x:Str) (l5:Option V),σ=[some (.ref a),some (.int 17),some (.str abc),some (.int (o:Nat)),some (.str x),l5,none,none]/\x.length<=i/\Lets x) ⟨f1.trans f2,_,_,rfl,by decide +kernel,λd hd=>by simp[show (("":Str).cps)=#[] from rfl] at hd⟩ ?_ ?_⟩
 ·rintro i σ H' hi ⟨fx,x,l5,rfl,hl,hx⟩;refine⟨_,rfl,_,rfl,_,rfl,a,26,rfl,fx.st,by decide,λd H3 f3 d0 d1=>?_⟩;obtain⟨ch,hch⟩:=aM9 (z:=abc) d0 (by rw[al];exact d1);refine⟨_,_,_,rfl,rfl,d0,(by lia),(by rw[al];exact d1),hch,_,_,rfl,rfl,?_,fx.trans f3,_,_,rfl,?_,hx.add (aH6.one hch)⟩
  ·show x.length+1<=sizeLine;exact small (by lia)
  ·rw[aFa];show x.length+1<=i+1;lia
 rintro σ H3 ⟨f3,b,l5,rfl,hl,hb⟩;have hb7:b.length<=7:=by lia
 refine⟨_,rfl,_,rfl,_,rfl,small (by lia),_,_,rfl,rfl,a,_,rfl,f3.st,(by show (0:Int)<(b.length:Int)+1/\(b.length:Int)+1<2 ^ 64;lia),λai H4 f4 a0 a1=>?_⟩;obtain⟨at',rfl⟩:∃at':Nat,ai=at':=⟨ai.toNat,by lia⟩;have ha:at'<=b.length:=by have:(at':Int)<(b.length:Int)+1:=a1;lia
 have fx4:=f3.trans f4;refine⟨(by show 0<=sizeLine;decide),λp H5 fp s5 g5=>?_⟩;have fp0:H p=none:=fx4.free fp;have npa:p≠a:=hs.ne fp0;refine⟨_,rfl,_,rfl,by decide,by decide,jH (n:=17) (λi σ H'=>Fx a H H'/\H' p=some (.lst ((stm b at' o i).map V.str))/\∃l5,σ=[some (.ref a),some (.int 17),some (.str abc),some (.int (o:Nat)),some (.str b),l5,some (.int (at':Nat)),some (.ref p)]) ⟨fx4.sm s5,g5,_,rfl⟩ ?_ ?_⟩
 ·rintro i σ H' hi ⟨fx,gp,l5,rfl⟩;have s1:=Txt.slice_le b none (some ((at':Nat):Int));have s2:=Txt.slice_le b (some ((at':Nat):Int)) none;have ej:((o:Int)+(0+(i:Int))).toNat=o+i:=by lia
  have hch:abc.cps[((o:Int)+(0+(i:Int))).toNat]?=some (97+(o+i)):=by rw[ej];exact aWc (by lia)
  refine⟨_,rfl,.inl ⟨rfl,_,SqL.of gp⟩,_,rfl,_,rfl,_,rfl,_,rfl,small (by lia),_,rfl,_,rfl,_,rfl,_,_,rfl,rfl,_,_,_,rfl,rfl,(by show 0<=(o:Int)+(0+(i:Int));lia),(by show (o:Int)+(0+(i:Int))<2 ^ 63;lia),(by rw[al];show (o:Int)+(0+(i:Int))<26;lia),hch,_,_,rfl,rfl,?_,_,rfl,_,rfl,_,rfl,_,rfl,small (by lia),_,_,rfl,rfl,?_,?_⟩
  ·show (Txt.slice b none (some ((at':Nat):Int))).length+1<=sizeLine;exact small (by lia)
  ·rw[aFa];show (Txt.slice b none (some ((at':Nat):Int))).length+1+_<=sizeLine;exact small (by lia)
  refine⟨p,_,_,rfl,rfl,gp,?_,fx.upd fp0 npa,?_,_,rfl⟩
  ·rw[j9];exact sH (by simp[stm];lia)
  ·rw[aH];unfold stm;rw[List.range_succ,bCQ,bCQ];rfl
 rintro σ H6 ⟨f6,g6,l5',rfl⟩;dsimp only[aEy,aUv,tB,tCB,eQ];refine aPh (K:=K) (λus=>us=words) (λi _ y=>∃w',words[i]?=some w'/\y=.bl (inV w' ((stm b at' o 17).map V.str))) (λ_ h=>h) (λ_ h=>h) [none,some (.ref p)] ?_ rfl (λR r=>⟨rfl,λW H7 _ s7 g7=>r W H7 _ s7 g7 rfl⟩) (λus e=>by subst e;exact small (by decide)) (λus e i x ex H' R l sm r=>?_) λus e D H7 ys s7 g7 hly hR=>?_
 ·exact jT 7 (by decide +kernel) rfl rfl (by trivial)
 ·subst e;have fl:jW x=true:=by have:=aBt;rw[bBX] at this;exact this x (v6 ex)
  exact⟨_,rfl,_,rfl,p,_,rfl,.inl (SqL.of (sm _ _ g6)),fl,aHi,r _ _ (Same.refl _) ⟨x,ex,rfl⟩⟩
 subst e;have ey:ys=(words.map λw'=>inV w' ((stm b at' o 17).map V.str)).map V.bl:=by
  rw[bDF];refine bB4 λi=>?_;by_cases hi:i<ys.length
  ·obtain⟨w',h1,h2⟩:=hR i ys[i] (d7 hi);rw[d7 hi,v9,h1,h2];rfl
  ·rw[bAC (by lia),bAC (by rw[j9];lia)]
 rw[ey] at g7;refine⟨D,_,rfl,SqL.of g7,_,rfl,?_⟩;have f7:=f6.sm s7;refine aKg (λc=>?_) (λc=>?_)
 ·refine⟨_,rfl,_,rfl,_,rfl,_,rfl,_,rfl,_,_,rfl,rfl,_,rfl,abc,rfl,small (by rw[al];decide),?_⟩;refine⟨_,rfl,?_,λp2 H8 fp2 s8 g8=>?_⟩
  ·have:=Txt.slice_le abc (some (o:Int)) (some ((o:Int)+17));rw[al] at this;exact bAL this (by decide)
  have g8':H8 p2=some (.lst ((sgl o).map V.str)):=by rw[g8];exact congrArg (λz=>some (HO.lst z)) (aVy ho)
  have f8:=f7.sm s8;have fp20:H p2=none:=f7.free fp2;refine⟨_,rfl,a,2,rfl,f8.st,by decide,λd H9 f9 d0 d1=>?_⟩;have g9:=f9.same _ _ (hs.ne fp20) g8';refine⟨rfl,_,rfl,aKg (λ_=>?_) (λ_=>?_)⟩
  ·refine⟨_,rfl,.inl ⟨rfl,_,SqL.of g9⟩,p2,_,rfl,rfl,g9,?_⟩;refine⟨_,rfl,q p2 _ (sgl o).reverse ((f8.trans f9).upd fp20 (hs.ne fp20)) fp20 ?_ (aR7 ho).rev⟩;rw[aH,List.map_reverse]
  ·exact⟨_,rfl,q p2 _ (sgl o) (f8.trans f9) fp20 g9 (aR7 ho)⟩
 ·have hw:∀w'∈words,inV w' ((stm b at' o 17).map V.str)=false:=λw' hw'=>by
   cases e:inV w' ((stm b at' o 17).map V.str) with
   |false=>rfl
   |true=>exfalso;apply c;rw[bDE];exact⟨true,List.mem_map.mpr ⟨w',hw',e⟩,rfl⟩
  have hn:=aY6 hb hb7 ha ho hw;refine⟨_,rfl,a,2,rfl,f7.st,by decide,λd H9 f9 d0 d1=>?_⟩;have g9:=f9.same _ _ npa (s7 _ _ g6);refine⟨rfl,_,rfl,aKg (λ_=>?_) (λ_=>?_)⟩
  ·refine⟨_,rfl,.inl ⟨rfl,_,SqL.of g9⟩,p,_,rfl,rfl,g9,?_⟩;refine⟨_,rfl,q p _ (stm b at' o 17).reverse ((f7.trans f9).upd fp0 npa) fp0 ?_ hn.rev⟩;rw[aH,List.map_reverse]
  ·exact⟨_,rfl,q p _ (stm b at' o 17) (f7.trans f9) fp0 g9 hn⟩
def aIs (K:bEX):Sp:=λvs H Q _=>∃(a N:Addr) (ns:List Str),vs=[.ref a,.ref N]/\kO H a/\H N=some (.lst (ns.map V.str))/\N≠a/\vW ns/\∀v H' hd,Fx a H H'->kI K H' v hd->aTf hd->hd.length<=7->Q v H'
theorem aYp {α:Type}{l:List α}(h:l.Nodup){i j:Nat}{x:α}(h1:l[i]?=some x)(h2:l[j]?=some x):i=j:=by
 have hp:=List.pairwise_iff_getElem.mp h;obtain⟨hi,e1⟩:=List.getElem?_eq_some_iff.mp h1;obtain⟨hj,e2⟩:=List.getElem?_eq_some_iff.mp h2;rcases bD5 i j with q|q|q
 ·exact absurd (e1.trans e2.symm) (hp i j hi hj q)
 ·exact q
 ·exact absurd (e2.trans e1.symm) (hp j i hj hi q)
theorem bAh {α:Type}{l:List α}(h:∀(i j:Nat) (x:α),l[i]?=some x->l[j]?=some x->i=j):l.Nodup:=by refine List.pairwise_iff_getElem.mpr λi j hi hj hij e=>?_;have:=h i j l[i] (d7 hi) (by rw[d7 hj,e]);lia
theorem aQ1 {ns:List Str}(hn:vW ns){st:Nat}{hd:Hdr}(hl:hd.length<=8)(h:∀(j:Nat) (c:Str × Str),hd[j]?=some c->ns[3+(st+j) % 8]?=some c.1):(hd.map (·.1)).Nodup:=by
 refine bAh λi j x h1 h2=>?_;have g:∀k,(hd.map (·.1))[k]?=some x->k<hd.length/\ns[3+(st+k) % 8]?=some x:=λk hk=>by
  rw[v9] at hk;cases e:hd[k]? with
  |none=>rw[e] at hk;cases hk
  |some c=>rw[e] at hk;cases hk;exact⟨(List.getElem?_eq_some_iff.mp e).1,h k c e⟩
 obtain⟨l1,g1⟩:=g i h1;obtain⟨l2,g2⟩:=g j h2;have:=aYp hn.2.2 g1 g2;lia
theorem aE6 (T:Txt w K mg)(aR:Ok P w K mg base 1 "_law_next" ["_law_state","_law_many"] pI):Ok P w K mg base 2 "_law_head" ["_law_state","_law_names_here"] (aIs K):=by
 refine Ok.ofV T.aJt iW (λvs H Q E h=>?_) (λf cdv A outer s H vs Q E hr h=>?_)
 ·obtain⟨a,N,ns,rfl,_⟩:=h;rfl
 obtain⟨a,N,ns,rfl,hs,hN,nN,hn,q⟩:=h;refine⟨_,(aC (aX (i:=2) iW.nd rfl (by trivial) (aO (aR.mono (by decide)) hr (by rfl) (aB (vv 0) (aB aF aA)))) (aC (aX (i:=3) iW.nd rfl (by trivial) (fP aA)) (aC (jF PassesOwn.never rfl (iC (by rfl) T.lE (aB (bQ eN aF (bQ yE (aO (aR.mono (by decide)) hr (by rfl) (aB (vv 0) (aB aF aA))) (bQ eN aF (cW aD0 (by rfl) T.aMh aFh (aB (cQ fK (aO (aR.mono (by decide)) hr (by rfl) (aB (vv 0) (aB aF aA))) aF (aY _)) aA))))) aA)) (aM (i:=4) iW.nd rfl (by trivial)) (aC (aX (i:=5) iW.nd rfl (by trivial) (aP cN (fP (aB bN (aB bN (aB bN aA)))) (aO (aR.mono (by decide)) hr (by rfl) (aB (vv 0) (aB aF aA))) (λ_ _=>rfl))) (aG (mW (aDj PySem.F.plainAttrs_list PySem.F.slot_list_append PySem.F.type_list_append uJ (vv 3) (aB (dZ (aB (aP cN (vv 1) (bQ eN aF (bQ pG (bQ eN (vv 2) (vv 4)) aF)) (λ_ _=>rfl)) (aB (vv 5) aA))) aA)))))) (aG (aL (cW rB (by rfl) T.iT eZ (aB (vv 3) aA))))))),?_⟩;have l17:=hn.1;refine⟨_,rfl,a,8,rfl,hs,by decide,λst0 H1 f1 st00 st01=>?_⟩;obtain⟨st,rfl⟩:∃st:Nat,st0=st:=⟨st0.toNat,by lia⟩;refine⟨(by show 0<=sizeLine;decide),λp H2 fp s2 g2=>?_⟩;have f2:=f1.sm s2;have fp0:H p=none:=f1.free fp;have npa:p≠a:=hs.ne fp0;refine⟨_,rfl,a,4,rfl,f2.st,by decide,λm H3 f3 m0 m1=>?_⟩;refine⟨_,rfl,a,8,rfl,f3.st,by decide,λe H4 f4 e0 e1=>?_⟩;have f4':=f2.trans (f3.trans f4);have g4:=f4.same _ _ npa (f3.same _ _ npa g2);refine⟨rfl,.inr ⟨_,rfl,?_⟩⟩;have bnd:∃z:Nat,1+m * (1+(if decide (V.int e=V.int 0) then 1 else 0))=(z:Int)/\1<=z/\z<=7:=by
  cases decide (V.int e=V.int 0)
  ·exact⟨(1+m).toNat,by simp;lia,by lia,by lia⟩
  ·exact⟨(1+m * 2).toNat,by simp;lia,by lia,by lia⟩
 obtain⟨z,ez,z1,z7⟩:=bnd;refine⟨_,_,rfl,rfl,_,_,rfl,rfl,.inl ⟨by lia,by lia⟩,_,_,rfl,rfl,?_⟩;refine⟨(z:Int),?_,by lia,by lia,?_⟩
 ·show [V.int (1+m * (1+(if decide (V.int e=V.int 0) then 1 else 0)))]=_;rw[ez]
 rw[bAY];refine jH (n:=z) (λi σ H'=>Fx a H H'/\∃(us:List V) (hd:Hdr) (l4 l5:Option V),H' p=some (.lst us)/\hd.length=i/\cU (IsC K H') us hd/\(∀(j:Nat) (c:Str × Str),hd[j]?=some c->ns[3+(st+j) % 8]?=some c.1/\aOq c.2)/\σ=[some (.ref a),some (.ref N),some (.int (st:Nat)),some (.ref p),l4,l5]) ⟨f4',[],[],_,_,g4,rfl,.nil,λj c h=>by simp at h,rfl⟩ ?_ ?_
 ·rintro i σ H' hi ⟨fx,us,hd,l4,l5,gp,hl,hu,hc,rfl⟩;have lu:=hu.len;refine⟨(by show 3<=sizeLine;decide),λp1 H5 fp1 s5 g5=>?_⟩;refine⟨_,rfl,a,3,rfl,fx.st.same s5,by decide,λd H6 f6 d0 d1=>?_⟩;obtain⟨kv,hkv,mkv⟩:=at_of (xs:=[.str "number",.str "number",.str "word"]) d0 (by show d<3;lia);obtain⟨kd,rfl,hkd⟩:∃kd:Str,kv=.str kd/\aOq kd:=by
   simp only[bAB,w6,or_false] at mkv;rcases mkv with rfl|rfl|rfl
   ·exact⟨_,rfl,.inl rfl⟩
   ·exact⟨_,rfl,.inl rfl⟩
   ·exact⟨_,rfl,.inr rfl⟩
  have f6':=(fx.sm s5).trans f6;refine⟨p1,_,_,_,rfl,rfl,SqL.of (f6.same _ _ (fx.st.ne fp1) g5),hkv,?_⟩;have gp6:=f6.same _ _ npa (s5 _ _ gp);have hN6:=f6'.same _ _ nN hN;have hu6:cU (IsC K H6) us hd:=hu.imp λ_ _ ⟨p',ep,hp⟩=>⟨p',ep,f6.aV (fx.st.same s5) (s5.aV hp)⟩;have hix:3+(st+i) % 8<ns.length:=by lia
  refine⟨_,rfl,.inl ⟨rfl,_,SqL.of gp6⟩,?_⟩;refine⟨_,rfl,_,rfl,_,rfl,_,_,rfl,rfl,_,_,rfl,rfl,(by show (0:Int)<8;decide),_,_,rfl,rfl,N,_,_,.str ns[3+(st+i) % 8],rfl,rfl,SqL.of hN6,?_,_,rfl,(by show 2<=sizeLine;decide),λt H7 ft s7 g7=>?_⟩
  ·have e8:(3:Int)+((st:Int)+(0+(i:Int))) % 8=((3+(st+i) % 8:Nat):Int):=by lia
   show atI (ns.map V.str) ((3:Int)+((st:Int)+(0+(i:Int))) % 8)=_;rw[e8];exact cL (by rw[v9,d7 hix];rfl)
  refine⟨p,_,_,rfl,rfl,s7 _ _ gp6,sH (by lia),?_⟩;have ntp:t≠p:=(aU gp6 ft).symm;refine⟨(f6'.sm s7).upd fp0 npa,us++[.ref t],hd++[(ns[3+(st+i) % 8],kd)],_,_,aH,by rw[bAG,hl];rfl,?_,λj c h=>?_,rfl⟩
  ·refine (hu6.imp λ_ _ ⟨p',ep,hp⟩=>⟨p',ep,(s7.aV hp).nU (s7 _ _ gp6)⟩).app (.cons ⟨t,rfl,SqT.of (by rw[aN ntp];exact g7)⟩ .nil)
  ·by_cases hj:j<hd.length
   ·rw[bBK hj] at h;exact hc j c h
   ·rw[bBG (by lia)] at h;have hj0:j - hd.length=0:=by
     by_cases z0:j - hd.length=0
     ·exact z0
     ·rw[bAC (by simp;lia)] at h;cases h
    rw[hj0] at h;cases h;have:j=i:=by lia
    subst this;exact⟨d7 hix,hkd⟩
 ·rintro σ H' ⟨fx,us,hd,l4,l5,gp,hl,hu,hc,rfl⟩;refine⟨_,rfl,p,us,rfl,SqL.of gp,λt H5 _ s5 g5=>q _ _ hd (fx.sm s5) ⟨t,us,rfl,SqT.of g5,hu.imp λ_ _ h=>h.same s5⟩ ⟨⟨aQ1 hn (by lia) λj c h=>(hc j c h).1,by lia,by lia⟩,λc hcm=>?_⟩ (by lia)⟩;obtain⟨j,hj,e⟩:=bBC hcm;have h2:=hc j c (by rw[d7 hj,e]);exact⟨hn.2.1 _ (v6 h2.1),h2.2⟩
def TK (K:bEX)(H H':Hp):Prop:=∀p xs,SqT K H p xs->SqT K H' p xs
theorem _root_.L2.Fx.tk {K:bEX}{a:Addr}{H H':Hp}(f:Fx a H H')(h:kO H a):TK K H H':=λ_ _ e=>f.aV h e
theorem TK.of {K:bEX}{H H':Hp}(s:Same H H'):TK K H H':=λ_ _ e=>s.aV e
theorem IsC.tk {K:bEX}{H H':Hp}{v:V}{c:Str × Str}(e:TK K H H')(h:IsC K H v c):IsC K H' v c:=by obtain⟨p,rfl,hp⟩:=h;exact⟨p,rfl,e _ _ hp⟩
theorem aN2 {α:Type}{K:bEX}{H H':Hp}{R S:V->α->Prop}{v:V}{xs:List α}(e:TK K H H')(k:∀a b,R a b->S a b)(h:qP K H R v xs):qP K H' S v xs:=by obtain⟨a,vs,rfl,ha,hr⟩:=h;exact⟨a,vs,rfl,e _ _ ha,hr.imp k⟩
theorem kI.tk {K:bEX}{H H':Hp}{v:V}{hd:Hdr}(e:TK K H H')(h:kI K H v hd):kI K H' v hd:=aN2 e (λ_ _ q=>q.tk e) h
theorem aSn {hd:Hdr}(nd:(hd.map (·.1)).Nodup){c:Str × Str}(h:c∈hd):look hd c.1=some c.2:=by
 induction hd with
 |nil=>cases h
 |cons x r ih=>
  rw[bAV,bDM] at nd;unfold look;rw[bCA];rcases List.mem_cons.mp h with rfl|h
  ·rw[t6 rfl];rfl
  ·have ne:¬ x.1=c.1:=λz=>nd.1 (by rw[z];exact List.mem_map.mpr ⟨c,h,rfl⟩);rw[v8 ne];exact ih nd.2 h
theorem aA0 {α β:Type}{R:α->β->Prop}:∀{as:List α} {bs:List β},as.length=bs.length->(∀(i:Nat) (a:α) (b:β),as[i]?=some a->bs[i]?=some b->R a b)->cU R as bs
 |[],[],_,_=>.nil
 |[],_::_,h,_=>by cases h
 |_::_,[],h,_=>by cases h
 |a::as,b::bs,h,k=>.cons (k 0 a b rfl rfl) (aA0 (by simpa using h) λi x y e1 e2=>k (i+1) x y (by simpa using e1) (by simpa using e2))
theorem qZ {α:Type}:∀(k:Nat) (xs:List α),sel (λ_=>true) k xs=xs
 |_,[]=>rfl
 |k,x::r=>by show (if true=true then x::sel (λ_=>true) (k+1) r else _)=_;rw[if_pos rfl,qZ (k+1) r]
theorem oV {R:Nat->V->Prop}{n:Nat}{ys:List V}(h:sO R (List.range n) ys):ys.length=n/\∀(i:Nat) (y:V),ys[i]?=some y->R i y:=by
 have aux:∀{is:List Nat} {ys:List V},sO R is ys->∀(i:Nat) (y:V),ys[i]?=some y->∃j,is[i]?=some j/\R j y:=by
  intro is ys h
  induction h with
  |nil=>intro i y e;simp at e
  |cons r _ ih=>
   intro i y e;cases i with
   |zero=>cases e;exact⟨_,rfl,r⟩
   |succ i=>obtain⟨j,h1,h2⟩:=ih i y (by simpa using e);exact⟨j,by simpa using h1,h2⟩
 have l:=h.len;rw[bAK] at l;refine⟨l.symm,λi y e=>?_⟩;obtain⟨j,h1,h2⟩:=aux h i y e;have hi:i<n:=by have:=(List.getElem?_eq_some_iff.mp e).1;lia
 rw[bB8 hi] at h1;cases h1;exact h2
theorem aTn {ks:List Bool}{r:List V}(h:KdR ks r):∀x∈r,(∃i,x=.int i)\/∃z,x=.str z:=by
 unfold KdR at h
 induction h with
 |nil=>intro x hx;cases hx
 |@cons b y _ _ h _ ih=>
  intro x hx;rcases List.mem_cons.mp hx with rfl|hx
  ·cases b with
   |true=>exact .inl h
   |false=>exact .inr h
  ·exact ih x hx
def aNw (K:bEX):Sp:=λvs H Q _=>∃(a:Addr) (vh:V) (hd:Hdr),vs=[.ref a,vh]/\kO H a/\kI K H vh hd/\aTf hd/\∀t H' r,Fx a H H'->H' t=some (.tup r)->pP hd r->Q (.ref t) H'
theorem aHv (T:Txt w K mg)(oW:Ok P w K mg base 3 "_law_value" ["_law_state","_law_kind"] aGw):Ok P w K mg base 4 "_law_row" ["_law_state","_law_head_here"] (aNw K):=by
 refine Ok.ofV T.aLx aIo (λvs H Q E h=>?_) (λf cdv A outer s H vs Q E hr h=>?_)
 ·obtain⟨a,vh,hd,rfl,_⟩:=h;rfl
 obtain⟨a,vh,hd,rfl,hs,⟨b,us,rfl,hb,hu⟩,⟨hgd,hok⟩,q⟩:=h;refine⟨_,(aG (aL (cW rB (by rfl) T.iT eZ (aB (cJ (N:=["_law_name","_law_kind","_law_state"]) (by trivial) (dX (aD pB) rfl (by decide +kernel)) rfl (rH (vv 1)) (λcl s' H' fp=>⟨(sE (K:=K) (n:=2) rfl (bF (aM (i:=0) (show (["_law_name","_law_kind","_law_state"]:List Str).Nodup from by decide +kernel) rfl (Or.inl rfl)) (bF (aM (i:=1) (show (["_law_name","_law_kind","_law_state"]:List Str).Nodup from by decide +kernel) rfl (Or.inl rfl)) fM))),gO,(aO (oW.mono (by decide)) hr (by rfl) (aB (vv 2) (aB (vv 1) aA)))⟩)) aA)))),?_⟩;have lu:=hu.len;have l8:=hgd.2.2;dsimp only[sY,tCB,eQ];refine wK [none,none,some (.ref a)] ?_ ⟨_,rfl,b,rfl,⟨_,hb⟩,aJa (Fx a) (aQh hs) us (λ_=>true) (λi _ y=>∃c',hd[i]?=some c'/\cF c'.2 y) (λ_ _ h=>h) (λ_ _ _ h=>h) (λi σ=>∃c',hd[i]?=some c'/\At2 [none,none,some (.ref a)] (.str c'.1) (.str c'.2) σ) (Ps2 [none,none,some (.ref a)]) ⟨none,none,rfl⟩ (small (by lia)) _ (aFo λH' f'=>f'.aV hs hb) (wN λH' f'=>f'.aV hs hb) (λi x σ' H' Q' ex hps f' qq=>?_) (λi x σ2 ex hA H' R f' r=>r H' (Fx.refl f'.st)) (λi x σ2 ex hA hp H' R f' r=>?_) λD H6 ys f6 fD g6 hys=>?_⟩
 ·refine⟨rfl,λi y v h1 h2=>?_⟩
  match i,h1,h2 with
  |0,_,h2=>cases h2
  |1,_,h2=>cases h2
  |2,h1,h2=>cases h1;cases h2;exact⟨by decide +kernel,0,rfl,rfl,by trivial⟩
  |i+3,h1,_=>cases h1
 ·obtain⟨c',hc',p',rfl,hp'⟩:=cM hu ex;exact hg2 (f'.aV hs hp') hps fun σ2 h1 h2=>qq σ2 h1 ⟨c',hc',h2⟩
 ·obtain⟨c',hc',rfl⟩:=hA;exact⟨_,rfl,_,rfl,a,c'.2,rfl,f'.st,(hok c' (v6 hc')).2,λv H2 f2 hv=>r v H2 f2 ⟨c',hc',hv⟩⟩
 ·rw[qZ] at hys;obtain⟨l1,l2⟩:=oV hys;refine⟨D,_,rfl,SqL.of g6,λt H3 _ s3 g3=>q t H3 ys (f6.sm s3) g3 (aA0 (by lia) λi k y ek ey=>?_)⟩;obtain⟨c',hc',hv⟩:=l2 i y ey;rw[hc'] at ek;cases ek;exact hv
end
end My
namespace L2
open PySem PySem.Spec PyProof.Rows
theorem aS7 {k:Bool}{a b:V}(ha:KdV k a)(hb:KdV k b)(h:kvlt a b=true):kvlt b a=false:=by
 cases k with
 |true=>obtain⟨x,rfl⟩:=ha;obtain⟨y,rfl⟩:=hb;have:=of_decide_eq_true (show decide (x<y)=true from h);exact v8 (by lia)
 |false=>obtain⟨x,rfl⟩:=ha;obtain⟨y,rfl⟩:=hb;have:=of_decide_eq_true (show decide (x.cps.toList<y.cps.toList)=true from h);exact v8 (List.lt_asymm this)
theorem aYw {k:Bool}{a b c:V}(ha:KdV k a)(hb:KdV k b)(hc:KdV k c)(h1:kvlt b a=false)(h2:kvlt c b=false):kvlt c a=false:=by
 cases k with
 |true=>obtain⟨x,rfl⟩:=ha;obtain⟨y,rfl⟩:=hb;obtain⟨z,rfl⟩:=hc;have:=of_decide_eq_false (show decide (y<x)=false from h1);have:=of_decide_eq_false (show decide (z<y)=false from h2);exact v8 (by lia)
 |false=>obtain⟨x,rfl⟩:=ha;obtain⟨y,rfl⟩:=hb;obtain⟨z,rfl⟩:=hc;have e1:=of_decide_eq_false (show decide (y.cps.toList<x.cps.toList)=false from h1);have e2:=of_decide_eq_false (show decide (z.cps.toList<y.cps.toList)=false from h2);exact v8 (List.not_lt.mpr (List.le_trans (List.not_lt.mp e1) (List.not_lt.mp e2)))
theorem aSg {k:Bool}{a b:V}(ha:KdV k a)(hb:KdV k b)(h1:kvlt a b=false)(h2:kvlt b a=false):a=b:=by
 cases k with
 |true=>obtain⟨x,rfl⟩:=ha;obtain⟨y,rfl⟩:=hb;have:=of_decide_eq_false (show decide (x<y)=false from h1);have:=of_decide_eq_false (show decide (y<x)=false from h2);rw[show x=y by lia]
 |false=>obtain⟨x,rfl⟩:=ha;obtain⟨y,rfl⟩:=hb;have e1:=of_decide_eq_false (show decide (x.cps.toList<y.cps.toList)=false from h1);have e2:=of_decide_eq_false (show decide (y.cps.toList<x.cps.toList)=false from h2);have e:x.cps.toList=y.cps.toList:=List.le_antisymm (List.not_lt.mp e2) (List.not_lt.mp e1);obtain⟨⟨xs⟩⟩:=x;obtain⟨⟨ys⟩⟩:=y;have:xs=ys:=e;rw[this]
theorem jX {k:Bool}{ks:List Bool}{a b:V}{r q:List V}(ha:KdV k a)(hb:KdV k b):rlt (a::r) (b::q)=if a=b then rlt r q else kvlt a b:=by
 cases k with
 |true=>
  obtain⟨x,rfl⟩:=ha;obtain⟨y,rfl⟩:=hb;show (if (x == y)=true then rlt r q else decide (x<y))=_;by_cases e:x=y
  ·subst e;rw[if_pos (by simp),if_pos rfl]
  ·rw[if_neg (by simpa using e),if_neg (by intro z;exact e (V.int.inj z))];rfl
 |false=>
  obtain⟨x,rfl⟩:=ha;obtain⟨y,rfl⟩:=hb;show (if (x == y)=true then rlt r q else decide (x.cps.toList<y.cps.toList))=_;by_cases e:x=y
  ·subst e;rw[if_pos (by simp),if_pos rfl]
  ·rw[if_neg (by simpa using e),if_neg (by intro z;exact e (V.str.inj z))];rfl
theorem wB:∀{ks:List Bool} {a b:List V},KdR ks a->KdR ks b->rlt a b=true->rlt b a=false
 |_,_,_,.nil,.nil,h=>by cases (show false=true from h)
 |_,x::a,y::b,.cons (as:=ks) ha ta,.cons hb tb,h=>by
  rw[jX (ks:=ks) ha hb] at h;rw[jX (ks:=ks) hb ha];by_cases e:x=y
  ·rw[if_pos e] at h;rw[if_pos e.symm];exact wB ta tb h
  ·rw[if_neg e] at h;rw[if_neg (Ne.symm e)];exact aS7 ha hb h
theorem aJ1:∀{ks:List Bool} {a b c:List V},KdR ks a->KdR ks b->KdR ks c->rlt b a=false->rlt c b=false->rlt c a=false
 |_,_,_,_,.nil,.nil,.nil,_,_=>rfl
 |_,x::a,y::b,z::c,.cons (as:=ks) ha ta,.cons hb tb,.cons hc tc,h1,h2=>by
  rw[jX (ks:=ks) hb ha] at h1;rw[jX (ks:=ks) hc hb] at h2;rw[jX (ks:=ks) hc ha];by_cases e1:y=x
  ·subst e1;rw[if_pos rfl] at h1;by_cases e2:z=y
   ·subst e2;rw[if_pos rfl] at h2 ⊢;exact aJ1 ta tb tc h1 h2
   ·rw[if_neg e2] at h2 ⊢;exact h2
  ·rw[if_neg e1] at h1;by_cases e2:z=y
   ·subst e2;rw[if_neg e1];exact h1
   ·rw[if_neg e2] at h2;by_cases e3:z=x
    ·subst e3;exact absurd (aSg hc hb h2 h1) e2
    ·rw[if_neg e3];exact aYw ha hb hc h1 h2
theorem aGo:∀{ks:List Bool} {a b:List V},KdR ks a->KdR ks b->rlt a b=false->rlt b a=false->a=b
 |_,_,_,.nil,.nil,_,_=>rfl
 |_,x::a,y::b,.cons (as:=ks) ha ta,.cons hb tb,h1,h2=>by
  rw[jX (ks:=ks) ha hb] at h1;rw[jX (ks:=ks) hb ha] at h2;by_cases e:x=y
  ·subst e;rw[if_pos rfl] at h1 h2;rw[aGo ta tb h1 h2]
  ·rw[if_neg e] at h1;rw[if_neg (Ne.symm e)] at h2;exact absurd (aSg ha hb h1 h2) e
theorem aXy {ks:List Bool}{a:List V}(ha:KdR ks a):rlt a a=false:=by
 cases h:rlt a a with
 |false=>rfl
 |true=>have:=wB ha ha h;rw[h] at this;cases this
theorem getD_mem {α:Type}{l:List α}{d:α}(hd:d∈l)(i:Nat):l.getD i d∈l:=by
 by_cases h:i<l.length
 ·rw[j4,d7 h];exact bAT h
 ·rw[j4,bAC (by lia)];exact hd
theorem range_getD {α:Type}(l:List α)(d:α):(List.range l.length).map (λi=>l.getD i d)=l:=by
 refine bB4 λi=>?_;by_cases h:i<l.length
 ·rw[v9,bB8 h,d7 h,Option.map_some,j4,d7 h];rfl
 ·rw[bAC (by simpa using h),bAC (by lia)]
theorem bBa {α:Type}{lt:α->α->Bool}(l:List α)(d:α){n:Nat}(hn:n=l.length)(asym:∀a∈l,∀b∈l,lt a b=true->lt b a=false)(tr:∀a∈l,∀b∈l,∀c∈l,lt b a=false->lt c b=false->lt c a=false)(R:α->α->Prop)(hR:l.Pairwise R) :
  ((PySem.W.dI n λi j=>lt (l.getD i d) (l.getD j d)).map λi=>l.getD i d).Perm l/\((PySem.W.dI n λi j=>lt (l.getD i d) (l.getD j d)).map λi=>l.getD i d).Pairwise λa b=>lt b a=false/\(lt a b=true\/R a b):=by
 subst hn;cases l with
 |nil=>
  have e:PySem.W.dI ([]:List α).length (λi j=>lt (([]:List α).getD i d) (([]:List α).getD j d))=[]:=by have:=PySem.W.sI ([]:List α).length (λi j=>lt (([]:List α).getD i d) (([]:List α).getD j d));exact List.length_eq_zero_iff.mp this
  rw[e];exact⟨.nil,.nil⟩
 |cons x0 l0=>
  generalize hl:x0::l0=l at asym tr hR;have hx:x0∈l:=by rw[<-hl];exact j8
  have same:PySem.W.dI l.length (λi j=>lt (l.getD i d) (l.getD j d))=PySem.W.dI l.length (λi j=>lt (l.getD i x0) (l.getD j x0)):=PySem.W.aMb λi j hi hj=>by rw[j4,j4,j4,j4,d7 hi,d7 hj];rfl
  have S:PySem.W.Swo λi j=>lt (l.getD i x0) (l.getD j x0):=⟨λ{i j} h=>asym _ (getD_mem hx i) _ (getD_mem hx j) h,λ{i j k} h1 h2=>tr _ (getD_mem hx i) _ (getD_mem hx j) _ (getD_mem hx k) h1 h2⟩;obtain⟨p1,p2⟩:=PySem.W.aH2 (n:=l.length) S;rw[<-same] at p1 p2;have low:∀i∈PySem.W.dI l.length (λi j=>lt (l.getD i d) (l.getD j d)),i<l.length:=λi hi=>PySem.W.nO hi;refine⟨?_,?_⟩
  ·have:=p1.map λi=>l.getD i d;rw[range_getD] at this;exact this
  ·refine List.pairwise_map.mpr (bDI ?_ p2);rintro i j hi hj ⟨h1,h2⟩;have li:=low i hi;have lj:=low j hj;have ei:l.getD i x0=l.getD i d:=by rw[j4,j4,d7 li];rfl
   have ej:l.getD j x0=l.getD j d:=by rw[j4,j4,d7 lj];rfl
   dsimp only at h1 h2;rw[ei,ej] at h1 h2;refine⟨h1,?_⟩;rcases h2 with h2|h2
   ·exact .inl h2
   ·right;have:=List.pairwise_iff_getElem.mp hR i j li lj h2;rw[j4,j4,d7 li,d7 lj];exact this
theorem aVj {α:Type}(l:List α):l.Pairwise λ_ _=>True:=List.pairwise_of_forall λ_ _=>trivial
theorem lK {ks:List Bool}{rs:List (List V)}(h:∀r∈rs,KdR ks r):(srt rs).Perm rs/\(srt rs).Pairwise λa b=>rlt b a=false:=by obtain⟨h1,h2⟩:=bBa (lt:=rlt) rs [] rfl (λa ha b hb=>wB (h a ha) (h b hb)) (λa ha b hb c hc=>aJ1 (h a ha) (h b hb) (h c hc)) (λ_ _=>True) (aVj _);exact⟨h1,h2.imp λz=>z.1⟩
theorem yH {α:Type}{lt:α->α->Bool}:∀{l m:List α},l.Perm m->(∀a∈l,∀b∈l,lt a b=false->lt b a=false->a=b)->l.Pairwise (λa b=>lt b a=false)->m.Pairwise (λa b=>lt b a=false)->l=m
 |[],m,p,_,_,_=>(List.perm_nil.mp p.symm).symm
 |a::l,[],p,_,_,_=>absurd (List.perm_nil.mp p) (by simp)
 |a::l,b::m,p,anti,hl,hm=>by
  rw[List.pairwise_cons] at hl hm;have ma:a∈b::m:=p.subset j8;have mb:b∈a::l:=p.symm.subset j8;have e:a=b:=by
   rcases List.mem_cons.mp ma with z|z
   ·exact z
   ·rcases List.mem_cons.mp mb with y|y
    ·exact y.symm
    ·exact anti a j8 b mb (hm.1 a z) (hl.1 b y)
  subst e;rw[yH (List.Perm.cons_inv p) (λx hx y hy=>anti x (j6 _ hx) y (j6 _ hy)) hl.2 hm.2]
theorem aBy {ks:List Bool}{rs qs:List (List V)}(h:∀r∈rs,KdR ks r)(p:rs.Perm qs):srt rs=srt qs:=by have hq:∀r∈qs,KdR ks r:=λr hr=>h r (p.symm.subset hr);obtain⟨a1,a2⟩:=lK h;obtain⟨b1,b2⟩:=lK hq;have hm:∀r∈srt rs,KdR ks r:=λr hr=>h r (a1.subset hr);exact yH (lt:=rlt) (a1.trans (p.trans b1.symm)) (λa ha b hb=>aGo (hm a ha) (hm b hb)) a2 b2
end L2
namespace PySem.SeqAt
open PySem PySem.Spec
abbrev opG:Bool->CmpOp
 |true=>.Gt
 |false=>.LtE
def aWs (g:Bool)(A:Around)(s:Shared)(y x:Value)(b:Bool):Prop:=
 ∀(prog:Program) (w:World) (E:bEY) (Q:bEY),Q (.bool b) s->wpAny (model prog w) A (richCompare (opG g) y x) Q E s
def fnG:Bool->Args->Sem Fin
 |true=>Builtin.«tuple.__gt__»
 |false=>Builtin.«tuple.__le__»
def leW (e c:Nat->Bool)(l:List Nat)(z:Bool):Bool:=l.foldr (λj acc=>if e j then acc else c j) z
theorem aGz (g z:Bool)(hzg:z=!g)(l b:Addr)(items items2:Array Value)(n n2:Nat)(dd dd2:Option Addr)(sl sl2:Array (Option Value))(e c:Nat->Bool)(hsz:items.size=items2.size) :
  Meets (fnG g ⟨[.ref l,.ref b],[]⟩)
   (λA R s=>s.heap.get? l=some { cls:=.type "tuple",dict:=dd,data:=.seq items n,slots:=sl }/\s.heap.get? b=some { cls:=.type "tuple",dict:=dd2,data:=.seq items2 n2,slots:=sl2 } /\
    (∀j (h1:j<items.size) (h2:j<items2.size),EqAt A.in1 s items[j] items2[j] (e j))/\(∀j (h1:j<items.size) (h2:j<items2.size),aWs g A.in1 s items[j] items2[j] (c j)) /\
    R (.ok (.ret (.bool (leW e c (List.range items.size) z)))) s):=
 .of_wp λprog w A R s h=>by
  cases g;all_goals
   unfold fnG;obtain⟨hp,gs,d,tk,os⟩:=s;obtain⟨hl,hb,he,hc,h⟩:=h;have f2:=AutoSeq1.sub_tuple_tuple;have hZ:(items.toList.zip items2.toList).length=items.size:=by simp[hsz]
   wp_walk using wpAny_loadPart' hl,wpAny_loadPart' hb,bEB _ (λrest b s'=>b.1=none/\s'=⟨hp,gs,d,tk,os⟩/\∃i,rest=(items.toList.zip items2.toList).drop i /\
    R (.ok (.ret (.bool (leW e c ((List.range items.size).drop i) z)))) ⟨hp,gs,d,tk,os⟩) _
   case turn=>
    rintro⟨y,x⟩ rest b s' ⟨hb',rfl,i,hz,hR⟩;have hlt:i<(items.toList.zip items2.toList).length:=by
     rcases Nat.lt_or_ge i (items.toList.zip items2.toList).length with h'|h'
     ·exact h'
     ·rw[bD0 h'] at hz;cases hz
    have h1:i<items.size:=hZ ▸ hlt;have h2:i<items2.size:=hsz ▸ h1;rw[bDG hlt] at hz;injection hz with hyx hrest;have hy:y=items[i]:=by have:=congrArg Prod.fst hyx;simpa using this
    have hx:x=items2[i]:=by have:=congrArg Prod.snd hyx;simpa using this
    subst hy hx;have hd:(List.range items.size).drop i=i::(List.range items.size).drop (i+1):=by simp[bDG,h1]
    rw[hd] at hR;have hR':R (.ok (.ret (.bool (if e i then leW e c ((List.range items.size).drop (i+1)) z else c i)))) ⟨hp,gs,d,tk,os⟩:=hR;refine c7 (he i h1 h2 prog w _ _ ?_);cases hy:e i with
    |true=>rw[hy] at hR';wp_walk;exact⟨rfl,rfl,i+1,hrest,by simpa using hR'⟩
    |false=>rw[hy] at hR';have hq:∀{E:bEY} {Q:bEY},Q (.bool (c i)) ⟨hp,gs,d,tk,os⟩->wpAny (model prog w) A.in1 (richCompare _ items[i] items2[i]) Q E ⟨hp,gs,d,tk,os⟩:=λ{E Q} h=>hc i h1 h2 prog w E Q h;wp_walk using hq;exact⟨_,rfl,by simpa using hR'⟩
   case fin=>
    rintro⟨b1,b2⟩ s' ⟨hb',rfl,i,hz,hR⟩;simp only at hb';subst hb';have hge:items.size<=i:=by
     rcases Nat.lt_or_ge i (items.toList.zip items2.toList).length with h'|h'
     ·rw[bDG h'] at hz;cases hz
     ·exact hZ ▸ h'
    rw[bD0 (by simpa using hge)] at hR;wp_walk;exact⟨_,rfl,by simpa [Builtin.Tuple.tupleCompareSizes,hsz,leW,hzg] using hR⟩
   case h=>exact⟨rfl,rfl,0,rfl,by simpa using h⟩
end PySem.SeqAt
namespace L2
open PySem PySem.Spec PyProof.Rows
theorem aH9 (g:Bool):∀{ks:List Bool} {a b:List V},KdR ks a->KdR ks b->SeqAt.leW (λj=>decide (a.getD j .non=b.getD j .non)) (λj=>kvlt (b.getD j .non) (a.getD j .non) == g) (List.range a.length) (!g)=(rlt b a == g)
 |_,_,_,.nil,.nil=>by cases g <;> rfl
 |_,x::a,y::b,.cons (as:=ks) ha ta,.cons hb tb=>by
  have ih:=aH9 g ta tb;rw[jX (ks:=ks) hb ha,v7,List.range_succ_eq_map];show (if decide (x=y)=true then SeqAt.leW (λj=>decide ((x::a).getD j .non=(y::b).getD j .non)) (λj=>kvlt ((y::b).getD j .non) ((x::a).getD j .non) == g) ((List.range a.length).map Nat.succ) (!g) else (kvlt y x == g))=_;by_cases e:x=y
  ·rw[if_pos (t6 e),if_pos e.symm,<-ih];unfold SeqAt.leW;rw[List.foldr_map];rfl
  ·rw[if_neg (by rw[v8 e];exact t8),if_neg (Ne.symm e)]
section
variable {X:Cx}
def bAc (g:Bool)(K:bEX):R2:=λx y H Q=>∃(ks:List Bool) (r q:List V),cT K H x r/\cT K H y q/\KdR ks r/\KdR ks q/\Q (.bl (rlt q r == g)) H
theorem aNg (g:Bool)(hu:X.A.units+64<cLine):OpR X (compareOp (SeqAt.opG g)) (bAc g X.K):=by
 intro bE1 s σ H x y v u Q I rx ry h;obtain⟨ks,r,q,⟨a,rfl,ha⟩,⟨b,rfl,hb⟩,hr,hq,fin⟩:=h;cases rx;cases ry;obtain⟨its,r1,⟨⟨cls,dd,data,sl⟩,ho,hc,n,hd⟩,hz⟩:=I.tuple ha;obtain⟨jts,r2,⟨⟨cls2,dd2,data2,sl2⟩,ho2,hc2,n2,hd2⟩,hw⟩:=I.tuple hb;simp only at hc hd hc2 hd2;subst hc hd hc2 hd2;have l1:=r1.length;have l2:=r2.length;have k1:=Al2.len hr;have k2:=Al2.len hq;have item:∀j (h1:j<its.toArray.size) (h2:j<jts.toArray.size),∃k,KdV k (r.getD j .non)/\KdV k (q.getD j .non)/\RelV (r.getD j .non) its.toArray[j]/\RelV (q.getD j .non) jts.toArray[j]:=λj h1 h2=>by
  rw[j7] at h1 h2;have hj:j<ks.length:=by lia
  have hjr:j<r.length:=by lia
  have hjq:j<q.length:=by lia
  have er:r.getD j .non=r[j]:=by simp[hjr]
  have eq:q.getD j .non=q[j]:=by simp[hjq]
  obtain⟨w1,g1,g2⟩:=r1.get (d7 hjr);obtain⟨w2,g3,g4⟩:=r2.get (d7 hjq);rw[er,eq];refine⟨ks[j],hr.get (d7 hj) (d7 hjr),hq.get (d7 hj) (d7 hjq),?_,?_⟩
  ·rw[bCH,(List.getElem?_eq_some_iff.mp g1).2];exact g2
  ·rw[bCH,(List.getElem?_eq_some_iff.mp g3).2];exact g4
 have sz:its.toArray.size=r.length:=by rw[j7];lia
 have sj:its.toArray.size=jts.toArray.size:=by rw[j7,j7];lia
 have tc:=SeqAt.aGz g (!g) rfl a b its.toArray jts.toArray n n2 dd dd2 sl sl2 (λj=>decide (r.getD j .non=q.getD j .non)) (λj=>kvlt (q.getD j .non) (r.getD j .non) == g) sj;have fin2:=aH9 g hr hq;have e1:∀j (h1:j<its.toArray.size) (h2:j<jts.toArray.size),SeqAt.EqAt X.A.in1 s its.toArray[j] jts.toArray[j] (decide (r.getD j .non=q.getD j .non)):=λj h1 h2=>by
  obtain⟨k,k1,k2,e1,e2⟩:=item j h1 h2;generalize r.getD j .non=y1 at k1 e1;generalize q.getD j .non=y2 at k2 e2;generalize its.toArray[j]=w1 at e1;generalize jts.toArray[j]=w2 at e2;cases k with
  |true=>
   obtain⟨i1,rfl⟩:=k1;obtain⟨i2,rfl⟩:=k2;obtain⟨t1,rfl⟩:=e1;obtain⟨t2,rfl⟩:=e2;have z:=bDP (A:=X.A.in1) (s:=s) i1 t1 i2 t2;have e:(i1 == i2)=decide (V.int i1=V.int i2):=by by_cases e:i1=i2 <;> simp[e]
   rw[<-e];exact z
  |false=>
   obtain⟨i1,rfl⟩:=k1;obtain⟨i2,rfl⟩:=k2;obtain⟨t1,rfl⟩:=e1;obtain⟨t2,rfl⟩:=e2;have z:=bC3 (A:=X.A.in1) (s:=s) i1 t1 i2 t2;have e:(i1 == i2)=decide (V.str i1=V.str i2):=by by_cases e:i1=i2 <;> simp[e]
   rw[<-e];exact z
 have e2:∀j (h1:j<its.toArray.size) (h2:j<jts.toArray.size),SeqAt.aWs g X.A.in1 s its.toArray[j] jts.toArray[j] (kvlt (q.getD j .non) (r.getD j .non) == g):=λj h1 h2=>by
  obtain⟨k,k1,k2,e1,e2⟩:=item j h1 h2;generalize r.getD j .non=y1 at k1 e1;generalize q.getD j .non=y2 at k2 e2;generalize its.toArray[j]=w1 at e1;generalize jts.toArray[j]=w2 at e2;cases k with
  |true=>
   obtain⟨i1,rfl⟩:=k1;obtain⟨i2,rfl⟩:=k2;obtain⟨t1,rfl⟩:=e1;obtain⟨t2,rfl⟩:=e2;intro prog w E Q hQ;cases g
   ·refine le_int ?_;have e:decide (i1<=i2)=(kvlt (.int i2) (.int i1) == false):=by show decide (i1<=i2)=(decide (i2<i1) == false);by_cases z:i1<=i2 <;> simp[z] <;> lia
    rw[e];exact hQ
   ·refine gt_int ?_;rw[show decide (i2<i1)=(kvlt (.int i2) (.int i1) == true) by show _=(decide (i2<i1) == true);simp];exact hQ
  |false=>
   obtain⟨i1,rfl⟩:=k1;obtain⟨i2,rfl⟩:=k2;obtain⟨t1,rfl⟩:=e1;obtain⟨t2,rfl⟩:=e2;intro prog w E Q hQ;cases g
   ·refine P.le_str ?_;rw[show (!decide (i2.cps.toList<i1.cps.toList))=(kvlt (.str i2) (.str i1) == false) by show _=(decide (i2.cps.toList<i1.cps.toList) == false);simp];exact hQ
   ·refine P.gt_str ?_;rw[show decide (i2.cps.toList<i1.cps.toList)=(kvlt (.str i2) (.str i1) == true) by show _=(decide (i2.cps.toList<i1.cps.toList) == true);simp];exact hQ
 rw[<-sz] at fin2;rw[<-fin2] at fin;cases g
 ·exact richCompare_meets_room (op:=.LtE) ⟨_,ho,rfl⟩ ⟨_,ho2,rfl⟩ F.slot_tuple_le F.entry_tuple_le (F.args_tuple_le_2 _ _) tc ⟨ho,ho2,e1,e2,(λz=>nomatch z),⟨.bl _,H,I,rfl,fin⟩⟩ (by lia)
 ·exact richCompare_meets_room (op:=.Gt) ⟨_,ho,rfl⟩ ⟨_,ho2,rfl⟩ F.slot_tuple_gt F.entry_tuple_gt (F.args_tuple_gt_2 _ _) tc ⟨ho,ho2,e1,e2,(λz=>nomatch z),⟨.bl _,H,I,rfl,fin⟩⟩ (by lia)
def bA9 (K:bEX):R2:=λx y H Q=>∃(ks:List Bool) (r q:List V),cT K H x r/\cT K H y q/\KdR ks r/\KdR ks q/\Q (.bl (!rlt q r)) H
def aZ9 (K:bEX):R2:=λx y H Q=>∃(ks:List Bool) (r q:List V),cT K H x r/\cT K H y q/\KdR ks r/\KdR ks q/\Q (.bl (rlt q r)) H
theorem aYl (hu:X.A.units+64<cLine):OpR X (compareOp .LtE) (bA9 X.K):=λbE1 s σ H x y v u Q I rx ry ⟨ks,r,q,h1,h2,h3,h4,h⟩=>aNg false hu bE1 s σ H x y v u Q I rx ry ⟨ks,r,q,h1,h2,h3,h4,by rw[show (rlt q r == false)=!rlt q r by simp];exact h⟩
theorem aSo (hu:X.A.units+64<cLine):OpR X (compareOp .Gt) (aZ9 X.K):=λbE1 s σ H x y v u Q I rx ry ⟨ks,r,q,h1,h2,h3,h4,h⟩=>aNg true hu bE1 s σ H x y v u Q I rx ry ⟨ks,r,q,h1,h2,h3,h4,by rw[show (rlt q r == true)=rlt q r by simp];exact h⟩
theorem aGs {K:bEX}{H:Hp}:∀{r:List V},(∀x∈r,(∃i,x=.int i)\/∃z,x=.str z)->∀n,Al2 (DEq K H n) r r
 |[],_,_=>.nil
 |x::r,h,n=>.cons (by rcases h x j8 with⟨i,rfl⟩|⟨z,rfl⟩ <;> cases n <;> first|exact⟨rfl,rfl⟩|exact .inl ⟨rfl,rfl⟩) (aGs (λy hy=>h y (j6 _ hy)) n)
theorem aSh {K:bEX}{H:Hp}{us ws:List V}{rs:List (List V)}(h1:Al2 (cT K H) us rs)(h2:Al2 (cT K H) ws rs)(hf:∀r∈rs,∀x∈r,(∃i,x=.int i)\/∃z,x=.str z):Al2 (DEq K H 40) us ws:=by refine Al2.of (h1.len.trans h2.len.symm) λi u w e1 e2=>?_;obtain⟨r,er,a,rfl,ha⟩:=h1.at e1;obtain⟨r',er',b,rfl,hb⟩:=h2.at e2;rw[er] at er';cases er';exact .inr ⟨a,b,r,r,rfl,rfl,ha,hb,aGs (hf r (v6 er)) 39⟩
def aT8 (K:bEX):R2:=λx y H Q=>∃(a b:Addr) (us ws:List V) (rs:List (List V)),x=.ref a/\y=.ref b/\SqL K H a us/\SqL K H b ws/\Al2 (cT K H) us rs/\Al2 (cT K H) ws rs/\(∀r∈rs,∀x∈r,(∃i,x=.int i)\/∃z,x=.str z)/\Q (.bl false) H
theorem xH (hu:X.A.units+64<cLine):OpR X (compareOp .NotEq) (aT8 X.K):=by
 intro bE1 s σ H x y v u Q I rx ry h;obtain⟨a,b,us,ws,rs,rfl,rfl,ha,hb,h1,h2,hf,q⟩:=h;cases rx;cases ry;obtain⟨its,r1,pl,hz⟩:=I.list ha;obtain⟨jts,r2,pm,hw⟩:=I.list hb;have d:=aSh h1 h2 hf;have l:=d.len;have l1:=r1.length;have l2:=r2.length;refine SeqAt.RcNeAt.lists (e:=λ_=>true) pl.isList pm.isList (by rw[j7,j7];lia) (by lia) (uQ I r1 r2 d λd q1 q2=>xN I 40 d q1 q2 (by show X.A.units+1+40<cLine;lia)) _ _ _ _ ?_;first
  |(rw[vM];exact⟨.bl _,H,I,rfl,q⟩)
  |(simp only[vM];exact⟨.bl _,H,I,rfl,q⟩)
end
end L2
namespace My
open PySem PySem.Spec PyProof.Rows L2
section
variable {P:Program}{w:World}{K:bEX}{mg:bE0}{base:Heap}
theorem aRq {X:Cx}{o e:Expr}{apos cpos:Pos}{td ty:TE}(hu:X.A.units+1<cLine)(ho:VE X o td)(he:VE X e ty)(m:M1 X o "get" apos e cpos:=by exact⟨rfl,rfl,rfl,rfl⟩):VE X (.Call (.Attribute o "get" apos) [e] [] cpos) (aSs td ty):=⟨aRd hu ho.1 he.1 m⟩
theorem aYo {X:Cx}{i o:Expr}{td ty:TE}{pos:Pos}(hu:X.A.units+1<cLine)(hi:VE X i ty)(ho:VE X o td)(h1:behindInMarks .In o=false:=by first|exact nobehind _ (by decide) (by decide)|rfl):VT X (.Compare i [.In] [o] pos) (tB (bAd ty td)):=⟨aSp (aYs hu hi.1 ho.1) h1⟩
def aW6:Sp:=λ_ _ _ _=>False
structure bZ (K:bEX)(H:Hp)(C x:Addr)(m:Int)(d dm:Addr)(es:List En):Prop where
 at_:∃dx,H x=some (.ins C dx [("placed",.ref d),("house_count",.int m),("moves",.ref dm)])
 ens:lX K H d es
 ok:∀e∈es,pD m e.t
 ne:d≠dm
theorem bZ.same {H H':Hp}{C x d dm:Addr}{m:Int}{es:List En}(s:Same H H')(h:bZ K H C x m d dm es):bZ K H' C x m d dm es:=
 ⟨let ⟨dx,h1⟩:=h.at_;⟨dx,s _ _ h1⟩,h.ens.same s,h.ok,h.ne⟩
structure Mv where
 num:Nat
 house:Int
 mark:Option (List V)
def aF7 (K:bEX)(H:Hp)(v:V):Option (List V)->Prop
 |none=>v=.non
 |some r=>cT K H v r
def uA (K:bEX)(H:Hp)(v:V)(q:Mv):Prop:=∃a vm,v=.ref a/\SqT K H a [.int q.num,.int q.house,vm]/\aF7 K H vm q.mark
theorem aF7.tk {H H':Hp}{v:V}{o:Option (List V)}(k:∀p xs,SqT K H p xs->SqT K H' p xs)(h:aF7 K H v o):aF7 K H' v o:=by
 cases o with
 |none=>exact h
 |some r=>obtain⟨a,e,ha⟩:=h;exact⟨a,e,k _ _ ha⟩
theorem uA.tk {H H':Hp}{v:V}{q:Mv}(k:∀p xs,SqT K H p xs->SqT K H' p xs)(h:uA K H v q):uA K H' v q:=
 let ⟨a,vm,e,ha,hm⟩:=h;⟨a,vm,e,k _ _ ha,hm.tk k⟩
theorem uA.same {H H':Hp}{v:V}{q:Mv}(s:Same H H')(h:uA K H v q):uA K H' v q:=h.tk λ_ _=>s.aV
theorem aF7.same {H H':Hp}{v:V}{o:Option (List V)}(s:Same H H')(h:aF7 K H v o):aF7 K H' v o:=h.tk λ_ _=>s.aV
def MvV (K:bEX)(H:Hp)(v:V):Option Mv->Prop
 |none=>v=.non
 |some q=>uA K H v q
def MvD (K:bEX)(H:Hp)(dm:Addr)(nm:Str)(o:Option Mv):Prop:=∃v,MvV K H v o/\H dm=some (.dK (match o with|none=>[]|some _=>[(Sum.inr nm,v)]))
theorem MvD.same {H H':Hp}{dm:Addr}{nm:Str}{o:Option Mv}(s:Same H H')(h:MvD K H dm nm o):MvD K H' dm nm o:=by
 obtain⟨v,h1,h2⟩:=h;refine⟨v,?_,s _ _ h2⟩;cases o with
 |none=>exact h1
 |some q=>exact uA.same s h1
def aH7 (K:bEX)(C Pt:Addr):Sp:=λvs H Q _=>∃(H0:Hp) (x dx d:Addr) (m:Int) (es:List En),vs=[.ref x,.int m,.ref d]/\H x=some (.ins C dx [])/\H0 x=none/\Same H0 H/\1<=m/\m<=6/\lX K H0 d es/\(∀e∈es,pD m e.t)/\H0 Pt=some (.tab qC) /\
 ∀d' dm H' es',H0 d'=none->H0 dm=none->Same H0 H'->bZ K H' C x m d' dm es'->H' dm=some (.dK [])->cU (λe e'=>∃v L,e'=aBf e v L/\H0 L=none) es es'->Q .non H'
theorem aO6 (T:Txt w K mg){C Pt:Addr}(c:Cls K C)(D:iD K C "__init__" "Store.__init__" fQ ["self","houses","tables"])(n1:bK K C "placed")(n2:bK K C "house_count")(n3:bK K C "moves")(kY:Ok P w K mg base 10 "placed_tables" ["houses","tables"] (xU K Pt)):OkM P w K mg base C 11 "__init__" ["self","houses","tables"] (aH7 K C Pt):=by
 refine OkM.ofV c D vR (λvs H Q E h=>?_) (λf cdv A outer s H vs Q E hr h=>?_)
 ·obtain⟨_,x,dx,d,m,es,rfl,_⟩:=h;rfl
 obtain⟨H0,x,dx,d,m,es,rfl,hx,hN,s0,m1,m6,hE,ok,hP,q⟩:=h;refine⟨_,(aC (aBv (K:=K) (vv 0) (aO (kY.mono (by decide)) hr (by rfl) (aB (vv 1) (aB (vv 2) aA)))) (aC (aBv (K:=K) (vv 0) (vv 1)) (aG (aBv (K:=K) (vv 0) aQc)))),?_⟩;refine⟨_,rfl,_,rfl,d,m,es,rfl,m1,m6,hE.same s0,ok,s0 _ _ hP,λd' H1 es' hd' s1 hE' a1=>?_⟩;have hx1:=s1 _ _ hx;refine⟨_,rfl,x,C,dx,[],rfl,hx1,c,n1,by decide,?_⟩;refine⟨_,rfl,_,rfl,x,C,dx,_,rfl,aH,c,n2,by show 1<1000;decide,?_⟩;have nx:eU H1 x:=eU.ins hx1;have dne:d'≠x:=λz=>by rw[z,hx] at hd';cases hd'
 have b1:But x H1 (L2.upd (L2.upd H1 x (.ins C dx (jD "placed" (.ref d') []))) x (.ins C dx (jD "house_count" (.int m) (jD "placed" (.ref d') [])))):=λb o hb h=>by rw[aN hb,aN hb];exact h
 have g1:L2.upd (L2.upd H1 x (.ins C dx (jD "placed" (.ref d') []))) x (.ins C dx (jD "house_count" (.int m) (jD "placed" (.ref d') []))) x=some (.ins C dx [("placed",.ref d'),("house_count",.int m)]):=aH;have fr:∀{b},L2.upd (L2.upd H1 x (.ins C dx (jD "placed" (.ref d') []))) x (.ins C dx (jD "house_count" (.int m) (jD "placed" (.ref d') []))) b=none->H1 b=none:=λ{b} h=>by
  by_cases z:b=x
  ·rw[z,aH] at h;cases h
  ·rw[aN z,aN z] at h;exact h
 generalize L2.upd (L2.upd H1 x (.ins C dx (jD "placed" (.ref d') []))) x (.ins C dx (jD "house_count" (.int m) (jD "placed" (.ref d') [])))=H2 at b1 g1 fr ⊢;refine λdm H3 hdm s3 g3=>?_;refine⟨_,rfl,x,C,dx,_,rfl,s3 _ _ g1,c,n3,by show 2<1000;decide,?_⟩;have b3:But x H1 (L2.upd H3 x (.ins C dx [("placed",.ref d'),("house_count",.int m),("moves",.ref dm)])):=λb o hb h=>by rw[aN hb];exact s3 _ _ (b1 _ _ hb h)
 have ndm:dm≠x:=λz=>by rw[z,g1] at hdm;cases hdm
 have s2:Same H0 (L2.upd H3 x (.ins C dx [("placed",.ref d'),("house_count",.int m),("moves",.ref dm)])):=λb o h=>b3 _ _ (λz=>by rw[z,hN] at h;cases h) (s1 _ _ (s0 _ _ h));refine q d' dm _ es' (none_of s0 hd') (none_of (s0.trans s1) (fr hdm)) s2 ⟨⟨dx,aH⟩,⟨b3 _ _ dne hE'.at_,hE'.nd,hE'.few,hE'.nm,λe he=>b3.tb nx (hE'.tb e he)⟩,λe he=>?_,λz=>?_⟩ (by rw[aN ndm];exact g3) (a1.imp λe e' ⟨v,L,e1,e2⟩=>⟨v,L,e1,none_of s0 e2⟩)
 ·obtain⟨e0,h0,v,L,rfl,_⟩:=aD6 a1 he;exact (ok e0 h0).sorted
 ·have:=b1 _ _ dne hE'.at_;rw[z,hdm] at this;cases this
def aNl (K:bEX)(C Ct Pt:Addr):Sp:=λvs H Q _=>∃(x d dm:Addr) (m:Int) (es:List En),vs=[.ref x]/\bZ K H C x m d dm es/\1<=m/\m<=6/\H Pt=some (.tab qC)/\∀y d' H' es',H y=none->H d'=none->Same H H'->rM K H' Ct y m d' es'->cU (λe e'=>∃v L,e'=aBf e v L/\H L=none) es es'->Q (.ref y) H'
theorem aRj (T:Txt w K mg){C Ct Pt:Addr}(c:Cls K C)(D:iD K C "town" "Store.town" lA ["self"])(n1:bK K C "placed")(n2:bK K C "house_count")(GC_Town:OkC P w K mg base Ct 11 "Town" ["self","houses","tables"] (aN0 K Ct Pt)):OkM P w K mg base C 13 "town" ["self"] (aNl K C Ct Pt):=by
 refine OkM.ofV c D aC6 (λvs H Q E h=>?_) (λf cdv A outer s H vs Q E hr h=>?_)
 ·obtain⟨x,d,dm,m,es,rfl,_⟩:=h;rfl
 obtain⟨x,d,dm,m,es,rfl,hS,m1,m6,hP,q⟩:=h;refine⟨_,(aG (aL (aMn (GC_Town.mono (by decide)) hr (by rfl) (aB (dU (K:=K) (vv 0)) (aB (dU (K:=K) (vv 0)) aA))))),?_⟩;obtain⟨dx,hx⟩:=hS.at_;refine⟨_,rfl,x,C,dx,_,_,rfl,hx,c,n2,rfl,_,rfl,x,C,dx,_,_,rfl,hx,c,n1,rfl,λy dy hy hdy hne=>?_⟩;refine⟨H,y,dy,d,m,es,rfl,aH,hy,lV hy (aW hdy _),m1,m6,hS.ens,hS.ok,hP,λd' H1 es' hd' s1 hT a1=>⟨rfl,?_⟩⟩;exact q y d' H1 es' hy hd' s1 hT a1
def aFc (K:bEX)(C:Addr):Sp:=λvs H Q _=>∃(x d dm:Addr) (m:Int) (es:List En) (e:En) (n:Str) (h0:Int) (cs:List (V × Int)),vs=[.ref x,.str e.n]/\bZ K H C x m d dm es/\e∈es/\e.t.pl=.spans n h0 cs/\∀H',Same H H'->Q e.v H'
theorem aRw (T:Txt w K mg){C:Addr}(c:Cls K C)(D:iD K C "cut_table" "Store.cut_table" eO ["self","name"])(n1:bK K C "placed")(dC:Ok P w K mg base 3 "table_in" ["placed","name"] (uP K)):OkM P w K mg base C 4 "cut_table" ["self","name"] (aFc K C):=by
 refine OkM.ofV c D mC (λvs H Q E h=>?_) (λf cdv A outer s H vs Q E hr h=>?_)
 ·obtain⟨x,d,dm,m,es,e,n,h0,cs,rfl,_⟩:=h;rfl
 obtain⟨x,d,dm,m,es,e,n,h0,cs,rfl,hS,he,epl,q⟩:=h;refine⟨_,(aC (aX (i:=2) mC.nd rfl (by trivial) (aO (dC.mono (by decide)) hr (by rfl) (aB (dU (K:=K) (vv 0)) (aB (vv 1) aA)))) (aC (cA (bC yV (aP bH (aP bH (vv 2) aF (λ_ _=>rfl)) aF (λ_ _=>rfl)) bN (aY _)) (aG fX) aZ) (aG (aL (vv 2))))),?_⟩;obtain⟨dx,hx⟩:=hS.at_;refine⟨_,rfl,x,C,dx,_,_,rfl,hx,c,n1,rfl,_,rfl,d,es,e,rfl,hS.ens,he,λH1 s1=>?_⟩;obtain⟨a,ev,ha,h1,h2,h3⟩:=(hS.ens.tb e he).same s1;rw[epl] at h2;obtain⟨b,vc,eb,hb,hc⟩:=h2;refine⟨_,rfl,a,_,1,_,ev,rfl,ha,at1 _ _ _,b,_,0,_,eb,rfl,hb,at0 _ _,rfl,_,rfl,gY (by decide) ?_⟩;exact⟨_,rfl,q H1 s1⟩
def aIl (K:bEX)(C:Addr):Sp:=λvs H Q _=>∃(x d dm:Addr) (m:Int) (es:List En) (n:Str),vs=[.ref x,.str n]/\bZ K H C x m d dm es/\H dm=some (.dK [])/\Q .non H
theorem aPv (T:Txt w K mg){C:Addr}(c:Cls K C)(D:iD K C "need_still" "Store.need_still" dY ["self","name"])(n3:bK K C "moves"):OkM P w K mg base C 1 "need_still" ["self","name"] (aIl K C):=by
 refine OkM.ofV c D sW (λvs H Q E h=>?_) (λf cdv A outer s H vs Q E hr h=>?_)
 ·obtain⟨x,d,dm,m,es,n,rfl,_⟩:=h;rfl
 obtain⟨x,d,dm,m,es,n,rfl,hS,hm,q⟩:=h;have hu:=tG hr;refine⟨_,(aG (cA (aYo hu (vv 1) (dU (K:=K) (vv 0))) (aG fX) aZ)),?_⟩;obtain⟨dx,hx⟩:=hS.at_;exact⟨_,rfl,_,rfl,x,C,dx,_,_,rfl,hx,c,n3,rfl,dm,none,rfl,.inl ⟨_,Sum.inr n,.inl hm,rfl,rfl⟩,_,rfl,bY q⟩
def aDb (K:bEX)(C:Addr):Sp:=λvs H Q _=>∃(x d dm:Addr) (m:Int) (es:List En) (n:Str) (v:V),vs=[.ref x,.str n]/\bZ K H C x m d dm es/\H dm=some (.dK [(Sum.inr n,v)])/\Q v H
theorem vB (n:Str)(v:V):rA [((Sum.inr n:Key),v)] (Sum.inr n)=some v:=pX rfl
theorem aKo (T:Txt w K mg){C:Addr}(c:Cls K C)(D:iD K C "move_of" "Store.move_of" gF ["self","name"])(n3:bK K C "moves"):OkM P w K mg base C 1 "move_of" ["self","name"] (aDb K C):=by
 refine OkM.ofV c D wO (λvs H Q E h=>?_) (λf cdv A outer s H vs Q E hr h=>?_)
 ·obtain⟨x,d,dm,m,es,n,v,rfl,_⟩:=h;rfl
 obtain⟨x,d,dm,m,es,n,v,rfl,hS,hm,q⟩:=h;have hu:=tG hr;refine⟨_,(aC (cA (aD8 hu (vv 1) (dU (K:=K) (vv 0))) (aG fX) aZ) (aG (aL (zX hu (dU (K:=K) (vv 0)) (vv 1) (λ_ _=>rfl))))),?_⟩;obtain⟨dx,hx⟩:=hS.at_;refine⟨_,rfl,_,rfl,x,C,dx,_,_,rfl,hx,c,n3,rfl,dm,some v,rfl,.inl ⟨_,Sum.inr n,.inl hm,rfl,(vB n v).symm⟩,_,rfl,bY ?_⟩;exact⟨_,rfl,x,C,dx,_,_,rfl,hx,c,n3,rfl,_,rfl,dm,v,rfl,.inl ⟨_,Sum.inr n,.inl hm,rfl,(vB n v).symm⟩,q⟩
def rY (K:bEX)(C:Addr):Sp:=λvs H Q _=>∃(x d dm:Addr) (m:Int) (es:List En) (e:En) (o:Option Mv),vs=[.ref x,.str e.n]/\bZ K H C x m d dm es/\e∈es/\MvD K H dm e.n o/\∀v H',Same H H'->MvV K H' v o->Q v H'
theorem aL1 (T:Txt w K mg){C:Addr}(c:Cls K C)(D:iD K C "moving" "Store.moving" iY ["self","name"])(n1:bK K C "placed")(n3:bK K C "moves")(dC:Ok P w K mg base 3 "table_in" ["placed","name"] (uP K)):OkM P w K mg base C 4 "moving" ["self","name"] (rY K C):=by
 refine OkM.ofV c D zO (λvs H Q E h=>?_) (λf cdv A outer s H vs Q E hr h=>?_)
 ·obtain⟨x,d,dm,m,es,e,o,rfl,_⟩:=h;rfl
 obtain⟨x,d,dm,m,es,e,o,rfl,hS,he,hm,q⟩:=h;have hu:=tG hr;refine⟨_,(aC (mW (aO (dC.mono (by decide)) hr (by rfl) (aB (dU (K:=K) (vv 0)) (aB (vv 1) aA)))) (aG (aL (aRq hu (dU (K:=K) (vv 0)) (vv 1))))),?_⟩;obtain⟨dx,hx⟩:=hS.at_;refine⟨_,rfl,x,C,dx,_,_,rfl,hx,c,n1,rfl,_,rfl,d,es,e,rfl,hS.ens,he,λH1 s1=>?_⟩;obtain⟨v,hv,hd⟩:=hm.same s1;cases o with
 |none=>exact⟨_,rfl,x,C,dx,_,_,rfl,s1 _ _ hx,c,n3,rfl,dm,rfl,.inl ⟨_,.inl hd⟩,_,rfl,none,.inl ⟨_,Sum.inr e.n,.inl hd,rfl,rfl⟩,q .non H1 s1 rfl⟩
 |some mq=>exact⟨_,rfl,x,C,dx,_,_,rfl,s1 _ _ hx,c,n3,rfl,dm,rfl,.inl ⟨_,.inl hd⟩,_,rfl,some v,.inl ⟨_,Sum.inr e.n,.inl hd,rfl,(vB e.n v).symm⟩,q v H1 s1 hv⟩
theorem pJ {H:Hp}{a:Addr}{rs:List (List V)}{σ0:L2.St}{tt:TT}{Q:VK}(hR:cC K H a rs)(hl:rs.length<=1000)(p:List V->Bool)(h0:σ0[0]?=some none)
  (ht:∀(u:V) (r:List V),r∈rs->∀H' R l,Same H H'->cT K H' u r->(∀H2,Same H' H2->R (p r) H2)->tt ((σ0.set 0 l).set 0 (some u)) H' R)
  (q:∀D H',H D=none->Same H H'->cC K H' D (rs.filter p)->Q (.ref D) H'):qW (Itl K a) H σ0 (cB 0) tt (aPn 0) Q:=by
 obtain⟨us,g,hus⟩:=hR;have lu:=hus.len;refine aA9 us (λi=>p (rs.getD i [])) σ0 (small (by lia)) (aTv λH' s=>SqL.of (s _ _ g)) (aP9 λH' s=>SqL.of (s _ _ g)) (λi u ex H' R l sm rr=>?_) h0 λD H' hN sm hD=>?_
 ·obtain⟨r,er,hr⟩:=cM hus ex;rw[j4,er,bBO] at rr;exact ht u r (v6 er) H' R l sm (hr.same sm) rr
 ·refine q D H' hN sm ⟨_,hD,?_⟩;rw[<-mF (p:=λi=>p (rs.getD i [])) (p':=p) λi r er=>by rw[bCS,j4,er];rfl];exact (aB2 hus 0).imp λ_ _ r=>r.same sm
def iB (hd:Hdr)(n:Str)(cs:List (V × Int))(num:Nat)(r:List V):Bool:=decide (jK (r.getD (plc hd n) .non) cs 1 0=num)
def rK:Option (List V)->List V->Bool
 |none,_=>true
 |some q,r=>rlt q r
def aAc (K:bEX):Sp:=λvs H Q _=>∃(vr vm:V) (r:List V) (o:Option (List V)) (ks:List Bool),vs=[vr,vm]/\cT K H vr r/\aF7 K H vm o/\KdR ks r/\(∀q,o=some q->KdR ks q)/\Q (.bl (rK o r)) H
theorem aIg (T:Txt w K mg):Ok P w K mg base 1 "is_above" ["row","mark"] (aAc K):=by
 refine Ok.ofV T.aL7 aIy (λvs H Q E h=>?_) (λf cdv A outer s H vs Q E hr h=>?_)
 ·obtain⟨vr,vm,r,o,ks,rfl,_⟩:=h;rfl
 obtain⟨vr,vm,r,o,ks,rfl,hr',hm,hk,hq,q⟩:=h;have hU:=hr.units;refine⟨_,(aG (aL (aWr (cQ aCc (vv 1) kJ (aY _)) (gK (cQ (aSo hU) (vv 0) (vv 1) (aY _)))))),?_⟩;cases o with
 |none=>cases hm;exact⟨_,rfl,rfl,_,rfl,nQ (t6 rfl) q⟩
 |some b=>obtain⟨ma,rfl,hma⟩:=id hm;exact⟨_,rfl,rfl,_,rfl,gY (v8 λz=>by cases z) ⟨_,rfl,_,rfl,ks,r,b,hr',hm,hk,hq b rfl,q⟩⟩
def aB3 (K:bEX):Sp:=λvs H Q _=>∃(v vh vp:V) (L:Addr) (t:Tb) (m:Int) (num:Nat) (n:Str) (h0:Int) (cs:List (V × Int)),vs=[v,.int num]/\rC K H v vh vp L t/\pD m t/\t.pl=.spans n h0 cs/\∀D' H',H D'=none->Same H H'->cC K H' D' (t.rows.filter (iB t.hd n cs num))->Q (.ref D') H'
theorem aFq (T:Txt w K mg)(tU:Ok P w K mg base 2 "place_of" ["head","name"] (oA K))(aAv:Ok P w K mg base 1 "cut_of" ["cuts","value"] (aAr K)):Ok P w K mg base 3 "span_rows" ["table","number"] (aB3 K):=by
 refine Ok.ofV T.aJs vZ (λvs H Q E h=>?_) (λf cdv A outer s H vs Q E hr h=>?_)
 ·obtain⟨v,vh,vp,L,t,m,num,n,h0,cs,rfl,_⟩:=h;rfl
 obtain⟨v,vh,vp,L,t,m,num,n,h0,cs,rfl,⟨a,rfl,ha,hI,hpl,hRow⟩,ok,epl,q⟩:=h;rw[epl] at hpl;obtain⟨b,vc,rfl,hb,hc⟩:=hpl;have okp:=ok.pl;rw[epl] at okp;obtain⟨hn,kd,hk,hkd,hcs⟩:=okp;have l8:=ok.hd.1.2.2;refine⟨_,(aC (aX (i:=2) vZ.nd rfl (by trivial) (aO (tU.mono (by decide)) hr (by rfl) (aB (aP bH (vv 0) aF (λ_ _=>rfl)) (aB (aP bH (aP (bO (K:=K)) (vv 0) aF (λ_ _=>rfl)) aF (λ_ _=>rfl)) aA)))) (aG (aL (cJ (N:=["row","number","place","table"]) (by trivial) (dX (aD mY) rfl (by decide +kernel)) rfl (dR (aP (bO (K:=K)) (vv 0) aF (λ_ _=>rfl))) (λcl s' H' fp=>⟨(aM (i:=0) (show (["row","number","place","table"]:List Str).Nodup from by decide +kernel) rfl (Or.inl rfl)),(lO (bC fK (aO (aAv.mono (by decide)) hr (by rfl) (aB (aP (bO (K:=K)) (aP (bO (K:=K)) (vv 3) aF (λ_ _=>rfl)) aF (λ_ _=>rfl)) (aB (aP (bO (K:=K)) (vv 0) (vv 2) (λ_ _=>rfl)) aA))) (vv 1) (aY _))),(vv 0)⟩))))),?_⟩;refine⟨_,rfl,a,_,0,_,rfl,rfl,ha,at0 _ _,_,rfl,a,_,1,_,rfl,rfl,ha,at1 _ _ _,b,_,1,_,rfl,rfl,hb,at1 _ _ _,vh,n,t.hd,kd,rfl,hI,by lia,hk,λH1 s1=>?_⟩;dsimp only[cB,sY,List.set];obtain⟨us,gL,hus⟩:=id hRow;refine iV [none,some (.int num),some (.int (plc t.hd n:Nat)),some (.ref a)] (zW 1 2 0 (by decide +kernel) (by decide +kernel) (by decide +kernel) rfl rfl rfl rfl rfl rfl (by trivial) (by trivial) (by trivial)) ?_;refine⟨_,rfl,a,_,2,_,rfl,rfl,s1.aV ha,at2 _ _ _ _,L,rfl,⟨_,SqL.of (s1 _ _ gL)⟩,pJ (hRow.same s1) (by have:=ok.few;lia) (iB t.hd n cs num) rfl (λu r hr' H' R l sm hru rr=>?_) λD H' hN sm hD=>q D H' (none_of s1 hN) (s1.trans sm) hD⟩;obtain⟨ra,rfl,hra⟩:=hru;obtain⟨v,hv,hg,okv⟩:=aG6 (ok.rows r hr') hk;have s':=s1.trans sm;refine⟨_,rfl,a,_,1,_,rfl,rfl,s'.aV ha,at1 _ _ _,b,_,2,_,rfl,rfl,s'.aV hb,at2 _ _ _ _,_,rfl,_,rfl,ra,r,_,v,rfl,rfl,hra,cL hv,vc,v,kd,h0,cs,rfl,qP.same s' (λ_ _ z=>z.same s') hc,hcs.few,okv,λc hc=>(hcs.each c hc).1,_,rfl,rfl,_,rfl,?_⟩;have e:decide (V.int (jK v cs 1 0:Nat)=V.int num)=iB t.hd n cs num r:=by unfold iB;rw[hg];exact decide_eq_decide.mpr ⟨λz=>by have:=V.int.inj z;lia,λz=>by rw[z]⟩
 rw[e];exact rr H' (Same.refl _)
def aSq (K:bEX)(C:Addr):Sp:=λvs H Q _=>∃(x d dm:Addr) (m:Int) (es:List En) (e:En) (mq:Mv) (n:Str) (h0:Int) (cs:List (V × Int)),vs=[.ref x,.str e.n]/\bZ K H C x m d dm es/\e∈es/\MvD K H dm e.n (some mq)/\e.t.pl=.spans n h0 cs/\(∀q,mq.mark=some q->pP e.t.hd q)/\∀D' H',H D'=none->Same H H'->cC K H' D' (e.t.rows.filter λr=>rK mq.mark r && iB e.t.hd n cs mq.num r)->Q (.ref D') H'
theorem aU2 (T:Txt w K mg){C:Addr}(c:Cls K C)(D:iD K C "rows_to_come" "Store.rows_to_come" cP ["self","name"])(n1:bK K C "placed")(n3:bK K C "moves")(qX:Ok P w K mg base 3 "span_rows" ["table","number"] (aB3 K))(uW:Ok P w K mg base 1 "is_above" ["row","mark"] (aAc K)):OkM P w K mg base C 4 "rows_to_come" ["self","name"] (aSq K C):=by
 refine OkM.ofV c D jE (λvs H Q E h=>?_) (λf cdv A outer s H vs Q E hr h=>?_)
 ·obtain⟨x,d,dm,m,es,e,mq,n,h0,cs,rfl,_⟩:=h;rfl
 obtain⟨x,d,dm,m,es,e,mq,n,h0,cs,rfl,hS,he,⟨v,hv,hm⟩,epl,hq,q⟩:=h;have hu:=tG hr;refine⟨_,(aC (aX (i:=2) jE.nd rfl (by trivial) (zX hu (dU (K:=K) (vv 0)) (vv 1) (λ_ _=>rfl))) (aG (aL (cJ (N:=["row","move"]) (by trivial) (dX (aD cP) rfl (by decide +kernel)) rfl (dR (aO (qX.mono (by decide)) hr (by rfl) (aB (zX hu (dU (K:=K) (vv 0)) (vv 1) (λ_ _=>rfl)) (aB (aP bH (vv 2) aF (λ_ _=>rfl)) aA)))) (λcl s' H' fp=>⟨(aM (i:=0) (show (["row","move"]:List Str).Nodup from by decide +kernel) rfl (Or.inl rfl)),(lO (bV (aO (uW.mono (by decide)) hr (by rfl) (aB (vv 0) (aB (aP (bO (K:=K)) (vv 1) aF (λ_ _=>rfl)) aA))))),(vv 0)⟩))))),?_⟩;obtain⟨dx,hx⟩:=hS.at_;obtain⟨a,vm,rfl,ha,hmk⟩:=hv;have ok:=hS.ok e he;refine⟨_,rfl,x,C,dx,_,_,rfl,hx,c,n3,rfl,_,rfl,dm,_,rfl,.inl ⟨_,Sum.inr e.n,.inl hm,rfl,(vB e.n _).symm⟩,?_⟩;dsimp only[cB,sY,List.set];refine iV [none,some (.ref a)] (jT 2 (by decide +kernel) rfl rfl (by trivial)) ?_;refine⟨_,rfl,x,C,dx,_,_,rfl,hx,c,n1,rfl,_,rfl,d,e.v,rfl,.inl ⟨_,Sum.inr e.n,.inl hS.ens.at_,rfl,(aFl hS.ens.nd he).symm⟩,?_⟩;refine⟨_,rfl,a,_,0,_,rfl,rfl,ha,at0 _ _,e.v,e.vh,e.vp,e.L,e.t,m,mq.num,n,h0,cs,rfl,hS.ens.tb e he,ok,epl,λD1 H1 hD1 s1 hR=>?_⟩;obtain⟨us,gD,hus⟩:=id hR;refine⟨D1,rfl,⟨_,SqL.of gD⟩,pJ hR (bAL (bAU _ _) (by have:=ok.few;lia)) (rK mq.mark) rfl (λu r hr' H' R l sm hru rr=>?_) λD' H' hN sm hD=>q D' H' (none_of s1 hN) (s1.trans sm) (by rw[bC5] at hD;exact hD)⟩;refine⟨_,rfl,_,rfl,a,_,2,_,rfl,rfl,(s1.trans sm).aV ha,at2 _ _ _ _,u,vm,r,mq.mark,knds e.t.hd,rfl,hru,hmk.same (s1.trans sm),jY (ok.rows r (List.mem_filter.mp hr').1),λq' e'=>jY (hq q' e'),_,rfl,rr H' (Same.refl _)⟩
end
end My
namespace PySem
def Ris (xs:Array Nat):Prop:=∀a b (ha:a<xs.size) (hb:b<xs.size),a<b->xs[a]<xs[b]
theorem aBe {xs:Array Nat}{j:Nat}(hp:Ris xs):∀(fuel lo hi:Nat),hi - lo<=fuel->lo<=hi->hi<=xs.size->(∀k (h:k<xs.size),k<lo->xs[k]<j)->(∀k (h:k<xs.size),hi<=k->j<=xs[k]) ->
  SetTable.below.go xs j fuel lo hi<=xs.size/\(∀k (h:k<xs.size),k<SetTable.below.go xs j fuel lo hi->xs[k]<j)/\∀k (h:k<xs.size),SetTable.below.go xs j fuel lo hi<=k->j<=xs[k]
 |0,lo,hi,hf,h1,h2,h3,h4=>by
  have e:lo=hi:=by lia
  subst e;exact⟨h2,h3,h4⟩
 |fuel+1,lo,hi,hf,h1,h2,h3,h4=>by
  unfold SetTable.below.go
  split
  ·rename_i hlt;have hm:(lo+hi) / 2<hi:=by lia
   have hm':lo<=(lo+hi) / 2:=by lia
   have hms:(lo+hi) / 2<xs.size:=by lia
   dsimp only;rw[v5,m9 hms,bBO]
   split
   ·rename_i hc;refine aBe hp fuel _ _ (by lia) (by lia) h2 (λk hk hlo=>?_) h4;by_cases e:k=(lo+hi) / 2
    ·subst e;exact hc
    ·exact bDZ (hp k _ hk hms (by lia)) hc
   ·rename_i hc;refine aBe hp fuel _ _ (by lia) (by lia) (by lia) h3 λk hk hhi=>?_;by_cases e:k=(lo+hi) / 2
    ·subst e;lia
    ·exact bAL (Nat.le_of_not_lt hc) (bC1 (hp _ k hms hk (by lia)))
  ·have e:lo=hi:=by lia
   subst e;exact⟨h2,h3,h4⟩
theorem oF {xs:Array Nat}(hp:Ris xs)(j:Nat):SetTable.below xs j<=xs.size/\(∀k (h:k<xs.size),k<SetTable.below xs j->xs[k]<j)/\∀k (h:k<xs.size),SetTable.below xs j<=k->j<=xs[k]:=
 aBe hp xs.size 0 xs.size (by lia) (bAE _) (j0 _) (λk _ h=>absurd h (bC6 _)) (λk h1 h2=>absurd h1 (by lia))
theorem nC {α:Type}(xs:Array α)(p:Nat)(x:α)(hp:p<=xs.size):(SetTable.insertAt xs p x).toList=xs.toList.take p++x::xs.toList.drop p:=by unfold SetTable.insertAt;rw[bCX,bEU,Array.toList_extract,Array.toList_extract];simp only[List.extract_eq_drop_take,List.drop_zero,Nat.sub_zero,bCR,List.singleton_append];have e:(xs.toList.drop p).take (xs.size - p)=xs.toList.drop p:=bAW (by rw[bBW,t7];exact j0 _);rw[e]
theorem aBz {xs:Array Nat}:Ris xs↔xs.toList.Pairwise (·<·):=by
 rw[List.pairwise_iff_getElem];unfold Ris;constructor
 ·intro h i j hi hj hij;exact h i j (by simpa using hi) (by simpa using hj) hij
 ·intro h a b ha hb hab;exact h a b (by simpa using ha) (by simpa using hb) hab
theorem uN {xs:Array Nat}{j:Nat}(hp:Ris xs)(hn:xs[SetTable.below xs j]?≠some j):Ris (SetTable.insertAt xs (SetTable.below xs j) j):=by
 obtain⟨b1,b2,b3⟩:=oF hp j;rw[aBz,nC _ _ _ b1,List.pairwise_append,List.pairwise_cons];have pw:=aBz.mp hp;have below:∀a∈xs.toList.take (SetTable.below xs j),a<j:=λa ha=>by
  obtain⟨i,hi,rfl⟩:=bBC ha;rw[List.getElem_take];rw[bAM] at hi;have hi':i<xs.toList.length:=by lia
  exact b2 i (by simpa using hi') (by lia)
 have above:∀a∈xs.toList.drop (SetTable.below xs j),j<a:=λa ha=>by
  obtain⟨i,hi,rfl⟩:=bBC ha;rw[List.getElem_drop];rw[bBW] at hi;have hs':SetTable.below xs j+i<xs.toList.length:=by lia
  have hs:SetTable.below xs j+i<xs.size:=by simpa using hs'
  have h1:=b3 _ hs (bBR _ _);rw[Array.getElem_toList];rcases bEM h1 with h|h
  ·exact h
  ·exfalso;cases i with
   |zero=>exact hn ((m9 hs).trans (congrArg some h.symm))
   |succ i=>
    have hb:SetTable.below xs j<xs.size:=by lia
    have h2:=b3 _ hb (j0 _);have h3:=hp _ _ hb hs (by lia);lia
 refine⟨pw.sublist (List.take_sublist _ _),⟨above,pw.sublist (List.drop_sublist _ _)⟩,λa ha b hb=>?_⟩;rcases List.mem_cons.mp hb with rfl|hb
 ·exact below a ha
 ·exact bDZ (below a ha) (above b hb)
theorem aLl {t:SetTable}{j:Nat}(h:t.slot j=.empty):t.place[SetTable.below t.place j]?≠some j:=by unfold SetTable.slot at h;intro e;simp[e] at h
theorem aEt {t:SetTable}(hd:t.dummies=#[])(j:Nat):t.slot j≠.dummy:=by
 unfold SetTable.slot;rw[hd];dsimp only
 split
 ·intro z;cases z
 ·have:SetTable.has #[] j=false:=by unfold SetTable.has;simp
  rw[this];intro z;cases z
theorem aJq {t:SetTable}{g:Nat->Int}{h:Int}(hd:t.dummies=#[]):∀(fuel:Nat) (p:SetTable.Probe) (j:Nat) (dm:Option Nat),p.dummy=none->SetTable.probe.go t g h fuel p=some (.empty j dm)->dm=none/\t.slot j=.empty
 |0,p,j,dm,_,e=>by cases e
 |fuel+1,p,j,dm,hp,e=>by
  unfold SetTable.probe.go at e;have adv:∀q:SetTable.Probe,q.dummy=none->(t.advance q).dummy=none:=λq hq=>by
   unfold SetTable.advance
   split
   ·exact hq
   ·exact hq
  split at e
  ·rename_i hs;cases e;exact⟨hp,hs⟩
  ·rename_i hs;exact absurd hs (aEt hd _)
  ·split at e
   ·cases e
   ·exact aJq hd fuel _ j dm (adv p hp) e
theorem aH1 {t:SetTable}{h:Int}{j:Nat}{b:Bool}(hd:t.dummies=#[])(e:t.freeSlot h=some (j,b)):t.place[SetTable.below t.place j]?≠some j:=by
 unfold SetTable.freeSlot at e
 split at e
 ·rename_i j' dm hq;unfold SetTable.probe at hq;obtain⟨rfl,hs⟩:=aJq hd _ _ _ _ rfl hq;cases e;exact aLl hs
 ·cases e
def TabOk (b:Bool)(t:SetTable):Prop:=(b=false->t.led=true)/\t.dummies=#[]/\7<=t.mask/\(t.plain=true->Ris t.place)
theorem TabOk.stand {b:Bool}{t:SetTable}{n:Nat}(h:TabOk b t)(hn:1<=n):TabOk b (t.standIn n):=⟨h.1,rfl,by show 7<=4 * n+4;lia,λz=>by cases z⟩
theorem TabOk.off {b:Bool}{t:SetTable}(h:TabOk b t):TabOk b { t with plain:=false }:=⟨h.1,h.2.1,h.2.2.1,λz=>by cases z⟩
theorem TabOk.new {b:Bool}{t:SetTable}{es:Array (Int × Value)}{h:Int}{x:Value}(ok:TabOk b t):TabOk b (layNew t es h x).2.1:=by
 unfold layNew
 split
 ·rename_i slot wd e;have hs:=aH1 ok.2.1 e;dsimp only[SetTable.put];have hdm:(if SetTable.has t.dummies slot=true then SetTable.eraseAt t.dummies (SetTable.below t.dummies slot) else t.dummies)=#[]:=by
   rw[ok.2.1];have:SetTable.has #[] slot=false:=by unfold SetTable.has;simp
   rw[this];rfl
  rw[hdm];unfold SetTable.orStandIn
  split
  ·exact⟨ok.1,rfl,ok.2.2.1,λz=>uN (ok.2.2.2 z) hs⟩
  ·refine TabOk.stand (t:={ t with place:=_,dummies:=#[] }) ⟨ok.1,rfl,ok.2.2.1,λz=>uN (ok.2.2.2 z) hs⟩ ?_;unfold SetTable.insertAt;simp only[Array.size_append,Array.size_push,Array.size_extract];lia
 ·exact ok.stand (Nat.succ_le_succ (bAE _))
theorem TabOk.room {b:Bool}{t:SetTable}{n:Nat}(ok:TabOk b t)(hf:t.fits n=true)(hn:n<=4):t.tooFull=false:=by unfold SetTable.fits at hf;rw[bAR,beq_iff_eq] at hf;unfold SetTable.tooFull SetTable.fill;rw[hf.1,ok.2.1];have:=ok.2.2.1;simp only[Array.size_empty,Nat.add_zero,decide_eq_false_iff_not];lia
theorem mV {α β:Type}{R:α->β->Prop}{bs' bs:List β}(p:bs'.Perm bs):∀{as:List α},Paired R as bs->∃as',Paired R as' bs'/\as'.Perm as:=by
 induction p with
 |nil=>intro as h;exact⟨as,h,.refl _⟩
 |cons x _ ih=>
  intro as h;cases h with
  |cons r t=>obtain⟨as',h1,h2⟩:=ih t;exact⟨_,.cons r h1,h2.cons _⟩
 |swap x y l=>
  intro as h;cases h with
  |cons r t=>
   cases t with
   |cons r2 t2=>exact⟨_,.cons r2 (.cons r t2),.swap ..⟩
 |trans _ _ ih1 ih2=>intro as h;obtain⟨a1,h1,h2⟩:=ih2 h;obtain⟨a2,h3,h4⟩:=ih1 h1;exact⟨a2,h3,h4.trans h2⟩
theorem rF {α β:Type}{R:α->β->Prop}{as:List α}{bs:List β}{a:α}{b:β}(h:Paired R as bs)(r:R a b):Paired R (as++[a]) (bs++[b]):=by
 induction h with
 |nil=>exact .cons r .nil
 |cons q _ ih=>exact .cons q ih
theorem yS {α β:Type}{R:α->β->Prop}{as:List α}{bs:List β}(h:Paired R as bs):∀a∈as,∃b∈bs,R a b:=by
 induction h with
 |nil=>intro a ha;cases ha
 |cons q _ ih=>
  intro a ha;rcases List.mem_cons.mp ha with rfl|ha
  ·exact⟨_,j8,q⟩
  ·obtain⟨b,hb,r⟩:=ih a ha;exact⟨b,j6 _ hb,r⟩
theorem mJ {α β:Type}{R:α->β->Prop}{as:List α}{bs:List β}(h:Paired R as bs):∀b∈bs,∃a∈as,R a b:=by
 induction h with
 |nil=>intro a ha;cases ha
 |cons q _ ih=>
  intro b hb;rcases List.mem_cons.mp hb with rfl|hb
  ·exact⟨_,j8,q⟩
  ·obtain⟨a,ha,r⟩:=ih b hb;exact⟨a,j6 _ ha,r⟩
section
variable {prog:Program}{w:World}{κ:Type}[DecidableEq κ]{knd:KeyKind prog w κ}{A:Around}{E:bEY}{s:Shared}
def byT (w:World):Bool:=w.params.followText "set-order"
abbrev ElK (knd:KeyKind prog w κ):κ->Int × Value->Prop:=λk e=>knd.is k e.2=true/\e.1=knd.hash k/\e.2.scannable=true
def uI (knd:KeyKind prog w κ)(h:Heap)(D:Addr)(kl:List κ):Prop:=∃o es ep t,h.get? D=some o/\o.ExactSet/\o.data=.set es ep t/\t.fits es.size=true/\TabOk (byT w) t/\Paired (ElK knd) kl es.toList
theorem uI.at {h h':Heap}{D:Addr}{kl:List κ}(x:uI knd h D kl)(e:∀o,h.get? D=some o->h'.get? D=some o):uI knd h' D kl:=by obtain⟨o,es,ep,t,ho,r⟩:=x;exact⟨o,es,ep,t,e o ho,r⟩
theorem aRg {D:Addr}{kl:List κ}{k:κ}{x:Value}{Q:Bool->Shared->Prop}(hkey:knd.is k x=true)(hsc:x.scannable=true)(hS:uI knd s.heap D kl)(hroom:kl.length<4)
  (h:∀h' kl' b,Heap.SameBut D s.heap h'->uI knd h' D kl'->kl'.Perm (if k∈kl then kl else kl++[k])->Q b { s with heap:=h' }):wpAny (model prog w) A (setAddHashed D x (knd.hash k)) Q E s:=by
 obtain⟨o,es,ep,t,ho,hex,hd,hf,tab,pr⟩:=hS;have hn:kl.length=es.size:=by rw[Paired.length pr,t7]
 have hel:ElemsOf knd es.toList:=λe he=>by obtain⟨k',_,r1,r2,r3⟩:=mJ pr e he;exact⟨⟨k',r1,r2⟩,r3⟩
 have hb:es.size<scanBound:=by unfold scanBound;lia
 unfold setAddHashed setAddHashedIn;refine bAQ (c7 (bBI ho hd hf ?_));dsimp only;rw[byScan_of hsc hb hel];simp only[↓reduceIte];unfold setAddByScan;refine c7 (c7 (bCU (c7 (wpAny_setScan_of hkey ho hd hf hel ?_))));cases hr:List.findIdx? (λe=>knd.is k e.2) es.toList with
 |some j=>
  dsimp only;obtain⟨hj,hpj,_⟩:=List.findIdx?_eq_some_iff_getElem.mp hr;obtain⟨k',hk',r1,_⟩:=mJ pr _ (bAT hj);have hin:k∈kl:=by rw[knd.inj _ k k' hpj r1];exact hk'
  refine d9 (d9 ?_);have e:s={ s with heap:=s.heap }:=by cases s;rfl
  rw[e];exact h s.heap kl _ (Heap.SameBut.refl D s.heap) ⟨o,es,ep,t,ho,hex,hd,hf,tab,pr⟩ (by rw[if_pos hin])
 |none=>
  dsimp only;have hout:k∉kl:=λz=>by obtain⟨e,he,r1,_⟩:=yS pr k z;have:=List.findIdx?_eq_none_iff.mp hr e he;rw[r1] at this;cases this
  have hgw:∀(b:Bool) {s₁:Shared} {Q':Unit->Shared->Prop},Q' () s₁->wpAny (model prog w) A (match b with|true=>rule "set.scan.the-table-gave-way"|false=>pure ()) Q' E s₁:=λb s₁ Q' hq=>match b with
   |true=>bCU hq
   |false=>d9 hq
  have hperm:=layNew_perm t es (knd.hash k) x;have hfits:=layNew_fits t es (knd.hash k) x;have htab:TabOk (byT w) (layNew t es (knd.hash k) x).2.1:=tab.new;generalize hL:layNew t es (knd.hash k) x=L at hperm hfits htab ⊢;obtain⟨es1,t1,wasDummy,gave⟩:=L;dsimp only at hperm hfits htab ⊢;rw[bEU] at hperm;obtain⟨kl',pr',pm⟩:=mV hperm (rF pr (show ElK knd k (knd.hash k,x) from ⟨hkey,rfl,hsc⟩));have hsz:es1.size=es.size+1:=by rw[<-t7,hperm.length_eq,bAG,t7];rfl
  refine c7 (hgw _ ?_);have fin:∀t2:SetTable,TabOk (byT w) t2->t2.fits es1.size=true->∀(R:Option Bool->Shared->Prop),(∀h',Heap.SameBut D s.heap h'->uI knd h' D kl'->R (some true) { s with heap:=h' }) ->
    wpAny (model prog w) A (storeSet D es1 t2) (λ_ s₁=>t2.tooFull=false/\R (some true) s₁) E s:=λt2 h2 f2 R hR=>by
   refine bEV ho hd ⟨h2.room f2 (by lia),?_⟩ (fits_of_scanBound (by unfold scanBound;lia));have hg:=bBF (Obj.putSet es1 t2) ho (by rw[putSet_of es1 t2 hd];rfl);rw[putSet_of es1 t2 hd] at hg;exact hR _ (bAZ s.heap D (Obj.putSet es1 t2)) ⟨_,es1,ep+1,t2,hg,hex,rfl,f2,h2,pr'⟩
  have hend:∀h',Heap.SameBut D s.heap h'->uI knd h' D kl'->Q true { s with heap:=h' }:=λh' sb q=>h h' kl' true sb q (by rw[if_neg hout];exact pm)
  split
  ·refine c7 ?_;rw[hashByValue_scannable 8 hsc];refine d9 ?_;refine c7 (bBL (fin (if plainKind x=true then t1 else { t1 with plain:=false }) (by split;exact htab;exact htab.off) (by split;exact hfits;exact SetTable.fits_plain_off hfits) (λr s₁=>wpAny (model prog w) A (match r with|some b=>pure b|none=>unsupported "x") Q E s₁) λh' sb q=>d9 (hend h' sb q)) (λ_ s₁ ⟨tf,q⟩=>?_) λ_ _ z=>z);rw[tf];simp only[Bool.and_false,bBB,↓reduceIte];exact d9 q
  ·refine c7 (d9 ?_);simp only[↓reduceIte];refine c7 (bBL (fin t1 htab hfits (λr s₁=>wpAny (model prog w) A (match r with|some b=>pure b|none=>unsupported "x") Q E s₁) λh' sb q=>d9 (hend h' sb q)) (λ_ s₁ ⟨tf,q⟩=>?_) λ_ _ z=>z);rw[tf];simp only[Bool.and_false,bBB,↓reduceIte];exact d9 q
def Ded (kl xs:List κ):Prop:=kl.Nodup/\(∀k,k∈kl↔k∈xs)/\kl.length<=xs.length
theorem Ded.more {kl kl' xs:List κ}{k:κ}(h:Ded kl xs)(p:kl'.Perm (if k∈kl then kl else kl++[k])):Ded kl' (xs++[k]):=by
 obtain⟨h1,h2,h3⟩:=h;by_cases hk:k∈kl
 ·rw[if_pos hk] at p;refine⟨p.nodup_iff.mpr h1,λy=>?_,by rw[p.length_eq,bAG];lia⟩;rw[p.mem_iff,h2,List.mem_append,bEN];exact⟨.inl,λz=>z.elim id λe=>e ▸ (h2 k).mp hk⟩
 ·rw[if_neg hk] at p;refine⟨p.nodup_iff.mpr (List.nodup_append.mpr ⟨h1,by simp,λa ha b hb e=>?_⟩),λy=>?_,by rw[p.length_eq,bAG,bAG];exact Nat.add_le_add_right h3 _⟩
  ·rw[bEN] at hb;exact hk (hb ▸ e ▸ ha)
  ·rw[p.mem_iff,List.mem_append,List.mem_append,h2]
theorem aTs {h:Heap}{D:Addr}(hg:h.get? D=some (bB (!byT w))):uI knd h D []:=by refine⟨_,#[],0,_,hg,⟨rfl,rfl,rfl⟩,rfl,rfl,⟨λe=>?_,rfl,j0 _,λ_=>λa b ha=>absurd ha (by show ¬ (a<0);lia)⟩,.nil⟩;show (!byT w)=true;rw[e];rfl
theorem aJu (a:Value){Q₁:bEY}(h:Q₁ (.ref s.heap.objs.size) { s with heap:=s.heap.push (bB (!byT w)) }):codeAny (model prog w) A (.call (.builtin "set.__new__") ⟨[.type "set",a],[]⟩) (wants Q₁ E) s:=by have hsub:=sub_set_self;refine codeAny_of_tree (show wpAny _ A.in1 (do checkBuiltinCall "set.__new__" ⟨[.type "set",a],[]⟩;again (.builtin "set.__new__" ⟨[.type "set",a],[]⟩)) _ _ s from c7 (bDT (F.newCall_set_1 a) (d9 ⟨bCW F.plain_set_new _,bBM F.entry_set_new ?_⟩)));rw[bBJ F.plain_set_new _];unfold Builtin.«set.__new__» Builtin.Frozenset.newClass;obtain⟨hp,g,d,tk,os⟩:=s;dsimp only;wp_walk;refine bC0 (d9 ?_);dsimp only;simp only[newObj];exact c7 (wpAny_alloc (d9 (d9 h)))
def Ex (h0 h:Heap):Prop:=∀b o,h0.get? b=some o->h.get? b=some o
structure Kset (prog:Program)(w:World)(κ:Type)[DecidableEq κ](A:Around)(h0:Heap)(D:Addr)(S:Heap->List κ->Prop)(V:κ->Value->Prop)(m:Nat):Prop where
 at_:∀{h h':Heap} {kl:List κ},S h kl->(∀o,h.get? D=some o->h'.get? D=some o)->S h' kl
 add:∀{A':Around} {E:bEY} {s:Shared} {kl:List κ} {k:κ} {v:Value} {Q:Bool->Shared->Prop},A'.units<=A.units+9->Ex h0 s.heap->V k v->S s.heap kl->kl.length<m->(∀h' tk kl' b,Heap.SameBut D s.heap h'->S h' kl'->kl'.Perm (if k∈kl then kl else kl++[k])->Q b { s with heap:=h',toks:=tk })->wpAny (model prog w) A' (setAdd D v) Q E s
 new:∀{h:Heap},h.get? D=some (bB (!byT w))->S h []
variable {S:Heap->List κ->Prop}{V:κ->Value->Prop}{m:Nat}{h0:Heap}{A0:Around}
theorem aOp {A:Around}{R:Result->Shared->Prop}{I:Addr}{fp wr:List Addr}{n:Nat}{P:Nat->Value->Prop}{St:Nat->Heap->Prop}(W:Walks prog w A.in1 I fp wr n P St){D:Addr}(hD:D∉fp)(Z:Kset prog w κ A0 h0 D S V m)(hA:A.units+1<=A0.units+9)(hD0:∀b∈D::wr,h0.get? b=none)
  (ks:List κ) (hks:ks.length=n) (hval:∀i v,P i v->∃k,ks[i]?=some k/\V k v) (hb:n<=m) :
  ∀(k i:Nat) (s:Shared) (kl:List κ),i+k=n->St i s.heap->Ex h0 s.heap->S s.heap kl->Ded kl (ks.take i) ->
   (∀h' tk kl',(∀b o,b∉D::wr->s.heap.get? b=some o->h'.get? b=some o)->S h' kl'->Ded kl' ks->R (.ok (.ret .none)) { s with heap:=h',toks:=tk }) ->
   codeAny (model prog w) A (.builtin "set.update.loop" ⟨[.ref D,.ref I],[]⟩) R s:=by
 have hDw:D∉wr:=λq=>hD (W.sub _ q);have nin:∀{b:Addr} {o:Obj},h0.get? b=some o->b∉D::wr:=λe z=>by rw[hD0 _ z] at e;cases e
 intro k
 induction k with
 |zero=>
  intro i s kl hi st hx hS dd q;obtain rfl:i=n:=by lia
  refine bBM bBS ?_;rw[bBJ bBA _];show wpAny _ A.in1 (pyNext (.ref I) >>= _) _ _ _;refine c7 (W.done s _ _ st λh' tk kp=>?_);rw[bAW (bEK hks)] at dd;exact d9 (q h' tk kl (λb o nb e=>kp b o (λz=>nb (j6 _ z)) e) (Z.at_ hS λo e=>kp D o hDw e) dd)
 |succ k ih=>
  intro i s kl hi st hx hS dd q;refine bBM bBS ?_;rw[bBJ bBA _];show wpAny _ A.in1 (pyNext (.ref I) >>= _) _ _ _;refine c7 (W.item i s _ _ (by lia) st λv h1 tk1 hP st1 kp1=>?_);obtain⟨kk,ek,hkv⟩:=hval i v hP;have hx1:Ex h0 h1:=λb o e=>kp1 b o (λz=>nin e (j6 _ z)) (hx b o e);show wpAny _ A.in1 (holding [v] (setAdd D v) >>= _) _ _ _;refine c7 (bAQ ?_);have lt:(ks.take i).length=i:=by rw[bAM];lia
  refine Z.add hA hx1 hkv (Z.at_ hS λo e=>kp1 D o hDw e) (by have:=dd.2.2;lia) λh2 tk2 kl2 b2 sb2 hS2 pm=>?_;have et:ks.take (i+1)=ks.take i++[kk]:=by rw[bBH,ek];rfl
  have kp2:∀b o,b∉D::wr->s.heap.get? b=some o->h2.get? b=some o:=λb o nb e=>by rw[sb2.2 b (λz=>nb (by rw[z];exact j8))];exact kp1 b o (λz=>nb (j6 _ z)) e
  refine d9 ⟨bCW bBA _,ih (i+1) _ kl2 (by lia) (W.frame _ _ _ st1 λb hb o e=>?_) (λb o e=>kp2 b o (nin e) (hx b o e)) hS2 (by rw[et];exact dd.more pm) λh' tk kl' kp hS' d'=>q h' tk kl' (λb o nb e=>kp b o nb (kp2 b o nb e)) hS' d'⟩;rw[sb2.2 b (λz=>hD (by rw[<-z];exact hb))];exact e
theorem aP3 {A:Around}{R:Fin->Shared->Prop}{E:bEY}{s:Shared}{l:Addr}{its:Array Value}{ks:List κ}(hh:A.handled=none)(Z:Kset prog w κ A0 s.heap s.heap.objs.size S V m)(hA:A.units+1<=A0.units+9)(hl:s.heap.IsList l its)(hlen:ks.length=its.size)
  (hval:∀(i:Nat) (v:Value),its[i]?=some v->∃k,ks[i]?=some k/\V k v) (hb:its.size<=m)
  (q:∀h' tk kl,S h' kl->Ded kl ks->(∀b o,b<s.heap.objs.size->s.heap.get? b=some o->h'.get? b=some o)->R (.done (.ret .none)) { s with heap:=h',toks:=tk }) :
  wpAny (model prog w) A (Builtin.«set.__init__» ⟨[.ref s.heap.objs.size,.ref l],[]⟩) R E { s with heap:=s.heap.push (bB (!byT w)) }:=by
 obtain⟨⟨oc,od,ox,osl⟩,hol,hcl,nl,hdl⟩:=id hl;simp only at hcl hdl;subst hcl hdl;have hS:(s.heap.push (bB (!byT w))).get? s.heap.objs.size=some (bB (!byT w)):=j5 _ rfl;have hT:Shared.TypeIs { s with heap:=s.heap.push (bB (!byT w)) } (.ref s.heap.objs.size) "set":=⟨_,hS,rfl⟩;have hol':(s.heap.push (bB (!byT w))).get? l=some { cls:=.type "list",dict:=od,data:=.seq its nl,slots:=osl }:=d8 _ hol;have f1:=F.sub_list_set;have f2:=F.sub_list_frozenset;have f3:(Value.type "list" == Value.type "dict")=false:=by decide
 have hl1:(s.heap.push (bB (!byT w))).IsList l its:=⟨_,hol',rfl,nl,rfl⟩;have hlt:l<s.heap.objs.size:=m8 hol;unfold Builtin.«set.__init__» noKeywords Builtin.Frozenset.updateFrom;generalize hPI:pyIter=PI;wp_walk;subst hPI;refine bB3 hl1 ?_;refine c7 (wpAny_runValue ?_);have hz:(s.heap.push (bB (!byT w))).objs.size=s.heap.objs.size+1:=bAX ..;have hne:l≠(s.heap.push (bB (!byT w))).objs.size:=by rw[hz];exact v4 (bBE hlt)
 have hSf:s.heap.objs.size∉[(s.heap.push (bB (!byT w))).objs.size,l]:=by rw[hz];simp only[bAB,w6,or_false,not_or];exact⟨v4 (bCC _),bCL hlt⟩
 have no:∀b,s.heap.objs.size<=b->s.heap.get? b=none:=λb hb=>by
  cases e:s.heap.get? b with
  |none=>rfl
  |some o=>exact absurd (m8 e) (Nat.not_lt.mpr hb)
 refine aOp (Walks.list (by first|exact hh|simp[hh]) _ l hne its) hSf Z hA (λb hb=>?_) ks hlen hval hb its.size 0 _ [] (by lia) ⟨⟨_,j5 _ rfl,rfl,rfl⟩,hl1.push _⟩ (λb o e=>d8 _ (d8 _ e)) ?_ ⟨List.nodup_nil,λk=>by simp,bAE _⟩ λh' tk kl kp hS' dd=>?_
 ·rw[hz] at hb;simp only[bAB,w6,or_false] at hb;rcases hb with rfl|rfl
  ·exact no _ (j0 _)
  ·exact no _ (bDS _)
 ·have hg:((s.heap.push (bB (!byT w))).push { cls:=.type "list_iterator",data:=.fields #[.ref l,.int 0 0] }).get? s.heap.objs.size=some (bB (!byT w)):=d8 _ hS;exact Z.new hg
 ·refine d9 (d9 (q h' tk kl hS' dd λb o hb' e=>kp b o ?_ (d8 _ (d8 _ e))));rw[hz];simp only[bAB,w6,or_false,not_or];exact⟨v4 hb',v4 (bBE hb')⟩
theorem aDv {l:Addr}{its:Array Value}{ks:List κ}{Q:bEY}(hh:A.handled=none)(Z:Kset prog w κ A s.heap s.heap.objs.size S V m)(hl:s.heap.IsList l its)(hlen:ks.length=its.size)
  (hval:∀(i:Nat) (v:Value),its[i]?=some v->∃k,ks[i]?=some k/\V k v) (hb:its.size<=m)
  (q:∀h' tk kl,S h' kl->Ded kl ks->(∀b o,b<s.heap.objs.size->s.heap.get? b=some o->h'.get? b=some o)->Q (.ref s.heap.objs.size) { s with heap:=h',toks:=tk }) :
  wpAny (model prog w) A (call (.type "set") [.ref l]) Q E s:=by
 have ft:=F.called_set;obtain⟨c,tl,hmro⟩:=ft.mro;have g1:=ft.made;have g2:=ft.sub;have g3:=ft.notType;have g4:=ft.canCreate;have g5:=F.typeCall_set_1 (.ref l);refine bD8 (codeAny_of_tree (show wpAny _ _ (callAny (.type "set") _) _ _ _ from d9 ⟨Code.quiet_builtin _ (by decide +kernel),bBM F.entry_type_call ?_⟩));rw[Around.under_plain (weight_type_call_type "set" [.ref l] []) (by rfl)]
 repeat (any_goals (first|assumption|wp_step))
 refine bCF (aJu (.ref l) (Q₁:=λobj s1=>obj=.ref s.heap.objs.size/\s1={ s with heap:=s.heap.push (bB (!byT w)) }) (E:=E) ⟨rfl,rfl⟩) λr s1 hr=>?_;rcases r with e|fl
 ·exact hr
 rcases fl with _|_|_|obj
 ·exact hr.elim
 ·exact hr.elim
 ·exact hr.elim
 obtain⟨rfl,rfl⟩:=hr;have hT:Shared.TypeIs { s with heap:=s.heap.push (bB (!byT w)) } (.ref s.heap.objs.size) "set":=⟨_,j5 _ rfl,rfl⟩;have g6:=ft.init.lookup;have g7:=ft.init.bind (.ref s.heap.objs.size)
 repeat (any_goals (first|assumption|wp_step))
 refine bCF (bDB (R:=wants (λr s2=>r=.none/\∃h' tk kl,s2={ s with heap:=h',toks:=tk }/\S h' kl/\Ded kl ks/\∀b o,b<s.heap.objs.size->s.heap.get? b=some o->h'.get? b=some o) E)
  ft.init.plain F.entry_set_init (check_set_init_1 hT (aP3 (by first|exact hh|simp[hh]) Z (by simp only[Around.in1_units];lia) hl hlen hval hb λh' tk kl x dd kp=>⟨rfl,h',tk,kl,rfl,x,dd,kp⟩))) λr2 s2 hr2=>?_
 rcases r2 with e|fl
 ·exact hr2
 rcases fl with _|_|_|v
 ·exact hr2.elim
 ·exact hr2.elim
 ·exact hr2.elim
 obtain⟨rfl,h',tk,kl,rfl,x,dd,kp⟩:=hr2
 repeat (any_goals (first|assumption|wp_step))
 exact q h' tk kl x dd kp
theorem aYm (A:Around)(h0:Heap)(D:Addr):Kset prog w κ A h0 D (λh kl=>uI knd h D kl) (λk v=>knd.is k v=true/\v.scannable=true) 4:=⟨λx e=>x.at e,λ_ _ hv hS hr q=>by unfold setAdd;exact bAQ (c7 (knd.pyHash hv.1 (aRg hv.1 hv.2 hS hr λh2 kl2 b2 sb2 hS2 pm=>q h2 _ kl2 b2 sb2 hS2 pm))),aTs⟩
theorem aOr {l:Addr}{its:Array Value}{ks:List κ}{Q:bEY}(hh:A.handled=none)(hl:s.heap.IsList l its)(hlen:ks.length=its.size)
  (hval:∀(i:Nat) (v:Value),its[i]?=some v->∃k,ks[i]?=some k/\knd.is k v=true/\v.scannable=true) (hb:its.size<=4)
  (q:∀h' tk kl,uI knd h' s.heap.objs.size kl->Ded kl ks->(∀b o,b<s.heap.objs.size->s.heap.get? b=some o->h'.get? b=some o)->Q (.ref s.heap.objs.size) { s with heap:=h',toks:=tk }) :
  wpAny (model prog w) A (call (.type "set") [.ref l]) Q E s:=aDv hh (aYm A s.heap s.heap.objs.size) hl hlen hval hb q
end
end PySem
namespace PySem
section
variable {prog:Program}{w:World}{A:Around}{E:bEY}{s:Shared}
theorem tY {α:Type}:∀(l:List α) (i:Nat) (h:i<l.length),(l[i]::l.eraseIdx i).Perm l
 |x::l,0,_=>.refl _
 |x::l,i+1,h=>by have ih:=tY l i (Nat.lt_of_succ_lt_succ h);exact (List.Perm.swap x _ (l.eraseIdx i)).trans (ih.cons x)
theorem aF6 {src:Source}{n:Nat}{Q:Nat->Shared->Prop}(hn:n≠0)(h:∀i dr,i<n->Q i { s with drawn:=dr }):wpAny (model prog w) A (choose src n) Q E s:=
 λ_ _ _=>⟨hn,h _ _ (Nat.mod_lt _ (Nat.pos_of_ne_zero hn))⟩
theorem pN {α:Type}:∀(n:Nat) (xs:List α) (s:Shared) (Q:List α->Shared->Prop),xs.length=n->(∀ys dr,ys.Perm xs->Q ys { s with drawn:=dr })->wpAny (model prog w) A (drawOrder n xs) Q E s
 |0,xs,s,Q,hl,h=>by have e:xs=[]:=bCI hl;subst e;unfold drawOrder;exact d9 (h [] s.drawn (.refl _))
 |n+1,xs,s,Q,hl,h=>by
  cases xs with
  |nil=>cases hl
  |cons x xs=>unfold drawOrder;refine c7 (aF6 (by rw[hl];lia) λi dr hi=>?_);rw[d7 hi];dsimp only;refine c7 (pN n _ _ _ (by rw[bEO hi,hl];rfl) λys dr' p=>d9 ?_);refine h _ dr' ?_;have e:=tY _ _ hi;exact (p.cons _).trans e
theorem aNh {α:Type}(next:Nat->Nat):∀(fuel k:Nat) (left:List α) (out:Array α),left.length=fuel->(pickOrder.go next fuel k left out).toList.Perm (out.toList++left)
 |0,k,left,out,h=>by have e:left=[]:=bCI h;subst e;unfold pickOrder.go;rw[bB9]
 |fuel+1,k,left,out,h=>by have hlt:next k % left.length<left.length:=Nat.mod_lt _ (by lia);unfold pickOrder.go;rw[d7 hlt];dsimp only;refine (aNh next fuel (k+1) _ _ (by rw[bEO hlt,h];rfl)).trans ?_;rw[bEU,bCR];exact List.Perm.append_left _ (tY _ _ hlt)
theorem yD {α:Type}(next:Nat->Nat)(xs:Array α):(pickOrder next xs).toList.Perm xs.toList:=by unfold pickOrder;exact aNh next xs.size 0 xs.toList #[] (by rw[t7])
end
theorem bU:Slot "set_iterator" "__next__" "set_iterator.__next__":=.of (owner:="set_iterator") (n:="__next__") (by rw[typeLookup_type,builtinLookup_eq_fast];kernel_rfl) (by decide +kernel) (by decide +kernel) (by decide +kernel) (by first|exact .inl (by decide +kernel)|exact .inr (by decide +kernel)) (by rw[isSubtype_type];kernel_rfl)
theorem pY:Slot "set_iterator" "__iter__" "set_iterator.__iter__":=.of (owner:="set_iterator") (n:="__iter__") (by rw[typeLookup_type,builtinLookup_eq_fast];kernel_rfl) (by decide +kernel) (by decide +kernel) (by decide +kernel) (by first|exact .inl (by decide +kernel)|exact .inr (by decide +kernel)) (by rw[isSubtype_type];kernel_rfl)
theorem gC:entryFor table "set_iterator.__next__"=some Builtin.«set_iterator.__next__»:=entryFor_of_tree (by kernel_rfl)
theorem zE:entryFor table "set_iterator.__iter__"=some Builtin.«dict_keyiterator.__iter__»:=entryFor_alias (id':="dict_keyiterator.__iter__") (by kernel_rfl) rfl (by decide +kernel) (by kernel_rfl)
theorem aAa:entryFor table "set.__iter__"=some Builtin.«frozenset.__iter__»:=entryFor_alias (id':="frozenset.__iter__") (by kernel_rfl) rfl (by decide +kernel) (by kernel_rfl)
theorem aAo:Manifest.owners.lookup (String.ofList ['r','o','t','a','r','e','t','i','_','t','e','s'].reverse)=some Manifest.sig_set_iterator:=by kernel_rfl
theorem iI (a:Value):argsOk "set_iterator.__next__" ⟨[a],[]⟩:=by unfold argsOk;rw[signature?_of (id:="set_iterator.__next__") (n:=['_','_','t','x','e','n','_','_']) (o:=['r','o','t','a','r','e','t','i','_','t','e','s']) (by kernel_rfl) aAo];kernel_rfl
theorem aCe (a:Value):argsOk "set_iterator.__iter__" ⟨[a],[]⟩:=by unfold argsOk;rw[signature?_of (id:="set_iterator.__iter__") (n:=['_','_','r','e','t','i','_','_']) (o:=['r','o','t','a','r','e','t','i','_','t','e','s']) (by kernel_rfl) aAo];kernel_rfl
section
variable {prog:Program}{w:World}{A:Around}{E:bEY}{s:Shared}
def fG (h:Heap)(I:Addr)(first:Value)(i:Nat)(D:Addr)(n ep:Nat):Prop:=h.get? I=some { cls:=.type "set_iterator",data:=.fields #[first,.int i 0,.ref D,.int n 0,.int ep 0] }
def tX (h:Heap)(D:Addr)(es:Array (Int × Value))(ep:Nat)(t:SetTable):Prop:=∃o,h.get? D=some o/\o.ExactSet/\o.data=.set es ep t/\t.fits es.size=true
def aGm (prog:Program)(w:World)(D:Addr)(es:Array (Int × Value))(ep:Nat)(t:SetTable)(slot i:Nat)(r:Option (Value × Nat)):Prop:=
 ∀(A:Around) (E:bEY) (s:Shared) (Q:Option (Value × Nat)->Shared->Prop),tX s.heap D es ep t->Q r s->wpAny (model prog w) A (setNext D slot i ep) Q E s
theorem aDs {I D:Addr}{es:Array (Int × Value)}{ep slot i next:Nat}{t:SetTable}{x:Value}{Q:Option Value->Shared->Prop}(ki:fG s.heap I (.int slot 0) i D es.size ep)(so:tX s.heap D es ep t)(hne:D≠I)
  (nx:aGm prog w D es ep t slot i (some (x,next)))
  (q:∀h',fG h' I (.int next 0) (i+1) D es.size ep->(∀b o,b≠I->s.heap.get? b=some o->h'.get? b=some o)->Q (some x) { s with heap:=h' }):wpAny (model prog w) A (pyNext (.ref I)) Q E s:=by
 have ty:s.TypeIs (.ref I) "set_iterator":=⟨_,ki,rfl⟩;obtain⟨o,ho,hex,hd,hf⟩:=id so;unfold pyNext;refine c7 (bBY (bAF (name:="__next__") ty bU (bAD bU ty gC (c7 (d9 (c7 (bDC ki rfl ?_)))) (iI _))));show wpAny _ _ (setEntries D >>= _) _ _ s;refine c7 (bCY ho hd hf ?_);dsimp only;rw[if_neg (by simp)];simp only[bAY];refine c7 (nx _ _ _ _ so ?_);dsimp only;refine c7 (bAH ki (by simp) λh1 e1 s1=>?_);have f1:fG h1 I (.int next 0) i D es.size ep:=by simpa [rawInt,fG] using e1
 refine c7 (bAH f1 (by simp) λh2 e2 s2=>?_);have f2:fG h2 I (.int next 0) (i+1) D es.size ep:=by
  have z:((i+1:Nat):Int)=(i:Int)+1:=by lia
  unfold fG;rw[z];simpa [rawInt] using e2
 exact d9 ⟨_,rfl,d9 (q h2 f2 λb o hb e=>s2.extBut b o hb (s1.extBut b o hb e))⟩
theorem aDm {I D:Addr}{es:Array (Int × Value)}{ep slot i:Nat}{t:SetTable}{Q:Option Value->Shared->Prop}(hh:A.handled=none)(ki:fG s.heap I (.int slot 0) i D es.size ep)(so:tX s.heap D es ep t)
  (nx:aGm prog w D es ep t slot i none) (q:∀h',(∀b o,b≠I->s.heap.get? b=some o->h'.get? b=some o)->Q none { s with heap:=h' }):wpAny (model prog w) A (pyNext (.ref I)) Q E s:=by
 have ty:s.TypeIs (.ref I) "set_iterator":=⟨_,ki,rfl⟩;obtain⟨o,ho,hex,hd,hf⟩:=id so;unfold pyNext;refine c7 (bBY (bAF (name:="__next__") ty bU (bAD bU ty gC (c7 (d9 (c7 (bDC ki rfl ?_)))) (iI _))));show wpAny _ _ (setEntries D >>= _) _ _ s;refine c7 (bCY ho hd hf ?_);dsimp only;rw[if_neg (by simp)];simp only[bAY];refine c7 (nx _ _ _ _ so ?_);dsimp only;refine c7 (bCZ ki rfl (by simp) ?_);refine c7 ?_;simp only[newExc,newTuple,raiseNew];refine c7 (bAJ ?_ (by size_fits));refine c7 (m:=firstArgMember _ _) (bDT (a:=Value.none) (by simp only[firstArgMember];rfl) ?_);refine bAJ (c7 (bED ?_)) (by size_fits);rw[show A.in1.handled=none from hh];refine c7 (d9 (bER ?_));refine c7 (bCO (T:="StopIteration") (b:=true) ⟨_,j5 _ rfl,rfl⟩ isSubtype_stop ?_);exact d9 (q _ (((bAZ ..).extBut.push _).push _))
theorem aL3 {I D T:Addr}{es:Array (Int × Value)}{ep i j:Nat}{t:SetTable}{pl:Array Value}{e:Int × Value}{Q:Option Value->Shared->Prop}(ki:fG s.heap I (.ref T) i D es.size ep)(so:tX s.heap D es ep t)(tp:s.heap.get? T=some { cls:=.type "tuple",data:=.seq pl })
  (hj:pl[i]?=some (.int j 0)) (he:es[j]?=some e)
  (q:∀h',fG h' I (.ref T) (i+1) D es.size ep->(∀b o,b≠I->s.heap.get? b=some o->h'.get? b=some o)->Q (some e.2) { s with heap:=h' }):wpAny (model prog w) A (pyNext (.ref I)) Q E s:=by
 have ty:s.TypeIs (.ref I) "set_iterator":=⟨_,ki,rfl⟩;obtain⟨o,ho,hex,hd,hf⟩:=id so;unfold pyNext;refine c7 (bBY (bAF (name:="__next__") ty bU (bAD bU ty gC (c7 (d9 (c7 (bDC ki rfl ?_)))) (iI _))));show wpAny _ _ (setEntries D >>= _) _ _ s;refine c7 (bCY ho hd hf ?_);dsimp only;rw[if_neg (by simp)];simp only[bAY];refine c7 (bAS tp rfl ?_);dsimp only;rw[hj];dsimp only;unfold setNextDrawn;refine c7 (c7 (bBI ho hd hf ?_));dsimp only;rw[if_neg (by simp)];refine c7 (d9 ?_);simp only[bAY,he];refine d9 (c7 (bAH ki (by simp) λh2 e2 s2=>?_));have f2:fG h2 I (.ref T) (i+1) D es.size ep:=by
  have z:((i+1:Nat):Int)=(i:Int)+1:=by lia
  unfold fG;rw[z];simpa [rawInt] using e2
 exact d9 ⟨_,rfl,d9 (q h2 f2 λb o hb e=>s2.extBut b o hb e)⟩
theorem aLk {I D T:Addr}{es:Array (Int × Value)}{ep i:Nat}{t:SetTable}{pl:Array Value}{Q:Option Value->Shared->Prop}(hh:A.handled=none)(ki:fG s.heap I (.ref T) i D es.size ep)(so:tX s.heap D es ep t)(tp:s.heap.get? T=some { cls:=.type "tuple",data:=.seq pl })
  (hj:pl[i]?=none) (q:∀h',(∀b o,b≠I->s.heap.get? b=some o->h'.get? b=some o)->Q none { s with heap:=h' }):wpAny (model prog w) A (pyNext (.ref I)) Q E s:=by
 have ty:s.TypeIs (.ref I) "set_iterator":=⟨_,ki,rfl⟩;obtain⟨o,ho,hex,hd,hf⟩:=id so;unfold pyNext;refine c7 (bBY (bAF (name:="__next__") ty bU (bAD bU ty gC (c7 (d9 (c7 (bDC ki rfl ?_)))) (iI _))));show wpAny _ _ (setEntries D >>= _) _ _ s;refine c7 (bCY ho hd hf ?_);dsimp only;rw[if_neg (by simp)];simp only[bAY];refine c7 (bAS tp rfl ?_);dsimp only;rw[hj];dsimp only;refine c7 (bAH ki (by simp) λh2 e2 s2=>?_);refine c7 (bCZ e2 rfl (by simp) ?_);refine c7 ?_;simp only[newExc,newTuple,raiseNew];refine c7 (bAJ ?_ (by size_fits));refine c7 (m:=firstArgMember _ _) (bDT (a:=Value.none) (by simp only[firstArgMember];rfl) ?_);refine bAJ (c7 (bED ?_)) (by size_fits);rw[show A.in1.handled=none from hh];refine c7 (d9 (bER ?_));refine c7 (bCO (T:="StopIteration") (b:=true) ⟨_,j5 _ rfl,rfl⟩ isSubtype_stop ?_);refine d9 (q _ λb o hb e=>((((bAZ ..).extBut.push _).push _)) b o hb (s2.extBut b o hb e))
theorem aD5 {D:Addr}{es:Array (Int × Value)}{ep slot i:Nat}{t:SetTable}(hb:byT w=true):aGm prog w D es ep t slot i (((pickOrder (w.params.setOrder D ep) es)[i]?).map λe=>(e.2,slot)):=by intro A E s Q so q;obtain⟨o,ho,hex,hd,hf⟩:=so;have hb':(⟨(model prog w).prog,(model prog w).w.params⟩:Setting).params.followText "set-order"=true:=hb;unfold setNext setsByText setWalk;refine c7 (bBI ho hd hf ?_);dsimp only;refine c7 (c7 (bC0 (d9 ?_)));rw[if_pos hb',if_neg (by simp)];refine c7 (c7 (bBI ho hd hf ?_));dsimp only;unfold setsByText;refine c7 (c7 (bC0 (d9 ?_)));rw[if_pos hb'];exact c7 (bC0 (d9 (d9 q)))
theorem aAj {D:Addr}{es:Array (Int × Value)}{ep slot i:Nat}{t:SetTable}(hb:byT w=false)(hl:t.led=true)(hp:t.plain=true\/es.size<=1) :
  aGm prog w D es ep t slot i (match es[SetTable.below t.place slot]?,t.place[SetTable.below t.place slot]? with|some (_,x),some j=>some (x,j+1)|_,_=>none):=by
 intro A E s Q so q;obtain⟨o,ho,hex,hd,hf⟩:=so;have hb':(⟨(model prog w).prog,(model prog w).w.params⟩:Setting).params.followText "set-order"=false:=hb;unfold setNext setsByText;refine c7 (bBI ho hd hf ?_);dsimp only;refine c7 (c7 (bC0 (d9 ?_)));rw[if_neg (by rw[hb'];exact t8)]
 split
 ·rename_i hd';have z:(!t.plain && decide (es.size > 1))=true:=hd';rw[bAR,decide_eq_true_eq] at z;rcases hp with h|h
  ·rw[h] at z;cases z.1
  ·lia
 ·refine c7 (show wpAny _ _ (if (!t.led && !es.isEmpty)=true then unsupported "set:maker-not-led" else pure ()) _ _ _ from ?_);rw[if_neg (by rw[hl];exact t8)];exact d9 (d9 q)
theorem wV {I D:Addr}{first:Value}{n ep i:Nat}{Q:bEY}(ki:fG s.heap I first i D n ep)(h:Q (.ref I) s):wpAny (model prog w) A (pyIter (.ref I)) Q E s:=by have ty:s.TypeIs (.ref I) "set_iterator":=⟨_,ki,rfl⟩;refine bD4 ty pY (bAD pY ty zE ?_ (aCe _));show wpAny _ _ (ret (.ref I)) _ _ s;exact d9 ⟨_,rfl,"set_iterator",_,ty,bU.lookup,h⟩
theorem tX.at {h h':Heap}{D:Addr}{es:Array (Int × Value)}{ep:Nat}{t:SetTable}(x:tX h D es ep t)(e:∀o,h.get? D=some o->h'.get? D=some o):tX h' D es ep t:=by obtain⟨o,ho,r⟩:=x;exact⟨o,e o ho,r⟩
theorem aK4 {I D:Addr}{es:Array (Int × Value)}{ep:Nat}{t:SetTable}(hb:byT w=true)(hh:A.handled=none)(hne:D≠I) :
  Walks prog w A I [I,D] [I] es.size (λi v=>((pickOrder (w.params.setOrder D ep) es).toList.map (·.2))[i]?=some v) (λi h=>fG h I (.int (0:Nat) 0) i D es.size ep/\tX h D es ep t) where
 sub:=λb hb=>by simp at hb;simp[hb]
 frame:=λ_ _ _ st hk=>⟨hk I (by simp) _ st.1,st.2.at λo e=>hk D (by simp) o e⟩
 item:=λi s Q E hi st hQ=>by
  have hl:(pickOrder (w.params.setOrder D ep) es).size=es.size:=by rw[<-t7,(yD _ es).length_eq,t7]
  have hi':i<(pickOrder (w.params.setOrder D ep) es).size:=by lia
  have nx:=aD5 (prog:=prog) (D:=D) (es:=es) (ep:=ep) (slot:=0) (i:=i) (t:=t) hb;rw[m9 hi'] at nx;refine aDs st.1 st.2 hne nx λh' k' kp=>?_;exact hQ _ h' s.toks (by rw[v9,bBT,m9 hi'];rfl) ⟨k',st.2.at λo e=>kp D o hne e⟩ λb o hb e=>kp b o (λz=>hb (by simp[z])) e
 done:=λs Q E st hQ=>by
  have hl:(pickOrder (w.params.setOrder D ep) es).size=es.size:=by rw[<-t7,(yD _ es).length_eq,t7]
  have nx:=aD5 (prog:=prog) (D:=D) (es:=es) (ep:=ep) (slot:=0) (i:=es.size) (t:=t) hb;rw[bB6 (by lia)] at nx;exact aDm hh st.1 st.2 nx λh' kp=>hQ h' s.toks λb o hb e=>kp b o (λz=>hb (by simp[z])) e
 self:=λ_ _ _ _ st hQ=>wV st.1 hQ
theorem aH4 {I D:Addr}{es:Array (Int × Value)}{ep:Nat}{t:SetTable}(hb:byT w=false)(hl:t.led=true)(hp:t.plain=true\/es.size<=1)(hr:Ris t.place)(hsz:t.place.size=es.size)(hh:A.handled=none)(hne:D≠I) :
  Walks prog w A I [I,D] [I] es.size (λi v=>(es.toList.map (·.2))[i]?=some v) (λi h=>∃slot,fG h I (.int (slot:Nat) 0) i D es.size ep/\tX h D es ep t/\SetTable.below t.place slot=i) where
 sub:=λb hb=>by simp at hb;simp[hb]
 frame:=λ_ _ _ ⟨sl,s1,s2,s3⟩ hk=>⟨sl,hk I (by simp) _ s1,s2.at λo e=>hk D (by simp) o e,s3⟩
 item:=λi s Q E hi ⟨sl,s1,s2,s3⟩ hQ=>by
  have nx:=aAj (prog:=prog) (D:=D) (es:=es) (ep:=ep) (slot:=sl) (i:=i) (t:=t) hb hl hp;have hi':i<t.place.size:=by lia
  rw[s3,m9 hi,m9 hi'] at nx;refine aDs s1 s2 hne nx λh' k' kp=>?_;refine hQ _ h' s.toks (by rw[v9,bBT,m9 hi];rfl) ⟨_,k',s2.at λo e=>kp D o hne e,?_⟩ λb o hb e=>kp b o (λz=>hb (by simp[z])) e;obtain⟨b1,b2,b3⟩:=oF hr (t.place[i]+1);have h1:i<SetTable.below t.place (t.place[i]+1):=Nat.lt_of_not_le λz=>by have:=b3 i hi' z;lia
  rcases bEM (Nat.succ_le_of_lt h1) with h2|h2
  ·exfalso;have hk:i+1<t.place.size:=by lia
   have h3:=b2 (i+1) hk h2;have h4:=hr i (i+1) hi' hk (bCC _);lia
  ·exact h2.symm
 done:=λs Q E ⟨sl,s1,s2,s3⟩ hQ=>by have nx:=aAj (prog:=prog) (D:=D) (es:=es) (ep:=ep) (slot:=sl) (i:=es.size) (t:=t) hb hl hp;rw[s3,bB6 (j0 _)] at nx;exact aDm hh s1 s2 nx λh' kp=>hQ h' s.toks λb o hb e=>kp b o (λz=>hb (by simp[z])) e
 self:=λ_ _ _ _ ⟨_,s1,_⟩ hQ=>wV s1 hQ
theorem aHn {I D T:Addr}{es:Array (Int × Value)}{ep:Nat}{t:SetTable}{ys:List Nat}(hy:ys.Perm (List.range es.size))(hh:A.handled=none)(hne:D≠I)(hnT:T≠I) :
  Walks prog w A I [I,D,T] [I] es.size (λi v=>((ys.map λj=>es.getD j (0,.none)).map (·.2))[i]?=some v) (λi h=>fG h I (.ref T) i D es.size ep/\tX h D es ep t/\h.get? T=some { cls:=.type "tuple",data:=.seq (ys.map λj=>rawInt (j:Nat)).toArray }) where
 sub:=λb hb=>by simp at hb;simp[hb]
 frame:=λ_ _ _ st hk=>⟨hk I (by simp) _ st.1,st.2.1.at λo e=>hk D (by simp) o e,hk T (by simp) _ st.2.2⟩
 item:=λi s Q E hi st hQ=>by
  have hyl:ys.length=es.size:=by rw[hy.length_eq,bAK]
  have hi':i<ys.length:=by lia
  have hj:ys[i]<es.size:=List.mem_range.mp (hy.mem_iff.mp (bAT hi'));refine aL3 (j:=ys[i]) st.1 st.2.1 st.2.2 (by rw[bC9,v9,d7 hi'];rfl) (m9 hj) λh' k' kp=>?_;refine hQ _ h' s.toks ?_ ⟨k',st.2.1.at λo e=>kp D o hne e,kp T _ hnT st.2.2⟩ λb o hb e=>kp b o (λz=>hb (by simp[z])) e;rw[v9,v9,d7 hi'];show some (es.getD ys[i] (0,.none)).2=some es[ys[i]].2;rw[v5,m9 hj];rfl
 done:=λs Q E st hQ=>by
  have hyl:ys.length=es.size:=by rw[hy.length_eq,bAK]
  exact aLk hh st.1 st.2.1 st.2.2 (by rw[bC9,v9,bAC (by lia)];rfl) λh' kp=>hQ h' s.toks λb o hb e=>kp b o (λz=>hb (by simp[z])) e
 self:=λ_ _ _ _ st hQ=>wV st.1 hQ
theorem aQk {D:Addr}{es:Array (Int × Value)}{ep:Nat}{t:SetTable}{Q:bEY}(hh:A.handled=none)(so:tX s.heap D es ep t)(tab:TabOk (byT w) t)(hn:es.size<=1000)
  (h:∀I fp (order:List (Int × Value)) St h1 dr,(∀b o,s.heap.get? b=some o->h1.get? b=some o)->Walks prog w A I fp [I] es.size (λi v=>(order.map (·.2))[i]?=some v) St->St 0 h1->(∀b∈fp,b=D\/s.heap.objs.size<=b)->s.heap.objs.size<=I->order.Perm es.toList ->
   Q (.ref I) { s with heap:=h1,drawn:=dr }):wpAny (model prog w) A (pyIter (.ref D)) Q E s:=by
 obtain⟨o,ho,hex,hd,hf⟩:=id so;have ty:s.TypeIs (.ref D) "set":=⟨o,ho,hex.1⟩;refine bD4 ty F.slot_set_iter (bAD F.slot_set_iter ty aAa ?_ (F.args_set_iter_1 _));unfold Builtin.«frozenset.__iter__» Builtin.Frozenset.slot0 slotArgs;simp only[List.isEmpty_nil,Bool.not_true,bBB,↓reduceIte,bind_assoc,bCK,bne_self_eq_false];unfold Builtin.Frozenset.addrOf Builtin.Frozenset.sizeOf setDrawn setsByText;refine c7 (d9 ?_)
 try dsimp only
 refine c7 (d9 ?_);refine c7 (c7 (bCY ho hd hf (d9 ?_)));refine c7 (c7 (bBI ho hd hf ?_));dsimp only;refine c7 (c7 (bC0 (d9 (d9 ?_))));have hlt:D<s.heap.objs.size:=m8 ho;have zr:((0:Nat):Int)=0:=rfl
 split
 ·rename_i hc;refine c7 (pN _ _ _ _ (bAK ..) λys dr hy=>?_);refine c7 (bDY ?_ (by rw[j9,hy.length_eq,bAK];exact bAL hn (by decide)));have ho2:({ s with drawn:=dr,heap:=s.heap.push { cls:=.type "tuple",data:=.seq (ys.map λi=>rawInt (i:Nat)).toArray } }:Shared).heap.get? D=some o:=d8 _ ho;refine c7 (wpAny_setEpoch_of ho2 hd hf ?_);refine c7 ?_;unfold newFields;refine bAJ (d9 ⟨_,rfl,"set_iterator",_,⟨_,j5 _ rfl,rfl⟩,bU.lookup,?_⟩);have hz:(s.heap.push { cls:=.type "tuple",data:=.seq (ys.map λi=>rawInt (i:Nat)).toArray }).objs.size=s.heap.objs.size+1:=bAX ..;refine h _ [_,D,s.heap.objs.size] (ys.map λj=>es.getD j (0,.none)) _ _ dr (λb o e=>d8 _ (d8 _ e)) (aHn (t:=t) (ep:=ep) hy hh ?_ ?_) ⟨?_,?_,?_⟩ (λb hb=>?_) ?_ ?_
  ·show D≠Array.size _;rw[hz];exact v4 (bBE hlt)
  ·show s.heap.objs.size≠Array.size _;rw[hz];exact v4 (bCC _)
  ·exact j5 _ rfl
  ·exact⟨o,d8 _ ho2,hex,hd,hf⟩
  ·exact d8 _ (j5 _ rfl)
  ·simp only[bAB,w6,or_false] at hb;rcases hb with rfl|rfl|rfl
   ·right;rw[hz];exact bDS _
   ·left;rfl
   ·right;exact j0 _
  ·rw[hz];exact bDS _
  ·have e:(List.range es.size).map (λj=>es.getD j (0,.none))=es.toList:=by
    refine bB4 λj=>?_;rw[v9,show es.toList[j]?=es[j]? from bBT];by_cases hj:j<es.size
    ·rw[bB8 hj,m9 hj];show some (es.getD j (0,.none))=_;rw[v5,m9 hj];rfl
    ·rw[bAC (by rw[bAK];lia),bB6 (by lia)];rfl
   exact (hy.map _).trans (by rw[e])
 ·rename_i hc;refine c7 (d9 (c7 (wpAny_setEpoch_of ho hd hf (c7 ?_))));unfold newFields;refine bAJ (d9 ⟨_,rfl,"set_iterator",_,⟨_,j5 _ rfl,rfl⟩,bU.lookup,?_⟩);have ki:fG (s.heap.push { cls:=.type "set_iterator",data:=.fields [rawInt 0,rawInt 0,Value.ref D,rawInt (es.size:Nat),rawInt (ep:Nat)].toArray }) s.heap.objs.size (.int (0:Nat) 0) 0 D es.size ep:=j5 _ rfl;have so2:tX (s.heap.push { cls:=.type "set_iterator",data:=.fields [rawInt 0,rawInt 0,Value.ref D,rawInt (es.size:Nat),rawInt (ep:Nat)].toArray }) D es ep t:=so.at λo e=>d8 _ e;have fpk:∀b∈[s.heap.objs.size,D],b=D\/s.heap.objs.size<=b:=λb hb=>by
   simp only[bAB,w6,or_false] at hb;rcases hb with rfl|rfl
   ·right;exact j0 _
   ·left;rfl
  cases hb:byT w with
  |true=>exact h _ [s.heap.objs.size,D] _ _ _ s.drawn (λb o e=>d8 _ e) (aK4 (t:=t) (ep:=ep) hb hh (v4 hlt)) ⟨ki,so2⟩ fpk (j0 _) (yD _ es)
  |false=>
   have hl:t.led=true:=tab.1 hb;have hsz:t.place.size=es.size:=by unfold SetTable.fits at hf;rw[bAR,beq_iff_eq] at hf;exact hf.1
   have hp:t.plain=true\/es.size<=1:=by
    have z:¬ (!byT w && (!t.plain && decide (es.size > 1)))=true:=hc;rw[hb] at z;cases hpl:t.plain with
    |true=>exact .inl rfl
    |false=>rw[hpl] at z;right;simpa using z
   have hr:Ris t.place:=by
    rcases hp with z|z
    ·exact tab.2.2.2 z
    ·intro a b ha hb' hab;lia
   refine h _ [s.heap.objs.size,D] es.toList _ _ s.drawn (λb o e=>d8 _ e) (aH4 (t:=t) (ep:=ep) hb hl hp hr hsz hh (v4 hlt)) ⟨0,ki,so2,?_⟩ fpk (j0 _) (.refl _);obtain⟨_,b2,_⟩:=oF hr 0;rcases Nat.eq_zero_or_pos (SetTable.below t.place 0) with z|z
   ·exact z
   ·by_cases h0:0<t.place.size
    ·exact absurd (b2 0 h0 z) (bC6 _)
    ·have:=(oF hr 0).1;lia
theorem aR3 {D:Addr}{Q:Bool->Shared->Prop}(hT:s.TypeIs (.ref D) "set")(h:Q false s):wpAny (model prog w) A (Builtin.List.listLengthHint (.ref D)) Q E s:=by unfold Builtin.List.listLengthHint;refine c7 (wpAny_specialOf hT F.slot_set_len.lookup ?_);generalize hid:("set.__len__":String)=id0;wp_delta;rw[show splitId id0=some ("set","__len__") from by subst hid;decide +kernel];subst hid;refine c7 (bCO (T:="set") (b:=true) hT sub_set_self (wpAny_ite_split (λhab=>absurd hab (by decide)) (λ_=>wpAny_ite_split (λ_=>?_) (λhab=>absurd (by decide +kernel) hab))));exact c7 (bDW hT (d9 h))
theorem aKj {D:Addr}{es:Array (Int × Value)}{ep:Nat}{t:SetTable}{R:Result->Shared->Prop}(hh:A.handled=none)(so:tX s.heap D es ep t)(tab:TabOk (byT w) t)(hn:es.size<=1000)(S:Addr)(hSD:S≠D)(res:Value)(hS:s.heap.get? S=some { cls:=.type "list",data:=.seq #[] })
  (hR:∀h' tk dr acc c (order:List (Int × Value)),(∀b o,b≠S->s.heap.get? b=some o->h'.get? b=some o)->h'.get? S=some { cls:=.type "list",dict:=none,data:=.seq acc c,slots:=#[] }->order.Perm es.toList->acc.toList=order.map (·.2)->R (.ok (.ret res)) { s with heap:=h',toks:=tk,drawn:=dr }) :
  wpAny (model prog w) A.in1 (Builtin.List.listExtendWith (.ref S) (.ref D) res) (λfin s'=>match fin with|.done f=>R (.ok f) s'|.again c'=>c'.quiet=true/\codeAny (model prog w) A c' R s') (λe s'=>R (.error e) s') s:=by
 obtain⟨o,ho,hex,hd,hf⟩:=id so;have ty:s.TypeIs (.ref D) "set":=⟨o,ho,hex.1⟩;have hSlt:=m8 hS;unfold Builtin.List.listExtendWith;refine c7 (bDW (T:="set") ty ?_);have h1:Builtin.List.listSameRef (.ref S) (.ref D)=false:=by simp[Builtin.List.listSameRef,hSD]
 simp only[h1,show (Value.type "set" == Value.type "list")=false by decide,show (Value.type "set" == Value.type "tuple")=false by decide,Bool.or_false,bBB,if_false];refine c7 (aQk (A:=A.in1) hh so tab hn λI fp order St hI dr kpI W st hfp hI1 hperm=>?_);have hSf:S∉fp:=λz=>(hfp S z).elim hSD λz=>absurd hSlt (Nat.not_lt.mpr z);have hSI:hI.get? S=some { cls:=.type "list",data:=.seq #[] }:=kpI _ _ hS;have key:∀(h:Heap) (c₁ tk:Nat),St 0 h->(∀b o,b≠S->s.heap.get? b=some o->h.get? b=some o)->h.get? S=some { cls:=.type "list",data:=.seq #[] c₁ } ->
   codeAny (model prog w) A (.builtin "list.extend.loop" ⟨[.ref S,.ref I,res],[]⟩) R { s with heap:=h,toks:=tk,drawn:=dr }:=λh c₁ tk hst hk hS₁=>by
  refine codeAny_extend_loopS W.toS (bAL hn (by decide)) S hSf res es.size 0 _ #[] c₁ rfl (bAE _) hst hS₁ (ItemsOf.nil _) λs' acc' c' hm hS' hacc=>?_;rw[Moved.eq_with hm];refine hR s'.heap s'.toks dr acc' c' order (λb o hb e=>hm.heap b o (λhmem=>?_) (hk b o hb e)) hS' hperm ?_
  ·rcases List.mem_cons.mp hmem with e'|hmem
   ·exact hb e'
   ·rw[List.mem_singleton.mp hmem] at e;exact absurd (m8 e) (Nat.not_lt.mpr hI1)
  ·have ol:order.length=es.size:=by rw[hperm.length_eq,t7]
   refine bB4 λj=>?_;rw[bBT];by_cases hj:j<acc'.size
   ·rw[m9 hj];exact (hacc.2 j _ (m9 hj)).symm
   ·rw[bB6 (by lia),bAC (by rw[j9,ol,<-hacc.1];lia)]
 refine c7 (bAQ (aR3 (s:={ s with heap:=hI,drawn:=dr }) ⟨o,kpI _ _ ho,hex.1⟩ ?_));refine wpAny_ite_split (λ_=>?_) (λ_=>d9 ⟨bCW F.plain_extend_loop _,key hI _ _ st (λb o _ e=>kpI b o e) hSI⟩);refine c7 (bCU (c7 ?_));show wpAny _ _ (updateSeq S (·.push .none) >>= λ_=>updateSeq S (·.pop)) _ _ _;refine c7 (wpAny_updateSeq hSI rfl ?_);have hS₂:=bBF (Obj.mapSeq (·.push Value.none)) hSI rfl;refine wpAny_updateSeq (hz:=by seq_fits) hS₂ rfl ?_;have hS₃:=bBF (Obj.mapSeq (·.pop)) hS₂ rfl;have oth:∀b o,b≠S->hI.get? b=some o->((hI.update S (Obj.mapSeq (·.push Value.none))).update S (Obj.mapSeq (·.pop))).get? b=some o:=λb o hb e=>(bC2 _ _ (Ne.symm hb)).trans ((bC2 _ _ (Ne.symm hb)).trans e);exact d9 ⟨bCW F.plain_extend_loop _,key _ _ _ (W.frame 0 _ _ st λb hb o e=>oth b o (λz=>hSf (z ▸ hb)) e) (λb o hb e=>oth b o hb (kpI b o e)) hS₃⟩
end
end PySem
namespace PySem
open PySem.Calls PyProof.Rows
section
variable {prog:Program}{w:World}{κ:Type}[DecidableEq κ]{knd:PySem.KeyKind prog w κ}{A:Around}{E:bEY}{s:Shared}
theorem vX {D:Addr}{es:Array (Int × Value)}{ep:Nat}{t:SetTable}{R:List Value->Shared->Prop}(hh:A.handled=none)(so:tX s.heap D es ep t)(tab:TabOk (byT w) t)(hsz:es.size<=1000)
  (h:∀h' tk dr (order:List (Int × Value)),(∀b o,s.heap.get? b=some o->h'.get? b=some o)->order.Perm es.toList->R (order.map (·.2)) { s with heap:=h',toks:=tk,drawn:=dr }):wpAny (model prog w) A (collect (.ref D)) R E s:=by
 obtain⟨o,ho,hex,hd,hf⟩:=so;have hlt:=m8 ho;unfold collect;refine c7 (wpAny_runValue (bBM entry_proto_collect' ?_));rw[bBJ PySem.F.plain_proto_collect _];show wpAny _ A.in1 (newList [] >>= λl=>again (.builtin "list.__iadd__" ⟨[l,.ref D],[]⟩)) _ _ s;refine c7 (bAJ (d9 ⟨bCW PySem.F.plain_list_iadd _,bBM entry_list_iadd' ?_⟩));rw[bBJ PySem.F.plain_list_iadd _];have hS₁:(s.heap.push { cls:=.type "list",data:=.seq ([]:List Value).toArray }).get? s.heap.objs.size=some { cls:=.type "list",data:=.seq #[] }:=j5 _ rfl;show wpAny _ A.in1 (Builtin.List.listExtendWith (.ref s.heap.objs.size) (.ref D) (.ref s.heap.objs.size)) _ _ _;have key:=aKj (prog:=prog) (w:=w) (A:=A) (s:={ s with heap:=s.heap.push { cls:=.type "list",data:=.seq ([]:List Value).toArray } })
  (R:=λ(q:Result) (s':Shared)=>∃(h':Heap) (tk:Nat) (dr:Drawn) (acc:Array Value) (c:Nat) (order:List (Int × Value)),q=.ok (.ret (.ref s.heap.objs.size))/\s'={ s with heap:=h',toks:=tk,drawn:=dr }/\(∀b o,s.heap.get? b=some o->h'.get? b=some o)/\h'.get? s.heap.objs.size=some { cls:=.type "list",dict:=none,data:=.seq acc c,slots:=#[] }/\order.Perm es.toList/\acc.toList=order.map (·.2))
  hh ⟨o,d8 _ ho,hex,hd,hf⟩ tab hsz s.heap.objs.size (bCL hlt) (.ref s.heap.objs.size) hS₁
  (λh' tk dr acc c order hk hS' hp ha=>⟨h',tk,dr,acc,c,order,rfl,rfl,λb o e=>hk b o (v4 (m8 e)) (d8 _ e),hS',hp,ha⟩)
 have fin:∀(h':Heap) (tk:Nat) (dr:Drawn) (acc:Array Value) (c:Nat) (order:List (Int × Value)),(∀b o,s.heap.get? b=some o->h'.get? b=some o)->h'.get? s.heap.objs.size=some { cls:=.type "list",dict:=none,data:=.seq acc c,slots:=#[] }->order.Perm es.toList->acc.toList=order.map (·.2) ->
   wpAny (model prog w) A (load s.heap.objs.size >>= λo=>match o.data with|.seq xs _=>pure xs.toList|_=>unsupported "internal:collect") R E { s with heap:=h',toks:=tk,drawn:=dr }:=λh' tk dr acc c order hk hS' hp ha=>by
  refine c7 (wpAny_load hS' (d9 ?_));show R acc.toList _;rw[ha];exact h h' tk dr order hk hp
 refine bBL key (λfn s' x=>?_) λe s' x=>?_
 ·cases fn with
  |done f=>obtain⟨h',tk,dr,acc,c,order,e,rfl,hk,hS',hp,ha⟩:=x;cases e;exact fin h' tk dr acc c order hk hS' hp ha
  |again c₁=>refine⟨x.1,bCF x.2 λq s₂ y=>?_⟩;obtain⟨h',tk,dr,acc,c,order,rfl,rfl,hk,hS',hp,ha⟩:=y;exact fin h' tk dr acc c order hk hS' hp ha
 ·obtain⟨_,_,_,_,_,_,e',_⟩:=x;cases e'
theorem aI4 {D:Addr}{kl:List κ}{R:List Value->Shared->Prop}(hh:A.handled=none)(hS:uI knd s.heap D kl)(hn:kl.length<=1000)
  (h:∀h' tk dr acc kl',(∀b o,s.heap.get? b=some o->h'.get? b=some o)->kl'.Perm kl->Paired (λk v=>knd.is k v=true) kl' acc->R acc { s with heap:=h',toks:=tk,drawn:=dr }):wpAny (model prog w) A (collect (.ref D)) R E s:=by
 obtain⟨o,es,ep,t,ho,hex,hd,hf,tab,pr⟩:=hS;refine vX hh ⟨o,ho,hex,hd,hf⟩ tab (by rw[<-t7,<-Paired.length pr];exact hn) λh' tk dr order hk hp=>?_;obtain⟨kl',pr',pm⟩:=mV hp pr;refine h h' tk dr _ kl' hk pm ?_;clear hp pm
 induction pr' with
 |nil=>exact .nil
 |cons r _ ih=>exact .cons r.1 ih
end
end PySem
namespace L2
open PySem PySem.Spec PyProof.Rows PySem.Calls
section
variable {prog:Program}{w:World}{A:Around}{E:bEY}{s:Shared}
theorem aP5 {kl:List Key}{acc:List Value}(h:Paired (λk v=>(bL prog w).is k v=true) kl acc)(hi:∀k∈kl,∃n,k=Sum.inl n):∃ns:List Int,kl=ns.map Sum.inl/\IntsAre acc ns:=by
 induction h with
 |nil=>exact⟨[],rfl,.nil⟩
 |@cons k v kl acc r _ ih=>
  obtain⟨ns,rfl,h2⟩:=ih λk hk=>hi k (j6 _ hk);obtain⟨n,rfl⟩:=hi k j8;rcases cO (show vV (Sum.inl n) v=true from r) with⟨i,t,e,rfl⟩|⟨x,t,e,_⟩
  ·cases e;exact⟨n::ns,rfl,.cons n t h2⟩
  ·cases e
theorem aO4 {kl:List Key}{acc:List Value}(h:Paired (λk v=>(bL prog w).is k v=true) kl acc)(hi:∀k∈kl,∃n,k=Sum.inr n):∃ns:List Str,kl=ns.map Sum.inr/\StrsAre acc ns:=by
 induction h with
 |nil=>exact⟨[],rfl,.nil⟩
 |@cons k v kl acc r _ ih=>
  obtain⟨ns,rfl,h2⟩:=ih λk hk=>hi k (j6 _ hk);obtain⟨n,rfl⟩:=hi k j8;rcases cO (show vV (Sum.inr n) v=true from r) with⟨i,t,e,_⟩|⟨x,t,e,rfl⟩
  ·cases e
  ·cases e;exact⟨n::ns,rfl,.cons n t h2⟩
def ltK:Key->Key->Prop
 |.inl a,.inl b=>a<b
 |.inr a,.inr b=>a.cps.toList<b.cps.toList
 |_,_=>False
theorem aD1:∀(l:List Str) (p:Str),risingS p l=true->∀x∈l,¬ x.cps.toList<p.cps.toList
 |[],_,_,x,hx=>by cases hx
 |y::r,p,h,x,hx=>by
  unfold risingS at h;rw[bAR,ltCps_eq,Bool.not_eq_true',decide_eq_false_iff_not] at h;rcases List.mem_cons.mp hx with rfl|hx
  ·exact h.1
  ·intro z;have h2:=aD1 r y h.2 x hx;exact h.1 (List.lt_of_le_of_lt (show y.cps.toList<=x.cps.toList from h2) z)
theorem wM:∀(l:List Str) (p:Str),risingS p l=true->l.Nodup->l.Pairwise λa b=>a.cps.toList<b.cps.toList
 |[],_,_,_=>.nil
 |y::r,p,h,nd=>by
  unfold risingS at h;rw[bAR] at h;rw[bDM] at nd;refine .cons (λx hx=>?_) (wM r y h.2 nd.2);have h1:=aD1 r y h.2 x hx;rcases Classical.em (y.cps.toList<x.cps.toList) with z|z
  ·exact z
  ·exfalso;have e:y.cps.toList=x.cps.toList:=List.le_antisymm h1 z;have:y=x:=by cases y;cases x;exact congrArg Str.mk (Array.toList_inj.mp e)
   exact nd.1 (this ▸ hx)
theorem aB8 {vs:List Value}{ns:List Int}(h:IntsAre vs ns):Vals ((ns.map Sum.inl).map kV) vs:=by
 induction h with
 |nil=>exact .nil
 |cons n t _ ih=>exact .cons ⟨t,rfl⟩ ih
theorem aAe {vs:List Value}{ns:List Str}(h:StrsAre vs ns):Vals ((ns.map Sum.inr).map kV) vs:=by
 induction h with
 |nil=>exact .nil
 |cons n t _ ih=>exact .cons ⟨t,rfl⟩ ih
theorem wC {α β:Type}{f:α->β}{l:List α}(h:(l.map f).Nodup):l.Nodup:=List.Pairwise.imp (λhab e=>hab (congrArg f e)) (List.pairwise_map.mp h)
theorem aK6 {D:Addr}{kl:List Key}{Q:bEY}(hh:A.handled=none)(hS:uI (bL prog w) s.heap D kl)(hn:kl.length<=60)(nd:kl.Nodup)(hi:(∀k∈kl,∃n,k=Sum.inl n)\/∀k∈kl,∃n,k=Sum.inr n)
  (q:∀(h1 h':Heap) (tk:Nat) (dr:Drawn) (B:Addr) (vs:List Value) (ks:List Key) (e:Nat),Vals (ks.map kV) vs->ks.Perm kl->ks.Pairwise ltK->h'.get? B=some (seqObj "list" vs.toArray e)->(∀b o,s.heap.get? b=some o->h1.get? b=some o)->(∀b o,h1.get? b=some o->h'.get? b=some o)->h1.objs.size<=B->Q (.ref B) { s with heap:=h',toks:=tk,drawn:=dr }) :
  wpAny (model prog w) A (call (.builtin "sorted") [.ref D]) Q E s:=by
 refine call_function_entry kind_sorted plain_sorted entry_sorted (args_sorted1 _) ?_;unfold Builtin.«sorted»;refine c7 (m:=checkCount "sorted" 1 1 _) (d9 (c7 (aI4 (A:=A.in1) hh hS (by lia) λh' tk dr acc kl' hk pm hp=>?_)));have hl:acc.length=kl.length:=by rw[<-Paired.length hp,pm.length_eq]
 have nd':kl'.Nodup:=pm.nodup_iff.mpr nd;have h64:acc.length<64:=by lia
 refine c7 (wpAny_newList ?_ (by rw[sizeLine_eq];lia));have hoL:(h'.push (seqObj "list" acc.toArray 0)).get? h'.objs.size=some (seqObj "list" acc.toArray 0):=j5 _ rfl;have fin:∀(out:Array Value) (ks:List Key),Vals (ks.map kV) out.toList->ks.Perm kl'->ks.Pairwise ltK->Q (.ref h'.objs.size) { s with heap:=sortedHeap (h'.push (seqObj "list" acc.toArray 0)) h'.objs.size acc out,toks:=tk,drawn:=dr }:=λout ks hv pk pw=>by obtain⟨e,he⟩:=sortedHeap_at (out:=out) hoL;refine q h' _ tk dr h'.objs.size out.toList ks e hv (pk.trans pm) pw (by rw[Array.toArray_toList];exact he) hk (λb o hb'=>?_) (j0 _);have hlt:=m8 hb';rw[sortedHeap_old (v4 hlt) (by rw[size_push'];exact bBE hlt)];exact d8 _ hb'
 rcases hi with hi|hi
 ·obtain⟨ns,rfl,hI⟩:=aP5 hp λk hk=>hi k (pm.mem_iff.mp hk);refine c7 (bAQ (bAD slot_list_sort ⟨_,hoL,rfl⟩ entry_list_sort (list_sort_tree hoL hI h64 λout ns' a1 a2 a3=>⟨_,rfl,d9 ⟨_,rfl,fin out (ns'.map Sum.inl) (aB8 a1) (a2.map _) ?_⟩⟩) (args_list_sort _)));rw[List.pairwise_map];have n2:ns'.Nodup:=a2.nodup_iff.mpr (wC nd');refine (List.pairwise_and_iff.mpr ⟨a3,n2⟩).imp λ{a b} ⟨h1,h2⟩=>?_;show a<b;lia
 ·obtain⟨ns,rfl,hI⟩:=aO4 hp λk hk=>hi k (pm.mem_iff.mp hk);refine c7 (bAQ (bAD slot_list_sort ⟨_,hoL,rfl⟩ entry_list_sort (list_sort_treeK strKind_oneLt hoL hI.keysOf (λv₁ v₂ rest e=>keyKind_strs (by rw[<-e];exact hI)) h64 λst' a1 a2=>⟨_,rfl,d9 ⟨_,rfl,?_⟩⟩) (args_list_sort _)));obtain⟨ss',b1,b2,b3⟩:=sorted_out_str hI a1 a2;refine fin _ (ss'.map Sum.inr) (aAe b1) (b2.map _) ?_;rw[List.pairwise_map];have n2:ss'.Nodup:=b2.nodup_iff.mpr (wC nd');cases ss' with
  |nil=>exact .nil
  |cons y r=>have:=wM (y::r) y (by unfold risingS;rw[bAR,ltCps_eq];exact⟨by simpa using List.lt_irrefl _,b3⟩) n2;exact this
end
def aQp (P:Program)(w:World)(D:Addr)(kl:List Key):HO:=.ext λh=>uI (bL P w) h D kl
section
variable {X:Cx}{bE1:bEZ}{σ:L2.St}{H:Hp}{s:Shared}
theorem Inv.drew (I:Inv X bE1 σ H s)(dr:Drawn):Inv X bE1 σ H { s with drawn:=dr }:=⟨I.ok,I.os,I.bare,I.base,I.loc,I.cell,I.free,I.freeC,I.pin,I.hok,I.len⟩
def bAj (P:Program)(w:World)(K:bEX):List V->Hp->VK->Prop:=λxs H Q=>∃(p:Addr) (ks:List Key),xs=[.ref p]/\SqL K H p (ks.map kV)/\ks.length<=4/\∀D H' kl,H D=none->Same H H'->H' D=some (aQp P w D kl)->Ded kl ks->Q (.ref D) H'
theorem aNy {k:Key}{v:Value}(h:RelV (kV k) v):(bL X.prog X.w).is k v=true/\v.scannable=true:=by
 cases k with
 |inl n=>obtain⟨t,rfl⟩:=h;exact⟨aDu n t,rfl⟩
 |inr n=>obtain⟨t,rfl⟩:=h;exact⟨aC7 n t,rfl⟩
theorem aOg (hc:X.calm=true):cI X (.type "set") (bAj X.prog X.w X.K):=by
 intro bE1 s σ H xs us Q I r h;obtain⟨p,ks,rfl,hq,hl,q⟩:=h;obtain⟨u,rfl,rx⟩:=r.one;cases rx;obtain⟨its,rv,pl,hz⟩:=I.list hq;have hlen:=rv.length;rw[j9] at hlen;refine aOr (knd:=bL X.prog X.w) (ks:=ks) (I.ok.hd hc) pl.isList (by rw[j7];exact hlen) (λi v hv=>?_) (by rw[j7,<-hlen];exact hl) λh' tk kl x dd kp=>?_
 ·have hv':its[i]?=some v:=by simpa using hv
  have hi:i<ks.length:=by rw[hlen];exact (List.getElem?_eq_some_iff.mp hv').1
  obtain⟨u,hu,ru⟩:=rv.get (i:=i) (x:=kV ks[i]) (by rw[v9,d7 hi];rfl);rw[hv'] at hu;cases hu;exact⟨ks[i],d7 hi,aNy ru⟩
 ·have e:∃o,h'.get? s.heap.objs.size=some o:=by obtain⟨o,_,_,_,ho,_⟩:=x;exact⟨o,ho⟩
  have hf:H s.heap.objs.size=none:=I.hok.fresh (j0 _);exact⟨.ref s.heap.objs.size,_,I.laid (t':=tk) (o:=aQp X.prog X.w s.heap.objs.size kl) (λb o eo=>kp b o (m8 eo) eo) (j0 _) (show uI (bL X.prog X.w) h' s.heap.objs.size kl/\_/\_ from ⟨x,e,λh1 h2 y k=>y.at k⟩),rfl,q _ _ kl hf (aW hf _) aH dd⟩
def aRb (P:Program)(w:World):List V->Hp->VK->Prop:=λxs H Q=>∃(D:Addr) (kl:List Key),xs=[.ref D]/\H D=some (aQp P w D kl)/\kl.length<=60/\kl.Nodup/\((∀k∈kl,∃n,k=Sum.inl n)\/∀k∈kl,∃n,k=Sum.inr n) /\
 ∀(B:Addr) (H':Hp) (ks:List Key),H B=none->Same H H'->H' B=some (.lst (ks.map kV))->ks.Perm kl->ks.Pairwise ltK->Q (.ref B) H'
theorem aEu (hc:X.calm=true):cI X (.builtin "sorted") (aRb X.prog X.w):=by
 intro bE1 s σ H xs us Q I r h;obtain⟨D,kl,rfl,hD,hl,nd,hi,q⟩:=h;obtain⟨u,rfl,rx⟩:=r.one;cases rx;have x:uI (bL X.prog X.w) s.heap D kl:=(I.hok D _ hD).1;refine aK6 (I.ok.hd hc) x hl nd hi λh1 h' tk dr B vs ks e hv pm pw ho k1 k2 hB=>?_;have I1:Inv X bE1 σ H { s with heap:=h1,toks:=tk }:=I.kept (t':=tk) k1;have I2:=I1.drew dr;have hf:H B=none:=I2.hok.fresh hB;have lk:ks.length<=60:=by rw[pm.length_eq];exact hl
 exact⟨.ref B,_,I2.laid (t':=tk) (o:=.lst (ks.map kV)) k2 hB ⟨small (by rw[j9];lia),vs,e,hv,ho⟩,rfl,q B _ ks hf (aW hf _) aH pm pw⟩
end
end L2
namespace PySem
open SetTable (Probe bits runEnd leap)
def tmk (m:Nat):SetTable:=⟨m,#[],#[],0,true,0,true⟩
def sq (m:Nat)(p:Probe):Nat->Probe
 |0=>p
 |n+1=>(tmk m).advance (sq m p n)
def hd (m:Nat)(x:Nat × Nat):Probe:=⟨x.1,runEnd m x.1 - x.1,x.1,x.2,none⟩
def x0 (m:Nat)(h:Int):Nat × Nat:=(bits h % (m+1),bits h)
def pj (m:Nat)(h:Int)(n:Nat):Nat:=(sq m (hd m (x0 m h)) n).j
def lp (m:Nat)(x:Nat × Nat):Nat->Nat × Nat
 |0=>x
 |k+1=>leap m (lp m x k).1 (lp m x k).2
theorem aFk (m:Nat)(p:Probe)(a:Nat):∀b,sq m p (a+b)=sq m (sq m p a) b
 |0=>rfl
 |b+1=>congrArg (tmk m).advance (aFk m p a b)
theorem aGf (m:Nat)(x:Nat × Nat):∀k,k<=runEnd m x.1 - x.1->sq m (hd m x) k=⟨x.1+k,runEnd m x.1 - x.1 - k,x.1,x.2,none⟩
 |0,_=>rfl
 |k+1,h=>by unfold sq;rw[aGf m x k (by lia)];unfold SetTable.advance;rw[if_pos (by show runEnd m x.1 - x.1 - k > 0;lia)];rfl
theorem aF8 (m:Nat)(x:Nat × Nat):sq m (hd m x) (runEnd m x.1 - x.1+1)=hd m (leap m x.1 x.2):=by unfold sq;rw[aGf m x _ (j0 _)];unfold SetTable.advance;rw[if_neg (by show ¬ (runEnd m x.1 - x.1 - (runEnd m x.1 - x.1) > 0);lia)];rfl
theorem aZd (m i:Nat):runEnd m i - i<=9:=by unfold runEnd;split <;> lia
theorem aAy {m i k:Nat}(hi:i<=m)(hk:k<=runEnd m i - i):i+k<=m:=by unfold runEnd at hk;split at hk <;> lia
theorem heads (m:Nat)(x:Nat × Nat):∀k,∃n,n<=10 * k/\sq m (hd m x) n=hd m (lp m x k)
 |0=>⟨0,j0 _,rfl⟩
 |k+1=>by obtain⟨n,h1,h2⟩:=heads m x k;refine⟨n+(runEnd m (lp m x k).1 - (lp m x k).1+1),by have:=aZd m (lp m x k).1;lia,?_⟩;rw[aFk,h2,aF8];rfl
theorem aRf (m:Nat)(x:Nat × Nat):∀k,(lp m x k).2=x.2 / 32 ^ k
 |0=>by simp[lp]
 |k+1=>by show (lp m x k).2 / 32=_;rw[aRf m x k,Nat.div_div_eq_div_mul,Nat.pow_succ]
theorem aSb (m:Nat)(x:Nat × Nat)(h:x.1<=m):∀k,(lp m x k).1<=m
 |0=>h
 |k+1=>by exact Nat.le_of_lt_succ (Nat.mod_lt _ (Nat.succ_pos m))
def fI (m:Nat):Nat->Nat->Nat
 |0,i=>i
 |k+1,i=>(fI m k i * 5+1) % (m+1)
theorem aBc (m a i:Nat):∀b,fI m (b+a) i=fI m b (fI m a i)
 |0=>by rw[bCS];rfl
 |b+1=>by rw[show b+1+a=(b+a)+1 by lia];show (fI m (b+a) i * 5+1) % (m+1)=_;rw[aBc m a i b];rfl
def orb (m:Nat):Nat->Nat->List Nat
 |0,_=>[]
 |k+1,i=>i::orb m k ((i * 5+1) % (m+1))
theorem aTm {m:Nat}:∀{n i j:Nat},j∈orb m n i->∃k,k<n/\fI m k i=j
 |n+1,i,j,h=>by
  rcases List.mem_cons.mp h with rfl|h
  ·exact⟨0,Nat.succ_pos _,rfl⟩
  ·obtain⟨k,h1,h2⟩:=aTm h;exact⟨k+1,Nat.succ_lt_succ h1,by rw[aBc m 1 i k];exact h2⟩
def Msk (m:Nat):Prop:=m=7\/m=31\/m=127
theorem aU7 {m:Nat}(h:Msk m):(List.range (m+1)).all (λj=>(orb m (m+1) 0).contains j)=true/\fI m (m+1) 0=0:=by rcases h with rfl|rfl|rfl <;> exact⟨by decide +kernel,by decide +kernel⟩
theorem cyc {m i j:Nat}(h:Msk m)(hi:i<=m)(hj:j<=m):∃k,k<=m/\fI m k i=j:=by
 obtain⟨h1,h2⟩:=aU7 h;have at0:∀j,j<=m->∃k,k<m+1/\fI m k 0=j:=λj hj=>aTm (by simpa using List.all_eq_true.mp h1 j (List.mem_range.mpr (by lia)));obtain⟨a,ha,rfl⟩:=at0 i hi;obtain⟨b,hb,rfl⟩:=at0 j hj;by_cases c:a<=b
 ·exact⟨b - a,by lia,by rw[<-aBc,show b - a+a=b by lia]⟩
 ·exact⟨b+(m+1) - a,by lia,by rw[<-aBc,show b+(m+1) - a+a=b+(m+1) by lia,aBc,h2]⟩
theorem aQe (m:Nat)(h:Int):(x0 m h).1<=m/\(x0 m h).2<2 ^ 64:=by refine⟨Nat.le_of_lt_succ (Nat.mod_lt _ (Nat.succ_pos m)),?_⟩;show (h % 2 ^ 64).toNat<2 ^ 64;have a:=bDR h (show (0:Int)<2 ^ 64 by decide);have b:=bEH h (show (2 ^ 64:Int)≠0 by decide);lia
theorem aMz {m:Nat}{x:Nat × Nat}(h:x.2<2 ^ 64):∀k,(lp m x (12+k)).1=fI m k (lp m x 12).1
 |0=>rfl
 |k+1=>by
  show ((lp m x (12+k)).1 * 5+1+(lp m x (12+k)).2 / 32) % (m+1)=(fI m k _ * 5+1) % (m+1);rw[aMz h k,aRf,Nat.div_div_eq_div_mul,<-Nat.pow_succ];have:x.2 / 32 ^ (12+k+1)=0:=by refine Nat.div_eq_of_lt (bAA h ?_);exact bAL (by decide:2 ^ 64<=32 ^ 13) (Nat.pow_le_pow_right (by decide) (by lia))
  rw[this]
theorem aMv {m j:Nat}(hm:Msk m)(h:Int)(hj:j<=m):∃k,k<=12+m/\(lp m (x0 m h) k).1=j:=by obtain⟨a,b⟩:=aQe m h;obtain⟨k,h1,h2⟩:=cyc hm (aSb m _ a 12) hj;exact⟨12+k,by lia,(aMz b k).trans h2⟩
theorem least {P:Nat->Prop}:∀n,P n->∃k,k<=n/\P k/\∀i,i<k->¬ P i:=by
 intro n
 induction n using Nat.strongRecOn with
 |ind n ih=>
  intro hn;by_cases c:∃i,i<n/\P i
  ·obtain⟨i,h1,h2⟩:=c;obtain⟨k,a,b⟩:=ih i h1 h2;exact⟨k,by lia,b⟩
  ·exact⟨n,j0 _,hn,λi hi q=>c ⟨i,hi,q⟩⟩
theorem pig:∀(n:Nat) (l:List Nat),(∀j,j<n->j∈l)->n<=l.length
 |0,_,_=>bAE _
 |n+1,l,h=>by have hn:=h n (bCC _);have:=pig n (l.erase n) λj hj=>(List.mem_erase_of_ne (by lia)).mpr (h j (by lia));rw[List.length_erase_of_mem hn] at this;have:=List.length_pos_of_mem hn;lia
theorem first {m:Nat}(hm:Msk m){l:List Nat}(hl:l.length<=m)(h:Int):∃N,N<10 * (m+15)/\pj m h N∉l/\pj m h N<=m/\∀n,n<N->pj m h n∈l:=by
 obtain⟨j,hj,hn⟩:∃j,j<=m/\j∉l:=Classical.byContradiction λz=>by have:=pig (m+1) l λj hj=>Classical.byContradiction λq=>z ⟨j,by lia,q⟩;lia
 obtain⟨k,h1,h2⟩:=aMv hm h hj;obtain⟨n,h3,h4⟩:=heads m (x0 m h) k;have e:pj m h n=j:=by unfold pj;rw[h4];exact h2
 obtain⟨N,a,b,c⟩:=least (P:=λn=>pj m h n∉l) n (by rw[e];exact hn);refine⟨N,by lia,b,?_,λi hi=>Classical.byContradiction (c i hi)⟩;refine (?_:∀N,pj m h N<=m) N;intro N;have gen:∀N,∃x k,x.1<=m/\k<=runEnd m x.1 - x.1/\sq m (hd m (x0 m h)) N=sq m (hd m x) k:=by
  intro N
  induction N with
  |zero=>exact⟨x0 m h,0,(aQe m h).1,bAE _,rfl⟩
  |succ N ih=>
   obtain⟨x,k,a,b,c⟩:=ih;by_cases d:k+1<=runEnd m x.1 - x.1
   ·exact⟨x,k+1,a,d,congrArg (tmk m).advance c⟩
   ·obtain rfl:k=runEnd m x.1 - x.1:=by lia
    refine⟨leap m x.1 x.2,0,?_,bAE _,(congrArg (tmk m).advance c).trans (aF8 m x)⟩;exact aSb m x a 1
 obtain⟨x,k,a,b,c⟩:=gen N;unfold pj;rw[c,aGf m x k b];exact aAy a b
def Rch (m:Nat)(l:List Nat)(h:Int)(j:Nat):Prop:=∃n,pj m h n=j/\∀i,i<n->pj m h i∈l
theorem Rch.mono {m:Nat}{l l':List Nat}{h:Int}{j:Nat}(r:Rch m l h j)(s:∀x∈l,x∈l'):Rch m l' h j:=
 let ⟨n,a,b⟩:=r;⟨n,a,λi hi=>s _ (b i hi)⟩
theorem below_at {xs:Array Nat}(hp:Ris xs){i:Nat}(hi:i<xs.size):SetTable.below xs xs[i]=i:=by
 obtain⟨b1,b2,b3⟩:=oF hp xs[i];rcases bD5 (SetTable.below xs xs[i]) i with h|h|h
 ·have h1:=b3 _ (by lia) (j0 _);have h2:=hp _ i (by lia) hi h;lia
 ·exact h
 ·have:=b2 i hi h;lia
theorem aB0 {t:SetTable}(hd:t.dummies=#[])(hr:Ris t.place)(j:Nat):(j∉t.place.toList/\t.slot j=.empty)\/∃i,t.place[i]?=some j/\t.slot j=.live i:=by
 by_cases h:j∈t.place.toList
 ·right;obtain⟨i,hi,e⟩:=bBC h;have hi':i<t.place.size:=by simpa using hi
  have e':t.place[i]=j:=by simpa using e
  subst e';refine⟨i,m9 hi',?_⟩;unfold SetTable.slot;dsimp only;rw[below_at hr hi',m9 hi'];simp
 ·left;refine⟨h,?_⟩;unfold SetTable.slot;dsimp only;rw[if_neg,hd]
  ·have:SetTable.has #[] j=false:=by unfold SetTable.has;simp
   rw[this];rfl
  ·intro z;have z':=eq_of_beq z;exact h (by simpa using bC8 z')
theorem aEa {t:SetTable}{g:Nat->Int}{h:Int}(hdm:t.dummies=#[])(hr:Ris t.place){N:Nat}(hN:pj t.mask h N∉t.place.toList)(hB:∀n,n<N->pj t.mask h n∈t.place.toList) :
  ∀(fuel n:Nat),n<=N->N - n<fuel->∃n',n<=n'/\n'<=N/\(∀k i,n<=k->k<n'->t.place[i]?=some (pj t.mask h k)->g i≠h) /\
   ((n'=N/\SetTable.probe.go t g h fuel (sq t.mask (hd t.mask (x0 t.mask h)) n)=some (.empty (pj t.mask h N) none)) \/
   (n'<N/\∃i,t.place[i]?=some (pj t.mask h n')/\g i=h/\SetTable.probe.go t g h fuel (sq t.mask (hd t.mask (x0 t.mask h)) n)=some (.candidate (pj t.mask h n') i (sq t.mask (hd t.mask (x0 t.mask h)) (n'+1)))))
 |0,n,_,hf=>by lia
 |fuel+1,n,hn,hf=>by
  have dn:(sq t.mask (hd t.mask (x0 t.mask h)) n).dummy=none:=by
   clear hn hf
   induction n with
   |zero=>rfl
   |succ n ih=>
    unfold sq SetTable.advance
    split
    ·exact ih
    ·exact ih
  unfold SetTable.probe.go;rcases aB0 hdm hr (pj t.mask h n) with⟨a,b⟩|⟨i,a,b⟩
  ·have e:n=N:=Nat.le_antisymm hn (Nat.le_of_not_lt λz=>a (hB n z));subst e;refine⟨n,j0 _,j0 _,λk i h1 h2=>by lia,.inl ⟨rfl,?_⟩⟩;rw[show t.slot (sq t.mask (hd t.mask (x0 t.mask h)) n).j=.empty from b];dsimp only;rw[dn];rfl
  ·have hlt:n<N:=Nat.lt_of_le_of_ne hn λz=>hN (by rw[<-z];simpa using bC8 a);rw[show t.slot (sq t.mask (hd t.mask (x0 t.mask h)) n).j=.live i from b];dsimp only;by_cases c:g i=h
   ·refine⟨n,j0 _,hn,λk i h1 h2=>by lia,.inr ⟨hlt,i,a,c,?_⟩⟩;rw[if_pos (beq_iff_eq.mpr c)];rfl
   ·rw[if_neg (by simpa using c)];obtain⟨n',h1,h2,h3,h4⟩:=aEa hdm hr hN hB fuel (n+1) hlt (by lia) (g:=g);refine⟨n',by lia,h2,λk i' k1 k2 k3=>?_,h4⟩;by_cases e:k=n
    ·subst e;have:i'=i:=by obtain⟨q1,q2⟩:=Array.getElem?_eq_some_iff.mp k3;obtain⟨q3,q4⟩:=Array.getElem?_eq_some_iff.mp a;rw[<-below_at hr q1,<-below_at hr q3,q2,q4]
     rw[this];exact c
    ·exact h3 k i' (by lia) k2 k3
theorem aEf {α β:Type}{R:α->β->Prop}{as:List α}{bs:List β}(h:Paired R as bs):∀{i:Nat} {a:α},as[i]?=some a->∃b,bs[i]?=some b/\R a b:=by
 induction h with
 |nil=>intro i a q;cases q
 |cons r _ ih=>
  intro i a q;cases i with
  |zero=>cases q;exact⟨_,rfl,r⟩
  |succ i=>exact ih q
theorem aVt {m:Nat}(hm:Msk m){ow:Array (Option Nat)}{js:List Nat}(ch:∀j,j<=m->((ow.getD j (some 0)).isNone=true↔j∉js))(hl:js.length<=m)(h:Int) :
  ∃j,SetTable.layClean.free m ow (SetTable.turns m) (bits h % (m+1)) (bits h)=some j/\j<=m/\j∉js/\Rch m js h j:=by
 obtain⟨j,hj,hn⟩:∃j,j<=m/\j∉js:=Classical.byContradiction λz=>by have:=pig (m+1) js λj hj=>Classical.byContradiction λq=>z ⟨j,by lia,q⟩;lia
 obtain⟨K,h1,h2⟩:=aMv hm h hj;have aux:∀fuel k,k<=K->K - k<fuel->(∃n,sq m (hd m (x0 m h)) n=hd m (lp m (x0 m h) k)/\∀i,i<n->pj m h i∈js)->∃j,SetTable.layClean.free m ow fuel (lp m (x0 m h) k).1 (lp m (x0 m h) k).2=some j/\j<=m/\j∉js/\Rch m js h j:=by
  intro fuel
  induction fuel with
  |zero=>intro k _ z;lia
  |succ fuel ih=>
   intro k hk hf ⟨n,e,ho⟩;have hin:=aSb m _ (aQe m h).1 k;have at_:∀c,c<=runEnd m (lp m (x0 m h) k).1 - (lp m (x0 m h) k).1->pj m h (n+c)=(lp m (x0 m h) k).1+c:=λc hc=>by unfold pj;rw[aFk,e,aGf _ _ _ hc]
   have tk:∀c,c<=runEnd m (lp m (x0 m h) k).1 - (lp m (x0 m h) k).1->(∀d,d<c->(lp m (x0 m h) k).1+d∈js)->∀i,i<n+c->pj m h i∈js:=λc hc hd i hi=>by
    by_cases z:i<n
    ·exact ho i z
    ·have:=hd (i - n) (by lia);rw[<-at_ (i - n) (by lia),show n+(i - n)=i by lia] at this;exact this
   have rl:(lp m (x0 m h) k).1<=runEnd m (lp m (x0 m h) k).1:=by unfold runEnd;split <;> lia
   unfold SetTable.layClean.free;cases hq:(List.range (runEnd m (lp m (x0 m h) k).1+1 - (lp m (x0 m h) k).1)).find? λc=>(ow.getD ((lp m (x0 m h) k).1+c) (some 0)).isNone with
   |some c=>
    rw[List.find?_range_eq_some] at hq;obtain⟨q1,q2,q3⟩:=hq;rw[List.mem_range] at q2;have hc:c<=runEnd m (lp m (x0 m h) k).1 - (lp m (x0 m h) k).1:=by lia
    refine⟨_,rfl,aAy hin hc,(ch _ (aAy hin hc)).mp q1,n+c,at_ c hc,tk c hc λd hd=>Classical.byContradiction λz=>?_⟩;have:=q3 d hd;rw[(ch _ (aAy hin (by lia))).mpr z] at this;cases this
   |none=>
    rw[List.find?_range_eq_none] at hq;have all:∀d,d<runEnd m (lp m (x0 m h) k).1+1 - (lp m (x0 m h) k).1->(lp m (x0 m h) k).1+d∈js:=λd hd=>Classical.byContradiction λz=>by have:=hq d hd;rw[(ch _ (aAy hin (by lia))).mpr z] at this;cases this
    have ne:k≠K:=λz=>hn (by rw[<-h2,<-z];exact all 0 (by lia));refine ih (k+1) (by lia) (by lia) ⟨n+(runEnd m (lp m (x0 m h) k).1 - (lp m (x0 m h) k).1+1),by rw[aFk,e,aF8];rfl,λi hi=>?_⟩;by_cases z:i<n
    ·exact ho i z
    ·have:=all (i - n) (by lia);rw[<-at_ (i - n) (by lia),show n+(i - n)=i by lia] at this;exact this
 exact aux _ 0 (bAE _) (by unfold SetTable.turns;lia) ⟨0,rfl,λi hi=>by lia⟩
structure LI (m:Nat)(done:List Int)(js:List Nat)(ow:Array (Option Nat)):Prop where
 sz:ow.size=m+1
 at_:∀j k:Nat,ow[j]?=some (some k)↔js[k]?=some j
 le:∀j∈js,j<=m
 pr:Paired (Rch m js) done js
theorem LI.ch {m:Nat}{done:List Int}{js:List Nat}{ow:Array (Option Nat)}(L:LI m done js ow)(j:Nat)(hj:j<=m):(ow.getD j (some 0)).isNone=true↔j∉js:=by
 have hs:j<ow.size:=by rw[L.sz];lia
 rw[v5,m9 hs,bBO];cases e:ow[j] with
 |none=>refine⟨λ_ z=>?_,λ_=>rfl⟩;obtain⟨k,hk,q⟩:=bBC z;have:=(L.at_ j k).mpr (by rw[d7 hk,q]);rw[m9 hs,e] at this;cases this
 |some k=>exact⟨λz=>(by cases z),λz=>absurd (v6 ((L.at_ j k).mp (by rw[m9 hs,e]))) z⟩
theorem LI.more {m:Nat}{done:List Int}{js:List Nat}{ow:Array (Option Nat)}{h:Int}{j:Nat}(L:LI m done js ow)(hj:j<=m)(hn:j∉js)(r:Rch m js h j):LI m (done++[h]) (js++[j]) (ow.setIfInBounds j (some js.length)):=by
 have hs:j<ow.size:=by rw[L.sz];lia
 refine⟨by rw[Array.size_setIfInBounds,L.sz],λj' k=>?_,λx hx=>?_,?_⟩
 ·by_cases e:j=j'
  ·subst e;rw[Array.getElem?_setIfInBounds_self_of_lt hs];constructor
   ·intro z;cases z;rw[bBG (j0 _),Nat.sub_self];rfl
   ·intro z;rcases bD5 k js.length with c|c|c
    ·rw[bBK c] at z;exact absurd (v6 z) hn
    ·rw[c]
    ·rw[bAC (by rw[bAG];show js.length+1<=k;lia)] at z;cases z
  ·rw[Array.getElem?_setIfInBounds_ne e,L.at_];rcases bD5 k js.length with c|c|c
   ·rw[bBK c]
   ·rw[c,bBG (j0 _),Nat.sub_self,bAC (j0 _)];exact⟨λz=>(by cases z),λz=>absurd (bAN z) e⟩
   ·rw[bAC (by lia),bAC (by rw[bAG];show js.length+1<=k;lia)]
 ·rcases List.mem_append.mp hx with z|z
  ·exact L.le x z
  ·rw[List.mem_singleton.mp z];exact hj
 ·exact rF (L.pr.mono λa b q=>q.mono λx hx=>bCG _ hx) (r.mono λx hx=>bCG _ hx)
theorem aMj {m:Nat}(hm:Msk m){f:Option (Array (Option Nat) × Nat)->Int->Option (Array (Option Nat) × Nat)}(hf:∀o k h j,SetTable.layClean.free m o (SetTable.turns m) (bits h % (m+1)) (bits h)=some j->f (some (o,k)) h=some (o.setIfInBounds j (some k),k+1)) :
  ∀(hs done:List Int) (js:List Nat) (ow:Array (Option Nat)),LI m done js ow->js.length+hs.length<=m->∃js' ow' k,hs.foldl f (some (ow,js.length))=some (ow',k)/\LI m (done++hs) js' ow'
 |[],done,js,ow,L,_=>⟨js,ow,_,rfl,by rw[bB9];exact L⟩
 |h::hs,done,js,ow,L,hl=>by rw[v7] at hl;obtain⟨j,e,h1,h2,h3⟩:=aVt hm L.ch (by lia) h;obtain⟨js',ow',k,q,L'⟩:=aMj hm hf hs (done++[h]) (js++[j]) _ (L.more h1 h2 h3) (by rw[bAG];show js.length+1+hs.length<=m;lia);refine⟨js',ow',k,?_,by rw[bCR] at L';exact L'⟩;rw[List.foldl_cons,hf _ _ _ _ e];rw[bAG] at q;exact q
theorem aJw {α:Type}:∀l:List α,(List.range l.length).filterMap (λi=>l[i]?)=l
 |[]=>rfl
 |x::l=>by rw[v7,List.range_succ_eq_map,bB7];simp only[List.getElem?_cons_zero,bDO,Function.comp_def,Nat.succ_eq_add_one,List.getElem?_cons_succ];rw[aJw l]
theorem aV8 {m:Nat}(hm:Msk m)(es:Array (Int × Value))(hl:es.size<=m)(fi mv:Nat)(ld pl:Bool):∃place order,SetTable.laid m fi mv ld pl (es.map (·.1))=some (⟨m,place,#[],fi,ld,mv,pl⟩,order)/\Ris place/\(∀j∈place.toList,j<=m) /\
  (order.filterMap (es[·]?)).toList.Perm es.toList/\Paired (λj e=>Rch m place.toList e.1 j) place.toList (order.filterMap (es[·]?)).toList:=by
 have L0:LI m [] [] (Array.replicate (m+1) none):=⟨Array.size_replicate,λj k=>⟨λz=>(by
  rw[Array.getElem?_replicate] at z
  split at z <;> cases z),λz=>(by cases z)⟩,λj hj=>(by cases hj),.nil⟩
 have hl':([]:List Nat).length+(es.map (·.1)).toList.length<=m:=by simpa using hl
 obtain⟨js,ow,k,e,L⟩:=aMj hm (f:=λacc h=>do
  let (owner,k) <-acc
  let j <-SetTable.layClean.free m owner (SetTable.turns m) (bits h % (m+1)) (bits h)
  pure (owner.setIfInBounds j (some k),k+1)) (λo k h j q=>by show (SetTable.layClean.free m o _ _ _).bind _=_;rw[q];rfl) (es.map (·.1)).toList [] [] _ L0 hl'
 rw[bDN] at L;have jl:js.length=es.size:=by rw[<-L.pr.length];simp
 have lc:SetTable.layClean m (es.map (·.1))=some ow:=by unfold SetTable.layClean;rw[<-Array.foldl_toList];exact congrArg (Option.map (·.1)) e
 have mem:∀x:Nat × Nat,x∈(List.range (m+1)).filterMap (λj=>(ow.getD j none).map (j,·))↔js[x.2]?=some x.1:=λx=>by
  rw[List.mem_filterMap,<-L.at_];constructor
  ·rintro⟨j,hj,q⟩;have hs:j<ow.size:=by rw[L.sz];exact List.mem_range.mp hj
   rw[v5,m9 hs,bBO] at q;obtain⟨k,q1,rfl⟩:=Option.map_eq_some_iff.mp q;rw[m9 hs,q1]
  ·intro q;obtain⟨hs,q1⟩:=Array.getElem?_eq_some_iff.mp q;refine⟨x.1,List.mem_range.mpr (by rw[L.sz] at hs;exact hs),?_⟩;rw[v5,q];rfl
 generalize hv:(List.range (m+1)).filterMap (λj=>(ow.getD j none).map (j,·))=live at mem;have fst:∀j b,(ow.getD j none).map (j,·)=some b->b.1=j:=λj b q=>by obtain⟨_,_,rfl⟩:=Option.map_eq_some_iff.mp q;rfl
 have pw:live.Pairwise λa b=>a.1<b.1:=by rw[<-hv,List.pairwise_filterMap];exact List.pairwise_lt_range.imp λ{a b} hab x hx y hy=>by rw[fst a x hx,fst b y hy];exact hab
 have nd:(live.map (·.2)).Nodup:=by refine List.pairwise_map.mpr ((List.pairwise_and_iff.mpr ⟨pw,List.pairwise_iff_forall_sublist.mpr λ{a b} q=>(⟨(mem a).mp (q.subset j8),(mem b).mp (q.subset (j6 _ j8))⟩:js[a.2]?=some a.1/\js[b.2]?=some b.1)⟩).imp λ{a b} ⟨h1,h2,h3⟩ z=>?_);rw[z,h3] at h2;have:=bAN h2;lia
 have pm:(live.map (·.2)).Perm (List.range es.size):=(bEP nd List.nodup_range).mpr λk=>by
  rw[List.mem_map,List.mem_range];constructor
  ·rintro⟨x,hx,rfl⟩;rw[<-jl];exact (List.getElem?_eq_some_iff.mp ((mem x).mp hx)).1
  ·intro hk;exact⟨(js[k]'(by lia),k),(mem _).mpr (d7 _),rfl⟩
 have es':((live.map (·.2)).toArray.filterMap (es[·]?)).toList=live.filterMap λx=>es[x.2]?:=by rw[Array.toList_filterMap];simp only[bDO,Function.comp_def]
 refine⟨(live.map (·.1)).toArray,(live.map (·.2)).toArray,?_,?_,λj hj=>?_,?_,?_⟩
 ·unfold SetTable.laid;rw[lc];show some _=_;rw[<-hv]
 ·rw[aBz];exact List.pairwise_map.mpr pw
 ·obtain⟨x,hx,rfl⟩:=List.mem_map.mp hj;exact L.le _ (v6 ((mem x).mp hx))
 ·rw[Array.toList_filterMap];refine (pm.filterMap _).trans ?_;have:=aJw es.toList;rw[t7] at this;simp only[bBT] at this;rw[this]
 ·rw[es'];have key:∀x∈live,∃e:Int × Value,es[x.2]?=some e/\Rch m (live.map (·.1)) e.1 x.1:=λx hx=>by
   have q:=(mem x).mp hx;have hk:x.2<es.size:=by rw[<-jl];exact (List.getElem?_eq_some_iff.mp q).1
   refine⟨es[x.2],m9 hk,?_⟩;obtain⟨b,q1,q2⟩:=aEf L.pr (i:=x.2) (a:=es[x.2].1) (by simp[hk]);rw[q] at q1;cases q1;exact q2.mono λy hy=>by obtain⟨i,hi,z⟩:=bBC hy;exact List.mem_map.mpr ⟨(y,i),(mem _).mpr (by rw[d7 hi,z]),rfl⟩
  refine (?_:∀l0,(∀x∈live,∃e:Int × Value,es[x.2]?=some e/\Rch m l0 e.1 x.1)->Paired (λj (e:Int × Value)=>Rch m l0 e.1 j) (live.map (·.1)) (live.filterMap λx=>es[x.2]?)) _ key;clear key es' pm nd pw hv mem;intro l0 key
  induction live with
  |nil=>exact .nil
  |cons x r ih=>obtain⟨e,q1,q2⟩:=key x j8;rw[bB7,q1];exact .cons q2 (ih λy hy=>key y (j6 _ hy))
end PySem
namespace PySem
open SetTable (Probe bits)
section
variable {prog:Program}{w:World}{κ:Type}[DecidableEq κ]{knd:KeyKind prog w κ}{A:Around}{E:bEY}{s:Shared}
structure TI (b:Bool)(t:SetTable)(es:Array (Int × Value)):Prop where
 led:b=false->t.led=true
 dm:t.dummies=#[]
 msk:Msk t.mask
 ris:Ris t.place
 pr:Paired (λj (e:Int × Value)=>Rch t.mask t.place.toList e.1 j) t.place.toList es.toList
 room:5 * es.size<3 * t.mask
theorem TI.len {b:Bool}{t:SetTable}{es:Array (Int × Value)}(x:TI b t es):t.place.size=es.size:=by have:=x.pr.length;simpa using this
theorem TI.fits {b:Bool}{t:SetTable}{es:Array (Int × Value)}(x:TI b t es):t.fits es.size=true:=by unfold SetTable.fits SetTable.fill;rw[x.len,x.dm];have:=x.room;simp;lia
theorem TI.tab {b:Bool}{t:SetTable}{es:Array (Int × Value)}(x:TI b t es):TabOk b t:=⟨x.led,x.dm,by rcases x.msk with e|e|e <;> lia,λ_=>x.ris⟩
theorem aDx {h0 h:Heap}{k:List κ}{a:Addr}(e:Ex h0 h)(x:IsTupleKey knd h0 k a):IsTupleKey knd h k a:=let ⟨o,i,n,ho,r⟩:=x;⟨o,i,n,e _ _ ho,r⟩
variable {T:List κ->Addr->Prop}
def ElT (knd:KeyKind prog w κ)(T:List κ->Addr->Prop)(h0:Heap)(k:List κ)(e:Int × Value):Prop:=∃a,e.2=.ref a/\(IsTupleKey knd h0 k a/\T k a)/\e.1=tupleKeyHash knd k
theorem ElT.inj {h0:Heap}{k k':List κ}{e:Int × Value}(x:ElT knd T h0 k e)(y:ElT knd T h0 k' e):k=k':=by obtain⟨a,e1,x1,_⟩:=x;obtain⟨b,e2,y1,_⟩:=y;rw[e1] at e2;cases e2;exact x1.1.inj y1.1
theorem cls_val (n:Nat){v:Value}(h:carriedByValue v=true):ofAClassStatement n v=pure false:=by
 cases v with
 |ref a=>simp[carriedByValue] at h
 |_=>first|rfl|simp[ofAClassStatement]|(unfold ofAClassStatement;rfl)
theorem aM3 {k:List κ}{a:Addr}{Q:Bool->Shared->Prop}(hk:IsTupleKey knd s.heap k a)(h:Q false s):wpAny (model prog w) A (ofAClassStatement 8 (.ref a)) Q E s:=by
 have hT:=hk.typeIs;obtain⟨o,items,n,ho,_,hd,hi⟩:=hk;unfold ofAClassStatement;refine c7 (bDW hT ?_);dsimp only;rw[if_pos (by rfl)];refine c7 (d9 ?_);simp only[Bool.not_true,bBB,if_false];refine c7 (bAS ho hd (c7 ?_));rw[<-Array.forIn_toList];refine bEB _ (λrest r s'=>r.1=none/\s'=s/\∀v∈rest,carriedByValue v=true) _ ?_ ?_ _ _ ⟨rfl,rfl,hi.byValue⟩
 ·rintro v rest r s' ⟨hr,rfl,hall⟩;rw[cls_val _ (hall v j8)];refine c7 (d9 ?_);simp only[bBB,if_false];exact d9 ⟨rfl,rfl,λu hu'=>hall u (j6 _ hu')⟩
 ·rintro⟨r1,r2⟩ s' ⟨hr,rfl,_⟩;simp only at hr;subst hr;exact d9 h
theorem aS3 {k:List κ}{a:Addr}(ka:IsTupleKey knd s.heap k a){Q:Bool->Shared->Prop}(h:Q false s){l:List Value}(hl:∀v∈l,∃b k',v=.ref b/\IsTupleKey knd s.heap k' b):wpAny (model prog w) A (searchCouldBeSeen (.ref a) l) Q E s:=by
 unfold searchCouldBeSeen;refine c7 (bEB _ (λrest r s'=>r.1=none/\s'=s/\∀v∈rest,∃b k',v=.ref b/\IsTupleKey knd s.heap k' b) _ ?_ ?_ _ _ ⟨rfl,rfl,hl⟩)
 ·rintro v rest r s' ⟨hr,rfl,hall⟩;have tl:∀v∈rest,∃b k',v=.ref b/\IsTupleKey knd s'.heap k' b:=λu hu'=>hall u (j6 _ hu');obtain⟨b,k',rfl,kb⟩:=hall v j8;dsimp only
  split
  ·exact d9 ⟨rfl,rfl,tl⟩
  ·refine c7 (wpAny_eqIsQuiet_tuple ka ?_);refine c7 (wpAny_eqIsQuiet_tuple kb ?_);refine c7 (aM3 ka ?_);exact c7 (aM3 kb (d9 ⟨rfl,rfl,tl⟩))
 ·rintro⟨r1,r2⟩ s' ⟨hr,rfl,_⟩;simp only at hr;subst hr;exact d9 h
theorem aV6 (n:Nat){v:Value}(h:carriedByValue v=true):∃b,hashByValue n v=pure b:=by
 cases v with
 |ref a=>simp[carriedByValue] at h
 |_=>first|exact⟨_,rfl⟩|exact⟨_,by unfold hashByValue;rfl⟩
theorem aUb {k:List κ}{a:Addr}{Q:Bool->Shared->Prop}(hk:IsTupleKey knd s.heap k a)(h:∀b,Q b s):wpAny (model prog w) A (hashByValue 8 (.ref a)) Q E s:=by
 have hT:=hk.typeIs;obtain⟨o,items,n,ho,_,hd,hi⟩:=hk;unfold hashByValue;refine c7 (wpAny_specialOf hT F.slot_tuple_hash.lookup ?_);dsimp only;refine c7 (bAS ho hd (c7 ?_));simp only[bBO];rw[<-Array.forIn_toList];refine bEB _ (λrest r s'=>s'=s/\∀v∈rest,carriedByValue v=true) _ ?_ ?_ _ _ ⟨rfl,hi.byValue⟩
 ·rintro v rest r s' ⟨rfl,hall⟩;obtain⟨b,e⟩:=aV6 7 (hall v j8);rw[e];refine c7 (d9 ?_);cases b with
  |true=>exact d9 ⟨rfl,λu hu'=>hall u (j6 _ hu')⟩
  |false=>exact d9 (d9 (h _))
 ·rintro⟨r1,r2⟩ s' ⟨rfl,_⟩;cases r1 with
  |none=>exact d9 (h _)
  |some r=>exact d9 (h _)
theorem aEg {xs:Array Nat}(hr:Ris xs){i j p:Nat}(a:xs[i]?=some p)(b:xs[j]?=some p):i=j:=by obtain⟨q1,q2⟩:=Array.getElem?_eq_some_iff.mp a;obtain⟨q3,q4⟩:=Array.getElem?_eq_some_iff.mp b;rw[<-below_at hr q1,<-below_at hr q3,q2,q4]
theorem aOf {D:Addr}{o:Obj}{es:Array (Int × Value)}{ep:Nat}{t:SetTable}(ho:s.heap.get? D=some o)(hdt:o.data=.set es ep t)(ti:TI (byT w) t es){k:List κ}{kl:List (List κ)}{a:Addr}{h0:Heap}(ext:Ex h0 s.heap)(hu:A.units<cLine)(ka:IsTupleKey knd h0 k a)(pr:Paired (ElT knd T h0) kl es.toList){Q:SetFound->Shared->Prop}
  (hin:k∈kl->Q (.there none) s) (hout:k∉kl->∀j,j∉t.place.toList->Rch t.mask t.place.toList (tupleKeyHash knd k) j->Q (.free j false) s) :
  wpAny (model prog w) A (setSearch D (.ref a) (tupleKeyHash knd k) true) Q E s:=by
 have hf:=ti.fits;have ll:t.place.toList.length<=t.mask:=by rw[t7,ti.len];have:=ti.room;lia
 obtain⟨N,n1,n2,_,n3⟩:=first ti.msk ll (tupleKeyHash knd k)
 have aux:∀(fuel n:Nat) (st:Option Probe),n<=N->N - n<fuel->st.getD (t.probeStart (tupleKeyHash knd k))=sq t.mask (hd t.mask (x0 t.mask (tupleKeyHash knd k))) n->(∀(n' i:Nat) (e:Int × Value),n'<n->t.place[i]?=some (pj t.mask (tupleKeyHash knd k) n')->es[i]?=some e->¬ ElT knd T h0 k e) ->
   wpAny (model prog w) A (setSearchFrom D (.ref a) (tupleKeyHash knd k) true fuel st) Q E s:=by
  intro fuel
  induction fuel with
  |zero=>intro n st _ z;lia
  |succ fuel ih=>
   intro n st hn hfu hst hno;unfold setSearchFrom;refine c7 (bBI ho hdt hf ?_);dsimp only;rw[if_neg (by unfold SetTable.gaveWay;rcases ti.msk with e|e|e <;> rw[e] <;> decide),hst];generalize hp:t.probe _ (tupleKeyHash knd k) (sq t.mask (hd t.mask (x0 t.mask (tupleKeyHash knd k))) n)=pm;have hp':SetTable.probe.go t (λi=>(es[i]?.map (·.1)).getD 0) (tupleKeyHash knd k) (10 * SetTable.turns t.mask) (sq t.mask (hd t.mask (x0 t.mask (tupleKeyHash knd k))) n)=pm:=hp;obtain⟨n',m1,m2,m3,m4⟩:=aEa (g:=λi=>(es[i]?.map (·.1)).getD 0) ti.dm ti.ris n2 n3 (10 * SetTable.turns t.mask) n hn (by unfold SetTable.turns;lia);have was:∀(n'' i:Nat) (e:Int × Value),n''<n'->t.place[i]?=some (pj t.mask (tupleKeyHash knd k) n'')->es[i]?=some e->¬ ElT knd T h0 k e:=λn'' i e q1 q2 q3 q4=>by
    by_cases z:n''<n
    ·exact hno n'' i e z q2 q3 q4
    ·refine m3 n'' i (by lia) q1 q2 ?_;rw[q3];obtain⟨_,_,_,e'⟩:=q4;exact e'
   rcases m4 with⟨rfl,m4⟩|⟨m5,i,m6,m7,m4⟩
   ·rw[m4] at hp';subst hp';dsimp only;refine d9 (hout (λz=>?_) _ n2 ⟨_,rfl,n3⟩);obtain⟨e,q1,q2⟩:=yS pr k z;obtain⟨i,hi,rfl⟩:=bBC q1;have hi1:i<es.size:=by simpa using hi
    have hi2:i<t.place.size:=by rw[ti.len];exact hi1
    obtain⟨b,q3,m,q4,q5⟩:=aEf ti.pr (i:=i) (a:=t.place[i]) (by simp[hi2]);rw[d7 hi] at q3;cases q3;obtain⟨_,_,_,q6⟩:=id q2;rw[q6] at q4 q5;refine was m i _ (Nat.lt_of_not_le λz=>?_) (by rw[q4,m9 hi2]) (by simp[hi1]) q2;rcases bEM z with z|z
    ·exact n2 (q5 _ z)
    ·rw[z,q4] at n2;exact n2 (by simp[bD1])
   ·rw[m4] at hp';subst hp';dsimp only;have hi2:i<t.place.size:=(Array.getElem?_eq_some_iff.mp m6).1;have hi1:i<es.size:=by rw[<-ti.len];exact hi2
    have he:es[i]?=some es[i]:=m9 hi1;obtain⟨k',hk',a',e1,kb,e2⟩:=mJ pr es[i] (by simp[bD1]);have sl:t.slot (pj t.mask (tupleKeyHash knd k) n')=.live i:=by
     rcases aB0 ti.dm ti.ris (pj t.mask (tupleKeyHash knd k) n') with⟨q,_⟩|⟨i',q,q'⟩
     ·exact absurd (n3 n' m5) q
     ·rw[q',aEg ti.ris q m6]
    have led:∀{R:Bool->Shared->Prop},R false s->wpAny (model prog w) A (searchCouldBeSeen (.ref a) ((es.filter (·.1 == tupleKeyHash knd k)).toList.map (·.2))) R E s:=λhR=>aS3 (aDx ext ka) hR λv hv=>by obtain⟨e,q1,rfl⟩:=List.mem_map.mp hv;rw[Array.toList_filter] at q1;obtain⟨k2,_,a2,q2,q3,_⟩:=mJ pr e (List.mem_filter.mp q1).1;exact⟨a2,k2,q2,aDx ext q3.1⟩
    generalize es[i]=ee at *;obtain⟨hh,y⟩:=ee;dsimp only at e1;subst e1;cases hl:t.led;all_goals
     first
      |(rw[if_pos (by rfl)];refine c7 (led ?_);rw[if_neg (by decide)])
      |rw[if_neg (by decide)]
     rw[he];dsimp only;refine c7 (bAQ (wpAny_eqBool_tuple hu (aDx ext kb.1) (aDx ext ka) ?_));refine c7 (bBI ho hdt hf ?_);by_cases c:k'=k
     ·rw[t6 c,if_pos (by rfl)];exact d9 (hin (c ▸ hk'))
     ·rw[v8 c,if_neg (by decide)];dsimp only;rw[show t.sameMemory t.moves t.mask=some true by unfold SetTable.sameMemory;rw[if_pos (by simp)]];dsimp only;rw[if_pos rfl,sl];dsimp only;rw[he];dsimp only;refine c7 (wpAny_isSame_ref_self ?_);refine c7 (d9 ?_);rw[if_pos rfl];dsimp only;rw[if_neg (by decide)];refine ih (n'+1) (some _) m5 (by lia) rfl λn'' i' e q1 q2 q3 q4=>?_;by_cases z:n''<n'
      ·exact was n'' i' e z q2 q3 q4
      ·obtain rfl:n''=n':=by lia
       rw[aEg ti.ris q2 m6,he] at q3;cases q3;exact c ((ElT.inj ⟨a',rfl,kb,e2⟩ q4))
 exact aux _ 0 none (bAE _) (by rcases ti.msk with e|e|e <;> rw[e] at n1 <;> lia) rfl λn' i e z=>by lia
theorem aAp {α β:Type}{R:α->β->Prop}{a:α}{b:β}(r:R a b):∀{as:List α} {bs:List β},Paired R as bs->∀p,Paired R (as.take p++a::as.drop p) (bs.take p++b::bs.drop p)
 |_,_,.nil,p=>by rw[bDH,bDH,List.drop_nil,List.drop_nil];exact .cons r .nil
 |_,_,.cons q t,0=>.cons r (.cons q t)
 |_,_,.cons q t,p+1=>.cons q (aAp r t p)
theorem aHf {α:Type}(l:List α)(x:α)(p:Nat):(l.take p++x::l.drop p).Perm (l++[x]):=
 List.perm_middle.trans (by rw[bD7];exact (List.perm_append_singleton x l).symm)
def SetT (knd:KeyKind prog w κ)(T:List κ->Addr->Prop)(h0 h:Heap)(D:Addr)(kl:List (List κ)):Prop:=∃o es ep t,h.get? D=some o/\o.ExactSet/\o.data=.set es ep t/\TI (byT w) t es/\Paired (ElT knd T h0) kl es.toList
theorem aSw {D:Addr}{o:Obj}{es:Array (Int × Value)}{ep n m:Nat}{t:SetTable}{Q:Unit->Shared->Prop}(ho:s.heap.get? D=some o)(hd:o.data=.set es ep t)(hf:t.fits es.size=true)(hm:Msk m)(hw:SetTable.sizeAbove n=m+1)(hl:5 * es.size<3 * m)(led:byT w=false->t.led=true)
  (h:∀es' t',es'.toList.Perm es.toList->TI (byT w) t' es'->Q () { s with heap:=s.heap.update D (Obj.putSet es' t') }):wpAny (model prog w) A (setRelay D n) Q E s:=by
 unfold setRelay;refine c7 (bBI ho hd hf ?_);dsimp only;have hs:es.size<=m:=by lia
 obtain⟨pl,ord,e1,e2,_,e3,e4⟩:=aV8 hm es hs t.finger (t.movedTo m) t.led t.plain;have sz:(ord.filterMap (es[·]?)).size=es.size:=by rw[<-t7,e3.length_eq,t7]
 rw[if_neg (by rw[hw,sizeLine_eq];rcases hm with e|e|e <;> lia)];refine c7 (bDT (a:=(ord.filterMap (es[·]?),⟨m,pl,#[],t.finger,t.led,t.movedTo m,t.plain⟩)) ?_ (bEV ho hd (h _ _ e3 ⟨led,rfl,hm,e2,e4,by rw[sz];exact hl⟩) (by rw[sz,sizeLine_eq];rcases hm with e|e|e <;> lia)));rw[show t.relaid (es.map (·.1)) n=some (⟨m,pl,#[],t.finger,t.led,t.movedTo m,t.plain⟩,ord) by unfold SetTable.relaid;rw[hw];exact e1];show (if ((ord.filterMap (es[·]?)).size != es.size)=true then _ else pure _)=_;exact if_neg (by simp[sz])
theorem aSz {D a:Addr}{kl:List (List κ)}{k:List κ}{h0:Heap}{Q:Bool->Shared->Prop}(hu:A.units<cLine)(ext:Ex h0 s.heap)(ka:IsTupleKey knd h0 k a)(hT:T k a)(hS:SetT knd T h0 s.heap D kl)(hroom:kl.length<76)
  (h:∀h' tk kl' b,Heap.SameBut D s.heap h'->SetT knd T h0 h' D kl'->kl'.Perm (if k∈kl then kl else kl++[k])->Q b { s with heap:=h',toks:=tk }):wpAny (model prog w) A (setAdd D (.ref a)) Q E s:=by
 obtain⟨o,es,ep,t,ho,hex,hd,ti,pr⟩:=id hS;have hn:kl.length=es.size:=by rw[Paired.length pr,t7]
 unfold setAdd;refine bAQ (c7 (wpAny_pyHash_tuple hu (aDx ext ka) ?_));generalize s.toks+_=tk;unfold setAddHashed setAddHashedIn;refine bAQ (c7 (bBI ho hd ti.fits ?_));dsimp only;rw[if_neg (by unfold byScan;simp[Value.scannable])];refine c7 (aOf (s:={ s with toks:=tk }) ho hd ti ext hu ka pr (λz=>?_) λz j hj hr=>?_)
 ·exact d9 (h s.heap tk kl false (Heap.SameBut.refl D s.heap) hS (by rw[if_pos z]))
 ·dsimp only;have bl:=(oF ti.ris j).1;have lp:(SetTable.insertAt t.place (SetTable.below t.place j) j).toList=_:=nC _ _ _ bl;have le:(SetTable.insertAt es (SetTable.below t.place j) (tupleKeyHash knd k,Value.ref a)).toList=_:=nC es _ _ (by rw[<-ti.len];exact bl);have nj:t.place[SetTable.below t.place j]?≠some j:=λq=>hj (by simpa using bC8 q);have mem:∀x,x∈t.place.toList->x∈(SetTable.insertAt t.place (SetTable.below t.place j) j).toList:=λx hx=>by rw[lp,(aHf _ _ _).mem_iff];exact bCG _ hx
  have prj:Paired (λi (e:Int × Value)=>Rch t.mask (SetTable.insertAt t.place (SetTable.below t.place j) j).toList e.1 i) (SetTable.insertAt t.place (SetTable.below t.place j) j).toList (SetTable.insertAt es (SetTable.below t.place j) (tupleKeyHash knd k,Value.ref a)).toList:=by
   rw[le];generalize (SetTable.insertAt t.place (SetTable.below t.place j) j).toList=L at lp mem ⊢;refine (?_:∀L',L'=L->Paired (λi (e:Int × Value)=>Rch t.mask L e.1 i) L' _) L rfl;rintro L' rfl
   conv=>arg 2;rw[lp]
   exact aAp (R:=λi (e:Int × Value)=>Rch t.mask L' e.1 i) (hr.mono mem) (ti.pr.mono λ_ _ q=>q.mono mem) _
  obtain⟨kl',pr',pm⟩:=mV (le ▸ aHf es.toList _ _:(SetTable.insertAt es (SetTable.below t.place j) (tupleKeyHash knd k,Value.ref a)).toList.Perm _) (rF pr (show ElT knd T h0 k (tupleKeyHash knd k,Value.ref a) from ⟨a,rfl,⟨ka,hT⟩,rfl⟩));generalize hes:SetTable.insertAt es (SetTable.below t.place j) (tupleKeyHash knd k,Value.ref a)=es1 at le prj pr';have sz:es1.size=es.size+1:=by rw[<-t7,<-Paired.length pr',pm.length_eq,bAG,hn];rfl
  have key:∀pt:SetTable × Nat,pt.1.mask=t.mask->pt.1.place=SetTable.insertAt t.place (SetTable.below t.place j) j->pt.1.dummies=#[]->pt.1.led=t.led->pt.2=SetTable.below t.place j->wpAny (model prog w) A (do
    let byValue <-if pt.1.plain then hashByValue 8 (Value.ref a) else pure true
    let t:=if byValue then pt.1 else { pt.1 with plain:=false }
    storeSet D (SetTable.insertAt es pt.2 (tupleKeyHash knd k,Value.ref a)) t
    if !false && t.tooFull then setRelay D (SetTable.grown (es.size+1))
    return true) Q E { s with toks:=tk }:=by
   intro ⟨t1,p⟩ f1 f2 f3 f4 f5;dsimp only at f1 f2 f3 f4 f5 ⊢;subst f5;rw[hes];have tail:∀t2:SetTable,t2.mask=t.mask->t2.place=t1.place->t2.dummies=#[]->t2.led=t.led->wpAny (model prog w) A (do
     storeSet D es1 t2
     if !false && t2.tooFull then setRelay D (SetTable.grown (es.size+1))
     return true) Q E { s with toks:=tk }:=by
    intro t2 g1 g2 g3 g4;have tf:t2.tooFull=decide (5 * es1.size ≥ 3 * t.mask):=by
     unfold SetTable.tooFull SetTable.fill;rw[g1,g2,g3,f2,<-t7,prj.length,t7]
     congr 1
     simp only[j7,bCK,Nat.add_zero];rw[Nat.mul_comm,Nat.mul_comm t.mask]
    have rm:=ti.room;have ft:t2.fits es1.size=true:=by unfold SetTable.fits SetTable.fill;rw[g1,g2,g3,f2,<-t7,prj.length,t7];simp;lia
    have ps:=putSet_of es1 t2 hd;have hg:=bBF (Obj.putSet es1 t2) ho (by rw[ps];rfl);rw[ps] at hg;have pmm:kl'.Perm (if k∈kl then kl else kl++[k]):=by rw[if_neg z];exact pm
    refine c7 (bEV ho hd ?_ (by rw[sz,sizeLine_eq];lia));rw[tf];by_cases c:5 * es1.size ≥ 3 * t.mask
    ·rw[t6 c,if_pos (by rfl)];obtain⟨m,m1,m2,m3⟩:∃m,Msk m/\SetTable.sizeAbove (SetTable.grown (es.size+1))=m+1/\5 * es1.size<3 * m:=by
      rcases ti.msk with e|e|e <;> rw[e] at c rm
      ·have:es.size=4:=by lia
       exact⟨31,.inr (.inl rfl),by rw[this];decide +kernel,by lia⟩
      ·have:es.size=18:=by lia
       exact⟨127,.inr (.inr rfl),by rw[this];decide +kernel,by lia⟩
      ·lia
     refine c7 (aSw (s:={ s with heap:=s.heap.update D (Obj.putSet es1 t2),toks:=tk }) hg rfl ft m1 m2 m3 (λq=>by rw[g4];exact ti.led q) λes' t' q1 q2=>d9 ?_);obtain⟨kl2,pr2,pm2⟩:=mV q1 pr';have hg2:=bBF (Obj.putSet es' t') hg rfl;exact h _ tk kl2 true ((bAZ s.heap D (Obj.putSet es1 t2)).trans (bAZ _ D (Obj.putSet es' t'))) ⟨_,es',_,t',hg2,hex,rfl,q2,pr2⟩ (pm2.trans pmm)
    ·rw[v8 c,if_neg (by decide)];exact d9 (h _ tk kl' true (bAZ s.heap D (Obj.putSet es1 t2)) ⟨_,es1,_,t2,hg,hex,rfl,⟨λq=>by rw[g4];exact ti.led q,g3,by rw[g1];exact ti.msk,by rw[g2,f2];exact uN ti.ris nj,by rw[g1,g2,f2];exact prj,by rw[g1];lia⟩,pr'⟩ pmm)
   split
   ·refine c7 (aUb (s:={ s with toks:=tk }) (aDx ext ka) λb=>?_);cases b with
    |true=>exact tail t1 f1 rfl f3 f4
    |false=>exact tail { t1 with plain:=false } f1 rfl f3 f4
   ·exact c7 (d9 (tail t1 f1 rfl f3 f4))
  refine c7 (bBI ho hd ti.fits ?_);exact key (t.put j) rfl rfl (by show (if SetTable.has t.dummies j=true then _ else t.dummies)=#[];rw[ti.dm,show SetTable.has #[] j=false by unfold SetTable.has;simp];rfl) rfl rfl
end
end PySem
namespace L2
open PySem PySem.Spec PyProof.Rows
end L2
namespace PySem
open PySem.Spec
section
variable {prog:Program}{w:World}{A:Around}{R:Result->Shared->Prop}{s:Shared}{l:Addr}{items:Array Value}{n:Nat}{dd:Option Addr}{sl:Array (Option Value)}{x:Value}{j:Nat}
end
end PySem
namespace L2
open PySem PySem.Spec PyProof.Rows
def uG (r:List V):Prop:=∀x∈r,(∃i,x=.int i)\/∃z,x=.str z
theorem aNp {x y:V}(hx:(∃i,x=.int i)\/∃z,x=.str z)(hy:(∃i,y=.int i)\/∃z,y=.str z):eqV x y=decide (x=y):=by
 rcases hx with⟨i,rfl⟩|⟨z,rfl⟩ <;> rcases hy with⟨j,rfl⟩|⟨w,rfl⟩
 ·by_cases e:i=j
  ·subst e;rw[t6 rfl];exact beq_self_eq_true _
  ·rw[v8 λq=>e (V.int.inj q)];exact beq_eq_false_iff_ne.mpr e
 ·rw[v8 λq=>by cases q];rfl
 ·rw[v8 λq=>by cases q];rfl
 ·by_cases e:z=w
  ·subst e;rw[t6 rfl];exact beq_self_eq_true _
  ·rw[v8 λq=>e (V.str.inj q)];exact beq_eq_false_iff_ne.mpr e
theorem aVg:∀{r q:List V},uG r->uG q->((List.range (min r.length q.length)).all (λj=>eqV (r.getD j .non) (q.getD j .non)) && r.length == q.length)=decide (r=q):=by
 intro r q hr hq;by_cases e:r=q
 ·subst e;rw[t6 rfl,beq_self_eq_true,Bool.and_true,bBX];intro j hj;rw[List.mem_range,Nat.min_self] at hj;rw[j4,d7 hj,bBO,aNp (hr _ (bAT hj)) (hr _ (bAT hj)),t6 rfl]
 ·rw[v8 e];by_cases l:r.length=q.length
  ·cases h:(List.range (min r.length q.length)).all (λj=>eqV (r.getD j .non) (q.getD j .non)) with
   |false=>rfl
   |true=>refine absurd (List.ext_getElem l λj h1 h2=>?_) e;have:=List.all_eq_true.mp h j (List.mem_range.mpr (by lia));rw[j4,d7 h1,bBO,j4,d7 h2,bBO,aNp (hr _ (bAT h1)) (hq _ (bAT h2))] at this;exact of_decide_eq_true this
  ·rw[show (r.length == q.length)=false from beq_eq_false_iff_ne.mpr l,Bool.and_false]
theorem aIb:∀{r q:List V} {its:List Value},Vals r its->Vals q its->uG r->uG q->r=q
 |_,_,_,.nil,.nil,_,_=>rfl
 |x::r,y::q,_,.cons a t,.cons b u,hr,hq=>by
  have e:x=y:=by rcases hr x j8 with⟨i,rfl⟩|⟨z,rfl⟩ <;> rcases hq y j8 with⟨j,rfl⟩|⟨w,rfl⟩ <;> obtain⟨_,a⟩:=a <;> obtain⟨_,b⟩:=b <;> rw[a] at b <;> cases b <;> rfl
  rw[e,aIb t u (λz hz=>hr z (j6 _ hz)) λz hz=>hq z (j6 _ hz)]
section
variable {X:Cx}{bE1:bEZ}{σ:L2.St}{H:Hp}{s:Shared}
theorem aBx (I:Inv X bE1 σ H s){a:Addr}{r q:List V}(ha:SqT X.K H a r)(hb:SqT X.K H a q)(fr:uG r)(fq:uG q):r=q:=by
 obtain⟨its,r1,pl,_⟩:=I.tuple ha;obtain⟨jts,r2,pm,_⟩:=I.tuple hb;have ej:its=jts:=by obtain⟨o,ho,c1,n1,d1⟩:=pl;obtain⟨o',ho',c2,n2,d2⟩:=pm;rw[ho] at ho';cases ho';rw[d1] at d2;have:=Data.seq.inj d2;simpa using congrArg Array.toList this.1
 subst ej;exact aIb r1 r2 fr fq
theorem aPf (I:Inv X bE1 σ H s){A:Around}(hA:A.units+2<cLine){x y:V}{v u:Value}{r q:List V}(hx:cT X.K H x r)(hy:cT X.K H y q)(fr:uG r)(fq:uG q)(rv:RelV x v)(ru:RelV y u):SeqAt.EqAt A s v u (decide (r=q)):=by
 obtain⟨a,rfl,ha⟩:=hx;obtain⟨b,rfl,hb⟩:=hy;cases rv;cases ru;obtain⟨its,r1,pl,_⟩:=I.tuple ha;obtain⟨jts,r2,pm,_⟩:=I.tuple hb;by_cases e:a=b
 ·subst e;rw[aBx I ha hb fr fq,t6 rfl];exact bDK _
 have l1:=r1.length;have l2:=r2.length;refine SeqAt.EqAt.of_refs e ?_;have z:=SeqAt.RcAt.tuples (A:=A) (e:=λj=>eqV (r.getD j .non) (q.getD j .non)) (show s.heap.IsTuple a its.toArray from pl) (show s.heap.IsTuple b jts.toArray from pm) (by lia) λj h1 h2=>by
  rw[j7] at h1 h2;have g1:r[j]?=some r[j]:=d7 (by lia);have g2:q[j]?=some q[j]:=d7 (by lia);obtain⟨u1,hu1,w1⟩:=r1.get g1;obtain⟨u2,hu2,w2⟩:=r2.get g2;have k1:its.toArray[j]=u1:=by rw[bCH];exact (List.getElem?_eq_some_iff.mp hu1).2
  have k2:jts.toArray[j]=u2:=by rw[bCH];exact (List.getElem?_eq_some_iff.mp hu2).2
  rw[k1,k2,j4,g1,j4,g2];have f1:=fr r[j] (bAT _);have f2:=fq q[j] (bAT _);refine aRv w1 w2 ?_ ?_
  ·rcases f1 with⟨i,e⟩|⟨i,e⟩ <;> rw[show (Option.some r[j]).getD V.non=r[j] from rfl,e] <;> rfl
  ·rcases f2 with⟨i,e⟩|⟨i,e⟩ <;> rw[show (Option.some q[j]).getD V.non=q[j] from rfl,e] <;> rfl
 rw[j7,j7,<-l1,<-l2,aVg fr fq] at z;exact z
theorem aWh (I:Inv X bE1 σ H s){A:Around}(hA:A.units+2<cLine){us:List V}{its:List Value}{rs:List (List V)}(rv:Vals us its)(h:Al2 (cT X.K H) us rs)(fl:∀r∈rs,uG r){y:V}{u:Value}{q:List V}(hy:cT X.K H y q)(fq:uG q)(ru:RelV y u):∃e:Value->Bool,(∀v∈its,SeqAt.EqAt A s v u (e v))/\its.any e=decide (q∈rs):=by
 have at_:∀v∈its,∃(i:Nat) (x:V) (r:List V),us[i]?=some x/\rs[i]?=some r/\cT X.K H x r/\RelV x v:=λv hv=>by
  obtain⟨i,hi⟩:=List.mem_iff_getElem?.mp hv;have hl:i<us.length:=by rw[rv.length];exact (List.getElem?_eq_some_iff.mp hi).1
  obtain⟨r,hr,rr⟩:=h.at (d7 hl);obtain⟨v',hv',rel⟩:=rv.get (d7 hl);rw[hi] at hv';cases hv';exact⟨i,_,r,d7 hl,hr,rr,rel⟩
 refine⟨λv=>@decide (∃x,cT X.K H x q/\RelV x v) (Classical.propDecidable _),λv hv=>?_,?_⟩
 ·obtain⟨i,x,r,_,er,hx,rx⟩:=at_ v hv;have fr:=fl r (v6 er);have e:@decide (∃x,cT X.K H x q/\RelV x v) (Classical.propDecidable _)=decide (r=q):=by
   by_cases z:r=q
   ·subst z;rw[t6 rfl];exact @decide_eq_true _ (Classical.propDecidable _) ⟨x,hx,rx⟩
   ·rw[v8 z];refine @decide_eq_false _ (Classical.propDecidable _) λ⟨x',hx',rx'⟩=>z ?_;obtain⟨a,rfl,ha⟩:=hx;obtain⟨b,rfl,hb⟩:=hx';have e1:v=.ref a:=rx;have e2:v=.ref b:=rx';rw[e1] at e2;cases e2;exact aBx I ha hb fr fq
  show SeqAt.EqAt A s v u (@decide (∃x,cT X.K H x q/\RelV x v) (Classical.propDecidable _));rw[e];exact aPf I hA hx hy fr fq rx ru
 ·by_cases z:q∈rs
  ·rw[t6 z];obtain⟨i,hi⟩:=List.mem_iff_getElem?.mp z;have hl:i<us.length:=by rw[h.len];exact (List.getElem?_eq_some_iff.mp hi).1
   obtain⟨r,hr,rr⟩:=h.at (d7 hl);rw[hi] at hr;cases hr;obtain⟨v,hv,rel⟩:=rv.get (d7 hl);exact List.any_eq_true.mpr ⟨v,v6 hv,@decide_eq_true _ (Classical.propDecidable _) ⟨_,rr,rel⟩⟩
  ·rw[v8 z];refine List.any_eq_false.mpr λv hv hd=>z ?_;obtain⟨x',hx',rx'⟩:=@of_decide_eq_true _ (Classical.propDecidable _) hd;obtain⟨i,x,r,_,er,hx,rx⟩:=at_ v hv;obtain⟨a,rfl,ha⟩:=hx;obtain⟨b,rfl,hb⟩:=hx';have e1:v=.ref a:=rx;have e2:v=.ref b:=rx';rw[e1] at e2;cases e2;rw[<-aBx I ha hb (fl r (v6 er)) fq];exact v6 er
end
end L2
namespace PySem
section
variable {prog:Program}{w:World}{κ:Type}[DecidableEq κ]{knd:KeyKind prog w κ}{T:List κ->Addr->Prop}
theorem aXp {A:Around}(hu:A.units+10<cLine)(h0:Heap)(D:Addr):Kset prog w (List κ) A h0 D (λh kl=>SetT knd T h0 h D kl) (λk v=>∃a,v=.ref a/\IsTupleKey knd h0 k a/\T k a) 75:=
 ⟨λ⟨o,es,ep,t,ho,r⟩ e=>⟨o,es,ep,t,e o ho,r⟩,λhA ex ⟨a,e,ka,kt⟩ hS hr q=>by subst e;exact aSz (by lia) ex ka kt hS (by lia) λh' tk kl' b sb x pm=>q h' tk kl' b sb x (by split <;> rename_i c <;> simp only[c,if_true,if_false] at pm <;> exact pm),
 λhg=>⟨_,#[],0,_,hg,⟨rfl,rfl,rfl⟩,rfl,⟨λe=>by show (!byT w)=true;rw[e];rfl,rfl,.inl rfl,λa b ha=>absurd ha (by show ¬ (a<0);lia),.nil,by show 5 * 0<3 * 7;decide⟩,.nil⟩⟩
end
end PySem
namespace L2
open PySem PySem.Spec PyProof.Rows PySem.Calls
def aR1 (w:World)(D:Addr)(as:List Addr):HO:=.ext λh=>∃o es ep t,h.get? D=some o/\o.ExactSet/\o.data=.set es ep t/\t.fits es.size=true/\TabOk (byT w) t/\es.toList.map (·.2)=as.map Value.ref
section
variable {X:Cx}{bE1:bEZ}{σ:L2.St}{H:Hp}{s:Shared}
theorem aRh {r:List V}(h:uG r):∃k:List Key,r=k.map kV:=by
 induction r with
 |nil=>exact⟨[],rfl⟩
 |cons x r ih=>
  obtain⟨k,rfl⟩:=ih λy hy=>h y (j6 _ hy);rcases h x j8 with⟨i,rfl⟩|⟨z,rfl⟩
  ·exact⟨.inl i::k,rfl⟩
  ·exact⟨.inr z::k,rfl⟩
theorem aXj {a b:List Key}(h:a.map kV=b.map kV):a=b:=by
 induction a generalizing b with
 |nil=>cases b with
  |nil=>rfl
  |cons=>cases h
 |cons x a ih=>cases b with
  |nil=>cases h
  |cons y b=>injection h with h1 h2;rw[aXq h1,ih h2]
theorem aVo (I:Inv X bE1 σ H s){a:Addr}{k:List Key}(h:SqT X.K H a (k.map kV)):IsTupleKey (bL X.prog X.w) s.heap k a:=by
 obtain⟨its,rv,⟨o,ho,hc,n,hd⟩,z⟩:=I.tuple h;clear z;refine⟨o,_,n,ho,hc,hd,?_⟩;clear h ho hc hd;show ItemsAre _ k its
 induction k generalizing its with
 |nil=>cases rv;exact .nil
 |cons x k ih=>
  cases rv with
  |cons p q=>exact .cons (aNy (X:=X) p).1 (ih _ q)
def bAs (w:World)(K:bEX):List V->Hp->VK->Prop:=λxs H Q=>∃(p:Addr) (us:List V) (rs:List (List V)),xs=[.ref p]/\SqL K H p us/\Al2 (cT K H) us rs/\(∀r∈rs,uG r)/\us.length<=75/\∀D H' as qs,H D=none->Same H H'->H' D=some (aR1 w D as)->Al2 (cT K H) (as.map .ref) qs->Ded qs rs->Q (.ref D) H'
theorem aD2 (hc:X.calm=true)(hU:X.A.units+64<cLine):cI X (.type "set") (bAs X.w X.K):=by
 intro bE1 s σ H xs us0 Q I r h;obtain⟨p,us,rs,rfl,hq,hr,fl,hl,q⟩:=h;obtain⟨u,rfl,rx⟩:=r.one;cases rx;obtain⟨its,rv,pl,hz⟩:=I.list hq;have hlen:=rv.length;have hlr:=hr.len;obtain⟨ks,rfl⟩:∃ks:List (List Key),rs=ks.map (·.map kV):=by
  clear hr hlr q
  induction rs with
  |nil=>exact⟨[],rfl⟩
  |cons r rs ih=>obtain⟨ks,rfl⟩:=ih λy hy=>fl y (j6 _ hy);obtain⟨k,rfl⟩:=aRh (fl r j8);exact⟨k::ks,rfl⟩
 rw[j9] at hlr;refine aDv (ks:=ks) (I.ok.hd hc) (aXp (knd:=bL X.prog X.w) (T:=λk a=>cT X.K H (.ref a) (k.map kV)) (by lia) s.heap s.heap.objs.size) pl.isList (by rw[j7];lia) (λi v hv=>?_) (by rw[j7,<-hlen];exact hl) λh' tk kl x dd kp=>?_
 ·have hv':its[i]?=some v:=by simpa using hv
  have hi:i<ks.length:=by have:=(List.getElem?_eq_some_iff.mp hv').1;lia
  have hi2:i<us.length:=by lia
  obtain⟨u,hu,ru⟩:=rv.get (d7 hi2);rw[hv'] at hu;cases hu;have hrow:=hr.get (d7 hi2) (show (ks.map (·.map kV))[i]?=some (ks[i].map kV) by rw[v9,d7 hi];rfl);obtain⟨a,ea,ha⟩:=id hrow;rw[ea] at ru hrow;cases ru;exact⟨ks[i],d7 hi,a,rfl,aVo I ha,hrow⟩
 ·obtain⟨o,es,ep,t,ho,hex,hd,ti,pr⟩:=x;obtain⟨as,ea,hra⟩:∃as:List Addr,es.toList.map (·.2)=as.map Value.ref/\Al2 (cT X.K H) (as.map .ref) (kl.map (·.map kV)):=by
   clear dd q ti hd;generalize es.toList=l at pr
   induction pr with
   |nil=>exact⟨[],rfl,.nil⟩
   |cons r _ ih=>obtain⟨as,h1,h2⟩:=ih;obtain⟨a,e1,⟨_,ht⟩,_⟩:=r;exact⟨a::as,by rw[bAV,bAV,e1,h1],.cons ht h2⟩
  have hf:H s.heap.objs.size=none:=I.hok.fresh (j0 _);refine⟨.ref s.heap.objs.size,_,I.laid (t':=tk) (o:=aR1 X.w s.heap.objs.size as) (λb o eo=>kp b o (m8 eo) eo) (j0 _) ⟨⟨o,es,ep,t,ho,hex,hd,ti.fits,ti.tab,ea⟩,⟨o,ho⟩,λh1 h2 ⟨o,es,ep,t,y,z⟩ k=>⟨o,es,ep,t,k o y,z⟩⟩,rfl,q _ _ as _ hf (aW hf _) aH hra ⟨?_,λk=>?_,?_⟩⟩
  ·exact List.pairwise_map.mpr (dd.1.imp λh e=>h (aXj e))
  ·rw[List.mem_map,List.mem_map];exact⟨λ⟨x,h1,h2⟩=>⟨x,(dd.2.1 x).mp h1,h2⟩,λ⟨x,h1,h2⟩=>⟨x,(dd.2.1 x).mpr h1,h2⟩⟩
  ·rw[j9,j9];exact dd.2.2
def aPb (w:World)(K:bEX):List V->Hp->VK->Prop:=λxs H Q=>∃(D:Addr) (as:List Addr) (rs:List (List V)) (ks:List Bool),xs=[.ref D]/\H D=some (aR1 w D as)/\Al2 (cT K H) (as.map .ref) rs/\as.length<64/\ks≠[]/\(∀r∈rs,KdR ks r) /\
 ∀(B:Addr) (H':Hp) us',H B=none->Same H H'->H' B=some (.lst us')->Al2 (cT K H) us' (srt rs)->Q (.ref B) H'
theorem aRe {α β:Type}{R:α->β->Prop}{as' as:List α}(p:as'.Perm as):∀{bs:List β},Al2 R as bs->∃bs',Al2 R as' bs'/\bs'.Perm bs:=by
 induction p with
 |nil=>intro bs h;exact⟨bs,h,.refl _⟩
 |cons x _ ih=>
  intro bs h;cases h with
  |cons r t=>obtain⟨bs',h1,h2⟩:=ih t;exact⟨_,.cons r h1,h2.cons _⟩
 |swap x y l=>
  intro bs h;cases h with
  |cons r t=>
   cases t with
   |cons r2 t2=>exact⟨_,.cons r2 (.cons r t2),.swap ..⟩
 |trans _ _ ih1 ih2=>intro bs h;obtain⟨a1,h1,h2⟩:=ih2 h;obtain⟨a2,h3,h4⟩:=ih1 h1;exact⟨a2,h3,h4.trans h2⟩
theorem tD (hc:X.calm=true):cI X (.builtin "sorted") (aPb X.w X.K):=by
 intro bE1 s σ H xs us0 Q I r h;obtain⟨D,as,rs0,ks,rfl,hD,hr0,h64,hne,hk0,q⟩:=h;obtain⟨u,rfl,rx⟩:=r.one;cases rx;obtain⟨o,es,ep,t,ho,hex,hd,hf,tab,ea⟩:=(I.hok D _ hD).1;have hl:es.size=as.length:=by have:=congrArg List.length ea;simpa using this
 refine call_function_entry kind_sorted plain_sorted entry_sorted (args_sorted1 _) ?_;unfold Builtin.«sorted»;refine c7 (m:=checkCount "sorted" 1 1 _) (d9 (c7 (vX (A:=X.A.in1) (I.ok.hd hc) ⟨o,ho,hex,hd,hf⟩ tab (by lia) λh1 tk dr order hk hp=>?_)));obtain⟨us,e1,pu⟩:∃us:List Addr,order.map (·.2)=us.map Value.ref/\us.Perm as:=by
  have p2:(order.map (·.2)).Perm (as.map Value.ref):=ea ▸ hp.map _;have inv:∀v∈order.map (·.2),∃a,v=Value.ref a:=λv hv=>by obtain⟨a,_,e⟩:=List.mem_map.mp (p2.mem_iff.mp hv);exact⟨a,e.symm⟩
  generalize order.map (·.2)=l at p2 inv;have un:∃us:List Addr,l=us.map Value.ref:=by
   clear p2
   induction l with
   |nil=>exact⟨[],rfl⟩
   |cons v l ih=>obtain⟨us,rfl⟩:=ih λv hv=>inv v (j6 _ hv);obtain⟨a,rfl⟩:=inv v j8;exact⟨a::us,rfl⟩
  obtain⟨us,rfl⟩:=un;refine⟨us,rfl,?_⟩;have:=p2.filterMap λv=>match v with|Value.ref a=>some a|_=>none
  simpa [bDO,Function.comp_def] using this
 rw[e1];obtain⟨rs,hr,pr⟩:=aRe (pu.map V.ref) hr0;have hk':∀r∈rs,KdR ks r:=λr hr=>hk0 r (pr.mem_iff.mp hr);have ul:=pu.length_eq;have rv:Vals (us.map .ref) (us.map Value.ref):=by
  clear hr rs pr hk' pu ul e1
  induction us with
  |nil=>exact .nil
  |cons a us ih=>exact .cons rfl ih
 have rl:rs.length=us.length:=by have:=hr.len;rw[j9] at this;exact this.symm
 have I2:Inv X bE1 σ H { s with heap:=h1,toks:=tk,drawn:=dr }:=(I.kept (t':=tk) hk).drew dr;have e3:=aBy hk' pr;refine c7 (wpAny_newList ?_ (by rw[sizeLine_eq,j9];lia));have hoL:(h1.push (seqObj "list" (us.map Value.ref).toArray 0)).get? h1.objs.size=some (seqObj "list" (us.map Value.ref).toArray 0):=j5 _ rfl;refine c7 (bAQ (bAD slot_list_sort ⟨_,hoL,rfl⟩ entry_list_sort (PySem.W.pM (f:=λi j=>rlt (rs.getD i []) (rs.getD j [])) (s:={ s with heap:=h1.push (seqObj "list" (us.map Value.ref).toArray 0),toks:=tk,drawn:=dr }) hoL (by rw[j9];lia) (λh2 h' kp=>aHg I2 rv hr hne hk' _ h2 h' λb o e=>kp b o (v4 (m8 e)) (d8 _ e)) ⟨_,rfl,d9 ⟨_,rfl,?_⟩⟩) (args_list_sort _)));obtain⟨e,he⟩:=sortedHeap_at (out:=List.toArray ((PySem.W.dI (us.map Value.ref).length λi j=>rlt (rs.getD i []) (rs.getD j [])).map λi=>(us.map Value.ref).getD i Value.none)) hoL;have hfr:H h1.objs.size=none:=I2.hok.fresh (j0 _);have low:∀i∈PySem.W.dI rs.length (λi j=>rlt (rs.getD i []) (rs.getD j [])),i<(us.map V.ref).length:=λi hi=>by have:=PySem.W.nO hi;rw[j9];lia
 refine⟨.ref h1.objs.size,_,I2.laid (t':=tk) (o:=.lst ((PySem.W.dI rs.length λi j=>rlt (rs.getD i []) (rs.getD j [])).map λi=>(us.map V.ref).getD i .non)) (λb o q=>?_) (j0 _) ?_,rfl,q _ _ _ hfr (aW hfr _) aH (e3 ▸ aDn hr _ low)⟩
 ·have hlt:=m8 q;show (sortedHeap _ _ _ _).get? b=some o;rw[sortedHeap_old (v4 hlt) (by rw[size_push'];exact bBE hlt)];exact d8 _ q
 ·refine⟨small (by rw[j9,PySem.W.sI];lia),_,e,?_,he⟩;rw[j9,<-rl];exact aEc rv _ low
end
end L2
namespace My
open PySem PySem.Spec PyProof.Rows L2
section
variable {P:Program}{w:World}{K:bEX}{mg:bE0}{base:Heap}
theorem jU.tk {H H':Hp}{v:V}{c:V × Int}(e:TK K H H')(h:jU K H v c):jU K H' v c:=by obtain⟨p,rfl,hp⟩:=h;exact⟨p,rfl,e _ _ hp⟩
theorem qQ.tk {H H':Hp}{v:V}{pl:Plc}(e:TK K H H')(h:qQ K H v pl):qQ K H' v pl:=by
 cases pl with
 |copies=>obtain⟨a,rfl,ha⟩:=h;exact⟨a,rfl,e _ _ ha⟩
 |keys n=>obtain⟨a,rfl,ha⟩:=h;exact⟨a,rfl,e _ _ ha⟩
 |spans n h0 cs=>obtain⟨a,vc,rfl,ha,hc⟩:=h;exact⟨a,vc,rfl,e _ _ ha,aN2 e (λ_ _ z=>z.tk e) hc⟩
structure KP (K:bEX)(S:Addr->Prop)(H H':Hp):Prop where
 st:∀b o,S b->H b=some o->H' b=some o
 tk:TK K H H'
section
variable {S:Addr->Prop}{H H':Hp}
theorem KP.same (s:Same H H'):KP K S H H':=⟨λb o _ h=>s b o h,.of s⟩
theorem KP.trans {H2:Hp}(k:KP K S H H')(l:KP K S H' H2):KP K S H H2:=⟨λb o h e=>l.st b o h (k.st b o h e),λp xs e=>l.tk p xs (k.tk p xs e)⟩
theorem KP.nU {D:Addr}{ys zs:List V}(hD:H D=some (.lst ys))(n:¬ S D):KP K S H (L2.upd H D (.lst zs)):=⟨λb o h e=>by have hb:b≠D:=λz=>n (z ▸ h);rw[aN hb];exact e,λp xs e=>SqT.nU hD e⟩
theorem KP.bB0 {D:Addr}{u:HO}(hD:eU H D)(n:¬ S D):KP K S H (L2.upd H D u):=⟨λb o h e=>by have hb:b≠D:=λz=>n (z ▸ h);rw[aN hb];exact e,λp xs e=>But.aV But.upd hD e⟩
theorem KP.fx {a:Addr}(f:Fx a H H')(h:kO H a)(n:¬ S a):KP K S H H':=⟨λb o hb e=>f.same b o (λz=>n (z ▸ hb)) e,f.tk h⟩
theorem KP.mono {S':Addr->Prop}(k:KP K S H H')(h:∀b,S' b->S b):KP K S' H H':=⟨λb o s e=>k.st b o (h b s) e,k.tk⟩
theorem cC.kp {L:Addr}{rs:List (List V)}(k:KP K S H H')(s:S L)(h:cC K H L rs):cC K H' L rs:=by obtain⟨us,h1,h2⟩:=h;exact⟨us,k.st _ _ s h1,h2.imp λ_ _ ⟨p,e,hp⟩=>⟨p,e,k.tk _ _ hp⟩⟩
end
theorem rC.kp {S:Addr->Prop}{H H':Hp}{v vh vp:V}{L:Addr}{t:Tb}(k:KP K S H H')(s:S L)(h:rC K H v vh vp L t):rC K H' v vh vp L t:=by obtain⟨a,ev,ha,c1,c2,c3⟩:=h;exact⟨a,ev,k.tk _ _ ha,c1.tk k.tk,c2.tk k.tk,c3.kp k s⟩
theorem lX.kp {S:Addr->Prop}{H H':Hp}{d:Addr}{es:List En}(k:KP K S H H')(sd:S d)(sL:∀e∈es,S e.L)(h:lX K H d es):lX K H' d es:=⟨k.st _ _ sd h.at_,h.nd,h.few,h.nm,λe he=>(h.tb e he).kp k (sL e he)⟩
theorem aBg {n:Nat}(h:n<1000):n<sizeLine:=bAA h (by decide)
theorem zU {hd:Hdr}{r:List V}(h:pP hd r):uG r:=λx hx=>aTn (jY h) x hx
theorem aNn {α:Type}{xs:List α}{x:α}(h:xs[xs.length - 1]?=some x):atI xs (-1)=some x:=by have hl:xs.length - 1<xs.length:=(List.getElem?_eq_some_iff.mp h).1;unfold atI ixN;rw[if_neg (by decide),if_pos (by lia)];show xs[((-1:Int)+(xs.length:Int)).toNat]?=some x;rw[show ((-1:Int)+(xs.length:Int)).toNat=xs.length - 1 by lia];exact h
theorem aDq {α β:Type}{R:α->β->Prop}{as:List α}{bs:List β}(h:cU R as bs):∀n,cU R (as.take n) (bs.take n):=by
 induction h with
 |nil=>intro n;rw[bDH,bDH];exact .nil
 |cons r _ ih=>
  intro n;cases n with
  |zero=>exact .nil
  |succ n=>exact .cons r (ih n)
theorem bZ.kp {S:Addr->Prop}{H H':Hp}{C x d dm:Addr}{m:Int}{es:List En}(k:KP K S H H')(sx:S x)(sd:S d)(sL:∀e∈es,S e.L)(h:bZ K H C x m d dm es):bZ K H' C x m d dm es:=
 ⟨let ⟨dx,h1⟩:=h.at_;⟨dx,k.st _ _ sx h1⟩,h.ens.kp k sd sL,h.ok,h.ne⟩
theorem bZ.mv {H:Hp}{C x d dm:Addr}{m:Int}{es:List En}{kvs kvs':List (Key × V)}(h:bZ K H C x m d dm es)(g:H dm=some (.dK kvs)):KP K (λb=>b≠dm) H (L2.upd H dm (.dK kvs'))/\bZ K (L2.upd H dm (.dK kvs')) C x m d dm es:=by
 have k:KP K (λb=>b≠dm) H (L2.upd H dm (.dK kvs')):=.bB0 (eU.dK g) λz=>z rfl;refine⟨k,h.kp k (λz=>?_) h.ne λe he z=>?_⟩
 ·obtain⟨dx,hx⟩:=h.at_;rw[z,g] at hx;cases hx
 ·obtain⟨_,_,_,_,_,us,h3,_⟩:=h.ens.tb e he;rw[z,g] at h3;cases h3
def zZ (num:Nat)(h0:Int)(cs:List (V × Int)):Int:=(((V.non,h0)::cs).map (·.2)).getD num 0
def aNk (K:bEX)(C:Addr):Sp:=λvs H Q _=>∃(x d dm:Addr) (m:Int) (es:List En) (e:En) (n:Str) (h0:Int) (cs:List (V × Int)) (num:Nat) (house:Int),vs=[.ref x,.str e.n,.int num,.int house]/\bZ K H C x m d dm es/\e∈es/\e.t.pl=.spans n h0 cs/\H dm=some (.dK [])/\num<=cs.length/\0<=house/\house<m/\house≠zZ num h0 cs /\
 ∀H',KP K (λb=>b≠dm) H H'->bZ K H' C x m d dm es->MvD K H' dm e.n (some ⟨num,house,none⟩)->Q .non H'
theorem aSj (T:Txt w K mg){C:Addr}(c:Cls K C)(D:iD K C "lend" "Store.lend" lD ["self","name","number","house"])(n2:bK K C "house_count")(n3:bK K C "moves")(cR:Ok P w K mg base 2 "is_number_below" ["thing","many"] wI)(GM_Store_cut_table:OkM P w K mg base C 4 "cut_table" ["self","name"] (aFc K C))(GM_Store_need_still:OkM P w K mg base C 1 "need_still" ["self","name"] (aIl K C)):OkM P w K mg base C 5 "lend" ["self","name","number","house"] (aNk K C):=by
 refine OkM.ofV c D tE (λvs H Q E h=>?_) (λf cdv A outer s H vs Q E hr h=>?_)
 ·obtain⟨x,d,dm,m,es,e,n,h0,cs,num,house,rfl,_⟩:=h;rfl
 obtain⟨x,d,dm,m,es,e,n,h0,cs,num,house,rfl,hS,he,epl,hm,hn,b0,b1,hne,q⟩:=h;have hu:=tG hr;refine⟨_,(aC (aX (i:=4) tE.nd rfl (by trivial) (aP bH (aP bH (eE (GM_Store_cut_table.mono (by decide)) hr (vv 0) (aB (vv 1) aA)) aF (λ_ _=>rfl)) aF (λ_ _=>rfl))) (aC (cA (cG (bV (aO (cR.mono (by decide)) hr (by rfl) (aB (vv 2) (aB (aK bA (by rfl) T.fJ cZ (aB (vv 4) aA)) aA))))) (aG fX) aZ) (aC (cA (VW.pt (fB (cG (bV (aO (cR.mono (by decide)) hr (by rfl) (aB (vv 3) (aB (dU (K:=K) (vv 0)) aA))))) (dN (bC fK (vv 3) (aP bH (aP bH (vv 4) (vv 2) (λ_ _=>rfl)) aF (λ_ _=>rfl)) (aY _))))) (aG fX) aZ) (aC (mW (eE (GM_Store_need_still.mono (by decide)) hr (vv 0) (aB (vv 1) aA))) (aG (aNb hu (dU (K:=K) (vv 0)) (vv 1) (dZ (aB (vv 2) (aB (vv 3) (aB kJ aA)))))))))),?_⟩;obtain⟨dx,hx⟩:=hS.at_;refine⟨_,rfl,x,dx,_,rfl,hx,rfl,_,rfl,x,d,dm,m,es,e,n,h0,cs,rfl,hS,he,epl,λH1 s1=>?_⟩;obtain⟨a,ev,ha,h1,h2,h3⟩:=(hS.ens.tb e he).same s1;rw[epl] at h2;obtain⟨b,vc,eb,hb,⟨ca,us,rfl,hca,hus⟩⟩:=h2;have lu:=hus.len;rw[v7] at lu;refine⟨a,_,1,_,ev,rfl,ha,at1 _ _ _,b,_,2,_,eb,rfl,hb,at2 _ _ _ _,?_⟩;refine⟨_,rfl,_,rfl,ca,us,rfl,.inr hca,(num:Int),(us.length:Int),rfl,_,rfl,?_⟩;rw[t6 (show (0:Int)<=num by lia),t6 (show (num:Int)<us.length by lia)];refine bY ?_;have hlt:num<us.length:=by lia
 obtain⟨c0,hc0,pc,epc,hpc⟩:=cM hus (d7 hlt);have ch:zZ num h0 cs=c0.2:=by unfold zZ;rw[j4,v9,hc0];rfl
 refine⟨_,rfl,_,rfl,x,C,dx,_,_,rfl,s1 _ _ hx,c,n2,rfl,house,m,rfl,_,rfl,?_⟩;rw[t6 b0,t6 b1];refine bY ?_;refine⟨_,rfl,_,rfl,_,rfl,ca,us,_,us[num],rfl,rfl,hca,cL (d7 hlt),pc,_,1,_,epc,rfl,hpc,at1 _ _ _,rfl,_,rfl,gY (v8 λz=>hne (ch ▸ V.int.inj z)) ?_⟩;refine⟨_,rfl,x,dx,_,rfl,s1 _ _ hx,rfl,_,rfl,x,d,dm,m,es,e.n,rfl,hS.same s1,s1 _ _ hm,?_⟩;refine⟨_,rfl,_,rfl,by show 3<=sizeLine;decide,λt2 H2 _ s2 g2=>?_⟩;have s02:=s1.trans s2;obtain⟨k1,k2⟩:=(hS.same s02).mv (kvs':=[(Sum.inr e.n,.ref t2)]) (s02 _ _ hm);refine⟨_,rfl,x,C,dx,_,_,rfl,s02 _ _ hx,c,n3,rfl,_,rfl,dm,_,rfl,aOn.k (k:=Sum.inr e.n) (s02 _ _ hm) (aBg (by decide)),?_⟩;rw[show putK [] (Sum.inr e.n:Key) (V.ref t2)=[(Sum.inr e.n,.ref t2)] from rfl];exact q _ ((KP.same s02).trans k1) k2 ⟨.ref t2,⟨t2,.non,rfl,k1.tk _ _ (SqT.of g2),rfl⟩,aH⟩
def uM (o:Option (List V))(r:List V):Bool:=!rK o r
def nA (hd:Hdr)(m house:Int)(pl:Plc)(o:Option Mv)(n:Str)(cs:List (V × Int))(rows:List (List V)):List (List V):=
 match o with
 |none=>rows.filter λr=>cD hd m r house pl
 |some q=>if q.house=house then srt ((rows.filter λr=>cD hd m r house pl)++rows.filter λr=>uM q.mark r && iB hd n cs q.num r) else rows.filter λr=>cD hd m r house pl
def aAf (K:bEX)(C:Addr):Sp:=λvs H Q _=>∃(x d dm:Addr) (m house:Int) (es:List En) (e:En) (o:Option Mv) (n:Str) (h0:Int) (cs:List (V × Int)),vs=[.ref x,.str e.n,.int house]/\bZ K H C x m d dm es/\e∈es/\MvD K H dm e.n o/\e.t.pl=.spans n h0 cs/\e.t.rows.length<=30/\(∀mq q,o=some mq->mq.mark=some q->pP e.t.hd q)/\0<=house/\house<m/\∀L H',H L=none->Same H H'->cC K H' L (nA e.t.hd m house e.t.pl o n cs e.t.rows)->Q (.ref L) H'
theorem aJe (T:Txt w K mg){C:Addr}(c:Cls K C)(D:iD K C "stands" "Store.stands" eY ["self","name","house"])(n1:bK K C "placed")(n2:bK K C "house_count")(dC:Ok P w K mg base 3 "table_in" ["placed","name"] (uP K))(yI:Ok P w K mg base 4 "rows_at" ["table","house","houses"] (wX K))(GM_Store_moving:OkM P w K mg base C 4 "moving" ["self","name"] (rY K C))(qX:Ok P w K mg base 3 "span_rows" ["table","number"] (aB3 K))(uW:Ok P w K mg base 1 "is_above" ["row","mark"] (aAc K)):OkM P w K mg base C 5 "stands" ["self","name","house"] (aAf K C):=by
 refine OkM.ofV c D gA (λvs H Q E h=>?_) (λf cdv A outer s H vs Q E hr h=>?_)
 ·obtain⟨x,d,dm,m,house,es,e,o,n,h0,cs,rfl,_⟩:=h;rfl
 obtain⟨x,d,dm,m,house,es,e,o,n,h0,cs,rfl,hS,he,hmv,epl,few,hmk,b0,b1,q⟩:=h;refine⟨_,(aC (aX (i:=3) gA.nd rfl (by trivial) (aO (dC.mono (by decide)) hr (by rfl) (aB (dU (K:=K) (vv 0)) (aB (vv 1) aA)))) (aC (aX (i:=4) gA.nd rfl (by trivial) (aO (yI.mono (by decide)) hr (by rfl) (aB (vv 3) (aB (vv 2) (aB (dU (K:=K) (vv 0)) aA))))) (aC (aX (i:=5) gA.nd rfl (by trivial) (eE (GM_Store_moving.mono (by decide)) hr (vv 0) (aB (vv 1) aA))) (aC (cA (VW.pt (fB (bC aCc (vv 5) kJ (aY _)) (dN (bC yV (aP bH (vv 5) aF (λ_ _=>rfl)) (vv 2) (aY _))))) (aG (aL (vv 4))) aZ) (aG (aL (aK fC (by rfl) T.fH dO (aB (bQ vG (vv 4) (cJ (N:=["row","move"]) (by trivial) (dX (aD eY) rfl (by decide +kernel)) rfl (dR (aO (qX.mono (by decide)) hr (by rfl) (aB (vv 3) (aB (aP bH (vv 5) aF (λ_ _=>rfl)) aA)))) (λcl s' H' fp=>⟨(aM (i:=0) (show (["row","move"]:List Str).Nodup from by decide +kernel) rfl (Or.inl rfl)),(lO (cG (bV (aO (uW.mono (by decide)) hr (by rfl) (aB (vv 0) (aB (aP (bO (K:=K)) (vv 1) aF (λ_ _=>rfl)) aA)))))),(vv 0)⟩))) aA)))))))),?_⟩;obtain⟨dx,hx⟩:=hS.at_;have ok:=hS.ok e he;refine⟨_,rfl,x,C,dx,_,_,rfl,hx,c,n1,rfl,_,rfl,d,es,e,rfl,hS.ens,he,λH1 s1=>?_⟩;refine⟨_,rfl,_,rfl,_,rfl,x,C,dx,_,_,rfl,s1 _ _ hx,c,n2,rfl,e.v,e.vh,e.vp,e.L,e.t,house,m,rfl,(hS.ens.tb e he).same s1,ok,b0,b1,λL H2 hN s2 hR=>?_⟩;have s12:=s1.trans s2;refine⟨_,rfl,x,dx,_,rfl,s12 _ _ hx,rfl,_,rfl,x,d,dm,m,es,e,o,rfl,hS.same s12,he,hmv.same s12,λv H3 s3 hv=>?_⟩;have s13:=s12.trans s3;have hR3:=hR.same s3;cases o with
 |none=>cases hv;exact⟨_,rfl,rfl,_,rfl,nQ (t6 rfl) ⟨_,rfl,q L H3 (none_of s1 hN) s13 hR3⟩⟩
 |some mq=>
  obtain⟨a,vm,rfl,ha,hm⟩:=hv;refine⟨_,rfl,rfl,_,rfl,gY (v8 λz=>by cases z) ?_⟩;refine⟨_,rfl,a,_,1,_,rfl,rfl,ha,at1 _ _ _,_,rfl,rfl,_,rfl,?_⟩;by_cases hh:mq.house=house
  ·refine gY (by rw[t6 (congrArg V.int hh)];rfl) ?_;refine⟨_,rfl,?_⟩;refine iV [none,some (.ref a)] (jT 5 (by decide +kernel) rfl rfl (by trivial)) ?_;refine⟨_,rfl,_,rfl,a,_,0,_,rfl,rfl,ha,at0 _ _,e.v,e.vh,e.vp,e.L,e.t,m,mq.num,n,h0,cs,rfl,(hS.ens.tb e he).same s13,ok,epl,λD1 H4 hD1 s4 hR4=>?_⟩;obtain⟨ws,gD,hws⟩:=id hR4;have s14:=s13.trans s4;refine⟨D1,rfl,⟨_,SqL.of gD⟩,pJ hR4 (bAL (bAU _ _) (by lia)) (uM mq.mark) rfl (λu r hr' H' R l sm hru rr=>?_) λD' H5 hN5 s5 hD5=>?_⟩
   ·refine⟨_,rfl,_,rfl,a,_,2,_,rfl,rfl,(s4.trans sm).aV ha,at2 _ _ _ _,u,vm,r,mq.mark,knds e.t.hd,rfl,hru,hm.same (s4.trans sm),jY (ok.rows r (List.mem_filter.mp hr').1),λq' e'=>jY (hmk mq q' rfl e'),_,rfl,rr H' (Same.refl _)⟩
   ·rw[bC5] at hD5;obtain⟨u1,g1,h1⟩:=hR3.same (s4.trans s5);obtain⟨u2,g2,h2⟩:=hD5;have l1:=h1.len;have l2:=h2.len;have f1:=bAU (λr=>cD e.t.hd m r house e.t.pl) e.t.rows;have f2:=bAU (λr=>uM mq.mark r && iB e.t.hd n cs mq.num r) e.t.rows;refine⟨L,D',u1,u2,rfl,rfl,g1,g2,small (by lia),λR6 H6 hR6 s6 g6=>?_⟩;refine⟨R6,_,(e.t.rows.filter λr=>cD e.t.hd m r house e.t.pl)++e.t.rows.filter λr=>uM mq.mark r && iB e.t.hd n cs mq.num r,knds e.t.hd,rfl,SqL.of g6,cX (cU.app (h1.imp λ_ _ z=>z.same s6) (h2.imp λ_ _ z=>z.same s6)),by rw[bAG];lia,mU ok.hd.1,λr hr'=>?_,λL7 H7 us7 hL7 s7 g7 h7=>?_⟩
    ·rcases List.mem_append.mp hr' with z|z <;> exact jY (ok.rows r (List.mem_filter.mp z).1)
    ·have s57:=s14.trans (s5.trans (s6.trans s7));refine q L7 H7 (none_of (s14.trans (s5.trans s6)) hL7) s57 ⟨us7,g7,?_⟩;have e7:nA e.t.hd m house e.t.pl (some mq) n cs e.t.rows=_:=if_pos hh;rw[e7];exact (jZ h7).imp λ_ _ z=>z.same s7
  ·refine nQ (by rw[v8 λz=>hh (V.int.inj z)];rfl) ⟨_,rfl,q L H3 (none_of s1 hN) s13 ?_⟩;have e7:nA e.t.hd m house e.t.pl (some mq) n cs e.t.rows=_:=if_neg hh;rw[e7];exact hR3
theorem aT4 {ks:List Bool}{qs qs' W:List (List V)}(h:Ded qs W)(h':Ded qs' W)(hk:∀r∈W,KdR ks r):srt qs=srt qs':=
 aBy (λr hr=>hk r ((h.2.1 r).mp hr)) ((bEP h.1 h'.1).mpr λr=>(h.2.1 r).trans (h'.2.1 r).symm)
def fU (t:Tb)(n:Str)(cs:List (V × Int))(num:Nat)(o:Option (List V)):List (List V):=t.rows.filter λr=>rK o r && iB t.hd n cs num r
def aHs (K:bEX)(C:Addr):Sp:=λvs H Q _=>∃(x d dm:Addr) (m:Int) (es:List En) (e:En) (mq:Mv) (n:Str) (h0:Int) (cs:List (V × Int)) (k:Nat),vs=[.ref x,.str e.n,.int k]/\bZ K H C x m d dm es/\e∈es/\MvD K H dm e.n (some mq)/\e.t.pl=.spans n h0 cs/\(∀q,mq.mark=some q->pP e.t.hd q) /\
 ∀qs,Ded qs (fU e.t n cs mq.num mq.mark)->(((srt qs).take k=[]->∀H',Same H H'->Q (.int 0) H')/\∀r,((srt qs).take k).getLast?=some r->∀H',KP K (λb=>b≠dm) H H'->bZ K H' C x m d dm es->MvD K H' dm e.n (some { mq with mark:=some r })->Q (.int ((fU e.t n cs mq.num mq.mark).length - (fU e.t n cs mq.num (some r)).length)) H')
theorem aPp (T:Txt w K mg){C:Addr}(c:Cls K C)(D:iD K C "carry" "Store.carry" jO ["self","name","many"])(n3:bK K C "moves")(GM_Store_cut_table:OkM P w K mg base C 4 "cut_table" ["self","name"] (aFc K C))(GM_Store_move_of:OkM P w K mg base C 1 "move_of" ["self","name"] (aDb K C))(GM_Store_rows_to_come:OkM P w K mg base C 4 "rows_to_come" ["self","name"] (aSq K C)):OkM P w K mg base C 5 "carry" ["self","name","many"] (aHs K C):=by
 refine OkM.ofV c D iR (λvs H Q E h=>?_) (λf cdv A outer s H vs Q E hr h=>?_)
 ·obtain⟨x,d,dm,m,es,e,mq,n,h0,cs,k,rfl,_⟩:=h;rfl
 obtain⟨x,d,dm,m,es,e,mq,n,h0,cs,k,rfl,hS,he,hmv,epl,hmk,q⟩:=h;have hu:=tG hr;have hU:=hr.units;refine⟨_,(aC (mW (eE (GM_Store_cut_table.mono (by decide)) hr (vv 0) (aB (vv 1) aA))) (aC (aX (i:=3) iR.nd rfl (by trivial) (eE (GM_Store_move_of.mono (by decide)) hr (vv 0) (aB (vv 1) aA))) (aC (aX (i:=4) iR.nd rfl (by trivial) (eE (GM_Store_rows_to_come.mono (by decide)) hr (vv 0) (aB (vv 1) aA))) (aC (aX (i:=5) iR.nd rfl (by trivial) (fY vY (aK (tD rfl) (by rfl) T.fH dO (aB (cW (aD2 rfl hU) (by rfl) T.aMx aE5 (aB (vv 4) aA)) aA)) lH (iK (aK (aOt rfl) (by rfl) T.aZ7 aZi (aB (vv 2) (aB aF aA)))))) (aC (cA (cG (aSd (vv 5))) (aG (aL aF)) aZ) (aC (aNb hu (dU (K:=K) (vv 0)) (vv 1) (bQ aTw (fY aMl (vv 3) lH (iK aF)) (dZ (aB (aP cN (vv 5) (aW8 aQv aF) (λ_ _=>rfl)) aA)))) (aG (aL (bQ aBa (aK bA (by rfl) T.fJ cZ (aB (vv 4) aA)) (aK bA (by rfl) T.fJ cZ (aB (eE (GM_Store_rows_to_come.mono (by decide)) hr (vv 0) (aB (vv 1) aA)) aA))))))))))),?_⟩;obtain⟨dx,hx⟩:=hS.at_;have ok:=hS.ok e he;have few:=ok.few;refine⟨_,rfl,x,dx,_,rfl,hx,rfl,_,rfl,x,d,dm,m,es,e,n,h0,cs,rfl,hS,he,epl,λH1 s1=>?_⟩;obtain⟨v,hv,gm⟩:=hmv.same s1;refine⟨_,rfl,x,dx,_,rfl,s1 _ _ hx,rfl,_,rfl,x,d,dm,m,es,e.n,v,rfl,hS.same s1,gm,?_⟩;refine⟨_,rfl,x,dx,_,rfl,s1 _ _ hx,rfl,_,rfl,x,d,dm,m,es,e,mq,n,h0,cs,rfl,hS.same s1,he,⟨v,hv,gm⟩,epl,hmk,λW2 H2 hW2 s2 hR2=>?_⟩;obtain⟨us,g2,hus⟩:=id hR2;have lu:=hus.len;have s02:=s1.trans s2;have lW:(fU e.t n cs mq.num mq.mark).length<=60:=bAL (bAU _ _) few;have kW:∀r∈fU e.t n cs mq.num mq.mark,KdR (knds e.t.hd) r:=λr hr'=>jY (ok.rows r (List.mem_filter.mp hr').1);have hW:us.length=(fU e.t n cs mq.num mq.mark).length:=lu;refine⟨_,rfl,W2,us,fU e.t n cs mq.num mq.mark,rfl,SqL.of g2,cX hus,λr hr'=>zU (ok.rows r (List.mem_filter.mp hr').1),by lia,λD3 H3 as qs hD3 s3 g3 ha3 ded=>?_⟩;have la:=ha3.len;have ld:=ded.2.2;rw[j9] at la;refine⟨D3,as,qs,knds e.t.hd,rfl,g3,ha3.imp λ_ _ z=>z.same s3,by lia,mU ok.hd.1,λr hr'=>kW r ((ded.2.1 r).mp hr'),λB H4 us4 hB s4 g4 h4=>?_⟩;have s24:=s3.trans s4;refine⟨_,rfl,(k:Int),0,rfl,(k:Int),by rw[if_neg (show ¬ (0:Int) > (k:Int) by lia)],B,us4,rfl,SqL.of g4,λp H5 hp s5 g5=>?_⟩;rw[show pH us4 none (some ((k:Nat):Int))=us4.take k from zP _ k] at g5;have a5:cU (cT K H5) (us4.take k) ((srt qs).take k):=(aDq (jZ h4) k).imp λ_ _ z=>z.same (s4.trans s5);have s05:=s02.trans (s24.trans s5);obtain⟨q0,q1⟩:=q qs ded;refine⟨_,rfl,_,.inl ⟨_,SqL.of g5,rfl⟩,?_⟩;have uS:∀i u,(us4.take k)[i]?=some u->∃r,((srt qs).take k)[i]?=some r/\cT K H5 u r:=λi u z=>cM a5 z;have lS:=a5.len;generalize us4.take k=uk at g5 uS lS ⊢;cases uk with
 |nil=>refine nQ rfl ?_;exact q0 (bCI lS.symm) H5 s05
 |cons u0 ur=>
  refine gY rfl ?_;obtain⟨ul,hul⟩:∃ul,(u0::ur)[(u0::ur).length - 1]?=some ul:=⟨_,d7 (by rw[v7];lia)⟩;obtain⟨r,hr1,hr2⟩:=uS _ _ hul;have hl:((srt qs).take k).getLast?=some r:=by rw[List.getLast?_eq_getElem?,<-lS];exact hr1
  have okr:pP e.t.hd r:=by have h1:=(ded.2.1 r).mp (jP (bCT (v6 hr1)));exact ok.rows r (List.mem_filter.mp h1).1
  obtain⟨a,vm,rfl,ha,hm⟩:=hv;have s15:=s2.trans (s24.trans s5);refine⟨_,rfl,_,rfl,a,_,rfl,s15.aV ha,by show ¬ (HT.sIx 3 0 none=0/\HT.sIx 3 3 (some 2)=3);decide,λp6 H6 s6 g6=>?_⟩;rw[show pH [V.int mq.num,.int mq.house,vm] none (some 2)=[V.int mq.num,.int mq.house] from zP _ 2] at g6;refine⟨_,rfl,_,rfl,p,_,_,ul,rfl,rfl,SqL.of (s6 _ _ g5),aNn hul,by show 1<=sizeLine;decide,λp7 H7 _ s7 g7=>?_⟩;refine⟨p6,p7,_,_,rfl,rfl,SqT.of (s7 _ _ g6),SqT.of g7,by show 3<=sizeLine;decide,λp8 H8 s8 g8=>?_⟩;have s58:=s6.trans (s7.trans s8);have s18:=s15.trans s58;have s08:=s1.trans s18;obtain⟨k1,k2⟩:=(hS.same s08).mv (kvs':=[(Sum.inr e.n,.ref p8)]) (s18 _ _ gm);refine⟨_,rfl,x,C,dx,_,_,rfl,s08 _ _ hx,c,n3,rfl,_,rfl,dm,_,rfl,aOn.k (k:=Sum.inr e.n) (s18 _ _ gm) (aBg (by show 1<1000;decide)),?_⟩;rw[show putK [((Sum.inr e.n:Key),V.ref a)] (Sum.inr e.n) (V.ref p8)=[(Sum.inr e.n,.ref p8)] by unfold putK;simp];have mv9:MvD K (_root_.L2.upd H8 dm (.dK [(Sum.inr e.n,.ref p8)])) dm e.n (some { mq with mark:=some r }):=⟨.ref p8,⟨p8,ul,rfl,k1.tk _ _ g8,(hr2.same s58).imp λb ⟨e1,e2⟩=>⟨e1,k1.tk _ _ e2⟩⟩,aH⟩;have k09:=(KP.same (K:=K) (S:=λb=>b≠dm) s08).trans k1;have nW:W2≠dm:=λz=>by rw[z,gm] at hW2;cases hW2
  have gW:=k1.st _ _ nW (s58 _ _ ((s24.trans s5) _ _ g2));generalize _root_.L2.upd H8 dm (.dK [(Sum.inr e.n,.ref p8)])=H9 at k1 k2 mv9 k09 gW ⊢;obtain⟨dx9,hx9⟩:=k2.at_;refine⟨_,rfl,W2,us,rfl,.inl (SqL.of gW),_,rfl,x,dx9,_,rfl,hx9,rfl,_,rfl,x,d,dm,m,es,e,{ mq with mark:=some r },n,h0,cs,rfl,k2,he,mv9,epl,λq' e'=>by cases e';exact okr,λW3 H10 hW3 s10 hR10=>?_⟩;obtain⟨us3,g10,hus3⟩:=hR10;have l3:=hus3.len;refine⟨W3,us3,rfl,.inl (SqL.of g10),_,_,rfl,rfl,?_⟩;have e1:(us.length:Int) - us3.length=((fU e.t n cs mq.num mq.mark).length - (fU e.t n cs mq.num (some r)).length:Int):=by rw[hW,l3];rfl
  show Q (.int ((us.length:Int) - us3.length)) H10;rw[e1];exact q1 r hl H10 (k09.trans (KP.same s10)) (k2.same s10) (mv9.same s10)
end
end My
namespace L2
open PySem PySem.Spec PyProof.Rows
def aXa (K:bEX)(n:Nat)(t:TGs):TG:=λv σ H Q=>∃a xs,v=.ref a/\SqL K H a xs/\xs.length=n/\t xs σ H Q
theorem aWb {X:Cx}{pos:Pos}{es:List Expr}{k:Nat}{t:TGs}{n:Nat}(hc:X.calm=true)(h:PGs X es t)
  (hn:(assignEach es X.env).length=n:=by rfl) (hst:(assignEach es X.env).findIdx? (·.1)=none:=by rfl):PG X (.Tuple es k pos) (aXa X.K n t):=by
 intro bE1 s σ H v u Q I r hw;obtain⟨a,xs,e1,hq,hl,hw⟩:=hw;subst e1;cases r;obtain⟨its,rv,ht,hz⟩:=I.list hq;have hsz:(assignEach es X.env).length=its.toArray.size:=by rw[hn,<-hl,rv.length,j7]
 rw[arm_assign_Tuple];refine c7 (bEW ?_);unfold unpack;rw[hsz,hst];refine c7 (bAQ (PySem.W.kun_itemsOf (I.ok.hd hc) ht.isList λh' hx=>?_));have I1:Inv X bE1 σ H { s with heap:=h' }:=I.kept (t':=s.toks) λb o e=>hx b o (v4 (m8 e)) e;exact h bE1 _ σ H xs _ Q I1 (by simpa using rv) hw
theorem aNs {X:Cx}{pos:Pos}{es:List Expr}{k:Nat}{t:TGs}{n:Nat}(hc:X.calm=true)(h:VGs X es t)(hn:(assignEach es X.env).length=n:=by rfl)(hst:(assignEach es X.env).findIdx? (·.1)=none:=by rfl):VG X (.Tuple es k pos) (aXa X.K n t):=⟨aWb hc h.1 hn hst⟩
end L2
namespace My
open PySem PySem.Spec PyProof.Rows L2
section
variable {P:Program}{w:World}{K:bEX}{mg:bE0}{base:Heap}
theorem aP6 {kd:Str}{a b c:V}(ha:cF kd a)(hb:cF kd b)(hc:cF kd c)(h1:vlt a b=true)(h2:vlt b c=true):vlt a c=true:=by
 cases ha with
 |num=>cases hb;cases hc;exact t6 (Int.lt_trans (of_decide_eq_true h1) (of_decide_eq_true h2))
 |wrd _ _=>cases hb;cases hc;exact t6 (List.lt_trans (of_decide_eq_true h1) (of_decide_eq_true h2))
theorem aIm {kd:Str}{v:V}{cs:List (V × Int)}(hv:cF kd v)(hk:∀c∈cs,cF kd c.1)(up:(cs.map (·.1)).Pairwise λa b=>vlt a b=true):∀k,k<=cs.length->jK v (cs.take k) 1 0<=k/\∀(i:Nat) (c:V × Int),i<k->cs[i]?=some c->(i<jK v (cs.take k) 1 0↔vlt v c.1=false)
 |0,_=>⟨j0 _,λi c h=>absurd h (bC6 _)⟩
 |k+1,h=>by
  obtain⟨h1,h2⟩:=aIm hv hk up k (by lia);have hc:cs[k]?=some cs[k]:=d7 (by lia);have tk:cs.take (k+1)=cs.take k++[cs[k]]:=by rw[bBH,hc];rfl
  have lk:(cs.take k).length=k:=by rw[bAM];lia
  rw[tk,xT,lk];have hck:=hk _ (v6 hc);cases hq:vlt v cs[k].1 with
  |true=>
   rw[if_pos rfl];refine⟨by lia,λi c hi ei=>?_⟩;by_cases e:i=k
   ·subst e;rw[hc] at ei;cases ei;rw[hq];exact⟨λz=>absurd z (by lia),λz=>by cases z⟩
   ·exact h2 i c (by lia) ei
  |false=>
   rw[if_neg t8];refine⟨by lia,λi c hi ei=>⟨λ_=>?_,λ_=>by lia⟩⟩;by_cases e:i=k
   ·subst e;rw[hc] at ei;cases ei;exact hq
   ·cases hz:vlt v c.1 with
    |false=>rfl
    |true=>
     have hci:=hk c (v6 ei);have li:i<(cs.map (·.1)).length:=by rw[j9];lia
     have lk':k<(cs.map (·.1)).length:=by rw[j9];lia
     have hp:=List.pairwise_iff_getElem.mp up i k li lk' (by lia);rw[List.getElem_map,List.getElem_map] at hp;have ec:cs[i]=c:=(List.getElem?_eq_some_iff.mp ei).2;rw[ec] at hp;rw[aP6 hv hci hck hz hp] at hq;cases hq
theorem yO {α:Type}{p:α->Bool}:∀{l:List α} {N:Nat},N<=l.length->(∀(i:Nat) (c:α),l[i]?=some c->(i<N↔p c=true))->l.filter p=l.take N
 |[],N,_,_=>by rw[bDH];rfl
 |a::l,0,h,hp=>by rw[List.take_zero];refine List.filter_eq_nil_iff.mpr λc hc=>?_;obtain⟨i,hi⟩:=List.mem_iff_getElem?.mp hc;exact λz=>absurd ((hp i c hi).mpr z) (bC6 _)
 |a::l,N+1,h,hp=>by rw[bEA,if_pos ((hp 0 a rfl).mp (Nat.succ_pos _)),List.take_succ_cons];exact congrArg _ (yO (by simpa using h) λi c e=>⟨λz=>(hp (i+1) c (by simpa using e)).mp (by lia),λz=>by have:=(hp (i+1) c (by simpa using e)).mpr z;lia⟩)
theorem uO {ks:List Bool}{rs:List (List V)}(h:∀r∈rs,KdR ks r)(p:List V->Bool):srt (rs.filter p)=(srt rs).filter p:=by obtain⟨p1,s1⟩:=lK h;obtain⟨p2,s2⟩:=lK (rs:=rs.filter p) λr hr=>h r (List.mem_filter.mp hr).1;refine yH (lt:=rlt) (p2.trans (p1.filter p).symm) (λa ha b hb h1 h2=>?_) s2 (s1.filter p);exact aGo (h a (List.mem_filter.mp (jP ha)).1) (h b (List.mem_filter.mp (jP hb)).1) h1 h2
theorem aE9 (T:Txt w K mg):Ok P w K mg base 1 "_law_spot" ["_law_head_here","_law_name"] (oA K):=by
 refine Ok.ofV T.aJk aFx (λvs H Q E h=>?_) (λf cdv A outer s H vs Q E hr h=>?_)
 ·obtain⟨vh,n,hd,k,rfl,_⟩:=h;rfl
 obtain⟨vh,n,hd,k,rfl,⟨b,us,rfl,hb,hu⟩,hl,hk,q⟩:=h;obtain⟨h1,h2⟩:=aGl hk;refine⟨_,(aG (aL (aDj PySem.F.plainAttrs_list PySem.F.slot_list_index PySem.F.type_list_index aEd (cJ (N:=["_law_column","_law_kind"]) (by trivial) (lY (by decide +kernel)) rfl (rH (vv 0)) (λcl s' H' fp=>⟨(sE (K:=K) (n:=2) rfl (bF (aM (i:=0) (show (["_law_column","_law_kind"]:List Str).Nodup from by decide +kernel) rfl (Or.inl rfl)) (bF (aM (i:=1) (show (["_law_column","_law_kind"]:List Str).Nodup from by decide +kernel) rfl (Or.inl rfl)) fM))),gO,(vv 0)⟩)) (aB (vv 1) aA)))),?_⟩;have lu:=hu.len;dsimp only[sY,tBM];refine wK [none,none] rR ⟨_,rfl,b,rfl,⟨_,hb⟩,aJa Same (aM1 H) us (λ_=>true) (λi _ y=>∃c',hd[i]?=some c'/\y=.str c'.1) (λ_ _ h=>h) (λ_ _ _ h=>h) (λi σ=>∃c',hd[i]?=some c'/\At2 [none,none] (.str c'.1) (.str c'.2) σ) (Ps2 [none,none]) ⟨none,none,rfl⟩ (small (by lia)) _ (aFo λH' s'=>s'.aV hb) (wN λH' s'=>s'.aV hb) (λi x σ' H' Q' ex hps s' qq=>?_) (λi x σ2 ex hA H' R s' r=>r H' (Same.refl _)) (λi x σ2 ex hA hp H' R s' r=>?_) λD H6 ys s6 fD g6 hys=>?_⟩
 ·obtain⟨c',hc',p',rfl,hp'⟩:=cM hu ex;exact hg2 (s'.aV hp') hps fun σ2 h1 h2=>qq σ2 h1 ⟨c',hc',h2⟩
 ·obtain⟨c',hc',rfl⟩:=hA;exact⟨_,rfl,r _ _ (Same.refl H') ⟨c',hc',rfl⟩⟩
 ·rw[qZ] at hys;obtain⟨l1,l2⟩:=oV hys;have ey:ys=(hd.map (·.1)).map V.str:=bB4 λi=>by
   cases ez:ys[i]? with
   |some z=>obtain⟨c',hc',rfl⟩:=l2 i z ez;rw[v9,v9,hc'];rfl
   |none=>have:=List.getElem?_eq_none_iff.mp ez;exact (bAC (by rw[j9,j9];lia)).symm
  subst ey;refine⟨.inl ⟨rfl,_,SqL.of g6⟩,_,rfl,D,hd.map (·.1),n,plc hd n,rfl,rfl,SqL.of g6,by rw[j9];exact hl,by rw[v9,h1];rfl,λj m hj hm=>?_,q H6 s6⟩;rw[v9] at hm;obtain⟨c,hc,rfl⟩:=Option.map_eq_some_iff.mp hm;exact h2 j c hj hc
theorem aSy {X:Cx}{scope:Scope}{x x2 y:Str}{σ:L2.St}{u:V}(i:Nat)(hf:(y,NameKind.free)∈scope.names)(hi:X.N[i]?=some y)(hs:σ[i]?=some (some u))(hv:Vis X.env.scope y):Cap X scope [x,x2,y] σ [none,none,some u]:=
 ⟨rfl,λn q r h1 h2=>by
  match n,h1,h2 with
  |0,_,h2=>cases h2
  |1,_,h2=>cases h2
  |2,h1,h2=>cases h1;cases h2;exact⟨hf,i,hi,hs,hv⟩
  |n+3,h1,_=>cases h1⟩
theorem aAl {α β:Type}(p:Nat->Bool):∀(k:Nat) (l:List α) (m:List β),l.length=m.length->(sel p k l).length=(sel p k m).length
 |_,[],[],_=>rfl
 |k,a::l,b::m,h=>by
  have ih:=aAl p (k+1) l m (by simpa using h);unfold sel;cases p k with
  |true=>simpa using ih
  |false=>simpa using ih
theorem aZ3 {kd:Str}{a b:V}{H:Hp}{Q:VK}(ha:cF kd a)(hb:cF kd b)(q:Q (.bl (!vlt b a)) H):aYb a b H Q:=by
 cases ha with
 |num=>cases hb;exact .inl ⟨_,_,rfl,rfl,q⟩
 |wrd _ _=>cases hb;exact .inr ⟨_,_,rfl,rfl,q⟩
def aB7 (K:bEX):Sp:=λvs H Q _=>∃(vc v:V) (kd:Str) (m h0:Int) (cs:List (V × Int)),vs=[vc,v]/\qP K H (jU K H) vc ((.non,h0)::cs)/\aF0 kd m h0 cs/\cF kd v/\∀H',Same H H'->Q (.int (jK v cs 1 0:Nat)) H'
theorem aFn (T:Txt w K mg):Ok P w K mg base 1 "_law_span" ["_law_cuts","_law_value_here"] (aB7 K):=by
 refine Ok.ofV T.aHw aF2 (λvs H Q E h=>?_) (λf cdv A outer s H vs Q E hr h=>?_)
 ·obtain⟨vc,v,kd,m,h0,cs,rfl,_⟩:=h;rfl
 obtain⟨vc,v,kd,m,h0,cs,rfl,⟨a,us,rfl,ha,hu⟩,ok,hv,q⟩:=h;have hk:∀c∈cs,cF kd c.1:=λc hc=>(ok.each c hc).1;have few:=ok.few;refine⟨_,(aG (aL (aK bA (by rfl) T.fJ cZ (aB (cJ (N:=["_law_low","_law_house","_law_value_here"]) (by trivial) (dX (aD mX) rfl (by decide +kernel)) rfl (rH (fY aMp (vv 0) (iK aF) lH)) (λcl s' H' fp=>⟨(sE (K:=K) (n:=2) rfl (bF (aM (i:=0) (show (["_law_low","_law_house","_law_value_here"]:List Str).Nodup from by decide +kernel) rfl (Or.inl rfl)) (bF (aM (i:=1) (show (["_law_low","_law_house","_law_value_here"]:List Str).Nodup from by decide +kernel) rfl (Or.inl rfl)) fM))),(lO (bC aQy (vv 0) (vv 2) (aY _))),(vv 0)⟩)) aA)))),?_⟩;obtain⟨u0,ut,rfl,_,hut⟩:∃u0 ut,us=u0::ut/\jU K H u0 (.non,h0)/\cU (jU K H) ut cs:=by
  cases hu with
  |cons r t=>exact⟨_,_,rfl,r,t⟩
 have lt:=hut.len;dsimp only[sY,tCB,eQ];refine wK [none,none,some v] (aSy 1 (by decide +kernel) rfl rfl (by trivial)) ⟨_,rfl,_,rfl,a,_,rfl,ha,λts H5 s5 g5=>?_⟩;rw[show (1:Int)=((1:Nat):Int) from rfl,xJ,List.drop_one,List.tail_cons] at g5;refine⟨ts,rfl,⟨_,g5⟩,aJa Same (aM1 H5) ut (λi=>!vlt v (cs.getD i (.non,0)).1) (λ_ _ _=>True) (λ_ _ h=>h) (λ_ _ _ h=>h) (λi σ=>∃c,cs[i]?=some c/\At2 [none,none,some v] c.1 (.int c.2) σ) (Ps2 [none,none,some v]) ⟨none,none,rfl⟩ (small (by lia)) _ (aFo λH' s'=>s'.aV g5) (wN λH' s'=>s'.aV g5) (λi x σ' H' Q' ex hps s' qq=>?_) (λi x σ2 ex hA H' R s' rr=>?_) (λi x σ2 ex hA hp H' R s' rr=>?_) λD H6 ys s6 fD g6 hys=>?_⟩
 ·obtain⟨c,hc,p,rfl,hp⟩:=cM hut ex;exact hg2 ((s5.trans s').aV hp) hps fun σ2 h1 h2=>qq σ2 h1 ⟨c,hc,h2⟩
 ·obtain⟨c,hc,rfl⟩:=hA;refine⟨_,rfl,_,rfl,aZ3 (hk c (v6 hc)) hv ⟨_,rfl,?_⟩⟩;have e:(!vlt v (cs.getD i (.non,0)).1)=!vlt v c.1:=by rw[j4,hc];rfl
  rw[e] at rr;exact rr H' (Same.refl _)
 ·obtain⟨c,hc,rfl⟩:=hA;exact⟨_,rfl,rr _ H' (Same.refl _) trivial⟩
 ·have l1:=hys.len;rw[aAl _ 0 (List.range ut.length) cs (by rw[bAK];lia),mF (p':=λc=>!vlt v c.1) λi c e=>by rw[bCS,j4,e];rfl] at l1;obtain⟨hN,hS⟩:=aIm hv hk ok.up cs.length (j0 _);rw[bCN] at hN hS;rw[yO (N:=jK v cs 1 0) hN λi c e=>⟨λz=>by rw[(hS i c (List.getElem?_eq_some_iff.mp e).1 e).mp z];rfl,λz=>(hS i c (List.getElem?_eq_some_iff.mp e).1 e).mpr (by simpa using z)⟩,bAM] at l1;refine⟨D,_,rfl,.inl (SqL.of g6),?_⟩;rw[show ys.length=jK v cs 1 0 by lia];exact q H6 (s5.trans s6)
def tM (K:bEX)(H:Hp)(M:Addr)(vh vp:V)(R:Addr)(t:Tb)(vm:V):Prop:=H M=some (.lst [vh,vp,.ref R,vm])/\kI K H vh t.hd/\qQ K H vp t.pl/\cC K H R t.rows
theorem tM.same {H H':Hp}{M R:Addr}{vh vp vm:V}{t:Tb}(s:Same H H')(h:tM K H M vh vp R t vm):tM K H' M vh vp R t vm:=⟨s _ _ h.1,h.2.1.same s,h.2.2.1.same s,h.2.2.2.same s⟩
def yJ (K:bEX):Sp:=λvs H Q _=>∃(M R:Addr) (vh vp vm:V) (t:Tb) (m house:Int) (n:Str) (h0:Int) (cs:List (V × Int)),vs=[.ref M,.int m,.int house]/\tM K H M vh vp R t vm/\pD m t/\t.pl=.spans n h0 cs/\∀L H',H L=none->Same H H'->cC K H' L ((srt t.rows).filter λr=>cD t.hd m r house t.pl)->Q (.ref L) H'
theorem aCm (T:Txt w K mg)(qO:Ok P w K mg base 1 "_law_spot" ["_law_head_here","_law_name"] (oA K))(aH8:Ok P w K mg base 1 "_law_home" ["_law_value_here","_law_houses"] aW6)(rG:Ok P w K mg base 1 "_law_span" ["_law_cuts","_law_value_here"] (aB7 K)):Ok P w K mg base 2 "_law_stood" ["_law_table","_law_houses","_law_house"] (yJ K):=by
 refine Ok.ofV T.aGe eG (λvs H Q E h=>?_) (λf cdv A outer s H vs Q E hr h=>?_)
 ·obtain⟨M,R,vh,vp,vm,t,m,house,n,h0,cs,rfl,_⟩:=h;rfl
 obtain⟨M,R,vh,vp,vm,t,m,house,n,h0,cs,rfl,⟨gM,hI,hpl,⟨us,gR,hus⟩⟩,ok,epl,q⟩:=h;have hpl':=hpl;rw[epl] at hpl';obtain⟨b,vo,rfl,hb,hcc⟩:=hpl';obtain⟨cc,cu,rfl,hcu,hcs⟩:=id hcc;have okp:=ok.pl;rw[epl] at okp;obtain⟨hnn,kd,hk,hkd,okc⟩:=okp;have l8:=ok.hd.1.2.2;have lu:=hus.len;have few:=ok.few;refine⟨_,(aC (qK (vv 0) (aNs rfl (bF (aM (i:=3) eG.nd rfl (by trivial)) (bF (aM (i:=4) eG.nd rfl (by trivial)) (bF (aM (i:=5) eG.nd rfl (by trivial)) (bF (aM (i:=6) eG.nd rfl (by trivial)) fM)))))) (aC (cA (bC fK (aP bH (vv 4) aF (λ_ _=>rfl)) bN (aY _)) (aG (aL (aK fC (by rfl) T.fH dO (aB (vv 5) aA)))) aZ) (aC (aX (i:=7) eG.nd rfl (by trivial) (aO (qO.mono (by decide)) hr (by rfl) (aB (vv 3) (aB (aP bH (vv 4) aF (λ_ _=>rfl)) aA)))) (aC (cA (bC fK (aP bH (vv 4) aF (λ_ _=>rfl)) bN (aY _)) (aG (aL (aK fC (by rfl) T.fH dO (aB (cJ (N:=["_law_row_here","_law_house","_law_houses","_law_spot_here"]) (by trivial) (dX (aD iM) rfl (by decide +kernel)) rfl (dR (vv 5)) (λcl s' H' fp=>⟨(aM (i:=0) (show (["_law_row_here","_law_house","_law_houses","_law_spot_here"]:List Str).Nodup from by decide +kernel) rfl (Or.inl rfl)),(lO (bC fK (aO (aH8.mono (by decide)) hr (by rfl) (aB (aP (bO (K:=K)) (vv 0) (vv 3) (λ_ _=>rfl)) (aB (vv 2) aA))) (vv 1) (aY _))),(vv 0)⟩)) aA)))) aZ) (aG (aL (aK fC (by rfl) T.fH dO (aB (cJ (N:=["_law_row_here","_law_house","_law_placing","_law_spot_here"]) (by trivial) (dX (aD iM) rfl (by decide +kernel)) rfl (dR (vv 5)) (λcl s' H' fp=>⟨(aM (i:=0) (show (["_law_row_here","_law_house","_law_placing","_law_spot_here"]:List Str).Nodup from by decide +kernel) rfl (Or.inl rfl)),(lO (bC fK (aP (bO (K:=K)) (aP (bO (K:=K)) (aP (bO (K:=K)) (vv 2) aF (λ_ _=>rfl)) (aO (rG.mono (by decide)) hr (by rfl) (aB (aP (bO (K:=K)) (vv 2) aF (λ_ _=>rfl)) (aB (aP (bO (K:=K)) (vv 0) (vv 3) (λ_ _=>rfl)) aA))) (λ_ _=>rfl)) aF (λ_ _=>rfl)) (vv 1) (aY _))),(vv 0)⟩)) aA)))))))),?_⟩;refine⟨_,rfl,M,_,rfl,SqL.of gM,rfl,_,_,rfl,_,_,rfl,_,_,rfl,_,_,rfl,rfl,?_⟩;refine⟨_,rfl,b,_,0,_,rfl,rfl,hb,at0 _ _,rfl,_,rfl,gY (by decide) ?_⟩;refine⟨_,rfl,_,rfl,b,_,1,_,rfl,rfl,hb,at1 _ _ _,vh,n,t.hd,kd,rfl,hI,by lia,hk,λH1 s1=>?_⟩;refine⟨_,rfl,b,_,0,_,rfl,rfl,s1.aV hb,at0 _ _,rfl,_,rfl,gY (by decide) ?_⟩;dsimp only[cB,aEy,zA,sY,tCB,eQ,List.set,tK];refine aDa us (λi=>cD t.hd m (t.rows.getD i []) house t.pl) [none,some (.int house),some (.ref b),some (.int (plc t.hd n:Nat))] (zW 2 4 7 (by decide +kernel) (by decide +kernel) (by decide +kernel) rfl rfl rfl rfl rfl rfl (by trivial) (by trivial) (by trivial)) (small (by lia)) (λR' r'=>aNt (λH' sm=>SqL.of (sm _ _ (s1 _ _ gR))) (λR'' r''=>⟨_,rfl,r''⟩) R' r') (λi u ex H' R' l sm rr=>?_) rfl λD7 H7 hN7 s7 g7=>?_
 ·obtain⟨r,er,ru,rfl,hru⟩:=cM hus ex;have okr:=ok.rows r (v6 er);obtain⟨v,hv,hg,okv⟩:=aG6 okr hk;have eg:t.rows.getD i []=r:=by rw[j4,er];rfl
  rw[eg,epl] at rr;have s':=s1.trans sm;refine⟨_,rfl,b,_,2,_,rfl,rfl,s'.aV hb,at2 _ _ _ _,_,rfl,b,_,2,_,rfl,rfl,s'.aV hb,at2 _ _ _ _,_,rfl,_,rfl,ru,r,_,v,rfl,rfl,s'.aV hru,cL hv,.ref cc,v,kd,m,h0,cs,rfl,qP.same s' (λ_ _ z=>z.same s') hcc,okc,okv,λH2 s2=>?_⟩;have hN:=aMk v cs;have lc:=hcs.len;rw[v7] at lc;have hlt:jK v cs 1 0<cu.length:=by lia
  obtain⟨c0,hc0,pc,epc,hpc⟩:=cM hcs (d7 hlt);refine⟨cc,cu,_,cu[jK v cs 1 0],rfl,rfl,(s'.trans s2).aV hcu,cL (d7 hlt),pc,_,1,_,epc,rfl,(s'.trans s2).aV hpc,at1 _ _ _,_,rfl,rfl,_,rfl,?_⟩;have e:decide (V.int c0.2=V.int house)=cD t.hd m r house (.spans n h0 cs):=by show _=decide ((((.non,h0)::cs).map (·.2)).getD (jK (r.getD (plc t.hd n) .non) cs 1 0) 0=house);rw[hg,j4,v9,hc0];exact decide_eq_decide.mpr ⟨λz=>V.int.inj z,λz=>congrArg V.int z⟩
  rw[e];exact rr H2 s2
 have hF7:cU (cT K H7) (sel (λi=>cD t.hd m (t.rows.getD i []) house t.pl) 0 us) (t.rows.filter λr=>cD t.hd m r house t.pl):=by have eF:(t.rows.filter λr=>cD t.hd m r house t.pl)=sel (λi=>cD t.hd m (t.rows.getD i []) house t.pl) 0 t.rows:=(mF λi r er=>by rw[bCS,j4,er];rfl).symm;rw[eF];exact (aB2 hus 0).imp λ_ _ r=>r.same (s1.trans s7)
 have lF:=hF7.len;have lf:(t.rows.filter λr=>cD t.hd m r house t.pl).length<=t.rows.length:=bAU _ _;have hkd':∀r∈t.rows,KdR (knds t.hd) r:=λr hr'=>jY (ok.rows r hr');refine⟨D7,_,_,knds t.hd,rfl,SqL.of g7,cX hF7,by lia,mU ok.hd.1,λr hr'=>hkd' r (List.mem_filter.mp hr').1,λL8 H8 us8 hL8 s8 g8 h8=>?_⟩;rw[uO hkd'] at h8;exact q L8 H8 (none_of (s1.trans s7) hL8) (s1.trans (s7.trans s8)) ⟨us8,g8,(jZ h8).imp λ_ _ z=>z.same s8⟩
section
variable {X:Cx}{A0:Around}
theorem aUr (hu:A0.units+64<cLine)(h:X.K=K:=by rfl)(ha:X.A=A0:=by rfl):OpR X (compareOp .LtE) (bA9 K):=by subst h ha;exact aYl hu
theorem aUg (hu:A0.units+64<cLine)(h:X.K=K:=by rfl)(ha:X.A=A0:=by rfl):OpR X (compareOp .Gt) (aZ9 K):=by subst h ha;exact aSo hu
def aWl (K:bEX):R2:=λx y H Q=>∃(l:Addr) (us:List V) (rs:List (List V)) (q:List V),y=.ref l/\SqL K H l us/\Al2 (cT K H) us rs/\(∀r∈rs,uG r)/\cT K H x q/\uG q/\Q (.bl (decide (q∈rs))) H
theorem aVu (hu:A0.units+64<cLine)(h:X.K=K:=by rfl)(ha:X.A=A0:=by rfl):OpR X (compareOp .In) (aWl K):=by
 subst h ha;intro bE1 s σ H x y v u Q I rx ry h;obtain⟨l,us,rs,q,rfl,hl,h1,hf,hx,fq,k⟩:=h;cases ry;obtain⟨its,r1,pl,_⟩:=I.list hl;obtain⟨e,he,ha⟩:=aWh I (A:=X.A.in1) (show X.A.units+1+2<cLine by lia) r1 h1 hf hx fq rx;refine SeqAt.in_listAt e pl.isList (λy hy=>he y (by simpa using hy)) ?_;have z:its.toArray.any e=decide (q∈rs):=by rw[<-ha];simp
 rw[z];exact⟨.bl _,H,I,rfl,k⟩
end
theorem aEi {ks:List Bool}{rs:List (List V)}(h:∀r∈rs,KdR ks r):srt (srt rs)=srt rs:=(aBy h (lK h).1.symm).symm
def xV (K:bEX):Sp:=λvs H Q _=>∃(M R:Addr) (vh vp vm:V) (t:Tb) (mq:Mv) (m:Int) (n:Str) (h0:Int) (cs:List (V × Int)),vs=[.ref M]/\tM K H M vh vp R t vm/\uA K H vm mq/\pD m t/\t.pl=.spans n h0 cs/\∀L H',H L=none->Same H H'->cC K H' L ((srt t.rows).filter (iB t.hd n cs mq.num))->Q (.ref L) H'
theorem zF (T:Txt w K mg)(qO:Ok P w K mg base 1 "_law_spot" ["_law_head_here","_law_name"] (oA K))(rG:Ok P w K mg base 1 "_law_span" ["_law_cuts","_law_value_here"] (aB7 K)):Ok P w K mg base 2 "_law_of_span" ["_law_table"] (xV K):=by
 refine Ok.ofV T.aCg dD (λvs H Q E h=>?_) (λf cdv A outer s H vs Q E hr h=>?_)
 ·obtain⟨M,R,vh,vp,vm,t,mq,m,n,h0,cs,rfl,_⟩:=h;rfl
 obtain⟨M,R,vh,vp,vm,t,mq,m,n,h0,cs,rfl,⟨gM,hI,hpl,hRow⟩,⟨ma,vk,rfl,hma,_⟩,ok,epl,q⟩:=h;rw[epl] at hpl;obtain⟨b,vo,rfl,hb,hcc⟩:=hpl;obtain⟨us,gR,hus⟩:=id hRow;have okp:=ok.pl;rw[epl] at okp;obtain⟨hnn,kd,hk,hkd,okc⟩:=okp;have l8:=ok.hd.1.2.2;have few:=ok.few;refine⟨_,(aC (qK (vv 0) (aNs rfl (bF (aM (i:=1) dD.nd rfl (by trivial)) (bF (aM (i:=2) dD.nd rfl (by trivial)) (bF (aM (i:=3) dD.nd rfl (by trivial)) (bF (aM (i:=4) dD.nd rfl (by trivial)) fM)))))) (aC (aX (i:=5) dD.nd rfl (by trivial) (aO (qO.mono (by decide)) hr (by rfl) (aB (vv 1) (aB (aP bH (vv 2) aF (λ_ _=>rfl)) aA)))) (aG (aL (aK fC (by rfl) T.fH dO (aB (cJ (N:=["_law_row_here","_law_move","_law_placing","_law_spot_here"]) (by trivial) (dX (aD jC) rfl (by decide +kernel)) rfl (dR (vv 3)) (λcl s' H' fp=>⟨(aM (i:=0) (show (["_law_row_here","_law_move","_law_placing","_law_spot_here"]:List Str).Nodup from by decide +kernel) rfl (Or.inl rfl)),(lO (bC fK (aO (rG.mono (by decide)) hr (by rfl) (aB (aP (bO (K:=K)) (vv 2) aF (λ_ _=>rfl)) (aB (aP (bO (K:=K)) (vv 0) (vv 3) (λ_ _=>rfl)) aA))) (aP (bO (K:=K)) (vv 1) aF (λ_ _=>rfl)) (aY _))),(vv 0)⟩)) aA)))))),?_⟩;refine⟨_,rfl,M,_,rfl,SqL.of gM,rfl,_,_,rfl,_,_,rfl,_,_,rfl,_,_,rfl,rfl,?_⟩;refine⟨_,rfl,_,rfl,b,_,1,_,rfl,rfl,hb,at1 _ _ _,vh,n,t.hd,kd,rfl,hI,by lia,hk,λH1 s1=>?_⟩;dsimp only[cB,aEy,zA,sY,tCB,eQ,List.set,tK];refine iV [none,some (.ref ma),some (.ref b),some (.int (plc t.hd n:Nat))] (zW 4 2 5 (by decide +kernel) (by decide +kernel) (by decide +kernel) rfl rfl rfl rfl rfl rfl (by trivial) (by trivial) (by trivial)) ?_;refine⟨_,rfl,R,rfl,⟨_,SqL.of (s1 _ _ gR)⟩,pJ (hRow.same s1) (by lia) (iB t.hd n cs mq.num) rfl (λu r hr' H' R' l sm hru rr=>?_) λD7 H7 hN7 s7 hF7=>?_⟩
 ·obtain⟨ra,rfl,hra⟩:=hru;obtain⟨v,hv,hg,okv⟩:=aG6 (ok.rows r hr') hk;have s':=s1.trans sm;refine⟨_,rfl,b,_,2,_,rfl,rfl,s'.aV hb,at2 _ _ _ _,_,rfl,_,rfl,ra,r,_,v,rfl,rfl,hra,cL hv,vo,v,kd,m,h0,cs,rfl,qP.same s' (λ_ _ z=>z.same s') hcc,okc,okv,λH2 s2=>?_⟩;refine⟨_,rfl,ma,_,0,_,rfl,rfl,(s'.trans s2).aV hma,at0 _ _,rfl,_,rfl,?_⟩;have e:decide (V.int (jK v cs 1 0:Nat)=V.int mq.num)=iB t.hd n cs mq.num r:=by unfold iB;rw[hg];exact decide_eq_decide.mpr ⟨λz=>by have:=V.int.inj z;lia,λz=>by rw[z]⟩
  rw[e];exact rr H2 s2
 ·obtain⟨u7,g7,h7⟩:=hF7;have l7:=h7.len;have lf:=bAU (iB t.hd n cs mq.num) t.rows;have hkd':∀r∈t.rows,KdR (knds t.hd) r:=λr hr'=>jY (ok.rows r hr');refine⟨D7,u7,_,knds t.hd,rfl,SqL.of g7,cX h7,by lia,mU ok.hd.1,λr hr'=>hkd' r (List.mem_filter.mp hr').1,λL8 H8 us8 hL8 s8 g8 h8=>?_⟩;rw[uO hkd'] at h8;exact q L8 H8 (none_of (s1.trans s7) hL8) (s1.trans (s7.trans s8)) ⟨us8,g8,(jZ h8).imp λ_ _ z=>z.same s8⟩
def aA3 (K:bEX):Sp:=λvs H Q _=>∃(M R:Addr) (vh vp vm:V) (t:Tb) (mq:Mv) (m house:Int) (n:Str) (h0:Int) (cs:List (V × Int)),vs=[.ref M,.int m,.int house]/\tM K H M vh vp R t vm/\uA K H vm mq/\pD m t/\t.pl=.spans n h0 cs/\t.rows.length<=30/\(∀q,mq.mark=some q->pP t.hd q)/\∀L H',H L=none->Same H H'->cC K H' L (nA t.hd m house t.pl (some mq) n cs (srt t.rows))->Q (.ref L) H'
theorem aBs (T:Txt w K mg)(oX:Ok P w K mg base 2 "_law_stood" ["_law_table","_law_houses","_law_house"] (yJ K))(lM:Ok P w K mg base 2 "_law_of_span" ["_law_table"] (xV K)):Ok P w K mg base 3 "_law_stands" ["_law_table","_law_houses","_law_house"] (aA3 K):=by
 refine Ok.ofV T.aC1 iG (λvs H Q E h=>?_) (λf cdv A outer s H vs Q E hr h=>?_)
 ·obtain⟨M,R,vh,vp,vm,t,mq,m,house,n,h0,cs,rfl,_⟩:=h;rfl
 obtain⟨M,R,vh,vp,vm,t,mq,m,house,n,h0,cs,rfl,hM,hmv,ok,epl,few,hmk,q⟩:=h;have hU:=hr.units;obtain⟨ma,vk,rfl,hma,hk⟩:=id hmv;have hkd':∀r∈t.rows,KdR (knds t.hd) r:=λr hr'=>jY (ok.rows r hr');have hks:∀r∈srt t.rows,KdR (knds t.hd) r:=λr hr'=>hkd' r (jP hr');have ls:=zQ t.rows;refine⟨_,(aC (aX (i:=3) iG.nd rfl (by trivial) (aO (oX.mono (by decide)) hr (by rfl) (aB (vv 0) (aB (vv 1) (aB (vv 2) aA))))) (aC (aX (i:=4) iG.nd rfl (by trivial) (aP cN (vv 0) aF (λ_ _=>rfl))) (aC (cA (VW.pt (aSe (bC aGt (vv 4) kJ (aY _)) (aSe (bC fK (aP bH (vv 4) aF (λ_ _=>rfl)) (vv 2) (aY _)) (aVf (bC aGt (aP (bO (K:=K)) (vv 4) aF (λ_ _=>rfl)) kJ (aY _)))))) (aG (aX (i:=3) iG.nd rfl (by trivial) (bQ vG (vv 3) (cJ (N:=["_law_row_here","_law_move"]) (by trivial) (dX (aD jR) rfl (by decide +kernel)) rfl (dR (aO (lM.mono (by decide)) hr (by rfl) (aB (vv 0) aA))) (λcl s' H' fp=>⟨(aM (i:=0) (show (["_law_row_here","_law_move"]:List Str).Nodup from by decide +kernel) rfl (Or.inl rfl)),(lO (bC (aUr (K:=K) hU) (vv 0) (aP (bO (K:=K)) (vv 1) aF (λ_ _=>rfl)) (aY _))),(vv 0)⟩))))) aZ) (aG (aL (aK fC (by rfl) T.fH dO (aB (vv 3) aA))))))),?_⟩;refine⟨_,rfl,_,rfl,_,rfl,M,R,vh,vp,.ref ma,t,m,house,n,h0,cs,rfl,hM,ok,epl,λL H1 hL s1 hR=>?_⟩;have hM1:=hM.same s1;refine⟨_,rfl,M,_,3,_,rfl,rfl,SqL.of hM1.1,cL (j:=3) rfl,?_⟩;have fin:∀H2 L2 rs,Same H1 H2->cC K H2 L2 rs->rs.length<64->(∀r∈rs,KdR (knds t.hd) r)->srt rs=nA t.hd m house t.pl (some mq) n cs (srt t.rows)->aLt K [.ref L2] H2 Q:=λH2 L2 rs s2 ⟨us,g,hus⟩ l64 hkr e=>⟨L2,us,rs,knds t.hd,rfl,SqL.of g,cX hus,by have:=hus.len;lia,mU ok.hd.1,hkr,λL8 H8 us8 hL8 s8 g8 h8=>q L8 H8 (none_of (s1.trans s2) hL8) (s1.trans (s2.trans s8)) ⟨us8,g8,by rw[<-e];exact (jZ h8).imp λ_ _ z=>z.same s8⟩⟩;have f1:=bAU (λr=>cD t.hd m r house t.pl) (srt t.rows);have kst:∀r∈(srt t.rows).filter λr=>cD t.hd m r house t.pl,KdR (knds t.hd) r:=λr hr'=>hks r (List.mem_filter.mp hr').1;refine⟨_,rfl,rfl,_,rfl,nQ (by rw[v8 (λz=>by cases z)];rfl) ?_⟩;refine⟨_,rfl,ma,_,1,_,rfl,rfl,s1.aV hma,at1 _ _ _,_,rfl,rfl,_,rfl,?_⟩;by_cases hh:mq.house=house
 ·refine nQ (t6 (congrArg V.int hh)) ?_;have e7:nA t.hd m house t.pl (some mq) n cs (srt t.rows)=_:=if_pos hh;refine⟨_,rfl,ma,_,2,_,rfl,rfl,s1.aV hma,at2 _ _ _ _,rfl,_,rfl,?_⟩;cases hmm:mq.mark with
  |none=>rw[hmm] at hk e7;have hk:vk=.non:=hk;subst hk;refine gY rfl ⟨_,rfl,fin H1 L _ (Same.refl _) hR (by lia) kst ?_⟩;rw[e7,show ((srt t.rows).filter λr=>uM none r && iB t.hd n cs mq.num r)=[] from List.filter_eq_nil_iff.mpr λr _=>by show ¬ (false && _)=true;simp,bB9]
  |some r0=>
   rw[hmm] at hk e7;obtain⟨ka,rfl,hka⟩:=id hk;refine nQ (by rw[v8 (λz=>by cases z)];rfl) ?_;refine⟨_,rfl,?_⟩;refine iV [none,some (.ref ma)] (jT 4 (by decide +kernel) rfl rfl (by trivial)) ?_;refine⟨_,rfl,M,R,vh,vp,.ref ma,t,mq,m,n,h0,cs,rfl,hM1,hmv.same s1,ok,epl,λD2 H2 hD2 s2 hR2=>?_⟩;obtain⟨w2,g2,h2⟩:=id hR2;have f2:=bAU (iB t.hd n cs mq.num) (srt t.rows);refine⟨D2,rfl,⟨_,SqL.of g2⟩,pJ hR2 (by lia) (uM (some r0)) rfl (λu r hr' H' R' l sm hru rr=>?_) λD3 H3 hD3 s3 hR3=>?_⟩
   ·have s':=s1.trans (s2.trans sm);exact⟨_,rfl,_,rfl,ma,_,2,_,rfl,rfl,s'.aV hma,at2 _ _ _ _,knds t.hd,r,r0,hru,⟨ka,rfl,s'.aV hka⟩,hks r (List.mem_filter.mp hr').1,jY (hmk r0 hmm),_,rfl,rr H' (Same.refl _)⟩
   ·rw[bC5] at hR3;obtain⟨u1,g1,h1⟩:=hR.same (s2.trans s3);obtain⟨u3,g3,h3⟩:=hR3;have l1:=h1.len;have l3:=h3.len;have f3:=bAU (λr=>uM (some r0) r && iB t.hd n cs mq.num r) (srt t.rows);refine⟨L,D3,u1,u3,rfl,rfl,g1,g3,small (by lia),λR4 H4 hR4 s4 g4=>?_⟩;refine⟨_,rfl,fin H4 R4 _ (s2.trans (s3.trans s4)) ⟨_,g4,cU.app (h1.imp λ_ _ z=>z.same s4) (h3.imp λ_ _ z=>z.same s4)⟩ (by rw[bAG];lia) (λr hr'=>?_) e7.symm⟩;rcases List.mem_append.mp hr' with z|z
    ·exact kst r z
    ·exact hks r (List.mem_filter.mp z).1
 ·refine gY (v8 λz=>hh (V.int.inj z)) (bY ⟨_,rfl,fin H1 L _ (Same.refl _) hR (by lia) kst ?_⟩);have e7:nA t.hd m house t.pl (some mq) n cs (srt t.rows)=_:=if_neg hh;rw[e7,uO hks,aEi hkd']
theorem aM5 {X:Cx}{scope:Scope}{x y z:Str}{σ:L2.St}{u v:V}(i j:Nat)(hf:(y,NameKind.free)∈scope.names)(hg:(z,NameKind.free)∈scope.names)(hi:X.N[i]?=some y)(hj:X.N[j]?=some z)(hs:σ[i]?=some (some u))(ht:σ[j]?=some (some v))(hv:Vis X.env.scope y)(hw:Vis X.env.scope z):Cap X scope [x,y,z] σ [none,some u,some v]:=
 ⟨rfl,λn q r h1 h2=>by
  match n,h1,h2 with
  |0,_,h2=>cases h2
  |1,h1,h2=>cases h1;cases h2;exact⟨hf,i,hi,hs,hv⟩
  |2,h1,h2=>cases h1;cases h2;exact⟨hg,j,hj,ht,hw⟩
  |n+3,h1,_=>cases h1⟩
theorem aTk {n i:Nat}{x:V}(e:((List.range n).map λi:Nat=>V.int (0+(i:Int)))[i]?=some x):i<n/\x=.int (0+(i:Int)):=by
 have hi:i<n:=by have:=(List.getElem?_eq_some_iff.mp e).1;rw[j9,bAK] at this;exact this
 rw[v9,bB8 hi] at e;exact⟨hi,(bAN e).symm⟩
theorem aHq {X:Cx}{scope:Scope}{N:List Str}{ta:TA}{te:TE}{tt:TT}{g:TG}{σ:L2.St}{H:Hp}{Q:VK}(σ0:L2.St)(cap:Cap X scope N σ σ0)(h:ta σ H λvs H1=>∃j:Int,vs=[.int j]/\-(2 ^ 62)<=j/\j<2 ^ 62/\qW (Itr 0 j.toNat) H1 σ0 g tt te Q):kZ X scope N (aSf ta) g tt te σ H Q:=⟨σ0,cap,h⟩
theorem aMm {K:bEX}{H:Hp}{Pr:List V->Prop}:∀{ys:List V},(∀y∈ys,∃r,cT K H y r/\Pr r)->∃rs,cU (cT K H) ys rs/\∀r∈rs,Pr r
 |[],_=>⟨[],.nil,λr h=>by cases h⟩
 |y::ys,h=>by
  obtain⟨r,h1,h2⟩:=h y j8;obtain⟨rs,h3,h4⟩:=aMm (ys:=ys) λz hz=>h z (j6 _ hz);refine⟨r::rs,.cons h1 h3,λx hx=>?_⟩;rcases List.mem_cons.mp hx with rfl|hx
  ·exact h2
  ·exact h4 x hx
theorem aMy {k:Str}:∀{ys:List V},(∀y∈ys,cF k y)->∃ks:List Key,ys=ks.map kV/\∀x∈ks,cF k (kV x)
 |[],_=>⟨[],rfl,λx h=>by cases h⟩
 |y::ys,h=>by
  obtain⟨ks,e,hk⟩:=aMy (ys:=ys) λz hz=>h z (j6 _ hz);have hy:=h y j8;obtain⟨x,rfl⟩:∃x,y=kV x:=by
   cases hy with
   |num=>exact⟨.inl _,rfl⟩
   |wrd _ _=>exact⟨.inr _,rfl⟩
  refine⟨x::ks,by rw[e];rfl,λz hz=>?_⟩;rcases List.mem_cons.mp hz with rfl|hz
  ·exact hy
  ·exact hk z hz
theorem aP4 {k:Str}{ks:List Key}(h:∀x∈ks,cF k (kV x)):(∀x∈ks,∃n,x=Sum.inl n)\/∀x∈ks,∃n,x=Sum.inr n:=by
 by_cases hk:k = "number"
 ·refine .inl λx hx=>?_;cases x with
  |inl n=>exact⟨n,rfl⟩
  |inr n=>
   have:=h _ hx;rw[hk] at this;generalize hv:kV (Sum.inr n)=v at this;generalize hkk:("number":Str)=k0 at this;cases this with
   |num=>cases hv
   |wrd _ _=>exact absurd hkk (by decide)
 ·refine .inr λx hx=>?_;cases x with
  |inr n=>exact⟨n,rfl⟩
  |inl n=>
   have:=h _ hx;generalize hv:kV (Sum.inl n)=v at this;cases this with
   |num=>exact absurd rfl hk
   |wrd _ _=>cases hv
theorem aY1 {a b:Key}(h:ltK a b):vlt (kV a) (kV b)=true:=by cases a <;> cases b <;> first|exact t6 h|exact absurd h id
def bBj (J:It)(H:Hp)(σ:L2.St)(g:TG)(tb:TS)(D:Ends):Prop:=∃W:Nat->Nat->L2.St->Hp->Prop,(∃m,W 0 m σ H)/\∀i m σ H,W i m σ H ->
 (J.stop i H/\D.nx σ H)\/(J.go i H/\∃N:L2.St->Hp->Prop,(∀σ' H',N σ' H'->∃m',m'<m/\W (i+1) m' σ' H')/\∀x H',J.yld i H x H'->g x σ H' fun σ2 H2=>tb { D with nx:=N,ct:=N,bk:=D.nx } σ2 H2)
theorem aVe {g:TG}{tb:TS}{D:Ends}{σ:L2.St}{H:Hp}{tl:TE}(h:tl σ H λv H1=>∃a,v=.ref a/\(∃xs,SqL K H1 a xs)/\bBj (Itl K a) H1 σ g tb D):aZp (aEj K tl) g tb D σ H:=h
def aG8 (K:bEX)(C Pt:Addr):Sp:=λvs H Q _=>∃(a N:Addr) (ns:List Str),vs=[.ref a,.ref N,.int 20]/\kO H a/\H N=some (.lst (ns.map V.str))/\N≠a/\vW ns/\H Pt=some (.tab qC) /\
 ∀(t x M R d dm:Addr) (m:Int) (vh vp:V) (tb:Tb) (e:En) (n:Str) (h0:Int) (cs:List (V × Int)) H',Fx a H H'->SqT K H' t [.ref x,.ref M,.int m]->tM K H' M vh vp R tb .non->bZ K H' C x m d dm [e]->H' dm=some (.dK [])->some e.n=ns[0]?->e.t={ tb with rows:=srt tb.rows }->pD m tb->tb.rows.length<=20->tb.pl=.spans n h0 cs->2<=m->m<=4->H M=none->H R=none->H e.L=none->M≠R->e.L≠R->e.L≠M->Q (.ref t) H'
theorem sJ (T:Txt w K mg){C Pt:Addr}(aR:Ok P w K mg base 1 "_law_next" ["_law_state","_law_many"] pI)(aHl:Ok P w K mg base 2 "_law_head" ["_law_state","_law_names_here"] (aIs K))(oW:Ok P w K mg base 3 "_law_value" ["_law_state","_law_kind"] aGw)(aK3:Ok P w K mg base 4 "_law_row" ["_law_state","_law_head_here"] (aNw K))(GC_Store:OkC P w K mg base C 11 "Store" ["self","houses","tables"] (aH7 K C Pt)):Ok P w K mg base 13 "_law_spans_begun" ["_law_state","_law_names_here","_law_most"] (aG8 K C Pt):=by
 refine Ok.ofV T.uV bJ (λvs H Q E h=>?_) (λf cdv A outer s H vs Q E hr h=>?_)
 ·obtain⟨a,N,ns,rfl,_⟩:=h;rfl
 obtain⟨a,N,ns,rfl,hs,hN,nN,hn,hPt,q⟩:=h;have hu:=tG hr;have l17:=hn.1;have nPa:Pt≠a:=λz=>by obtain⟨_,e,_⟩:=hs;rw[z,e] at hPt;cases hPt
 refine⟨_,(aC (aX (i:=3) bJ.nd rfl (by trivial) (bQ eN aF (aO (aR.mono (by decide)) hr (by rfl) (aB (vv 0) (aB aF aA))))) (aC (aX (i:=4) bJ.nd rfl (by trivial) (aO (aHl.mono (by decide)) hr (by rfl) (aB (vv 0) (aB (vv 1) aA)))) (aC (qK (aP bH (vv 4) (aO (aR.mono (by decide)) hr (by rfl) (aB (vv 0) (aB (aK bA (by rfl) T.fJ cZ (aB (vv 4) aA)) aA))) (λ_ _=>rfl)) (xX rfl (bF (aM (i:=5) bJ.nd rfl (by trivial)) (bF (aM (i:=6) bJ.nd rfl (by trivial)) fM)))) (aC (aX (i:=7) bJ.nd rfl (by trivial) (fP (aB (dZ (aB kJ (aB (aO (aR.mono (by decide)) hr (by rfl) (aB (vv 0) (aB (vv 3) aA))) aA))) aA))) (aC (jF PassesOwn.never rfl (dR (aK (aEu rfl) (by rfl) T.fH dO (aB (cW (aOg rfl) (by rfl) T.aMx aE5 (aB (cJ (N:=["_law_k","_law_state","_law_kind"]) (by trivial) (dX (aD cY) rfl (by decide +kernel)) rfl (iC (by rfl) T.lE (aB (aO (aR.mono (by decide)) hr (by rfl) (aB (vv 0) (aB aF aA))) aA)) (λcl s' H' fp=>⟨(aM (i:=0) (show (["_law_k","_law_state","_law_kind"]:List Str).Nodup from by decide +kernel) rfl (Or.inl rfl)),gO,(aO (oW.mono (by decide)) hr (by rfl) (aB (vv 1) (aB (vv 2) aA)))⟩)) aA)) aA))) (aM (i:=8) bJ.nd rfl (by trivial)) (aG (mW (aDj PySem.F.plainAttrs_list PySem.F.slot_list_append PySem.F.type_list_append uJ (vv 7) (aB (dZ (aB (vv 8) (aB (aO (aR.mono (by decide)) hr (by rfl) (aB (vv 0) (aB (vv 3) aA))) aA))) aA))))) (aC (aX (i:=9) bJ.nd rfl (by trivial) (dZ (aB bN (aB (vv 5) (aB (cW rB (by rfl) T.iT eZ (aB (vv 7) aA)) aA))))) (aC (aGn (i0:=10) bJ.nd rfl (by trivial) (N:=["_law_k","_law_state","_law_head_here"]) (by trivial) (dX (aD cY) rfl (by decide +kernel)) rfl (iC (by rfl) T.lE (aB (aO (aR.mono (by decide)) hr (by rfl) (aB (vv 0) (aB (bQ eN (vv 2) aF) aA))) aA)) (λcl s' H' fp=>⟨(aM (i:=0) (show (["_law_k","_law_state","_law_head_here"]:List Str).Nodup from by decide +kernel) rfl (Or.inl rfl)),gO,(aO (aK3.mono (by decide)) hr (by rfl) (aB (vv 1) (aB (vv 2) aA)))⟩)) (aC (aX (i:=11) bJ.nd rfl (by trivial) (aMn (GC_Store.mono (by decide)) hr (by rfl) (aB (vv 3) (aB (aVn (aSv (aP cN (vv 1) aF (λ_ _=>rfl)) (dZ (aB (vv 4) (aB (vv 9) (aB (vv 10) aA)))) aTy) rfl rfl (by simp) (by decide)) aA)))) (aG (aL (dZ (aB (vv 11) (aB (fP (aB (vv 4) (aB (vv 9) (aB (cW aB6 (by rfl) T.aEv zV (aB (vv 10) aA)) (aB kJ aA))))) (aB (vv 3) aA)))))))))))))),?_⟩;refine⟨_,rfl,a,3,rfl,hs,by decide,λz3 H1 f1 w0 w1=>⟨_,_,rfl,rfl,?_⟩⟩;obtain⟨m,em⟩:∃m:Int,m=2+z3:=⟨_,rfl⟩;show cB 3 (V.int (2+z3)) _ _ _;rw[<-em];have m2:2<=m:=by lia
 have m4:m<=4:=by lia
 refine⟨_,rfl,_,rfl,a,N,ns,rfl,f1.st,f1.same _ _ nN hN,nN,hn,λvh H2 hd f2 hI hok _=>?_⟩;obtain⟨b,us,rfl,hb,hu'⟩:=id hI;have lu:=hu'.len;have l1:=hok.1.2.1;have l8:=hok.1.2.2;refine⟨_,rfl,_,rfl,_,rfl,b,us,rfl,.inr hb,a,_,rfl,f2.st,⟨by lia,by lia⟩,λz H3 f3 z0 z1=>?_⟩;obtain⟨zi,rfl⟩:∃zi:Nat,z=zi:=⟨z.toNat,by lia⟩;have hz:zi<us.length:=by lia
 obtain⟨c,hc,pc,epc,hpc⟩:=cM hu' (d7 hz);refine⟨b,us,_,.ref pc,rfl,rfl,f3.aV f2.st hb,cL (by rw[d7 hz,epc]),?_⟩;have hcm:=v6 hc;have lk:=aSn hok.1.1 hcm;obtain⟨nmc,kdc⟩:=hok.2 c hcm;refine⟨pc,_,rfl,f3.aV f2.st hpc,rfl,_,_,rfl,_,_,rfl,rfl,?_⟩;have f13:=f1.trans (f2.trans f3);refine⟨_,rfl,_,rfl,a,m,rfl,f3.st,⟨by lia,by lia⟩,λh0 H4 f4 h00 h01=>?_⟩;refine⟨by show 2<=sizeLine;decide,λt1 H5 _ s5 g5=>⟨by show 1<=sizeLine;decide,λCc H6 hC s6 g6=>?_⟩⟩;have f14:=f13.trans f4;have f16:=(f14.sm s5).sm s6;have nCa:Cc≠a:=(f14.sm s5).st.ne hC;have hC0:H Cc=none:=f14.free (none_of s5 hC);dsimp only[cB,List.set];refine aVe ?_;dsimp only[tCB,eQ];refine aHq [none,some (.ref a),some (.str c.2)] (aM5 0 6 (by decide +kernel) (by decide +kernel) rfl rfl rfl rfl (by trivial) (by trivial)) ?_;refine⟨_,rfl,a,4,rfl,f16.st,by decide,λz H7 f7 z0' z1'=>?_⟩;refine⟨z,rfl,by lia,by lia,?_⟩;refine aJa (Fx a) (aQh f7.st) ((List.range z.toNat).map λi:Nat=>V.int (0+(i:Int))) (λ_=>true) (λ_ _ y=>cF c.2 y) (λ_ _ h=>h) (λ_ _ _ h=>h) (λi σ=>∃x,σ=[some x,some (.ref a),some (.str c.2)]) (fun σ=>∃l,σ=[l,some (.ref a),some (.str c.2)]) ⟨none,rfl⟩ (small (by rw[j9,bAK];lia)) (Itr 0 z.toNat) (λH' i x _ ex=>?_) (λH' _=>?_) (λi x σ' H' Q' ex ps f' r=>?_) (λi x σ2 ex at2 H' R f' r=>r H' (Fx.refl f'.st)) (λi x σ2 ex at2 _ H' R f' r=>?_) λL H8 ys f8 fL gL hys=>?_
 ·obtain⟨hi,rfl⟩:=aTk ex;exact⟨hi,λy H2 hy=>hy⟩
 ·show z.toNat<=_;rw[j9,bAK];exact j0 _
 ·obtain⟨l,rfl⟩:=ps;exact r _ ⟨some x,rfl⟩ ⟨x,rfl⟩
 ·obtain⟨x',rfl⟩:=at2;exact⟨_,rfl,_,rfl,a,c.2,rfl,f'.st,kdc,λv H2 f2 hv=>r v H2 f2 hv⟩
 rw[qZ,j9,bAK] at hys;obtain⟨ly,hy⟩:=oV hys;have f18:=f16.trans (f7.trans f8);obtain⟨ks,rfl,hks⟩:=aMy (k:=c.2) (ys:=ys) λy hm=>by obtain⟨i,hi⟩:=List.mem_iff_getElem?.mp hm;exact hy i y hi
 rw[j9] at ly;have gC8:=(f7.trans f8).same _ _ nCa g6;refine⟨L,ks,rfl,SqL.of gL,by lia,λD H10 kl hND s10 gD ded=>?_⟩;have hkl:∀x∈kl,cF c.2 (kV x):=λx hx=>hks x ((ded.2.1 x).mp hx);have lkl:=ded.2.2;refine⟨D,kl,rfl,gD,by lia,ded.1,aP4 hkl,λB H11 ks' hNB s11 gB perm pw=>?_⟩;have lks:=perm.length_eq;have f111:=(f18.sm s10).sm s11;have gC11:=s11 _ _ (s10 _ _ gC8);have hB0:H B=none:=f18.free (none_of s10 hNB);have nBa:B≠a:=hs.ne hB0;have nBC:B≠Cc:=λz=>by rw[z,s10 _ _ gC8] at hNB;cases hNB
 have ht1:SqT K H11 t1 [.non,.int h0]:=s11.aV (s10.aV ((f7.trans f8).aV f16.st (s6.aV (SqT.of g5))));refine⟨B,rfl,⟨_,SqL.of gB⟩,aJx (xs:=ks'.map kV) (λi σ H'=>Fx a H H'/\H' B=some (.lst (ks'.map kV))/\∃us' cs l,H' Cc=some (.lst us')/\cU (jU K H') us' ((.non,h0)::cs)/\cs.map (·.1)=(ks'.take i).map kV/\(∀x∈cs,0<=x.2/\x.2<m)/\kI K H' (.ref b) hd/\σ=[some (.ref a),some (.ref N),some (.int 20),some (.int m),some (.ref b),some (.str c.1),some (.str c.2),some (.ref Cc),l,none,none,none]) ⟨f111,gB,_,[],none,gC11,.cons ⟨t1,rfl,ht1⟩ .nil,rfl,λx hx=>(by cases hx),?_,rfl⟩ (λi σ H' _ p=>SqL.of p.2.1) (λi x σ H' ex p=>?_) fun σ H' p=>?_⟩
 ·have h1:kI K H4 (.ref b) hd:=hI.tk ((f3.trans f4).tk f2.st);have h2:kI K H8 (.ref b) hd:=((h1.same s5).same s6).tk ((f7.trans f8).tk f16.st);exact (h2.same s10).same s11
 ·obtain⟨fx,gB',us',cs,l,gC',hcu,ecs,hcb,hI',rfl⟩:=p;rw[v9] at ex;obtain⟨key,hkey,rfl⟩:=Option.map_eq_some_iff.mp ex;have lcu:=hcu.len;have lcs:cs.length<=4:=by have:=congrArg List.length ecs;rw[j9,j9,bAM] at this;lia
  rw[v7] at lcu;refine⟨_,rfl,.inl ⟨rfl,_,SqL.of gC'⟩,_,rfl,_,rfl,_,rfl,a,m,rfl,fx.st,⟨by lia,by lia⟩,λhh H12 f12' hh0 hh1=>?_⟩;refine⟨by show 2<=sizeLine;decide,λt2 H13 hN13 s13 g13=>?_⟩;have gC13:=s13 _ _ (f12'.same _ _ nCa gC');have gB13:=s13 _ _ (f12'.same _ _ nBa gB');have ntC:t2≠Cc:=λz=>by rw[z,f12'.same _ _ nCa gC'] at hN13;cases hN13
  refine⟨Cc,_,_,rfl,rfl,gC13,sH (by lia),?_⟩;have kz:KP K (λb=>b≠Cc) H13 (L2.upd H13 Cc (.lst (us'++[.ref t2]))):=.nU gC13 λz=>z rfl;refine⟨((fx.trans f12').sm s13).upd hC0 nCa,by rw[aN nBC];exact gB13,us'++[.ref t2],cs++[(kV key,hh)],some (kV key),aH,?_,?_,λx hx=>?_,((hI'.tk (f12'.tk fx.st)).same s13).tk kz.tk,rfl⟩
  ·rw[<-List.cons_append];exact (hcu.imp λ_ _ ⟨p',ep,hp⟩=>⟨p',ep,(s13.aV (f12'.aV fx.st hp)).nU gC13⟩).app (.cons ⟨t2,rfl,SqT.of (by rw[aN ntC];exact g13)⟩ .nil)
  ·rw[bCQ,ecs,bBH,hkey,bCQ];rfl
  ·rcases List.mem_append.mp hx with hx|hx
   ·exact hcb x hx
   ·rw[bEN] at hx;subst hx;exact⟨hh0,hh1⟩
 ·obtain⟨fx,gB',us',cs,l,gC',hcu,ecs,hcb,hI',rfl⟩:=p;rw[j9,bCN] at ecs;have lcs:cs.length=ks'.length:=by have:=congrArg List.length ecs;rw[j9,j9] at this;exact this
  refine⟨_,rfl,_,rfl,Cc,us',rfl,SqL.of gC',λt3 H12 _ s12 g12=>⟨by show 3<=sizeLine;decide,λt4 H13 _ s13 g13=>?_⟩⟩;have s1213:=s12.trans s13;have fx13:=fx.sm s1213;have hpl:qQ K H13 (.ref t4) (.spans c.1 h0 cs):=⟨t4,.ref t3,rfl,SqT.of g13,t3,us',rfl,s13.aV (SqT.of g12),hcu.imp λ_ _ z=>z.same s1213⟩;have plok:aUs hd m (.spans c.1 h0 cs):=⟨nmc,c.2,lk,kdc,⟨h00,h01⟩,λx hx=>⟨by have:x.1∈cs.map (·.1):=bEJ hx;rw[ecs] at this;obtain⟨key,hk1,hk2⟩:=List.mem_map.mp this;rw[<-hk2];exact hkl key (perm.mem_iff.mp hk1),hcb x hx⟩,by rw[ecs];exact List.pairwise_map.mpr (pw.imp λh=>aY1 h),by lia⟩
  have hI13:=hI'.same s1213;clear hcu gB' gC' g12 g13;dsimp only[cB,aEy,zA,List.set];refine aHq [none,some (.ref a),some (.ref b)] (aM5 0 4 (by decide +kernel) (by decide +kernel) rfl rfl rfl rfl (by trivial) (by trivial)) ?_;refine⟨_,rfl,_,rfl,_,_,rfl,rfl,a,_,rfl,fx13.st,(by show (0:Int)<20+1/\(20:Int)+1<2 ^ 64;decide),λy H14 f14' y0 y1=>?_⟩;have y1:y<20+1:=y1;refine⟨y,rfl,by lia,by lia,?_⟩;have hI14:=hI13.tk (f14'.tk (K:=K) fx13.st);refine aJa (Fx a) (aQh f14'.st) ((List.range y.toNat).map λi:Nat=>V.int (0+(i:Int))) (λ_=>true) (λ_ H' y=>∃r,cT K H' y r/\pP hd r) (λf1 f2 ⟨r,⟨p,e,hp⟩,h⟩=>⟨r,⟨p,e,f2.aV f1.st hp⟩,h⟩) (λ_ _ gD ⟨r,⟨p,e,hp⟩,h⟩=>⟨r,⟨p,e,SqT.nU gD hp⟩,h⟩) (λi σ=>∃x,σ=[some x,some (.ref a),some (.ref b)]) (fun σ=>∃l,σ=[l,some (.ref a),some (.ref b)]) ⟨none,rfl⟩ (small (by rw[j9,bAK];lia)) (Itr 0 y.toNat) (λH' i x _ ex=>?_) (λH' _=>?_) (λi x σ' H' Q' ex ps f' r=>?_) (λi x σ2 ex at2 H' R f' r=>r H' (Fx.refl f'.st)) (λi x σ2 ex at2 _ H' R f' r=>?_) λL15 H15 ys f15 fL15 gL15 hys=>?_
  ·obtain⟨hi,rfl⟩:=aTk ex;exact⟨hi,λy H2 hy=>hy⟩
  ·show y.toNat<=_;rw[j9,bAK];exact j0 _
  ·obtain⟨l,rfl⟩:=ps;exact r _ ⟨some x,rfl⟩ ⟨x,rfl⟩
  ·obtain⟨x',rfl⟩:=at2;exact⟨_,rfl,_,rfl,a,.ref b,hd,rfl,f'.st,hI14.tk (f'.tk f14'.st),hok,λt H2 r' f2 g2 hk=>r _ H2 f2 ⟨r',⟨t,rfl,SqT.of g2⟩,hk⟩⟩
  rw[qZ,j9,bAK] at hys;obtain⟨ly15,hy15⟩:=oV hys;obtain⟨rows,hrow,hkd⟩:=aMm (ys:=ys) λy hm=>by obtain⟨i,hi⟩:=List.mem_iff_getElem?.mp hm;exact hy15 i y hi
  have lrow:=hrow.len;have f1315:=f14'.trans f15;have fx15:=fx13.trans f1315;have hL0:H L15=none:=fx13.free (f14'.free fL15);have nLa:L15≠a:=hs.ne hL0;have tk15:=f1315.tk (K:=K) fx13.st;have hI15:=hI13.tk tk15;have hpl15:=hpl.tk tk15;have hN15:=fx15.same _ _ nN hN;obtain⟨n0,hn0⟩:∃n0,ns[0]?=some n0:=⟨_,d7 (by lia)⟩;refine⟨_,rfl,λp hp=>?_⟩;have sp:Same H15 (L2.upd H15 p (.dK [])):=aW hp _;have gp:L2.upd H15 p (.dK []) p=some (.dK []):=aH;generalize L2.upd H15 p (.dK [])=H16 at sp gp ⊢;refine⟨_,rfl,N,_,0,.str n0,rfl,rfl,SqL.of (sp _ _ hN15),cL (j:=0) (by rw[v9,hn0];rfl),_,rfl,_,rfl,_,rfl,by show 3<=sizeLine;decide,λt17 H17 ht17 s17 g17=>?_⟩;refine⟨s17 _ _ gp,[(Sum.inr n0,.ref t17)],rfl,by show 1<=15;decide,?_⟩;have em:lZ [] [((Sum.inr n0:Key),V.ref t17)]=[(Sum.inr n0,.ref t17)]:=rfl;rw[em];obtain⟨e0,ee0⟩:∃e0:En,e0=⟨n0,.ref t17,.ref b,.ref t4,L15,⟨hd,.spans c.1 h0 cs,rows⟩⟩:=⟨_,rfl⟩;have s1517:=sp.trans s17;have tbo:pD m ⟨hd,.spans c.1 h0 cs,rows⟩:=⟨hok,plok,by show rows.length<=60;lia,hkd⟩;have nz17:eU H17 p:=eU.dK (s17 _ _ gp);have b17:But p H17 (L2.upd H17 p (.dK [(Sum.inr n0,.ref t17)])):=But.upd;have g18:L2.upd H17 p (.dK [(Sum.inr n0,.ref t17)]) p=some (.dK [(Sum.inr n0,.ref t17)]):=aH;have s1518:Same H15 (L2.upd H17 p (.dK [(Sum.inr n0,.ref t17)])):=lV hp s1517;have g17':L2.upd H17 p (.dK [(Sum.inr n0,.ref t17)]) t17=some (.tup [.ref b,.ref t4,.ref L15]):=b17 _ _ (λz=>by rw[z,s17 _ _ gp] at g17;cases g17) g17;generalize L2.upd H17 p (.dK [(Sum.inr n0,.ref t17)])=H18 at b17 g18 s1518 g17' ⊢;have hR18:cC K H18 L15 rows:=⟨ys,s1518 _ _ gL15,hrow.imp λ_ _ z=>z.same s1518⟩;have hE18:lX K H18 p [e0]:=by
   rw[ee0];refine⟨g18,List.nodup_cons.mpr ⟨(λh=>by cases h),List.nodup_nil⟩,by show 1<=60;decide,λy hy=>?_,λy hy=>?_⟩
   ·rw[List.mem_singleton.mp hy];exact hn.2.1 _ (v6 hn0)
   ·rw[List.mem_singleton.mp hy];exact⟨t17,rfl,SqT.of g17',hI15.same s1518,hpl15.same s1518,hR18⟩
  have hP18:H18 Pt=some (.tab qC):=s1518 _ _ (fx15.same _ _ nPa hPt);intro x dx hx0 hdx0 hne;refine⟨H18,x,dx,p,m,[e0],rfl,aH,hx0,lV hx0 (aW hdx0 _),by lia,by lia,hE18,λy hy=>by rw[List.mem_singleton.mp hy,ee0];exact tbo,hP18,λd' dm H19 es' hd' hdm s19 hS gdm a1=>⟨rfl,?_⟩⟩;obtain⟨v',L',rfl,hL'⟩:∃v' L',es'=[aBf e0 v' L']/\H18 L'=none:=by
   cases a1 with
   |cons r t=>cases t;obtain⟨v',L',e1,e2⟩:=r;exact⟨v',L',by rw[e1],e2⟩
  refine⟨_,rfl,_,rfl,_,rfl,_,rfl,L15,ys,rfl,.inl (SqL.of (s19 _ _ (s1518 _ _ gL15))),λR H20 hR s20 gR=>?_⟩;refine⟨by show 4<=sizeLine;decide,λM H21 hM s21 gM=>?_⟩;refine⟨_,rfl,by show 3<=sizeLine;decide,λt22 H22 _ s22 g22=>?_⟩;have s1522:=s1518.trans (s19.trans (s20.trans (s21.trans s22)));have sb:=s20.trans (s21.trans s22);have fr:∀{b},H18 b=none->H b=none:=λh=>fx15.free (none_of s1518 h);have hLL:∃us,H19 L'=some (.lst us):=by obtain⟨_,_,_,_,_,⟨us,h3,_⟩⟩:=hS.ens.tb _ j8;exact⟨us,h3⟩
  obtain⟨usL,gLL⟩:=hLL;refine q t22 x M R d' dm m (.ref b) (.ref t4) ⟨hd,.spans c.1 h0 cs,rows⟩ (aBf e0 v' L') c.1 h0 cs H22 (fx15.sm s1522) (SqT.of g22) ⟨s22 _ _ gM,hI15.same s1522,hpl15.same s1522,ys,s22 _ _ (s21 _ _ gR),hrow.imp λ_ _ z=>z.same s1522⟩ (hS.same sb) (sb _ _ gdm) (by rw[ee0];exact hn0.symm) (by rw[ee0];rfl) tbo (by show rows.length<=20;lia) rfl m2 m4 (fr (none_of (s19.trans s20) hM)) (fr (none_of s19 hR)) (fr hL') ?_ ?_ ?_
  ·exact λz=>by rw[z,gR] at hM;cases hM
  ·exact λz=>by have z:L'=R:=z;rw[<-z,gLL] at hR;cases hR
  ·exact λz=>by have z:L'=M:=z;rw[<-z,s20 _ _ gLL] at hM;cases hM
end
end My
namespace PySem
section
variable {prog:Program}{w:World}{κ:Type}[DecidableEq κ]{knd:KeyKind prog w κ}{A:Around}{E:bEY}{s:Shared}
open PySem.Spec PySem.Calls PyProof.Rows L2
end
end PySem
namespace L2
open PySem PySem.Spec PyProof.Rows
section
variable {X:Cx}
end
section
variable {P:Program}{w:World}
open AutoSeq1 (wpAny_loadPart')
open MeetsSeq MeetsSeq2 MeetsSeq3
end
section
variable {X:Cx}{bE1:bEZ}{σ:L2.St}{H:Hp}{s:Shared}
end
end L2
namespace PySem
namespace LR
end LR
section
variable {prog:Program}{w:World}{A:Around}{E:bEY}{s:Shared}
open PySem.Calls PyProof.Rows
end
end PySem
namespace L2
open PySem PySem.Spec PyProof.Rows
section
variable {X:Cx}
def aZn (K:bEX):R2:=λx y H Q=>∃(a b:Addr) (us:List V),x=.ref a/\y=.ref b/\SqL K H a us/\SqL K H b []/\Q (.bl (!us.isEmpty)) H
theorem aRm (hu':X.A.units+64<cLine):OpR X (compareOp .NotEq) (aZn X.K):=by
 intro bE1 s σ H x y v u Q I rx ry h;have hu:X.A.units<cLine:=by lia
 obtain⟨a,b,us,rfl,rfl,ha,hb,q⟩:=h;cases rx;cases ry;obtain⟨its,r1,pl,hz⟩:=I.list ha;obtain⟨jts,r2,pm,hw⟩:=I.list hb;cases r2;cases r1 with
 |nil=>refine SeqAt.RcNeAt.lists (e:=λ_=>true) pl.isList pm.isList rfl hu (λj h1 h2=>by simp at h1) _ _ _ _ ?_;exact⟨.bl _,H,I,rfl,q⟩
 |cons r t=>exact SeqAt.RcNeAt.lists_lengths pl.isList pm.isList (by simp) hu _ _ _ _ ⟨.bl _,H,I,rfl,q⟩
end
end L2
namespace My
open PySem PySem.Spec PyProof.Rows L2
section
variable {P:Program}{w:World}{K:bEX}{mg:bE0}{base:Heap}
theorem aHm {kd:Str}{v:V}(h:cF kd v):jW v=true:=by cases h <;> rfl
theorem aO0 {H:Hp}{us ws:List V}{cs:List (V × Int)}(hf:∀c∈cs,jW c.1=true)(h:cU (jU K H) us cs)(h':cU (jU K H) ws cs):Al2 (DEq K H 39) us ws:=by
 induction h generalizing ws with
 |nil=>cases h';exact .nil
 |cons r _ ih=>
  cases h' with
  |cons r' t'=>obtain⟨p,rfl,hp⟩:=r;obtain⟨p',rfl,hp'⟩:=r';exact .cons (.inr ⟨p,p',_,_,rfl,rfl,hp,hp',.cons (.inl ⟨hf _ j8,rfl⟩) (.cons (.inl ⟨rfl,rfl⟩) .nil)⟩) (ih (λc hc=>hf c (j6 _ hc)) t')
theorem aTu {H:Hp}{v v':V}{n kd:Str}{m h0:Int}{cs:List (V × Int)}(h:qQ K H v (.spans n h0 cs))(h':qQ K H v' (.spans n h0 cs))(ok:aF0 kd m h0 cs):∃a b xs ys,v=.ref a/\v'=.ref b/\SqT K H a xs/\SqT K H b ys/\Al2 (DEq K H 40) xs ys:=by
 obtain⟨a,vc,rfl,ha,⟨c,us,rfl,hc,hu⟩⟩:=h;obtain⟨b,vd,rfl,hb,⟨c',ws,rfl,hc',hw⟩⟩:=h';refine⟨a,b,_,_,rfl,rfl,ha,hb,.cons (.inl ⟨rfl,rfl⟩) (.cons (.inl ⟨rfl,rfl⟩) (.cons (.inr ⟨c,c',us,ws,rfl,rfl,hc,hc',aO0 (λx hx=>?_) hu hw⟩) .nil))⟩;rcases List.mem_cons.mp hx with rfl|hx
 ·rfl
 ·exact aHm (ok.each x hx).1
theorem aWy {H H':Hp}{a:Addr}(h:kO H a)(k:∀o,H a=some o->H' a=some o):kO H' a:=by obtain⟨s,e,r⟩:=h;exact⟨s,k _ e,r⟩
structure Sy (K:bEX)(H:Hp)(C x:Addr)(m:Int)(d dm M R:Addr)(e:En)(vh vp vm:V)(t:Tb)(n:Str)(h0:Int)(cs:List (V × Int))(mq:Mv):Prop where
 st:bZ K H C x m d dm [e]
 md:tM K H M vh vp R t vm
 mv:MvD K H dm e.n (some mq)
 vm:uA K H vm mq
 et:e.t={ t with rows:=srt t.rows }
 ok:pD m t
 pl:t.pl=.spans n h0 cs
 mk_:∀q,mq.mark=some q->pP t.hd q
 few:t.rows.length<=20
 m2:2<=m
 m4:m<=4
 n1:M≠R
 n3:e.L≠M
theorem Sy.same {H H':Hp}{C x d dm M R:Addr}{m:Int}{e:En}{vh vp vm:V}{t:Tb}{n:Str}{h0:Int}{cs:List (V × Int)}{mq:Mv}(s:Same H H')(h:Sy K H C x m d dm M R e vh vp vm t n h0 cs mq):Sy K H' C x m d dm M R e vh vp vm t n h0 cs mq:=
 ⟨h.st.same s,h.md.same s,h.mv.same s,h.vm.same s,h.et,h.ok,h.pl,h.mk_,h.few,h.m2,h.m4,h.n1,h.n3⟩
theorem aYu {H:Hp}{hd:Hdr}{v v':V}{mq:Mv}(h:uA K H v mq)(h':uA K H v' mq)(ok:∀q,mq.mark=some q->pP hd q):∃a b xs ys,v=.ref a/\v'=.ref b/\SqT K H a xs/\SqT K H b ys/\Al2 (DEq K H 40) xs ys:=by
 obtain⟨a,u,rfl,ha,hu⟩:=h;obtain⟨b,u',rfl,hb,hu'⟩:=h';refine⟨a,b,_,_,rfl,rfl,ha,hb,.cons (.inl ⟨rfl,rfl⟩) (.cons (.inl ⟨rfl,rfl⟩) (.cons ?_ .nil))⟩;cases hm:mq.mark with
 |none=>rw[hm] at hu hu';cases hu;cases hu';exact .inl ⟨rfl,rfl⟩
 |some r=>rw[hm] at hu hu';obtain⟨p,rfl,hp⟩:=hu;obtain⟨p',rfl,hp'⟩:=hu';exact .inr ⟨p,p',r,r,rfl,rfl,hp,hp',aGs (λx hx=>aTn (jY (ok r hm)) x hx) 39⟩
def aNq (K:bEX)(C:Addr):Sp:=λvs H Q _=>∃(st x d dm M R:Addr) (m:Int) (e:En) (vh vp:V) (t:Tb) (n:Str) (h0:Int) (cs:List (V × Int)),vs=[.ref st,.ref x,.str e.n,.ref M,.int m]/\kO H st/\bZ K H C x m d dm [e]/\H dm=some (.dK [])/\tM K H M vh vp R t .non/\e.t={ t with rows:=srt t.rows }/\pD m t/\t.pl=.spans n h0 cs/\t.rows.length<=20/\2<=m/\m<=4/\M≠st/\R≠st/\e.L≠st/\M≠R/\e.L≠M /\
 ∀vm mq H',KP K (λb=>b≠st/\b≠M/\b≠dm) H H'->kO H' st->Sy K H' C x m d dm M R e vh vp vm t n h0 cs mq->Q (.bl true) H'
theorem aGq (T:Txt w K mg){C:Addr}(aR:Ok P w K mg base 1 "_law_next" ["_law_state","_law_many"] pI)(GM_Store_moving:OkM P w K mg base C 4 "moving" ["self","name"] (rY K C))(GM_Store_lend:OkM P w K mg base C 5 "lend" ["self","name","number","house"] (aNk K C)):Ok P w K mg base 6 "_law_lent" ["_law_state","_law_store","_law_name","_law_table","_law_houses"] (aNq K C):=by
 refine Ok.ofV T.aIt lB (λvs H Q E h=>?_) (λf cdv A outer s H vs Q E hr h=>?_)
 ·obtain⟨st,x,d,dm,M,R,m,e,vh,vp,t,n,h0,cs,rfl,_⟩:=h;rfl
 obtain⟨st,x,d,dm,M,R,m,e,vh,vp,t,n,h0,cs,rfl,hs,hS,gm,hM,et,ok,epl,few,m2,m4,nM,nR,nL,nMR,nLM,q⟩:=h;refine⟨_,(aC (aX (i:=5) lB.nd rfl (by trivial) (aO (aR.mono (by decide)) hr (by rfl) (aB (vv 0) (aB (aK bA (by rfl) T.fJ cZ (aB (aP bH (aP cN (vv 3) aF (λ_ _=>rfl)) aF (λ_ _=>rfl)) aA)) aA)))) (aC (aX (i:=6) lB.nd rfl (by trivial) (aP bH (aP bH (aP bH (aP cN (vv 3) aF (λ_ _=>rfl)) aF (λ_ _=>rfl)) (vv 5) (λ_ _=>rfl)) aF (λ_ _=>rfl))) (aC (aX (i:=7) lB.nd rfl (by trivial) (bQ pG (bQ eN (bQ eN (vv 6) aF) (aO (aR.mono (by decide)) hr (by rfl) (aB (vv 0) (aB (bQ aBa (vv 4) aF) aA)))) (vv 4))) (aC (qK (dZ (aB (vv 5) (aB (vv 7) (aB kJ aA)))) (aL2 (vv 3) aF set_list)) (aG (aL (gJ (cQ aCc (eE (GM_Store_moving.mono (by decide)) hr (vv 1) (aB (vv 2) aA)) kJ (aY _)) (gK (cQ aCc (eE (GM_Store_lend.mono (by decide)) hr (vv 1) (aB (vv 2) (aB (vv 5) (aB (vv 7) aA)))) kJ (aY _)))))))))),?_⟩;obtain⟨gM,hI,hpl,hRow⟩:=id hM;have okp:=ok.pl;rw[epl] at hpl okp;obtain⟨b,vo,rfl,hb,⟨ca,cu,rfl,hca,hcu⟩⟩:=id hpl;obtain⟨_,kd,_,_,okc⟩:=okp;have lc:=hcu.len;rw[v7] at lc;have lf:=okc.few;refine⟨_,rfl,_,rfl,M,_,1,_,rfl,rfl,SqL.of gM,at1 _ _ _,b,_,2,_,rfl,rfl,hb,at2 _ _ _ _,ca,cu,rfl,.inr hca,st,_,rfl,hs,⟨by lia,by lia⟩,λz H1 f1 z0 z1=>?_⟩;obtain⟨num,rfl⟩:∃num:Nat,z=num:=⟨z.toNat,by lia⟩;have hlt:num<cu.length:=by lia
 obtain⟨c0,hc0,pc,epc,hpc⟩:=cM hcu (d7 hlt);have ch:zZ num h0 cs=c0.2:=by unfold zZ;rw[j4,v9,hc0];rfl
 have cb:0<=c0.2/\c0.2<m:=by
  rcases List.mem_cons.mp (v6 hc0) with e1|e1
  ·rw[e1];exact okc.first
  ·exact (okc.each c0 e1).2
 have gM1:=f1.same _ _ nM gM;have tk1:=f1.tk (K:=K) hs;refine⟨_,rfl,M,_,1,_,rfl,rfl,SqL.of gM1,at1 _ _ _,b,_,2,_,rfl,rfl,tk1 _ _ hb,at2 _ _ _ _,_,rfl,ca,cu,_,cu[num],rfl,rfl,tk1 _ _ hca,cL (d7 hlt),pc,_,1,_,epc,rfl,tk1 _ _ hpc,at1 _ _ _,?_⟩;refine⟨_,rfl,_,_,rfl,rfl,_,rfl,_,rfl,_,_,rfl,rfl,st,m - 1,rfl,f1.st,⟨by lia,by lia⟩,λz H2 f2 z0' z1'=>⟨_,_,rfl,rfl,_,rfl,_,_,rfl,rfl,by lia,?_⟩⟩;have f12:=f1.trans f2;obtain⟨ho,eh⟩:∃ho:Int,ho=(c0.2+1+z) % m:=⟨_,rfl⟩;show cB 7 (V.int ((c0.2+1+z) % m)) _ _ _;rw[<-eh];have hb0:0<=ho:=by rw[eh];exact bEH _ (by lia)
 have hb1:ho<m:=by rw[eh];exact bDR _ (by lia)
 have hne:ho≠c0.2:=by rcases (show m=2\/m=3\/m=4 by lia) with e1|e1|e1 <;> rw[e1] at eh cb z1' <;> lia
 have gM2:=f12.same _ _ nM gM;refine⟨_,rfl,_,rfl,by show 3<=sizeLine;decide,λp3 H3 _ s3 g3=>?_⟩;refine⟨_,rfl,M,_,3,3,rfl,rfl,s3 _ _ gM2,rfl,?_⟩;have k3:KP K (λb=>b≠st/\b≠M/\b≠dm) H H3:=(KP.fx f12 hs λz=>z.1 rfl).trans (.same s3);have k4:KP K (λb=>b≠st/\b≠M/\b≠dm) H3 (L2.upd H3 M (.lst [vh,.ref b,.ref R,.ref p3])):=.nU (s3 _ _ gM2) λz=>z.2.1 rfl;have g4:L2.upd H3 M (.lst [vh,.ref b,.ref R,.ref p3]) M=some (.lst [vh,.ref b,.ref R,.ref p3]):=aH;have hs4:kO (L2.upd H3 M (.lst [vh,.ref b,.ref R,.ref p3])) st:=aWy (f12.st.same s3) λo h=>by rw[aN nM.symm];exact h
 have ndm:∀{b u},H b=some u->(∀kvs,u≠.dK kvs)->b≠dm:=λh hu z=>by rw[z,gm] at h;cases h;exact hu _ rfl
 have kd4:L2.upd H3 M (.lst [vh,.ref b,.ref R,.ref p3]) dm=some (.dK []):=by rw[aN (ndm gM λ_ z=>by cases z).symm];exact s3 _ _ (f12.same _ _ (λz=>by obtain⟨_,e1,_⟩:=hs;rw[<-z,gm] at e1;cases e1) gm)
 rw[show ([vh,V.ref b,V.ref R,V.non]:List V).set 3 (V.ref p3)=[vh,.ref b,.ref R,.ref p3] from rfl];generalize L2.upd H3 M (.lst [vh,.ref b,.ref R,.ref p3])=H4 at k4 g4 hs4 kd4 ⊢;have k04:=k3.trans k4;obtain⟨dx,hx⟩:=hS.at_;obtain⟨_,_,_,_,_,usL,gL,_⟩:=hS.ens.tb e j8;obtain⟨us,gR,hus⟩:=id hRow;have nst:∀{b u},H b=some u->(∀l,u≠.lst l)->b≠st:=λh hu z=>by obtain⟨_,e1,_⟩:=hs;rw[z,e1] at h;cases h;exact hu _ rfl
 have nM':∀{b u},H b=some u->(∀l,u≠.lst l)->b≠M:=λh hu z=>by rw[z,gM] at h;cases h;exact hu _ rfl
 have sx:x≠st/\x≠M/\x≠dm:=⟨nst hx λ_ z=>(by cases z),nM' hx λ_ z=>(by cases z),ndm hx λ_ z=>(by cases z)⟩;have sd:d≠st/\d≠M/\d≠dm:=⟨nst hS.ens.at_ λ_ z=>(by cases z),nM' hS.ens.at_ λ_ z=>(by cases z),hS.ne⟩;have sL:∀y∈[e],y.L≠st/\y.L≠M/\y.L≠dm:=λy hy=>by rw[List.mem_singleton.mp hy];exact⟨nL,nLM,ndm gL λ_ z=>(by cases z)⟩
 have hS4:=hS.kp k04 sx sd sL;have hx4:=k04.st _ _ sx hx;refine⟨_,rfl,x,dx,_,rfl,hx4,rfl,_,rfl,x,d,dm,m,[e],e,none,rfl,hS4,j8,⟨.non,rfl,kd4⟩,λv H5 s5 hv=>?_⟩;cases hv;refine⟨rfl,_,rfl,nQ (t6 rfl) ?_⟩;have epl':e.t.pl=.spans n h0 cs:=by rw[et];exact epl
 refine⟨_,rfl,x,dx,_,rfl,s5 _ _ hx4,rfl,_,rfl,_,rfl,_,rfl,x,d,dm,m,[e],e,n,h0,cs,num,ho,rfl,hS4.same s5,j8,epl',s5 _ _ kd4,by lia,hb0,hb1,by rw[ch];exact hne,λH6 k6 hS6 hmv6=>⟨rfl,?_⟩⟩;have k6':KP K (λb=>b≠st/\b≠M/\b≠dm) H5 H6:=k6.mono λb z=>z.2.2;have k06:=k04.trans ((KP.same s5).trans k6');have sM:M≠dm:=ndm gM λ_ z=>(by cases z);have sst:st≠dm:=λz=>by obtain⟨_,e1,_⟩:=hs;rw[z,gm] at e1;cases e1
 refine q (.ref p3) ⟨num,ho,none⟩ H6 k06 (aWy hs4 λo h=>k6.st _ _ sst (s5 _ _ h)) ⟨hS6,⟨k6.st _ _ sM (s5 _ _ g4),hI.tk k06.tk,by rw[epl];exact hpl.tk k06.tk,hRow.kp k06 ⟨nR,nMR.symm,ndm gR λ_ z=>(by cases z)⟩⟩,hmv6,⟨p3,.non,rfl,k6.tk _ _ (s5.aV (k4.tk _ _ (SqT.of g3))),rfl⟩,et,ok,epl,λ_ z=>(by cases z),few,m2,m4,nMR,nLM⟩
def aHr (K:bEX)(C Pt:Addr):Sp:=λvs H Q _=>∃(x d dm M R:Addr) (m:Int) (e:En) (vh vp vm:V) (t:Tb) (n:Str) (h0:Int) (cs:List (V × Int)) (mq:Mv),vs=[.ref x,.str e.n,.ref M,.int m]/\Sy K H C x m d dm M R e vh vp vm t n h0 cs mq/\H Pt=some (.tab qC)/\∀H',Same H H'->Q (.bl true) H'
theorem aCs (T:Txt w K mg){C Ct Pt:Addr}(oX:Ok P w K mg base 2 "_law_stood" ["_law_table","_law_houses","_law_house"] (yJ K))(aC4:Ok P w K mg base 3 "_law_stands" ["_law_table","_law_houses","_law_house"] (aA3 K))(GM_Store_moving:OkM P w K mg base C 4 "moving" ["self","name"] (rY K C))(GM_Store_town:OkM P w K mg base C 13 "town" ["self"] (aNl K C Ct Pt))(GM_Store_stands:OkM P w K mg base C 5 "stands" ["self","name","house"] (aAf K C))(GM_Town_placing:OkM P w K mg base Ct 4 "placing" ["self","name"] (aAs K Ct))(GM_Town_whole:OkM P w K mg base Ct 4 "whole" ["self","name"] (wL K Ct))(GM_Town_part:OkM P w K mg base Ct 5 "part" ["self","name","house"] (aMi K Ct)):Ok P w K mg base 14 "_law_right" ["_law_store","_law_name","_law_table","_law_houses"] (aHr K C Pt):=by
 refine Ok.ofV T.aE1 jQ (λvs H Q E h=>?_) (λf cdv A outer s H vs Q E hr h=>?_)
 ·obtain⟨x,d,dm,M,R,m,e,vh,vp,vm,t,n,h0,cs,mq,rfl,_⟩:=h;rfl
 obtain⟨x,d,dm,M,R,m,e,vh,vp,vm,t,n,h0,cs,mq,rfl,hY,hP,q⟩:=h;have hU:=hr.units;refine⟨_,(aC (aX (i:=4) jQ.nd rfl (by trivial) (eE (GM_Store_moving.mono (by decide)) hr (vv 0) (aB (vv 1) aA))) (aC (cA (VW.pt (fB (cG (bV (aK gZ (by rfl) T.bM bI (aB (vv 4) (aB (dJ (v:=.ty "tuple") (by rfl) T.iT eZ rfl) aA))))) (dN (bC (aRs hU) (vv 4) (aP cN (vv 2) aF (λ_ _=>rfl)) (aY _))))) (aG (aL gQ)) aZ) (aC (aX (i:=5) jQ.nd rfl (by trivial) (aQm (GM_Store_town.mono (by decide)) hr (vv 0))) (aC (cA (VW.pt (fB (bC (xH hU) (eE (GM_Town_whole.mono (by decide)) hr (vv 5) (aB (vv 1) aA)) (aK fC (by rfl) T.fH dO (aB (aP cN (vv 2) aF (λ_ _=>rfl)) aA)) (aY _)) (dN (bC (aRs hU) (eE (GM_Town_placing.mono (by decide)) hr (vv 5) (aB (vv 1) aA)) (aP cN (vv 2) aF (λ_ _=>rfl)) (aY _))))) (aG (aL gQ)) aZ) (aC (jF PassesOwn.never rfl (iC (by rfl) T.lE (aB (vv 3) aA)) (aM (i:=6) jQ.nd rfl (by trivial)) (aC (cA (bC (xH hU) (eE (GM_Store_stands.mono (by decide)) hr (vv 0) (aB (vv 1) (aB (vv 6) aA))) (aO (aC4.mono (by decide)) hr (by rfl) (aB (vv 2) (aB (vv 3) (aB (vv 6) aA)))) (aY _)) (aG (aL gQ)) aZ) (aG (cA (bC (xH hU) (eE (GM_Town_part.mono (by decide)) hr (vv 5) (aB (vv 1) (aB (vv 6) aA))) (aO (oX.mono (by decide)) hr (by rfl) (aB (vv 2) (aB (vv 3) (aB (vv 6) aA)))) (aY _)) (aG (aL gQ)) aZ)))) (aG (aL gQ))))))),?_⟩;have ok:=hY.ok;have few:=hY.few;have m2:=hY.m2;have m4:=hY.m4;have hkd':∀r∈t.rows,KdR (knds t.hd) r:=λr hr'=>jY (ok.rows r hr');have flt:∀r∈srt t.rows,∀x∈r,(∃i,x=.int i)\/∃z,x=.str z:=λr hr' x hx=>aTn (hkd' r (jP hr')) x hx;obtain⟨dx,hx⟩:=hY.st.at_;refine⟨_,rfl,x,dx,_,rfl,hx,rfl,_,rfl,x,d,dm,m,[e],e,some mq,rfl,hY.st,j8,hY.mv,λv H1 s1 hv=>?_⟩;have hY1:=hY.same s1;obtain⟨va,_,rfl,hva,_⟩:=id hv;refine⟨_,rfl,.ref va,true,rfl,Tk.tup hva,_,rfl,bY ?_⟩;obtain⟨qa,qb,qx,qy,e1,e2,h1,h2,h3⟩:=aYu hv hY1.vm hY.mk_;refine⟨_,rfl,_,rfl,M,_,3,_,rfl,rfl,SqL.of hY1.md.1,cL (j:=3) rfl,qa,qb,qx,qy,e1,e2,h1,h2,h3,_,rfl,bY ?_⟩;refine⟨_,rfl,x,dx,_,rfl,s1 _ _ hx,rfl,x,d,dm,m,[e],rfl,hY1.st,by lia,by lia,s1 _ _ hP,λy d' H2 es' hy hd' s2 hT a1=>?_⟩;obtain⟨v2,L2',rfl,_⟩:∃v2 L2',es'=[aBf e v2 L2']/\H1 L2'=none:=by
  cases a1 with
  |cons r t=>cases t;obtain⟨v',L',e1,e2⟩:=r;exact⟨v',L',by rw[e1],e2⟩
 obtain⟨e',ee⟩:∃e':En,e'=aBf e v2 L2':=⟨_,rfl⟩;have en':e'.n=e.n:=by rw[ee];rfl
 have evp:e'.vp=e.vp:=by rw[ee];rfl
 have et':e'.t={ t with rows:=srt t.rows }:=by rw[ee];show ({ e.t with rows:=srt e.t.rows }:Tb)=_;rw[hY.et];show ({ t with rows:=srt (srt t.rows) }:Tb)=_;rw[aEi hkd']
 rw[<-ee] at hT;have hY2:=hY1.same s2;obtain⟨⟨dy,hy2⟩,_,_⟩:=id hT;refine⟨_,rfl,y,dy,_,rfl,hy2,rfl,_,rfl,y,d',m,[e'],e',by rw[en'];rfl,hT,j8,λLw H3 hLw s3 hRw=>?_⟩;rw[et'] at hRw;have hRw:cC K H3 Lw (srt t.rows):=hRw;have hY3:=hY2.same s3;obtain⟨us,gR,hus⟩:=id hY3.md.2.2.2;have lus:=hus.len;refine⟨_,rfl,M,_,2,_,rfl,rfl,SqL.of hY3.md.1,at2 _ _ _ _,R,us,t.rows,knds t.hd,rfl,SqL.of gR,cX hus,by lia,mU ok.hd.1,hkd',λLb H4 us4 hLb s4 g4 h4=>?_⟩;obtain⟨uw,gw,hw⟩:=hRw.same s4;refine⟨Lw,Lb,uw,us4,srt t.rows,rfl,rfl,SqL.of gw,SqL.of g4,cX hw,cX ((jZ h4).imp λ_ _ z=>z.same s4),flt,_,rfl,bY ?_⟩;have s24:=s3.trans s4;have hY4:=hY2.same s24;refine⟨_,rfl,y,dy,_,rfl,s24 _ _ hy2,rfl,_,rfl,y,d',m,[e'],e',by rw[en'];rfl,hT.same s24,j8,λH5 s5=>?_⟩;have hY5:=hY4.same s5;have okp:=ok.pl;rw[hY.pl] at okp;obtain⟨_,kd,_,_,okc⟩:=okp;have p1:qQ K H5 e.vp (.spans n h0 cs):=by obtain⟨_,_,_,_,hp,_⟩:=hY5.st.ens.tb e j8;rw[hY.et] at hp;rw[<-hY.pl];exact hp
 have p2:qQ K H5 vp (.spans n h0 cs):=by have:=hY5.md.2.2.1;rw[hY.pl] at this;exact this
 obtain⟨ra,rb,rx,ry,e3,e4,r1,r2,r3⟩:=aTu p1 p2 okc;refine⟨_,rfl,M,_,1,_,rfl,rfl,SqL.of hY5.md.1,at1 _ _ _,ra,rb,rx,ry,by rw[evp];exact e3,e4,r1,r2,r3,_,rfl,bY ?_⟩;have s25:=s24.trans s5;have epl':e.t.pl=.spans n h0 cs:=by rw[hY.et];exact hY.pl
 refine⟨_,rfl,m,rfl,by lia,by lia,jH (n:=m.toNat) (λj σ H'=>Same H2 H'/\∃l6,σ=[some (.ref x),some (.str e.n),some (.ref M),some (.int m),some (.ref va),some (.ref y),l6]) ⟨s25,_,rfl⟩ (λj σ H6 hj p=>?_) fun σ H6 p=>?_⟩
 ·obtain⟨s6,l6,rfl⟩:=p;have hh0:0<=(0:Int)+(j:Int):=by lia
  have hhm:(0:Int)+(j:Int)<m:=by lia
  generalize (0:Int)+(j:Int)=house at hh0 hhm;have hY6:=hY2.same s6;obtain⟨dx6,hx6⟩:=hY6.st.at_;refine⟨_,rfl,x,dx6,_,rfl,hx6,rfl,_,rfl,_,rfl,x,d,dm,m,house,[e],e,some mq,n,h0,cs,rfl,hY6.st,j8,hY6.mv,epl',by rw[hY.et];show (srt t.rows).length<=30;rw[zQ];lia,λmq' q' z1 z2=>by cases z1;rw[hY.et];exact hY.mk_ q' z2,hh0,hhm,λL7 H7 hL7 s7 hR7=>?_⟩;rw[hY.et] at hR7;have hR7:cC K H7 L7 (nA t.hd m house t.pl (some mq) n cs (srt t.rows)):=hR7;have hY7:=hY6.same s7;refine⟨_,rfl,_,rfl,_,rfl,M,R,vh,vp,vm,t,mq,m,house,n,h0,cs,rfl,hY7.md,hY7.vm,ok,hY.pl,by lia,hY.mk_,λL8 H8 hL8 s8 hR8=>?_⟩;obtain⟨u7,g7,h7⟩:=hR7.same s8;obtain⟨u8,g8,h8⟩:=hR8;have flS:∀r∈nA t.hd m house t.pl (some mq) n cs (srt t.rows),∀x∈r,(∃i,x=.int i)\/∃z,x=.str z:=λr hr'=>flt r (by
   unfold nA at hr';dsimp only at hr'
   split at hr'
   ·rcases List.mem_append.mp (jP hr') with z|z <;> exact (List.mem_filter.mp z).1
   ·exact (List.mem_filter.mp hr').1)
  refine⟨L7,L8,u7,u8,_,rfl,rfl,SqL.of g7,SqL.of g8,cX h7,cX h8,flS,_,rfl,bY ?_⟩;have s28:=s6.trans (s7.trans s8);refine⟨_,rfl,y,dy,_,rfl,s28 _ _ hy2,rfl,_,rfl,_,rfl,y,d',m,house,[e'],e',by rw[en'];rfl,hT.same s28,j8,hh0,hhm,λL9 H9 hL9 s9 hR9=>?_⟩;rw[et'] at hR9;have hR9:cC K H9 L9 ((srt t.rows).filter λr=>cD t.hd m r house t.pl):=hR9;refine⟨_,rfl,_,rfl,_,rfl,M,R,vh,vp,vm,t,m,house,n,h0,cs,rfl,(hY2.same (s28.trans s9)).md,ok,hY.pl,λL10 H10 hL10 s10 hR10=>?_⟩;obtain⟨u9,g9,h9⟩:=hR9.same s10;obtain⟨u10,g10,h10⟩:=hR10;exact⟨L9,L10,u9,u10,_,rfl,rfl,SqL.of g9,SqL.of g10,cX h9,cX h10,λr hr'=>flt r (List.mem_filter.mp hr').1,_,rfl,bY ⟨s28.trans (s9.trans s10),_,rfl⟩⟩
 ·obtain⟨s6,l6,rfl⟩:=p;exact q H6 (s1.trans (s2.trans s6))
theorem aVc {S R:TS}{D:Ends}{σ:L2.St}{H:Hp}(J:L2.St->Hp->Prop)(h1:∀N:L2.St->Hp->Prop,(∀σ' H',J σ' H'->N σ' H')->S { D with nx:=N } σ H)(h2:∀σ' H',J σ' H'->R D σ' H'):aEy S R D σ H:=h1 _ h2
theorem bAf {H0 H H':Hp}{a st:Addr}{xs:List V}(hn:H0 st=none)(s:Same H0 H)(f:Fx st H H')(h:SqL K H0 a xs):SqL K H' a xs:=by
 rcases h with (h|⟨o,h⟩)|h
 ·exact .inl (.inl (f.same _ _ (aU h hn) (s _ _ h)))
 ·exact .inl (.inr ⟨o,f.same _ _ (aU h hn) (s _ _ h)⟩)
 ·exact .inr h
theorem aDy {α:Type}(p:α->Bool):∀l:List α,l.length=(l.filter p).length+(l.filter λx=>!p x).length
 |[]=>rfl
 |a::l=>by have:=aDy p l;rw[bEA,bEA];cases p a <;> simp <;> lia
theorem carried {ks:List Bool}{qs W:List (List V)}{r:List V}{k:Nat}(ded:Ded qs W)(hk:∀x∈W,KdR ks x)(hr:((srt qs).take k).getLast?=some r):r∈W/\∀x∈W,(x∈(srt qs).take k↔rlt r x=false):=by
 have hq:∀x∈qs,KdR ks x:=λx hx=>hk x ((ded.2.1 x).mp hx);obtain⟨pm,pw⟩:=lK hq;have hrS:r∈(srt qs).take k:=List.mem_of_getLast? hr;have inW:∀x,x∈srt qs->x∈W:=λx hx=>(ded.2.1 x).mp (pm.mem_iff.mp hx);have hrW:=inW r (bCT hrS);refine⟨hrW,λx hx=>?_⟩;have pw':=pw;rw[<-bD7 k (srt qs)] at pw';obtain⟨p1,_,p3⟩:=List.pairwise_append.mp pw';constructor
 ·intro hs;obtain⟨S',eS⟩:∃S',(srt qs).take k=S'++[r]:=List.getLast?_eq_some_iff.mp hr;rw[eS] at hs p1;rcases List.mem_append.mp hs with z|z
  ·exact (List.pairwise_append.mp p1).2.2 x z r (List.mem_singleton.mpr rfl)
  ·rw[List.mem_singleton.mp z];exact aXy (hk r hrW)
 ·intro hl;have hz:x∈(srt qs).take k++(srt qs).drop k:=by rw[bD7];exact pm.mem_iff.mpr ((ded.2.1 x).mpr hx)
  rcases List.mem_append.mp hz with z|z
  ·exact z
  ·have h2:=p3 r hrS x z;rw[aGo (hk x hx) (hk r hrW) h2 hl];exact hrS
theorem aG5 {T:Tb}{ks:List Bool}{n:Str}{cs:List (V × Int)}{num k:Nat}{o:Option (List V)}{qs:List (List V)}{r:List V}(hk:∀x∈T.rows,KdR ks x)(ho:∀q,o=some q->KdR ks q)(ded:Ded qs (fU T n cs num o))(hr:((srt qs).take k).getLast?=some r) :
  ((fU T n cs num o).length:Int) - (fU T n cs num (some r)).length=(((fU T n cs num o).filter λx=>decide (x∈(srt qs).take k)).length:Int):=by
 have hkW:∀x∈fU T n cs num o,KdR ks x:=λx hx=>hk x (List.mem_filter.mp hx).1;obtain⟨hrW,hS⟩:=carried ded hkW hr;have e1:(fU T n cs num o).filter (rlt r)=fU T n cs num (some r):=by
  unfold fU;rw[bC5];refine List.filter_congr λx hx=>?_;show (rlt r x && (rK o x && iB T.hd n cs num x))=(rlt r x && iB T.hd n cs num x);cases hlt:rlt r x with
  |false=>rfl
  |true=>
   have:rK o x=true:=by
    cases o with
    |none=>rfl
    |some q=>
     have h1:rlt q r=true:=by have:=(List.mem_filter.mp hrW).2;rw[bAR] at this;exact this.1
     show rlt q x=true;cases h2:rlt q x with
     |true=>rfl
     |false=>have h3:=wB (ho q rfl) (hkW r hrW) h1;rw[aJ1 (hk x hx) (ho q rfl) (hkW r hrW) h2 h3] at hlt;cases hlt
   rw[this];rfl
 have e2:((fU T n cs num o).filter λx=>decide (x∈(srt qs).take k))=(fU T n cs num o).filter λx=>!rlt r x:=List.filter_congr λx hx=>by
  cases hl:rlt r x with
  |true=>exact v8 λz=>by rw[(hS x hx).mp z] at hl;cases hl
  |false=>exact t6 ((hS x hx).mpr hl)
 have e3:=aDy (rlt r) (fU T n cs num o);rw[e1] at e3;rw[e2];lia
theorem aYx {S:TS}{D:Ends}{σ:L2.St}{H:Hp}(J:L2.St->Hp->Prop)(h1:∀N:L2.St->Hp->Prop,(∀σ' H',J σ' H'->N σ' H')->S { D with nx:=N } σ H)(h2:∀σ' H',J σ' H'->D.nx σ' H'):S D σ H:=h1 _ h2
def tR (o:Option (List V))(S:List (List V)):Option (List V):=match S.getLast? with|none=>o|some r=>some r
theorem MvD.kp {S:Addr->Prop}{H H':Hp}{dm:Addr}{nm:Str}{o:Option Mv}(k:KP K S H H')(sd:S dm)(h:MvD K H dm nm o):MvD K H' dm nm o:=by
 obtain⟨v,h1,h2⟩:=h;refine⟨v,?_,k.st _ _ sd h2⟩;cases o with
 |none=>exact h1
 |some q=>exact uA.tk k.tk h1
structure LI (K:bEX)(H:Hp)(C x:Addr)(m:Int)(d dm M R N W Pt:Addr)(nms:List Str)(xs:List V)(e:En)(vh vp vm:V)(t:Tb)(n:Str)(h0:Int)(cs:List (V × Int))(mq:Mv):Prop where
 y:Sy K H C x m d dm M R e vh vp vm t n h0 cs mq
 nm:some e.n=nms[0]?
 gN:H N=some (.lst (nms.map V.str))
 gW:H W=some (.lst xs)
 gP:H Pt=some (.tab qC)
 nN:N≠M
 nW:W≠M
section
variable {H H':Hp}{C x d dm M R N W Pt:Addr}{m:Int}{nms:List Str}{xs:List V}{e:En}{vh vp vm:V}{t:Tb}{n:Str}{h0:Int}{cs:List (V × Int)}{mq:Mv}
theorem LI.same (s:Same H H')(h:LI K H C x m d dm M R N W Pt nms xs e vh vp vm t n h0 cs mq):LI K H' C x m d dm M R N W Pt nms xs e vh vp vm t n h0 cs mq:=⟨h.y.same s,h.nm,s _ _ h.gN,s _ _ h.gW,s _ _ h.gP,h.nN,h.nW⟩
end
def aNv (K:bEX)(Pt:Addr):Sp:=λvs H Q _=>∃(a:Addr) (ns:List Int),vs=[.ref a]/\SqL K H a (ns.map V.int)/\ns.length<=63/\H Pt=some (.tab qC)/\∀H',H' Pt=some (.tab qC)->Q (.bl true) H'
theorem aXh {f:Addr}{fd:FuncData}(F:Fun K "law" "law" aDd f fd)(T:Txt w K mg){C Pt:Addr}(aG1:Ok P w K mg base 1 "_law_seed" ["_law_script"] (aM0 K))(aFb:Ok P w K mg base 2 "_law_names" ["_law_state","_law_many"] aQo)(uX:Ok P w K mg base 13 "_law_spans_begun" ["_law_state","_law_names_here","_law_most"] (aG8 K C Pt))(aJn:Ok P w K mg base 6 "_law_lent" ["_law_state","_law_store","_law_name","_law_table","_law_houses"] (aNq K C))(wF:Ok P w K mg base 14 "_law_right" ["_law_store","_law_name","_law_table","_law_houses"] (aHr K C Pt))(lM:Ok P w K mg base 2 "_law_of_span" ["_law_table"] (xV K))(GM_Store_carry:OkM P w K mg base C 5 "carry" ["self","name","many"] (aHs K C)):lJ P w K mg base CX0 15 f fd ["_law_script"] (aNv K Pt):=by
 refine Fun.okV F jA (λvs H Q E h=>?_) (λcdv A outer s H vs Q E hr h=>?_)
 ·obtain⟨a,ns,rfl,_⟩:=h;rfl
 obtain⟨a,ns,rfl,ha,hn,hPt,q⟩:=h;have hU:=hr.units;have hu:=tG hr;refine⟨_,(aC (aX (i:=1) jA.nd rfl (by trivial) (fP (aB (aO (aG1.mono (by decide)) hr (by rfl) (aB (vv 0) aA)) aA))) (aC (aX (i:=2) jA.nd rfl (by trivial) (aO (aFb.mono (by decide)) hr (by rfl) (aB (vv 1) (aB aF aA)))) (aC (qK (aO (uX.mono (by decide)) hr (by rfl) (aB (vv 1) (aB (vv 2) (aB aF aA)))) (xX rfl (bF (aM (i:=3) jA.nd rfl (by trivial)) (bF (aM (i:=4) jA.nd rfl (by trivial)) (bF (aM (i:=5) jA.nd rfl (by trivial)) fM))))) (aC (cA (VW.pt (fB (cG (bV (aO (aJn.mono (by decide)) hr (by rfl) (aB (vv 1) (aB (vv 3) (aB (aP cN (vv 2) aF (λ_ _=>rfl)) (aB (vv 4) (aB (vv 5) aA)))))))) (dN (cG (bV (aO (wF.mono (by decide)) hr (by rfl) (aB (vv 3) (aB (aP cN (vv 2) aF (λ_ _=>rfl)) (aB (vv 4) (aB (vv 5) aA)))))))))) (aG (aL gQ)) aZ) (aC (jF PassesOwn.never rfl (dR (bQ vG (fP (aB aF aA)) (fY vY (vv 0) lH (iK aF)))) (aM (i:=6) jA.nd rfl (by trivial)) (aC (aX (i:=7) jA.nd rfl (by trivial) (bQ pG (vv 6) aF)) (aC (qK (aP cN (vv 4) aF (λ_ _=>rfl)) (xX rfl (bF (aM (i:=8) jA.nd rfl (by trivial)) (bF (aM (i:=9) jA.nd rfl (by trivial)) (bF (aM (i:=10) jA.nd rfl (by trivial)) fM))))) (aC (aGn (i0:=11) jA.nd rfl (by trivial) (N:=["_law_row_here","_law_mark"]) (by trivial) (dX (aD aDd) rfl (by decide +kernel)) rfl (dR (aO (lM.mono (by decide)) hr (by rfl) (aB (vv 4) aA))) (λcl s' H' fp=>⟨(aM (i:=0) (show (["_law_row_here","_law_mark"]:List Str).Nodup from by decide +kernel) rfl (Or.inl rfl)),(lO (VW.pt (fB (bC aCc (vv 1) kJ (aY _)) (dN (bC (aUg (K:=K) hU) (vv 0) (vv 1) (aY _)))))),(vv 0)⟩)) (aC (aX (i:=12) jA.nd rfl (by trivial) (fY vY (aK (tD rfl) (by rfl) T.fH dO (aB (cW (aD2 rfl hU) (by rfl) T.aMx aE5 (aB (vv 11) aA)) aA)) lH (iK (vv 7)))) (aC (cA (bC (aRm hU) (vv 12) (fP aA) (aY _)) (aG (qK (dZ (aB (vv 8) (aB (vv 9) (aB (aP cN (vv 12) (aW8 aQv aF) (λ_ _=>rfl)) aA)))) (aL2 (vv 4) aF set_list))) aZ) (aC (aX (i:=13) jA.nd rfl (by trivial) (eE (GM_Store_carry.mono (by decide)) hr (vv 3) (aB (aP cN (vv 2) aF (λ_ _=>rfl)) (aB (vv 7) aA)))) (aC (cA (VW.pt (fB (cG (bV (aK oH (by rfl) T.bM bI (aB (vv 13) (aB (dJ (v:=.ty "int") (by rfl) T.aMh aFh rfl) aA))))) (dN (bV (aK oH (by rfl) T.bM bI (aB (vv 13) (aB (dJ (v:=.ty "bool") (by rfl) T.aR8 aMt rfl) aA))))))) (aG (aL gQ)) aZ) (aG (cA (VW.pt (fB (bC yV (vv 13) (aK bA (by rfl) T.fJ cZ (aB (cJ (N:=["_law_row_here","_law_some"]) (by trivial) (dX (aD aDd) rfl (by decide +kernel)) rfl (dR (vv 11)) (λcl s' H' fp=>⟨(aM (i:=0) (show (["_law_row_here","_law_some"]:List Str).Nodup from by decide +kernel) rfl (Or.inl rfl)),(lO (bC (aVu (K:=K) hU) (vv 0) (vv 1) (by with_unfolding_all rfl))),(vv 0)⟩)) aA)) (aY _)) (dN (cG (bV (aO (wF.mono (by decide)) hr (by rfl) (aB (vv 3) (aB (aP cN (vv 2) aF (λ_ _=>rfl)) (aB (vv 4) (aB (vv 5) aA)))))))))) (aG (aL gQ)) aZ)))))))))) (aG (aL gQ))))))),?_⟩;refine⟨_,rfl,a,ns,rfl,ha,hn,λc0 H1 s1 _ _=>⟨by show 1<=sizeLine;decide,λst H2 hst s2 g2=>?_⟩⟩;have hSt:kO H2 st:=⟨c0,g2,trivial⟩;refine⟨_,rfl,st,rfl,hSt,λN H3 nms f3 hN0 gN hnm=>?_⟩;have nNs:N≠st:=hSt.ne hN0;have hP2:=s2 _ _ (s1 _ _ hPt);have nPs:Pt≠st:=λz=>by rw[z,g2] at hP2;cases hP2
 have hP3:=f3.same _ _ nPs hP2;refine⟨_,rfl,_,rfl,st,N,nms,rfl,f3.st,gN,nNs,hnm,hP3,λt x M R d dm m vh vp tb e n h0 cs H4 f4 ht hM hS gdm hn0 het hok lr hpl m2 m4 nM0 nR0 nL0 nMR nLR nLM=>?_⟩;refine⟨t,_,rfl,ht,rfl,_,_,rfl,_,_,rfl,_,_,rfl,rfl,?_⟩;have f24:=f3.trans f4;have gN4:=f4.same _ _ nNs gN;have hP4:=f4.same _ _ nPs hP3;have nNM:N≠M:=aU gN nM0;have atN:(nms.map V.str)[0]?=some (.str e.n):=by rw[v9,<-hn0];rfl
 have gM4:=hM.1;have ha4:SqL K H4 a (ns.map V.int):=bAf hst s2 f24 (s1.seq ha);refine⟨_,rfl,_,rfl,_,rfl,N,_,0,.str e.n,rfl,rfl,SqL.of gN4,cL (j:=0) atN,_,rfl,_,rfl,st,x,d,dm,M,R,m,e,vh,vp,tb,n,h0,cs,rfl,f4.st,hS,gdm,hM,het,hok,hpl,lr,m2,m4,f3.st.ne nM0,f3.st.ne nR0,f3.st.ne nL0,nMR,nLM,λvm mq H5 k5 hs5 hY5=>⟨_,rfl,bY ?_⟩⟩;have nD:∀{b u},H4 b=some u->(∀kvs,u≠.dK kvs)->b≠dm:=λh hu z=>by rw[z,gdm] at h;cases h;exact hu _ rfl
 have gN5:=k5.st _ _ ⟨nNs,nNM,nD gN4 λ_ z=>(by cases z)⟩ gN4;have nPM:Pt≠M:=λz=>by rw[z,gM4] at hP4;cases hP4
 have hP5:=k5.st _ _ ⟨nPs,nPM,nD hP4 λ_ z=>(by cases z)⟩ hP4;have ha5:SqL K H5 a (ns.map V.int):=by
  have go:∀{o},H1 a=some o->(∀l,o≠.dK l)->H5 a=some o:=λh1 h2=>by have n1:=aU h1 hst;have h3:=f3.same _ _ n1 (s2 _ _ h1);have h4:=f4.same _ _ n1 h3;exact k5.st _ _ ⟨n1,aU h3 nM0,nD h4 h2⟩ h4
  rcases s1.seq ha with (h|⟨o,h⟩)|h
  ·exact .inl (.inl (go h λ_ z=>by cases z))
  ·exact .inl (.inr ⟨o,go h λ_ z=>by cases z⟩)
  ·exact .inr h
 refine⟨_,rfl,_,rfl,N,_,0,.str e.n,rfl,rfl,SqL.of gN5,cL (j:=0) atN,_,rfl,_,rfl,x,d,dm,M,R,m,e,vh,vp,vm,tb,n,h0,cs,mq,rfl,hY5,hP5,λH6 s6=>⟨_,rfl,bY ?_⟩⟩;refine⟨by show 1<=sizeLine;decide,λz7 H7 hz7 s7 g7=>?_⟩;refine⟨_,rfl,_,rfl,a,ns.map V.int,rfl,(s6.trans s7).seq ha5,λp8 H8 hp8 s8 g8=>?_⟩;rw[show pH (ns.map V.int) none (some 20)=(ns.map V.int).take 20 from zP _ 20] at g8;have l20:((ns.map V.int).take 20).length<=20:=by rw[bAM];lia
 refine⟨z7,p8,_,_,rfl,rfl,s8 _ _ g7,g8,small (by show 1+_<=1000;lia),λW H9 hW s9 g9=>?_⟩;have s59:=s6.trans (s7.trans (s8.trans s9));obtain⟨xs,exs⟩:∃xs,xs=[V.int 0]++(ns.map V.int).take 20:=⟨_,rfl⟩;have hxi:∀y∈xs,∃c,y=.int c:=λy hy=>by
  rw[exs] at hy;rcases List.mem_append.mp hy with hy|hy
  ·exact⟨0,List.mem_singleton.mp hy⟩
  ·obtain⟨c,_,rfl⟩:=List.mem_map.mp (bCT hy);exact⟨c,rfl⟩
 have g9:H9 W=some (.lst xs):=by rw[exs];exact g9
 have nWM:W≠M:=(aU ((s6.trans (s7.trans s8)) _ _ hY5.md.1) hW).symm;have li0:LI K H9 C x m d dm M R N W Pt nms xs e vh vp vm tb n h0 cs mq:=⟨hY5.same s59,hn0,s59 _ _ gN5,g9,s59 _ _ hP5,nNM,nWM⟩;clear hY5 gN5 hP5 ha5 ha4 gN4 hP4 gM4 k5 f24 hM hS gdm ht f4 f3;refine⟨W,rfl,⟨_,SqL.of g9⟩,aJx (xs:=xs) (λi σ H'=>∃(vm:V) (mq:Mv) (l6 l7 l8 l9 l10 l11 l12 l13:Option V),LI K H' C x m d dm M R N W Pt nms xs e vh vp vm tb n h0 cs mq/\σ=[some (.ref a),some (.ref st),some (.ref N),some (.ref x),some (.ref M),some (.int m),l6,l7,l8,l9,l10,l11,l12,l13]) ⟨vm,mq,none,none,none,none,none,none,none,none,li0,rfl⟩ (λi σ H' _ p=>by obtain⟨vm,mq,l6,l7,l8,l9,l10,l11,l12,l13,li,_⟩:=p;exact SqL.of li.gW) (λi y σ H10 ey p=>?_) fun σ H10 p=>?_⟩
 ·obtain⟨vm,mq,l6,l7,l8,l9,l10,l11,l12,l13,li,rfl⟩:=p;obtain⟨c,rfl⟩:=hxi y (v6 ey);obtain⟨k,ek⟩:∃k:Nat,c % 4=k:=⟨(c % 4).toNat,by lia⟩;refine⟨_,rfl,_,_,rfl,rfl,(by show (0:Int)<4;decide),?_⟩;show cB 7 (V.int (c % 4)) _ _ _;rw[ek];obtain⟨ma,vk,rfl,hma,hvk⟩:=id li.y.vm;refine⟨_,rfl,M,_,3,_,rfl,rfl,SqL.of li.y.md.1,cL (j:=3) rfl,ma,_,rfl,hma,rfl,_,_,rfl,_,_,rfl,_,_,rfl,rfl,?_⟩;have ok:=li.y.ok;have few:=li.y.few;have hkd':∀r∈tb.rows,KdR (knds tb.hd) r:=λr hr'=>jY (ok.rows r hr');have hks:∀r∈srt tb.rows,KdR (knds tb.hd) r:=λr hr'=>hkd' r (jP hr');have ls:=zQ tb.rows;dsimp only[cB,aEy,zA,List.set];refine iV [none,some vk] (jT 10 (by decide +kernel) rfl rfl (by trivial)) ?_;refine⟨_,rfl,M,R,vh,vp,.ref ma,tb,mq,m,n,h0,cs,rfl,li.y.md,li.y.vm,ok,li.y.pl,λD1 H11 hD1 s11 hR1=>?_⟩;obtain⟨w1,g11,h11⟩:=id hR1;have f1:=bAU (iB tb.hd n cs mq.num) (srt tb.rows);refine⟨D1,rfl,⟨_,SqL.of g11⟩,pJ hR1 (by lia) (rK mq.mark) rfl (λu r hr' H' R' l sm hru rr=>?_) λD2 H12 hD2 s12 hR2=>?_⟩
  ·have hm:=hvk.same (s11.trans sm);cases hmm:mq.mark with
   |none=>rw[hmm] at hm rr;have hm:vk=.non:=hm;subst hm;exact⟨_,rfl,rfl,_,rfl,nQ (t6 rfl) (rr H' (Same.refl _))⟩
   |some q0=>rw[hmm] at hm rr;obtain⟨ka,rfl,hka⟩:=id hm;exact⟨_,rfl,rfl,_,rfl,gY (v8 λz=>by cases z) ⟨_,rfl,_,rfl,knds tb.hd,r,q0,hru,hm,hks r (List.mem_filter.mp hr').1,jY (li.y.mk_ q0 hmm),_,rfl,rr H' (Same.refl _)⟩⟩
  rw[bC5] at hR2;obtain⟨Wt,eW⟩:∃Wt,Wt=fU e.t n cs mq.num mq.mark:=⟨_,rfl⟩;have hR2:cC K H12 D2 Wt:=by rw[eW,li.y.et];exact hR2
  have kW:∀r∈Wt,r∈tb.rows:=λr hr'=>by rw[eW,li.y.et] at hr';exact jP (List.mem_filter.mp hr').1
  have lW:Wt.length<=20:=by rw[eW,li.y.et];exact bAL (bAU _ _) (by show (srt tb.rows).length<=20;lia)
  obtain⟨u2,g12,h12⟩:=id hR2;have l12:=h12.len;have s1012:=s11.trans s12;refine⟨_,rfl,D2,u2,Wt,rfl,SqL.of g12,cX h12,λr hr'=>zU (ok.rows r (kW r hr')),by lia,λD3 H13 as qs hD3 s13 g13 ha13 ded=>?_⟩;have la:=ha13.len;have ld:=ded.2.2;rw[j9] at la;refine⟨D3,as,qs,knds tb.hd,rfl,g13,ha13.imp λ_ _ z=>z.same s13,by lia,mU ok.hd.1,λr hr'=>hkd' r (kW r ((ded.2.1 r).mp hr')),λB H14 u14 hB s14 g14 h14=>?_⟩;refine⟨_,rfl,(k:Int),rfl,B,u14,rfl,SqL.of g14,λp H15 hp s15 g15=>?_⟩;rw[show pH u14 none (some ((k:Nat):Int))=u14.take k from zP _ k] at g15;have a15:cU (cT K H15) (u14.take k) ((srt qs).take k):=(aDq (jZ h14) k).imp λ_ _ z=>z.same (s14.trans s15);have s1015:=s1012.trans (s13.trans (s14.trans s15));have li15:=li.same s1015;have hS15:cC K H15 p ((srt qs).take k):=⟨_,g15,a15⟩;have hR15:=hR2.same (s13.trans (s14.trans s15));have fp:p≠M:=(aU ((s1012.trans (s13.trans s14)) _ _ li.y.md.1) hp).symm;have fD:D2≠M:=(aU (s11 _ _ li.y.md.1) hD2).symm;have okS:∀r∈(srt qs).take k,pP tb.hd r:=λr hr'=>ok.rows r (kW r ((ded.2.1 r).mp (jP (bCT hr'))));have eW':Wt=fU { tb with rows:=srt tb.rows } n cs mq.num mq.mark:=by rw[eW,li.y.et]
  have hma15:=s1015.aV hma;clear s11 s12 s13 s14 s15 s1012 hR1 hR2 g11 h11 g12 h12 g13 ha13 g14 h14 li hvk hma hD1 hD2 hD3 hB;obtain⟨S,eS⟩:∃S,S=(srt qs).take k:=⟨_,rfl⟩;rw[<-eS] at hS15 a15 okS;refine aYx (fun σ H'=>∃vm',tM K H' M vh vp R tb vm'/\uA K H' vm' { mq with mark:=tR mq.mark S }/\KP K (λb=>b≠M) H15 H'/\σ=[some (.ref a),some (.ref st),some (.ref N),some (.ref x),some (.ref M),some (.int m),some (.int c),some (.int k),some (.int mq.num),some (.int mq.house),some vk,some (.ref D2),some (.ref p),l13]) (λNX hN=>?_) fun σ' H' hJ=>?_
  ·refine⟨_,rfl,by show 0<=sizeLine;decide,λp9 H16 hp9 s16 g16=>⟨p,p9,_,rfl,rfl,SqL.of (s16 _ _ g15),SqL.of g16,_,rfl,?_⟩⟩;have li16:=li15.same s16;have uS:∀i u,(u14.take k)[i]?=some u->∃r,S[i]?=some r/\cT K H15 u r:=λi u z=>cM a15 z;have lS:=a15.len;generalize u14.take k=uk at g15 uS lS ⊢;cases uk with
   |nil=>have e0:S=[]:=bCI lS.symm;refine gY rfl (hN _ _ ⟨.ref ma,li16.y.md,?_,.same s16,rfl⟩);rw[e0];exact li16.y.vm
   |cons u0 ur=>
    refine nQ rfl ?_;obtain⟨ul,hul⟩:∃ul,(u0::ur)[(u0::ur).length - 1]?=some ul:=⟨_,d7 (by rw[v7];lia)⟩;obtain⟨r,hr1,hr2⟩:=uS _ _ hul;have hl:S.getLast?=some r:=by rw[List.getLast?_eq_getElem?,<-lS];exact hr1
    refine⟨_,rfl,_,rfl,_,rfl,_,rfl,p,_,_,ul,rfl,rfl,SqL.of (s16 _ _ g15),aNn hul,by show 3<=sizeLine;decide,λp17 H17 _ s17 g17=>?_⟩;have li17:=li16.same s17;refine⟨_,rfl,M,_,3,3,rfl,rfl,li17.y.md.1,rfl,?_⟩;rw[show ([vh,vp,V.ref R,V.ref ma]:List V).set 3 (V.ref p17)=[vh,vp,.ref R,.ref p17] from rfl];have k18:KP K (λb=>b≠M) H17 (L2.upd H17 M (.lst [vh,vp,.ref R,.ref p17])):=.nU li17.y.md.1 λz=>z rfl;refine hN _ _ ⟨.ref p17,⟨aH,li17.y.md.2.1.tk k18.tk,li17.y.md.2.2.1.tk k18.tk,li17.y.md.2.2.2.kp k18 li17.y.n1.symm⟩,⟨p17,ul,rfl,k18.tk _ _ (SqT.of g17),?_⟩,(KP.same (s16.trans s17)).trans k18,rfl⟩;show aF7 K _ ul (tR mq.mark S);rw[show tR mq.mark S=some r by unfold tR;rw[hl]];obtain⟨b,e1,hb⟩:=hr2;exact⟨b,e1,k18.tk _ _ ((s16.trans s17).aV hb)⟩
  ·obtain⟨vm',hM',hmv',k16,rfl⟩:=hJ;have gM15:=li15.y.md.1;obtain⟨dx,hx15⟩:=li15.y.st.at_;obtain⟨_,_,gd15⟩:=id li15.y.mv;have nM:∀{b u},H15 b=some u->(∀l,u≠.lst l)->b≠M:=λh hu z=>by rw[z,gM15] at h;cases h;exact hu _ rfl
   have nD:∀{b u},H15 b=some u->(∀l,u≠.dK l)->b≠dm:=λh hu z=>by rw[z,gd15] at h;cases h;exact hu _ rfl
   have nxM:=nM hx15 λ_ z=>(by cases z);have ndM:=nM li15.y.st.ens.at_ λ_ z=>(by cases z);have nmM:=nM gd15 λ_ z=>(by cases z);have nPM:=nM li15.gP λ_ z=>(by cases z);have hS16:=li15.y.st.kp k16 nxM ndM λy hy=>by rw[List.mem_singleton.mp hy];exact li15.y.n3
   have hmv16:=li15.y.mv.kp k16 nmM;have gN16:=k16.st _ _ li15.nN li15.gN;have epl':e.t.pl=.spans n h0 cs:=by rw[li15.y.et];exact li15.y.pl
   have kdW:∀r∈Wt,KdR (knds tb.hd) r:=λr hr'=>hkd' r (kW r hr');dsimp only;refine aVc (S:=zA _ _) (fun σ H'=>∃vm',LI K H' C x m d dm M R N W Pt nms xs e vh vp vm' tb n h0 cs { mq with mark:=tR mq.mark S }/\cC K H' D2 Wt/\cC K H' p S/\σ=[some (.ref a),some (.ref st),some (.ref N),some (.ref x),some (.ref M),some (.int m),some (.int c),some (.int k),some (.int mq.num),some (.int mq.house),some vk,some (.ref D2),some (.ref p),some (.int ((Wt.filter λx=>decide (x∈S)).length:Nat))]) (λNX hN=>?_) fun σ' H' hJ=>?_
   ·have fin:∀H17 (v:Int),KP K (λb=>b≠dm) H' H17->bZ K H17 C x m d dm [e]->MvD K H17 dm e.n (some { mq with mark:=tR mq.mark S })->v=((Wt.filter λx=>decide (x∈S)).length:Nat)->cB 13 (.int v) [some (.ref a),some (.ref st),some (.ref N),some (.ref x),some (.ref M),some (.int m),some (.int c),some (.int k),some (.int mq.num),some (.int mq.house),some vk,some (.ref D2),some (.ref p),l13] H17 NX:=λH17 v k17 hS17 hmv17 ev=>by
     have kk:KP K (λb=>b≠M/\b≠dm) H15 H17:=(k16.mono λb z=>z.1).trans (k17.mono λb z=>z.2);have nMd:=nD gM15 λ_ z=>(by cases z);obtain⟨uR,gR15,_⟩:=id li15.y.md.2.2.2;obtain⟨uD,gD15,_⟩:=id hR15;rw[ev];exact hN _ _ ⟨vm',⟨⟨hS17,⟨k17.st _ _ nMd hM'.1,hM'.2.1.tk k17.tk,hM'.2.2.1.tk k17.tk,hM'.2.2.2.kp k17 (nD gR15 λ_ z=>(by cases z))⟩,hmv17,hmv'.tk k17.tk,li15.y.et,ok,li15.y.pl,λq0 e0=>by
      have e0:tR mq.mark S=some q0:=e0;unfold tR at e0
      split at e0
      ·exact li15.y.mk_ q0 e0
      ·rename_i r hl;cases e0;exact okS _ (List.mem_of_getLast? hl),few,m2,m4,li15.y.n1,li15.y.n3⟩,li15.nm,kk.st _ _ ⟨li15.nN,nD li15.gN λ_ z=>(by cases z)⟩ li15.gN,kk.st _ _ ⟨li15.nW,nD li15.gW λ_ z=>(by cases z)⟩ li15.gW,kk.st _ _ ⟨nPM,nD li15.gP λ_ z=>(by cases z)⟩ li15.gP,li15.nN,li15.nW⟩,hR15.kp kk ⟨fD,nD gD15 λ_ z=>(by cases z)⟩,hS15.kp kk ⟨fp,nD g15 λ_ z=>(by cases z)⟩,rfl⟩
    refine⟨_,rfl,x,dx,_,rfl,k16.st _ _ nxM hx15,rfl,_,rfl,N,_,0,.str e.n,rfl,rfl,SqL.of gN16,cL (j:=0) atN,_,rfl,x,d,dm,m,[e],e,mq,n,h0,cs,k,rfl,hS16,j8,hmv16,epl',λq0 e0=>by rw[li15.y.et];exact li15.y.mk_ q0 e0,λqs' ded'=>?_⟩;rw[<-eW] at ded' ⊢;have eq:(srt qs').take k=S:=by rw[eS,aT4 ded' ded kdW]
    rw[eq];refine⟨λhnil H17 s17=>fin H17 0 (.same s17) (hS16.same s17) ?_ ?_,λr hl H17 k17 hS17 hmv17=>fin H17 _ k17 hS17 ?_ ?_⟩
    ·rw[hnil];exact hmv16.same s17
    ·rw[hnil,List.filter_eq_nil_iff.mpr λr _=>by simp];rfl
    ·rw[show tR mq.mark S=some r by unfold tR;rw[hl]];exact hmv17
    ·rw[eS] at hl ⊢;have:=aG5 (T:={ tb with rows:=srt tb.rows }) (n:=n) (cs:=cs) (num:=mq.num) (o:=mq.mark) hks (λq0 e0=>jY (li15.y.mk_ q0 e0)) (by rw[<-eW'];exact ded) hl;rw[<-eW'] at this;rw[li15.y.et];exact this
   ·obtain⟨vm2,li,hR,hSS,rfl⟩:=hJ;refine⟨_,rfl,.int _,"int",true,rfl,rfl,_,rfl,bY ?_⟩;refine⟨_,rfl,.int _,"bool",false,rfl,rfl,_,rfl,bY ?_⟩;refine⟨_,rfl,?_⟩;dsimp only[tCB,eQ];obtain⟨u18,g18,h18⟩:=id hR;obtain⟨uS,gS,hS18⟩:=id hSS;refine iV [none,some (.ref p)] (jT 12 (by decide +kernel) rfl rfl (by trivial)) ?_;refine⟨_,rfl,D2,rfl,⟨_,SqL.of g18⟩,pJ hR (by lia) (λx=>decide (x∈S)) rfl (λu r hr' H1 R' l sm hru rr=>?_) λD5 H19 hN5 s19 hR5=>?_⟩
    ·exact⟨_,rfl,_,rfl,p,uS,S,r,rfl,SqL.of (sm _ _ gS),cX (hS18.imp λ_ _ z=>z.same sm),λr' h'=>zU (okS r' h'),hru,zU (ok.rows r (kW r hr')),_,rfl,rr H1 (Same.refl _)⟩
    ·obtain⟨u5,g5,h5⟩:=hR5;have l5:=h5.len;have li19:=li.same s19;refine⟨D5,u5,rfl,.inl (SqL.of g5),rfl,_,rfl,gY (by rw[l5,t6 rfl];rfl) ?_⟩;refine⟨_,rfl,_,rfl,N,_,0,.str e.n,rfl,rfl,SqL.of li19.gN,cL (j:=0) atN,_,rfl,_,rfl,x,d,dm,M,R,m,e,vh,vp,vm2,tb,n,h0,cs,_,rfl,li19.y,li19.gP,λH20 s20=>⟨_,rfl,bY ?_⟩⟩;exact⟨vm2,_,_,_,_,_,_,_,_,_,li19.same s20,rfl⟩
 ·obtain⟨vm,mq,l6,l7,l8,l9,l10,l11,l12,l13,li,rfl⟩:=p;exact q H10 li.gP
theorem aXm {fa Pt:Addr}(T:Txt w K mg)(CT:aSa K mg "are_cuts" Pt)(hmg:mg "law"=some (.ref fa)) :
  ∃fd:FuncData,(∀(s:Shared) (u:Value),BindsTo s fd ⟨[u],[]⟩ [("_law_script",u)])/\∀base:Heap,K.In base->base.Ns mainGlobals mg->BM mg base->lJ P w K mg base CX0 15 fa fd ["_law_script"] (aNv K Pt):=by
 obtain⟨f,fd,F,B,m⟩:=T.bBg;have e:fa=f:=by rw[m] at hmg;injection hmg with e;injection e with e;exact e.symm
 subst e;refine⟨fd,?_,λbase hK _ hbm=>?_⟩
 ·obtain⟨⟨oc,od,kV,doc,pm,an,cdv,ct,osl,rfl,lk,hcd⟩,kp⟩:=F;exact λs u=>.of_eq rfl
 ·obtain⟨Tc,D,m0,m3,m4,m6,a1,a2⟩:=T.aXo;obtain⟨Sc,DS,q0,q1,q2,q3,q4,q5,q6,q7,q8,q9,b1,b2,b3⟩:=T.aUz;have c:=D.cls;have cs:=DS.cls;have g1:=aH0 (P:=P) (base:=base) T;have g2:=aLb (P:=P) (base:=base) T;have g3:=aLr T g2;have g4:=aJp T g1 g2;have g5:=aKx T g1;have g6:=aGk (P:=P) (base:=base) T;have nb:=uL T g1;have nms:=aGc (P:=P) (base:=base) T;have vo:=aAg T g4 g5;have kin:=aLw (P:=P) (base:=base) T;have cof:=aOe (P:=P) (base:=base) T;have cuts:=aIe T CT hK hbm (zH T) (aPa T nb) vo;have pl:=aCq T g6 (zN T g3 nms) kin cuts;have irow:=aKu T vo;have tb:=aJr T (aIi T (aFi T g3 g6) (aBd T) (aCi T) nms) pl (aI9 T irow);have pt:=xF T (aEo T g1 g3 tb);have tin:=aI0 T g3;have ra:=aMd T nb (aF1 T (yK T nms) (aUw T g1 (aAu T)) cof);have n1:=aGa (P:=P) (base:=base) T;have n2:=aCw T n1 (aCx T n1);have rw_:=aHv T n2;have spot:=aE9 (P:=P) (base:=base) T;have span:=aFn (P:=P) (base:=base) T;have po:=yK T nms;have mov:=aL1 T cs q7 b1 b3 tin;have ct:=aRw T cs q1 b1 tin;have sr:=aFq T po cof;have ab:=aIg (P:=P) (base:=base) T;have no3:Ok P w K mg base 1 "_law_home" ["_law_value_here","_law_houses"] aW6:=Ok.ofV T.aH3 aFf (λ_ _ _ _ h=>h.elim) λ_ _ _ _ _ _ _ _ _ _ h=>h.elim;have std:=aCm T spot no3 span;have osp:=zF T spot span;exact aXh F T (aE7 T) (aC2 T n1 (aCt T)) (sJ T n1 (aE6 T n1) n2 rw_ (OkM.make DS (aO6 T cs q0 b1 b2 b3 pt))) (aGq T n1 mov (aSj T cs q4 b2 b3 nb ct (aPv (P:=P) (w:=w) (mg:=mg) (base:=base) T cs q2 b3))) (aCs T std (aBs T std osp) mov (aRj T cs q9 b1 b2 (OkM.make D (aQ8 T c m0 a1 a2 pt))) (aJe T cs q8 b1 b2 tin ra mov sr ab) (aI7 T c m3 a1 tin) (aPs T c m4 a1 tin) (aQ7 T c m6 a1 a2 tin ra)) osp (aPp T cs q6 b3 ct (aKo (P:=P) (w:=w) (mg:=mg) (base:=base) T cs q3 b3) (aU2 T cs q5 b1 b3 sr ab))
theorem aTp {Pt:Addr}{H:Hp}{a:Addr}{ns:List Int}{E:XK}(hl:ns.length<=63)(hT:tH [(Pt,qC)] H)(hS:SqL K H a (ns.map V.int)):aNv K Pt [.ref a] H (λv H'=>v=.bl true/\tH [(Pt,qC)] H') E:=
 ⟨a,ns,rfl,hS,hl,hT _ (List.mem_singleton.mpr rfl),λH' h=>⟨rfl,λp hp=>by rcases List.mem_singleton.mp hp with rfl;exact h⟩⟩
theorem aZg {h:Heap}{Pt f c:Addr}{o:Obj}{fd:FuncData}(X:K.In h)(G:h.Ns mainGlobals mg)(a:PySem.W.nsIn K mainGlobals "are_cuts"=some (some (.ref f)))(l:K.lookup f=some o)(e1:o.data=.func fd)(e2:fd.code=.ref c)(hh:PySem.W.codeHdIn K c Pt=true):aSa K mg "are_cuts" Pt:=
 ⟨f,o,fd,c,bBZ X G a,l,e1,e2,hh⟩
theorem aUe {Pt f c:Addr}{o:Obj}{fd:FuncData}(a:PySem.W.nsIn K mainGlobals "are_cuts"=some (some (.ref f)))(l:K.lookup f=some o)(e1:o.data=.func fd)(e2:fd.code=.ref c)(hh:PySem.W.codeHdIn K c Pt=true)(n:K.lookup Pt=none) :
  ∀p∈[(Pt,qC)],(∃c,PySem.W.codeHdIn K c p.1=true)/\K.lookup p.1=none:=λp hp=>by
 rcases List.mem_singleton.mp hp with rfl;exact⟨⟨c,hh⟩,n⟩
theorem aU4 {Pt:Addr}{h:Heap}(x:∀P∈[Pt],h.get? P=some (PySem.W.tabObj #[])):∀p∈[(Pt,qC)],h.get? p.1=some { cls:=.none,data:=.fields #[] }:=λp hp=>by rcases List.mem_singleton.mp hp with rfl;exact x _ (List.mem_singleton.mpr rfl)
theorem aOx {l:PySem.W.OpenLaw}{n k:Nat}{q:Program}{loose:List Str}{XP:(bE0)->Heap->Prop}{YP:World->Heap->Prop}{d:DefRec}{K:Params->bEX}{CX:CXT}{sp:bEX->Sp}{x:Str}
  (hn:l.most=some n) (hn2:n<=sizeLine) (hdf:d.params.defaults=[]) (hr:Room k callerA)
  (ts:List (Addr × Str)) (hnd:(ts.map (·.1)).Nodup)
  (hY:∀(w:World) (h:Heap),YP w h->(K w.params).In h/\∀p∈ts,h.get? p.1=some { cls:=.none,data:=.fields #[] })
  (hC:∀(w:World),∀p∈ts,(∃c,PySem.W.codeHdIn (K w.params) c p.1=true)/\(K w.params).lookup p.1=none)
  (F:∀(w:World) (mg:bE0) (fa:Addr) (h:Heap),(K w.params).In h->h.Ns mainGlobals mg->mg d.name=some (.ref fa) ->
   ∃fd:FuncData,(∀(s:Shared) (u:Value),BindsTo s fd ⟨[u],[]⟩ [(x,u)]) /\
    ∀base:Heap,(K w.params).In base->base.Ns mainGlobals mg->BM mg base->lJ l.prog w (K w.params) mg base CX k fa fd [x] (sp (K w.params)))
  (hsp:∀(K:bEX) (H:Hp) (a:Addr) (ns:List Int),ns.length<=n->tH ts H->SqL K H a (ns.map V.int)->sp K [.ref a] H (λv H'=>v=.bl true/\tH ts H') λ_ _ _=>False)
  (hCX:∀(H:Hp) (s:Shared) (e:Value) (s':Shared),CX [] H s (λ_ _ _=>False) e s'->False) :
  PySem.W.WalkO q loose XP YP l.row.toRowW d [] (λf vs=>PySem.call f vs):=
 aRr (K:=K) (CX:=λ_=>CX) (sp:=λw=>sp (K w.params)) hn hn2 hdf hr ts hnd hY hC F (λw H a ns h1 h2 h3=>hsp (K w.params) H a ns h1 h2 h3) λ_ H s e s'=>hCX H s e s'
end
inductive FA (K:bEX)(n:Str)(s:Stmt)(f:Addr):Prop
 |mk {od an:Option Addr} {sl:Array (Option Value)} {kV dc pm cd ct:Value}:PySem.W.nsIn K mainGlobals n=some (some (.ref f))->K.lookup f=some ⟨.type "function",od,.func (PySem.W.fnOf n n (mK s) (eV s) (aD s) .none kV dc pm an cd ct),sl⟩->PySem.W.codeIn K cd n=true->PySem.W.keepIn K (.ref f)=true->FA K n s f
section
variable {K:bEX}{h:Heap}{mg:bE0}{n:Str}{s:Stmt}{f:Addr}{ps:List Str}
theorem aW2 (X:K.In h)(G:h.Ns mainGlobals mg)(a:FA K n s f):mg n=some (.ref f):=by obtain⟨a,_,_,_⟩:=a;exact bBZ X G a
theorem bR (X:K.In h)(G:h.Ns mainGlobals mg)(a:FA K n s f)(b:∀(kV doc pm:Value) (an:Option Addr) (cdv ct:Value) (us:List Value),us.length=ps.length->bindArgs (PySem.W.fnOf n n (mK s) (eV s) (aD s) .none kV doc pm an cdv ct) ⟨us,[]⟩=pure (ps.zip us)):Dn K mg n s ps:=by have m:=aW2 X G a;obtain⟨_,l,c,k⟩:=a;exact⟨f,_,aEr l c k,(aEr l c k).binds b,m⟩
theorem bBb (X:K.In h)(G:h.Ns mainGlobals mg)(a:FA K n s f):∃f o,(∃u,mg n=some u/\RelV (.ref f) u)/\K.lookup f=some o/\o.cls=.type "function":=by have m:=aW2 X G a;obtain⟨_,l,c,k⟩:=a;exact⟨f,_,⟨_,m,rfl⟩,l,rfl⟩
end
inductive CA (K:bEX)(x:Str)(C:Addr):Prop
 |mk:PySem.W.nsIn K mainGlobals x=some (some (.ref C))->PySem.W.plainGet K C Str.empty=true->PySem.W.hasDictIn K C=true->PySem.W.plainOver K C=true->PySem.W.findIn K (.ref C) "__setattr__"=some (some (.builtin "object.__setattr__"))->PySem.W.makesIn K C=true->PySem.W.keepIn K (.ref C)=true->CA K x C
theorem aWp {K:bEX}{h:Heap}{mg:bE0}{x:Str}{C:Addr}(X:K.In h)(G:h.Ns mainGlobals mg)(a:CA K x C):aVi K mg x C:=by obtain⟨a,p1,p2,p3,p4,p5,p6⟩:=a;exact⟨bBZ X G a,⟨p1,p2,p3,p4⟩,p5,p6⟩
inductive MA (K:bEX)(C:Addr)(m qual:Str)(s:Stmt)(f:Addr):Prop
 |mk {od an:Option Addr} {sl:Array (Option Value)} {kV dc pm cd ct:Value}:PySem.W.findIn K (.ref C) m=some (some (.ref f))->PySem.W.isFn K (.ref f)=true->K.lookup f=some ⟨.type "function",od,.func (PySem.W.fnOf m qual (mK s) (eV s) (aD s) .none kV dc pm an cd ct),sl⟩->PySem.W.codeIn K cd qual=true->PySem.W.keepIn K (.ref f)=true->MA K C m qual s f
theorem mO {K:bEX}{C:Addr}{m qual:Str}{s:Stmt}{f:Addr}{ps:List Str}(a:MA K C m qual s f)(b:∀(kV doc pm:Value) (an:Option Addr) (cdv ct:Value) (us:List Value),us.length=ps.length->bindArgs (PySem.W.fnOf m qual (mK s) (eV s) (aD s) .none kV doc pm an cdv ct) ⟨us,[]⟩=pure (ps.zip us)):iD K C m qual s ps:=by obtain⟨a,i,l,c,k⟩:=a;exact⟨f,_,⟨a,i,k⟩,aEr l c k,(aEr l c k).binds b⟩
theorem ln0 {P:List Value->Prop}(h:P []):∀us:List Value,us.length=0->P us
 |[],_=>h
theorem ln1 {P:List Value->Prop}(h:∀a0,P [a0]):∀us:List Value,us.length=1->P us
 |[a0],_=>h a0
theorem ln2 {P:List Value->Prop}(h:∀a0 a1,P [a0,a1]):∀us:List Value,us.length=2->P us
 |[a0,a1],_=>h a0 a1
theorem ln3 {P:List Value->Prop}(h:∀a0 a1 a2,P [a0,a1,a2]):∀us:List Value,us.length=3->P us
 |[a0,a1,a2],_=>h a0 a1 a2
theorem ln4 {P:List Value->Prop}(h:∀a0 a1 a2 a3,P [a0,a1,a2,a3]):∀us:List Value,us.length=4->P us
 |[a0,a1,a2,a3],_=>h a0 a1 a2 a3
theorem ln5 {P:List Value->Prop}(h:∀a0 a1 a2 a3 a4,P [a0,a1,a2,a3,a4]):∀us:List Value,us.length=5->P us
 |[a0,a1,a2,a3,a4],_=>h a0 a1 a2 a3 a4
theorem ln6 {P:List Value->Prop}(h:∀a0 a1 a2 a3 a4 a5,P [a0,a1,a2,a3,a4,a5]):∀us:List Value,us.length=6->P us
 |[a0,a1,a2,a3,a4,a5],_=>h a0 a1 a2 a3 a4 a5
local macro_rules
 |`(tactic| trivial)=>`(tactic| first|exact (λ_ _ _ _ _ _=>ln1 λ_=>rfl)|exact (λ_ _ _ _ _ _=>ln2 λ_ _=>rfl)|exact (λ_ _ _ _ _ _=>ln3 λ_ _ _=>rfl)|exact (λ_ _ _ _ _ _=>ln4 λ_ _ _ _=>rfl)|exact (λ_ _ _ _ _ _=>ln0 rfl)|exact (λ_ _ _ _ _ _=>ln5 λ_ _ _ _ _=>rfl)|exact (λ_ _ _ _ _ _=>ln6 λ_ _ _ _ _ _=>rfl))
theorem aZu {K:bEX}{h:Heap}{mg:bE0}(X:K.In h)(G:h.Ns mainGlobals mg){w:World}{f0 f1 f2 f3 f4 f5 f6 f7 f8 f9 f10 f11 f12 f13 f14 f15 f16 f17 f18 f19 f20 f21 f22 f23 f24 f25 f26 f27 f28 f29 f34 f35 f46 f47 f48 f49 f50 f51 f52 f53 f54 f55 f56 f57 f58 f59 f60 f61 f62 f63:Addr}{mH:Addr}{eX:Obj}{mR:Array Value}{wG:Nat}{aJ7:Tok}{aHj:Addr}{vH:Obj}{aJf:Array Value}{aQq:Nat}{zG:Tok}{zK:Tok}{aEm:Tok}{zY:Tok}{aE4:Tok}{C_Town:Addr}{g0 g1 g2 g3:Addr}{C_Store:Addr}{g4 g5 g6 g7 g8 g9 g10 g11 g12 g13:Addr}
  (a0:FA K "is_whole" uK f0)
  (a1:FA K "is_number_below" iZ f1)
  (a2:FA K "is_word" yF f2)
  (a3:FA K "is_one_of" rP f3)
  (a4:FA K "is_tuple_of" fW f4)
  (a5:FA K "are_unlike" oY f5)
  (a6:FA K "names_of" uT f6)
  (a7:FA K "is_name" xO f7)
  (a8:FA K "is_value" uH f8)
  (a9:FA K "kind_of" xZ f9)
  (a10:FA K "is_value_of" nF f10)
  (a11:FA K "is_column" rJ f11)
  (a12:FA K "is_head" xY f12)
  (a13:FA K "is_row" aCb f13)
  (a14:FA K "word_number" mZ f14)
  (a15:FA K "home" aKv f15)
  (a16:FA K "kind_in" xW f16)
  (a17:FA K "place_of" tV f17)
  (a18:FA K "is_cut" aBi f18)
  (a19:FA K "are_cuts" pA f19)
  (a20:FA K "is_column_in" lN f20)
  (a21:FA K "is_placing" pC f21)
  (a22:FA K "are_rows" oR f22)
  (a23:FA K "is_table" uB f23)
  (a24:FA K "need_town" pW f24)
  (a25:FA K "placed_tables" kE f25)
  (a26:FA K "table_in" uC f26)
  (a27:FA K "cut_of" aAq f27)
  (a28:FA K "stands_at" qN f28)
  (a29:FA K "rows_at" rQ f29)
  (a34:FA K "span_rows" mY f34)
  (a35:FA K "is_above" uF f35)
  (a46:FA K "_law_seed" rD f46)
  (a47:FA K "_law_next" rE f47)
  (a48:FA K "_law_words" pL f48)
  (a49:FA K "_law_names" lC f49)
  (a50:FA K "_law_great" oK f50)
  (a51:FA K "_law_value" pK f51)
  (a52:FA K "_law_head" qI f52)
  (a53:FA K "_law_row" pB f53)
  (a54:FA K "_law_home" pU f54)
  (a55:FA K "_law_span" mX f55)
  (a56:FA K "_law_spot" qG f56)
  (a57:FA K "_law_stood" iM f57)
  (a58:FA K "_law_of_span" jC f58)
  (a59:FA K "_law_stands" jR f59)
  (a60:FA K "_law_spans_begun" cY f60)
  (a61:FA K "_law_lent" rN f61)
  (a62:FA K "_law_right" oO f62)
  (a63:FA K "law" aDd f63)
  (q0:PySem.W.nsIn K mainGlobals "QUESTION_WORDS"=some (some (.ref mH))) (r0:K.lookup mH=some eX) (t0:eX.cls=.type "tuple") (y0:eX.dict=none) (u0:eX.data=.seq mR wG) (v0:Vals [.str "and",.str "by",.str "count",.str "down",.str "first",.str "group",.str "join",.str "keep",.str "least",.str "most",.str "named",.str "on",.str "sum",.str "table",.str "up",.str "where",.str "with"] mR.toList)
  (q1:PySem.W.nsIn K mainGlobals "LETTERS"=some (some (.str "abcdefghijklmnopqrstuvwxyz" aJ7)))
  (q2:PySem.W.nsIn K mainGlobals "KINDS"=some (some (.ref aHj))) (r2:K.lookup aHj=some vH) (t2:vH.cls=.type "tuple") (y2:vH.dict=none) (u2:vH.data=.seq aJf aQq) (v2:Vals [.str "number",.str "word"] aJf.toList)
  (q3:PySem.W.nsIn K mainGlobals "MOST_LETTERS"=some (some (.int 8 zG)))
  (q4:PySem.W.nsIn K mainGlobals "MOST_COLUMNS"=some (some (.int 8 zK)))
  (q5:PySem.W.nsIn K mainGlobals "WORD_BASE"=some (some (.int 27 aEm)))
  (q6:PySem.W.nsIn K mainGlobals "MOST_HOUSES"=some (some (.int 6 zY)))
  (q7:PySem.W.nsIn K mainGlobals "MOST_CUTS"=some (some (.int 8 aE4)))
  (z0:PySem.W.nsIn K mainGlobals "ValueError"=some none)
  (z1:PySem.W.nsIn K mainGlobals "all"=some none)
  (z2:PySem.W.nsIn K mainGlobals "any"=some none)
  (z3:PySem.W.nsIn K mainGlobals "bool"=some none)
  (z4:PySem.W.nsIn K mainGlobals "dict"=some none)
  (z5:PySem.W.nsIn K mainGlobals "enumerate"=some none)
  (z6:PySem.W.nsIn K mainGlobals "int"=some none)
  (z7:PySem.W.nsIn K mainGlobals "isinstance"=some none)
  (z8:PySem.W.nsIn K mainGlobals "len"=some none)
  (z9:PySem.W.nsIn K mainGlobals "list"=some none)
  (z10:PySem.W.nsIn K mainGlobals "max"=some none)
  (z11:PySem.W.nsIn K mainGlobals "range"=some none)
  (z12:PySem.W.nsIn K mainGlobals "set"=some none)
  (z13:PySem.W.nsIn K mainGlobals "sorted"=some none)
  (z14:PySem.W.nsIn K mainGlobals "str"=some none)
  (z15:PySem.W.nsIn K mainGlobals "tuple"=some none)
  (z16:PySem.W.nsIn K mainGlobals "zip"=some none)
  (eTown:CA K "Town" C_Town)
  (b0:MA K C_Town "__init__" "Town.__init__" gH g0)
  (b1:MA K C_Town "placing" "Town.placing" iU g1)
  (b2:MA K C_Town "whole" "Town.whole" lG g2)
  (b3:MA K C_Town "part" "Town.part" mL g3)
  (d0:bK K C_Town "placed")
  (d1:bK K C_Town "house_count")
  (eStore:CA K "Store" C_Store)
  (b4:MA K C_Store "__init__" "Store.__init__" fQ g4)
  (b5:MA K C_Store "cut_table" "Store.cut_table" eO g5)
  (b6:MA K C_Store "need_still" "Store.need_still" dY g6)
  (b7:MA K C_Store "move_of" "Store.move_of" gF g7)
  (b8:MA K C_Store "lend" "Store.lend" lD g8)
  (b9:MA K C_Store "rows_to_come" "Store.rows_to_come" cP g9)
  (b10:MA K C_Store "carry" "Store.carry" jO g10)
  (b11:MA K C_Store "moving" "Store.moving" iY g11)
  (b12:MA K C_Store "stands" "Store.stands" eY g12)
  (b13:MA K C_Store "town" "Store.town" lA g13)
  (d2:bK K C_Store "placed")
  (d3:bK K C_Store "house_count")
  (d4:bK K C_Store "moves"):Txt w K mg:=
 ⟨bAO X G z0,
  bAO X G z1,
  bAO X G z2,
  bAO X G z3,
  bAO X G z4,
  bAO X G z5,
  bAO X G z6,
  bAO X G z7,
  bAO X G z8,
  bAO X G z9,
  bAO X G z10,
  bAO X G z11,
  bAO X G z12,
  bAO X G z13,
  bAO X G z14,
  bAO X G z15,
  bAO X G z16,
  ⟨_,bBZ X G q0,λH=>.inr ⟨_,_,_,r0,t0,y0,u0,by have e:=v0.length;simp only[t7] at e;rw[<-e];exact small (by decide),v0⟩⟩,
  ⟨_,bBZ X G q1,_,rfl⟩,
  ⟨_,bBZ X G q2,λH=>.inr ⟨_,_,_,r2,t2,y2,u2,by have e:=v2.length;simp only[t7] at e;rw[<-e];exact small (by decide),v2⟩⟩,
  ⟨_,bBZ X G q3,_,rfl⟩,
  ⟨_,bBZ X G q4,_,rfl⟩,
  ⟨_,bBZ X G q5,_,rfl⟩,
  ⟨_,bBZ X G q6,_,rfl⟩,
  ⟨_,bBZ X G q7,_,rfl⟩,
  bBb X G a11,
  bR X G a0 (by trivial),
  bR X G a1 (by trivial),
  bR X G a2 (by trivial),
  bR X G a3 (by trivial),
  bR X G a4 (by trivial),
  bR X G a5 (by trivial),
  bR X G a6 (by trivial),
  bR X G a7 (by trivial),
  bR X G a8 (by trivial),
  bR X G a9 (by trivial),
  bR X G a10 (by trivial),
  bR X G a11 (by trivial),
  bR X G a12 (by trivial),
  bR X G a13 (by trivial),
  bR X G a14 (by trivial),
  bR X G a15 (by trivial),
  bR X G a16 (by trivial),
  bR X G a17 (by trivial),
  bR X G a18 (by trivial),
  bR X G a19 (by trivial),
  bR X G a20 (by trivial),
  bR X G a21 (by trivial),
  bR X G a22 (by trivial),
  bR X G a23 (by trivial),
  bR X G a24 (by trivial),
  bR X G a25 (by trivial),
  bR X G a26 (by trivial),
  bR X G a27 (by trivial),
  bR X G a28 (by trivial),
  bR X G a29 (by trivial),
  bR X G a34 (by trivial),
  bR X G a35 (by trivial),
  bR X G a46 (by trivial),
  bR X G a47 (by trivial),
  bR X G a48 (by trivial),
  bR X G a49 (by trivial),
  bR X G a50 (by trivial),
  bR X G a51 (by trivial),
  bR X G a52 (by trivial),
  bR X G a53 (by trivial),
  bR X G a54 (by trivial),
  bR X G a55 (by trivial),
  bR X G a56 (by trivial),
  bR X G a57 (by trivial),
  bR X G a58 (by trivial),
  bR X G a59 (by trivial),
  bR X G a60 (by trivial),
  bR X G a61 (by trivial),
  bR X G a62 (by trivial),
  bR X G a63 (by trivial),
  ⟨C_Town,aWp X G eTown,mO b0 (by trivial),mO b1 (by trivial),mO b2 (by trivial),mO b3 (by trivial),d0,d1⟩,
  ⟨C_Store,aWp X G eStore,mO b4 (by trivial),mO b5 (by trivial),mO b6 (by trivial),mO b7 (by trivial),mO b8 (by trivial),mO b9 (by trivial),mO b10 (by trivial),mO b11 (by trivial),mO b12 (by trivial),mO b13 (by trivial),d2,d3,d4⟩⟩
end My
open PySem PySem.W PyProof.Rows
namespace PySem.W.Fast
def tw13774545438518717488:=0
def tw11581305097533165428:=0
def tw328755226718134354:=0
def tw8224787530899816031:=0
def tw560119316350026919:=0
def tw18270991384236004396:=0
def tw998673277140740793:=0
def tw18245030773433703397:=0
def tw16255735195207758176:=0
def tw10568141095837911989:=0
def tw15815847132099162057:=0
def tw11374149260008631431:=0
def tw8732379584145266082:=0
def tw10011965652800477680:=0
def tw12048486120356433751:=0
def tw7767878107518419107:=0
def tw17885337954422389221:=0
def tw1779164223641780303:=0
def tw13993237874215440932:=0
def tw10895423184021744011:=0
def tw9865723064460746067:=0
def tw13886641940074017702:=0
def tw10960593818617319660:=0
def tw5588747516728395494:=0
def tw8404766695339826617:=0
def tw16422895843734756920:=0
def tw10517070630974762861:=0
def tw11369253370149818513:=0
def tw4647670410030437272:=0
def tw16125780554226862907:=0
def tw7396189327949070676:=0
def tw7493171074006906262:=0
def tw13715389906704150931:=0
def tw660422874925614292:=0
def tw16922527935927304411:=0
def tw3252905978601964753:=0
def tw4469129293169564553:=0
def tw16080735018107530614:=0
def tw14003332791849351575:=0
def tw1365628805692427059:=0
def tw11557207807688672127:=0
def tw11487656075804162411:=0
def tw16345633046549586335:=0
def tw16183703156878800907:=0
def tw10347331520229051565:=0
def tw14137221080905184327:=0
def tw8803457991556978858:=0
def tw7902739817297939738:=0
def tw15228001277307788839:=0
def tw1807636769823803979:=0
def tw14436883795882231259:=0
def tw10312351296548040000:=0
def tw12056846481936827140:=0
def tw7176561882202015790:=0
def tw21507373097583696:=0
def tw7464200654983142532:=0
def tw128854488993282575:=0
def tw8269849158341338454:=0
def tw3278586486517144913:=0
def tw7216807583538724594:=0
def tw15651643239325442229:=0
def tw2627629336903588070:=0
def tw947387034331917046:=0
def tw1852021714876474957:=0
def tw1233749489710362973:=0
def tw16124728898412827923:=0
def tw6744078342772002218:=0
def tw9517192845295978068:=0
def tw6321648335077032685:=0
def tw18373774772912115695:=0
def tw9992325097449593496:=0
def tw16599517831108083558:=0
def tw555994433133169787:=0
def tw706023175651834139:=0
def tw13436759111616741126:=0
def tw13649769575579875087:=0
def tw8502636598245164336:=0
def tw4145714063703127883:=0
def tw11655462531650805739:=0
def tw11092373196612569426:=0
def tw5469651690490299527:=0
def tw10397693949908375868:=0
def tw7165146977835509945:=0
def tw4374067559372771497:=0
def tw14452545362115682208:=0
def tw2091349116599931761:=0
def tw10246647288754754838:=0
def tw495417508043897868:=0
def tw16749100435563410038:=0
def tw16140552814763018195:=0
def tw15075381456945802287:=0
def tw669934631640453595:=0
def tw5714996085979779178:=0
def tw17550476516130749179:=0
def tw18299462745350182945:=0
def tw14527226850876235693:=0
def tw9883165097872301335:=0
def tw16133352893238758271:=0
def tw14432225295252407686:=0
def tw185706455144090381:=0
def tw6595504137197228801:=0
def tw3825535334270173370:=0
def tw4231517972271019002:=0
def tw4726448314708171595:=0
def tw11443770986974070249:=0
def tw58928498689366968:=0
def tw30986541142314112:=0
def tw9768955470804424494:=0
def tw1944878237215620140:=0
def tw12128277660004949237:=0
def tw1888125293667638720:=0
def tw5265045590313455226:=0
def tw15167986787823436982:=0
def tw7170704176932676589:=0
def tw13056414309918070932:=0
def tw12775101986224381654:=0
def tw3282391308443295476:=0
def tw5222045227656968789:=0
def tw11474815320712765146:=0
def tw12658534349259984125:=0
def tw4083237420395903671:=0
def tw2275754876975646565:=0
def tw4235072472442808877:=0
def tw15227095447582081684:=0
def tw2752675701176477065:=0
def tw13979994075110343598:=0
def tw12801429428354451426:=0
def tw6443393201194165079:=0
def tw15272869631495980999:=0
def tw2617428772899769903:=0
def tw8864051721100880112:=0
def tw8350459235006630484:=0
def tw13885680453352176666:=0
def tw13796983289731719985:=0
def tw14590132951952403146:=0
def tw9729677968802205364:=0
def tw12154481274052854685:=0
def tw1839749660799401865:=0
def tw2382540123979782740:=0
def tw17876907827031064440:=0
def tw1426472168538272035:=0
def tw2302422876370727274:=0
def tw13193847030919667397:=0
def tw7041814199925915075:=0
def tw2801771833847622581:=0
def tw16870080954472051501:=0
def tw15519881211112385092:=0
def tw10787800122173473276:=0
def tw11633321619864780504:=0
def tw12231970679536663418:=0
def tw17860738674829084253:=0
def tw8506464251211605568:=0
def tw7586228978889174713:=0
def tw1007229004572388027:=0
def tw9246102351738359632:=0
def tw5795150626847749518:=0
def tw3636157933014878281:=0
def tw7710994461965439137:=0
def tw9707455051038449801:=0
def tw16743508003219436051:=0
end PySem.W.Fast
set_option maxRecDepth 100000 in
set_option maxHeartbeats 0 in
theorem PySem.Challenge.cw_shardask_k62_carry_holds : PySem.Challenge.rw_shardask_k62_carry.Holds := by
 w_on;o_law;k_head;(case hw=>w_witness2)
 k_fill
 refine My.aOx (l:=PySem.Challenge.rw_shardask_k62_carry) (n:=63) (k:=15) (x:="_law_script") (CX:=L2.CX0) (sp:=fun K=>My.aNv K 254) rfl (by decide) rfl ⟨rfl,by decide,by decide⟩ [(254,My.qC)] (by decide) (fun w h Y=>⟨PySem.W.km_in_of Y,My.aU4 (PySem.W.km_tabs_of Y)⟩) ?C ?F (fun K H a ns hl hO hS=>My.aTp hl hO hS) (fun _ _ _ _ z=>z)
 case C=>
  intro w
  refine' My.aUe ?a ?l ?e1 ?e2 ?h ?n
  (case a=>k_is)
  (case l=>k_is)
  (case e1=>rfl)
  (case e2=>rfl)
  (case h=>first|k_is|kernel_rfl|decide +kernel)
  (case n=>first|k_is|kernel_rfl|decide +kernel)
 case F=>
  intro w mg fa h KX G hmg
  have T:My.Txt w (L2.KOf KX) mg:=by
   dsimp only [L2.KOf]
   refine' My.aZu KX G ?a0 ?a1 ?a2 ?a3 ?a4 ?a5 ?a6 ?a7 ?a8 ?a9 ?a10 ?a11 ?a12 ?a13 ?a14 ?a15 ?a16 ?a17 ?a18 ?a19 ?a20 ?a21 ?a22 ?a23 ?a24 ?a25 ?a26 ?a27 ?a28 ?a29 ?a34 ?a35 ?a46 ?a47 ?a48 ?a49 ?a50 ?a51 ?a52 ?a53 ?a54 ?a55 ?a56 ?a57 ?a58 ?a59 ?a60 ?a61 ?a62 ?a63 ?q0 ?r0 ?t0 ?y0 ?u0 ?v0 ?q1 ?q2 ?r2 ?t2 ?y2 ?u2 ?v2 ?q3 ?q4 ?q5 ?q6 ?q7 ?z0 ?z1 ?z2 ?z3 ?z4 ?z5 ?z6 ?z7 ?z8 ?z9 ?z10 ?z11 ?z12 ?z13 ?z14 ?z15 ?z16 ?eTown ?b0 ?b1 ?b2 ?b3 ?d0 ?d1 ?eStore ?b4 ?b5 ?b6 ?b7 ?b8 ?b9 ?b10 ?b11 ?b12 ?b13 ?d2 ?d3 ?d4
   (case a0=>(refine' My.FA.mk ?j0 ?l0 ?c0 ?k0);(case j0=>k_is);(case l0=>k_is);(case c0=>k_is);(case k0=>k_is))
   (case a1=>(refine' My.FA.mk ?j1 ?l1 ?c1 ?k1);(case j1=>k_is);(case l1=>k_is);(case c1=>k_is);(case k1=>k_is))
   (case a2=>(refine' My.FA.mk ?j2 ?l2 ?c2 ?k2);(case j2=>k_is);(case l2=>k_is);(case c2=>k_is);(case k2=>k_is))
   (case a3=>(refine' My.FA.mk ?j3 ?l3 ?c3 ?k3);(case j3=>k_is);(case l3=>k_is);(case c3=>k_is);(case k3=>k_is))
   (case a4=>(refine' My.FA.mk ?j4 ?l4 ?c4 ?k4);(case j4=>k_is);(case l4=>k_is);(case c4=>k_is);(case k4=>k_is))
   (case a5=>(refine' My.FA.mk ?j5 ?l5 ?c5 ?k5);(case j5=>k_is);(case l5=>k_is);(case c5=>k_is);(case k5=>k_is))
   (case a6=>(refine' My.FA.mk ?j6 ?l6 ?c6 ?k6);(case j6=>k_is);(case l6=>k_is);(case c6=>k_is);(case k6=>k_is))
   (case a7=>(refine' My.FA.mk ?j7 ?l7 ?c7 ?k7);(case j7=>k_is);(case l7=>k_is);(case c7=>k_is);(case k7=>k_is))
   (case a8=>(refine' My.FA.mk ?j8 ?l8 ?c8 ?k8);(case j8=>k_is);(case l8=>k_is);(case c8=>k_is);(case k8=>k_is))
   (case a9=>(refine' My.FA.mk ?j9 ?l9 ?c9 ?k9);(case j9=>k_is);(case l9=>k_is);(case c9=>k_is);(case k9=>k_is))
   (case a10=>(refine' My.FA.mk ?j10 ?l10 ?c10 ?k10);(case j10=>k_is);(case l10=>k_is);(case c10=>k_is);(case k10=>k_is))
   (case a11=>(refine' My.FA.mk ?j11 ?l11 ?c11 ?k11);(case j11=>k_is);(case l11=>k_is);(case c11=>k_is);(case k11=>k_is))
   (case a12=>(refine' My.FA.mk ?j12 ?l12 ?c12 ?k12);(case j12=>k_is);(case l12=>k_is);(case c12=>k_is);(case k12=>k_is))
   (case a13=>(refine' My.FA.mk ?j13 ?l13 ?c13 ?k13);(case j13=>k_is);(case l13=>k_is);(case c13=>k_is);(case k13=>k_is))
   (case a14=>(refine' My.FA.mk ?j14 ?l14 ?c14 ?k14);(case j14=>k_is);(case l14=>k_is);(case c14=>k_is);(case k14=>k_is))
   (case a15=>(refine' My.FA.mk ?j15 ?l15 ?c15 ?k15);(case j15=>k_is);(case l15=>k_is);(case c15=>k_is);(case k15=>k_is))
   (case a16=>(refine' My.FA.mk ?j16 ?l16 ?c16 ?k16);(case j16=>k_is);(case l16=>k_is);(case c16=>k_is);(case k16=>k_is))
   (case a17=>(refine' My.FA.mk ?j17 ?l17 ?c17 ?k17);(case j17=>k_is);(case l17=>k_is);(case c17=>k_is);(case k17=>k_is))
   (case a18=>(refine' My.FA.mk ?j18 ?l18 ?c18 ?k18);(case j18=>k_is);(case l18=>k_is);(case c18=>k_is);(case k18=>k_is))
   (case a19=>(refine' My.FA.mk ?j19 ?l19 ?c19 ?k19);(case j19=>k_is);(case l19=>k_is);(case c19=>k_is);(case k19=>k_is))
   (case a20=>(refine' My.FA.mk ?j20 ?l20 ?c20 ?k20);(case j20=>k_is);(case l20=>k_is);(case c20=>k_is);(case k20=>k_is))
   (case a21=>(refine' My.FA.mk ?j21 ?l21 ?c21 ?k21);(case j21=>k_is);(case l21=>k_is);(case c21=>k_is);(case k21=>k_is))
   (case a22=>(refine' My.FA.mk ?j22 ?l22 ?c22 ?k22);(case j22=>k_is);(case l22=>k_is);(case c22=>k_is);(case k22=>k_is))
   (case a23=>(refine' My.FA.mk ?j23 ?l23 ?c23 ?k23);(case j23=>k_is);(case l23=>k_is);(case c23=>k_is);(case k23=>k_is))
   (case a24=>(refine' My.FA.mk ?j24 ?l24 ?c24 ?k24);(case j24=>k_is);(case l24=>k_is);(case c24=>k_is);(case k24=>k_is))
   (case a25=>(refine' My.FA.mk ?j25 ?l25 ?c25 ?k25);(case j25=>k_is);(case l25=>k_is);(case c25=>k_is);(case k25=>k_is))
   (case a26=>(refine' My.FA.mk ?j26 ?l26 ?c26 ?k26);(case j26=>k_is);(case l26=>k_is);(case c26=>k_is);(case k26=>k_is))
   (case a27=>(refine' My.FA.mk ?j27 ?l27 ?c27 ?k27);(case j27=>k_is);(case l27=>k_is);(case c27=>k_is);(case k27=>k_is))
   (case a28=>(refine' My.FA.mk ?j28 ?l28 ?c28 ?k28);(case j28=>k_is);(case l28=>k_is);(case c28=>k_is);(case k28=>k_is))
   (case a29=>(refine' My.FA.mk ?j29 ?l29 ?c29 ?k29);(case j29=>k_is);(case l29=>k_is);(case c29=>k_is);(case k29=>k_is))
   (case a34=>(refine' My.FA.mk ?j34 ?l34 ?c34 ?k34);(case j34=>k_is);(case l34=>k_is);(case c34=>k_is);(case k34=>k_is))
   (case a35=>(refine' My.FA.mk ?j35 ?l35 ?c35 ?k35);(case j35=>k_is);(case l35=>k_is);(case c35=>k_is);(case k35=>k_is))
   (case a46=>(refine' My.FA.mk ?j46 ?l46 ?c46 ?k46);(case j46=>k_is);(case l46=>k_is);(case c46=>k_is);(case k46=>k_is))
   (case a47=>(refine' My.FA.mk ?j47 ?l47 ?c47 ?k47);(case j47=>k_is);(case l47=>k_is);(case c47=>k_is);(case k47=>k_is))
   (case a48=>(refine' My.FA.mk ?j48 ?l48 ?c48 ?k48);(case j48=>k_is);(case l48=>k_is);(case c48=>k_is);(case k48=>k_is))
   (case a49=>(refine' My.FA.mk ?j49 ?l49 ?c49 ?k49);(case j49=>k_is);(case l49=>k_is);(case c49=>k_is);(case k49=>k_is))
   (case a50=>(refine' My.FA.mk ?j50 ?l50 ?c50 ?k50);(case j50=>k_is);(case l50=>k_is);(case c50=>k_is);(case k50=>k_is))
   (case a51=>(refine' My.FA.mk ?j51 ?l51 ?c51 ?k51);(case j51=>k_is);(case l51=>k_is);(case c51=>k_is);(case k51=>k_is))
   (case a52=>(refine' My.FA.mk ?j52 ?l52 ?c52 ?k52);(case j52=>k_is);(case l52=>k_is);(case c52=>k_is);(case k52=>k_is))
   (case a53=>(refine' My.FA.mk ?j53 ?l53 ?c53 ?k53);(case j53=>k_is);(case l53=>k_is);(case c53=>k_is);(case k53=>k_is))
   (case a54=>(refine' My.FA.mk ?j54 ?l54 ?c54 ?k54);(case j54=>k_is);(case l54=>k_is);(case c54=>k_is);(case k54=>k_is))
   (case a55=>(refine' My.FA.mk ?j55 ?l55 ?c55 ?k55);(case j55=>k_is);(case l55=>k_is);(case c55=>k_is);(case k55=>k_is))
   (case a56=>(refine' My.FA.mk ?j56 ?l56 ?c56 ?k56);(case j56=>k_is);(case l56=>k_is);(case c56=>k_is);(case k56=>k_is))
   (case a57=>(refine' My.FA.mk ?j57 ?l57 ?c57 ?k57);(case j57=>k_is);(case l57=>k_is);(case c57=>k_is);(case k57=>k_is))
   (case a58=>(refine' My.FA.mk ?j58 ?l58 ?c58 ?k58);(case j58=>k_is);(case l58=>k_is);(case c58=>k_is);(case k58=>k_is))
   (case a59=>(refine' My.FA.mk ?j59 ?l59 ?c59 ?k59);(case j59=>k_is);(case l59=>k_is);(case c59=>k_is);(case k59=>k_is))
   (case a60=>(refine' My.FA.mk ?j60 ?l60 ?c60 ?k60);(case j60=>k_is);(case l60=>k_is);(case c60=>k_is);(case k60=>k_is))
   (case a61=>(refine' My.FA.mk ?j61 ?l61 ?c61 ?k61);(case j61=>k_is);(case l61=>k_is);(case c61=>k_is);(case k61=>k_is))
   (case a62=>(refine' My.FA.mk ?j62 ?l62 ?c62 ?k62);(case j62=>k_is);(case l62=>k_is);(case c62=>k_is);(case k62=>k_is))
   (case a63=>(refine' My.FA.mk ?j63 ?l63 ?c63 ?k63);(case j63=>k_is);(case l63=>k_is);(case c63=>k_is);(case k63=>k_is))
   (case q0=>k_is)
   (case r0=>k_is)
   (case t0=>rfl)
   (case y0=>rfl)
   (case u0=>rfl)
   (case v0=>repeat (first|exact L2.aAb|refine L2.mQ rfl ?_|refine L2.mQ ⟨_,rfl⟩ ?_))
   (case q1=>k_is)
   (case q2=>k_is)
   (case r2=>k_is)
   (case t2=>rfl)
   (case y2=>rfl)
   (case u2=>rfl)
   (case v2=>repeat (first|exact L2.aAb|refine L2.mQ rfl ?_|refine L2.mQ ⟨_,rfl⟩ ?_))
   (case q3=>k_is)
   (case q4=>k_is)
   (case q5=>k_is)
   (case q6=>k_is)
   (case q7=>k_is)
   (case z0=>k_is)
   (case z1=>k_is)
   (case z2=>k_is)
   (case z3=>k_is)
   (case z4=>k_is)
   (case z5=>k_is)
   (case z6=>k_is)
   (case z7=>k_is)
   (case z8=>k_is)
   (case z9=>k_is)
   (case z10=>k_is)
   (case z11=>k_is)
   (case z12=>k_is)
   (case z13=>k_is)
   (case z14=>k_is)
   (case z15=>k_is)
   (case z16=>k_is)
   (case eTown=>(refine' My.CA.mk ?j ?p1 ?p2 ?p3 ?p4 ?p5 ?p6);(case j=>k_is);(case p1=>first|k_is|kernel_rfl|decide +kernel);(case p2=>first|k_is|kernel_rfl|decide +kernel);(case p3=>first|k_is|kernel_rfl|decide +kernel);(case p4=>first|k_is|kernel_rfl|decide +kernel);(case p5=>first|k_is|kernel_rfl|decide +kernel);(case p6=>first|k_is|kernel_rfl|decide +kernel))
   (case b0=>(refine' My.MA.mk ?j ?i ?l ?c ?k);(case j=>k_is);(case i=>first|k_is|kernel_rfl|decide +kernel);(case l=>k_is);(case c=>k_is);(case k=>k_is))
   (case b1=>(refine' My.MA.mk ?j ?i ?l ?c ?k);(case j=>k_is);(case i=>first|k_is|kernel_rfl|decide +kernel);(case l=>k_is);(case c=>k_is);(case k=>k_is))
   (case b2=>(refine' My.MA.mk ?j ?i ?l ?c ?k);(case j=>k_is);(case i=>first|k_is|kernel_rfl|decide +kernel);(case l=>k_is);(case c=>k_is);(case k=>k_is))
   (case b3=>(refine' My.MA.mk ?j ?i ?l ?c ?k);(case j=>k_is);(case i=>first|k_is|kernel_rfl|decide +kernel);(case l=>k_is);(case c=>k_is);(case k=>k_is))
   (case d0=>(unfold L2.bK);k_is)
   (case d1=>(unfold L2.bK);k_is)
   (case eStore=>(refine' My.CA.mk ?j ?p1 ?p2 ?p3 ?p4 ?p5 ?p6);(case j=>k_is);(case p1=>first|k_is|kernel_rfl|decide +kernel);(case p2=>first|k_is|kernel_rfl|decide +kernel);(case p3=>first|k_is|kernel_rfl|decide +kernel);(case p4=>first|k_is|kernel_rfl|decide +kernel);(case p5=>first|k_is|kernel_rfl|decide +kernel);(case p6=>first|k_is|kernel_rfl|decide +kernel))
   (case b4=>(refine' My.MA.mk ?j ?i ?l ?c ?k);(case j=>k_is);(case i=>first|k_is|kernel_rfl|decide +kernel);(case l=>k_is);(case c=>k_is);(case k=>k_is))
   (case b5=>(refine' My.MA.mk ?j ?i ?l ?c ?k);(case j=>k_is);(case i=>first|k_is|kernel_rfl|decide +kernel);(case l=>k_is);(case c=>k_is);(case k=>k_is))
   (case b6=>(refine' My.MA.mk ?j ?i ?l ?c ?k);(case j=>k_is);(case i=>first|k_is|kernel_rfl|decide +kernel);(case l=>k_is);(case c=>k_is);(case k=>k_is))
   (case b7=>(refine' My.MA.mk ?j ?i ?l ?c ?k);(case j=>k_is);(case i=>first|k_is|kernel_rfl|decide +kernel);(case l=>k_is);(case c=>k_is);(case k=>k_is))
   (case b8=>(refine' My.MA.mk ?j ?i ?l ?c ?k);(case j=>k_is);(case i=>first|k_is|kernel_rfl|decide +kernel);(case l=>k_is);(case c=>k_is);(case k=>k_is))
   (case b9=>(refine' My.MA.mk ?j ?i ?l ?c ?k);(case j=>k_is);(case i=>first|k_is|kernel_rfl|decide +kernel);(case l=>k_is);(case c=>k_is);(case k=>k_is))
   (case b10=>(refine' My.MA.mk ?j ?i ?l ?c ?k);(case j=>k_is);(case i=>first|k_is|kernel_rfl|decide +kernel);(case l=>k_is);(case c=>k_is);(case k=>k_is))
   (case b11=>(refine' My.MA.mk ?j ?i ?l ?c ?k);(case j=>k_is);(case i=>first|k_is|kernel_rfl|decide +kernel);(case l=>k_is);(case c=>k_is);(case k=>k_is))
   (case b12=>(refine' My.MA.mk ?j ?i ?l ?c ?k);(case j=>k_is);(case i=>first|k_is|kernel_rfl|decide +kernel);(case l=>k_is);(case c=>k_is);(case k=>k_is))
   (case b13=>(refine' My.MA.mk ?j ?i ?l ?c ?k);(case j=>k_is);(case i=>first|k_is|kernel_rfl|decide +kernel);(case l=>k_is);(case c=>k_is);(case k=>k_is))
   (case d2=>(unfold L2.bK);k_is)
   (case d3=>(unfold L2.bK);k_is)
   (case d4=>(unfold L2.bK);k_is)
  have C:L2.aSa (L2.KOf KX) mg "are_cuts" 254:=by
   dsimp only [L2.KOf]
   refine' My.aZg KX G ?a ?l ?e1 ?e2 ?h
   (case a=>k_is)
   (case l=>k_is)
   (case e1=>rfl)
   (case e2=>rfl)
   (case h=>first|k_is|kernel_rfl|decide +kernel)
  exact My.aXm (P:=PySem.Challenge.rw_shardask_k62_carry.prog) T C hmg
