import PyProof.Rows.All
import Wide.All
import OpenK.AllK
import Wide.FinOn
import Lean
import PyProof.EqAt
import PyProof.EqKinds
import PyProof.TupleCall
import PyProof.CallType
import PyProof.WalkLemmas
import PyProof.StrOps
import PyProof.ForAny
import PyProof.IsInstanceH
import PyProof.IsiFacts
import PyProof.IsiFacts2
import PyProof.FactsAll.object
import PyProof.ListMulRoad
import PyProof.FactsAll.tuple_2
import PyProof.StrLawsIdx
import KE.KDictList
import PyProof.Rows.Range3
import PyProof.EnumMake
import PyProof.EnumFor
import PyProof.CompUse
import PyProof.ExcClass3
import PyProof.ExcBaseAll.ValueError
import PyProof.InstStoreFacts
import PyProof.ExcArgsOwn
import PyProof.ExcAttrAll.ValueError
import PyProof.ListStr
import PyProof.NeKinds
import PyProof.IsInstanceT
import PyProof.FString5
import PyProof.Rows.SeqMore2
import PyProof.IsiPairs
import PyProof.StrCalls3
import KE.KSortTup
import KE.KSortKey
import PyProof.Rows.SortStr
import KE.KLam
import KE.KDictOf
import KE.KEqDict
import KE.KDictSum
import PyProof.AttrMissHeap
import PyProof.DictWalks
import PyProof.Rows.TupTab
import PyProof.DictItems
import PyProof.FactsAll.set_1
import KE.KRevIter
import PySem.Challenge.RW_shardask_k60_put_and_drop
set_option Elab.async false
set_option linter.all false
set_option maxRecDepth 100000
set_option maxHeartbeats 6400000
section
open PySem PySem.Spec PySem.Calls PyProof.Rows
def c7:=@wpAny_bind
def d9:=@List.getElem?_eq_getElem
def j0:=@Heap.get?_push_of_some
def j4:=@wpAny_pure
def j5:=@Heap.get?_push_size
def j6:=@Nat.le_refl
def j7:=@List.getD_eq_getElem?_getD
def j8:=@List.mem_cons_of_mem
def j9:=@List.length_map
def m7:=@List.size_toArray
def m8:=@Heap.lt_size
def m9:=@List.mem_cons_self
def p7:=@List.mem_of_getElem?
def t6:=@Bool.false_ne_true
def t7:=@Nat.ne_of_lt
def t8:=@Array.getElem?_eq_getElem
def v4:=@List.getElem?_map
def v5:=@List.length_cons
def v6:=@decide_eq_true
def v7:=@Array.getD_eq_getD_getElem?
def v8:=@List.mem_append_right
def v9:=@List.not_mem_nil
def w6:=@decide_eq_false
def bAA:=@Array.length_toList
def bAB:=@Nat.lt_of_lt_of_le
def bAC:=@List.length_append
def bAD:=@List.mem_cons
def bAE:=@wpAny_call_entry
def bAF:=@wpAny_field
def bAG:=@wpAny_callSpecial?_slot
def bAH:=@wpAny_newObj_type
def bAI:=@wpAny_setField_rec
def bAJ:=@Nat.zero_le
def bAK:=@List.getElem?_eq_none
def bAL:=@List.length_take
def bAM:=@List.map_cons
def bAN:=@List.length_range
def bAO:=@List.map_append
def bAP:=@Nat.le_trans
def bAQ:=@Option.some.inj
def bAR:=@List.getElem_mem
def bAS:=@PySem.W.mg_none_of
def bAT:=@Int.toNat_natCast
def bAU:=@Bool.and_eq_true
def bAV:=@wpAny_holding
def bAW:=@Heap.size_push
def bAX:=@Heap.get?_update_self
def bAY:=@List.take_of_length_le
def bAZ:=@wpAny_seqItems
def bBA:=@PyProof.Rows.F.plain_set_update_loop
def bBB:=@wpAny_mono
def bBC:=@Around.under_plainId
def bBD:=@List.take_add_one
def bBE:=@Bool.false_eq_true
def bBF:=@codeAny_builtin
def bBG:=@Heap.get?_update_other
def bBH:=@Nat.lt_succ_of_lt
def bBI:=@Array.getElem?_toList
def bBJ:=@List.mem_map_of_mem
def bBK:=@wpAny_truthy_bool
def bBL:=@List.mem_append_left
def bBM:=@wpAny_Call_Name_kw
def bBN:=@List.append_nil
def bBO:=@Nat.lt_irrefl
def bBP:=@Heap.SameBut.update
def bBQ:=@PyProof.Rows.callWith_type1
def bBR:=@codeAny_mono
def bBS:=@Nat.le_add_right
def bBT:=@PyProof.Rows.F.entry_set_update_loop
def bBU:=@wpAny_loadPart_at
def bBV:=@wpAny_setField
def bBW:=@List.eq_of_mem_replicate
def bBX:=@PySem.W.mg_of
def bBY:=@Nat.ne_of_gt
def bBZ:=@List.length_nil
def bB0:=@List.map_map
def bB1:=@Calls.spliced_cons
def bB2:=@List.length_drop
def bB3:=@List.all_eq_true
def bB4:=@wpAny_attempt
def bB5:=@wpAny_pyIter_list
def bB6:=@List.getElem?_append_right
def bB7:=@List.ext_getElem?
def bB8:=@List.set_set
def bB9:=@Array.getElem?_eq_none
def bCA:=@List.getElem?_range
def bCB:=@List.getElem_of_mem
def bCC:=@List.find?_cons
def bCD:=@PyProof.Rows.slot_tuple_getitem
def bCE:=@List.getElem?_append_left
def bCF:=@Nat.lt_of_le_of_lt
def bCG:=@List.take_length
def bCH:=@List.contains_cons
def bCI:=@wpAny_typeNameOfWhole_itemiter
def bCJ:=@plainId_quiet
def bCK:=@codeAny_call_builtin
def bCL:=@Bool.eq_iff_iff
def bCM:=@List.forIn_cons
def bCN:=@wpAny_onRaise
def bCO:=@Nat.lt_succ_self
def bCP:=@List.lookup_cons
def bCQ:=@wpAny_isInstance
def bCR:=@Option.getD_some
def bCS:=@List.mem_singleton
def bCT:=@Nat.not_lt_zero
def bCU:=@Nat.le_succ
def bCV:=@List.getElem_toArray
def bCW:=@wpAny_setState_of
def bCX:=@wpAny_call
def bCY:=@wpAny_rule
def bCZ:=@List.filterMap_cons
def bC0:=@Array.toList_append
def bC1:=@wpAny_isSubtype_exc
def bC2:=@wpAny_setEntries_of
def bC3:=@List.filter_cons
def bC4:=@wpAny_askSetting
def bC5:=@Nat.le_of_lt
def bC6:=@Calls.callWith_builtin
def bC7:=@Nat.zero_add
def bC8:=@Obj.data_mapFields
def bC9:=@List.length_replicate
def bDA:=@List.length_filter_le
def bDB:=@Obj.isFreed_of_fields
def bDC:=@List.getElem?_toArray
def bDD:=@List.append_assoc
def bDE:=@Heap.get?_none_of_le
def bDF:=@Calls.Name_function_global
def bDG:=@List.forIn_nil
def bDH:=@wpAny_fieldsOf
def bDI:=@List.zipIdx_cons
def bDJ:=@List.any_eq_true
def bDK:=@Heap.get?_update_ne
def bDL:=@wpAny_standAt
def bDM:=@List.Pairwise.imp_of_mem
def bDN:=@wpAny_passesOwn
def bDO:=@SeqAt.EqAt.same
def bDP:=@List.zipIdx_nil
def bDQ:=@List.nodup_cons
def bDR:=@SeqAt.EqAt.str_str
def bDS:=@List.map_replicate
def bDT:=@wpAny_letGo
def bDU:=@List.length_eraseIdx_le
def bDV:=@List.getElem?_set_self
def bDW:=@Calls.spliced_nil
def bDX:=@List.take_sublist
def bDY:=@wpAny_newTuple
def bDZ:=@Nat.lt_trans
def bD0:=@Heap.get?_push_ne
def bD1:=@wpAny_isOneOf_itemiter
def bD2:=@wpAny_pyIter_slot
def bD3:=@List.eraseIdxIfInBounds_toArray
def bD4:=@List.length_singleton
def bD5:=@PyProof.Rows.callWith_builtin1
def bD6:=@wpAny_pyIter_zip
def bD7:=@List.any_cons
def bD8:=@wpAny_handled
def bD9:=@Calls.evalArgs_plain
def bEA:=@wpAny_newFunctionEnv
def bEB:=@wpAny_of_eq
def bEC:=@Array.toArray_toList
def bED:=@List.eq_nil_of_length_eq_zero
def bEE:=@wpAny_execs_nil
def bEF:=@codeAny_of_tree
def bEG:=@List.nil_append
def bEH:=@List.length_zipWith
def bEI:=@Nat.le_of_eq
def bEJ:=@wpAny_typeOf
def bEK:=@Bool.or_true
def bEL:=@wpAny_pyIter_tuple
def bEM:=@SeqAt.EqAt.int_int
def bEN:=@List.nodup_nil
def bEO:=@List.length_eraseIdx_of_lt
def bEP:=@wpAny_letOwnedTupleGo_zip
def bEQ:=@wpAny_throw
def bER:=@wpAny_dictEntries
def bES:=@Array.toList_push
abbrev bET:=PySem.W.Frag
abbrev bEU:=Value->Shared->Prop
abbrev bEV:=List (Addr × Obj)
abbrev bEW:=Str->Option Value
end
local macro_rules
  | `(tactic| trivial) => `(tactic| first | exact Or.inl rfl | exact Or.inr rfl | exact Or.inr (Or.inl rfl) | exact Or.inr (Or.inr rfl) | exact⟨rfl, rfl, rfl, by decide +kernel, rfl, by decide +kernel, by decide +kernel⟩ | exact⟨by decide +kernel, rfl, by decide +kernel, by decide +kernel⟩ | fail)
namespace L2
open PySem PySem.Spec PyProof.Rows
abbrev Key:=Sum Int Str
def mY:Key->Value->Bool
 |.inl k,v=>Value.isInt k v
 |.inr x,v=>Value.isStrOf x v
def bA5 (w:World):Key->Int
 |.inl k=>hashInt k
 |.inr x=>hashStr w x
theorem cL:∀{k:Key} {v:Value},mY k v=true->(∃i t,k=Sum.inl i/\v=Value.int i t)\/(∃x t,k=Sum.inr x/\v=Value.str x t)
 |.inl i,v,h=>by obtain⟨t,e⟩:=Value.isInt_shape (k:=i) (v:=v) h;exact .inl ⟨i,t,rfl,e⟩
 |.inr x,v,h=>by obtain⟨t,e⟩:=Value.isStrOf_shape (x:=x) (v:=v) h;exact .inr ⟨x,t,rfl,e⟩
theorem aDp (i:Int)(t:Tok):mY (.inl i) (.int i t)=true:=by simp[mY,Value.isInt]
theorem aDc (x:Str)(t:Tok):mY (.inr x) (.str x t)=true:=by simp[mY,Value.isStrOf]
theorem aXk (a b:Int):decide ((Sum.inl a:Key)=Sum.inl b)=(a == b):=by
 by_cases e:a=b
 ·subst e;simp
 ·have h:¬ (Sum.inl a:Key)=Sum.inl b:=λq=>e (Sum.inl.inj q);rw[w6 h];exact (beq_eq_false_iff_ne.mpr e).symm
theorem aW0 (a b:Str):decide ((Sum.inr a:Key)=Sum.inr b)=decide (a=b):=by
 by_cases e:a=b
 ·subst e;simp
 ·have h:¬ (Sum.inr a:Key)=Sum.inr b:=λq=>e (Sum.inr.inj q);rw[w6 h,w6 e]
theorem aYw (a:Int)(b:Str):decide ((Sum.inl a:Key)=Sum.inr b)=false:=w6 (λq=>nomatch q)
theorem aY3 (a:Str)(b:Int):decide ((Sum.inr a:Key)=Sum.inl b)=false:=w6 (λq=>nomatch q)
def bB (prog:Program)(w:World):PySem.KeyKind prog w Key where
 is:=mY
 hash:=bA5 w
 inj:=λv a b ha hb=>by
  rcases cL ha with⟨i,t,rfl,rfl⟩|⟨x,t,rfl,rfl⟩
  ·rcases cL hb with⟨j,u,rfl,e⟩|⟨y,u,rfl,e⟩
   ·injection e with e1 _;rw[e1]
   ·exact nomatch e
  ·rcases cL hb with⟨j,u,rfl,e⟩|⟨y,u,rfl,e⟩
   ·exact nomatch e
   ·injection e with e1 _;rw[e1]
 byValue:=λk v h=>by rcases cL h with⟨i,t,rfl,rfl⟩|⟨x,t,rfl,rfl⟩ <;> rfl
 pyHash:=λhv h=>by
  rcases cL hv with⟨i,t,rfl,rfl⟩|⟨x,t,rfl,rfl⟩
  ·exact wpAny_pyHash_int h
  ·exact wpAny_pyHash_str h
 eqBool:=λhu hv h=>by
  rcases cL hu with⟨i,t,rfl,rfl⟩|⟨x,t,rfl,rfl⟩
  ·rcases cL hv with⟨j,u,rfl,rfl⟩|⟨y,u,rfl,rfl⟩
   ·rw[aXk] at h;exact wpAny_eqBool_int h
   ·rw[aYw] at h;exact SeqAt.EqAt.int_str i t y u _ _ _ _ h
  ·rcases cL hv with⟨j,u,rfl,rfl⟩|⟨y,u,rfl,rfl⟩
   ·rw[aY3] at h;exact SeqAt.EqAt.str_int x t j u _ _ _ _ h
   ·rw[aW0] at h;exact wpAny_eqBool_str h
 «strs»:=λk x t v h=>by
  rcases cL h with⟨i,u,rfl,e⟩|⟨y,u,rfl,e⟩
  ·exact nomatch e
  ·injection e with e1 _;subst e1;cases v <;> rfl
theorem aGf (prog:Program)(w:World)(i:Int)(t:Tok):(bB prog w).is (.inl i) (.int i t)=true:=aDp i t
theorem aHw (prog:Program)(w:World)(x:Str)(t:Tok):(bB prog w).is (.inr x) (.str x t)=true:=aDc x t
inductive V where
 |non|bl (b:Bool)|int (i:Int)|str (x:Str)|byt (b:Array UInt8)|flt (b:UInt64)|ref (a:Addr)|ty (n:String)
 deriving DecidableEq
def RelV:V->Value->Prop
 |.non,u=>u=Value.none
 |.bl b,u=>u=Value.bool b
 |.int i,u=>∃t,u=Value.int i t
 |.str x,u=>∃t,u=Value.str x t
 |.byt b,u=>∃t,u=Value.bytes b t
 |.flt b,u=>∃t,u=Value.float b t
 |.ref a,u=>u=Value.ref a
 |.ty n,u=>u=Value.type n
abbrev Vals:List V->List Value->Prop:=Paired RelV
theorem Vals.length {xs:List V}{us:List Value}(r:Vals xs us):xs.length=us.length:=Paired.length r
theorem Vals.get:∀{xs:List V} {us:List Value} {i:Nat} {x:V},Vals xs us->xs[i]?=some x->∃u,us[i]?=some u/\RelV x u
 |_,_,_,_,.nil,e=>by simp at e
 |_,_,0,_,.cons r _,e=>by simp at e;subst e;exact⟨_,rfl,r⟩
 |_,_,i+1,x,.cons _ t,e=>by obtain⟨u,h1,h2⟩:=Vals.get (i:=i) (x:=x) t (by simpa using e);exact⟨u,by simpa using h1,h2⟩
theorem Vals.set {x:V}{u:Value}(r:RelV x u):∀{xs:List V} {us:List Value} (i:Nat),Vals xs us->Vals (xs.set i x) (us.set i u)
 |_,_,_,.nil=>.nil
 |_,_,0,.cons _ t=>.cons r t
 |_,_,i+1,.cons q t=>.cons q (Vals.set r i t)
theorem Vals.append:∀{xs ys:List V} {us ws:List Value},Vals xs us->Vals ys ws->Vals (xs++ys) (us++ws)
 |_,_,_,_,.nil,s=>s
 |_,_,_,_,.cons r t,s=>.cons r (Vals.append t s)
theorem Vals.take:∀{xs:List V} {us:List Value} (n:Nat),Vals xs us->Vals (xs.take n) (us.take n)
 |_,_,0,_=>.nil
 |_,_,_+1,.nil=>.nil
 |_,_,n+1,.cons r t=>.cons r (Vals.take n t)
theorem Vals.drop:∀{xs:List V} {us:List Value} (n:Nat),Vals xs us->Vals (xs.drop n) (us.drop n)
 |_,_,0,r=>r
 |_,_,_+1,.nil=>.nil
 |_,_,n+1,.cons _ t=>Vals.drop n t
def mW:Option V->Option Value->Prop
 |some v,some u=>RelV v u
 |none,none=>True
 |_,_=>False
def KV {κ:Type}:List (κ × V)->List (κ × Value)->Prop:=Paired λ(p:κ × V) (q:κ × Value)=>p.1=q.1/\RelV p.2 q.2
def kV:Key->V
 |.inl i=>.int i
 |.inr x=>.str x
inductive HO where
  |lst (xs:List V)
  |tup (xs:List V)
  |dK (kvs:List (Key × V))|dT (kvs:List (List Key × V))
  |set (S:Int->Bool) (n:Nat)
  |ins (C dx:Addr) (fs:List (Str × V))
  |own (x:Addr)
  |xd (fs:List (Str × V))
  |met (f x:Addr)
  |rng (lo hi:Int)
  |frz (o:Obj) (u:HO)
  |tbl (ps:Array Value)
  |tab (q:Str)
  |ext (φ:Heap->Prop)
abbrev Hp:=Addr->Option HO
def upd (H:Hp)(a:Addr)(o:HO):Hp:=λb=>if b=a then some o else H b
theorem aJ {H:Hp}{a:Addr}{o:HO}:upd H a o a=some o:=by unfold upd;rw[if_pos rfl]
theorem aK {H:Hp}{a b:Addr}{o:HO}(h:b≠a):upd H a o b=H b:=by unfold upd;rw[if_neg h]
theorem aNk {H:Hp}{a:Addr}{o u:HO}:upd (upd H a o) a u=upd H a u:=by funext b;unfold upd;split <;> rfl
theorem aIs {H:Hp}{a b:Addr}{o u:HO}(h:H a=some o)(h':H b=some u)(d:o≠u):a≠b:=by intro e;subst e;rw[h] at h';exact d (bAQ h')
theorem aL {H:Hp}{a b:Addr}{o:HO}(h:H a=some o)(h':H b=none):a≠b:=by intro e;subst e;rw[h] at h';cases h'
def yL (h:Heap)(a:Addr)(items:Array Value):Prop:=IsTup h a items/\∀o,h.get? a=some o->o.dict=none
theorem yL.of {h:Heap}{a:Addr}{items:Array Value}{o:Obj}(e:h.get? a=some o)(d:o.dict=none)(x:IsTup h a items):yL h a items:=⟨x,λo' e'=>by rw[e] at e';cases e';exact d⟩
theorem yL.new (h:Heap)(items:Array Value):yL (h.push { cls:=.type "tuple",data:=.seq items }) h.objs.size items:=.of (j5 _ rfl) rfl (IsTup.new _ _)
theorem yL.keep {h h':Heap}{a:Addr}{items:Array Value}(x:yL h a items)(k:∀o,h.get? a=some o->h'.get? a=some o):yL h' a items:=by obtain⟨⟨o,e,c⟩,d⟩:=x;exact .of (k o e) (d o e) ⟨o,k o e,c⟩
section
variable (P:Program)(w:World)
def cU (H:Hp)(h:Heap)(a:Addr):HO->Prop
 |.lst xs=>xs.length<=sizeLine/\∃(its:List Value) (n:Nat),Vals xs its/\h.get? a=some { cls:=.type "list",data:=.seq its.toArray n }
 |.tup xs=>xs.length<=sizeLine/\∃its:List Value,Vals xs its/\yL h a its.toArray
 |.dK kvs=>kvs.length<=sizeLine/\(a == sysModules)=false/\∃vs,KV kvs vs/\h.DictOf (bB P w) a vs
 |.dT kvs=>kvs.length<=sizeLine/\(a == sysModules)=false/\∃xs:List (List Key × Addr × Value),
   Paired (λ(p:List Key × V) (q:List Key × Addr × Value)=>p.1=q.1/\H q.2.1=some (.tup (p.1.map kV))/\RelV p.2 q.2.2) kvs xs /\
   ∃o es ep,h.get? a=some o/\o.ExactDict/\o.data=.dict es ep/\es.toList=xs.map (entryOfKey (tupleKind (bB P w)))/\(xs.map (·.1)).Nodup
 |.set S n=>h.SetOf (intKind P w) a S n
 |.ins C dx fs=>H dx=some (.own a)/\fs.length<=1000/\dx≠a/\h.get? a=some (PySem.W.instObj C dx) /\
   ∃mA,h.Ns1 dx mA/\(∀f,mW (fs.lookup f) (mA f))/\PySem.Within mA (fs.map (·.1))
 |.own _=>∃o,h.get? a=some o
 |.xd fs=>∃mA,h.Ns1 a mA/\∀f,mW (fs.lookup f) (mA f)
 |.rng lo hi=>∃t u v,h.get? a=some { cls:=.type "range",data:=.fields #[.int lo t,.int hi u,.int 1 v] }
 |.frz o u=>h.get? a=some o/\cU H h a u
 |.tbl ps=>h.get? a=some { cls:=.none,data:=.fields ps }
 |.tab q=>∃ps:Array Value,h.get? a=some { cls:=.none,data:=.fields ps }/\TriplesOk ps.toList/\∀(pos:Pos) (cv:Value),codeAmong pos ps.toList=some cv->∃(c:Addr) (oc:Obj) (vs:Array Value) (t:Tok),cv=.ref c/\H c=some (.own a)/\h.get? c=some oc/\oc.data=.fields vs/\vs[1]?=some (.str q t)
 |.met f x=>h.get? a=some (PySem.W.methodObj (.ref f) (.ref x))
 |.ext φ=>φ h/\(∃o,h.get? a=some o)/\∀h1 h2:Heap,φ h1->(∀o,h1.get? a=some o->h2.get? a=some o)->φ h2
def HOk (H:Hp)(h:Heap):Prop:=∀a o,H a=some o->cU P w H h a o
end
section
variable {P:Program}{w:World}{H H':Hp}{h h':Heap}{a:Addr}{o:HO}
theorem cU.lt (x:cU P w H h a o):a<h.objs.size:=by
 cases o with
 |lst xs=>obtain⟨_,_,_,_,e⟩:=x;exact m8 e
 |tup xs=>obtain⟨_,_,_,p⟩:=x;exact p.1.lt
 |dK kvs=>obtain⟨_,_,_,_,o,_,_,e,_⟩:=x;exact m8 e
 |dT kvs=>obtain⟨_,_,_,_,o,_,_,e,_⟩:=x;exact m8 e
 |set S n=>obtain⟨o,_,_,_,e,_⟩:=x;exact m8 e
 |ins C dx fs=>obtain⟨_,_,_,e,_⟩:=x;exact m8 e
 |own y=>obtain⟨_,e⟩:=x;exact m8 e
 |xd fs=>obtain⟨_,⟨_,_,_,e,_⟩,_⟩:=x;exact m8 e
 |rng lo hi=>obtain⟨_,_,_,e⟩:=x;exact m8 e
 |frz ob u=>obtain⟨e,_⟩:=x;exact m8 e
 |tbl ps=>exact m8 (show h.get? a=some _ from x)
 |tab q=>obtain⟨_,e,_⟩:=x;exact m8 e
 |met f y=>exact m8 (show h.get? a=some _ from x)
 |ext φ=>obtain⟨_,⟨_,e⟩,_⟩:=x;exact m8 e
theorem Paired.aYk {α β:Type}{F G:α->β->Prop}:∀{l₁:List α} {l₂:List β},Paired F l₁ l₂->(∀a b,F a b->G a b)->Paired G l₁ l₂
 |_,_,.nil,_=>.nil
 |_,_,.cons r t,f=>.cons (f _ _ r) (Paired.aYk t f)
theorem cU.stay (x:cU P w H h a o)(k:∀b u,(b=a\/H b=some (.own a))->h.get? b=some u->h'.get? b=some u)
  (ho:∀b,H b=some (.own a)->H' b=some (.own a)) (ht:∀b xs,H b=some (.tup xs)->H' b=some (.tup xs)):cU P w H' h' a o:=by
 induction o with
 |lst xs=>obtain⟨z,its,n,r,e⟩:=x;exact⟨z,its,n,r,k _ _ (.inl rfl) e⟩
 |tup xs=>obtain⟨z,its,r,p⟩:=x;exact⟨z,its,r,p.keep λo e=>k _ _ (.inl rfl) e⟩
 |dK kvs=>obtain⟨z,y,vs,r,ob,es,ep,e,c⟩:=x;exact⟨z,y,vs,r,ob,es,ep,k _ _ (.inl rfl) e,c⟩
 |dT kvs=>obtain⟨z,y,xs,r,ob,es,ep,e,c⟩:=x;exact⟨z,y,xs,Paired.aYk r λp q z=>⟨z.1,ht _ _ z.2.1,z.2.2⟩,ob,es,ep,k _ _ (.inl rfl) e,c⟩
 |set S n=>obtain⟨ob,es,ep,t,e,c⟩:=x;exact⟨ob,es,ep,t,k _ _ (.inl rfl) e,c⟩
 |ins C dx fs=>obtain⟨d,z,ne,e,mA,⟨od,es,ep,e2,c⟩,r⟩:=x;exact⟨ho _ d,z,ne,k _ _ (.inl rfl) e,mA,⟨od,es,ep,k _ _ (.inr d) e2,c⟩,r⟩
 |own y=>obtain⟨ob,e⟩:=x;exact⟨ob,k _ _ (.inl rfl) e⟩
 |xd fs=>obtain⟨mA,⟨od,es,ep,e,c⟩,r⟩:=x;exact⟨mA,⟨od,es,ep,k _ _ (.inl rfl) e,c⟩,r⟩
 |rng lo hi=>obtain⟨t,u,v,e⟩:=x;exact⟨t,u,v,k _ _ (.inl rfl) e⟩
 |frz ob u ih=>obtain⟨e,q⟩:=x;exact⟨k _ _ (.inl rfl) e,ih q⟩
 |tab q=>obtain⟨ps,e,t,c⟩:=x;exact⟨ps,k _ _ (.inl rfl) e,t,λpos cv q=>let ⟨c',oc,vs,tk,a1,a2,a3,a4⟩:=c pos cv q;⟨c',oc,vs,tk,a1,ho _ a2,k _ _ (.inr a2) a3,a4⟩⟩
 |tbl ps=>have e:h.get? a=some { cls:=.none,data:=.fields ps }:=x;show h'.get? a=some { cls:=.none,data:=.fields ps };exact k a _ (.inl rfl) e
 |met f y=>have e:h.get? a=some (PySem.W.methodObj (.ref f) (.ref y)):=x;show h'.get? a=some (PySem.W.methodObj (.ref f) (.ref y));exact k a _ (.inl rfl) e
 |ext φ=>obtain⟨p,⟨o,e⟩,st⟩:=x;exact⟨st _ _ p λo q=>k _ _ (.inl rfl) q,⟨o,k _ _ (.inl rfl) e⟩,st⟩
theorem HOk.lt (x:HOk P w H h)(e:H a=some o):a<h.objs.size:=(x a o e).lt
theorem HOk.fresh (x:HOk P w H h)(e:h.objs.size<=a):H a=none:=by
 cases q:H a with
 |none=>rfl
 |some u=>exact absurd (bAB (x.lt q) e) (bBO _)
theorem HOk.kept (x:HOk P w H h)(k:∀b u,h.get? b=some u->h'.get? b=some u):HOk P w H h':=λa o e=>
 (x a o e).stay (λb u _ q=>k b u q) (λ_ q=>q) λ_ _ q=>q
theorem HOk.laid (x:HOk P w H h)(k:∀b u,h.get? b=some u->h'.get? b=some u)(hp:h.objs.size<=a)(new:cU P w (upd H a o) h' a o):HOk P w (upd H a o) h':=λb u e=>by
 have hn:=x.fresh hp;by_cases hb:b=a
 ·subst hb;rw[aJ] at e;cases e;exact new
 ·rw[aK hb] at e;exact (x b u e).stay (λc v _ q=>k c v q) (λc q=>by rw[aK (aL q hn)];exact q) λc xs q=>by rw[aK (aL q hn)];exact q
end
def Rd (H:Hp)(a:Addr)(u:HO):Prop:=H a=some u\/∃o,H a=some (.frz o u)
theorem Rd.ok {P:Program}{w:World}{H:Hp}{h:Heap}{a:Addr}{u:HO}(r:Rd H a u)(x:HOk P w H h):cU P w H h a u:=by
 rcases r with r|⟨o,r⟩
 ·exact x a u r
 ·obtain⟨_,q⟩:=x a _ r;exact q
def Mut:Option HO->Prop
 |some (.lst _)=>True
 |some (.dK _)=>True
 |some (.dT _)=>True
 |some (.set _ _)=>True
 |some (.ins _ _ _)=>True
 |some (.ext _)=>True
 |some (.tab _)=>True
 |_=>False
section
variable {P:Program}{w:World}{H:Hp}{h h':Heap}{x e:Addr}{o':HO}
theorem HOk.write (ok:HOk P w H h)(mu:Mut (H x))(he:e=x\/H e=some (.own x))(k:∀b u,b≠e->h.get? b=some u->h'.get? b=some u)(heo:∃u,h'.get? e=some u)
  (new:cU P w (upd H x o') h' x o'):HOk P w (upd H x o') h':=λb u q=>by
 have nown:∀c y,H c=some (.own y)->c≠x:=λc y r z=>by subst z;rw[r] at mu;exact mu
 have ntup:∀c xs,H c=some (.tup xs)->c≠x:=λc xs r z=>by subst z;rw[r] at mu;exact mu
 by_cases hb:b=x
 ·subst hb;rw[aJ] at q;cases q;exact new
 ·rw[aK hb] at q;by_cases hbe:b=e
  ·have q':H b=some (.own x):=by
    rcases he with z|z
    ·exact absurd (hbe.trans z) hb
    ·rw[hbe];exact z
   rw[q] at q';cases q';obtain⟨v,hv⟩:=heo;exact⟨v,by rw[hbe];exact hv⟩
  ·refine (ok b u q).stay (λc v hc r=>k c v ?_ r) (λc r=>by rw[aK (nown c b r)];exact r) λc xs r=>by rw[aK (ntup c xs r)];exact r
   rcases hc with rfl|hc
   ·exact hbe
   ·rintro rfl;rcases he with z|z
    ·exact nown c b hc z
    ·rw[hc] at z;cases z;exact hb rfl
end
structure Un (fs ex:List Addr)(H H':Hp)(h h':Heap):Prop where
 keep:∀b o,h.get? b=some o->H b=none->b∉fs->b∉ex->h'.get? b=some o
 slot:∀b o,h.get? b=some o->H b=none->b∈fs->b∉ex->∃sl,h'.get? b=some { o with slots:=sl }
 free:∀b o,h.get? b=some o->H b=none->b∉ex->H' b=none
 there:∀b o,h.get? b=some o->b∉ex->∃o',h'.get? b=some o'
 tups:∀b xs,H b=some (.tup xs)->H' b=some (.tup xs)
 frzs:∀b o u,H b=some (.frz o u)->H' b=some (.frz o u)
 tbls:∀b ps,H b=some (.tbl ps)->∃more,H' b=some (.tbl (ps++more))
section
variable {fs fs' ex ex':List Addr}{H H1 H2:Hp}{h h1 h2 h':Heap}{a x e:Addr}{o:HO}
theorem Un.any (u:Un fs ex H H1 h h1){b:Addr}{ob:Obj}(q:h.get? b=some ob)(n:H b=none)(hx:b∉ex):∃sl,h1.get? b=some { ob with slots:=sl }:=by
 by_cases hb:b∈fs
 ·exact u.slot b ob q n hb hx
 ·exact⟨ob.slots,u.keep b ob q n hb hx⟩
theorem Un.kept (k:∀b u,h.get? b=some u->h'.get? b=some u):Un fs ex H H h h':=
 ⟨λb ob q _ _ _=>k b ob q,λb ob q _ _ _=>⟨ob.slots,k b ob q⟩,λ_ _ _ n _=>n,λb ob q _=>⟨ob,k b ob q⟩,λ_ _ q=>q,λ_ _ _ q=>q,λ_ ps q=>⟨#[],by rw[q];simp⟩⟩
theorem Un.refl:Un fs ex H H h h:=Un.kept λ_ _ q=>q
theorem Un.laid (k:∀b u,h.get? b=some u->h'.get? b=some u)(hp:h.objs.size<=a)(hn:H a=none):Un fs ex H (upd H a o) h h' where
 keep:=λb u q _ _ _=>k b u q
 slot:=λb u q _ _ _=>⟨u.slots,k b u q⟩
 free:=λb u q n _=>by rw[aK (t7 (bAB (m8 q) hp))];exact n
 there:=λb u q _=>⟨u,k b u q⟩
 tups:=λb xs q=>by rw[aK (aL q hn)];exact q
 frzs:=λb u xs q=>by rw[aK (aL q hn)];exact q
 tbls:=λb ps q=>⟨#[],by rw[aK (aL q hn),q];simp⟩
theorem Un.write (mu:Mut (H x))(he:e=x\/H e=some (.own x))(k:∀b u,b≠e->h.get? b=some u->h'.get? b=some u)(heo:∃u,h'.get? e=some u):Un fs ex H (upd H x o) h h':=by
 have hx:∀b,H b=none->b≠x:=λb n z=>by subst z;rw[n] at mu;exact mu
 have hb:∀b,H b=none->b≠e:=λb n z=>by
  subst z;rcases he with r|r
  ·exact hx b n r
  ·rw[n] at r;cases r
 have hm:∀b u,H b=some u->¬ Mut (some u)->b≠x:=λb u q nm z=>by subst z;rw[q] at mu;exact nm mu
 refine⟨λb u q n _ _=>k b u (hb b n) q,λb u q n _ _=>⟨u.slots,k b u (hb b n) q⟩,λb u q n _=>by rw[aK (hx b n)];exact n,λb u q _=>?_,
  λb xs q=>by rw[aK (hm b _ q λz=>z)];exact q,λb u xs q=>by rw[aK (hm b _ q λz=>z)];exact q,λb ps q=>⟨#[],by rw[aK (hm b _ q λz=>z),q];simp⟩⟩
 by_cases hbe:b=e
 ·subst hbe;exact heo
 ·exact⟨u,k b u hbe q⟩
end
def trk (h:Heap)(H:Hp):List Addr:=(List.range h.objs.size).filter λa=>(H a).isSome
def aCj (h:Heap)(H:Hp):Heap:=PySem.W.hideAll h (trk h H)
theorem aN6 (h:Heap)(H:Hp):(aCj h H).objs.size=h.objs.size:=PySem.W.hideAll_size _ _
theorem aQ5 {h:Heap}{H:Hp}{b:Addr}{o:Obj}(e:h.get? b=some o)(n:H b=none):(aCj h H).get? b=some o:=
 PySem.W.hideAll_get _ e λhm=>by have q:(H b).isSome=true:=(List.mem_filter.mp hm).2;rw[n] at q;simp at q
theorem aTt {h:Heap}{H:Hp}{b:Addr}{o:Obj}(e:(aCj h H).get? b=some o):h.get? b=some o/\H b=none:=by
 have e':h.get? b=some o:=PySem.W.of_hideAll (trk h H) e;refine⟨e',?_⟩;cases q:H b with
 |none=>rfl
 |some x=>have hm:b∈trk h H:=List.mem_filter.mpr ⟨List.mem_range.mpr (m8 e'),by simp[q]⟩;have z:(aCj h H).get? b=none:=PySem.W.hideAll_none (trk h H) hm;rw[z] at e;cases e
structure Mod (K:bET)(mg:bEW)(base:Heap):Prop where
 kin:K.In base
 glob:base.Ns mainGlobals mg
 blt:∃mb,base.Ns builtinsNs mb/\∀x:Str,x≠"__name__"->mb x=bootBuiltins x
 nolimit:base.NoLimit
structure Cx where
 prog:Program
 w:World
 K:bET
 mg:bEW
 base:Heap
 A:Around
 N:List Str
 s₀:Shared
 H₀:Hp
 env:Env
 outer:List Env
 stack:List Env
 ex:List Addr
 fn:Str->Bool
 calm:Bool
 pn:bEV
 xe:bEU
def frs (l:List Env):List Addr:=l.filterMap (·.frame)
abbrev Cx.fs (X:Cx):List Addr:=frs X.outer
def Vis (sc:Scope)(x:Str):Prop:=sc.names.lookup x=some .local\/sc.names.lookup x=some .cell\/sc.names.lookup x=some .free
def Loc (sc:Scope)(x:Str):Prop:=sc.names.lookup x=some .local\/sc.names.lookup x=some .cell
def Look (env:Env)(h:Heap)(m:bEW)(x:Str)(u:Value):Prop:=
 (env.kindOf x=some .local/\m x=some u)\/((env.kindOf x=some .cell\/env.kindOf x=some .free)/\∃c,env.cells.lookup x=some c/\h.IsCell c (some u))
structure Cx.Ok (X:Cx):Prop where
 mod:Mod X.K X.mg X.base
 kind:X.env.scope.kind=.function
 glob:X.env.globals=mainGlobals
 blt:X.env.builtins=builtinsNs
 above:X.s₀.heap.objs.size<=X.env.locals
 inj:∀x y c,X.env.cells.lookup x=some c->X.env.cells.lookup y=some c->x=y
 has:∀x,(X.env.kindOf x=some .cell\/X.env.kindOf x=some .free)->∃c,X.env.cells.lookup x=some c
 cab:∀x c,X.fn x=true->X.env.cells.lookup x=some c->X.s₀.heap.objs.size<=c
 hd:X.calm=true->X.A.handled=none
 frames:X.A.frames=some X.stack
 stk:X.stack=X.outer\/(X.stack=X.env::X.outer/\X.env.frame=some X.env.locals)
 exf:∀b∈X.ex,b≠X.env.locals/\∀x c,X.env.cells.lookup x=some c->c≠b
 bs:∀b o,X.base.get? b=some o->X.s₀.heap.get? b=some o/\X.H₀ b=none
 bsz:X.base.objs.size<=X.s₀.heap.objs.size
 noex:∀b o,X.base.get? b=some o->b∉X.ex
 exfs:∀b∈X.ex,b∉X.fs
 funs:X.s₀.heap.FunFrames X.base X.outer
 frf:∀b∈X.fs,X.H₀ b=none
structure Inv (X:Cx)(bEX:bEV)(σ:List (Option V))(H:Hp)(s:Shared):Prop where
 ok:X.Ok
 os:s.os=X.s₀.os
 bare:AllBare s.gens
 base:Un X.fs X.ex X.H₀ H X.s₀.heap s.heap
 loc:∃m,s.heap.Ns X.env.locals m/\∀(i:Nat) (x:Str) (v:V),X.N[i]?=some x->σ[i]?=some (some v)->Vis X.env.scope x->∃u,RelV v u/\Look X.env s.heap m x u
 cell:∀x c,X.env.cells.lookup x=some c->∃v,s.heap.IsCell c v
 free:H X.env.locals=none
 freeC:∀x c,X.env.cells.lookup x=some c->H c=none
 pin:∀p∈X.pn++bEX,s.heap.get? p.1=some p.2/\H p.1=none/\p.1≠X.env.locals/\p.1∉X.fs/\∀v,p.2.data≠.cell v
 hok:HOk X.prog X.w H s.heap
 len:σ.length=X.N.length
section
variable {X:Cx}{bEX:bEV}{σ:List (Option V)}{H H':Hp}{s:Shared}{h':Heap}
theorem Cx.Ok.nofr (ok:X.Ok){b:Addr}{o:Obj}(e:X.base.get? b=some o):b∉X.fs:=λhb=>by have:=(ok.funs.mem hb).1;rw[e] at this;cases this
theorem Inv.bs (I:Inv X bEX σ H s):∀b o,X.base.get? b=some o->s.heap.get? b=some o/\H b=none:=λb o e=>
 ⟨I.base.keep b o (I.ok.bs b o e).1 (I.ok.bs b o e).2 (I.ok.nofr e) (I.ok.noex b o e),I.base.free b o (I.ok.bs b o e).1 (I.ok.bs b o e).2 (I.ok.noex b o e)⟩
theorem Inv.bk (I:Inv X bEX σ H s):∀b o,X.base.get? b=some o->s.heap.get? b=some o:=λb o e=>(I.bs b o e).1
theorem Inv.mod (I:Inv X bEX σ H s):Mod X.K X.mg X.base:=I.ok.mod
theorem Inv.kIn (I:Inv X bEX σ H s):X.K.In s.heap:=I.ok.mod.kin.keeps I.bk
theorem Inv.nolimit (I:Inv X bEX σ H s):s.heap.NoLimit:=I.ok.mod.nolimit.keeps I.bk
theorem Inv.fr (I:Inv X bEX σ H s):∃m,Fr X.base X.env.locals s.heap m:=
 let ⟨m,hn,_⟩:=I.loc
 ⟨m,hn,I.bk,bAP I.ok.bsz I.ok.above⟩
theorem Inv.lt (I:Inv X bEX σ H s):X.env.locals<s.heap.objs.size:=let ⟨_,hn,_⟩:=I.loc;hn.lt
theorem Inv.sz (I:Inv X bEX σ H s):X.s₀.heap.objs.size<=s.heap.objs.size:=bAP I.ok.above (bC5 I.lt)
theorem Inv.nofs (I:Inv X bEX σ H s){a:Addr}(h:s.heap.objs.size<=a):a∉X.fs:=λhb=>by obtain⟨_,o,ho,_⟩:=I.ok.funs.mem hb;exact absurd (bAB (m8 ho) (bAP I.sz h)) (bBO _)
theorem Inv.cne (I:Inv X bEX σ H s):∀x c,X.env.cells.lookup x=some c->c≠X.env.locals:=λx c e z=>by obtain⟨v,o,ho,hd⟩:=I.cell x c e;obtain⟨m,⟨o',es,ep,ho',hd',_⟩,_⟩:=I.loc;rw[z,ho'] at ho;cases ho;rw[hd'] at hd;cases hd
theorem Inv.funs (I:Inv X bEX σ H s):s.heap.FunFrames X.base X.outer:=by
 have all:∀(l:List Env),(∀b∈frs l,b∈X.fs)->X.s₀.heap.FunFrames X.base l->s.heap.FunFrames X.base l:=by
  intro l
  induction l with
  |nil=>intro _ _;trivial
  |cons env r ih=>intro hs hl;obtain⟨hk,⟨L,o,hf,hn,ho,hd⟩,hr⟩:=hl;have hL:L∈X.fs:=hs L (by unfold frs;rw[bCZ,hf];exact m9);obtain⟨sl,e⟩:=I.base.slot L o ho (I.ok.frf L hL) hL λz=>I.ok.exfs L z hL;exact⟨hk,⟨L,_,hf,hn,e,hd⟩,ih (λb hb=>hs b (by unfold frs;rw[bCZ,hf];exact j8 _ hb)) hr⟩
 exact all X.outer (λ_ hb=>hb) I.ok.funs
theorem Inv.stack (I:Inv X bEX σ H s):s.heap.FunFrames X.base X.stack:=by
 rcases I.ok.stk with e|⟨e,hf⟩
 ·rw[e];exact I.funs
 ·rw[e];obtain⟨m,hn,_⟩:=I.loc;refine .cons (by rw[I.ok.kind];decide) hf hn ?_ I.funs;exact bDE (bAP I.ok.bsz I.ok.above)
theorem Inv.aE9 (I:Inv X bEX σ H s):∀b∈frs X.stack,b∈X.env.locals::X.fs:=λb hb=>by
 rcases I.ok.stk with e|⟨e,hf⟩
 ·rw[e] at hb;exact j8 _ hb
 ·rw[e] at hb;unfold frs at hb;rw[bCZ,hf] at hb;exact hb
theorem Inv.rO (I:Inv X bEX σ H s):∀b∈frs X.stack,H b=none:=λb hb=>by
 rcases List.mem_cons.mp (I.aE9 b hb) with e|hb
 ·rw[e];exact I.free
 ·obtain⟨_,o,ho,_⟩:=I.ok.funs.mem hb;exact I.base.free b o ho (I.ok.frf b hb) λz=>I.ok.exfs b z hb
theorem Inv.step {g':Array GenState}{t':Nat}{d':Drawn}{ch:List Addr}(I:Inv X bEX σ H s)
  (hch:∀b∈ch,(b∈X.ex\/X.s₀.heap.objs.size<=b)/\b≠X.env.locals/\(∀x c,X.env.cells.lookup x=some c->c≠b)/\∀p∈X.pn++bEX,p.1≠b)
  (keep:∀b o,b≠X.env.locals->b∉X.fs->b∉ch->s.heap.get? b=some o->H b=none->h'.get? b=some o)
  (slot:∀b o,b≠X.env.locals->b∈X.fs->b∉ch->s.heap.get? b=some o->H b=none->∃sl,h'.get? b=some { o with slots:=sl }) (free:∀b o,b∉ch->s.heap.get? b=some o->H b=none->H' b=none)
  (there:∀b o,b∉ch->s.heap.get? b=some o->∃o',h'.get? b=some o')
  (tups:∀b xs,H b=some (.tup xs)->H' b=some (.tup xs)) (frzs:∀b o u,H b=some (.frz o u)->H' b=some (.frz o u)) (tbls:∀b ps,H b=some (.tbl ps)->∃more,H' b=some (.tbl (ps++more)))
  (ns:∀m,s.heap.Ns X.env.locals m->h'.Ns X.env.locals m) (hok:HOk X.prog X.w H' h') (hg:AllBare g') :
  Inv X bEX σ H' { s with heap:=h',gens:=g',drawn:=d',toks:=t' }:=by
 have neL:∀b o,X.s₀.heap.get? b=some o->b≠X.env.locals:=λb o e=>t7 (bAB (m8 e) I.ok.above);have neC:∀b o,X.s₀.heap.get? b=some o->b∉X.ex->b∉ch:=λb o e hx hb=>by
  rcases (hch b hb).1 with z|z
  ·exact hx z
  ·exact absurd (bAB (m8 e) z) (bBO _)
 have cellK:∀x c,X.env.cells.lookup x=some c->∀v,s.heap.IsCell c v->h'.IsCell c v:=λx c e v ⟨o,ho,hd⟩=>by
  have nch:c∉ch:=λz=>(hch c z).2.2.1 x c e rfl;by_cases hc:c∈X.fs
  ·obtain⟨sl,q⟩:=slot c o (I.cne x c e) hc nch ho (I.freeC x c e);exact⟨_,q,hd⟩
  ·exact⟨o,keep c o (I.cne x c e) hc nch ho (I.freeC x c e),hd⟩
 refine⟨I.ok,I.os,hg,⟨λb o e n hb hx=>?_,λb o e n hb hx=>?_,λb o e n hx=>?_,λb o e hx=>?_,λb xs e=>tups b xs (I.base.tups b xs e),λb o xs e=>frzs b o xs (I.base.frzs b o xs e),λb ps e=>?_⟩,?_,λx c e=>?_,?_,λx c e=>?_,λp hp=>?_,hok,I.len⟩
 ·exact keep b o (neL b o e) hb (neC b o e hx) (I.base.keep b o e n hb hx) (I.base.free b o e n hx)
 ·obtain⟨sl,e1⟩:=I.base.slot b o e n hb hx;obtain⟨sl',e2⟩:=slot b _ (neL b o e) hb (neC b o e hx) e1 (I.base.free b o e n hx);exact⟨sl',e2⟩
 ·obtain⟨o',e1⟩:=I.base.there b o e hx;exact free b o' (neC b o e hx) e1 (I.base.free b o e n hx)
 ·obtain⟨o',e1⟩:=I.base.there b o e hx;exact there b o' (neC b o e hx) e1
 ·obtain⟨m1,e1⟩:=I.base.tbls b ps e;obtain⟨m2,e2⟩:=tbls b _ e1;exact⟨m1++m2,by rw[e2,Array.append_assoc]⟩
 ·obtain⟨m,hn,hl⟩:=I.loc;refine⟨m,ns m hn,λi x v e1 e2 e3=>?_⟩;obtain⟨u,r,l⟩:=hl i x v e1 e2 e3;refine⟨u,r,?_⟩;rcases l with l|⟨k,c,e,z⟩
  ·exact .inl l
  ·exact .inr ⟨k,c,e,cellK x c e _ z⟩
 ·obtain⟨v,z⟩:=I.cell x c e;exact⟨v,cellK x c e v z⟩
 ·obtain⟨m,⟨o,_,_,ho,_⟩,_⟩:=I.loc;exact free _ o (λz=>(hch _ z).2.1 rfl) ho I.free
 ·obtain⟨v,o,ho,hd⟩:=I.cell x c e;exact free c o (λz=>(hch c z).2.2.1 x c e rfl) ho (I.freeC x c e)
 ·obtain⟨e,n,ne,nf,d⟩:=I.pin p hp;have nch:p.1∉ch:=λz=>(hch p.1 z).2.2.2 p hp rfl;exact⟨keep p.1 p.2 ne nf nch e n,free p.1 p.2 nch e n,ne,nf,d⟩
theorem Inv.un {t':Nat}(I:Inv X bEX σ H s)(u:Un X.fs [] H H' s.heap h')(hok:HOk X.prog X.w H' h'):Inv X bEX σ H' { s with heap:=h',toks:=t' }:=by
 obtain⟨m,⟨o,es,ep,ho,r⟩,_⟩:=id I.loc;obtain⟨sl,hL⟩:=u.any ho I.free (by simp);exact I.step (g':=s.gens) (d':=s.drawn) (ch:=[]) (λ_ z=>nomatch z) (λb o _ hb _ e n=>u.keep b o e n hb (by simp)) (λb o _ hb _ e n=>u.slot b o e n hb (by simp)) (λb o _ e n=>u.free b o e n (by simp)) (λb o _ e=>u.there b o e (by simp)) u.tups u.frzs u.tbls (λm' hm=>by obtain⟨o',es',ep',ho',r'⟩:=hm;rw[ho] at ho';cases ho';exact⟨_,es',ep',hL,r'⟩) hok I.bare
theorem Inv.call {g':Array GenState}{t':Nat}{d':Drawn}{ch:List Addr}(I:Inv X bEX σ H s)(u:Un (frs X.stack) ch H H' s.heap h')(hok:HOk X.prog X.w H' h')(hg:AllBare g')
  (hch:∀b∈ch,(b∈X.ex\/X.s₀.heap.objs.size<=b)/\b≠X.env.locals/\(∀x c,X.env.cells.lookup x=some c->c≠b)/\∀p∈X.pn++bEX,p.1≠b) :
  Inv X bEX σ H' { s with heap:=h',gens:=g',drawn:=d',toks:=t' }:=by
 obtain⟨m,⟨o,es,ep,ho,r⟩,_⟩:=id I.loc;obtain⟨sl,hL⟩:=u.any ho I.free λz=>(hch _ z).2.1 rfl;exact I.step (ch:=ch) hch (λb o hL hb hc e n=>u.keep b o e n (λz=>(List.mem_cons.mp (I.aE9 b z)).elim hL hb) hc) (λb o _ _ hc e n=>u.any e n hc) (λb o hc e n=>u.free b o e n hc) (λb o hc e=>u.there b o e hc) u.tups u.frzs u.tbls (λm' hm=>by obtain⟨o',es',ep',ho',r'⟩:=hm;rw[ho] at ho';cases ho';exact⟨_,es',ep',hL,r'⟩) hok hg
theorem Inv.turned {t':Nat}{it:Addr}(I:Inv X bEX σ H s)(k:∀b o,b≠it->s.heap.get? b=some o->h'.get? b=some o)(hn:H it=none)(hL:it≠X.env.locals)
  (h1:it∈X.ex\/X.s₀.heap.objs.size<=it) (h2:∀x c,X.env.cells.lookup x=some c->c≠it) (h3:∀p∈X.pn++bEX,p.1≠it):Inv X bEX σ H { s with heap:=h',toks:=t' }:=by
 have nit:∀b u,H b=some u->b≠it:=λb u e z=>by rw[z,hn] at e;cases e
 refine I.step (g':=s.gens) (d':=s.drawn) (ch:=[it]) (λb hb=>?_) (λb o _ _ hc e _=>k b o (λz=>hc (by simp[z])) e) (λb o _ _ hc e _=>⟨o.slots,k b o (λz=>hc (by simp[z])) e⟩) (λ_ _ _ _ n=>n)
  (λb o hc e=>⟨o,k b o (λz=>hc (by simp[z])) e⟩) (λ_ _ e=>e) (λ_ _ _ e=>e) (λb ps e=>⟨#[],by rw[e];simp⟩) (λm hm=>?_) (λb u e=>?_) I.bare
 ·have e:b=it:=by simpa using hb
  subst e;exact⟨h1,hL,h2,h3⟩
 ·obtain⟨o,es,ep,ho,r⟩:=hm;exact⟨o,es,ep,k _ o (Ne.symm hL) ho,r⟩
 ·refine (I.hok b u e).stay (λc v hc q=>k c v ?_ q) (λ_ q=>q) λ_ _ q=>q;rcases hc with z|z
  ·rw[z];exact nit b u e
  ·exact nit c _ z
theorem Inv.tok (I:Inv X bEX σ H s)(t:Nat):Inv X bEX σ H { s with toks:=t }:=I.un (h':=s.heap) (t':=t) Un.refl I.hok
theorem Inv.kept {t':Nat}(I:Inv X bEX σ H s)(k:∀b u,s.heap.get? b=some u->h'.get? b=some u):Inv X bEX σ H { s with heap:=h',toks:=t' }:=I.un (Un.kept k) (I.hok.kept k)
theorem Inv.laid {a:Addr}{o:HO}{t':Nat}(I:Inv X bEX σ H s)(k:∀b u,s.heap.get? b=some u->h'.get? b=some u)(hp:s.heap.objs.size<=a)(new:cU X.prog X.w (upd H a o) h' a o) :
  Inv X bEX σ (upd H a o) { s with heap:=h',toks:=t' }:=I.un (Un.laid k hp (I.hok.fresh hp)) (I.hok.laid k hp new)
theorem Inv.write {x e:Addr}{o:HO}{t':Nat}(I:Inv X bEX σ H s)(mu:Mut (H x))(he:e=x\/H e=some (.own x))(k:∀b u,b≠e->s.heap.get? b=some u->h'.get? b=some u)(heo:∃u,h'.get? e=some u)
  (new:cU X.prog X.w (upd H x o) h' x o):Inv X bEX σ (upd H x o) { s with heap:=h',toks:=t' }:=I.un (Un.write mu he k heo) (I.hok.write mu he k heo new)
theorem Inv.aNd {pins':bEV}(I:Inv X bEX σ H s)(h:∀p∈pins',s.heap.get? p.1=some p.2/\H p.1=none/\p.1≠X.env.locals/\p.1∉X.fs/\∀v,p.2.data≠.cell v):Inv X pins' σ H s:=
 ⟨I.ok,I.os,I.bare,I.base,I.loc,I.cell,I.free,I.freeC,λp hp=>(List.mem_append.mp hp).elim (λz=>I.pin p (bBL _ z)) (h p),I.hok,I.len⟩
theorem aGn {N:List Str}(hN:N.Nodup){i j:Nat}{x:Str}(a:N[i]?=some x)(b:N[j]?=some x):i=j:=by obtain⟨h1,e1⟩:=List.getElem?_eq_some_iff.mp a;obtain⟨h2,e2⟩:=List.getElem?_eq_some_iff.mp b;exact (List.getElem_inj hN).mp (e1.trans e2.symm)
theorem aDg {M:Model}{A:Around}{E:bEU}{i:Nat}{x:Str}{v:V}{u:Value}{Q:Unit->Shared->Prop}(I:Inv X bEX σ H s)(hN:X.N.Nodup)(hi:X.N[i]?=some x)(hx:Loc X.env.scope x)(r:RelV v u)
  (h:∀s',Inv X bEX (σ.set i (some v)) H s'->(∃a,Heap.SameBut a s.heap s'.heap/\(a=X.env.locals\/X.env.cells.lookup x=some a))->Q () s') (hf:X.fn x=true\/X.env.scope.names.lookup x=some .local:=by first|exact .inl rfl|exact .inr rfl|assumption):wpAny M A (storeName X.env x u) Q E s:=by
 obtain⟨m,hn,hl⟩:=id I.loc;have hcls:(X.env.scope.kind == .class || (X.env.scope.kind == .module && X.env.locals != X.env.globals))=false:=by rw[I.ok.kind];rfl
 have hiσ:i<σ.length:=by rw[I.len];exact (List.getElem?_eq_some_iff.mp hi).1
 have cne:=I.cne;have tracked:∀{a:Addr} {h':Heap},(∃o,s.heap.get? a=some o/\H a=none)->Heap.SameBut a s.heap h'->HOk X.prog X.w H h':=λ{a h'} ha hs b ob e=>by
  obtain⟨_,_,hfree⟩:=ha;refine (I.hok b ob e).stay (λc w' hc q=>(hs.2 c ?_).trans q) (λ_ q=>q) λ_ _ q=>q;rintro rfl;rcases hc with rfl|hc
  ·rw[hfree] at e;cases e
  ·rw[hfree] at hc;cases hc
 rcases hx with hk|hk
 ·refine wpAny_storeName_local hk hn (λh' hn' hs=>?_) hcls;obtain⟨oL,_,_,hoL,_⟩:=id hn;refine h _ ⟨I.ok,I.os,I.bare,⟨λb o e n hb hx=>?_,λb o e n hb hx=>?_,I.base.free,λb o e hx=>?_,I.base.tups,I.base.frzs,I.base.tbls⟩,⟨_,hn',λj y v' e1 e2 e3=>?_⟩,λy c e=>?_,I.free,I.freeC,λp hp=>?_,tracked ⟨oL,hoL,I.free⟩ hs,by simpa using I.len⟩ ⟨_,hs,.inl rfl⟩
  ·exact (hs.2 b (t7 (bAB (m8 e) I.ok.above))).trans (I.base.keep b o e n hb hx)
  ·obtain⟨sl,e1⟩:=I.base.slot b o e n hb hx;exact⟨sl,(hs.2 b (t7 (bAB (m8 e) I.ok.above))).trans e1⟩
  ·obtain⟨o',e1⟩:=I.base.there b o e hx;exact⟨o',(hs.2 b (t7 (bAB (m8 e) I.ok.above))).trans e1⟩
  ·by_cases hj:j=i
   ·subst hj;rw[hi] at e1;cases e1;rw[bDV hiσ] at e2;cases e2;exact⟨u,r,.inl ⟨hk,by simp⟩⟩
   ·rw[List.getElem?_set_ne (Ne.symm hj)] at e2;obtain⟨u',r',q⟩:=hl j y v' e1 e2 e3;refine⟨u',r',?_⟩;rcases q with⟨k,e⟩|⟨k,c,e,z⟩
    ·refine .inl ⟨k,?_⟩;have:y≠x:=λe=>hj (aGn hN e1 (e ▸ hi));simp[this,e]
    ·exact .inr ⟨k,c,e,z.sameBut hs (cne y c e)⟩
  ·obtain⟨w',z⟩:=I.cell y c e;exact⟨w',z.sameBut hs (cne y c e)⟩
  ·obtain⟨e,n,ne,nf,d⟩:=I.pin p hp;exact⟨(hs.2 p.1 ne).trans e,n,ne,nf,d⟩
 ·have hfn:X.fn x=true:=by
   rcases hf with z|z
   ·exact z
   ·rw[z] at hk;cases hk
  obtain⟨c,hc⟩:=I.ok.has x (.inl hk);obtain⟨w',z⟩:=I.cell x c hc;refine wpAny_storeName_cell I.ok.kind hk hc z (λh' hc' hs=>?_);obtain⟨oc,hoc,hocd⟩:=id z;refine h { s with heap:=h' } ⟨I.ok,I.os,I.bare,⟨λb o e n hb hx=>?_,λb o e n hb hx=>?_,I.base.free,λb o e hx=>?_,I.base.tups,I.base.frzs,I.base.tbls⟩,⟨m,hn.sameBut hs (Ne.symm (cne x c hc)),λj y v' e1 e2 e3=>?_⟩,λy c' e=>?_,I.free,I.freeC,λp hp=>?_,tracked ⟨oc,hoc,I.freeC x c hc⟩ hs,by simpa using I.len⟩ ⟨c,hs,.inr hc⟩
  ·exact (hs.2 b (t7 (bAB (m8 e) (I.ok.cab x c hfn hc)))).trans (I.base.keep b o e n hb hx)
  ·obtain⟨sl,e1⟩:=I.base.slot b o e n hb hx;exact⟨sl,(hs.2 b (t7 (bAB (m8 e) (I.ok.cab x c hfn hc)))).trans e1⟩
  ·obtain⟨o',e1⟩:=I.base.there b o e hx;exact⟨o',(hs.2 b (t7 (bAB (m8 e) (I.ok.cab x c hfn hc)))).trans e1⟩
  ·by_cases hj:j=i
   ·subst hj;rw[hi] at e1;cases e1;rw[bDV hiσ] at e2;cases e2;exact⟨u,r,.inr ⟨.inl hk,c,hc,hc'⟩⟩
   ·rw[List.getElem?_set_ne (Ne.symm hj)] at e2;obtain⟨u',r',q⟩:=hl j y v' e1 e2 e3;refine⟨u',r',?_⟩;rcases q with q|⟨k,c',e,z'⟩
    ·exact .inl q
    ·refine .inr ⟨k,c',e,z'.sameBut hs ?_⟩;rintro rfl;exact hj (aGn hN e1 (I.ok.inj _ _ _ e hc ▸ hi))
  ·by_cases hcc:c'=c
   ·subst hcc;exact⟨_,hc'⟩
   ·obtain⟨w2,z2⟩:=I.cell y c' e;exact⟨w2,z2.sameBut hs hcc⟩
  ·obtain⟨e,n,ne,nf,d⟩:=I.pin p hp;refine⟨(hs.2 p.1 ?_).trans e,n,ne,nf,d⟩;intro q;rw[q,hoc] at e;have q':oc=p.2:=bAQ e;exact d w' (by rw[<-q'];exact hocd)
theorem aIc {M:Model}{A:Around}{E:bEU}{i:Nat}{x:Str}{v:V}{u:Value}{Q:Unit->Shared->Prop}(I:Inv X bEX σ H s)(hN:X.N.Nodup)(hi:X.N[i]?=some x)(hx:Loc X.env.scope x)(r:RelV v u)
  (h:∀s',Inv X bEX (σ.set i (some v)) H s'->Q () s') (hf:X.fn x=true\/X.env.scope.names.lookup x=some .local:=by first|exact .inl rfl|exact .inr rfl|assumption):wpAny M A (storeName X.env x u) Q E s:=
 aDg I hN hi hx r (λs' I' _=>h s' I') hf
theorem Inv.call' {s':Shared}{ch:List Addr}(I:Inv X bEX σ H s)(ho:s'.os=s.os)(u:Un (frs X.stack) ch H H' s.heap s'.heap)(hok:HOk X.prog X.w H' s'.heap)(hg:AllBare s'.gens)
  (hch:∀b∈ch,(b∈X.ex\/X.s₀.heap.objs.size<=b)/\b≠X.env.locals/\(∀x c,X.env.cells.lookup x=some c->c≠b)/\∀p∈X.pn++bEX,p.1≠b):Inv X bEX σ H' s':=by
 obtain⟨h',g',d',t',o'⟩:=s';have e:o'=s.os:=ho;subst e;exact I.call (g':=g') (t':=t') (d':=d') u hok hg hch
end
abbrev XK:=Value->Option Addr->Hp->Prop
abbrev St:=List (Option V)
abbrev VK:=V->Hp->Prop
abbrev TE:=St->Hp->VK->Prop
abbrev TT:=St->Hp->(Bool->Hp->Prop)->Prop
abbrev TA:=St->Hp->(List V->Hp->Prop)->Prop
structure Ends where
 nx:St->Hp->Prop
 rt:VK
 bk:St->Hp->Prop:=λ_ _=>False
 ct:St->Hp->Prop:=λ_ _=>False
abbrev TS:=Ends->St->Hp->Prop
def EP (X:Cx)(bEX:bEV)(σ:St)(Q:VK)(u:Value)(s':Shared):Prop:=∃v H',Inv X bEX σ H' s'/\RelV v u/\Q v H'
def TP (X:Cx)(bEX:bEV)(σ:St)(Q:Bool->Hp->Prop)(b:Bool)(s':Shared):Prop:=∃H',Inv X bEX σ H' s'/\Q b H'
def AP (X:Cx)(bEX:bEV)(σ:St)(Q:List V->Hp->Prop)(us:List Value)(s':Shared):Prop:=∃vs H',Inv X bEX σ H' s'/\Vals vs us/\Q vs H'
def SP (X:Cx)(bEX:bEV)(D:Ends)(f:Flow)(s':Shared):Prop:=
 match f with
 |.next=>∃σ' H',Inv X bEX σ' H' s'/\D.nx σ' H'
 |.brk=>∃σ' H',Inv X bEX σ' H' s'/\D.bk σ' H'
 |.cont=>∃σ' H',Inv X bEX σ' H' s'/\D.ct σ' H'
 |.ret u=>∃v σ' H',Inv X bEX σ' H' s'/\RelV v u/\D.rt v H'
def PE (X:Cx)(e:Expr)(t:TE):Prop:=
 ∀(bEX:bEV) (s:Shared) (σ:St) (H:Hp) (Q:VK),Inv X bEX σ H s->t σ H Q->wpAny (model X.prog X.w) X.A (eval e X.env) (EP X bEX σ Q) X.xe s
def PT (X:Cx)(e:Expr)(t:TT):Prop:=
 ∀(bEX:bEV) (s:Shared) (σ:St) (H:Hp) (Q:Bool->Hp->Prop),Inv X bEX σ H s->t σ H Q->wpAny (model X.prog X.w) X.A (isTrue e X.env (eval e X.env)) (TP X bEX σ Q) X.xe s
def PW (X:Cx)(e:Expr)(t:TT):Prop:=
 ∀(whole:Sem Value) (bEX:bEV) (s:Shared) (σ:St) (H:Hp) (Q:Bool->Hp->Prop),Inv X bEX σ H s->t σ H Q->wpAny (model X.prog X.w) X.A (isTrue e X.env whole) (TP X bEX σ Q) X.xe s
theorem PW.pt {X:Cx}{e:Expr}{t:TT}(h:PW X e t):PT X e t:=h _
def PA (X:Cx)(es:List Expr)(t:TA):Prop:=
 ∀(pos:Pos) (bEX:bEV) (s:Shared) (σ:St) (H:Hp) (Q:List V->Hp->Prop),Inv X bEX σ H s->t σ H Q->wpAny (model X.prog X.w) X.A (spliced (backTo pos (starEach es X.env))) (AP X bEX σ Q) X.xe s
def PS (X:Cx)(st:Stmt)(t:TS):Prop:=
 ∀(bEX:bEV) (s:Shared) (σ:St) (H:Hp) (D:Ends),Inv X bEX σ H s->t D σ H->wpAny (model X.prog X.w) X.A (exec st X.env) (SP X bEX D) X.xe s
def PSs (X:Cx)(st:List Stmt)(t:TS):Prop:=
 ∀(bEX:bEV) (s:Shared) (σ:St) (H:Hp) (D:Ends),Inv X bEX σ H s->t D σ H->wpAny (model X.prog X.w) X.A (execs st X.env) (SP X bEX D) X.xe s
theorem thn {α:Type}{t:Sem α}{Q Q':α->Shared->Prop}{M:Model}{A:Around}{E:bEU}{s:Shared}(h:wpAny M A t Q E s)(hQ:∀a s,Q a s->Q' a s):wpAny M A t Q' E s:=bBB h hQ λ_ _ x=>x
section
variable {X:Cx}
def vZ (i:Nat):TE:=fun σ H Q=>∃v,σ[i]?=some (some v)/\Q v H
def tC (v:V):TE:=λ_ H Q=>Q v H
theorem aXr {i:Nat}{x:Str}{pos:Pos}(hN:X.N[i]?=some x)(hv:Vis X.env.scope x)(hd:(x == ("__debug__":Str))=false:=by decide)(hcd:(x == ("__classdict__":Str))=false:=by decide):PE X (.Name x pos) (vZ i):=by
 intro bEX s σ H Q I h;obtain⟨v,e,h⟩:=h;obtain⟨m,hn,hl⟩:=I.loc;obtain⟨u,r,l⟩:=hl i x v hN e hv;have fin:EP X bEX σ Q u s:=⟨v,H,I,r,h⟩;rcases l with⟨hk,hm⟩|⟨hk,c,hc,hcell⟩
 ·exact wpAny_Name (wpAny_loadName_local I.ok.kind hk hn hm fin) hd
 ·rcases hk with hk|hk
  ·exact wpAny_Name (wpAny_loadName_cell I.ok.kind hk hc hcell fin) hd
  ·exact wpAny_Name (wpAny_loadName_free I.ok.kind hk hc hcell fin hcd) hd
theorem aXx {i j pos}:PE X (.Constant (.int i) j pos) (tC (.int i)):=λ_ _ _ H _ I h=>wpAny_Constant_int ⟨.int i,H,I.tok _,⟨_,rfl⟩,h⟩
theorem bAm {b j pos}:PE X (.Constant (.bool b) j pos) (tC (.bl b)):=λ_ _ _ H _ I h=>Constant_bool ⟨.bl b,H,I,rfl,h⟩
theorem aZe {j pos}:PE X (.Constant .none j pos) (tC .non):=λ_ _ _ H _ I h=>Constant_none ⟨.non,H,I,rfl,h⟩
theorem aXi {x j pos}:PE X (.Constant (.str x) j pos) (tC (.str x)):=λ_ _ _ H _ I h=>Calls.Constant_str ⟨.str x,H,I.tok _,⟨_,rfl⟩,h⟩
def Gl (X:Cx)(x:Str):Prop:=X.env.kindOf x=some .globalImplicit
theorem oV {E:bEU}{bEX:bEV}{s:Shared}{σ:St}{H:Hp}{x:Str}{u:Value}{pos:Pos}{Q:bEU}(I:Inv X bEX σ H s)(hg:Gl X x)(hm:X.mg x=some u)(h:Q u s)
  (hd:(x == ("__debug__":Str))=false:=by decide):wpAny (model X.prog X.w) X.A (eval (.Name x pos) X.env) Q E s:=
 bDF I.ok.kind hg (Calls.loadGlobal_global (by rw[I.ok.glob];exact I.mod.glob.keeps I.bk) hm h) hd
theorem nU {E:bEU}{bEX:bEV}{s:Shared}{σ:St}{H:Hp}{x:Str}{u:Value}{pos:Pos}{Q:bEU}(I:Inv X bEX σ H s)(hg:Gl X x)(hm:X.mg x=none)(hv:bootBuiltins x=some u)(h:Q u s)
  (hn:x≠"__name__":=by decide) (hd:(x == ("__debug__":Str))=false:=by decide):wpAny (model X.prog X.w) X.A (eval (.Name x pos) X.env) Q E s:=by
 obtain⟨mb,h1,h2⟩:=I.mod.blt;exact bDF I.ok.kind hg (Calls.loadGlobal_builtin (by rw[I.ok.glob];exact I.mod.glob.keeps I.bk) hm (by rw[I.ok.blt];exact h1.keeps I.bk) ((h2 x hn).trans hv) h) hd
theorem aT8 {x:Str}{v:V}{u:Value}{pos:Pos}(hg:Gl X x)(hm:X.mg x=some u)(r:RelV v u)(hd:(x == ("__debug__":Str))=false:=by decide):PE X (.Name x pos) (tC v):=
 λ_ _ _ H _ I h=>oV I hg hm ⟨v,H,I,r,h⟩ hd
theorem aVy {x:Str}{v:V}{u:Value}{pos:Pos}(hg:Gl X x)(hm:X.mg x=none)(hv:bootBuiltins x=some u)(r:RelV v u)(hn:x≠"__name__":=by decide)(hd:(x == ("__debug__":Str))=false:=by decide):PE X (.Name x pos) (tC v):=
 λ_ _ _ H _ I h=>nU I hg hm hv ⟨v,H,I,r,h⟩ hn hd
variable {a b:Expr}{ta tb:TE}{pos:Pos}
def PC (X:Cx)(op:CmpOp)(a b:Expr)(t:TE):Prop:=
 ∀(bEX:bEV) (s:Shared) (σ:St) (H:Hp) (Q:VK),Inv X bEX σ H s->t σ H Q ->
  wpAny (model X.prog X.w) X.A (eval a X.env) (λv s₁=>wpAny (model X.prog X.w) X.A (eval b X.env) (λu s₂=>wpAny (model X.prog X.w) X.A (compareOp op v u) (EP X bEX σ Q) X.xe s₂) X.xe s₁) X.xe s
def tB (t:TE):TT:=fun σ H Q=>t σ H λx H1=>∃c,x=.bl c/\Q c H1
theorem aXf {op:CmpOp}{t:TE}(h:PC X op a b t)(h1:behindInMarks op b=false:=by first|exact nobehind _ (by decide) (by decide)|rfl):PT X (.Compare a [op] [b] pos) (tB t):=by intro bEX s σ H Q I hw;refine wpAny_isTrue_Compare1 (thn (h bEX s σ H _ I hw) λv s1 h1=>thn h1 λu s2 h2=>thn h2 λc s3 ⟨x,H1,I1,r1,q1⟩=>?_) h1;obtain⟨d,rfl,q⟩:=q1;cases r1;exact bBK ⟨H1,I1,q⟩
theorem aY4 {e:Expr}{t:TE}(h:PE X e t)(he:∀whole,isTrue e X.env whole=(do let v <-whole;standAt e.pos;holding [v] (truthy v)):=by intro _;rfl):PT X e (tB t):=by intro bEX s σ H Q I hw;refine isTrue_plain (thn (h bEX s σ H _ I hw) λv s1 ⟨x,H1,I1,r1,q1⟩=>?_) (he _);obtain⟨d,rfl,q⟩:=q1;cases r1;exact bBK ⟨H1,I1,q⟩
variable {tA tB':TT}{rest:List Expr}
def bAc (t u:TT):TT:=fun σ H Q=>t σ H λc H1=>if c=true then u σ H1 Q else Q false H1
def tOr (t u:TT):TT:=fun σ H Q=>t σ H λc H1=>if c=true then Q true H1 else u σ H1 Q
def aXy (t:TT):TT:=fun σ H Q=>t σ H λc H1=>Q (!c) H1
theorem aUl (ha:PT X a tA):PW X (.BoolOp .And [a] pos) tA:=by
 intro wh bEX s σ H Q I h;refine isTrue_and (thn (ha bEX s σ H Q I h) λc s1 e=>?_);cases c with
 |true=>exact isTrue_and_nil e
 |false=>exact e
theorem aYy (ha:PT X a tA):PW X (.BoolOp .Or [a] pos) tA:=by
 intro wh bEX s σ H Q I h;refine isTrue_or (thn (ha bEX s σ H Q I h) λc s1 e=>?_);cases c with
 |false=>exact isTrue_or_nil e
 |true=>exact e
theorem aX9 (ha:PT X a tA)(hb:PW X (.BoolOp .And (b::rest) pos) tB'):PW X (.BoolOp .And (a::b::rest) pos) (bAc tA tB'):=by
 intro wh bEX s σ H Q I h;refine isTrue_and (thn (ha bEX s σ H _ I h) λc s1 ⟨H1,I1,q1⟩=>?_);cases c with
 |true=>exact hb wh bEX s1 σ H1 Q I1 q1
 |false=>exact⟨H1,I1,q1⟩
theorem aZz (ha:PT X a tA)(hb:PW X (.BoolOp .Or (b::rest) pos) tB'):PW X (.BoolOp .Or (a::b::rest) pos) (tOr tA tB'):=by
 intro wh bEX s σ H Q I h;refine isTrue_or (thn (ha bEX s σ H _ I h) λc s1 ⟨H1,I1,q1⟩=>?_);cases c with
 |true=>exact⟨H1,I1,q1⟩
 |false=>exact hb wh bEX s1 σ H1 Q I1 q1
theorem aXw (ha:PT X a tA):PT X (.UnaryOp .Not a pos) (aXy tA):=by intro bEX s σ H Q I h;exact isTrue_not (ha bEX s σ H (λc H1=>Q (!c) H1) I h)
def aWv (ta tb:TE):TE:=fun σ H Q=>ta σ H λx H1=>∃c,x=.bl c/\if c=true then tb σ H1 Q else Q (.bl false) H1
def aZ2 (ta tb:TE):TE:=fun σ H Q=>ta σ H λx H1=>∃c,x=.bl c/\if c=true then Q (.bl true) H1 else tb σ H1 Q
def aWr (ta:TE):TE:=fun σ H Q=>ta σ H λx H1=>∃c,x=.bl c/\Q (.bl (!c)) H1
theorem aXj {op}{t:TE}(h:PE X a t):PE X (.BoolOp op [a] pos) t:=λbEX s σ H Q I hw=>BoolOp_one (h bEX s σ H Q I hw)
theorem aZh (ha:PE X a ta)(hb:PE X (.BoolOp .And (b::rest) pos) tb):PE X (.BoolOp .And (a::b::rest) pos) (aWv ta tb):=by
 intro bEX s σ H Q I h;refine BoolOp_and (thn (ha bEX s σ H _ I h) λv s1 ⟨x,H1,I1,r1,q1⟩=>?_);obtain⟨c,rfl,q1⟩:=q1;cases r1;refine bBK ?_;cases c with
 |true=>exact hb bEX s1 σ H1 Q I1 q1
 |false=>exact⟨.bl false,H1,I1,rfl,q1⟩
theorem bAg (ha:PE X a ta)(hb:PE X (.BoolOp .Or (b::rest) pos) tb):PE X (.BoolOp .Or (a::b::rest) pos) (aZ2 ta tb):=by
 intro bEX s σ H Q I h;refine BoolOp_or (thn (ha bEX s σ H _ I h) λv s1 ⟨x,H1,I1,r1,q1⟩=>?_);obtain⟨c,rfl,q1⟩:=q1;cases r1;refine bBK ?_;cases c with
 |false=>exact hb bEX s1 σ H1 Q I1 q1
 |true=>exact⟨.bl true,H1,I1,rfl,q1⟩
theorem aXc (ha:PE X a ta):PE X (.UnaryOp .Not a pos) (aWr ta):=by intro bEX s σ H Q I h;refine UnaryOp_ (thn (ha bEX s σ H _ I h) λv s1 ⟨x,H1,I1,r1,q1⟩=>?_);obtain⟨c,rfl,q1⟩:=q1;cases r1;exact not_of (bBK ⟨.bl (!c),H1,I1,rfl,q1⟩)
def tIf (t:TT)(ta tb:TE):TE:=fun σ H Q=>t σ H λc H1=>if c=true then ta σ H1 Q else tb σ H1 Q
theorem aRp {c:Expr}(hc:PT X c tA)(ha:PE X a ta)(hb:PE X b tb):PE X (.IfExp c a b pos) (tIf tA ta tb):=by
 intro bEX s σ H Q I h;refine wpAny_IfExp (thn (hc bEX s σ H _ I h) λd s1 ⟨H1,I1,q1⟩=>?_);cases d with
 |true=>exact ha bEX s1 σ H1 Q I1 q1
 |false=>exact hb bEX s1 σ H1 Q I1 q1
end
def SqL (K:bET)(H:Hp)(a:Addr)(xs:List V):Prop:=
 Rd H a (.lst xs) \/
  ∃(o:Obj) (its:Array Value) (n:Nat),K.lookup a=some o/\o.cls=.type "list"/\o.dict=none/\o.data=.seq its n/\its.size<=sizeLine/\Vals xs its.toList
def SqT (K:bET)(H:Hp)(a:Addr)(xs:List V):Prop:=
 Rd H a (.tup xs) \/
  ∃(o:Obj) (its:Array Value) (n:Nat),K.lookup a=some o/\o.cls=.type "tuple"/\o.dict=none/\o.data=.seq its n/\its.size<=sizeLine/\Vals xs its.toList
def bBd:Value->Option V
 |.none=>some .non
 |.bool b=>some (.bl b)
 |.int i _=>some (.int i)
 |.str x _=>some (.str x)
 |.bytes b _=>some (.byt b)
 |.float b _=>some (.flt b)
 |.ref a=>some (.ref a)
 |.type n=>some (.ty n)
 |_=>none
theorem RelV.abs {x:V}{u:Value}(r:RelV x u):bBd u=some x:=by
 cases x with
 |non=>cases r;rfl
 |bl _=>cases r;rfl
 |int _=>obtain⟨t,rfl⟩:=r;rfl
 |str _=>obtain⟨t,rfl⟩:=r;rfl
 |byt _=>obtain⟨t,rfl⟩:=r;rfl
 |flt _=>obtain⟨t,rfl⟩:=r;rfl
 |ref _=>cases r;rfl
 |ty _=>cases r;rfl
theorem RelV.inj {x y:V}{u:Value}(r:RelV x u)(q:RelV y u):x=y:=bAQ (r.abs.symm.trans q.abs)
theorem Vals.inj:∀{xs ys:List V} {us:List Value},Vals xs us->Vals ys us->xs=ys
 |_,_,_,.nil,.nil=>rfl
 |_,_,_,.cons r t,.cons r' t'=>by rw[r.inj r',Vals.inj t t']
section
variable {X:Cx}{bEX:bEV}{σ:St}{H:Hp}{s:Shared}{a:Addr}{xs ys:List V}
theorem SqL.of {K:bET}(h:H a=some (.lst xs)):SqL K H a xs:=.inl (.inl h)
theorem SqT.of {K:bET}(h:H a=some (.tup xs)):SqT K H a xs:=.inl (.inl h)
theorem Inv.list (I:Inv X bEX σ H s)(h:SqL X.K H a xs):∃its:List Value,Vals xs its/\PlainL s.heap a its.toArray/\xs.length<=sizeLine:=by
 rcases h with h|⟨o,its,n,hk,hc,hd,hs,hz,r⟩
 ·obtain⟨z,its,n,r,e⟩:=h.ok I.hok;exact⟨its,r,⟨_,n,e,rfl,rfl,rfl⟩,z⟩
 ·refine⟨its.toList,r,⟨o,n,I.kIn a o hk,hc,hd,by simpa using hs⟩,?_⟩;have e:=r.length;simp only[bAA] at e;lia
theorem Inv.tuple (I:Inv X bEX σ H s)(h:SqT X.K H a xs):∃its:List Value,Vals xs its/\IsTup s.heap a its.toArray/\xs.length<=sizeLine:=by
 rcases h with h|⟨o,its,n,hk,hc,hd,hs,hz,r⟩
 ·obtain⟨z,its,r,p⟩:=h.ok I.hok;exact⟨its,r,p.1,z⟩
 ·refine⟨its.toList,r,⟨o,I.kIn a o hk,hc,n,by simpa using hs⟩,?_⟩;have e:=r.length;simp only[bAA] at e;lia
theorem Inv.aQx (I:Inv X bEX σ H s)(h:SqL X.K H a xs)(h':SqL X.K H a ys):xs=ys:=by
 obtain⟨its,r,⟨o,n,e,_,_,d⟩,_⟩:=I.list h;obtain⟨its',r',⟨o',n',e',_,_,d'⟩,_⟩:=I.list h';rw[e] at e';cases e';rw[d] at d';injection d' with d1 _;have:its=its':=by simpa using congrArg Array.toList d1
 subst this;exact r.inj r'
theorem Inv.aPc (I:Inv X bEX σ H s)(h:SqT X.K H a xs)(h':SqT X.K H a ys):xs=ys:=by
 obtain⟨its,r,⟨o,e,_,n,d⟩,_⟩:=I.tuple h;obtain⟨its',r',⟨o',e',_,n',d'⟩,_⟩:=I.tuple h';rw[e] at e';cases e';rw[d] at d';injection d' with d1 _;have:its=its':=by simpa using congrArg Array.toList d1
 subst this;exact r.inj r'
end
abbrev Cx.wish (X:Cx)(E:bEU):Cx:={ X with xe:=E }
abbrev Cx.nox (X:Cx):Cx:=X.wish λ_ _=>False
theorem Cx.Ok.wish {X:Cx}(ok:X.Ok)(E:bEU):(X.wish E).Ok:=
 ⟨ok.mod,ok.kind,ok.glob,ok.blt,ok.above,ok.inj,ok.has,ok.cab,ok.hd,ok.frames,ok.stk,ok.exf,ok.bs,ok.bsz,ok.noex,ok.exfs,ok.funs,ok.frf⟩
theorem Cx.Ok.pZ {X:Cx}{E:bEU}(ok:(X.wish E).Ok):X.Ok:=
 ⟨ok.mod,ok.kind,ok.glob,ok.blt,ok.above,ok.inj,ok.has,ok.cab,ok.hd,ok.frames,ok.stk,ok.exf,ok.bs,ok.bsz,ok.noex,ok.exfs,ok.funs,ok.frf⟩
section
variable {X:Cx}{bEX:bEV}{σ:St}{H:Hp}{s:Shared}{E:bEU}
theorem Inv.wish (I:Inv X bEX σ H s)(E:bEU):Inv (X.wish E) bEX σ H s:=⟨I.ok.wish E,I.os,I.bare,I.base,I.loc,I.cell,I.free,I.freeC,I.pin,I.hok,I.len⟩
theorem Inv.pZ (I:Inv (X.wish E) bEX σ H s):Inv X bEX σ H s:=⟨I.ok.pZ,I.os,I.bare,I.base,I.loc,I.cell,I.free,I.freeC,I.pin,I.hok,I.len⟩
theorem SP.pZ {D:Ends}{f:Flow}{s':Shared}(h:SP (X.wish E) bEX D f s'):SP X bEX D f s':=by
 cases f with
 |next=>obtain⟨σ',H',I,q⟩:=h;exact⟨σ',H',I.pZ,q⟩
 |brk=>obtain⟨σ',H',I,q⟩:=h;exact⟨σ',H',I.pZ,q⟩
 |cont=>obtain⟨σ',H',I,q⟩:=h;exact⟨σ',H',I.pZ,q⟩
 |ret u=>obtain⟨v,σ',H',I,r,q⟩:=h;exact⟨v,σ',H',I.pZ,r,q⟩
theorem PSs.nox {st:List Stmt}{t:TS}(h:PSs X.nox st t):PSs X st t:=λbEX s σ H D I hw=>
 bBB (h bEX s σ H D (I.wish _) hw) (λ_ _ q=>q.pZ) λ_ _ z=>False.elim z
end
section
variable {X:Cx}{st:Stmt}{rest:List Stmt}{t u:TS}{e:Expr}{te:TE}{pos:Pos}
def pO:TS:=λD σ H=>D.nx σ H
def aBx (t u:TS):TS:=λD σ H=>t { D with nx:=u D } σ H
theorem aV3:PSs X [] pO:=λ_ _ σ H _ I h=>bEE ⟨σ,H,I,h⟩
theorem aTk (h1:PS X st t)(h2:PSs X rest u):PSs X (st::rest) (aBx t u):=by
 intro bEX s σ H D I h;refine wpAny_execs_cons (thn (h1 bEX s σ H { D with nx:=u D } I h) λf s1 q=>?_);cases f with
 |next=>obtain⟨σ',H',I',q⟩:=q;exact h2 bEX s1 σ' H' D I' q
 |ret v=>exact q
 |brk=>exact q
 |cont=>exact q
theorem aUb (h1:PS X st t):PSs X [st] t:=by
 intro bEX s σ H D I h;refine wpAny_execs_cons (thn (h1 bEX s σ H D I h) λf s1 q=>?_);cases f with
 |next=>exact bEE q
 |ret v=>exact q
 |brk=>exact q
 |cont=>exact q
theorem Inv.quiet {bEX:bEV}{σ:St}{H:Hp}{s:Shared}(I:Inv X bEX σ H s):interactive X.env=false:=by simp[interactive,I.ok.kind]
def aMn (te:TE):TS:=λD σ H=>te σ H λ_ H1=>D.nx σ H1
theorem aM6 (he:PE X e te)(hs:swapsWith e none pos.line X.env=pure false:=by rfl):PS X (.Expr e pos) (aMn te):=by intro bEX s σ H D I h;exact wpAny_Expr_any (thn (he bEX s σ H _ I h) λv s1 ⟨x,H1,I1,r1,q1⟩=>⟨σ,H1,I1,q1⟩) I.quiet hs
def uX (te:TE):TS:=λD σ H=>te σ H D.rt
theorem aXt (he:PE X e te):PS X (.Return (some e) pos) (uX te):=by intro bEX s σ H D I h;exact wpAny_Return_some (thn (he bEX s σ H _ I h) λv s1 ⟨x,H1,I1,r1,q1⟩=>⟨x,σ,H1,I1,r1,q1⟩)
def aPh (c:TT)(t u:TS):TS:=λD σ H=>c σ H λb H1=>if b=true then t D σ H1 else u D σ H1
theorem aZu {c:Expr}{a b:List Stmt}{tc:TT}(hc:PT X c tc)(ha:PSs X a t)(hb:PSs X b u):PS X (.If c a b pos) (aPh tc t u):=by
 intro bEX s σ H D I h;refine wpAny_If (thn (hc bEX s σ H _ I h) λd s1 ⟨H1,I1,q1⟩=>?_);cases d with
 |true=>exact ha bEX s1 σ H1 D I1 q1
 |false=>exact hb bEX s1 σ H1 D I1 q1
def aSs:TS:=λ_ _ _=>False
theorem aR0:PS X st aSs:=λ_ _ _ _ _ _ h=>h.elim
end
abbrev TG:=V->St->Hp->(St->Hp->Prop)->Prop
abbrev TGs:=List V->St->Hp->(St->Hp->Prop)->Prop
def PG (X:Cx)(target:Expr)(t:TG):Prop:=
 ∀(bEX:bEV) (s:Shared) (σ:St) (H:Hp) (v:V) (u:Value) (Q:St->Hp->Prop),Inv X bEX σ H s->RelV v u->t v σ H Q ->
  wpAny (model X.prog X.w) X.A (assign target X.env u) (λ_ s'=>∃σ' H',Inv X bEX σ' H' s'/\Q σ' H') X.xe s
def PGs (X:Cx)(ts:List Expr)(t:TGs):Prop:=
 ∀(bEX:bEV) (s:Shared) (σ:St) (H:Hp) (vs:List V) (us:List Value) (Q:St->Hp->Prop),Inv X bEX σ H s->Vals vs us->t vs σ H Q ->
  wpAny (model X.prog X.w) X.A (assignInOrder ((assignEach ts X.env).map (·.2)) us) (λ_ s'=>∃σ' H',Inv X bEX σ' H' s'/\Q σ' H') X.xe s
abbrev aVa:=V->V->V->Hp->(Hp->Prop)->Prop
def aW4 (X:Cx)(t:aVa):Prop:=
 ∀(bEX:bEV) (s:Shared) (σ:St) (H:Hp) (o i v:V) (ov iv u:Value) (Q:Hp->Prop),Inv X bEX σ H s->RelV o ov->RelV i iv->RelV v u->t o i v H Q ->
  wpAny (model X.prog X.w) X.A (setItem ov iv u) (λ_ s'=>∃H',Inv X bEX σ H' s'/\Q H') X.xe s
section
variable {X:Cx}{pos:Pos}
def cO (i:Nat):TG:=λv σ H Q=>Q (σ.set i (some v)) H
theorem aVq {i:Nat}{x:Str}(hN:X.N.Nodup)(hi:X.N[i]?=some x)(hx:Loc X.env.scope x)(hf:X.fn x=true\/X.env.scope.names.lookup x=some .local:=by first|exact .inl rfl|exact .inr rfl|assumption):PG X (.Name x pos) (cO i):=by intro bEX s σ H v u Q I r h;exact wpAny_assign_Name (aIc I hN hi hx r (λs' I'=>⟨_,H,I',h⟩) hf)
def aPz:TGs:=λvs σ H Q=>vs=[]/\Q σ H
def sV (t:TG)(u:TGs):TGs:=λvs σ H Q=>∃v r,vs=v::r/\t v σ H fun σ' H'=>u r σ' H' Q
theorem aVk:PGs X [] aPz:=by intro bEX s σ H vs us Q I r h;obtain⟨e,h⟩:=h;subst e;cases r;exact assignInOrder_nil ⟨σ,H,I,h⟩
theorem aSi {e:Expr}{es:List Expr}{t:TG}{u:TGs}(h1:PG X e t)(h2:PGs X es u)
  (hs:(assignEach (e::es) X.env).map (·.2)=assign e X.env::(assignEach es X.env).map (·.2):=by rfl):PGs X (e::es) (sV t u):=by
 intro bEX s σ H vs us Q I r h;obtain⟨v,vr,e1,h⟩:=h;subst e1;cases r with
 |cons r rr=>rw[hs];refine assignInOrder_cons (thn (h1 bEX s σ H _ _ _ I r h) λ_ s1 ⟨σ1,H1,I1,q1⟩=>?_);exact h2 bEX s1 σ1 H1 _ _ Q I1 rr q1
def aL6 (K:bET)(n:Nat)(t:TGs):TG:=λv σ H Q=>∃a xs,v=.ref a/\SqT K H a xs/\xs.length=n/\t xs σ H Q
theorem aYl {es:List Expr}{k:Nat}{t:TGs}{n:Nat}(hc:X.calm=true)(h:PGs X es t)
  (hn:(assignEach es X.env).length=n:=by rfl) (hst:(assignEach es X.env).findIdx? (·.1)=none:=by rfl):PG X (.Tuple es k pos) (aL6 X.K n t):=by
 intro bEX s σ H v u Q I r hw;obtain⟨a,xs,e1,hq,hl,hw⟩:=hw;subst e1;cases r;obtain⟨its,rv,ht,hz⟩:=I.tuple hq;refine assign_Tuple_tuple (I.ok.hd hc) ht (by simp[hn,<-hl,rv.length]) hst λh' hx=>?_;have I1:Inv X bEX σ H { s with heap:=h' }:=I.kept (t':=s.toks) λb o e=>hx b o (t7 (m8 e)) e;exact h bEX _ σ H xs _ Q I1 (by simpa using rv) hw
def bAy (to ti:TE)(t:aVa):TG:=λv σ H Q=>to σ H λo H1=>ti σ H1 λi H2=>t o i v H2 λH3=>Q σ H3
theorem aYn {o i:Expr}{to ti:TE}{t:aVa}(ho:PE X o to)(hi:PE X i ti)(hs:aW4 X t)
  (ha:∀v,assign (.Subscript o i pos) X.env v=(do
   let ov <-holding [v] (eval o X.env)
   let iv <-holding [v,ov] (eval i X.env)
   standAt pos
   holding [v,ov,iv] (setItem ov iv v)
   release [v,ov,iv] []):=by intro _;rfl):PG X (.Subscript o i pos) (bAy to ti t):=by
 intro bEX s σ H v u Q I r h;rw[ha];refine c7 (bAV (thn (ho bEX s σ H _ I h) λov s1 ⟨x,H1,I1,r1,q1⟩=>?_));refine c7 (bAV (thn (hi bEX s1 σ H1 _ I1 q1) λiv s2 ⟨y,H2,I2,r2,q2⟩=>?_));refine c7 (bDL (c7 (bAV (thn (hs bEX s2 σ H2 x y v ov iv u _ I2 r1 r2 r q2) λ_ s3 ⟨H3,I3,q3⟩=>?_))));exact wpAny_release ⟨σ,H3,I3,q3⟩
def aA8 (te:TE)(g:TG):TS:=λD σ H=>te σ H λx H1=>g x σ H1 D.nx
theorem aYr {tg e:Expr}{te:TE}{g:TG}(he:PE X e te)(hg:PG X tg g)(hs:swapsWithSole [tg] e pos.line X.env=pure false:=by rfl)(hw:swappedStores [tg] e X.env=pure none:=by rfl)
  (h1:(assignEach [tg] X.env).map (·.2)=[assign tg X.env]:=by rfl):PS X (.Assign [tg] e pos) (aA8 te g):=by
 intro bEX s σ H D I h;refine wpAny_Assign_stores (thn (he bEX s σ H _ I h) λv s1 ⟨x,H1,I1,r1,q1⟩=>?_) hs hw;rw[h1];exact thn (hg bEX s1 σ H1 x v _ I1 r1 q1) λ_ s2 q=>q
theorem aYp {i:Nat}{x:Str}{e:Expr}{te:TE}{pos':Pos}(hN:X.N.Nodup)(hi:X.N[i]?=some x)(hx:Loc X.env.scope x)(he:PE X e te)(hs:swapsWith e (some (.Name x pos')) pos.line X.env=pure false:=by rfl)(hf:X.fn x=true\/X.env.scope.names.lookup x=some .local:=by first|exact .inl rfl|exact .inr rfl|assumption) :
  PS X (.Assign [.Name x pos'] e pos) (aA8 te (cO i)):=by
 intro bEX s σ H D I h;refine wpAny_Assign_Name (thn (he bEX s σ H _ I h) λv s1 ⟨y,H1,I1,r1,q1⟩=>?_) hs;exact aIc I1 hN hi hx r1 (λs2 I2=>⟨_,H1,I2,q1⟩) hf
end
structure It where
 go:Nat->Hp->Prop
 yld:Nat->Hp->V->Hp->Prop
 stop:Nat->Hp->Prop
def sI (X:Cx)(bEX:bEV)(H:Hp)(b:Addr):Prop:=
 H b=none/\b≠X.env.locals/\b∉X.fs/\(b∈X.ex\/X.s₀.heap.objs.size<=b)/\(∀x c,X.env.cells.lookup x=some c->c≠b)/\∀p∈X.pn++bEX,p.1≠b
theorem Inv.aCa {X:Cx}{bEX:bEV}{σ:St}{H H':Hp}{s:Shared}{b:Addr}(I:Inv X bEX σ H s)(hb:s.heap.objs.size<=b)(hn:H' b=none):sI X bEX H' b:=by
 refine⟨hn,bBY (bAB I.lt hb),I.nofs hb,.inr (bAP I.sz hb),λx c e z=>?_,λp hp z=>?_⟩
 ·obtain⟨v,q⟩:=I.cell x c e;exact absurd (bAB q.lt (by rw[z];exact hb)) (bBO _)
 ·exact absurd (bAB (m8 (I.pin p hp).1) (by rw[z];exact hb)) (bBO _)
structure Turn (P:Program)(w:World)(K:bET)(tg:Expr)(J:It)(fp:List Addr)(it:Addr)(tn:Nat->Heap->Prop):Prop where
 mem:it∈fp
 obj:∀i h,tn i h->∀b∈fp,∃o,h.get? b=some o/\∀v,o.data≠.cell v
 keep:∀i h h',tn i h->(∀b∈fp,∀o,h.get? b=some o->h'.get? b=some o)->tn i h'
 item:∀(X:Cx),X.prog=P->X.w=w->X.K=K->X.calm=true->∀(i:Nat) (bEX:bEV) (s:Shared) (σ:St) (H:Hp) (E:bEU),Inv X bEX σ H s->(∀b∈fp,sI X bEX H b)->tn i s.heap->J.go i H ->
  wpAny (model P w) X.A (pyNext (.ref it)) (λr s1=>∃u,r=some u /\
   wpAny (model P w) X.A (letOwnedTupleGo tg (.ref it) u) (λ_ s2=>∃x H',Inv X bEX σ H' s2/\RelV x u/\J.yld i H x H'/\tn (i+1) s2.heap/\∀b∈fp,H' b=none) E s1) E s
 done:∀(X:Cx),X.prog=P->X.w=w->X.K=K->X.calm=true->∀(i:Nat) (bEX:bEV) (s:Shared) (σ:St) (H:Hp) (E:bEU),Inv X bEX σ H s->(∀b∈fp,sI X bEX H b)->tn i s.heap->J.stop i H ->
  wpAny (model P w) X.A (pyNext (.ref it)) (λr s1=>r=none/\Inv X bEX σ H s1) E s
 self:∀(A:Around) (i:Nat) (s:Shared) (Q:bEU) (E:bEU),tn i s.heap->Q (.ref it) s->wpAny (model P w) A (pyIter (.ref it)) Q E s
abbrev TI:=St->Hp->(It->Hp->Prop)->Prop
def PIE (X:Cx)(bEX:bEV)(σ:St)(tg:Expr)(R:It->Hp->Prop)(itv:Value)(s2:Shared):Prop:=
 ∃(it:Addr) (fp:List Addr) (tn:Nat->Heap->Prop) (J:It) (H':Hp),itv=.ref it/\Inv X bEX σ H' s2/\Turn X.prog X.w X.K tg J fp it tn/\tn 0 s2.heap/\(∀b∈fp,sI X bEX H' b)/\R J H'
def PI (X:Cx)(tg iter:Expr)(wi:TI):Prop:=
 ∀(bEX:bEV) (s:Shared) (σ:St) (H:Hp) (R:It->Hp->Prop),Inv X bEX σ H s->wi σ H R ->
  wpAny (model X.prog X.w) X.A (eval iter X.env) (λv s1=>wpAny (model X.prog X.w) X.A (pyIter v) (PIE X bEX σ tg R) X.xe s1) X.xe s
theorem aDq {M:Model}{A:Around}{E:bEU}{s:Shared}{tg:Expr}{it:Addr}{u:Value}{o:Obj}{n:String}{vs:Array Value}{Q:Unit->Shared->Prop}(ho:s.heap.get? it=some o)(hc:o.cls=.type n)(hd:o.data=.fields vs)
  (hn:["enumerate","zip","dict_itemiterator","dict_reverseitemiterator","odict_iterator","itertools.zip_longest","itertools.pairwise"].contains n=false) (hQ:Q () s):wpAny M A (letOwnedTupleGo tg (.ref it) u) Q E s:=by
 unfold letOwnedTupleGo;cases tg <;> first
  |exact j4 hQ
  |(cases u <;> first
    |exact j4 hQ
    |(refine c7 (wpAny_load ho ?_);rw[hc,hd];show wpAny M A (if (["enumerate","zip","dict_itemiterator","dict_reverseitemiterator","odict_iterator","itertools.zip_longest","itertools.pairwise"].contains n && vs[0]? == some (rawInt _))=true then _ else _) Q E s;rw[if_neg (by intro h;rw[hn,Bool.false_and] at h;cases h)];exact j4 hQ))
def Itl (K:bET)(a:Addr):It:=
 ⟨λi H=>∃xs x,SqL K H a xs/\xs[i]?=some x,λi H x H'=>H'=H/\∀xs,SqL K H a xs->xs[i]?=some x,λi H=>∃xs,SqL K H a xs/\xs.length<=i⟩
def Itt (K:bET)(a:Addr):It:=
 ⟨λi H=>∃xs x,SqT K H a xs/\xs[i]?=some x,λi H x H'=>H'=H/\∀xs,SqT K H a xs->xs[i]?=some x,λi H=>∃xs,SqT K H a xs/\xs.length<=i⟩
def Itr (lo:Int)(n:Nat):It:=⟨λi _=>i<n,λi H x H'=>H'=H/\x=.int (lo+i),λi _=>n<=i⟩
theorem aP1 {P:Program}{w:World}{K:bET}{tg:Expr}(a it:Addr):Turn P w K tg (Itl K a) [it] it (λi h=>h.IsListIter it a i) where
 mem:=by simp
 obj:=λi h st b hb=>by
  have e:b=it:=by simpa using hb
  subst e;obtain⟨o,e,c,d⟩:=st;exact⟨o,e,λv z=>by rw[d] at z;cases z⟩
 keep:=λi h h' st k=>st.at λo e=>k it (by simp) o e
 item:=by intro X hP hw hK hc i bEX s σ H E I hf st hg;subst hP hw hK;obtain⟨xs,x,hq,hx⟩:=hg;obtain⟨its,rv,p,hz⟩:=I.list hq;obtain⟨u,hu,ru⟩:=rv.get hx;obtain⟨f0,f1,f2,f3,f4,f5⟩:=hf it (by simp);refine wpAny_pyNext_list_item st p.isList (x:=u) (by simpa using hu) λh' st' sb=>?_;have I1:Inv X bEX σ H { s with heap:=h' }:=I.turned (t':=s.toks) (λb o hb e=>(sb.2 b hb).trans e) f0 f1 f3 f4 f5;obtain⟨o,e,c,d⟩:=id st';exact⟨u,rfl,aDq (s:={ s with heap:=h' }) e c d (by decide) ⟨x,H,I1,ru,⟨rfl,λys hy=>by rw[I.aQx hy hq];exact hx⟩,st',λb hb=>(hf b hb).1⟩⟩
 done:=by intro X hP hw hK hc i bEX s σ H E I hf st hg;subst hP hw hK;obtain⟨xs,hq,hx⟩:=hg;obtain⟨its,rv,p,hz⟩:=I.list hq;obtain⟨f0,f1,f2,f3,f4,f5⟩:=hf it (by simp);have hl:=rv.length;exact wpAny_pyNext_list_end (I.ok.hd hc) st p.isList (by simp;lia) λh' eb=>⟨rfl,I.turned (t':=s.toks) (λb o hb e=>eb b o hb e) f0 f1 f3 f4 f5⟩
 self:=λ_ _ _ _ _ st h=>wpAny_pyIter_listiter st h
theorem aKz {P:Program}{w:World}{K:bET}{tg:Expr}(a it:Addr):Turn P w K tg (Itt K a) [it] it (λi h=>h.IsTupleIter it a i) where
 mem:=by simp
 obj:=λi h st b hb=>by
  have e:b=it:=by simpa using hb
  subst e;obtain⟨o,e,c,d⟩:=st;exact⟨o,e,λv z=>by rw[d] at z;cases z⟩
 keep:=λi h h' st k=>st.at λo e=>k it (by simp) o e
 item:=by intro X hP hw hK hc i bEX s σ H E I hf st hg;subst hP hw hK;obtain⟨xs,x,hq,hx⟩:=hg;obtain⟨its,rv,p,hz⟩:=I.tuple hq;obtain⟨u,hu,ru⟩:=rv.get hx;obtain⟨f0,f1,f2,f3,f4,f5⟩:=hf it (by simp);refine wpAny_pyNext_tuple_item st (show s.heap.IsTuple a its.toArray from p) (x:=u) (by simpa using hu) λh' st' sb=>?_;have I1:Inv X bEX σ H { s with heap:=h' }:=I.turned (t':=s.toks) (λb o hb e=>(sb.2 b hb).trans e) f0 f1 f3 f4 f5;obtain⟨o,e,c,d⟩:=id st';exact⟨u,rfl,aDq (s:={ s with heap:=h' }) e c d (by decide) ⟨x,H,I1,ru,⟨rfl,λys hy=>by rw[I.aPc hy hq];exact hx⟩,st',λb hb=>(hf b hb).1⟩⟩
 done:=by intro X hP hw hK hc i bEX s σ H E I hf st hg;subst hP hw hK;obtain⟨xs,hq,hx⟩:=hg;obtain⟨its,rv,p,hz⟩:=I.tuple hq;obtain⟨f0,f1,f2,f3,f4,f5⟩:=hf it (by simp);have hl:=rv.length;exact wpAny_pyNext_tuple_end (I.ok.hd hc) st (show s.heap.IsTuple a its.toArray from p) (by simp;lia) λh' eb=>⟨rfl,I.turned (t':=s.toks) (λb o hb e=>eb b o hb e) f0 f1 f3 f4 f5⟩
 self:=λ_ _ _ _ _ st h=>wpAny_pyIter_tupleiter st h
theorem aKh {P:Program}{w:World}{K:bET}{tg:Expr}(it:Addr)(lo:Int)(n:Nat):Turn P w K tg (Itr lo n) [it] it (λi h=>IsRangeIter h it (lo+(i:Nat) * 1) ((n:Int) - (i:Nat)) 1) where
 mem:=by simp
 obj:=λi h st b hb=>by
  have e:b=it:=by simpa using hb
  subst e;exact⟨_,st,λv z=>by have z':Data.fields _=Data.cell v:=z;cases z'⟩
 keep:=λi h h' st k=>k it (by simp) _ st
 item:=by intro X hP hw hK hc i bEX s σ H E I hf st hg;subst hP hw hK;obtain⟨f0,f1,f2,f3,f4,f5⟩:=hf it (by simp);have W:=Walks.range (prog:=X.prog) (w:=X.w) (I.ok.hd hc) it lo 1 n;refine W.item i s _ _ hg st λv h' tk hv st' kk=>?_;obtain⟨t,rfl⟩:=hv;have I1:Inv X bEX σ H { s with heap:=h',toks:=tk }:=I.turned (λb o hb e=>kk b o (by simpa using hb) e) f0 f1 f3 f4 f5;refine⟨_,rfl,aDq (s:={ s with heap:=h',toks:=tk }) (n:="range_iterator") st' rfl rfl (by decide) ⟨.int (lo+i),H,I1,⟨t,?_⟩,⟨rfl,rfl⟩,st',λb hb=>(hf b hb).1⟩⟩;rw[Int.mul_one]
 done:=by intro X hP hw hK hc i bEX s σ H E I hf st hg;subst hP hw hK;obtain⟨f0,f1,f2,f3,f4,f5⟩:=hf it (by simp);exact wpAny_pyNext_range_end (I.ok.hd hc) st (by have:n<=i:=hg;lia) λh' eb=>⟨rfl,I.turned (t':=s.toks) (λb o hb e=>eb b o hb e) f0 f1 f3 f4 f5⟩
 self:=λ_ _ _ _ _ st h=>wpAny_pyIter_rangeiter st h
section
variable {X:Cx}{tg:Expr}
def aGl (K:bET)(tl:TE):TI:=fun σ H R=>tl σ H λx H1=>∃a,x=.ref a/\(∃xs,SqL K H1 a xs)/\R (Itl K a) H1
def aUy (K:bET)(tl:TE):TI:=fun σ H R=>tl σ H λx H1=>∃a,x=.ref a/\(∃xs,SqT K H1 a xs)/\R (Itt K a) H1
theorem aWe {l:Expr}{tl:TE}(hl:PE X l tl):PI X tg l (aGl X.K tl):=by
 intro bEX s σ H R I h;refine thn (hl bEX s σ H _ I h) λv s1 ⟨x,H1,I1,r1,q1⟩=>?_;obtain⟨a,e,⟨xs,hq⟩,q⟩:=q1;subst e;cases r1;obtain⟨its,rv,p,hz⟩:=I1.list hq;refine bB5 p.isList ?_;refine⟨s1.heap.objs.size,[s1.heap.objs.size],_,_,H1,rfl,I1.kept (t':=s1.toks) λb o e=>j0 _ e,aP1 a _,⟨_,j5 _ rfl,rfl,rfl⟩,λb hb=>?_,q⟩;have e:b=s1.heap.objs.size:=by simpa using hb
 subst e;exact I1.aCa (j6 _) (I1.hok.fresh (j6 _))
theorem aY9 {l:Expr}{tl:TE}(hl:PE X l tl):PI X tg l (aUy X.K tl):=by
 intro bEX s σ H R I h;refine thn (hl bEX s σ H _ I h) λv s1 ⟨x,H1,I1,r1,q1⟩=>?_;obtain⟨a,e,⟨xs,hq⟩,q⟩:=q1;subst e;cases r1;obtain⟨its,rv,p,hz⟩:=I1.tuple hq;refine bEL (show s1.heap.IsTuple a its.toArray from p) ?_;refine⟨s1.heap.objs.size,[s1.heap.objs.size],_,_,H1,rfl,I1.kept (t':=s1.toks) λb o e=>j0 _ e,aKz a _,⟨_,j5 _ rfl,rfl,rfl⟩,λb hb=>?_,q⟩;have e:b=s1.heap.objs.size:=by simpa using hb
 subst e;exact I1.aCa (j6 _) (I1.hok.fresh (j6 _))
theorem aHs {bEX:bEV}{σ:St}{H:Hp}{s:Shared}{R:It->Hp->Prop}{E:bEU}{lo hi:Int}{t u v:Tok}{tk:Nat}(I:Inv X bEX σ H s)(h1:-(2 ^ 62)<=lo)(h2:lo<2 ^ 62)(h3:-(2 ^ 62)<=hi)(h4:hi<2 ^ 62)
  (q:R (Itr lo (hi - lo).toNat) H):wpAny (model X.prog X.w) X.A (pyIter (.ref s.heap.objs.size)) (PIE X bEX σ tg R) E { s with heap:=s.heap.push { cls:=.type "range",data:=.fields #[.int lo t,.int hi u,.int 1 v] },toks:=tk }:=by
 refine wpAny_pyIter_range (IsRange.new ..) (small_one h1 h2 h3 h4) ?_;have I1:Inv X bEX σ H { s with heap:=s.heap.push { cls:=.type "range",data:=.fields #[.int lo t,.int hi u,.int 1 v] },toks:=tk }:=I.kept λb o e=>j0 _ e;refine⟨(s.heap.push { cls:=.type "range",data:=.fields #[.int lo t,.int hi u,.int 1 v] }).objs.size,[(s.heap.push { cls:=.type "range",data:=.fields #[.int lo t,.int hi u,.int 1 v] }).objs.size],_,_,H,rfl,
  I1.kept (t':=tk) λb o e=>j0 _ e,aKh _ lo (hi - lo).toNat,?_,λb hb=>?_,q⟩
 ·have e1:lo+((0:Nat):Int) * 1=lo:=by simp
  have e2:(((hi - lo).toNat:Nat):Int) - ((0:Nat):Int)=Builtin.Range.rangeSize lo hi 1:=by rw[rangeSize_one];split <;> lia
  show IsRangeIter _ _ (lo+((0:Nat):Int) * 1) ((((hi - lo).toNat:Nat):Int) - ((0:Nat):Int)) 1;rw[e1,e2];exact j5 _ rfl
 ·have e:b=(s.heap.push { cls:=.type "range",data:=.fields #[.int lo t,.int hi u,.int 1 v] }).objs.size:=by simpa using hb
  subst e;exact I1.aCa (j6 _) (I1.hok.fresh (j6 _))
def aRr (ta:TA):TI:=fun σ H R=>ta σ H λvs H1=>∃j:Int,vs=[.int j]/\-(2 ^ 62)<=j/\j<2 ^ 62/\R (Itr 0 j.toNat) H1
def aWj (ta:TA):TI:=fun σ H R=>ta σ H λvs H1=>∃i j:Int,vs=[.int i,.int j]/\(-(2 ^ 62)<=i/\i<2 ^ 62/\-(2 ^ 62)<=j/\j<2 ^ 62)/\R (Itr i (j - i).toNat) H1
theorem aOk {a:Expr}{ta:TA}{p pos:Pos}(hg:Gl X "range")(hm:X.mg "range"=none)(ha:PA X [a] ta)(hs:starEach [a] X.env=[(false,eval a X.env)]:=by rfl):PI X tg (.Call (.Name "range" p) [a] [] pos) (aRr ta):=by
 intro bEX s σ H R I h;refine Call_ (nU I hg hm boot_range (bBQ (thn (ha pos bEX s σ H _ I h) λus s1 ⟨vs,H1,I1,r1,q1⟩=>?_) hs rfl));obtain⟨j,e,q1,q2,q⟩:=q1;subst e;cases r1 with
 |cons r rr=>cases rr;obtain⟨t,rfl⟩:=r;exact call_range_1 (aHs I1 (by lia) (by lia) q1 q2 (by simpa using q))
theorem aOy {a b:Expr}{ta:TA}{p pos:Pos}(hg:Gl X "range")(hm:X.mg "range"=none)(ha:PA X [a,b] ta)(hs:starEach [a,b] X.env=[(false,eval a X.env),(false,eval b X.env)]:=by rfl)(hs2:starEach [b] X.env=[(false,eval b X.env)]:=by rfl) :
  PI X tg (.Call (.Name "range" p) [a,b] [] pos) (aWj ta):=by
 intro bEX s σ H R I h;refine Call_ (nU I hg hm boot_range (bBQ (thn (ha pos bEX s σ H _ I h) λus s1 ⟨vs,H1,I1,r1,q1⟩=>?_) (by rw[hs,hs2]) (by rw[hs2];rfl)));obtain⟨i,j,e,⟨q1,q2,q3,q4⟩,q⟩:=q1;subst e;cases r1 with
 |cons r rr=>
  cases rr with
  |cons r' rr=>cases rr;obtain⟨t,rfl⟩:=r;obtain⟨t',rfl⟩:=r';exact call_range_2 (aHs I1 q1 q2 q3 q4 q)
def aZ9 (wi:TI)(g:TG)(tb:TS):TS:=λD σ H=>wi σ H λJ H1=>∃W:Nat->Nat->St->Hp->Prop,(∃m,W 0 m σ H1)/\∀i m σ H,W i m σ H ->
 (J.stop i H/\D.nx σ H)\/(J.go i H/\∃N:St->Hp->Prop,(∀σ' H',N σ' H'->∃m',m'<m/\W (i+1) m' σ' H')/\∀x H',J.yld i H x H'->g x σ H' fun σ2 H2=>tb { D with nx:=N,ct:=N,bk:=D.nx } σ2 H2)
def xT (fp:List Addr)(h:Heap):bEV:=fp.filterMap λb=>(h.get? b).map λo=>(b,o)
theorem jA {fp:List Addr}{h:Heap}{b:Addr}{o:Obj}(hb:b∈fp)(e:h.get? b=some o):(b,o)∈xT fp h:=List.mem_filterMap.mpr ⟨b,hb,by rw[e];rfl⟩
theorem aOs {fp:List Addr}{h:Heap}{p:Addr × Obj}(hp:p∈xT fp h):p.1∈fp/\h.get? p.1=some p.2:=by
 obtain⟨b,hb,e⟩:=List.mem_filterMap.mp hp;cases q:h.get? b with
 |none=>rw[q] at e;cases e
 |some o=>rw[q] at e;have e':(b,o)=p:=bAQ e;subst e';exact⟨hb,q⟩
theorem Inv.pinned {bEX:bEV}{σ:St}{H:Hp}{s:Shared}{fp:List Addr}(I:Inv X bEX σ H s)(hf:∀b∈fp,sI X bEX H b)(ho:∀b∈fp,∃o,s.heap.get? b=some o/\∀v,o.data≠.cell v):Inv X (bEX++xT fp s.heap) σ H s:=
 I.aNd λp hp=>(List.mem_append.mp hp).elim (λz=>I.pin p (v8 _ z)) λz=>by obtain⟨hb,e⟩:=aOs z;obtain⟨f0,f1,f2,_⟩:=hf p.1 hb;obtain⟨o,e',d⟩:=ho p.1 hb;rw[e] at e';cases e';exact⟨e,f0,f1,f2,d⟩
theorem Inv.lD {bEX pl:bEV}{σ:St}{H:Hp}{s:Shared}(I:Inv X (bEX++pl) σ H s):Inv X bEX σ H s:=I.aNd λp hp=>I.pin p (v8 _ (bBL _ hp))
theorem aZa {iter:Expr}{body:List Stmt}{wi:TI}{g:TG}{tb:TS}{pos:Pos}(hp:PassesOwn (model X.prog X.w) X.A X.env X.xe)(hc:X.calm=true)(hi:PI X tg iter wi)(hg:PG X tg g)(hb:PSs X body tb)
  (hs:∀x,foldedSetIterable iter X.env x=pure x:=by intro _;rfl):PS X (.For tg iter body [] pos) (aZ9 wi g tb):=by
 intro bEX s σ H D I h;refine wpAny_For (thn (hi bEX s σ H _ I h) λv s1 h1=>thn h1 λitv s2 h2=>?_) hs;obtain⟨it,fp,tn,J,H2,e,I2,T,st2,f2,W,⟨m0,w0⟩,turn⟩:=h2;subst e;have stat:∀{H':Hp},(∀b∈fp,H' b=none)->∀b∈fp,sI X bEX H' b:=λhn b hb=>⟨hn b hb,(f2 b hb).2⟩;refine codeAny_forLoop_any (λn s'=>∃i σ' H',Inv X bEX σ' H' s'/\tn i s'.heap/\(∀b∈fp,H' b=none)/\W i n σ' H') ?_ m0 ⟨0,σ,H2,I2,st2,λb hb=>(f2 b hb).1,w0⟩;rintro n s3 ⟨i,σ3,H3,I3,st3,fr3,w3⟩;rcases turn i n σ3 H3 w3 with⟨stop,qn⟩|⟨go,N,hN,step⟩
 ·refine bDN hp (thn (T.done X rfl rfl rfl hc i bEX s3 σ3 H3 X.xe I3 (stat fr3) st3 stop) λr s4 ⟨hr,I4⟩=>?_);subst hr;exact bEE ⟨σ3,H3,I4,qn⟩
 ·refine bDN hp (thn (T.item X rfl rfl rfl hc i bEX s3 σ3 H3 X.xe I3 (stat fr3) st3 go) λr s4 ⟨u,hr,h4⟩=>?_);subst hr;refine bDN hp (thn h4 λ_ s5 ⟨x,H5,I5,r5,y5,st5,fr5⟩=>?_);have I5':=I5.pinned (stat fr5) (T.obj _ _ st5);refine bDN hp (thn (hg _ s5 σ3 H5 x u _ I5' r5 (step x H5 y5)) λ_ s6 ⟨σ6,H6,I6,q6⟩=>?_);refine bDN hp (thn (hb _ s6 σ6 H6 _ I6 q6) λf s7 q7=>?_);have again:∀{σ7:St} {H7:Hp},Inv X (bEX++xT fp s5.heap) σ7 H7 s7->N σ7 H7->∃m,m<n/\∃i σ' H',Inv X bEX σ' H' s7/\tn i s7.heap/\(∀b∈fp,H' b=none)/\W i m σ' H':=λ{σ7 H7} I7 n7=>by obtain⟨m',hm,w7⟩:=hN σ7 H7 n7;refine⟨m',hm,i+1,σ7,H7,I7.lD,T.keep _ _ _ st5 λb hb o e=>(I7.pin (b,o) (v8 _ (v8 _ (jA hb e)))).1,λb hb=>?_,w7⟩;obtain⟨o,e,d⟩:=T.obj _ _ st5 b hb;exact (I7.pin (b,o) (v8 _ (v8 _ (jA hb e)))).2.1
  cases f with
  |next=>obtain⟨σ7,H7,I7,n7⟩:=q7;exact again I7 n7
  |cont=>obtain⟨σ7,H7,I7,n7⟩:=q7;exact again I7 n7
  |brk=>obtain⟨σ7,H7,I7,q7⟩:=q7;exact⟨σ7,H7,I7.lD,q7⟩
  |ret v=>obtain⟨x7,σ7,H7,I7,r7,q7⟩:=q7;exact⟨x7,σ7,H7,I7.lD,r7,q7⟩
end
theorem vV {K:bET}{a:Addr}{xs:List V}{g:TG}{tb:TS}{D:Ends}{σ:St}{H:Hp}(Pv:Nat->St->Hp->Prop)(h0:Pv 0 σ H)(hl:∀i σ H,i<=xs.length->Pv i σ H->SqL K H a xs)
  (hs:∀i x σ H,xs[i]?=some x->Pv i σ H->g x σ H fun σ2 H2=>tb { D with nx:=Pv (i+1),ct:=Pv (i+1),bk:=D.nx } σ2 H2) (hd:∀σ H,Pv xs.length σ H->D.nx σ H) :
  ∃W:Nat->Nat->St->Hp->Prop,(∃m,W 0 m σ H)/\∀i m σ H,W i m σ H ->
   ((Itl K a).stop i H/\D.nx σ H)\/((Itl K a).go i H/\∃N:St->Hp->Prop,(∀σ' H',N σ' H'->∃m',m'<m/\W (i+1) m' σ' H')/\∀x H',(Itl K a).yld i H x H'->g x σ H' fun σ2 H2=>tb { D with nx:=N,ct:=N,bk:=D.nx } σ2 H2):=by
 refine⟨λi m σ H=>m=xs.length - i/\i<=xs.length/\Pv i σ H,⟨xs.length,by simp,bAJ _,h0⟩,?_⟩;rintro i m σ H ⟨rfl,hi,p⟩;have q:=hl i σ H hi p;by_cases hlt:i<xs.length
 ·refine .inr ⟨⟨xs,xs[i],q,by simp[hlt]⟩,Pv (i+1),fun σ' H' p'=>⟨xs.length - (i+1),by lia,rfl,hlt,p'⟩,λx H' y=>?_⟩;obtain⟨e,y⟩:=y;subst e;exact hs i x σ _ (y xs q) p
 ·have e:i=xs.length:=by lia
  subst e;exact .inl ⟨⟨xs,q,j6 _⟩,hd σ H p⟩
theorem aT6 {K:bET}{a:Addr}{xs:List V}{g:TG}{tb:TS}{D:Ends}{σ:St}{H:Hp}(Pv:Nat->St->Hp->Prop)(h0:Pv 0 σ H)(hl:∀i σ H,i<=xs.length->Pv i σ H->SqT K H a xs)
  (hs:∀i x σ H,xs[i]?=some x->Pv i σ H->g x σ H fun σ2 H2=>tb { D with nx:=Pv (i+1),ct:=Pv (i+1),bk:=D.nx } σ2 H2) (hd:∀σ H,Pv xs.length σ H->D.nx σ H) :
  ∃W:Nat->Nat->St->Hp->Prop,(∃m,W 0 m σ H)/\∀i m σ H,W i m σ H ->
   ((Itt K a).stop i H/\D.nx σ H)\/((Itt K a).go i H/\∃N:St->Hp->Prop,(∀σ' H',N σ' H'->∃m',m'<m/\W (i+1) m' σ' H')/\∀x H',(Itt K a).yld i H x H'->g x σ H' fun σ2 H2=>tb { D with nx:=N,ct:=N,bk:=D.nx } σ2 H2):=by
 refine⟨λi m σ H=>m=xs.length - i/\i<=xs.length/\Pv i σ H,⟨xs.length,by simp,bAJ _,h0⟩,?_⟩;rintro i m σ H ⟨rfl,hi,p⟩;have q:=hl i σ H hi p;by_cases hlt:i<xs.length
 ·refine .inr ⟨⟨xs,xs[i],q,by simp[hlt]⟩,Pv (i+1),fun σ' H' p'=>⟨xs.length - (i+1),by lia,rfl,hlt,p'⟩,λx H' y=>?_⟩;obtain⟨e,y⟩:=y;subst e;exact hs i x σ _ (y xs q) p
 ·have e:i=xs.length:=by lia
  subst e;exact .inl ⟨⟨xs,q,j6 _⟩,hd σ H p⟩
theorem gO {lo:Int}{n:Nat}{g:TG}{tb:TS}{D:Ends}{σ:St}{H:Hp}(Pv:Nat->St->Hp->Prop)(h0:Pv 0 σ H)
  (hs:∀i σ H,i<n->Pv i σ H->g (.int (lo+i)) σ H fun σ2 H2=>tb { D with nx:=Pv (i+1),ct:=Pv (i+1),bk:=D.nx } σ2 H2) (hd:∀σ H,Pv n σ H->D.nx σ H) :
  ∃W:Nat->Nat->St->Hp->Prop,(∃m,W 0 m σ H)/\∀i m σ H,W i m σ H ->
   ((Itr lo n).stop i H/\D.nx σ H)\/((Itr lo n).go i H/\∃N:St->Hp->Prop,(∀σ' H',N σ' H'->∃m',m'<m/\W (i+1) m' σ' H')/\∀x H',(Itr lo n).yld i H x H'->g x σ H' fun σ2 H2=>tb { D with nx:=N,ct:=N,bk:=D.nx } σ2 H2):=by
 refine⟨λi m σ H=>m=n - i/\i<=n/\Pv i σ H,⟨n,by simp,bAJ _,h0⟩,?_⟩;rintro i m σ H ⟨rfl,hi,p⟩;by_cases hlt:i<n
 ·refine .inr ⟨hlt,Pv (i+1),fun σ' H' p'=>⟨n - (i+1),by lia,rfl,hlt,p'⟩,λx H' y=>?_⟩;obtain⟨e,y⟩:=y;subst e y;exact hs i σ _ hlt p
 ·have e:i=n:=by lia
  subst e;exact .inl ⟨j6 _,hd σ H p⟩
abbrev R2:=V->V->Hp->VK->Prop
def OpR (X:Cx)(f:Value->Value->Sem Value)(r:R2):Prop:=
 ∀(bEX:bEV) (s:Shared) (σ:St) (H:Hp) (x y:V) (v u:Value) (Q:VK),Inv X bEX σ H s->RelV x v->RelV y u->r x y H Q ->
  wpAny (model X.prog X.w) X.A (f v u) (EP X bEX σ Q) X.xe s
def cD (X:Cx)(f:Value)(r:List V->Hp->VK->Prop):Prop:=
 ∀(bEX:bEV) (s:Shared) (σ:St) (H:Hp) (xs:List V) (us:List Value) (Q:VK),Inv X bEX σ H s->Vals xs us->r xs H Q ->
  wpAny (model X.prog X.w) X.A (call f us) (EP X bEX σ Q) X.xe s
def tOp (r:R2)(ta tb:TE):TE:=fun σ H Q=>ta σ H λx H1=>tb σ H1 λy H2=>r x y H2 Q
def rI (C:Int->Int->Prop)(g:Int->Int->V):R2:=λx y H Q=>∃i j,x=.int i/\y=.int j/\C i j/\Q (g i j) H
def rI0 (g:Int->Int->V):R2:=λx y H Q=>∃i j,x=.int i/\y=.int j/\Q (g i j) H
section
variable {X:Cx}{a b c:Expr}{ta tb tc:TE}{pos:Pos}
theorem aUt (ha:PE X a ta)(hb:PE X b tb){bEX:bEV}{s:Shared}{σ:St}{H:Hp}{R:V->V->Hp->Prop}(I:Inv X bEX σ H s)
  (h:ta σ H λx H1=>tb σ H1 λy H2=>R x y H2) {Q:bEU} {f:Value->Value->Sem Value}
  (hf:∀v u s2 x y H2,Inv X bEX σ H2 s2->RelV x v->RelV y u->R x y H2->wpAny (model X.prog X.w) X.A (f v u) Q X.xe s2) :
  wpAny (model X.prog X.w) X.A (eval a X.env) (λv s₁=>wpAny (model X.prog X.w) X.A (eval b X.env) (λu s₂=>wpAny (model X.prog X.w) X.A (f v u) Q X.xe s₂) X.xe s₁) X.xe s:=by
 refine thn (ha bEX s σ H _ I h) λv s1 ⟨x,H1,I1,r1,q1⟩=>?_;refine thn (hb bEX s1 σ H1 _ I1 q1) λu s2 ⟨y,H2,I2,r2,q2⟩=>?_;exact hf v u s2 x y H2 I2 r1 r2 q2
theorem bA0 {op:Operator}{r:R2}(ho:OpR X (binaryOp op) r)(ha:PE X a ta)(hb:PE X b tb):PE X (.BinOp a op b pos) (tOp r ta tb):=by intro bEX s σ H Q I h;exact wpAny_BinOp (aUt ha hb I h λv u s2 x y H2 I2 rx ry q=>ho bEX s2 σ H2 x y v u Q I2 rx ry q)
theorem opI {f:Value->Value->Sem Value}{C:Int->Int->Prop}{g:Int->Int->Int}
  (rule:∀(i j:Int) (t u:Tok) (s:Shared) (Q:bEU) (E:bEU),C i j->Q (.int (g i j) s.toks) { s with toks:=s.toks+1 }->wpAny (model X.prog X.w) X.A (f (.int i t) (.int j u)) Q E s) :
  OpR X f (rI C λi j=>.int (g i j)):=by
 intro bEX s σ H x y v u Q I rx ry h;obtain⟨i,j,rfl,rfl,hc,q⟩:=h;obtain⟨t,rfl⟩:=rx;obtain⟨t',rfl⟩:=ry;exact rule i j t t' s _ _ hc ⟨.int (g i j),H,I.tok _,⟨_,rfl⟩,q⟩
theorem bAh {f:Value->Value->Sem Value}{g:Int->Int->Int}
  (rule:∀(i j:Int) (t u:Tok) (s:Shared) (Q:bEU) (E:bEU),Q (.int (g i j) s.toks) { s with toks:=s.toks+1 }->wpAny (model X.prog X.w) X.A (f (.int i t) (.int j u)) Q E s) :
  OpR X f (rI0 λi j=>.int (g i j)):=by
 intro bEX s σ H x y v u Q I rx ry h;obtain⟨i,j,rfl,rfl,q⟩:=h;obtain⟨t,rfl⟩:=rx;obtain⟨t',rfl⟩:=ry;exact rule i j t t' s _ _ ⟨.int (g i j),H,I.tok _,⟨_,rfl⟩,q⟩
theorem aXp {f:Value->Value->Sem Value}{g:Int->Int->Bool}
  (rule:∀(i j:Int) (t u:Tok) (s:Shared) (Q:bEU) (E:bEU),Q (.bool (g i j)) s->wpAny (model X.prog X.w) X.A (f (.int i t) (.int j u)) Q E s) :
  OpR X f (rI0 λi j=>.bl (g i j)):=by
 intro bEX s σ H x y v u Q I rx ry h;obtain⟨i,j,rfl,rfl,q⟩:=h;obtain⟨t,rfl⟩:=rx;obtain⟨t',rfl⟩:=ry;exact rule i j t t' s _ _ ⟨.bl (g i j),H,I,rfl,q⟩
def bBh (i j:Int):Prop:=0<j/\j<1073741824
def bBb (i j:Int):Prop:=0<=j/\j<=1000000/\i.natAbs<2 ^ 64
def aZm (i j:Int):Prop:=(-(2 ^ 64)<i/\i<2 ^ 64)\/(-(2 ^ 64)<j/\j<2 ^ 64)
theorem aZm.ok {i j:Int}(h:aZm i j):IntMulOk i j:=by
 rcases h with⟨h1,h2⟩|⟨h1,h2⟩
 ·exact .of_left (intBits_le_64 h1 h2)
 ·exact .of_right (intBits_le_64 h1 h2)
theorem dG:OpR X (binaryOp .Add) (rI0 λi j=>.int (i+j)):=bAh λ_ _ _ _ _ _ _ q=>add_int q
theorem aKm:OpR X (binaryOp .Sub) (rI0 λi j=>.int (i - j)):=bAh λ_ _ _ _ _ _ _ q=>sub_int q
theorem uH:OpR X (binaryOp .Mult) (rI aZm λi j=>.int (i * j)):=opI λ_ _ _ _ _ _ _ hc q=>mul_int q hc.ok
theorem aUa:OpR X (binaryOp .FloorDiv) (rI bBh λi j=>.int (i / j)):=opI λi j _ _ _ _ _ hc q=>by have h1:(0:Int)<j:=hc.1;have h2:j<1073741824:=hc.2;exact floordiv_int (by lia) (by rw[Int.fdiv_eq_ediv_of_nonneg i (by lia)];exact q) (.inl (PyProof.noPylong_small (by lia)))
theorem oR:OpR X (binaryOp .Mod) (rI (λ_ j=>0<j) λi j=>.int (i % j)):=opI λi j _ _ _ _ _ hc q=>by have h1:(0:Int)<j:=hc;exact mod_int' (by lia) (by rw[Int.fmod_eq_emod_of_nonneg i (by lia)];exact q)
theorem aEy:OpR X (binaryOp .Pow) (rI bBb λi j=>.int (i ^ j.toNat)):=opI λ_ _ _ _ _ _ _ hc q=>pow_int_small hc.1 hc.2.1 hc.2.2 q
end
def scal:V->V->Bool
 |.non,.non=>true|.non,.int _=>true|.int _,.non=>true|.non,.bl _=>true|.bl _,.non=>true|.non,.str _=>true|.str _,.non=>true
 |.int _,.int _=>true|.bl _,.bl _=>true|.str _,.str _=>true|.byt _,.byt _=>true
 |.int _,.str _=>true|.str _,.int _=>true|.bl _,.str _=>true|.str _,.bl _=>true
 |_,_=>false
def rEq:R2:=λx y H Q=>scal x y=true/\Q (.bl (decide (x=y))) H
def rNe:R2:=λx y H Q=>scal x y=true/\Q (.bl (!decide (x=y))) H
theorem aNy {i j:Int}:decide (V.int i=V.int j)=(i == j):=by rw[bCL];simp
theorem aQw {i j:Bool}:decide (V.bl i=V.bl j)=(i == j):=by rw[bCL];simp
theorem aMy {i j:Str}:decide (V.str i=V.str j)=(i == j):=by rw[bCL];simp
theorem aMs {i j:Array UInt8}:decide (V.byt i=V.byt j)=(i.toList == j.toList):=by rw[bCL];cases i;cases j;simp
section
variable {X:Cx}{a b c:Expr}{ta tb tc:TE}{pos:Pos}
theorem bW {bEX:bEV}{σ:St}{H:Hp}{s:Shared}{Q:VK}{k k':Bool}(I:Inv X bEX σ H s)(q:Q (.bl k) H)(e:k=k'):EP X bEX σ Q (.bool k') s:=by subst e;exact⟨.bl k,H,I,rfl,q⟩
theorem eU:OpR X (compareOp .Eq) rEq:=by
 intro bEX s σ H x y v u Q I rx ry h;obtain⟨hs,q⟩:=h;cases x with
 |non=>
  cases rx;cases y with
  |non=>cases ry;exact PySem.EqNone.eq_none_none (bW I q (by simp))
  |bl j=>cases ry;exact PySem.EqNone.eq_none_bool (bW I q (by simp))
  |int j=>obtain⟨t',rfl⟩:=ry;exact PySem.EqNone.eq_none_int (bW I q (by simp))
  |str j=>obtain⟨t',rfl⟩:=ry;exact PySem.EqNone.eq_none_str (bW I q (by simp))
  |_=>exact absurd (show false=true from hs) t6
 |bl i=>
  cases rx;cases y with
  |non=>cases ry;exact PySem.EqNone.eq_bool_none (bW I q (by simp))
  |bl j=>cases ry;exact eq_bool (bW I q aQw)
  |str j=>obtain⟨t',rfl⟩:=ry;exact PySem.EqMixed.eq_bool_str (bW I q (by simp))
  |_=>exact absurd (show false=true from hs) t6
 |int i=>
  obtain⟨t,rfl⟩:=rx;cases y with
  |non=>cases ry;exact PySem.EqNone.eq_int_none (bW I q (by simp))
  |int j=>obtain⟨t',rfl⟩:=ry;exact eq_int (bW I q aNy)
  |str j=>obtain⟨t',rfl⟩:=ry;exact PySem.EqMixed.eq_int_str (bW I q (by simp))
  |_=>exact absurd (show false=true from hs) t6
 |str i=>
  obtain⟨t,rfl⟩:=rx;cases y with
  |non=>cases ry;exact PySem.EqNone.eq_str_none (bW I q (by simp))
  |bl j=>cases ry;exact PySem.EqMixed.eq_str_bool (bW I q (by simp))
  |int j=>obtain⟨t',rfl⟩:=ry;exact PySem.EqMixed.eq_str_int (bW I q (by simp))
  |str j=>obtain⟨t',rfl⟩:=ry;exact eq_str (bW I q aMy)
  |_=>exact absurd (show false=true from hs) t6
 |byt i=>
  obtain⟨t,rfl⟩:=rx;cases y with
  |byt j=>obtain⟨t',rfl⟩:=ry;exact PySem.W.eq_bytes (bW I q aMs)
  |_=>exact absurd (show false=true from hs) t6
 |_=>cases y <;> exact absurd (show false=true from hs) t6
theorem aDh:OpR X (compareOp .NotEq) rNe:=by
 intro bEX s σ H x y v u Q I rx ry h;obtain⟨hs,q⟩:=h;cases x with
 |non=>
  cases rx;cases y with
  |non=>cases ry;exact PySem.EqNone.ne_none_none (bW I q (by simp))
  |bl j=>cases ry;exact PySem.EqNone.ne_none_bool (bW I q (by simp))
  |int j=>obtain⟨t',rfl⟩:=ry;exact PySem.EqNone.ne_none_int (bW I q (by simp))
  |str j=>obtain⟨t',rfl⟩:=ry;exact PySem.EqNone.ne_none_str (bW I q (by simp))
  |_=>exact absurd (show false=true from hs) t6
 |bl i=>
  cases rx;cases y with
  |non=>cases ry;exact PySem.EqNone.ne_bool_none (bW I q (by simp))
  |bl j=>cases ry;exact ne_bool (bW I q (congrArg not aQw))
  |str j=>obtain⟨t',rfl⟩:=ry;exact PySem.EqMixed.ne_bool_str (bW I q (by simp))
  |_=>exact absurd (show false=true from hs) t6
 |int i=>
  obtain⟨t,rfl⟩:=rx;cases y with
  |non=>cases ry;exact PySem.EqNone.ne_int_none (bW I q (by simp))
  |int j=>obtain⟨t',rfl⟩:=ry;exact ne_int (bW I q (congrArg not aNy))
  |str j=>obtain⟨t',rfl⟩:=ry;exact PySem.EqMixed.ne_int_str (bW I q (by simp))
  |_=>exact absurd (show false=true from hs) t6
 |str i=>
  obtain⟨t,rfl⟩:=rx;cases y with
  |non=>cases ry;exact PySem.EqNone.ne_str_none (bW I q (by simp))
  |bl j=>cases ry;exact PySem.EqMixed.ne_str_bool (bW I q (by simp))
  |int j=>obtain⟨t',rfl⟩:=ry;exact PySem.EqMixed.ne_str_int (bW I q (by simp))
  |str j=>obtain⟨t',rfl⟩:=ry;exact ne_str (bW I q (congrArg not aMy))
  |_=>exact absurd (show false=true from hs) t6
 |byt i=>
  obtain⟨t,rfl⟩:=rx;cases y with
  |byt j=>obtain⟨t',rfl⟩:=ry;exact PySem.W.ne_bytes (bW I q (congrArg not aMs))
  |_=>exact absurd (show false=true from hs) t6
 |_=>cases y <;> exact absurd (show false=true from hs) t6
theorem aS8:OpR X (compareOp .Lt) (rI0 λi j=>.bl (decide (i<j))):=aXp λ_ _ _ _ _ _ _ q=>lt_int q
theorem zU:OpR X (compareOp .LtE) (rI0 λi j=>.bl (decide (i<=j))):=aXp λ_ _ _ _ _ _ _ q=>le_int q
theorem bAe:OpR X (compareOp .Gt) (rI0 λi j=>.bl (decide (j<i))):=aXp λ_ _ _ _ _ _ _ q=>gt_int q
theorem aPn:OpR X (compareOp .In) (λx y H Q=>∃i j,x=.str i/\y=.str j/\Q (.bl (!(Builtin.Str.occurrences j i 0 j.length 1).isEmpty)) H):=by intro bEX s σ H x y v u Q I rx ry h;obtain⟨i,j,rfl,rfl,q⟩:=h;obtain⟨t,rfl⟩:=rx;obtain⟨t',rfl⟩:=ry;exact in_str (bW I q rfl)
theorem aXg:OpR X (compareOp .Is) (λx y H Q=>y=.non/\Q (.bl (decide (x=.non))) H):=by
 intro bEX s σ H x y v u Q I rx ry h;obtain⟨rfl,q⟩:=h;cases ry;refine is_none_gen (bW I q ?_);cases x <;> first
  |(cases rx;rfl)
  |(obtain⟨t,rfl⟩:=rx;rfl)
theorem aEb:OpR X (compareOp .IsNot) (λx y H Q=>y=.non/\Q (.bl (!decide (x=.non))) H):=by
 intro bEX s σ H x y v u Q I rx ry h;obtain⟨rfl,q⟩:=h;cases ry;refine isnot_none_gen (bW I q ?_);cases x <;> first
  |(cases rx;rfl)
  |(obtain⟨t,rfl⟩:=rx;rfl)
theorem OpR.or {f:Value->Value->Sem Value}{r r':R2}(h:OpR X f r)(h':OpR X f r'):OpR X f (λx y H Q=>r x y H Q\/r' x y H Q):=by
 intro bEX s σ H x y v u Q I rx ry q;rcases q with q|q
 ·exact h bEX s σ H x y v u Q I rx ry q
 ·exact h' bEX s σ H x y v u Q I rx ry q
theorem bF (b:Expr){op:CmpOp}(h:op≠.In:=by decide)(h2:op≠.NotIn:=by decide):behindInMarks op b=false:=by
 have e1:(op == CmpOp.In)=false:=by cases op <;> first|rfl|exact absurd rfl h
 have e2:(op == CmpOp.NotIn)=false:=by cases op <;> first|rfl|exact absurd rfl h2
 cases b <;> simp[behindInMarks,e1,e2]
theorem aVo {op:CmpOp}{r:R2}(ho:OpR X (compareOp op) r)(ha:PE X a ta)(hb:PE X b tb)(hm:behindInMarks op b=false):PE X (.Compare a [op] [b] pos) (tOp r ta tb):=by intro bEX s σ H Q I h;exact wpAny_Compare1 (aUt ha hb I h λv u s2 x y H2 I2 rx ry q=>ho bEX s2 σ H2 x y v u Q I2 rx ry q) hm
def aMh (t:TE):TT:=fun σ H Q=>t σ H λx H'=>∃k,x=.bl k/\Q k H'
theorem aUz {op:CmpOp}{r:R2}(ho:OpR X (compareOp op) r)(ha:PE X a ta)(hb:PE X b tb)(hm:behindInMarks op b=false):PT X (.Compare a [op] [b] pos) (aMh (tOp r ta tb)):=by
 intro bEX s σ H Q I h;refine wpAny_isTrue_Compare1 (thn (ha bEX s σ H _ I h) λv s1 ⟨x,H1,I1,r1,q1⟩=>thn (hb bEX s1 σ H1 _ I1 q1) λu s2 ⟨y,H2,I2,r2,q2⟩=>
  thn (ho bEX s2 σ H2 x y v u _ I2 r1 r2 q2) λc s3 ⟨z,H3,I3,r3,k,e,q3⟩=>?_) hm
 subst e;cases r3;exact bBK ⟨H3,I3,q3⟩
def aD9 (r r':R2)(ta tb tc:TE):TE:=fun σ H Q=>ta σ H λx H1=>tb σ H1 λy H2=>r x y H2 λz H3=>∃k,z=.bl k /\
 (if k=true then tc σ H3 λw' H4=>r' y w' H4 Q else Q (.bl false) H3)
theorem aRq {op op':CmpOp}{r r':R2}(ho:OpR X (compareOp op) r)(ho':OpR X (compareOp op') r')(ha:PE X a ta)(hb:PE X b tb)(hc:PE X c tc)
  (hm:lastMarks [op,op'] [b,c]=false:=by with_unfolding_all rfl):PE X (.Compare a [op,op'] [b,c] pos) (aD9 r r' ta tb tc):=by
 intro bEX s σ H Q I h;refine Compare_chain (thn (ha bEX s σ H _ I h) λv s1 ⟨x,H1,I1,r1,q1⟩=>chain_link (thn (hb bEX s1 σ H1 _ I1 q1) λu s2 ⟨y,H2,I2,r2,q2⟩=>
  thn (ho bEX s2 σ H2 x y v u _ I2 r1 r2 q2) λd s3 ⟨z,H3,I3,r3,k,e,q3⟩=>?_)) hm
 subst e;cases r3;refine bBK ?_;cases k with
 |false=>exact ite_ff ⟨.bl false,H3,I3,rfl,q3⟩
 |true=>exact ite_tt (chain_last (thn (hc bEX s3 σ H3 _ I3 q3) λw' s4 ⟨z',H4,I4,r4,q4⟩=>ho' bEX s4 σ H4 y z' u w' Q I4 r2 r4 q4))
theorem aRy {op op':CmpOp}{r r':R2}(ho:OpR X (compareOp op) r)(ho':OpR X (compareOp op') r')(ha:PE X a ta)(hb:PE X b tb)(hc:PE X c tc)
  (hm:lastMarks [op,op'] [b,c]=false:=by with_unfolding_all rfl):PT X (.Compare a [op,op'] [b,c] pos) (aMh (aD9 r r' ta tb tc)):=by
 intro bEX s σ H Q I h;refine isTrue_chain (thn (ha bEX s σ H _ I h) λv s1 ⟨x,H1,I1,r1,q1⟩=>test_link (thn (hb bEX s1 σ H1 _ I1 q1) λu s2 ⟨y,H2,I2,r2,q2⟩=>
  thn (ho bEX s2 σ H2 x y v u _ I2 r1 r2 q2) λd s3 ⟨z,H3,I3,r3,k,e,q3⟩=>?_)) hm
 subst e;cases r3;refine bBK ?_;cases k with
 |false=>obtain⟨k',e',q'⟩:=q3;cases e';exact ite_ff ⟨H3,I3,q'⟩
 |true=>refine ite_tt (test_last (thn (hc bEX s3 σ H3 _ I3 q3) λw' s4 ⟨z',H4,I4,r4,q4⟩=>thn (ho' bEX s4 σ H4 y z' u w' _ I4 r2 r4 q4) λd' s5 ⟨z2,H5,I5,r5,k2,e2,q5⟩=>?_));subst e2;cases r5;exact bBK ⟨H5,I5,q5⟩
theorem aBw:(sizeLine:Nat)<2 ^ 63:=by rw[sizeLine_eq];decide
theorem oX:OpR X (binaryOp .Add) (λx y H Q=>∃i j,x=.str i/\y=.str j/\i.length+j.length<=sizeLine/\Q (.str (i++j)) H):=by intro bEX s σ H x y v u Q I rx ry h;obtain⟨i,j,rfl,rfl,hz,q⟩:=h;obtain⟨t,rfl⟩:=rx;obtain⟨t',rfl⟩:=ry;exact add_str (λt' tk=>⟨.str (i++j),H,I.tok _,⟨_,rfl⟩,q⟩) hz
def aHt (b:Expr):Prop:=∀o i,subscripted b false o i=operate [o,i] (getItem o i)
theorem aJb (ha:PE X a ta)(hb:PE X b tb)(hs:aHt b) :
  PE X (.Subscript a b pos) (tOp (λx y H Q=>∃z i c,x=.str z/\y=.int i/\0<=i/\i<2 ^ 63/\i<z.length/\z.cps[i.toNat]?=some c/\Q (.str ⟨#[c]⟩) H) ta tb):=by
 intro bEX s σ H Q I h;refine Subscript_ (aUt ha hb I h λv u s2 x y H2 I2 rx ry q=>?_);obtain⟨z,i,c,rfl,rfl,h0,h63,h1,hc,q⟩:=q;obtain⟨t,rfl⟩:=rx;obtain⟨t',rfl⟩:=ry;have e:seqIndex? i z.length=some i.toNat:=PySem.StrLaws.seqIndex_nonneg h0 h1;exact tail_any (typeIs_str s2 z t) slot_str_getitem.lookup (getItem_str (c:=c) (by have e1:decide (i < -(2 ^ 63:Int))=false:=w6 (by lia);have e2:decide (i ≥ 2 ^ 63)=false:=w6 (by lia);rw[e1,e2] <;> rfl) (by rw[e];exact hc) ⟨.str ⟨#[c]⟩,H2,I2.tok _,⟨_,rfl⟩,q⟩) (hs _ _)
theorem vals1 {x:V}{us:List Value}(r:Vals [x] us):∃u,us=[u]/\RelV x u:=by
 cases r with
 |cons r1 r2=>cases r2;exact⟨_,rfl,r1⟩
theorem vals2 {x y:V}{us:List Value}(r:Vals [x,y] us):∃u w',us=[u,w']/\RelV x u/\RelV y w':=by
 cases r with
 |cons r1 r2=>
  cases r2 with
  |cons r3 r4=>cases r4;exact⟨_,_,rfl,r1,r3⟩
theorem aD0:cD X (.type "int") (λxs H Q=>(∃i,xs=[.int i]/\Q (.int i) H)\/∃k,xs=[.bl k]/\Q (.int (if k then 1 else 0)) H):=by
 intro bEX s σ H xs us Q I r h;rcases h with⟨i,rfl,q⟩|⟨k,rfl,q⟩
 ·obtain⟨u,rfl,t,rfl⟩:=vals1 r;exact call_int_int ⟨.int i,H,I,⟨_,rfl⟩,q⟩
 ·obtain⟨u,rfl,r1⟩:=vals1 r;cases r1;exact call_int_bool ⟨.int (if k then 1 else 0),H,I.tok _,⟨_,rfl⟩,q⟩
end
structure aK0 (h:Heap)(x dx C:Addr)(mA:bEW):Prop where
 obj:h.get? x=some (PySem.W.instObj C dx)
 ns:h.Ns1 dx mA
 ne:dx≠x
theorem aOn {h:Heap}{dx:Addr}{mA:bEW}(n:h.Ns1 dx mA):∃od,h.get? dx=some od/\∀name,PySem.W.lookIn name od=some (mA name):=by
 obtain⟨o,es,ep,ho,hd,hk,_,hm⟩:=n;refine⟨o,ho,λname=>?_⟩;have e:=hm name;unfold nsFind findBy at e;rw[<-Array.find?_toList] at e;unfold PySem.W.lookIn;rw[hd];dsimp only
 split
 ·rename_i y q;rw[q] at e;exact congrArg some e
 ·rename_i q;rw[q] at e;have a:es.toList.any (·.refKey)=false:=by rw[List.any_eq_false];intro y hy;obtain⟨z,t,hkey⟩:=hk y (Array.mem_toList_iff.mp hy);simp[DictEntry.refKey,hkey]
  have a':¬ es.toList.any (·.refKey)=true:=by rw[a];exact t6
  rw[if_neg a'];exact congrArg some e
theorem aK0.look {h:Heap}{x dx C:Addr}{mA:bEW}(I:aK0 h x dx C mA):∃od,PySem.W.InstAt h x (PySem.W.instObj C dx) C (some od)/\∀name,PySem.W.lookIn name od=some (mA name):=
 let ⟨od,ho,hl⟩:=aOn I.ns
 ⟨od,⟨I.obj,rfl,rfl,ho⟩,hl⟩
section
variable {prog:Program}{w:World}{A:Around}{E:bEU}{s:Shared}{K:bET}{x dx C f:Addr}{mA:bEW}{name:Str}{v:Value}
theorem aU8 {expr:Bool}{Q:bEU}(X:K.In s.heap)(I:aK0 s.heap x dx C mA)(hg:PySem.W.plainGet K C name=true)(hh:PySem.W.hasDictIn K C=true)
  (ha:PySem.W.findIn K (.ref C) name=some none) (hv:mA name=some v) (hv':PySem.W.handedIn v=true) (h:Q v { s with toks:=s.toks+1 }) :
  wpAny (model prog w) A (getAttr (.ref x) name expr) Q E s:=by
 obtain⟨od,J,hl⟩:=I.look;exact PySem.W.get_value X J (PySem.W.plainGet_of hg).1 (PySem.W.findObj_own hh ha rfl (by rw[hl,hv])) hv' h
theorem aSh {pl:Sem Bool}{Q:Value × List Value->Shared->Prop}(X:K.In s.heap)(I:aK0 s.heap x dx C mA)(hg:PySem.W.plainGet K C name=true)
  (hf:PySem.W.findIn K (.ref C) name=some (some (.ref f))) (ht:PySem.W.isFn K (.ref f)=true) (hv:mA name=none) (h:Q (.ref f,[.ref x]) s) :
  wpAny (model prog w) A (getMethod (.ref x) name pl) Q E s:=by
 obtain⟨od,J,hl⟩:=I.look;exact PySem.W.method_fn X J (PySem.W.plainGet_of hg).1 (PySem.W.plainGet_of hg).2 hf (beq_iff_eq.mp ht) (by show (PySem.W.lookIn name od).map (·.isSome)=some false;rw[hl,hv];rfl) h
theorem aV7 {ns:List Str}{Q:Unit->Shared->Prop}(X:K.In s.heap)(I:aK0 s.heap x dx C mA)
  (hs:PySem.W.findIn K (.ref C) "__setattr__"=some (some (.builtin "object.__setattr__"))) (hp:PySem.W.plainOver K C=true) (ht:PySem.W.takerIn K C name=some none) (hh:PySem.W.hasDictIn K C=true)
  (hw:PySem.Within mA ns) (hsz:ns.length<=sizeLine)
  (h:∀h',aK0 h' x dx C (λy=>if y=name then some v else mA y)->Heap.SameBut dx s.heap h'->Q () { s with heap:=h',toks:=s.toks+2 }) :
  wpAny (model prog w) A (setAttr (.ref x) name v) Q E s:=by
 obtain⟨od,J,hl⟩:=I.look;refine PySem.W.set_plain X J hs (PySem.W.osa_open (s:={ s with toks:=s.toks+1 }) (r:=none) X J hp ht λb=>?_);obtain⟨cd,hc,hd'⟩:=PySem.W.any_some hh;have hx:s.heap.get? x=some ⟨.ref C,some dx,.plain,#[]⟩:=I.obj;refine c7 (j4 (c7 (c7 (wpAny_loadPart hx (c7 (PySem.W.Looks.here (s:={ s with toks:=s.toks+1 }) (PySem.W.looks_clsIn X hc) ?_))))));rw[hd'];refine j4 (a:=some dx) (c7 (j4 (c7 ?_)));refine wpAny_nsSet1 (s:={ s with toks:=s.toks+1 }) I.ns λh' hn2 hs2=>?_;obtain⟨oD,esD,epD,hoD,hdD,hcD⟩:=hn2.count (PySem.Within.cons name v hw);refine c7 (wpAny_lookBehind hoD (by rw[hdD];exact pastItsLine_dict (bAP hcD (by rw[v5];lia))) ?_);exact j4 (h _ ⟨(hs2.2 _ (Ne.symm I.ne)).trans I.obj,hn2,I.ne⟩ hs2)
theorem aQa {R:Result->Shared->Prop}{vs:List Value}{kw:List (Str × Value)}(X:K.In s.heap)(hm:PySem.W.makesIn K C=true)
  (hi:PySem.W.findIn K (.ref C) "__init__"=some (some (.ref f))) (hf:PySem.W.typeIn K (.ref f)=some (.type "function"))
  (h:codeAny (model prog w) (A.under (.builtin "type.__call__" ⟨.ref C::vs,kw⟩)) (.call (.ref f) ⟨.ref (s.heap.objs.size+1)::vs,kw⟩) (PySem.W.InitBack (s.heap.objs.size+1) R)
   { s with heap:=(s.heap.push PySem.W.emptyDict).push (PySem.W.instObj C s.heap.objs.size) }) :
  codeAny (model prog w) A (.call (.ref C) ⟨vs,kw⟩) R s:=by
 obtain⟨hh,g,d,t,os⟩:=s;exact PySem.W.make_core (PySem.W.makes_of X hm) (PySem.W.looks_findIn X hi) (λself=>PySem.W.bind_fn X self hf) (.inl rfl) h
end
def iZ (f:Str)(v:V):List (Str × V)->List (Str × V)
 |[]=>[(f,v)]
 |(g,x)::r=>if g=f then (g,v)::r else (g,x)::iZ f v r
theorem yF (f g:Str)(v:V):∀fs:List (Str × V),(iZ f v fs).lookup g=if g=f then some v else fs.lookup g
 |[]=>by
  show List.lookup g [(f,v)]=_;by_cases h:g=f
  ·have hb:(g == f)=true:=beq_iff_eq.mpr h;simp only[List.lookup,hb,if_pos h]
  ·have hb:(g == f)=false:=beq_eq_false_iff_ne.mpr h;simp only[List.lookup,hb,if_neg h]
 |(k,x)::r=>by
  have ih:=yF f g v r;rw[show iZ f v ((k,x)::r)=(if k=f then (k,v)::r else (k,x)::iZ f v r) from rfl];by_cases hk:k=f
  ·rw[if_pos hk];by_cases h:g=k
   ·have hb:(g == k)=true:=beq_iff_eq.mpr h;simp only[List.lookup,hb,if_pos (h.trans hk)]
   ·have hb:(g == k)=false:=beq_eq_false_iff_ne.mpr h;simp only[List.lookup,hb,if_neg (λe:g=f=>h (e.trans hk.symm))]
  ·rw[if_neg hk];by_cases h:g=k
   ·have hb:(g == k)=true:=beq_iff_eq.mpr h;simp only[List.lookup,hb,if_neg (λe:g=f=>hk (h.symm.trans e))]
   ·have hb:(g == k)=false:=beq_eq_false_iff_ne.mpr h;simp only[List.lookup,hb];exact ih
theorem wZ (f:Str)(v:V):∀fs:List (Str × V),f∈(iZ f v fs).map (·.1)/\∀g,g∈fs.map (·.1)->g∈(iZ f v fs).map (·.1)
 |[]=>⟨by simp[iZ],λg h=>by simp at h⟩
 |(k,x)::r=>by
  obtain⟨i1,i2⟩:=wZ f v r;rw[show iZ f v ((k,x)::r)=(if k=f then (k,v)::r else (k,x)::iZ f v r) from rfl];by_cases hk:k=f
  ·rw[if_pos hk];subst hk;exact⟨by simp,λg h=>by simpa using h⟩
  ·rw[if_neg hk];refine⟨?_,λg h=>?_⟩
   ·rw[bAM];exact j8 _ i1
   ·rw[bAM] at h ⊢;rcases List.mem_cons.mp h with e|e
    ·exact List.mem_cons.mpr (.inl e)
    ·exact j8 _ (i2 g e)
theorem yE (f:Str)(v:V):∀fs:List (Str × V),(iZ f v fs).length<=fs.length+1
 |[]=>by simp[iZ]
 |(k,x)::r=>by
  have ih:=yE f v r;rw[show iZ f v ((k,x)::r)=(if k=f then (k,v)::r else (k,x)::iZ f v r) from rfl];by_cases hk:k=f
  ·rw[if_pos hk,v5,v5];lia
  ·rw[if_neg hk,v5,v5];lia
theorem mW.some_of {v:V}{o:Option Value}(r:mW (some v) o):∃u,o=some u/\RelV v u:=by
 cases o with
 |none=>exact (show False from r).elim
 |some u=>exact⟨u,rfl,r⟩
theorem mW.none_of {o:Option Value}(r:mW none o):o=none:=by
 cases o with
 |none=>rfl
 |some u=>exact (show False from r).elim
theorem aOw {v:V}{u:Value}(r:RelV v u):PySem.W.handedIn u=true:=by
 cases v with
 |non=>cases (show u=Value.none from r);rfl
 |bl b=>cases (show u=Value.bool b from r);rfl
 |int i=>obtain⟨t,e⟩:=(show ∃t,u=Value.int i t from r);cases e;rfl
 |str x=>obtain⟨t,e⟩:=(show ∃t,u=Value.str x t from r);cases e;rfl
 |byt b=>obtain⟨t,e⟩:=(show ∃t,u=Value.bytes b t from r);cases e;rfl
 |flt b=>obtain⟨t,e⟩:=(show ∃t,u=Value.float b t from r);cases e;rfl
 |ref a=>cases (show u=Value.ref a from r);rfl
 |ty n=>cases (show u=Value.type n from r);rfl
section
variable {P:Program}{w:World}{H H':Hp}{h h':Heap}{a C dx:Addr}{fs fs':List (Str × V)}
theorem aEi (hok:HOk P w H h)(e:H a=some (.ins C dx fs)):∃mA,aK0 h a dx C mA/\(∀f,mW (fs.lookup f) (mA f))/\PySem.Within mA (fs.map (·.1))/\fs.length<=1000/\H dx=some (.own a):=by obtain⟨d,z,ne,ob,mA,n,r,q⟩:=(show cU P w H h a (.ins C dx fs) from hok a _ e);exact⟨mA,⟨ob,n,ne⟩,r,q,z,d⟩
end
structure Cls (K:bET)(C:Addr):Prop where
 pg:PySem.W.plainGet K C Str.empty=true
 hd:PySem.W.hasDictIn K C=true
 po:PySem.W.plainOver K C=true
 sa:PySem.W.findIn K (.ref C) "__setattr__"=some (some (.builtin "object.__setattr__"))
theorem Cls.get {K:bET}{C:Addr}(c:Cls K C)(f:Str):PySem.W.plainGet K C f=true:=c.pg
def bR (K:bET)(C:Addr)(f:Str):Prop:=PySem.W.findIn K (.ref C) f=some none
theorem bR.taker {K:bET}{C:Addr}{f:Str}(n:bR K C f):PySem.W.takerIn K C f=some none:=by unfold PySem.W.takerIn;rw[show PySem.W.findIn K (.ref C) f=some none from n];rfl
structure Meth (K:bET)(C:Addr)(m:Str)(f:Addr):Prop where
 at_:PySem.W.findIn K (.ref C) m=some (some (.ref f))
 fn:PySem.W.isFn K (.ref f)=true
 kp:PySem.W.keepIn K (.ref f)=true
section
variable {X:Cx}{bEX:bEV}{σ:St}{H:Hp}{s:Shared}{a C dx:Addr}{fs:List (Str × V)}{f:Str}{v:V}{A:Around}{E:bEU}
theorem aMe {b:Bool}{Q:bEU}(I:Inv X bEX σ H s)(e:H a=some (.ins C dx fs))(c:Cls X.K C)(n:bR X.K C f)(l:fs.lookup f=some v)
  (h:∀u s',Inv X bEX σ H s'->RelV v u->Q u s'):wpAny (model X.prog X.w) A (getAttr (.ref a) f b) Q E s:=by
 obtain⟨mA,O,r,_,_,_⟩:=aEi I.hok e;obtain⟨u,hu,ru⟩:=mW.some_of (v:=v) (o:=mA f) (by rw[<-l];exact r f);exact aU8 I.kIn O (c.get f) c.hd n hu (aOw ru) (h u _ (I.tok _) ru)
theorem uK {m:Str}{g:Addr}{pl:Sem Bool}{Q:Value × List Value->Shared->Prop}(I:Inv X bEX σ H s)(e:H a=some (.ins C dx fs))(c:Cls X.K C)(k:Meth X.K C m g)(l:fs.lookup m=none)
  (h:Q (.ref g,[.ref a]) s):wpAny (model X.prog X.w) A (getMethod (.ref a) m pl) Q E s:=by
 obtain⟨mA,O,r,_,_,_⟩:=aEi I.hok e;have hn:mA m=none:=mW.none_of (by rw[<-l];exact r m);exact aSh I.kIn O (c.get m) k.at_ k.fn hn h
theorem aL2 {y:V}{u:Value}{Q:Unit->Shared->Prop}(I:Inv X bEX σ H s)(e:H a=some (.ins C dx fs))(c:Cls X.K C)(n:bR X.K C f)(hl:fs.length<1000)(ry:RelV y u)
  (h:∀s',Inv X bEX σ (upd H a (.ins C dx (iZ f y fs))) s'->Q () s'):wpAny (model X.prog X.w) A (setAttr (.ref a) f u) Q E s:=by
 obtain⟨mA,O,r,wi,_,ho⟩:=aEi I.hok e;have hz:(fs.map (·.1)).length<=sizeLine:=by rw[j9,sizeLine_eq];lia
 refine aV7 I.kIn O c.sa c.po n.taker c.hd wi hz λh' O' sb=>h _ ?_;have hd:∃o,h'.get? dx=some o:=let ⟨o,_,_,e',_⟩:=O'.ns;⟨o,e'⟩
 refine I.write (x:=a) (e:=dx) (by rw[e];exact True.intro) (.inr ho) (λb q hb z=>(sb.2 b hb).trans z) hd ?_;refine⟨by rw[aK O.ne];exact ho,?_,O.ne,O'.obj,_,O'.ns,λg=>?_,λg hg=>?_⟩
 ·have:=yE f y fs;lia
 ·show mW ((iZ f y fs).lookup g) (if g=f then some u else mA g);rw[yF];by_cases q:g=f
  ·rw[if_pos q,if_pos q];exact ry
  ·rw[if_neg q,if_neg q];exact r g
 ·by_cases q:g=f
  ·rw[q];exact (wZ f y fs).1
  ·refine (wZ f y fs).2 g (wi g λz=>hg ?_);show (if g=f then some u else mA g)=none;rw[if_neg q];exact z
theorem Inv.made (I:Inv X bEX σ H s):Inv X bEX σ (upd (upd H s.heap.objs.size (.own (s.heap.objs.size+1))) (s.heap.objs.size+1) (.ins C s.heap.objs.size []))
  { s with heap:=(s.heap.push PySem.W.emptyDict).push (PySem.W.instObj C s.heap.objs.size) }:=by
 have e1:(s.heap.push PySem.W.emptyDict).get? s.heap.objs.size=some PySem.W.emptyDict:=j5 s.heap rfl;have e2:((s.heap.push PySem.W.emptyDict).push (PySem.W.instObj C s.heap.objs.size)).get? (s.heap.objs.size+1)=some (PySem.W.instObj C s.heap.objs.size):=by
  have:=j5 (s.heap.push PySem.W.emptyDict) (o:=PySem.W.instObj C s.heap.objs.size) rfl
  rwa [bAW] at this
 have e3:(s.heap.push PySem.W.emptyDict).Ns s.heap.objs.size (λ_=>none):=⟨PySem.W.emptyDict,#[],_,e1,rfl,(λe he=>absurd he (by simp)),λ_=>rfl⟩;have I1:=I.laid (a:=s.heap.objs.size) (o:=.own (s.heap.objs.size+1)) (h':=s.heap.push PySem.W.emptyDict) (t':=s.toks) (λb u q=>j0 _ q) (j6 _) ⟨_,e1⟩;refine I1.laid (a:=s.heap.objs.size+1) (o:=.ins C s.heap.objs.size []) (t':=s.toks) (λb u q=>j0 _ q) (bEI (bAW _ _)) ?_;have ne:s.heap.objs.size≠s.heap.objs.size+1:=t7 (bCO _);refine⟨by rw[aK ne,aJ],bAJ _,ne,e2,λ_=>none,(Heap.Ns1.of_empty e3).at λo q=>j0 _ q,λ_=>True.intro,λy hy=>absurd rfl hy⟩
theorem aTq {prog:Program}{w:World}{env:Env}{e:Expr}{f:Str}{pos:Pos}{s:Shared}{Q:bEU}(hb:attributeBase e f env (eval e env)=eval e env)
  (h:wpAny (model prog w) A (eval e env) (λo s₁=>wpAny (model prog w) A (getAttr o f true) Q E s₁) E s):wpAny (model prog w) A (eval (.Attribute e f pos) env) Q E s:=
 Attribute_any_ h (by rw[arm_eval_Attribute,hb])
end
def bAk (K:bET)(ta:TE)(f:Str):TE:=fun σ H Q=>ta σ H λx H1=>∃a C dx fs v,x=.ref a/\H1 a=some (.ins C dx fs)/\Cls K C/\bR K C f/\fs.lookup f=some v/\Q v H1
def bAq (K:bET)(ta tv:TE)(f:Str):TS:=λD σ H=>tv σ H λy H1=>ta σ H1 λx H2=>∃a C dx fs,x=.ref a/\H2 a=some (.ins C dx fs)/\Cls K C/\bR K C f/\fs.length<1000 /\
 D.nx σ (upd H2 a (.ins C dx (iZ f y fs)))
section
variable {X:Cx}{o e value:Expr}{f:Str}{pos pos' tpos:Pos}{ta tv:TE}
theorem aX4 (he:PE X e ta)(hb:attributeBase e f X.env (eval e X.env)=eval e X.env):PE X (.Attribute e f pos) (bAk X.K ta f):=by intro bEX s σ H Q I h;refine aTq hb (thn (he bEX s σ H _ I h) λu s1 ⟨x,H1,I1,rx,a,C,dx,fs,v,ex,ea,c,n,l,q⟩=>?_);subst ex;obtain rfl:u=Value.ref a:=rx;exact aMe I1 ea c n l λu' s2 I2 ru=>⟨v,H1,I2,ru,q⟩
theorem aYa (ha:PE X o ta)(hv:PE X value tv)(hs:swapsWith value (some (.Attribute o f pos')) pos.line X.env=pure false):PS X (.Assign [.Attribute o f pos'] value pos) (bAq X.K ta tv f):=by intro bEX s σ H D I h;refine plainObj_wpAny_Assign_Attribute (thn (hv bEX s σ H _ I h) λu s1 ⟨y,H1,I1,ry,q⟩=>thn (ha bEX s1 σ H1 _ I1 q) λov s2 ⟨x,H2,I2,rx,a,C,dx,fs,ex,ea,c,n,l,q2⟩=>?_) hs;subst ex;obtain rfl:ov=Value.ref a:=rx;exact aL2 I2 ea c n l ry λs3 I3=>⟨σ,_,I3,q2⟩
end
section
variable {X:Cx}{bEX:bEV}{σ:St}{H:Hp}{s:Shared}{A:Around}{E:bEU}{Q:bEU}{c:Value}{b:Bool}
end
structure Room (k:Nat)(A:Around):Prop where
 hd:A.handled=none
 dp:A.depth+3 * k+5<recursionLimit
 un:A.units+16 * k+200<cLine
theorem Room.mono {j k:Nat}{A:Around}(r:Room k A)(h:j<=k):Room j A:=⟨r.hd,by have:=r.dp;lia,by have:=r.un;lia⟩
theorem Room.deeper {k:Nat}{A:Around}(r:Room (k+1) A)(env:Env):Room k (A.deeper env):=
 ⟨r.hd,by have:=r.dp;show A.depth+1+3 * k+5<_;lia,by have:=r.un;show A.units+3+16 * k+200<_;lia⟩
theorem aK7 {A:Around}{C:Addr}{us:List Value}{kw:List (Str × Value)}:(A.under (.builtin "type.__call__" ⟨.ref C::us,kw⟩)).depth=A.depth+1:=by
 first|rfl|simp[Around.under,Code.weight,Code.isCreation,Code.isGuard,Code.isCaller,Code.frames,Code.isFrame,guardIds]
theorem aJ6 {A:Around}{C:Addr}{us:List Value}{kw:List (Str × Value)}:(A.under (.builtin "type.__call__" ⟨.ref C::us,kw⟩)).units=A.units+1:=by
 first|rfl|simp[Around.under,Code.cUnits,Code.frames,Code.isFrame]
theorem Room.make {k:Nat}{A:Around}(r:Room (k+1) A)(C:Addr)(us:List Value)(kw:List (Str × Value)):Room k (A.under (.builtin "type.__call__" ⟨.ref C::us,kw⟩)):=
 ⟨r.hd,by have:=r.dp;rw[aK7];lia,by have:=r.un;rw[aJ6];lia⟩
theorem Room.depth {k:Nat}{A:Around}(r:Room k A):A.depth<recursionLimit:=by have:=r.dp;lia
theorem Room.units {k:Nat}{A:Around}(r:Room k A):A.units+64<cLine:=by have:=r.un;lia
def aAr:TA:=λ_ H Q=>Q [] H
def dR (ta:TE)(tr:TA):TA:=fun σ H Q=>ta σ H λx H1=>tr σ H1 λxs H2=>Q (x::xs) H2
section
variable {X:Cx}{e:Expr}{es:List Expr}{te:TE}{t:TA}{pos:Pos}
theorem aRu:PA X [] aAr:=λ_ _ _ _ H Q I h=>bDW ⟨[],H,I,.nil,h⟩
theorem aVf (ha:PE X e te)(hr:PA X es t)(hs:starEach (e::es) X.env=(false,eval e X.env)::starEach es X.env:=by rfl):PA X (e::es) (dR te t):=by intro pos bEX s σ H Q I h;rw[hs];show wpAny _ _ (spliced ((false,eval e X.env)::backTo pos (starEach es X.env))) _ _ s;refine bB1 (thn (ha bEX s σ H _ I h) λu s1 ⟨x,H1,I1,r1,q1⟩=>?_);exact thn (hr pos bEX s1 σ H1 _ I1 q1) λus s2 ⟨xs,H2,I2,r2,q2⟩=>⟨x::xs,H2,I2,.cons r1 r2,q2⟩
end
abbrev Sp:=List V->Hp->VK->XK->Prop
abbrev CXT:=List Env->Hp->Shared->XK->Value->Shared->Prop
structure aEq (P:Program)(w:World)(K:bET)(mg:bEW)(base:Heap)(A:Around)(outer:List Env)(s:Shared)(H:Hp):Prop where
 frames:A.frames=some outer
 mod:Mod K mg base
 bs:∀b o,base.get? b=some o->s.heap.get? b=some o/\H b=none
 bsz:base.objs.size<=s.heap.objs.size
 funs:s.heap.FunFrames base outer
 frf:∀b∈frs outer,H b=none
 hok:HOk P w H s.heap
 bare:AllBare s.gens
def CE (outer:List Env)(P:Program)(w:World)(H:Hp)(s:Shared)(Q:VK)(u:Value)(s':Shared):Prop:=
 ∃v H',s'.os=s.os/\AllBare s'.gens/\Un (frs outer) [] H H' s.heap s'.heap/\HOk P w H' s'.heap/\RelV v u/\Q v H'
def CR (CX:CXT)(outer:List Env)(P:Program)(w:World)(H:Hp)(s:Shared)(Q:VK)(E:XK)(r:Result)(s':Shared):Prop:=
 match r with
 |.ok (.ret u)=>CE outer P w H s Q u s'
 |.ok _=>False
 |.error e=>CX outer H s E e s'
structure fQ (P:Program)(w:World)(K:bET)(mg:bEW)(base:Heap)(CX:CXT)(k:Nat)(f:Addr)(fd:FuncData)(ps:List Str)(sp:Sp):Prop where
 len:∀vs H Q E,sp vs H Q E->vs.length=ps.length
 run:∀(A:Around) (outer:List Env) (s:Shared) (H:Hp) (args:Args) (us:List Value) (vs:List V) (Q:VK) (E:XK),Room k A->aEq P w K mg base A outer s H->BindsTo s fd args (ps.zip us)->Vals vs us->sp vs H Q E ->
  codeAny (model P w) A (.call (.ref f) args) (CR CX outer P w H s Q E) s
theorem fQ.mono {P:Program}{w:World}{K:bET}{mg:bEW}{base:Heap}{CX:CXT}{j k:Nat}{f:Addr}{fd:FuncData}{ps:List Str}{sp:Sp}(F:fQ P w K mg base CX j f fd ps sp)(h:j<=k) :
  fQ P w K mg base CX k f fd ps sp:=⟨F.len,λA outer s H args us vs Q E hr=>F.run A outer s H args us vs Q E (hr.mono h)⟩
theorem aEq.make {P:Program}{w:World}{K:bET}{mg:bEW}{base:Heap}{A:Around}{outer:List Env}{s:Shared}{H:Hp}(e:aEq P w K mg base A outer s H)(C:Addr)(us:List Value)(kw:List (Str × Value)) :
  aEq P w K mg base (A.under (.builtin "type.__call__" ⟨.ref C::us,kw⟩)) outer s H:=⟨by first|exact e.frames|(simpa [Around.under,Code.envs,Code.isFrame,pushEnvs] using e.frames),e.mod,e.bs,e.bsz,e.funs,e.frf,e.hok,e.bare⟩
section
variable {X:Cx}{bEX:bEV}{σ:St}{H:Hp}{s s':Shared}
theorem Inv.env0 (I:Inv X bEX σ H s):aEq X.prog X.w X.K X.mg X.base X.A X.stack s H:=
 ⟨I.ok.frames,I.ok.mod,I.bs,bAP I.ok.bsz I.sz,I.stack,I.rO,I.hok,I.bare⟩
theorem Inv.after {Q:VK}{u:Value}(I:Inv X bEX σ H s)(h:CE X.stack X.prog X.w H s Q u s'):EP X bEX σ Q u s':=by obtain⟨v,H',os,bare,un,hok,r,q⟩:=h;obtain⟨hh,g,d,t,os'⟩:=s';obtain rfl:os'=s.os:=os;exact⟨v,H',I.call (h':=hh) (g':=g) (d':=d) (t':=t) (ch:=[]) un hok bare (λb z=>absurd z (by simp)),r,q⟩
end
def aDu (sp:Sp)(dvs:List V)(E:XK)(t:TA):TE:=fun σ H Q=>t σ H λvs H1=>sp (vs++dvs) H1 Q E
def aNj (C:Addr)(m:Str)(sp:Sp)(dvs:List V)(E:XK)(ta:TE)(t:TA):TE:=fun σ H Q=>ta σ H λx H1=>∃a dx fs,x=.ref a/\H1 a=some (.ins C dx fs)/\fs.lookup m=none /\
 t σ H1 λvs H2=>sp (x::(vs++dvs)) H2 Q E
def aWt (C:Addr)(sp:Sp)(dvs:List V)(E:XK)(t:TA):TE:=fun σ H Q=>t σ H λvs H1=>∀x dx,H1 x=none->H1 dx=none->dx≠x ->
 sp (.ref x::(vs++dvs)) (upd (upd H1 dx (.own x)) x (.ins C dx [])) (λv H2=>v=.non/\Q (.ref x) H2) E
def Binds (K:bET)(fd:FuncData)(ps:List Str)(ds:List Value):Prop:=
 ∀(s:Shared) (us:List Value),K.In s.heap->(us++ds).length=ps.length->BindsTo s fd ⟨us,[]⟩ (ps.zip (us++ds))
theorem Binds.all {K:bET}{fd:FuncData}{ps:List Str}(h:∀us:List Value,us.length=ps.length->bindArgs fd ⟨us,[]⟩=pure (ps.zip us)):Binds K fd ps []:=λs us _ hl=>by rw[bBN] at hl ⊢;exact .of_eq (h us hl)
def mO (CX:CXT)(X:Cx)(E:XK):Prop:=∀(bEX:bEV) (σ:St) (H:Hp) (s:Shared) (e:Value) (s':Shared),Inv X bEX σ H s->CX X.stack H s E e s'->X.xe e s'
section
variable {X:Cx}{CX:CXT}{k:Nat}{f C:Addr}{fd:FuncData}{ps:List Str}{sp:Sp}{dvs:List V}{ds:List Value}{E:XK}{x m:Str}{p pos apos:Pos}{e o:Expr}{es:List Expr}{ta:TE}{t:TA}
theorem aAd {bEX:bEV}{σ:St}{H:Hp}{s:Shared}{Q:VK}{us:List Value}{vs:List V}(F:fQ X.prog X.w X.K X.mg X.base CX k f fd ps sp)(hr:Room k X.A)(hb:Binds X.K fd ps ds)(hd:Vals dvs ds)(hx:mO CX X E)
  (I:Inv X bEX σ H s) (r:Vals vs us) (h:sp (vs++dvs) H Q E):wpAny (model X.prog X.w) X.A (call (.ref f) us) (EP X bEX σ Q) X.xe s:=by
 have r2:Vals (vs++dvs) (us++ds):=r.append hd;have hl:(us++ds).length=ps.length:=by rw[<-r2.length];exact F.len _ _ _ _ h
 refine bCX (bBR (F.run X.A X.stack s H ⟨us,[]⟩ (us++ds) (vs++dvs) Q E hr I.env0 (hb s us I.kIn hl) r2 h) λr s' hq=>?_);cases r with
 |error e=>exact hx bEX σ H s e s' I hq
 |ok fl=>
  cases fl with
  |ret u=>exact I.after hq
  |next=>exact False.elim hq
  |brk=>exact False.elim hq
  |cont=>exact False.elim hq
theorem aUk (F:fQ X.prog X.w X.K X.mg X.base CX k f fd ps sp)(hr:Room k X.A)(hg:Gl X x)(hm:X.mg x=some (.ref f))(hk:PySem.W.keepIn X.K (.ref f)=true)(hb:Binds X.K fd ps ds)(hd:Vals dvs ds)(hx:mO CX X E)
  (ha:PA X (e::es) t) (hdb:(x == ("__debug__":Str))=false:=by decide) (he:starEach (e::es) X.env=(false,eval e X.env)::starEach es X.env:=by rfl) (hpl:(backTo pos (starEach es X.env)).any (·.1)=false:=by rfl) :
  PE X (.Call (.Name x p) (e::es) [] pos) (aDu sp dvs E t):=by
 intro bEX s σ H Q I h;refine bBM (oV I hg hm ?_ hdb);refine PySem.W.callWith_K (h₀:=X.base) I.ok.mod.kin hk (thn (ha pos bEX s σ H _ I h) λus s1 ⟨vs,H1,I1,r,q⟩=>⟨I1.kIn,?_⟩) he hpl;exact aAd F hr hb hd hx I1 r q
theorem aTg (F:fQ X.prog X.w X.K X.mg X.base CX k f fd ps sp)(hr:Room k X.A)(hg:Gl X x)(hm:X.mg x=some (.ref f))(hk:PySem.W.keepIn X.K (.ref f)=true)(hb:Binds X.K fd ps ds)(hd:Vals dvs ds)(hx:mO CX X E)
  (hdb:(x == ("__debug__":Str))=false:=by decide):PE X (.Call (.Name x p) [] [] pos) (aDu sp dvs E aAr):=by
 intro bEX s σ H Q I h;refine bBM (oV I hg hm ?_ hdb);exact PySem.W.callWith_K0 I.kIn hk (aAd (us:=[]) F hr hb hd hx I .nil h)
theorem aVz {pl:Sem Bool}(he:PE X o ta)(c:Cls X.K C)(hm:Meth X.K C m f)(F:fQ X.prog X.w X.K X.mg X.base CX k f fd ps sp)(hr:Room k X.A)(hb:Binds X.K fd ps ds)(hd:Vals dvs ds)(hx:mO CX X E)(ha:PA X (e::es) t)
  (hst:starEach (e::es) X.env=(false,eval e X.env)::starEach es X.env:=by rfl) (hpl:(backTo pos (starEach es X.env)).any (·.1)=false:=by rfl)
  (ht:eval (.Call (.Attribute o m apos) (e::es) [] pos) X.env=(do
   let ov <-eval o X.env
   standAt apos.atName
   let (f,first) <-holding [ov] (getMethod ov m pl)
   callWith pos f first (backTo pos (starEach (e::es) X.env)) (backToKw pos (keywordEach [] X.env))):=by rfl) :
  PE X (.Call (.Attribute o m apos) (e::es) [] pos) (aNj C m sp dvs E ta t):=by
 intro bEX s σ H Q I h;refine PySem.W.methodCall_KW (pl:=pl) (thn (he bEX s σ H _ I h) λu s1 ⟨x,H1,I1,rx,a,dx,fs,ex,ea,l,q⟩=>?_) ht;subst ex;obtain rfl:u=Value.ref a:=rx;refine uK I1 ea c hm l ?_;refine PySem.W.callWith_K (first:=[.ref a]) (h₀:=X.base) I.ok.mod.kin hm.kp (thn (ha pos bEX s1 σ H1 _ I1 q) λus s2 ⟨vs,H2,I2,r,q2⟩=>⟨I2.kIn,?_⟩) hst hpl;exact aAd (us:=.ref a::us) (vs:=.ref a::vs) F hr hb hd hx I2 (.cons rfl r) q2
theorem aRk {pl:Sem Bool}(he:PE X o ta)(c:Cls X.K C)(hm:Meth X.K C m f)(F:fQ X.prog X.w X.K X.mg X.base CX k f fd ps sp)(hr:Room k X.A)(hb:Binds X.K fd ps ds)(hd:Vals dvs ds)(hx:mO CX X E)
  (ht:eval (.Call (.Attribute o m apos) [] [] pos) X.env=(do
   let ov <-eval o X.env
   standAt apos.atName
   let (f,first) <-holding [ov] (getMethod ov m pl)
   callWith pos f first (backTo pos (starEach [] X.env)) (backToKw pos (keywordEach [] X.env))):=by rfl) :
  PE X (.Call (.Attribute o m apos) [] [] pos) (aNj C m sp dvs E ta aAr):=by
 intro bEX s σ H Q I h;refine PySem.W.methodCall_KW (pl:=pl) (thn (he bEX s σ H _ I h) λu s1 ⟨x,H1,I1,rx,a,dx,fs,ex,ea,l,q⟩=>?_) ht;subst ex;obtain rfl:u=Value.ref a:=rx;refine uK I1 ea c hm l ?_;exact PySem.W.callWith_K0 (first:=[.ref a]) I1.kIn hm.kp (aAd (us:=[.ref a]) (vs:=[.ref a]) F hr hb hd hx I1 (.cons rfl .nil) q)
structure Mk (K:bET)(C f:Addr):Prop where
 makes:PySem.W.makesIn K C=true
 init:PySem.W.findIn K (.ref C) "__init__"=some (some (.ref f))
 fn:PySem.W.isFn K (.ref f)=true
 kp:PySem.W.keepIn K (.ref C)=true
theorem aQ0 {bEX:bEV}{σ:St}{H:Hp}{s:Shared}{Q:VK}{us:List Value}{vs:List V}(M:Mk X.K C f)(F:fQ X.prog X.w X.K X.mg X.base CX k f fd ps sp)(hr:Room (k+1) X.A)(hb:Binds X.K fd ps ds)(hd:Vals dvs ds)
  (hx:mO CX X E) (I:Inv X bEX σ H s) (r:Vals vs us)
  (h:∀x dx,H x=none->H dx=none->dx≠x->sp (.ref x::(vs++dvs)) (upd (upd H dx (.own x)) x (.ins C dx [])) (λv H2=>v=.non/\Q (.ref x) H2) E) :
  wpAny (model X.prog X.w) X.A (call (.ref C) us) (EP X bEX σ Q) X.xe s:=by
 have hq:=h (s.heap.objs.size+1) s.heap.objs.size (I.hok.fresh (bCU _)) (I.hok.fresh (j6 _)) (t7 (bCO _));have I2:=Inv.made (C:=C) I;have r2:Vals (V.ref (s.heap.objs.size+1)::(vs++dvs)) (Value.ref (s.heap.objs.size+1)::(us++ds)):=.cons rfl (r.append hd);have hl:(Value.ref (s.heap.objs.size+1)::us++ds).length=ps.length:=by have e:=r2.length;rw[F.len _ _ _ _ hq] at e;exact e.symm
 refine bCX (aQa (f:=f) I.kIn M.makes M.init (beq_iff_eq.mp M.fn) (bBR (F.run _ X.stack _ _ ⟨Value.ref (s.heap.objs.size+1)::us,[]⟩ (Value.ref (s.heap.objs.size+1)::(us++ds)) _ _ E (hr.make C us [])
  (I2.env0.make C us []) (hb _ (Value.ref (s.heap.objs.size+1)::us) I2.kIn hl) r2 hq) λr s' hq'=>?_))
 cases r with
 |error e=>exact hx bEX σ _ _ e s' I2 hq'
 |ok fl=>
  cases fl with
  |ret u=>obtain⟨v,H',I3,rv,ev,q3⟩:=I2.after hq';subst ev;exact⟨rv,⟨V.ref (s.heap.objs.size+1),H',I3,rfl,q3⟩⟩
  |next=>exact False.elim hq'
  |brk=>exact False.elim hq'
  |cont=>exact False.elim hq'
theorem aV9 (M:Mk X.K C f)(F:fQ X.prog X.w X.K X.mg X.base CX k f fd ps sp)(hr:Room (k+1) X.A)(hg:Gl X x)(hm:X.mg x=some (.ref C))(hb:Binds X.K fd ps ds)(hd:Vals dvs ds)(hx:mO CX X E)
  (ha:PA X (e::es) t) (hdb:(x == ("__debug__":Str))=false:=by decide) (he:starEach (e::es) X.env=(false,eval e X.env)::starEach es X.env:=by rfl) (hpl:(backTo pos (starEach es X.env)).any (·.1)=false:=by rfl) :
  PE X (.Call (.Name x p) (e::es) [] pos) (aWt C sp dvs E t):=by
 intro bEX s σ H Q I h;refine bBM (oV I hg hm ?_ hdb);refine PySem.W.callWith_K (h₀:=X.base) I.ok.mod.kin M.kp (thn (ha pos bEX s σ H _ I h) λus s1 ⟨vs,H1,I1,r,q⟩=>⟨I1.kIn,?_⟩) he hpl;exact aQ0 M F hr hb hd hx I1 r q
end
section
variable {X:Cx}{CX:CXT}{k:Nat}{f C:Addr}{fd:FuncData}{ps ks:List Str}{sp:Sp}{E:XK}{x m:Str}{p pos apos kpos:Pos}{e o:Expr}{es:List Expr}{kws:List Keyword}{te ta:TE}{t tk:TA}{nm:Option Str}
variable {g:List Value->List Value->List Value}{gV:List V->List V->List V}
end
structure aM (N P:List Str)(sc:Scope):Prop where
 kind:sc.kind=.function
 co:sc.isCoroutine=false
 gen:sc.isGenerator=false
 nd:N.Nodup
 pre:N.take P.length=P
 par:∀x∈P,sc.names.lookup x=some .local\/sc.names.lookup x=some .cell
 nofree:∀y∈sc.names,y.2≠.free
theorem aC0 {kindOf:Str->Option NameKind}{x:Str}:∀{binds:List (Str × Value)} {m:bEW},(∀v,(x,v)∉binds)->bindL kindOf binds m x=m x
 |[],_,_=>rfl
 |(n,v)::r,m,h=>by
  unfold bindL;rw[aC0 λw hw=>h w (j8 _ hw)]
  split
  ·have:x≠n:=by rintro rfl;exact h v m9
   simp[this]
  ·rfl
theorem aCz {kindOf:Str->Option NameKind}{x:Str}:∀{binds:List (Str × Value)} {m:bEW},(∀v,(x,v)∉binds)->bindC kindOf binds m x=m x
 |[],_,_=>rfl
 |(n,v)::r,m,h=>by
  unfold bindC;rw[aCz λw hw=>h w (j8 _ hw)]
  split
  ·rfl
  ·have:x≠n:=by rintro rfl;exact h v m9
   simp[this]
theorem aDd {kindOf:Str->Option NameKind}{x:Str}{v:Value}:∀{P:List Str} {vs:List Value} {i:Nat} {m:bEW},P.Nodup->P[i]?=some x->vs[i]?=some v->kindOf x=some .local ->
  bindL kindOf (P.zip vs) m x=some v
 |[],_,_,_,_,h,_,_=>by simp at h
 |_::_,[],_,_,_,_,h,_=>by simp at h
 |p::P,w::vs,0,m,nd,h1,h2,hk=>by simp at h1 h2;subst h1;subst h2;show bindL kindOf ((p,w)::P.zip vs) m p=_;unfold bindL;rw[aC0 λv hv=>(List.nodup_cons.mp nd).1 (List.of_mem_zip hv).1,if_pos hk];simp
 |p::P,w::vs,i+1,m,nd,h1,h2,hk=>by show bindL kindOf ((p,w)::P.zip vs) m x=_;unfold bindL;exact aDd (i:=i) (List.nodup_cons.mp nd).2 (by simpa using h1) (by simpa using h2) hk
theorem aC4 {kindOf:Str->Option NameKind}{x:Str}{v:Value}:∀{P:List Str} {vs:List Value} {i:Nat} {m:bEW},P.Nodup->P[i]?=some x->vs[i]?=some v->kindOf x≠some .local ->
  bindC kindOf (P.zip vs) m x=some v
 |[],_,_,_,_,h,_,_=>by simp at h
 |_::_,[],_,_,_,_,h,_=>by simp at h
 |p::P,w::vs,0,m,nd,h1,h2,hk=>by simp at h1 h2;subst h1;subst h2;show bindC kindOf ((p,w)::P.zip vs) m p=_;unfold bindC;rw[aCz λv hv=>(List.nodup_cons.mp nd).1 (List.of_mem_zip hv).1,if_neg hk];simp
 |p::P,w::vs,i+1,m,nd,h1,h2,hk=>by show bindC kindOf ((p,w)::P.zip vs) m x=_;unfold bindC;exact aC4 (i:=i) (List.nodup_cons.mp nd).2 (by simpa using h1) (by simpa using h2) hk
def start (N:List Str)(vs:List V):St:=vs.map some++List.replicate (N.length - vs.length) none
def vW (CX:CXT)(P:Program)(w:World)(K:bET)(mg:bEW)(base:Heap)(N:List Str)(qual:Str)(scope:Scope)(f:Addr)(cd:Value)(A:Around)(outer:List Env)(s:Shared)(H:Hp)(E:XK):Cx where
 prog:=P
 w:=w
 K:=K
 mg:=mg
 base:=base
 A:=A.deeper (envOfC qual scope s.heap.objs.size f cd)
 N:=N
 s₀:=s
 H₀:=H
 env:=envOfC qual scope s.heap.objs.size f cd
 outer:=outer
 stack:=envOfC qual scope s.heap.objs.size f cd::outer
 ex:=[]
 calm:=true
 fn:=λ_=>true
 pn:=[]
 xe:=λe s'=>wpAny (model P w) (A.deeper (envOfC qual scope s.heap.objs.size f cd)) (leaving (envOfC qual scope s.heap.objs.size f cd) e) (λ_ s''=>CX outer H s E e s'') (λe' s''=>CX outer H s E e' s'') s'
theorem aJk {sc:Scope}{n:Nat}{x:Str}(h:sc.names.lookup x=some .cell):∃c,(cellsFrom n sc.names []).lookup x=some c:=by have q:=PySem.W.cellsFrom_some sc.names n [] (.inl h);exact Option.isSome_iff_exists.mp q
theorem aOh {CX:CXT}{P:Program}{w:World}{K:bET}{mg:bEW}{base:Heap}{N ps:List Str}{qual:Str}{scope:Scope}{f:Addr}{cd:Value}{A:Around}{outer:List Env}{s s1:Shared}{H:Hp}{E:XK}{us:List Value}{vs:List V}
  (S:aM N ps scope) (hd:A.handled=none) (e0:aEq P w K mg base A outer s H) (hl:vs.length=ps.length) (r:Vals vs us)
  (x:InCallC s s.heap.objs.size (bindL (envOfC qual scope s.heap.objs.size f cd).kindOf (ps.zip us) λ_=>none) (cellsFrom (s.heap.objs.size+1) scope.names []) (bindC (envOfC qual scope s.heap.objs.size f cd).kindOf (ps.zip us) λ_=>none) s1) :
  Inv (vW CX P w K mg base N qual scope f cd A outer s H E) [] (start N vs) H s1:=by
 have hpl:ps.length<=N.length:=by have:=congrArg List.length S.pre;rw[bAL] at this;lia
 obtain⟨h1,tk,rfl,hk⟩:=x.done;have noA:∀b:Addr,b∉(vW CX P w K mg base N qual scope f cd A outer s H E).ex:=λb z=>absurd (show b∈([]:List Addr) from z) (by simp);refine⟨⟨e0.mod,S.kind,rfl,rfl,j6 _,λy z c h1 h2=>?_,λy hy=>?_,λy c _ h=>?_,λ_=>hd,Around.frames_deeper e0.frames,.inr ⟨rfl,rfl⟩,λb z=>absurd z (noA b),e0.bs,e0.bsz,λb _ _=>noA b,λb z=>absurd z (noA b),e0.funs,e0.frf⟩,
  rfl,e0.bare,Un.kept hk,⟨_,x.toInCall.ns,λi y v h1 h2 h3=>?_⟩,λy c h=>⟨_,x.cell y c h⟩,e0.hok.fresh (j6 _),λy c h=>?_,λp hp=>absurd (show p∈([]:bEV) from hp) (by simp),e0.hok.kept hk,?_⟩
 ·exact name_of_addr x.apart (PySem.mem_of_lookup h1) (PySem.mem_of_lookup h2)
 ·have hy:scope.names.lookup y=some .cell\/scope.names.lookup y=some .free:=hy;rcases hy with hy|hy
  ·exact aJk hy
  ·exact absurd rfl (S.nofree _ (PySem.mem_of_lookup hy))
 ·exact bC5 (x.above y c (PySem.mem_of_lookup h))
 ·have hi:i<vs.length:=by
   unfold start at h2;by_cases hi:i<vs.length
   ·exact hi
   ·rw[bB6 (by simpa using hi)] at h2;rw[List.getElem?_replicate] at h2
    split at h2 <;> cases h2
  have ha:vs[i]?=some v:=by
   unfold start at h2;rw[bCE (by simpa using hi),v4] at h2;cases e:vs[i]? with
   |none=>rw[e] at h2;cases h2
   |some a=>rw[e] at h2;cases h2;rfl
  obtain⟨u,hu,rv⟩:=r.get ha;have hp:ps[i]?=some y:=by rw[<-S.pre,List.getElem?_take_of_lt (by lia)];exact h1
  have ndP:ps.Nodup:=by rw[<-S.pre];exact S.nd.sublist (bDX _ _)
  refine⟨u,rv,?_⟩;rcases S.par y (p7 hp) with k|k
  ·exact .inl ⟨k,aDd ndP hp hu k⟩
  ·obtain⟨c,e⟩:=aJk (n:=s.heap.objs.size+1) k;refine .inr ⟨.inl k,c,e,?_⟩;have q:=x.cell y c e;rw[aC4 ndP hp hu (by show scope.names.lookup y≠_;rw[k];decide)] at q;exact q
 ·exact e0.hok.fresh (bC5 (x.above y c (PySem.mem_of_lookup h)))
 ·unfold start;show _=N.length;rw[bAC,j9,bC9];lia
theorem aRh {CX:CXT}{P:Program}{w:World}{K:bET}{mg:bEW}{base:Heap}{k:Nat}{f:Addr}{name qual:Str}{params:Arguments}{body:List Stmt}{scope:Scope}{dV kV doc pm cdv ct oc:Value}{an od:Option Addr}
  {osl:Array (Option Value)} {N ps:List Str} {sp:Sp} (lk:K.lookup f=some ⟨oc,od,.func (PySem.W.fnOf name qual params body scope dV kV doc pm an cdv ct),osl⟩) (hcd:PySem.W.codeIn K cdv qual=true) (S:aM N ps scope)
  (len:∀vs H Q E,sp vs H Q E->vs.length=ps.length)
  (hbody:∀(A:Around) (outer:List Env) (s:Shared) (H:Hp) (vs:List V) (Q:VK) (E:XK),Room k (A.deeper (envOfC qual scope s.heap.objs.size f cdv))->sp vs H Q E ->
   ∃t,PSs (vW CX P w K mg base N qual scope f cdv A outer s H E) body t/\t { nx:=λ_ H'=>Q .non H',rt:=Q } (start N vs) H) :
  fQ P w K mg base CX (k+1) f (PySem.W.fnOf name qual params body scope dV kV doc pm an cdv ct) ps sp:=by
 refine⟨len,λA outer s H args us vs Q E hr e0 hb r hsp=>?_⟩;have hl:=len _ _ _ _ hsp;have KX:K.In s.heap:=e0.mod.kin.keeps λb o e=>(e0.bs b o e).1;have lim:s.heap.NoLimit:=e0.mod.nolimit.keeps λb o e=>(e0.bs b o e).1;have hkind:∀y∈ps.zip us,scope.names.lookup y.1=some .local\/(scope.names.lookup y.1=some .cell/\((cellsFrom (s.heap.objs.size+1) scope.names []).lookup y.1).isSome=true):=λ⟨n,v⟩ hy=>by
  rcases S.par n (List.of_mem_zip hy).1 with q|q
  ·exact .inl q
  ·exact .inr ⟨q,PySem.W.cellsFrom_some _ _ _ (.inl q)⟩
 refine codeAny_call_function hr.depth (KX _ _ lk) rfl S.co S.gen rfl (PySem.W.codeRec_of KX hcd) (hb _ _ _ _ ?_);refine wpAny_newFunctionEnv_cells S.kind hkind λenv he s1 x=>?_;subst he;refine⟨lim.keeps x.toInCall.keep,codeAny_func ?_⟩;obtain⟨t,ht,hq⟩:=hbody A outer s H vs Q E (hr.deeper _) hsp;have I:Inv (vW CX P w K mg base N qual scope f cdv A outer s H E) [] (start N vs) H s1:=aOh S hr.hd e0 hl r x;refine bBB (ht [] s1 (start N vs) H _ I hq) (λfl s' hs=>?_) λe s' hs=>hs;have fin:∀{σ':St} {H':Hp} {v:V} {u:Value},Inv (vW CX P w K mg base N qual scope f cdv A outer s H E) [] σ' H' s'->RelV v u->Q v H'->CE outer P w H s Q u s':=
  λ{σ' H' v u} J rv q=>⟨v,H',J.os,J.bare,J.base,J.hok,rv,q⟩
 cases fl with
 |ret u=>obtain⟨v,σ',H',J,rv,q⟩:=hs;exact fin J rv q
 |next=>obtain⟨σ',H',J,q⟩:=hs;exact fin (v:=V.non) (u:=Value.none) J rfl q
 |brk=>obtain⟨_,_,_,q⟩:=hs;exact False.elim q
 |cont=>obtain⟨_,_,_,q⟩:=hs;exact False.elim q
section
variable {X:Cx}{x:Str}{p pos:Pos}{e:Expr}{es:List Expr}{t:TA}{id T:String}{r:List V->Hp->VK->Prop}
def tCB (r:List V->Hp->VK->Prop)(t:TA):TE:=fun σ H Q=>t σ H λvs H1=>r vs H1 Q
theorem aSd (hc:cD X (.builtin id) r)(hg:Gl X x)(hm:X.mg x=none)(hv:bootBuiltins x=some (.builtin id))(ha:PA X (e::es) t)(hn:x≠"__name__":=by decide)(hdb:(x == ("__debug__":Str))=false:=by decide)
  (he:starEach (e::es) X.env=(false,eval e X.env)::starEach es X.env:=by rfl) (hpl:(backTo pos (starEach es X.env)).any (·.1)=false:=by rfl):PE X (.Call (.Name x p) (e::es) [] pos) (tCB r t):=by
 intro bEX s σ H Q I h;refine bBM (nU I hg hm hv ?_ hn hdb);exact bD5 (thn (ha pos bEX s σ H _ I h) λus s1 ⟨vs,H1,I1,r1,q1⟩=>hc bEX s1 σ H1 vs us Q I1 r1 q1) he hpl
theorem aPq (hc:cD X (.type T) r)(hg:Gl X x)(hm:X.mg x=none)(hv:bootBuiltins x=some (.type T))(ha:PA X (e::es) t)(hn:x≠"__name__":=by decide)(hdb:(x == ("__debug__":Str))=false:=by decide)
  (he:starEach (e::es) X.env=(false,eval e X.env)::starEach es X.env:=by rfl) (hpl:(backTo pos (starEach es X.env)).any (·.1)=false:=by rfl):PE X (.Call (.Name x p) (e::es) [] pos) (tCB r t):=by
 intro bEX s σ H Q I h;refine bBM (nU I hg hm hv ?_ hn hdb);exact bBQ (thn (ha pos bEX s σ H _ I h) λus s1 ⟨vs,H1,I1,r1,q1⟩=>hc bEX s1 σ H1 vs us Q I1 r1 q1) he hpl
end
end L2
namespace HT
open PySem PyProof.Rows
section
open PySem.SeqAt
open PySem.AutoSeq1 (wpAny_loadPart')
open PySem.MeetsSeq PySem.MeetsSeq2 PySem.MeetsSeq3
end
section
variable {prog:Program}{w:World}{A:Around}{E:bEU}{s:Shared}
theorem aV4 {t b:Addr}{vs ws:List Value}{Q:bEU}(ht:IsTup s.heap t vs.toArray)(hb:IsTup s.heap b ws.toArray)(hv:vs≠[])
  (h1:ws=[]->Q (.ref t) s) (h2:ws≠[]->Q (.ref s.heap.objs.size) { s with heap:=s.heap.push { cls:=.type "tuple",data:=.seq (vs++ws).toArray } })
  (hsz:vs.length+ws.length<=sizeLine):wpAny (model prog w) A (binaryOp .Add (.ref t) (.ref b)) Q E s:=by
 obtain⟨⟨cls,dd,data,sl⟩,ho,hc,n,hd⟩:=id ht;obtain⟨⟨cls2,dd2,data2,sl2⟩,ho2,hc2,n2,hd2⟩:=id hb;simp only at hc hd hc2 hd2;subst hc hd hc2 hd2;have e:vs.toArray++ws.toArray=(vs++ws).toArray:=by simp
 by_cases hw:ws=[]
 ·exact concat_meets ⟨_,ho,rfl⟩ ⟨_,ho2,rfl⟩ noFill_tuple_add seq_tuple_add PySem.F.slot_tuple_add PySem.F.entry_tuple_add (PySem.F.args_tuple_add_2 _ _)
   (tuple_addW1 t b vs.toArray ws.toArray n n2 dd dd2 sl sl2 (by simpa using hv) (by simp[hw])) ⟨ho,ho2,h1 hw⟩
 ·refine concat_meets ⟨_,ho,rfl⟩ ⟨_,ho2,rfl⟩ noFill_tuple_add seq_tuple_add PySem.F.slot_tuple_add PySem.F.entry_tuple_add (PySem.F.args_tuple_add_2 _ _)
   (tuple_addW2 t b vs.toArray ws.toArray n n2 dd dd2 sl sl2 (by simpa using hv) (by simpa using hw) (by rw[m7,m7];exact hsz)) ⟨ho,ho2,?_⟩
  rw[e];exact h2 hw
def sIx (n d:Nat):Option Int->Nat
 |none=>d
 |some v=>if v<0 then (v+(n:Int)).toNat else min v.toNat n
theorem aIn (n d:Nat):sIx n d none=d:=rfl
theorem aMt (n d k:Nat):sIx n d (some (k:Int))=min k n:=by show (if (k:Int)<0 then ((k:Int)+(n:Int)).toNat else min (k:Int).toNat n)=min k n;rw[if_neg (by lia),bAT]
theorem aX5 (n d:Nat)(hd:d<=n)(o:Option Int):sIx n d o<=n:=by
 cases o with
 |none=>exact hd
 |some v=>
  show (if v<0 then (v+(n:Int)).toNat else min v.toNat n)<=n;by_cases hv:v<0
  ·rw[if_pos hv];lia
  ·rw[if_neg hv];exact Nat.min_le_right _ _
theorem aMo (v:Int)(n d:Nat):(if v<0 then max (v+(n:Int)) 0 else min v (n:Int))=((sIx n d (some v):Nat):Int):=by
 show (if v<0 then max (v+(n:Int)) 0 else min v (n:Int))=(((if v<0 then (v+(n:Int)).toNat else min v.toNat n):Nat):Int);by_cases hv:v<0
 ·simp only[if_pos hv];lia
 ·simp only[if_neg hv];lia
theorem aLx (lo hi:Option Int)(n:Nat):Builtin.Slice.sliceAdjust lo hi 1 (n:Int)=(((sIx n 0 lo:Nat):Int),((sIx n n hi:Nat):Int)):=by
 have h1:¬ ((1:Int)<0):=by lia
 unfold Builtin.Slice.sliceAdjust;simp only[h1,if_false];refine Prod.ext ?_ ?_
 ·cases lo with
  |none=>rfl
  |some v=>exact aMo v n 0
 ·cases hi with
  |none=>rfl
  |some v=>exact aMo v n n
theorem aLn (i j:Nat):Builtin.Slice.slicePlaces (i:Int) (j:Int) 1=j - i:=by
 unfold Builtin.Slice.slicePlaces;have h1:(1:Int) > 0:=by lia
 simp only[h1,if_true,Int.ediv_one]
 split <;> lia
theorem aA5 {v:Value}{o:Option Int}{Q:Option Int->Shared->Prop}(p:IsPart v o)(h:Q o s):wpAny (model prog w) A (Builtin.Slice.slicePartIndex v) Q E s:=by
 cases p with
 |none=>exact slicePart_none h
 |int i t=>exact slicePart_int h
theorem nO {sl:Addr}{vl vu:Value}{lo hi:Option Int}{n:Nat}{Q:Int × Int × Nat->Shared->Prop}(hs:s.heap.IsSliceOf sl vl vu .none)(pl:IsPart vl lo)(pu:IsPart vu hi)
  (h:Q (((sIx n 0 lo:Nat):Int),1,sIx n n hi - sIx n 0 lo) s):wpAny (model prog w) A (Builtin.Slice.sliceApplied (.ref sl) (pure (n:Int))) Q E s:=by
 obtain⟨os,hos,hcs,hds⟩:=id hs;unfold Builtin.Slice.sliceApplied Builtin.Slice.sliceFields;refine c7 (c7 (bAF hos hds (x:=vl) rfl (c7 (bAF hos hds (x:=vu) rfl (c7 (bAF hos hds (x:=.none) rfl (j4 ?_)))))));refine c7 (slicePart_none ?_);show wpAny _ _ (if ((1:Int) == 0)=true then _ else _) _ _ s;rw[if_neg (by decide)];refine c7 (aA5 pl (c7 (aA5 pu (c7 (j4 ?_)))));show wpAny _ _ (match Builtin.Slice.sliceAdjust lo hi 1 (n:Int) with|(lo,hi)=>pure (lo,(1:Int),Builtin.Slice.slicePlaces lo hi 1)) _ _ s;rw[aLx lo hi n];show wpAny _ _ (pure (((sIx n 0 lo:Nat):Int),(1:Int),Builtin.Slice.slicePlaces ((sIx n 0 lo:Nat):Int) ((sIx n n hi:Nat):Int) 1)) _ _ s;rw[aLn];exact j4 h
theorem aTi (xs:Array Value)(i k:Nat):((List.range k).filterMap λ(m:Nat)=>xs[((i:Int)+(m:Int) * 1).toNat]?).toArray=((xs.toList.drop i).take k).toArray:=by
 have e:(λ(m:Nat)=>xs[((i:Int)+(m:Int) * 1).toNat]?)=λm=>xs[i+m]?:=by
  funext m;have:((i:Int)+(m:Int) * 1).toNat=i+m:=by lia
  rw[this]
 rw[e];have:=pick_run xs i k;rw[List.filterMap_map] at this;have e2:((λx=>xs[x]?) ∘ λx=>i+x)=λm=>xs[i+m]?:=rfl;rw[e2] at this;rw[this]
theorem vD {t sl:Addr}{items:Array Value}{vl vu:Value}{lo hi:Option Int}{Q:bEU}(ht:IsTup s.heap t items)(hs:s.heap.IsSliceOf sl vl vu .none)(pl:IsPart vl lo)(pu:IsPart vu hi)
  (hw:¬ (sIx items.size 0 lo=0/\sIx items.size items.size hi=items.size))
  (h:Q (.ref s.heap.objs.size) { s with heap:=s.heap.push { cls:=.type "tuple",data:=.seq ((items.toList.drop (sIx items.size 0 lo)).take (sIx items.size items.size hi - sIx items.size 0 lo)).toArray } })
  (hsz:items.size<=sizeLine):wpAny (model prog w) A (getItem (.ref t) (.ref sl)) Q E s:=by
 have htake:sizeOk (.seq ((items.toList.drop (sIx items.size 0 lo)).take (sIx items.size items.size hi - sIx items.size 0 lo)).toArray):=by show ((items.toList.drop (sIx items.size 0 lo)).take (sIx items.size items.size hi - sIx items.size 0 lo)).toArray.size<=sizeLine;rw[m7,bAL,bB2,bAA];lia
 have hj:sIx items.size items.size hi<=items.size:=aX5 _ _ (j6 _) hi;obtain⟨os,hos,hcs,hds⟩:=id hs;have hTs:s.TypeIs (.ref sl) "slice":=⟨os,hos,hcs⟩;unfold getItem
 try with_reducible refine bAV ?_
 first|refine c7 (j4 ?_)|skip
 refine c7 (wpAny_sequenceKey ht.typeIs (by decide) ?_);refine c7 (bAG (name:=Str.ofString "__getitem__") ht.typeIs bCD
  (bAE bCD ht.typeIs entry_tuple_getitem ?_ (args_tuple_getitem _ _)))
 show wpAny _ _ (Builtin.Tuple.tupleItemsOf (.ref t) >>= _) _ _ s;refine c7 (tupleItemsOf_ ht ?_);refine c7 (bEJ hTs ?_);rw[if_pos (by decide)];refine c7 (nO hs pl pu ?_);have hno:¬ ((((sIx items.size 0 lo:Nat):Int) == 0 && (1:Int) == 1 && (sIx items.size items.size hi - sIx items.size 0 lo) == items.size)=true):=by intro q;rw[bAU,bAU] at q;have q1:((sIx items.size 0 lo:Nat):Int)=0:=eq_of_beq q.1.1;have q2:sIx items.size items.size hi - sIx items.size 0 lo=items.size:=eq_of_beq q.2;exact hw ⟨by lia,by lia⟩
 show wpAny _ _ (if (((sIx items.size 0 lo:Nat):Int) == 0 && (1:Int) == 1 && (sIx items.size items.size hi - sIx items.size 0 lo) == items.size)=true then _ else _) _ _ s;rw[if_neg hno,aTi];first
  |exact c7 (m:=Builtin.Tuple.tupleExact _) (bAH (j4 ⟨_,rfl,j4 h⟩) htake)
  |exact c7 (m:=Builtin.Tuple.tupleExact _) (bAH (c7 (j4 (j4 ⟨_,rfl,j4 h⟩))) htake)
  |exact c7 (c7 (m:=Builtin.Tuple.tupleExact _) (bAH (j4 (j4 ⟨_,rfl,j4 h⟩)) htake))
  |exact c7 (c7 (m:=Builtin.Tuple.tupleExact _) (bAH (j4 ⟨_,rfl,j4 h⟩) htake))
end
end HT
namespace L2
open PySem PySem.Spec PyProof.Rows
abbrev TO:=St->Hp->(Option Int->Hp->Prop)->Prop
def PO (X:Cx)(e:Option Expr)(t:TO):Prop:=
 ∀(bEX:bEV) (s:Shared) (σ:St) (H:Hp) (Q:Option Int->Hp->Prop),Inv X bEX σ H s->t σ H Q ->
  wpAny (model X.prog X.w) X.A (evalPart e X.env) (λu s'=>∃o H',Inv X bEX σ H' s'/\IsPart u o/\Q o H') X.xe s
def aNf:TO:=λ_ H Q=>Q none H
def aWl (t:TE):TO:=fun σ H Q=>t σ H λx H1=>∃i,x=.int i/\Q (some i) H1
section
variable {X:Cx}{e:Expr}{te:TE}{lo hi:Option Expr}{tl th:TO}{pos p2:Pos}
theorem aT5:PO X none aNf:=by intro bEX s σ H Q I h;rw[evalPart_none];exact j4 ⟨none,H,I,.none,h⟩
theorem aUj (h:PE X e te):PO X (some e) (aWl te):=by intro bEX s σ H Q I hw;rw[evalPart_some];refine thn (h bEX s σ H _ I hw) λu s1 ⟨x,H1,I1,r1,q1⟩=>?_;obtain⟨i,rfl,q⟩:=q1;obtain⟨t,rfl⟩:=r1;exact⟨some i,H1,I1,.int i t,q⟩
def SlR (X:Cx)(r:V->Option Int->Option Int->Hp->VK->Prop):Prop:=
 ∀(bEX:bEV) (s:Shared) (σ:St) (H:Hp) (x:V) (v vl vu:Value) (lo hi:Option Int) (sl:Addr) (Q:VK),Inv X bEX σ H s->RelV x v->s.heap.IsSliceOf sl vl vu .none->IsPart vl lo->IsPart vu hi->r x lo hi H Q ->
  ∃T id,typeLookup (.type T) "__getitem__"=pure (some (.builtin id))/\s.TypeIs v T/\wpAny (model X.prog X.w) X.A (getItem v (.ref sl)) (EP X bEX σ Q) X.xe s
def tSl (r:V->Option Int->Option Int->Hp->VK->Prop)(te:TE)(tl th:TO):TE:=fun σ H Q=>te σ H λx H1=>tl σ H1 λl H2=>th σ H2 λu H3=>r x l u H3 Q
theorem aSt {r:V->Option Int->Option Int->Hp->VK->Prop}(hr:SlR X r)(he:PE X e te)(hl:PO X lo tl)(hu:PO X hi th):PE X (.Subscript e (.Slice lo hi none p2) pos) (tSl r te tl th):=by intro bEX s σ H Q I h;refine Subscript_ (thn (he bEX s σ H _ I h) λv s1 ⟨x,H1,I1,r1,q1⟩=>?_);refine wpAny_Slice (thn (hl bEX s1 σ H1 _ I1 q1) λvl s2 ⟨l,H2,I2,pl,q2⟩=>thn (hu bEX s2 σ H2 _ I2 q2) λvu s3 ⟨u,H3,I3,pu,q3⟩=>?_);rw[evalPart_none];refine j4 ?_;have I4:Inv X bEX σ H3 { s3 with heap:=s3.heap.push { cls:=.type "slice",data:=.fields #[vl,vu,.none] } }:=I3.kept (t':=s3.toks) λb ob q=>j0 _ q;obtain⟨T,id,hT,ht,hg⟩:=hr bEX { s3 with heap:=s3.heap.push { cls:=.type "slice",data:=.fields #[vl,vu,.none] } } σ H3 x v vl vu l u s3.heap.objs.size Q I4 r1 (Heap.IsSliceOf.new ..) pl pu q3;show wpAny (model X.prog X.w) X.A (subscriptTail e (.Slice lo hi none p2) v (.ref s3.heap.objs.size)) (EP X bEX σ Q) X.xe { s3 with heap:=s3.heap.push { cls:=.type "slice",data:=.fields #[vl,vu,.none] } };exact tail_any (ops:=[.ref s3.heap.objs.size,v]) ht hT hg (by with_unfolding_all rfl)
def qI (xs:List V)(lo hi:Option Int):List V:=(xs.drop (HT.sIx xs.length 0 lo)).take (HT.sIx xs.length xs.length hi - HT.sIx xs.length 0 lo)
theorem yG (xs:List V)(lo hi:Option Int):(qI xs lo hi).length<=xs.length:=by unfold qI;rw[bAL,bB2];lia
def bA6 (K:bET):V->Option Int->Option Int->Hp->VK->Prop:=λx lo hi H Q=>∃a xs,x=.ref a/\SqT K H a xs /\
 ¬ (HT.sIx xs.length 0 lo=0/\HT.sIx xs.length xs.length hi=xs.length)/\∀p,H p=none->Q (.ref p) (upd H p (.tup (qI xs lo hi)))
theorem aW2:SlR X (bA6 X.K):=by
 intro bEX s σ H x v vl vu lo hi sl Q I rx hs pl pu h;obtain⟨a,xs,rfl,hx,hw,q⟩:=h;cases rx;obtain⟨its,r,ht,hz⟩:=I.tuple hx;have hlen:its.toArray.size=xs.length:=by rw[m7];exact r.length.symm
 refine⟨"tuple",_,PyProof.Rows.slot_tuple_getitem.lookup,ht.typeIs,?_⟩;refine HT.vD ht hs pl pu (by rw[hlen];exact hw) ?_ (by rw[hlen];exact hz);rw[hlen];refine⟨.ref s.heap.objs.size,_,I.laid (t':=s.toks) (o:=.tup (qI xs lo hi)) (λb ob q=>j0 _ q) (j6 _) ?_,rfl,q _ (I.hok.fresh (j6 _))⟩;exact⟨bAP (yG xs lo hi) hz,_,(r.drop (HT.sIx xs.length 0 lo)).take (HT.sIx xs.length xs.length hi - HT.sIx xs.length 0 lo),yL.new _ _⟩
def aZy (K:bET):R2:=λx y H Q=>∃a b xs ys,x=.ref a/\y=.ref b/\SqT K H a xs/\SqT K H b ys/\xs≠[]/\xs.length+ys.length<=sizeLine /\
 (ys=[]->Q (.ref a) H)/\(ys≠[]->∀p,H p=none->Q (.ref p) (upd H p (.tup (xs++ys))))
theorem Vals.aD5 {xs:List V}{us:List Value}(r:Vals xs us):us=[]↔xs=[]:=by
 cases r with
 |nil=>simp
 |cons _ _=>simp
theorem aUn:OpR X (binaryOp .Add) (aZy X.K):=by intro bEX s σ H x y v u Q I rx ry h;obtain⟨a,b,xs,ys,rfl,rfl,ha,hb,hx,hz,q1,q2⟩:=h;cases rx;cases ry;obtain⟨its,r1,p1,_⟩:=I.tuple ha;obtain⟨its2,r2,p2,_⟩:=I.tuple hb;refine HT.aV4 p1 p2 (λz=>hx (r1.aD5.mp z)) (λz=>⟨.ref a,H,I,rfl,q1 (r2.aD5.mp z)⟩) (λz=>?_) (by rw[<-r1.length,<-r2.length];exact hz);refine⟨.ref s.heap.objs.size,_,I.laid (t':=s.toks) (o:=.tup (xs++ys)) (λb ob q=>j0 _ q) (j6 _) ?_,rfl,q2 (λw=>z (r2.aD5.mpr w)) _ (I.hok.fresh (j6 _))⟩;exact⟨by rw[bAC];exact hz,_,r1.append r2,yL.new _ _⟩
end
def ixN (n:Nat)(i:Int):Option Nat:=if 0<=i then (if i<n then some i.toNat else none) else if -(n:Int)<=i then some (i+n).toNat else none
def atI {α:Type}(xs:List α)(i:Int):Option α:=(ixN xs.length i).bind λj=>xs[j]?
theorem aNs {n:Nat}{i:Int}{j:Nat}(h:ixN n i=some j):seqIndex? i n=some j/\j<n/\-(n:Int)<=i/\i<n:=by
 unfold ixN at h;by_cases h0:0<=i
 ·rw[if_pos h0] at h;by_cases h1:i<n
  ·rw[if_pos h1] at h;have e:i.toNat=j:=bAQ h;exact⟨by rw[seqIndex_of h0 h1,e],by lia,by lia,h1⟩
  ·rw[if_neg h1] at h;cases h
 ·rw[if_neg h0] at h;by_cases h1:-(n:Int)<=i
  ·rw[if_pos h1] at h;have e:(i+n).toNat=j:=bAQ h;exact⟨by rw[seqIndex_neg (by lia) h1,e],by lia,h1,by lia⟩
  ·rw[if_neg h1] at h;cases h
theorem aMf {α:Type}{xs:List α}{i:Int}{v:α}(h:atI xs i=some v):∃j,seqIndex? i xs.length=some j/\xs[j]?=some v/\j<xs.length/\-(xs.length:Int)<=i/\i<xs.length:=by
 unfold atI at h;cases e:ixN xs.length i with
 |none=>rw[e] at h;cases h
 |some j=>rw[e] at h;obtain⟨h1,h2,h3,h4⟩:=aNs e;exact⟨j,h1,h,h2,h3,h4⟩
theorem eQ {α:Type}{xs:List α}{j:Nat}{v:α}(h:xs[j]?=some v):atI xs (j:Int)=some v:=by
 have hj:j<xs.length:=(List.getElem?_eq_some_iff.mp h).1;have e:ixN xs.length (j:Int)=some j:=by unfold ixN;rw[if_pos (by lia),if_pos (by lia)];simp
 unfold atI;rw[e];exact h
def aM1 (b:Expr):Prop:=∀o i,subscripted b false o i=operate [o,i] (getItem o i)
def IxR (X:Cx)(r:R2):Prop:=
 ∀(value slice:Expr) (bEX:bEV) (s:Shared) (σ:St) (H:Hp) (x y:V) (v u:Value) (Q:VK),Inv X bEX σ H s->RelV x v->RelV y u->r x y H Q ->
  subscripted slice false v u=operate [v,u] (getItem v u)->wpAny (model X.prog X.w) X.A (subscriptTail value slice v u) (EP X bEX σ Q) X.xe s
def MtR (X:Cx)(id:String)(r:V->List V->Hp->VK->Prop):Prop:=
 ∀(bEX:bEV) (s:Shared) (σ:St) (H:Hp) (x:V) (xs:List V) (v:Value) (us:List Value) (Q:VK),Inv X bEX σ H s->RelV x v->Vals xs us->r x xs H Q ->
  wpAny (model X.prog X.w) X.A (call (.builtin id) (v::us)) (EP X bEX σ Q) X.xe s
section
variable {X:Cx}{a b:Expr}{ta tb:TE}{pos:Pos}
theorem bAs {r:R2}(hr:IxR X r)(ha:PE X a ta)(hb:PE X b tb)(hs:aM1 b):PE X (.Subscript a b pos) (tOp r ta tb):=by intro bEX s σ H Q I h;exact Subscript_ (aUt ha hb I h λv u s2 x y H2 I2 rx ry q=>hr a b bEX s2 σ H2 x y v u Q I2 rx ry q (hs _ _))
def bBc (K:bET):R2:=λx y H Q=>∃p xs i v,x=.ref p/\y=.int i/\SqL K H p xs/\atI xs i=some v/\Q v H
def bAu (K:bET):R2:=λx y H Q=>∃p xs i v,x=.ref p/\y=.int i/\SqT K H p xs/\atI xs i=some v/\Q v H
theorem fH:IxR X (bBc X.K):=by
 intro value slice bEX s σ H x y v u Q I rx ry h hs;obtain⟨p,xs,i,z,rfl,rfl,hq,he,q⟩:=h;cases rx;obtain⟨t,rfl⟩:=ry;obtain⟨its,r,pl,hz⟩:=I.list hq;obtain⟨j,h1,h2,h3,h4,h5⟩:=aMf he;obtain⟨w,ew,rw'⟩:=r.get h2;have hl:=r.length;have hn:=aBw;have fin:EP X bEX σ Q w s:=⟨z,H,I,rw',q⟩;by_cases h0:0<=i
 ·have hj:i.toNat=j:=by rw[seqIndex_of h0 h5] at h1;exact bAQ h1
  exact item_listR pl.isList h0 (by lia) (by rw[hj];simpa using ew) fin hs
 ·have hj:(i+(its.toArray.size:Int)).toNat=j:=by rw[seqIndex_neg (by lia) h4] at h1;rw[m7,<-hl];exact bAQ h1
  exact subscriptTail_builtinR (x:=w) pl.isList.typeIs slot_list_getitem.lookup
   (wpAny_getItem_list_neg (Q:=λr s'=>r=w/\EP X bEX σ Q r s') pl.isList (by lia) (by rw[m7] <;> lia) (by lia) (by rw[hj];simpa using ew) ⟨rfl,fin⟩) hs
theorem bK:IxR X (bAu X.K):=by
 intro value slice bEX s σ H x y v u Q I rx ry h hs;obtain⟨p,xs,i,z,rfl,rfl,hq,he,q⟩:=h;cases rx;obtain⟨t,rfl⟩:=ry;obtain⟨its,r,pl,hz⟩:=I.tuple hq;obtain⟨j,h1,h2,h3,h4,h5⟩:=aMf he;obtain⟨w,ew,rw'⟩:=r.get h2;have hl:=r.length;have hn:=aBw;have fin:EP X bEX σ Q w s:=⟨z,H,I,rw',q⟩;exact subscriptTail_builtinR (x:=w) pl.typeIs slot_tuple_getitem.lookup
  (getItem_tuple (j:=j) (Q:=λr s'=>r=w/\EP X bEX σ Q r s') pl (by lia) (by lia) (by rw[m7,<-hl];exact h1) (by simpa using ew) ⟨rfl,fin⟩) hs
theorem aLp (its:List Value)(n j:Nat)(u:Value):Obj.mapSeq (·.setIfInBounds j u) { cls:=.type "list",data:=.seq its.toArray n }={ cls:=.type "list",data:=.seq (its.set j u).toArray n }:=by simp[Obj.mapSeq]
theorem Inv.lst {bEX:bEV}{σ:St}{H:Hp}{s:Shared}{p:Addr}{xs:List V}(I:Inv X bEX σ H s)(h:H p=some (.lst xs)) :
  ∃(its:List Value) (n:Nat),Vals xs its/\s.heap.get? p=some { cls:=.type "list",data:=.seq its.toArray n }/\xs.length<=sizeLine:=by
 obtain⟨z,its,n,r,e⟩:=I.hok p _ h;exact⟨its,n,r,e,z⟩
theorem Inv.aXu {bEX:bEV}{σ:St}{H:Hp}{s:Shared}{p:Addr}{xs ys:List V}{its its':List Value}{n n':Nat}{f:Obj->Obj}(I:Inv X bEX σ H s)(h:H p=some (.lst xs))
  (ho:s.heap.get? p=some { cls:=.type "list",data:=.seq its.toArray n }) (hf:f { cls:=.type "list",data:=.seq its.toArray n }={ cls:=.type "list",data:=.seq its'.toArray n' }) (r:Vals ys its') (hz:ys.length<=sizeLine) (t:Nat) :
  Inv X bEX σ (upd H p (.lst ys)) { s with heap:=s.heap.update p f,toks:=t }:=by
 have e:(s.heap.update p f).get? p=some { cls:=.type "list",data:=.seq its'.toArray n' }:=by rw[bAX f ho (by rw[hf] <;> rfl),hf]
 refine I.write (x:=p) (e:=p) (by rw[h];trivial) (.inl rfl) (λb u hb q=>(bBG _ _ (Ne.symm hb)).trans q) ⟨_,e⟩ ?_;exact⟨hz,its',n',r,e⟩
def aZq:V->V->V->Hp->(Hp->Prop)->Prop:=λo i v H Q=>∃p xs k j,o=.ref p/\i=.int k/\H p=some (.lst xs)/\ixN xs.length k=some j/\Q (upd H p (.lst (xs.set j v)))
theorem set_list:aW4 X aZq:=by
 intro bEX s σ H o i v ov iv u Q I ro ri rv h;obtain⟨p,xs,k,j,rfl,rfl,hp,hj,q⟩:=h;cases ro;obtain⟨t,rfl⟩:=ri;obtain⟨its,n,r,ho,hz⟩:=I.lst hp;obtain⟨h1,h2,h3,h4⟩:=aNs hj;have hl:=r.length;have hn:=aBw;have I':Inv X bEX σ (upd H p (.lst (xs.set j v))) { s with heap:=s.heap.update p (Obj.mapSeq (·.setIfInBounds j u)) }:=
  I.aXu hp ho (aLp its n j u) (r.set rv j) (by rw[List.length_set];exact hz) s.toks
 by_cases h0:0<=k
 ·have hk:k.toNat=j:=by rw[seqIndex_of h0 h4] at h1;exact bAQ h1
  exact PySem.W.ki_setAt ho h0 (by lia) (by rw[m7,<-hl];exact h4) (by rw[hk];exact⟨_,I',q⟩)
 ·have hk:(k+(its.toArray.size:Int)).toNat=j:=by rw[seqIndex_neg (by lia) h3] at h1;rw[m7,<-hl];exact bAQ h1
  exact PySem.W.ki_setBack ho (by lia) (by rw[m7,<-hl];exact h3) (by lia) (by rw[hk];exact⟨_,I',q⟩)
theorem aF8 (lo hi:Option Int)(n:Nat):(sliceBounds lo hi none n).1=((HT.sIx n 0 lo:Nat):Int)/\(sliceBounds lo hi none n).2.1=((HT.sIx n n hi:Nat):Int)/\(sliceBounds lo hi none n).2.2=1:=by
 refine⟨?_,?_,rfl⟩
 ·cases lo with
  |none=>simp[sliceBounds,HT.sIx]
  |some i=>
   simp only[sliceBounds,HT.sIx,Option.getD_none,show (1:Int) > 0 by decide,if_true];by_cases h:i<0
   ·simp only[h,if_true] <;> lia
   ·simp only[h,if_false] <;> lia
 ·cases hi with
  |none=>simp[sliceBounds,HT.sIx]
  |some i=>
   simp only[sliceBounds,HT.sIx,Option.getD_none,show (1:Int) > 0 by decide,if_true];by_cases h:i<0
   ·simp only[h,if_true] <;> lia
   ·simp only[h,if_false] <;> lia
theorem aCu (its:List Value)(lo hi:Option Int):slicePick its.toArray lo hi none=((its.drop (HT.sIx its.length 0 lo)).take (HT.sIx its.length its.length hi - HT.sIx its.length 0 lo)).toArray:=by obtain⟨h1,h2,h3⟩:=aF8 lo hi its.toArray.size;unfold slicePick;rw[h1,h2,h3];simp only[sliceRange_one,pick_run,m7] <;> rfl
def bA3 (K:bET):V->Option Int->Option Int->Hp->VK->Prop:=λx lo hi H Q=>∃a xs,x=.ref a/\SqL K H a xs/\∀p,H p=none->Q (.ref p) (upd H p (.lst (qI xs lo hi)))
theorem aUd:SlR X (bA3 X.K):=by intro bEX s σ H x v vl vu lo hi sl Q I rx hs pl pu h;obtain⟨a,xs,rfl,hx,q⟩:=h;cases rx;obtain⟨its,r,ht,hz⟩:=I.list hx;have hlen:=r.length;refine⟨"list",_,slot_list_getitem.lookup,ht.isList.typeIs,?_⟩;refine wpAny_getItem_list_slice ht.isList hs pl pu .none (by simp) ?_ (by rw[m7] <;> lia);rw[aCu,<-hlen];refine⟨.ref s.heap.objs.size,_,I.laid (t':=s.toks) (o:=.lst (qI xs lo hi)) (λb ob q=>j0 _ q) (j6 _) ?_,rfl,q _ (I.hok.fresh (j6 _))⟩;exact⟨bAP (yG xs lo hi) hz,_,0,(r.drop (HT.sIx xs.length 0 lo)).take (HT.sIx xs.length xs.length hi - HT.sIx xs.length 0 lo),j5 _ rfl⟩
def lM:V->Bool
 |.non=>true
 |.bl _=>true
 |.int _=>true
 |.str _=>true
 |_=>false
def eqV:V->V->Bool
 |.non,.non=>true
 |.bl a,.bl b=>a == b
 |.bl a,.int b=>(if a then 1 else 0) == b
 |.int a,.bl b=>a == (if b then 1 else 0)
 |.int a,.int b=>a == b
 |.str a,.str b=>a == b
 |_,_=>false
theorem aTf {A:Around}{s:Shared}{y x:V}{u v:Value}(ry:RelV y u)(rx:RelV x v)(fy:lM y=true)(fx:lM x=true):SeqAt.EqAt A s u v (eqV y x):=by
 cases y with
 |non=>
  cases ry;cases x with
  |non=>cases rx;exact bDO _
  |bl b=>cases rx;exact SeqAt.EqAt.none_bool b
  |int b=>obtain⟨t,rfl⟩:=rx;exact SeqAt.EqAt.none_int b t
  |str b=>obtain⟨t,rfl⟩:=rx;exact SeqAt.EqAt.none_str b t
  |_=>exact absurd (show false=true from fx) t6
 |bl a=>
  cases ry;cases x with
  |non=>cases rx;exact SeqAt.EqAt.bool_none a
  |bl b=>cases rx;exact SeqAt.EqAt.bool_bool a b
  |int b=>obtain⟨t,rfl⟩:=rx;exact SeqAt.EqAt.bool_int a b t
  |str b=>obtain⟨t,rfl⟩:=rx;exact SeqAt.EqAt.bool_str a b t
  |_=>exact absurd (show false=true from fx) t6
 |int a=>
  obtain⟨t',rfl⟩:=ry;cases x with
  |non=>cases rx;exact SeqAt.EqAt.int_none a t'
  |bl b=>cases rx;exact SeqAt.EqAt.int_bool a t' b
  |int b=>obtain⟨t,rfl⟩:=rx;exact bEM a t' b t
  |str b=>obtain⟨t,rfl⟩:=rx;exact SeqAt.EqAt.int_str a t' b t
  |_=>exact absurd (show false=true from fx) t6
 |str a=>
  obtain⟨t',rfl⟩:=ry;cases x with
  |non=>cases rx;exact SeqAt.EqAt.str_none a t'
  |bl b=>cases rx;exact SeqAt.EqAt.str_bool a t' b
  |int b=>obtain⟨t,rfl⟩:=rx;exact SeqAt.EqAt.str_int a t' b t
  |str b=>obtain⟨t,rfl⟩:=rx;exact bDR a t' b t
  |_=>exact absurd (show false=true from fx) t6
 |_=>exact absurd (show false=true from fy) t6
def eqU (x:V)(u:Value):Bool:=match u with
 |.none=>eqV .non x
 |.bool b=>eqV (.bl b) x
 |.int i _=>eqV (.int i) x
 |.str z _=>eqV (.str z) x
 |_=>false
theorem aQv {x y:V}{u:Value}(r:RelV y u)(f:lM y=true):eqU x u=eqV y x:=by
 cases y with
 |non=>cases r;rfl
 |bl b=>cases r;rfl
 |int i=>obtain⟨t,rfl⟩:=r;rfl
 |str z=>obtain⟨t,rfl⟩:=r;rfl
 |_=>exact absurd (show false=true from f) t6
theorem uN {x:V}:∀{xs:List V} {us:List Value},Vals xs us->xs.all lM=true->us.any (eqU x)=xs.any λy=>eqV y x
 |_,_,.nil,_=>rfl
 |y::xs,u::us,.cons r t,f=>by rw[List.all_cons,bAU] at f;rw[bD7,bD7,aQv r f.1,uN t f.2]
theorem qZ {A:Around}{s:Shared}{x:V}{v:Value}(rx:RelV x v)(fx:lM x=true):∀{xs:List V} {us:List Value},Vals xs us->xs.all lM=true->∀u∈us,SeqAt.EqAt A s u v (eqU x u)
 |_,_,.nil,_=>λu hu=>by cases hu
 |y::xs,u::us,.cons r t,f=>λu' hu=>by
  rw[List.all_cons,bAU] at f;rcases List.mem_cons.mp hu with rfl|hu
  ·rw[aQv r f.1];exact aTf r rx f.1 fx
  ·exact qZ rx fx t f.2 u' hu
def inV (x:V)(xs:List V):Bool:=xs.any λy=>eqV y x
def rIn (K:bET)(neg:Bool):R2:=λx y H Q=>∃p xs,y=.ref p/\(SqL K H p xs\/SqT K H p xs)/\lM x=true/\xs.all lM=true/\Q (.bl (if neg then !inV x xs else inV x xs)) H
theorem xO:OpR X (compareOp .In) (rIn X.K false):=by
 intro bEX s σ H x y v u Q I rx ry h;obtain⟨p,xs,rfl,hq,fx,fs,q⟩:=h;cases ry;rcases hq with hq|hq
 ·obtain⟨its,r,pl,hz⟩:=I.list hq;refine SeqAt.in_listAt (eqU x) pl.isList (λw hw=>qZ rx fx r fs w (by simpa using hw)) ⟨.bl _,H,I,rfl,?_⟩;rw[show its.toArray.any (eqU x)=its.any (eqU x) by simp,uN r fs];exact q
 ·obtain⟨its,r,pl,hz⟩:=I.tuple hq;refine SeqAt.in_tupleAt (eqU x) pl (λw hw=>qZ rx fx r fs w (by simpa using hw)) ⟨.bl _,H,I,rfl,?_⟩;rw[show its.toArray.any (eqU x)=its.any (eqU x) by simp,uN r fs];exact q
theorem aEg:OpR X (compareOp .NotIn) (rIn X.K true):=by
 intro bEX s σ H x y v u Q I rx ry h;obtain⟨p,xs,rfl,hq,fx,fs,q⟩:=h;cases ry;rcases hq with hq|hq
 ·obtain⟨its,r,pl,hz⟩:=I.list hq;refine SeqAt.notIn_listAt (eqU x) pl.isList (λw hw=>qZ rx fx r fs w (by simpa using hw)) ⟨.bl _,H,I,rfl,?_⟩;rw[show its.toArray.any (eqU x)=its.any (eqU x) by simp,uN r fs];exact q
 ·obtain⟨its,r,pl,hz⟩:=I.tuple hq;refine SeqAt.notIn_tupleAt (eqU x) pl (λw hw=>qZ rx fx r fs w (by simpa using hw)) ⟨.bl _,H,I,rfl,?_⟩;rw[show its.toArray.any (eqU x)=its.any (eqU x) by simp,uN r fs];exact q
theorem bI:cD X (.builtin "len") (λxs H Q=>∃p ys,xs=[.ref p]/\(SqL X.K H p ys\/SqT X.K H p ys)/\Q (.int ys.length) H):=by
 intro bEX s σ H xs us Q I r h;obtain⟨p,ys,rfl,hq,q⟩:=h;obtain⟨u,rfl,rx⟩:=vals1 r;cases rx;have hn:=aBw;rcases hq with hq|hq
 ·obtain⟨its,r',pl,hz⟩:=I.list hq;have hlen:=r'.length;exact Calls.call_len_list pl.isList (by simp only[m7] <;> lia) ⟨.int ys.length,H,I.tok _,⟨s.toks+1,by rw[m7,hlen]⟩,q⟩
 ·obtain⟨its,r',pl,hz⟩:=I.tuple hq;have hlen:=r'.length;exact len_tuple pl (by simp only[m7] <;> lia) ⟨.int ys.length,H,I.tok _,⟨s.toks+1,by rw[m7,hlen]⟩,q⟩
theorem vB:cD X (.builtin "len") (λxs H Q=>∃z,xs=[.str z]/\z.length<=sizeLine/\Q (.int z.length) H):=by intro bEX s σ H xs us Q I r h;obtain⟨z,rfl,hz,q⟩:=h;obtain⟨u,rfl,t,rfl⟩:=vals1 r;have hn:=aBw;exact len_str (by lia) ⟨.int z.length,H,I.tok _,⟨_,rfl⟩,q⟩
theorem cD.or {f:Value}{r r':List V->Hp->VK->Prop}(h:cD X f r)(h':cD X f r'):cD X f (λxs H Q=>r xs H Q\/r' xs H Q):=by
 intro bEX s σ H xs us Q I rs q;rcases q with q|q
 ·exact h bEX s σ H xs us Q I rs q
 ·exact h' bEX s σ H xs us Q I rs q
theorem aE8:cD X (.type "list") (λxs H Q=>∃p ys,xs=[.ref p]/\(SqL X.K H p ys\/SqT X.K H p ys)/\∀l,H l=none->Q (.ref l) (upd H l (.lst ys))):=by
 intro bEX s σ H xs us Q I r h;obtain⟨p,ys,rfl,hq,q⟩:=h;obtain⟨u,rfl,rx⟩:=vals1 r;cases rx;have fin:∀(its:List Value),Vals ys its->ys.length<=sizeLine->∀(h':Heap) (c':Nat),(∀b o',s.heap.get? b=some o'->h'.get? b=some o') ->
   h'.get? s.heap.objs.size=some { cls:=.type "list",dict:=none,data:=.seq its.toArray c',slots:=#[] }->EP X bEX σ Q (.ref s.heap.objs.size) { s with heap:=h' }:=λits r' hz h' c' kp e=>
  ⟨.ref s.heap.objs.size,_,I.laid (t':=s.toks) kp (j6 _) (show cU X.prog X.w _ h' _ (.lst ys) from ⟨hz,its,c',r',e⟩),rfl,q _ (I.hok.fresh (j6 _))⟩
 rcases hq with hq|hq
 ·obtain⟨its,r',pl,hz⟩:=I.list hq;have hlen:=r'.length;obtain⟨o,ho,hc,n,hd⟩:=pl.isList;exact call_list_seq p (.inl rfl) ho hc hd (λh' c' kp e=>fin its r' hz h' c' kp e) (by simp only[m7] <;> lia)
 ·obtain⟨its,r',pl,hz⟩:=I.tuple hq;have hlen:=r'.length;obtain⟨o,ho,hc,n,hd⟩:=pl;exact call_list_seq p (.inr rfl) ho hc hd (λh' c' kp e=>fin its r' hz h' c' kp e) (by simp only[m7] <;> lia)
theorem aB8:cD X (.type "tuple") (λxs H Q=>∃p ys,xs=[.ref p]/\((SqL X.K H p ys/\∀l,H l=none->Q (.ref l) (upd H l (.tup ys)))\/(SqT X.K H p ys/\Q (.ref p) H))):=by
 intro bEX s σ H xs us Q I r h;obtain⟨p,ys,rfl,h⟩:=h;obtain⟨u,rfl,rx⟩:=vals1 r;cases rx;rcases h with⟨hq,q⟩|⟨hq,q⟩
 ·obtain⟨its,r',pl,hz⟩:=I.list hq;have hlen:=r'.length;refine call_tuple_list pl.isList (λh' kp=>?_) (by simp only[m7] <;> lia);have I1:Inv X bEX σ H { s with heap:=h' }:=I.kept (t':=s.toks) kp;have I2:Inv X bEX σ (upd H h'.objs.size (.tup ys)) { s with heap:=h'.push { cls:=.type "tuple",data:=.seq its.toArray } }:=
   I1.laid (t':=s.toks) (λb o e=>j0 _ e) (j6 _) (show cU X.prog X.w _ _ _ (.tup ys) from ⟨hz,its,r',yL.new _ _⟩)
  exact⟨.ref h'.objs.size,_,I2,rfl,q _ (I1.hok.fresh (j6 _))⟩
 ·obtain⟨its,r',pl,hz⟩:=I.tuple hq;exact call_tuple_same pl ⟨.ref p,H,I,rfl,q⟩
def tyV (K:bET)(T:String)(x:V)(H:Hp):Prop:=match x with
 |.str _=>T = "str"
 |.int _=>T = "int"
 |.ref p=>(T = "list"/\∃xs,SqL K H p xs)\/(T = "tuple"/\∃o,K.lookup p=some o/\o.cls=.type "tuple"/\o.dict=none) \/
   (T = "dict"/\((∃kvs,H p=some (.dK kvs))\/∃kvs,H p=some (.dT kvs)))\/(T = "set"/\∃S n,H p=some (.set S n))
 |_=>False
theorem aJ3 {bEX:bEV}{σ:St}{H:Hp}{s:Shared}{T:String}{x:V}{v:Value}(I:Inv X bEX σ H s)(r:RelV x v)(ty:tyV X.K T x H) :
  s.TypeIs v T/\∀a,v=.ref a->∃ob,s.heap.get? a=some ob/\ob.dict=none:=by
 cases x with
 |str z=>obtain⟨t,rfl⟩:=r;cases (show T = "str" from ty);exact⟨typeIs_str s z t,λ_ e=>nomatch e⟩
 |int i=>obtain⟨t,rfl⟩:=r;cases (show T = "int" from ty);exact⟨typeIs_int s i t,λ_ e=>nomatch e⟩
 |ref p=>
  cases r;rcases ty with⟨rfl,xs,hq⟩|⟨rfl,o,hk,hc,hd⟩|⟨rfl,hk⟩|⟨rfl,S,n,hk⟩
  ·obtain⟨its,_,pl,_⟩:=I.list hq;refine⟨pl.isList.typeIs,λa e=>?_⟩;cases e;obtain⟨o,n,e,c,hd,_⟩:=pl;exact⟨o,e,hd⟩
  ·refine⟨⟨o,I.kIn p o hk,hc⟩,λa e=>?_⟩;cases e;exact⟨o,I.kIn _ o hk,hd⟩
  ·have z:∃o,s.heap.get? p=some o/\o.ExactDict:=by
    rcases hk with⟨kvs,hk⟩|⟨kvs,hk⟩
    ·obtain⟨_,_,_,_,o,_,_,e,ex,_⟩:=I.hok p _ hk;exact⟨o,e,ex⟩
    ·obtain⟨_,_,_,_,o,_,_,e,ex,_⟩:=I.hok p _ hk;exact⟨o,e,ex⟩
   obtain⟨o,e,ex⟩:=z;refine⟨⟨o,e,ex.1⟩,λa e2=>?_⟩;cases e2;exact⟨o,e,ex.2.1⟩
  ·obtain⟨o,_,_,_,e,ex,_⟩:=I.hok p _ hk;refine⟨⟨o,e,ex.1⟩,λa e2=>?_⟩;cases e2;exact⟨o,e,ex.2.1⟩
 |_=>exact False.elim ty
def aZr (K:bET)(T:String)(r:V->List V->Hp->VK->Prop)(to:TE):TE:=fun σ H Q=>to σ H λx H1=>tyV K T x H1/\r x [] H1 Q
def tBM (K:bET)(T:String)(r:V->List V->Hp->VK->Prop)(to:TE)(t:TA):TE:=fun σ H Q=>to σ H λx H1=>tyV K T x H1/\t σ H1 λxs H2=>r x xs H2 Q
variable {o e:Expr}{es:List Expr}{to:TE}{t:TA}{name:Str}{apos cpos:Pos}{T id:String}{r:V->List V->Hp->VK->Prop}
theorem aXz (pa:PlainAttrs T)(slot:Slot T name id)(hty:typeOf (.builtin id)=pure (.type "method_descriptor"))(hm:MtR X id r)(ho:PE X o to)
  (hbase:attributeBase o name X.env (eval o X.env)=eval o X.env:=by rfl) (hline:(apos.endLine == cpos.line)=true:=by rfl):PE X (.Call (.Attribute o name apos) [] [] cpos) (aZr X.K T r to):=by
 intro bEX s σ H Q I h;refine wpAny_Call_method0_late hbase hline (thn (ho bEX s σ H _ I h) λv s1 ⟨x,H1,I1,r1,ty,q1⟩=>?_);obtain⟨h1,h2⟩:=aJ3 I1 r1 ty;exact⟨T,id,pa,slot,hty,h1,h2,bC6 rfl (PySem.evalArgs_none (hm bEX s1 σ H1 x [] v [] Q I1 r1 .nil q1))⟩
theorem aZ0 (pa:PlainAttrs T)(slot:Slot T name id)(hty:typeOf (.builtin id)=pure (.type "method_descriptor"))(hm:MtR X id r)(ho:PE X o to)(ha:PA X (e::es) t)
  (hbase:attributeBase o name X.env (eval o X.env)=eval o X.env:=by rfl)
  (hfew:((backTo cpos (starEach (e::es) X.env)).all (λx=>!x.1) && (backToKw cpos (keywordEach [] X.env)).all (λx=>x.1.isSome)
   && decide ((e::es).length+([]:List Keyword).length+(if ([]:List Keyword).isEmpty then 0 else 1)<30))=true:=by rfl)
  (hline:(apos.endLine == cpos.line)=true:=by rfl) (hs:starEach (e::es) X.env=(false,eval e X.env)::starEach es X.env:=by rfl) (hplain:(backTo cpos (starEach es X.env)).any (·.1)=false:=by rfl) :
  PE X (.Call (.Attribute o name apos) (e::es) [] cpos) (tBM X.K T r to t):=by
 intro bEX s σ H Q I h;refine wpAny_Call_method_late hbase hfew hline rfl (thn (ho bEX s σ H _ I h) λv s1 ⟨x,H1,I1,r1,ty,q1⟩=>?_);obtain⟨h1,h2⟩:=aJ3 I1 r1 ty;refine⟨T,id,pa,slot,hty,h1,h2,?_⟩;have hA:=ha cpos bEX s1 σ H1 _ I1 q1;rw[hs] at hA ⊢;refine bC6 (by show (false || (backTo cpos (starEach es X.env)).any (·.1))=false;rw[hplain] <;> rfl) (bD9 ?_);exact thn hA λus s2 ⟨vs,H2,I2,r2,q2⟩=>hm bEX s2 σ H2 x vs v us Q I2 r1 r2 q2
end
def MtM (X:Cx)(id:String)(r:V->List V->Hp->VK->Prop):Prop:=
 ∀(bEX:bEV) (s:Shared) (σ:St) (H:Hp) (x:V) (xs:List V) (v:Value) (us:List Value) (Q:VK),Inv X bEX σ H s->RelV x v->Vals xs us->r x xs H Q ->
  wpAny (model X.prog X.w) X.A (call (.builtin id) (v::us)) (EP X bEX σ Q) X.xe s
theorem Vals.one:∀{x:V} {us:List Value},Vals [x] us->∃u,us=[u]/\RelV x u
 |_,_,.cons r .nil=>⟨_,rfl,r⟩
theorem Vals.two:∀{x y:V} {us:List Value},Vals [x,y] us->∃u v,us=[u,v]/\RelV x u/\RelV y v
 |_,_,_,.cons r (.cons q .nil)=>⟨_,_,rfl,r,q⟩
theorem Vals.zero:∀{us:List Value},Vals [] us->us=[]
 |_,.nil=>rfl
theorem Vals.eraseIdx:∀{xs:List V} {us:List Value} (i:Nat),Vals xs us->Vals (xs.eraseIdx i) (us.eraseIdx i)
 |_,_,_,.nil=>.nil
 |_,_,0,.cons _ t=>t
 |_,_,i+1,.cons r t=>.cons r (Vals.eraseIdx i t)
theorem Vals.reverse {xs:List V}{us:List Value}(h:Vals xs us):Vals xs.reverse us.reverse:=by
 induction h with
 |nil=>exact .nil
 |cons r t ih=>rw[List.reverse_cons,List.reverse_cons];exact Vals.append ih (.cons r .nil)
theorem aC7 {α:Type}:∀(l:List α) (i:Nat),(l.eraseIdx i).length<=l.length
 |[],_=>j6 _
 |_::_,0=>bCU _
 |_::r,i+1=>Nat.succ_le_succ (aC7 r i)
section
variable {X:Cx}{bEX:bEV}{σ:St}{H:Hp}{s:Shared}{l b:Addr}{xs ys zs:List V}
theorem Inv.lset {its its':List Value}{n:Nat}{f:Array Value->Array Value}{t':Nat}(I:Inv X bEX σ H s)(hH:H l=some (.lst xs))
  (e:s.heap.get? l=some { cls:=.type "list",data:=.seq its.toArray n }) (hf:f its.toArray=its'.toArray) (hv:Vals ys its') (hz:ys.length<=sizeLine) :
  Inv X bEX σ (upd H l (.lst ys)) { s with heap:=s.heap.update l (Obj.mapSeq f),toks:=t' }:=by
 have q:=PySem.IsL.update e f;rw[hf] at q;refine I.write (x:=l) (e:=l) (by rw[hH];exact trivial) (.inl rfl) (λb' u hb hu=>(bBG s.heap (Obj.mapSeq f) (Ne.symm hb)).trans hu) ⟨_,q⟩ ?_;exact⟨hz,its',_,hv,q⟩
theorem Inv.lnew {its:List Value}{t':Nat}(I:Inv X bEX σ H s)(hv:Vals ys its)(hz:ys.length<=sizeLine) :
  Inv X bEX σ (upd H s.heap.objs.size (.lst ys)) { s with heap:=s.heap.push { cls:=.type "list",data:=.seq its.toArray },toks:=t' }:=
 I.laid (λ_ _ q=>j0 _ q) (j6 _) ⟨hz,its,0,hv,j5 _ rfl⟩
theorem Inv.fresh (I:Inv X bEX σ H s):H s.heap.objs.size=none:=I.hok.fresh (j6 _)
theorem Inv.aPt (I:Inv X bEX σ H s)(hH:H l=some (.lst xs)):xs.length<=sizeLine/\∃(its:List Value) (n:Nat),Vals xs its/\xs.length=its.length/\s.heap.get? l=some { cls:=.type "list",data:=.seq its.toArray n }:=by obtain⟨z,its,n,r,e⟩:=I.hok l _ hH;exact⟨z,its,n,r,r.length,e⟩
end
section
variable {X:Cx}
def aMu:V->List V->Hp->VK->Prop:=λx vs H Q=>∃l xs y,x=.ref l/\vs=[y]/\H l=some (.lst xs)/\xs.length<sizeLine/\Q .non (upd H l (.lst (xs++[y])))
theorem xQ:MtM X "list.append" aMu:=by intro bEX s σ H x vs v us Q I rx rv h;obtain⟨l,xs,y,rfl,rfl,hH,hz,q⟩:=h;cases rx;obtain⟨u,rfl,ru⟩:=rv.one;obtain⟨z,its,n,r,hl,e⟩:=I.aPt hH;refine call_meets F.slot_list_append ⟨_,e,rfl⟩ F.entry_list_append (F.args_list_append_2 _ _) (PySem.list_append l its.toArray n u (by rw[m7];lia)) ⟨e,?_⟩;refine⟨.non,_,I.lset (its':=its++[u]) hH e (by simp) (r.append (.cons ru .nil)) ?_,rfl,q⟩;rw[bAC,bD4];lia
def aQj:V->List V->Hp->VK->Prop:=λx vs H Q=>∃l xs i k y,x=.ref l/\vs=[.int i]/\H l=some (.lst xs)/\-(2 ^ 63)<=i/\i<2 ^ 63/\seqIndex? i xs.length=some k/\xs[k]?=some y/\Q y (upd H l (.lst (xs.eraseIdx k)))
theorem aQ4:MtM X "list.pop" aQj:=by
 intro bEX s σ H x vs v us Q I rx rv h;obtain⟨l,xs,i,k,y,rfl,rfl,hH,h1,h2,hk,hy,q⟩:=h;cases rx;obtain⟨u,rfl,ru⟩:=rv.one;obtain⟨t,rfl⟩:=ru;obtain⟨z,its,n,r,hl,e⟩:=I.aPt hH;obtain⟨w,hw,rw'⟩:=r.get hy;refine call_meets F.slot_list_pop ⟨_,e,rfl⟩ F.entry_list_pop (F.args_list_pop_2 _ _)
  (MeetsSeq.list_pop_at l its.toArray n i t k w (fitsIndex_both h1 h2) (by rw[m7,<-hl];exact hk) (by rw[<-bBI];exact hw) (by rw[m7];lia)) ⟨e,?_⟩
 refine⟨y,_,I.lset (its':=its.eraseIdx k) hH e ?_ (r.eraseIdx k) ?_,rw',q⟩
 ·show its.toArray.eraseIdxIfInBounds k=(its.eraseIdx k).toArray;rw[bD3]
 ·have:=aC7 xs k;lia
def aH0:V->List V->Hp->VK->Prop:=λx vs H Q=>∃l xs,x=.ref l/\vs=[]/\H l=some (.lst xs)/\Q .non (upd H l (.lst xs.reverse))
theorem aKs:MtM X "list.reverse" aH0:=by intro bEX s σ H x vs v us Q I rx rv h;obtain⟨l,xs,rfl,rfl,hH,q⟩:=h;cases rx;have hus:=rv.zero;subst hus;obtain⟨z,its,n,r,hl,e⟩:=I.aPt hH;refine call_meets F.slot_list_reverse ⟨_,e,rfl⟩ F.entry_list_reverse (F.args_list_reverse_1 _) (AutoSeq1.list_reverse_list_0 l its.toArray n (by rw[m7];lia)) ⟨e,?_⟩;refine⟨.non,_,I.lset (its':=its.reverse) hH e (by simp) r.reverse ?_,rfl,q⟩;rw[List.length_reverse];lia
def bBi:R2:=λx y H Q=>∃l b xs zs,x=.ref l/\y=.ref b/\H l=some (.lst xs)/\H b=some (.lst zs)/\xs.length+zs.length<=sizeLine/\∀p,H p=none->Q (.ref p) (upd H p (.lst (xs++zs)))
theorem aYe:OpR X (binaryOp .Add) bBi:=by
 intro bEX s σ H x y v u Q I rx ry h;obtain⟨l,b,xs,zs,rfl,rfl,hH,hB,hz,q⟩:=h;cases rx;cases ry;obtain⟨z,its,n,r,hl,e⟩:=I.aPt hH;obtain⟨z2,its2,n2,r2,hl2,e2⟩:=I.aPt hB;refine PySem.P.add_list e e2 ?_ (by rw[m7,m7];lia);have ea:its.toArray++its2.toArray=(its++its2).toArray:=by simp
 rw[ea];exact⟨.ref _,_,I.lnew (t':=s.toks) (r.append r2) (by rw[bAC];lia),rfl,q _ I.fresh⟩
end
section
variable {prog:Program}{w:World}{A:Around}{E:bEU}{s:Shared}
end
section
variable {X:Cx}
end
end L2
namespace Att
open PySem PySem.W PySem.Calls PyProof.Rows
theorem yO {P:Params}{h:Heap}:∀(ns:List Int) (vs:List Value),WellAll P h vs (ns.map WData.int)->IntsAre vs ns:=by
 intro ns
 induction ns with
 |nil=>intro vs w;rw[List.map_nil] at w;cases w;exact .nil
 |cons n ns ih=>
  intro vs w;rw[bAM] at w;cases w with
  |cons a b=>cases a;exact .cons _ _ (ih _ b)
theorem aO5 {l:OpenLaw}{n:Nat}(hn:l.most=some n){P:Params}{h:Heap}{args:List WData}{vals:List Value}
  (hpre:l.row.toRowW.claim.pre args=true) (hwl:WellAll P h vals args) :
  ∃a vs ns,vals=[Value.ref a]/\args=[WData.list (ns.map WData.int)]/\h.get? a=some { cls:=.type "list",data:=.seq vs.toArray }/\IntsAre vs ns/\ns.length<=n:=by
 have hsh:WShape.hasAll [] args [.list .int]=true:=(pre_splitW hpre).1;have hc:l.pre.holds [] { args:=args }=true:=(pre_splitW hpre).2;obtain⟨d,r,rfl,h1,h2⟩:=hasAllW_cons hsh;obtain rfl:=hasAllW_nil h2;obtain⟨xs,rfl,h3⟩:=hasW_list h1;obtain⟨ns,rfl⟩:=items_int h3;have hlen:ns.length<=n:=by
  unfold OpenLaw.pre at hc;have h4:(WTm.not (.lt (.lit (.int (n:Int))) (.len (.arg 0)))).holds [] { args:=[.list (ns.map .int)] }=true:=by have h4:=(holds_andW hc).1;rw[hn] at h4;exact h4
  have h5:=condW_of h4 (w_not (w_lt w_lit (w_len_list (w_arg rfl))));rw[j9] at h5;refine Nat.le_of_not_lt λq=>?_;have q':(n:Int)<((ns.length:Nat):Int):=by lia
  first
   |(rw[v6 q'] at h5;exact absurd h5 (by decide))
   |(simp at h5;lia)
 cases hwl with
 |cons w1 w2=>
  cases w2;cases w1 with
  |list ho hall=>exact⟨_,_,ns,rfl,rfl,ho,yO ns _ hall,hlen⟩
theorem aP5 (l:OpenLaw)(args:List WData):l.row.toRowW.claim.post args (.bool true) args=true:=
 postW_of (r:=l.row.toRowW) (X:=(true == true))
  (show WShape.has [] (.bool true) .bool=true by first|rfl|decide|simp[WShape.has,WShape.arms,WShape.armsAll])
  (show (WTm.eq .res (.lit (.bool true))).value [] { args:=args,res:=some (.bool true),after:=args }=some (.bool (true == true)) from w_eq_bool (w_res rfl) w_lit) rfl
theorem aJj {l:OpenLaw}{n:Nat}{q:Program}{loose:List Str}{XP:(bEW)->Heap->Prop}{YP:World->Heap->Prop}{d:DefRec}
  (hn:l.most=some n) (hdf:d.params.defaults=[])
  (call:∀(w:World) (s₀ s₁:Shared) (mg mb:bEW) (fa:Addr) (o:Obj) (pm cd doc:Value) (a:Addr) (vs:List Value) (ns:List Int),
   Ground q loose [] XP w s₀ mg mb s₁.heap->YP w s₁.heap ->
   s₁.heap.get? fa=some o->o.data=.func (docDef d.name d.params d.body d.scope pm cd doc)->s₁.heap.CodeRec cd d.name->mg d.name=some (.ref fa) ->
   s₁.heap.get? a=some { cls:=.type "list",data:=.seq vs.toArray }->IntsAre vs ns->ns.length<=n->s₁.gens=#[] ->
   codeAny (model l.prog w) callerA (.call (.ref fa) ⟨[.ref a],[]⟩) (λr s'=>r=.ok (.ret (.bool true))/\OldK s₁.heap s'.heap/\s'.os=s₁.os/\AllBare s'.gens) s₁) :
  WalkO q loose XP YP l.row.toRowW d [] (λf vs=>PySem.call f vs):=by
 intro w s₀ s₁ mg mb G Y fa o pm cd doc dV kV ho hd hcd hD hmg hg args vals as hpre hlay hrd hwl hlo;obtain rfl:dV=.none:=Dflts.none hD hdf;obtain rfl:kV=.none:=Dflts.noKw hD;obtain⟨a,vs,ns,rfl,rfl,hobj,hints,hlen⟩:=aO5 hn hpre hwl;refine enter_call (bBR (call w s₀ s₁ mg mb fa o pm cd doc a vs ns G Y ho (fd_plain hd) hcd hmg hobj hints hlen hg) λr s' hq=>?_);obtain⟨rfl,h2,h3,h4⟩:=hq;exact⟨.inl ⟨.bool true,.bool true,[],rfl,λ_=>rfl,.bool true,aP5 l _,λ_=>⟨List.Pairwise.nil,λ_ hm=>(nomatch hm)⟩⟩,h2,h3,h4⟩
section
variable {prog:Program}{w:World}{A:Around}{E:bEU}{s:Shared}{K:Frag}
end
end Att
namespace L2
open PySem PySem.Spec PyProof.Rows
theorem aDv:∀{vs:List Value} {ns:List Int},IntsAre vs ns->Vals (ns.map V.int) vs
 |_,_,.nil=>.nil
 |_,_,.cons n t h=>.cons ⟨t,rfl⟩ (aDv h)
abbrev KOf {K:bET}{h:Heap}(_:K.In h):bET:=K
def jX (s:Stmt):Arguments:=match s with
 |.FunctionDef _ a _ _ _ _ _ _ _ _=>a
 |_=>{ posonlyargs:=[],args:=[],vararg:=none,kwonlyargs:=[],kw_defaults:=[],kwarg:=none,defaults:=[] }
def cX (s:Stmt):List Stmt:=match s with
 |.FunctionDef _ _ b _ _ _ _ _ _ _=>b
 |_=>[]
def aF (s:Stmt):Scope:=match s with
 |.FunctionDef _ _ _ _ _ _ sc _ _ _=>sc
 |_=>{ kind:=.function,names:=[],isGenerator:=false,isCoroutine:=false }
abbrev CX0:CXT:=λ_ _ _ _ _ _=>False
abbrev E0:XK:=λ_ _ _=>False
theorem aA2 {X:Cx}:mO CX0 X E0:=λ_ _ _ _ _ _ _ h=>h.elim
structure Fun (K:bET)(x qual:Str)(st:Stmt)(f:Addr)(fd:FuncData):Prop where
 ex:∃(oc:Value) (od:Option Addr) (kV doc pm:Value) (an:Option Addr) (cdv ct:Value) (osl:Array (Option Value)),
  fd=PySem.W.fnOf x qual (jX st) (cX st) (aF st) .none kV doc pm an cdv ct/\K.lookup f=some ⟨oc,od,.func fd,osl⟩/\PySem.W.codeIn K cdv qual=true
 kp:PySem.W.keepIn K (.ref f)=true
section
variable {P:Program}{w:World}{K:bET}{mg:bEW}{base:Heap}
theorem Fun.ok {x qual:Str}{st:Stmt}{f:Addr}{fd:FuncData}{N ps:List Str}{k:Nat}{sp:Sp}(F:Fun K x qual st f fd)(S:aM N ps (aF st))(len:∀vs H Q E,sp vs H Q E->vs.length=ps.length)
  (hbody:∀(cdv:Value) (A:Around) (outer:List Env) (s:Shared) (H:Hp) (vs:List V) (Q:VK) (E:XK),Room k (A.deeper (envOfC qual (aF st) s.heap.objs.size f cdv))->sp vs H Q E ->
   ∃t,PSs (vW CX0 P w K mg base N qual (aF st) f cdv A outer s H E).nox (cX st) t/\t { nx:=λ_ H'=>Q .non H',rt:=Q } (start N vs) H):fQ P w K mg base CX0 (k+1) f fd ps sp:=by
 obtain⟨oc,od,kV,doc,pm,an,cdv,ct,osl,rfl,lk,hcd⟩:=F.ex;refine aRh lk hcd S len λA outer s H vs Q E hr hsp=>?_;obtain⟨t,h,q⟩:=hbody cdv A outer s H vs Q E hr hsp;exact⟨t,h.nox,q⟩
theorem Fun.binds {x qual:Str}{st:Stmt}{f:Addr}{fd:FuncData}{ps:List Str}(F:Fun K x qual st f fd)
  (h:∀(kV doc pm:Value) (an:Option Addr) (cdv ct:Value) (us:List Value),us.length=ps.length->bindArgs (PySem.W.fnOf x qual (jX st) (cX st) (aF st) .none kV doc pm an cdv ct) ⟨us,[]⟩=pure (ps.zip us)):Binds K fd ps []:=by
 obtain⟨oc,od,kV,doc,pm,an,cdv,ct,osl,rfl,lk,hcd⟩:=F.ex;exact .all (h kV doc pm an cdv ct)
theorem xH {x qual:Str}{st:Stmt}{f:Addr}{oc:Value}{od an:Option Addr}{osl:Array (Option Value)}{kV doc pm cdv ct:Value}(l:K.lookup f=some ⟨oc,od,.func (PySem.W.fnOf x qual (jX st) (cX st) (aF st) .none kV doc pm an cdv ct),osl⟩)
  (c:PySem.W.codeIn K cdv qual=true) (k:PySem.W.keepIn K (.ref f)=true):Fun K x qual st f (PySem.W.fnOf x qual (jX st) (cX st) (aF st) .none kV doc pm an cdv ct):=⟨⟨oc,od,kV,doc,pm,an,cdv,ct,osl,rfl,l,c⟩,k⟩
end
theorem wD {A:Around}{k:Nat}(hr:Room k A):A.units+1<cLine:=bCF (Nat.add_le_add_left (by decide:1<=64) _) hr.units
theorem jH {n:Nat}(h:n<=1000):n<sizeLine:=bCF h (by decide)
section
variable {X:Cx}
theorem pv (i:Nat){x:Str}{pos:Pos}(hN:X.N[i]?=some x:=by rfl)(hv:Vis X.env.scope x:=by trivial)(hd:(x == ("__debug__":Str))=false:=by decide)
  (hcd:(x == ("__classdict__":Str))=false:=by decide):PE X (.Name x pos) (vZ i):=aXr hN hv hd hcd
end
theorem bV {A B:Prop}(h:B):if false=true then A else B:=by rw[if_neg t6];exact h
theorem dI {A B:Prop}(h:A):if true=true then A else B:=by rw[if_pos rfl];exact h
theorem aK8 {c A B:Prop}[Decidable c](h1:c->A)(h2:¬ c->B):if c then A else B:=by
 by_cases h:c
 ·rw[if_pos h];exact h1 h
 ·rw[if_neg h];exact h2 h
def Same (H H':Hp):Prop:=∀b o,H b=some o->H' b=some o
theorem Same.refl (H:Hp):Same H H:=λ_ _ h=>h
theorem Same.trans {H H1 H2:Hp}(a:Same H H1)(b:Same H1 H2):Same H H2:=λc o h=>b c o (a c o h)
theorem Same.free {H H':Hp}(e:Same H H'){l:Addr}(h:H' l=Option.none):H l=Option.none:=by
 cases q:H l with
 |none=>rfl
 |some o=>rw[e l o q] at h;cases h
theorem Same.seq {K:bET}{H H':Hp}{a:Addr}{xs:List V}(e:Same H H')(h:SqL K H a xs):SqL K H' a xs:=by
 rcases h with (h|⟨o,h⟩)|h
 ·exact .inl (.inl (e _ _ h))
 ·exact .inl (.inr ⟨o,e _ _ h⟩)
 ·exact .inr h
end L2
namespace PySem
namespace RvF
end RvF
section
variable {prog:Program}{w:World}{A:Around}{E:bEU}{s:Shared}
end
end PySem
namespace L2
open PySem PySem.Spec PyProof.Rows
theorem aLz:bootBuiltins "int"=some (.type "int"):=by decide +kernel
theorem aT1:bootBuiltins "bool"=some (.type "bool"):=by decide +kernel
theorem aJr:bootBuiltins "str"=some (.type "str"):=by decide +kernel
theorem oY:bootBuiltins "list"=some (.type "list"):=by decide +kernel
theorem fP:bootBuiltins "tuple"=some (.type "tuple"):=by decide +kernel
theorem aNb:bootBuiltins "dict"=some (.type "dict"):=by decide +kernel
theorem aSb:bootBuiltins "set"=some (.type "set"):=by decide +kernel
theorem aTj:bootBuiltins "zip"=some (.type "zip"):=by decide +kernel
theorem aEx:bootBuiltins "enumerate"=some (.type "enumerate"):=by decide +kernel
theorem bJ:bootBuiltins "isinstance"=some (.builtin "isinstance"):=by decide +kernel
theorem dF:bootBuiltins "len"=some (.builtin "len"):=by decide +kernel
theorem tV:bootBuiltins "all"=some (.builtin "all"):=by decide +kernel
theorem aY2:bootBuiltins "any"=some (.builtin "any"):=by decide +kernel
theorem dN:bootBuiltins "sorted"=some (.builtin "sorted"):=by decide +kernel
theorem aU3 {J:It}{n:Nat}{item:Nat->V}{g:TG}{tb:TS}{D:Ends}{σ:St}{H:Hp}(Pv:Nat->St->Hp->Prop)
  (hgo:∀i H,i<n->J.go i H) (hst:∀H,J.stop n H) (hy:∀i H x H',i<n->J.yld i H x H'->H'=H/\x=item i) (h0:Pv 0 σ H)
  (hs:∀i σ H,i<n->Pv i σ H->g (item i) σ H fun σ2 H2=>tb { D with nx:=Pv (i+1),ct:=Pv (i+1),bk:=D.nx } σ2 H2) (hd:∀σ H,Pv n σ H->D.nx σ H) :
  ∃W:Nat->Nat->St->Hp->Prop,(∃m,W 0 m σ H)/\∀i m σ H,W i m σ H ->
   (J.stop i H/\D.nx σ H)\/(J.go i H/\∃N:St->Hp->Prop,(∀σ' H',N σ' H'->∃m',m'<m/\W (i+1) m' σ' H')/\∀x H',J.yld i H x H'->g x σ H' fun σ2 H2=>tb { D with nx:=N,ct:=N,bk:=D.nx } σ2 H2):=by
 refine⟨λi m σ H=>m=n - i/\i<=n/\Pv i σ H,⟨n,by simp,bAJ _,h0⟩,?_⟩;rintro i m σ H ⟨rfl,hi,p⟩;by_cases hlt:i<n
 ·refine .inr ⟨hgo i H hlt,Pv (i+1),fun σ' H' p'=>⟨n - (i+1),by lia,rfl,hlt,p'⟩,λx H' y=>?_⟩;obtain⟨e1,e2⟩:=hy i H x H' hlt y;subst e1 e2;exact hs i σ _ hlt p
 ·have e:i=n:=by lia
  subst e;exact .inl ⟨hst H,hd σ H p⟩
def sgn (x:Str)(i:Nat):Str:=⟨#[x.cps.getD i 0]⟩
theorem aR8 {x:Str}{i c:Nat}(h:x.cps[i]?=some c):(⟨#[c]⟩:Str)=sgn x i:=by unfold sgn;rw[v7,h];rfl
def Its (x:Str):It:=⟨λi _=>i<x.cps.size,λi H v H'=>H'=H/\v=.str (sgn x i),λi _=>x.cps.size<=i⟩
theorem aPy {P:Program}{w:World}{K:bET}{tg:Expr}(it:Addr)(x:Str)(t:Tok):Turn P w K tg (Its x) [it] it (λi h=>h.IsStrIter it "str_ascii_iterator" x t i) where
 mem:=by simp
 obj:=λi h st b hb=>by
  have e:b=it:=by simpa using hb
  subst e;obtain⟨o,e,c,d⟩:=st;exact⟨o,e,λv z=>by rw[d] at z;cases z⟩
 keep:=λi h h' st k=>let ⟨o,ho,r⟩:=st;⟨o,k it (by simp) o ho,r⟩
 item:=by intro X hP hw hK hc i bEX s σ H E I hf st hg;subst hP hw hK;obtain⟨f0,f1,f2,f3,f4,f5⟩:=hf it (by simp);refine (Walks.strAscii (prog:=X.prog) (w:=X.w) (I.ok.hd hc) it x t).item i s _ _ hg st λv h' tk hv st' kk=>?_;obtain⟨c,u,hcx,rfl⟩:=hv;have I1:Inv X bEX σ H { s with heap:=h',toks:=tk }:=I.turned (λb o hb e=>kk b o (by simpa using hb) e) f0 f1 f3 f4 f5;obtain⟨o,e,c',d⟩:=id st';exact⟨_,rfl,aDq (s:={ s with heap:=h',toks:=tk }) e c' d (by decide) ⟨.str ⟨#[c]⟩,H,I1,⟨u,rfl⟩,⟨rfl,by rw[aR8 hcx]⟩,st',λb hb=>(hf b hb).1⟩⟩
 done:=by intro X hP hw hK hc i bEX s σ H E I hf st hg;subst hP hw hK;obtain⟨f0,f1,f2,f3,f4,f5⟩:=hf it (by simp);exact wpAny_pyNext_ascii_end (I.ok.hd hc) st (Array.getElem?_eq_none_iff.mpr hg) λh' eb=>⟨rfl,I.turned (t':=s.toks) (λb o hb e=>eb b o hb e) f0 f1 f3 f4 f5⟩
 self:=λ_ _ _ _ _ st h=>wpAny_pyIter_striter_ascii st h
theorem aPd {P:Program}{w:World}{K:bET}{tg:Expr}(it:Addr)(x:Str)(t:Tok):Turn P w K tg (Its x) [it] it (λi h=>h.IsStrIter it "str_iterator" x t i) where
 mem:=by simp
 obj:=λi h st b hb=>by
  have e:b=it:=by simpa using hb
  subst e;obtain⟨o,e,c,d⟩:=st;exact⟨o,e,λv z=>by rw[d] at z;cases z⟩
 keep:=λi h h' st k=>let ⟨o,ho,r⟩:=st;⟨o,k it (by simp) o ho,r⟩
 item:=by intro X hP hw hK hc i bEX s σ H E I hf st hg;subst hP hw hK;obtain⟨f0,f1,f2,f3,f4,f5⟩:=hf it (by simp);refine (Walks.strWide (prog:=X.prog) (w:=X.w) (I.ok.hd hc) it x t).item i s _ _ hg st λv h' tk hv st' kk=>?_;obtain⟨c,u,hcx,rfl⟩:=hv;have I1:Inv X bEX σ H { s with heap:=h',toks:=tk }:=I.turned (λb o hb e=>kk b o (by simpa using hb) e) f0 f1 f3 f4 f5;obtain⟨o,e,c',d⟩:=id st';exact⟨_,rfl,aDq (s:={ s with heap:=h',toks:=tk }) e c' d (by decide) ⟨.str ⟨#[c]⟩,H,I1,⟨u,rfl⟩,⟨rfl,by rw[aR8 hcx]⟩,st',λb hb=>(hf b hb).1⟩⟩
 done:=by intro X hP hw hK hc i bEX s σ H E I hf st hg;subst hP hw hK;obtain⟨f0,f1,f2,f3,f4,f5⟩:=hf it (by simp);exact wpAny_pyNext_wide_end (I.ok.hd hc) st (Array.getElem?_eq_none_iff.mpr hg) λh' eb=>⟨rfl,I.turned (t':=s.toks) (λb o hb e=>eb b o hb e) f0 f1 f3 f4 f5⟩
 self:=λ_ _ _ _ _ st h=>wpAny_pyIter_striter_wide st h
section
variable {X:Cx}{tg:Expr}
def aX7 (tl:TE):TI:=fun σ H R=>tl σ H λx H1=>∃z,x=.str z/\R (Its z) H1
theorem aZj {l:Expr}{tl:TE}(hl:PE X l tl):PI X tg l (aX7 tl):=by
 intro bEX s σ H R I h;refine thn (hl bEX s σ H _ I h) λv s1 ⟨x,H1,I1,r1,q1⟩=>?_;obtain⟨z,e,q⟩:=q1;subst e;obtain⟨t,rfl⟩:=r1;have fp:∀b∈[s1.heap.objs.size],sI X bEX H1 b:=λb hb=>by
  have e:b=s1.heap.objs.size:=by simpa using hb
  subst e;exact I1.aCa (j6 _) (I1.hok.fresh (j6 _))
 cases ha:z.cps.all (·<128)
 ·exact wpAny_pyIter_wide ha ⟨s1.heap.objs.size,[s1.heap.objs.size],_,_,H1,rfl,I1.kept (t':=s1.toks) λb o e=>j0 _ e,aPd _ z t,⟨_,j5 _ rfl,rfl,rfl⟩,fp,q⟩
 ·exact wpAny_pyIter_ascii ha ⟨s1.heap.objs.size,[s1.heap.objs.size],_,_,H1,rfl,I1.kept (t':=s1.toks) λb o e=>j0 _ e,aPy _ z t,⟨_,j5 _ rfl,rfl,rfl⟩,fp,q⟩
theorem aNl {x:Str}{g:TG}{tb:TS}{D:Ends}{σ:St}{H:Hp}(Pv:Nat->St->Hp->Prop)(h0:Pv 0 σ H)
  (hs:∀i σ H,i<x.cps.size->Pv i σ H->g (.str (sgn x i)) σ H fun σ2 H2=>tb { D with nx:=Pv (i+1),ct:=Pv (i+1),bk:=D.nx } σ2 H2) (hd:∀σ H,Pv x.cps.size σ H->D.nx σ H) :
  ∃W:Nat->Nat->St->Hp->Prop,(∃m,W 0 m σ H)/\∀i m σ H,W i m σ H ->
   ((Its x).stop i H/\D.nx σ H)\/((Its x).go i H/\∃N:St->Hp->Prop,(∀σ' H',N σ' H'->∃m',m'<m/\W (i+1) m' σ' H')/\∀v H',(Its x).yld i H v H'->g v σ H' fun σ2 H2=>tb { D with nx:=N,ct:=N,bk:=D.nx } σ2 H2):=
 aU3 (item:=λi=>.str (sgn x i)) Pv (λi H h=>h) (λH=>j6 _) (λi H v H' _ y=>y) h0 hs hd
def aYq:V->List V->Hp->VK->Prop:=λx vs H Q=>∃a b i rest,x=.str a/\vs=[.str b]/\Builtin.Str.occurrences a b 0 a.length 1=i::rest/\Q (.int (i:Nat)) H
theorem aJa:MtR X "str.index" aYq:=by intro bEX s σ H x vs v us Q I rx rv h;obtain⟨a,b,i,rest,rfl,rfl,ho,q⟩:=h;obtain⟨t,rfl⟩:=rx;obtain⟨u,rfl,t',rfl⟩:=rv.one;exact SC.index ho ⟨.int (i:Nat),H,I.tok _,⟨_,rfl⟩,q⟩
def aKk (x:V)(T:String):Option Bool:=match x with
 |.int _=>if T = "int" then some true else if T = "bool" then some false else if T = "str" then some false else none
 |.str _=>if T = "int" then some false else if T = "bool" then some false else if T = "str" then some true else none
 |.bl _=>if T = "int" then some true else if T = "bool" then some true else if T = "str" then some false else none
 |_=>none
def aZ6:List V->Hp->VK->Prop:=λxs H Q=>∃x T b,xs=[x,.ty T]/\aKk x T=some b/\Q (.bl b) H
theorem qX:cD X (.builtin "isinstance") aZ6:=by
 intro bEX s σ H xs us Q I r h;obtain⟨x,T,b,rfl,e,q⟩:=h;obtain⟨u,v,rfl,rx,rT⟩:=r.two;cases rT;have f0:∀{k:Bool},some k=some b->EP X bEX σ Q (.bool k) s:=λe=>by cases e;exact⟨.bl _,H,I,rfl,q⟩
 have f1:∀{k:Bool},some k=some b->EP X bEX σ Q (.bool k) { s with toks:=s.toks+1 }:=λe=>by cases e;exact⟨.bl _,H,I.tok _,rfl,q⟩
 cases x with
 |int i=>
  obtain⟨t,rfl⟩:=rx;unfold aKk at e;dsimp only at e
  split at e
  ·rename_i hT;subst hT;exact IsiPair.int_int (f0 e)
  split at e
  ·rename_i hT;subst hT;exact IsiPair.int_bool (f1 e)
  split at e
  ·rename_i hT;subst hT;exact IsiPair.int_str (f1 e)
  ·cases e
 |str z=>
  obtain⟨t,rfl⟩:=rx;unfold aKk at e;dsimp only at e
  split at e
  ·rename_i hT;subst hT;exact IsiPair.str_int (f1 e)
  split at e
  ·rename_i hT;subst hT;exact IsiPair.str_bool (f1 e)
  split at e
  ·rename_i hT;subst hT;exact IsiPair.str_str (f0 e)
  ·cases e
 |bl z=>
  cases rx;unfold aKk at e;dsimp only at e
  split at e
  ·rename_i hT;subst hT;exact IsiPair.bool_int (f0 e)
  split at e
  ·rename_i hT;subst hT;exact IsiPair.bool_bool (f0 e)
  split at e
  ·rename_i hT;subst hT;exact IsiPair.bool_str (f1 e)
  ·cases e
 |_=>cases (show (none:Option Bool)=some b from e)
end
theorem small {n:Nat}(h:n<=1000):n<=sizeLine:=bC5 (jH h)
theorem aBd:Vals [] []:=.nil
theorem lY {x:V}{u:Value}{xs:List V}{us:List Value}(r:RelV x u)(t:Vals xs us):Vals (x::xs) (u::us):=.cons r t
def cP:Expr->Bool
 |.Starred ..=>false
 |_=>true
theorem aP {e:Expr}{es:List Expr}{env:Env}(h:cP e=true):starEach (e::es) env=(false,eval e env)::starEach es env:=by cases e <;> first|rfl|cases h
theorem aYs {X:Cx}{e:Expr}{es:List Expr}{te:TE}{t:TA}(ha:PE X e te)(hr:PA X es t)(hp:cP e=true:=by rfl) :
  PA X (e::es) (dR te t):=aVf ha hr (aP hp)
theorem bAf {X:Cx}{x:Str}{v:V}{pos:Pos}(hg:Gl X x)(hm:∃u,X.mg x=some u/\RelV v u)(hd:(x == ("__debug__":Str))=false:=by decide):PE X (.Name x pos) (tC v):=by obtain⟨u,hm,r⟩:=hm;exact aT8 hg hm r hd
section
variable {P:Program}{w:World}{K:bET}{mg:bEW}{base:Heap}
def Dn (K:bET)(mg:bEW)(x:Str)(st:Stmt)(ps:List Str):Prop:=∃f fd,Fun K x x st f fd/\Binds K fd ps []/\mg x=some (.ref f)
def Ok (P:Program)(w:World)(K:bET)(mg:bEW)(base:Heap)(k:Nat)(x:Str)(ps:List Str)(sp:Sp):Prop:=
 ∃f fd,mg x=some (.ref f)/\PySem.W.keepIn K (.ref f)=true/\Binds K fd ps []/\fQ P w K mg base CX0 k f fd ps sp
theorem Ok.mono {j k:Nat}{x:Str}{ps:List Str}{sp:Sp}(h:Ok P w K mg base j x ps sp)(hj:j<=k):Ok P w K mg base k x ps sp:=by obtain⟨f,fd,h1,h2,h3,h4⟩:=h;exact⟨f,fd,h1,h2,h3,h4.mono hj⟩
theorem Ok.of {x:Str}{st:Stmt}{N ps:List Str}{k:Nat}{sp:Sp}(D:Dn K mg x st ps)(S:aM N ps (aF st))(len:∀vs H Q E,sp vs H Q E->vs.length=ps.length)
  (hbody:∀(f:Addr) (cdv:Value) (A:Around) (outer:List Env) (s:Shared) (H:Hp) (vs:List V) (Q:VK) (E:XK),Room k (A.deeper (envOfC x (aF st) s.heap.objs.size f cdv))->sp vs H Q E ->
   ∃t,PSs (vW CX0 P w K mg base N x (aF st) f cdv A outer s H E).nox (cX st) t/\t { nx:=λ_ H'=>Q .non H',rt:=Q } (start N vs) H):Ok P w K mg base (k+1) x ps sp:=by
 obtain⟨f,fd,F,B,m⟩:=D;exact⟨f,fd,m,F.kp,B,F.ok S len λcdv A outer s H vs Q E hr h=>hbody f cdv A outer s H vs Q E hr h⟩
end
section
variable {X:Cx}{k:Nat}{ps:List Str}{sp:Sp}{x:Str}{p pos:Pos}{e:Expr}{es:List Expr}{t:TA}
theorem bAv (G:Ok X.prog X.w X.K X.mg X.base k x ps sp)(hr:Room k X.A)(hg:Gl X x)(ha:PA X (e::es) t)(hdb:(x == ("__debug__":Str))=false:=by decide)
  (he:starEach (e::es) X.env=(false,eval e X.env)::starEach es X.env:=by rfl) (hpl:(backTo pos (starEach es X.env)).any (·.1)=false:=by rfl) :
  PE X (.Call (.Name x p) (e::es) [] pos) (aDu sp [] E0 t):=by
 obtain⟨f,fd,h1,h2,h3,h4⟩:=G;exact aUk h4 hr hg h1 h2 h3 .nil aA2 ha hdb he hpl
theorem aW5 (G:Ok X.prog X.w X.K X.mg X.base k x ps sp)(hr:Room k X.A)(hg:Gl X x)(hdb:(x == ("__debug__":Str))=false:=by decide) :
  PE X (.Call (.Name x p) [] [] pos) (aDu sp [] E0 aAr):=by
 obtain⟨f,fd,h1,h2,h3,h4⟩:=G;exact aTg h4 hr hg h1 h2 h3 .nil aA2 hdb
end
theorem uI {env:Env}(f:Str × NameKind->List (Str × Addr)->Sem (ForInStep (List (Str × Addr))))
  (h1:∀n r,f (n,.free) r=(cellOf env n >>= λa=>pure (.yield ((n,a)::r)))) (h2:∀n k r,k≠.free->f (n,k) r=pure (.yield r)) :
  ∀(names:List (Str × NameKind)) (acc:List (Str × Addr)),(∀y∈names,y.2=.free->∃c,env.cells.lookup y.1=some c) ->
  ∃cl,forIn names acc f=(pure (cl++acc):Sem _)/\(∀p∈cl,env.cells.lookup p.1=some p.2/\(p.1,NameKind.free)∈names)/\∀y,(y,NameKind.free)∈names->∃c,(y,c)∈cl
 |[],acc,_=>⟨[],by simp,λ_ h=>(nomatch h),λ_ h=>(nomatch h)⟩
 |(n,k)::r,acc,h=>by
  by_cases hk:k=.free
  ·subst hk;obtain⟨c,hc⟩:=h (n,.free) m9 rfl;obtain⟨cl,e,p1,p2⟩:=uI f h1 h2 r ((n,c)::acc) λy hy=>h y (j8 _ hy);refine⟨cl++[(n,c)],?_,λp hp=>?_,λy hy=>?_⟩
   ·rw[bCM,h1];have e0:cellOf env n=pure c:=by unfold cellOf;rw[hc]
    rw[e0,pure_bind,pure_bind];show forIn r ((n,c)::acc) f=_;rw[e,bDD];rfl
   ·rcases List.mem_append.mp hp with hp|hp
    ·exact⟨(p1 p hp).1,j8 _ (p1 p hp).2⟩
    ·obtain rfl:=List.mem_singleton.mp hp;exact⟨hc,m9⟩
   ·rcases List.mem_cons.mp hy with e|hy
    ·cases e;exact⟨c,by simp⟩
    ·obtain⟨c',q⟩:=p2 y hy;exact⟨c',bBL _ q⟩
  ·obtain⟨cl,e,p1,p2⟩:=uI f h1 h2 r acc λy hy=>h y (j8 _ hy);refine⟨cl,?_,λp hp=>⟨(p1 p hp).1,j8 _ (p1 p hp).2⟩,λy hy=>?_⟩
   ·rw[bCM,h2 n k acc hk,pure_bind];exact e
   ·rcases List.mem_cons.mp hy with e|hy
    ·cases e;exact absurd rfl hk
    ·exact p2 y hy
theorem aAi {scope:Scope}{env:Env}(h:∀y∈scope.names,y.2=.free->∃c,env.cells.lookup y.1=some c) :
  ∃cl,closureFor scope env=pure cl/\(∀p∈cl,env.cells.lookup p.1=some p.2/\(p.1,NameKind.free)∈scope.names)/\∀y,(y,NameKind.free)∈scope.names->∃c,(y,c)∈cl:=by
 unfold closureFor;obtain⟨cl,e,p1,p2⟩:=uI (env:=env) (λx r=>match x with|(name,kind)=>if (kind == NameKind.free)=true then do let a <-cellOf env name;pure (.yield ((name,a)::r)) else pure (.yield r))
  (λn r=>rfl) (λn k r hk=>by
   have:(k == NameKind.free)=false:=by simpa using hk
   simp only[this,bBE,if_false]) scope.names [] h
 refine⟨cl,?_,p1,p2⟩;rw[bBN] at e;refine Eq.trans ?_ e;first
 |rfl
 |simp
theorem lookup_mem {α β:Type}[BEq α][LawfulBEq α]{a:α}{b:β}:∀{l:List (α × β)},(a,b)∈l->∃b',l.lookup a=some b'
 |(x,y)::r,h=>by
  rw[bCP];by_cases e:(a == x)=true
  ·exact⟨y,by rw[e]⟩
  ·have e':(a == x)=false:=by simpa using e
   rw[e'];rcases List.mem_cons.mp h with z|z
   ·cases z;simp at e
   ·exact lookup_mem z
theorem vU {env:Env}{y:Str}{k:NameKind}:∀{names:List (Str × NameKind)},names.lookup y=some .free ->
  (names.map λ(x:Str × NameKind)=>match x with|(n,k)=>if (k == NameKind.free && env.scope.kind == ScopeKind.function && env.kindOf n == some NameKind.cell) then (n,NameKind.cell) else (n,k)).lookup y=some .cell \/
  (names.map λ(x:Str × NameKind)=>match x with|(n,k)=>if (k == NameKind.free && env.scope.kind == ScopeKind.function && env.kindOf n == some NameKind.cell) then (n,NameKind.cell) else (n,k)).lookup y=some .free
 |[],h=>by simp at h
 |(n,k')::r,h=>by
  rw[bAM];rw[bCP] at h;by_cases e:(y == n)=true
  ·rw[e] at h;cases h;by_cases q:((NameKind.free == NameKind.free) && env.scope.kind == ScopeKind.function && env.kindOf n == some NameKind.cell)=true
   ·left;simp only[q,if_true,bCP,e]
   ·right;have q':=Bool.eq_false_iff.mpr q;simp only[q',bBE,if_false,bCP,e]
  ·have e':(y == n)=false:=by simpa using e
   rw[e'] at h;have ih:=vU (env:=env) (k:=k) h;have key:∀z:Str × NameKind,z.1=n->(List.lookup y (z::(r.map λ(x:Str × NameKind)=>match x with|(n,k)=>if (k == NameKind.free && env.scope.kind == ScopeKind.function && env.kindOf n == some NameKind.cell) then (n,NameKind.cell) else (n,k)))) =
     List.lookup y (r.map λ(x:Str × NameKind)=>match x with|(n,k)=>if (k == NameKind.free && env.scope.kind == ScopeKind.function && env.kindOf n == some NameKind.cell) then (n,NameKind.cell) else (n,k)):=λz hz=>by
    obtain⟨z1,z2⟩:=z;cases hz;rw[bCP,e']
   have kz:(match ((n,k'):Str × NameKind) with|(n,k)=>if (k == NameKind.free && env.scope.kind == ScopeKind.function && env.kindOf n == some NameKind.cell) then (n,NameKind.cell) else (n,k)).1=n:=by
    dsimp only
    split <;> rfl
   rw[key _ kz];exact ih
theorem uY {env:Env}{y:Str}:∀{names:List (Str × NameKind)},(∀z∈names,z.2≠.cell) ->
  ((names.map λ(x:Str × NameKind)=>match x with|(n,k)=>if (k == NameKind.free && env.scope.kind == ScopeKind.function && env.kindOf n == some NameKind.cell) then (n,NameKind.cell) else (n,k)).lookup y=some .cell \/
  (names.map λ(x:Str × NameKind)=>match x with|(n,k)=>if (k == NameKind.free && env.scope.kind == ScopeKind.function && env.kindOf n == some NameKind.cell) then (n,NameKind.cell) else (n,k)).lookup y=some .free)->(y,NameKind.free)∈names
 |[],_,h=>by simp at h
 |(n,k')::r,hc,h=>by
  rw[bAM] at h;by_cases e:(y == n)=true
  ·have ey:y=n:=by simpa using e
   subst ey;have hk:k'=.free:=by
    by_cases q:((k' == NameKind.free) && env.scope.kind == ScopeKind.function && env.kindOf y == some NameKind.cell)=true
    ·rw[bAU,bAU] at q;simpa using q.1.1
    ·have q':=Bool.eq_false_iff.mpr q;simp only[q',bBE,if_false,bCP,e] at h;rcases h with h|h
     ·cases h;exact absurd rfl (hc (y,.cell) m9)
     ·cases h;rfl
   subst hk;exact m9
  ·have e':(y == n)=false:=by simpa using e
   have key:∀z:Str × NameKind,z.1=n->(List.lookup y (z::(r.map λ(x:Str × NameKind)=>match x with|(n,k)=>if (k == NameKind.free && env.scope.kind == ScopeKind.function && env.kindOf n == some NameKind.cell) then (n,NameKind.cell) else (n,k)))) =
     List.lookup y (r.map λ(x:Str × NameKind)=>match x with|(n,k)=>if (k == NameKind.free && env.scope.kind == ScopeKind.function && env.kindOf n == some NameKind.cell) then (n,NameKind.cell) else (n,k)):=λz hz=>by
    obtain⟨z1,z2⟩:=z;cases hz;rw[bCP,e']
   have kz:(match ((n,k'):Str × NameKind) with|(n,k)=>if (k == NameKind.free && env.scope.kind == ScopeKind.function && env.kindOf n == some NameKind.cell) then (n,NameKind.cell) else (n,k)).1=n:=by
    dsimp only
    split <;> rfl
   rw[key _ kz] at h;exact j8 _ (uY (λz hz=>hc z (j8 _ hz)) h)
section
variable {prog:Program}{w:World}{A:Around}{E:bEU}{R:Result->Shared->Prop}{s:Shared}
theorem aC5 {elt target iter:Expr}{ifs:List Expr}{scope:Scope}{pos:Pos}{it acc:Value}{env:Env}(I:Nat->Shared->Prop)
  (turn:∀n s,I n s->wpAny (model prog w) A (pyNext it) (λr s₁=>match r with
   |none=>R (.ok .next) s₁
   |some v=>wpAny (model prog w) A (letOwnedTupleGo target it v) (λ_ s'=>wpAny (model prog w) A (assign target env v) (λ_ s₂=>
     wpAny (model prog w) A (forIn ifs true λc r=>if r=true then do let ok <-isTrue c env (eval c env);pure (ForInStep.yield ok) else pure (ForInStep.yield r)) (λok s₃=>
      if ok=true then wpAny (model prog w) A (eval elt env) (λx s₄=>
       wpAny (model prog w) A (call (.builtin "list.append") [acc,x]) (λ_ s₅=>∃m,m<n/\I m s₅) (notedBy (model prog w) A env λe s'=>R (.error e) s') s₄) (notedBy (model prog w) A env λe s'=>R (.error e) s') s₃
      else ∃m,m<n/\I m s₃) (notedBy (model prog w) A env λe s'=>R (.error e) s') s₂) (notedBy (model prog w) A env λe s'=>R (.error e) s') s') (notedBy (model prog w) A env λe s'=>R (.error e) s') s₁)
   (notedBy (model prog w) A env λe s'=>R (.error e) s') s)
  (n:Nat) (h:I n s):codeAny (model prog w) A (.compLoop (.ListComp elt [⟨target,iter,ifs,0⟩] scope pos) 0 it acc env) R s:=by
 refine codeAny_loop rfl I (λn s hI=>?_) n h;show wpAny _ A ((compTurn (.ListComp elt [⟨target,iter,ifs,0⟩] scope pos) 0 it acc env).onRaise (λx=>do noteFrame x env;theTreesLotGoes x)) _ _ s;refine wpAny_noted ?_;rw[compTurn_list];refine c7 (bDL (c7 (bBB (turn n s hI) (λr s₁ h₁=>?_) λ_ _ h'=>h')));cases r with
 |none=>exact j4 h₁
 |some v=>
  refine c7 (bBB h₁ (λ_ s' h₁'=>c7 (bBB h₁' (λ_ s₂ h₂=>c7 (bBB h₂ (λok s₃ h₃=>?_) λ_ _ h'=>h')) λ_ _ h'=>h')) λ_ _ h'=>h');cases ok with
  |false=>exact j4 ⟨rfl,h₃⟩
  |true=>exact c7 (c7 (bBB h₃ (λx s₄ h₄=>c7 (bBB h₄ (λ_ s₅ h₅=>j4 (j4 ⟨rfl,h₅⟩)) λ_ _ h'=>h')) λ_ _ h'=>h'))
end
def cxC (X:Cx)(N:List Str)(scope:Scope)(cl:List (Str × Addr))(s:Shared)(H:Hp)(fp:List Addr):Cx:=
 { X with N:=N,s₀:=s,H₀:=H,env:=compEnvC scope cl s.heap.objs.size X.env,outer:=X.stack,stack:=X.stack,ex:=fp,fn:=λ_=>false,pn:=[],xe:=λ_ _=>False }
def aQg (X:Cx)(ifs:List Expr)(tt:TT):Prop:=
 ∀(bEX:bEV) (s:Shared) (σ:St) (H:Hp) (Q:Bool->Hp->Prop),Inv X bEX σ H s->tt σ H Q ->
  wpAny (model X.prog X.w) X.A (forIn ifs true λc r=>if r=true then do let ok <-isTrue c X.env (eval c X.env);pure (ForInStep.yield ok) else pure (ForInStep.yield r)) (TP X bEX σ Q) X.xe s
def nJ:TT:=λ_ H Q=>Q true H
theorem aYj {X:Cx}:aQg X [] nJ:=λ_ _ _ H _ I h=>wpAny_tests_nil ⟨H,I,h⟩
theorem aYv {X:Cx}{c:Expr}{tc:TT}(h:PT X c tc):aQg X [c] tc:=λbEX s σ H Q I q=>wpAny_tests_one (h bEX s σ H Q I q)
structure aB3 (scope:Scope)(N:List Str):Prop where
 cell:∀y∈scope.names,y.2≠.cell
 kind:scope.kind=.function
 names:∀y∈scope.names,y.2=.local->scope.names.lookup y.1=some .local
 free:∀y∈scope.names,y.2=.free->scope.names.lookup y.1=some .free
def Cap (X:Cx)(scope:Scope)(N:List Str)(σ σ':St):Prop:=
 σ'.length=N.length/\∀(i:Nat) (y:Str) (v:V),N[i]?=some y->σ'[i]?=some (some v)->(y,NameKind.free)∈scope.names/\∃j:Nat,X.N[j]?=some y/\σ[j]?=some (some v)/\Vis X.env.scope y
theorem aH8 {X:Cx}{bEX:bEV}{σ σ':St}{H:Hp}{s:Shared}{scope:Scope}{N:List Str}{cl:List (Str × Addr)}{fp:List Addr}{h1:Heap}{tk:Nat}{m1:bEW}
  (I:Inv X bEX σ H s) (C:aB3 scope N) (hfr:∀y,(y,NameKind.free)∈scope.names->X.env.kindOf y=some .cell\/X.env.kindOf y=some .free)
  (p1:∀p∈cl,X.env.cells.lookup p.1=some p.2/\(p.1,NameKind.free)∈scope.names) (p2:∀y,(y,NameKind.free)∈scope.names->∃c,(y,c)∈cl)
  (cap:Cap X scope N σ σ') (hf:∀b∈fp,sI X bEX H b) (hfl:∀b∈fp,b<s.heap.objs.size)
  (hn:h1.Ns s.heap.objs.size m1) (hk:∀b o,s.heap.get? b=some o->h1.get? b=some o) :
  Inv (cxC X N scope cl s H fp) [] σ' H { s with heap:=h1,toks:=tk }:=by
 have ok:=I.ok;have lk:∀y c,cl.lookup y=some c->X.env.cells.lookup y=some c:=λy c e=>(p1 _ (PySem.mem_of_lookup e)).1;have lk2:∀y,(y,NameKind.free)∈scope.names->∃c,cl.lookup y=some c/\X.env.cells.lookup y=some c:=λy hy=>by obtain⟨c,hc⟩:=p2 y hy;obtain⟨c',e⟩:=lookup_mem hc;exact⟨c',e,lk y c' e⟩
 have fsub:∀b∈fp,b∉frs X.stack:=λb hb z=>by
  obtain⟨f0,f1,f2,_⟩:=hf b hb;rcases List.mem_cons.mp (I.aE9 b z) with e|e
  ·exact f1 e
  ·exact f2 e
 have ok':(cxC X N scope cl s H fp).Ok:=by
  refine⟨ok.mod,C.kind,ok.glob,ok.blt,j6 _,λx y c h1 h2=>ok.inj x y c (lk x c h1) (lk y c h2),λy hy=>?_,λy c h _=>?_,ok.hd,ok.frames,.inl rfl,λb hb=>?_,I.bs,bAP ok.bsz I.sz,
   λb o e hb=>?_,fsub,I.stack,I.rO⟩
  ·obtain⟨c,e,_⟩:=lk2 y (uY (env:=X.env) C.cell hy);exact⟨c,e⟩
  ·exact absurd (show false=true from h) t6
  ·obtain⟨f0,f1,f2,f3,f4,f5⟩:=hf b hb;exact⟨t7 (hfl b hb),λx c e=>f4 x c (lk x c e)⟩
  ·obtain⟨f0,f1,f2,f3,f4,f5⟩:=hf b hb;rcases f3 with z|z
   ·exact ok.noex b o e z
   ·exact absurd (bAB (m8 e) (bAP ok.bsz z)) (bBO _)
 refine⟨ok',rfl,I.bare,Un.kept hk,⟨m1,hn,λi y v e1 e2 e3=>?_⟩,λy c e=>?_,I.hok.fresh (j6 _),λy c e=>I.freeC y c (lk y c e),λp hp=>absurd (show p∈([]:bEV) from hp) (by simp),I.hok.kept hk,cap.1⟩
 ·obtain⟨hy,j,e4,e5,e6⟩:=cap.2 i y v e1 e2;obtain⟨m,_,hl⟩:=I.loc;obtain⟨u,r,l⟩:=hl j y v e4 e5 e6;refine⟨u,r,.inr ?_⟩;rcases l with⟨k,_⟩|⟨k,c,e,z⟩
  ·rcases hfr y hy with q|q <;> (rw[k] at q;cases q)
  ·obtain⟨c',e',e''⟩:=lk2 y hy;rw[e] at e'';cases e'';have rl:=vU (env:=X.env) (k:=.free) (C.free (y,.free) hy rfl);refine⟨rl,c,e',?_⟩;obtain⟨o,ho,hd⟩:=z;exact⟨o,hk _ _ ho,hd⟩
 ·obtain⟨v,o,ho,hd⟩:=I.cell y c (lk y c e);exact⟨v,o,hk _ _ ho,hd⟩
def jU (X:Cx)(scope:Scope)(N:List Str)(wi:TI)(g:TG)(tt:TT)(te:TE):TE:=fun σ H Q=>∃σ0,Cap X scope N σ σ0/\wi σ H λJ H1=>∀D,H1 D=none->∃W:Nat->Nat->St->Hp->List V->Prop,(∃m,W 0 m σ0 (upd H1 D (.lst [])) []) /\
 ∀i m σ' H' ys,W i m σ' H' ys->H' D=some (.lst ys)/\((J.stop i H'/\Q (.ref D) H')\/(J.go i H'/\∀x H2,J.yld i H' x H2->g x σ' H2 fun σ3 H3=>tt σ3 H3 λb H4=>
  if b=true then te σ3 H4 λy H5=>H5 D=some (.lst ys)/\ys.length<sizeLine/\∃m',m'<m/\W (i+1) m' σ3 (upd H5 D (.lst (ys++[y]))) (ys++[y]) else H4 D=some (.lst ys)/\∃m',m'<m/\W (i+1) m' σ3 H4 ys))
theorem aVl {X:Cx}{elt target iter:Expr}{ifs:List Expr}{scope:Scope}{pos:Pos}{N:List Str}{wi:TI}{g:TG}{tt:TT}{te:TE}
  (C:aB3 scope N) (hfr:∀y,(y,NameKind.free)∈scope.names->X.env.kindOf y=some .cell\/X.env.kindOf y=some .free) (hc:X.calm=true)
  (hi:PI X target iter wi)
  (hb:∀cl s H fp,PG (cxC X N scope cl s H fp) target g/\aQg (cxC X N scope cl s H fp) ifs tt/\PE (cxC X N scope cl s H fp) elt te)
  (hs:∀x,foldedSetIterable iter X.env x=pure x:=by intro _;rfl) :
  PE X (.ListComp elt [⟨target,iter,ifs,0⟩] scope pos) (jU X scope N wi g tt te):=by
 intro bEX s σ H Q I hq;obtain⟨σ0,cap,hq⟩:=hq;obtain⟨cl,hcl,p1,p2⟩:=aAi (scope:=scope) (env:=X.env) (λy hy hk=>by obtain⟨n,k⟩:=y;cases hk;exact I.ok.has n (hfr n hy))
 rw[eval_ListComp];refine wpAny_comprehension_free (use:=none) rfl hs hcl C.kind C.names (thn (hi bEX s σ H _ I hq) λxv s1 h1=>thn h1 λitv s2 h2=>?_);obtain⟨it,fp,tn,J,H2,rfl,I2,T,st2,f2,q2⟩:=h2;refine bAH (bEA C.cell (by intro y hy;simp at hy) (λh₁ hns₁ hsb₁=>?_) C.kind);dsimp only at hns₁ hsb₁ ⊢;have hD:H2 s2.heap.objs.size=none:=I2.hok.fresh (j6 _);have I3:Inv X bEX σ (upd H2 s2.heap.objs.size (.lst [])) { s2 with heap:=s2.heap.push { cls:=.type "list",dict:=none,data:=.seq ([]:List Value).toArray } }:=
  I2.laid (t':=s2.toks) (λb u e=>j0 _ e) (j6 _) ⟨bAJ _,[],0,.nil,j5 _ rfl⟩
 generalize hs3:({ s2 with heap:=s2.heap.push { cls:=.type "list",dict:=none,data:=.seq ([]:List Value).toArray } }:Shared)=s3 at I3;have hh3:s2.heap.push { cls:=.type "list",dict:=none,data:=.seq ([]:List Value).toArray }=s3.heap:=by rw[<-hs3]
 rw[hh3] at hns₁ hsb₁;have fl2:∀b∈fp,b<s2.heap.objs.size:=λb hb=>by obtain⟨o,e,_⟩:=T.obj _ _ st2 b hb;exact m8 e
 have fl3:∀b∈fp,b<s3.heap.objs.size:=λb hb=>by rw[<-hh3,bAW];exact bBH (fl2 b hb)
 have f3:∀b∈fp,sI X bEX (upd H2 s2.heap.objs.size (.lst [])) b:=λb hb=>by obtain⟨f0,fr⟩:=f2 b hb;exact⟨by rw[aK (t7 (fl2 b hb))];exact f0,fr⟩
 have keep3:∀b o,s3.heap.get? b=some o->h₁.get? b=some o:=λb o e=>hsb₁.extBut b o (t7 (m8 e)) (j0 _ e);have I4:=aH8 (tk:=s3.toks) I3 C hfr p1 p2 cap f3 fl3 hns₁ keep3;have st4:tn 0 h₁:=T.keep _ _ _ st2 λb hb o e=>keep3 b o (by rw[<-hh3];exact j0 _ e);obtain⟨W,⟨m0,w0⟩,turn⟩:=q2 s2.heap.objs.size hD;have fpc:∀{H':Hp},(∀b∈fp,H' b=none)->∀b∈fp,sI (cxC X N scope cl s3 (upd H2 s2.heap.objs.size (.lst [])) fp) [] H' b:=λ{H'} hn b hb=>by obtain⟨e1,e2⟩:=I4.ok.exf b hb;exact⟨hn b hb,e1,I4.ok.exfs b hb,.inl hb,e2,λp hp=>absurd (show p∈([]:bEV) from hp) (by simp)⟩
 have loop:∀s4:Shared,s4={ s3 with heap:=h₁,toks:=s3.toks } ->
   codeAny (model X.prog X.w) X.A (.compLoop (.ListComp elt [⟨target,iter,ifs,0⟩] scope pos) 0 (.ref it) (.ref s2.heap.objs.size) (compEnvC scope cl s3.heap.objs.size X.env))
    (compPost (model X.prog X.w) X.A X.xe none (EP X bEX σ Q) (.ref s2.heap.objs.size) s3.heap.objs.size) s4:=by
  rintro s4 rfl;refine aC5 (λn s'=>∃i σ' H' ys,Inv (cxC X N scope cl s3 (upd H2 s2.heap.objs.size (.lst [])) fp) [] σ' H' s'/\tn i s'.heap/\(∀b∈fp,H' b=none)/\W i n σ' H' ys) ?_ m0 ⟨0,σ0,_,[],I4,st4,λb hb=>(f3 b hb).1,w0⟩;rintro n s5 ⟨i,σ5,H5,ys,I5,st5,fr5,w5⟩;obtain⟨hacc,w5⟩:=turn i n σ5 H5 ys w5;have noE:∀{α:Type} {t:Sem α} {Q':α->Shared->Prop} {E':bEU} {s':Shared},wpAny (model X.prog X.w) X.A t Q' (λ_ _=>False) s'->wpAny (model X.prog X.w) X.A t Q' E' s':=λh=>bBB h (λ_ _ q=>q) λ_ _ z=>z.elim;rcases w5 with⟨stop,qn⟩|⟨go,step⟩
  ·refine noE (thn (T.done (cxC X N scope cl s3 (upd H2 s2.heap.objs.size (.lst [])) fp) rfl rfl rfl hc i [] s5 σ5 H5 _ I5 (fpc fr5) st5 stop) λr s6 ⟨hr,I6⟩=>?_);subst hr;obtain⟨m6,hn6,_⟩:=I6.loc;refine⟨m6,hn6,λh' sb=>?_⟩;have kp:∀b o,b≠s3.heap.objs.size->s6.heap.get? b=some o->h'.get? b=some o:=λb o hb e=>sb.extBut b o hb e;have ne3:∀b o,s3.heap.get? b=some o->b≠s3.heap.objs.size:=λb o e=>t7 (m8 e);have un:Un (frs X.stack) fp (upd H2 s2.heap.objs.size (.lst [])) H5 s3.heap h':=by
    have u:=I6.base;exact⟨λb o e n hb hx=>kp b o (ne3 b o e) (u.keep b o e n hb hx),λb o e n hb hx=>by
     obtain⟨sl,e1⟩:=u.slot b o e n hb hx;exact⟨sl,kp b _ (ne3 b o e) e1⟩,u.free,λb o e hx=>by
     obtain⟨o',e1⟩:=u.there b o e hx;exact⟨o',kp b _ (ne3 b o e) e1⟩,u.tups,u.frzs,u.tbls⟩
   have hok:HOk X.prog X.w H5 h':=λb u e=>by
    refine (I6.hok b u e).stay (λc v hc' q=>kp c v ?_ q) (λ_ q=>q) λ_ _ q=>q;have hfree:H5 s3.heap.objs.size=none:=I6.free;rintro rfl;rcases hc' with z|z
    ·rw[z] at hfree;rw[hfree] at e;cases e
    ·rw[hfree] at z;cases z
   have I7:Inv X bEX σ H5 { s6 with heap:=h' }:=by refine I3.call' (s':={ s6 with heap:=h' }) I6.os un hok I6.bare λb hb=>?_;obtain⟨f0,f1,f2',f3',f4,f5⟩:=f3 b hb;exact⟨f3',f1,f4,f5⟩
   exact⟨.ref s2.heap.objs.size,H5,I7,rfl,qn⟩
  ·refine noE (thn (T.item (cxC X N scope cl s3 (upd H2 s2.heap.objs.size (.lst [])) fp) rfl rfl rfl hc i [] s5 σ5 H5 (λ_ _=>False) I5 (fpc fr5) st5 go) λr s6 ⟨u,hr,h6⟩=>?_);subst hr;refine noE (thn h6 λ_ s7 ⟨x,H7,I7,r7,y7,st7,fr7⟩=>?_);obtain⟨hg,ht,he⟩:=hb cl s3 (upd H2 s2.heap.objs.size (.lst [])) fp;have I7':=I7.pinned (fpc fr7) (T.obj _ _ st7);have back:∀{σ8:St} {H8:Hp} {s8:Shared},Inv (cxC X N scope cl s3 (upd H2 s2.heap.objs.size (.lst [])) fp) ([]++xT fp s7.heap) σ8 H8 s8->tn (i+1) s8.heap/\∀b∈fp,H8 b=none:=λ{σ8 H8 s8} I8=>
    ⟨T.keep _ _ _ st7 λb hb o e=>(I8.pin (b,o) (v8 _ (v8 _ (jA hb e)))).1,λb hb=>by obtain⟨o,e,d⟩:=T.obj _ _ st7 b hb;exact (I8.pin (b,o) (v8 _ (v8 _ (jA hb e)))).2.1⟩
   refine noE (thn (hg _ s7 σ5 H7 x u _ I7' r7 (step x H7 y7)) λ_ s8 ⟨σ8,H8,I8,q8⟩=>?_);refine noE (thn (ht _ s8 σ8 H8 _ I8 q8) λb s9 ⟨H9,I9,q9⟩=>?_);cases b with
   |false=>rw[if_neg t6] at q9 ⊢;obtain⟨_,m',hm,w9⟩:=q9;exact⟨m',hm,i+1,σ8,H9,ys,I9.lD,(back I9).1,(back I9).2,w9⟩
   |true=>rw[if_pos rfl] at q9 ⊢;refine noE (thn (he _ s9 σ8 H9 _ I9 q9) λyv s10 ⟨y,H10,I10,r10,hacc10,hlen,m',hm,w10⟩=>?_);refine noE (thn (xQ _ s10 σ8 H10 (.ref s2.heap.objs.size) [y] (.ref s2.heap.objs.size) [yv] (λ_ H11=>H11=upd H10 s2.heap.objs.size (.lst (ys++[y]))) I10 rfl (.cons r10 .nil) ⟨_,_,_,rfl,rfl,hacc10,hlen,rfl⟩) λ_ s11 ⟨z,H11,I11,_,e11⟩=>?_);subst e11;exact⟨m',hm,i+1,σ8,_,ys++[y],I11.lD,(back I11).1,(back I11).2,w10⟩
 have fin:=codeAny_compStart_list (loop { s3 with heap:=h₁,toks:=s3.toks } rfl) (T.self _ _ _ _ _ st4 (loop { s3 with heap:=h₁,toks:=s3.toks } rfl));subst hs3;exact fin
end L2
namespace PySem
open Sem (wp)
namespace IfF
theorem aRe:typeLookup (.type "function") "__class__"=pure (some (.builtin "object.__class__")):=by rw[typeLookup_type,builtinLookup_eq_fast];kernel_rfl
theorem zK:Slot "function" "__getattribute__" "object.__getattribute__":=
 .of (owner:="object") (n:="__getattribute__") (by rw[typeLookup_type,builtinLookup_eq_fast];kernel_rfl) (by decide +kernel) (by decide +kernel) (by decide +kernel)
  (by first|exact .inl (by decide +kernel)|exact .inr (by decide +kernel)) (by rw[isSubtype_type];kernel_rfl)
theorem aQy:entryFor table "object.__getattribute__"=some Builtin.«object.__getattribute__»:=entryFor_of_tree (by kernel_rfl)
theorem yZ:isSubtype (.type "function") (.type (".".intercalate ("object.__class__".cutAt '.').dropLast))=pure true:=by rw[F.owner_object_class,isSubtype_type];kernel_rfl
theorem sub_int:isSubtype (.type "function") (.type "int")=pure false:=by rw[isSubtype_type];kernel_rfl
theorem sub_bool:isSubtype (.type "function") (.type "bool")=pure false:=by rw[isSubtype_type];kernel_rfl
theorem aVx:isSubtype (.type "function") (.type "str")=pure false:=by rw[isSubtype_type];kernel_rfl
end IfF
section
variable {prog:Program}{w:World}{A:Around}{E:bEU}{h:Heap}{g:Array GenState}{d:Drawn}{t:Nat}{os:OsState}{a:Addr}{o:Obj}
theorem aEp {R:Result->Shared->Prop}(hx:h.get? a=some o)(hc:o.cls=.type "function")(hq:R (.ok (.ret (.type "function"))) ⟨h,g,d,t,os⟩) :
  codeAny (model prog w) A (.call (.builtin "getset_descriptor.__get__") ⟨[.builtin "object.__class__",.ref a,.type "function"],[]⟩) R ⟨h,g,d,t,os⟩:=by
 have hT:(⟨h,g,d,t,os⟩:Shared).TypeIs (.ref a) "function":=⟨_,hx,hc⟩;have hT5:(⟨h,g,d,t,os⟩:Shared).TypeIs (.builtin "object.__class__") "getset_descriptor":=F.typeOf_object_class;have f8:=IfF.yZ;refine bCK F.slot_gs_get.plain F.entry_gs_get (F.slot_gs_get.check _ _ _ _ _ _ _ _ hT5 (F.args_gs_get _ _ _) ?_)
 repeat (any_goals (first|assumption|wp_step))
 refine⟨Code.quiet_builtin _ (by decide +kernel),bBF F.entry_object_class ?_⟩
 repeat (any_goals (first|assumption|wp_step))
theorem aB6 {tk:Tok}{Q:Fin->Shared->Prop}(hx:h.get? a=some o)(hc:o.cls=.type "function")(hq:Q (.done (.ret (.type "function"))) ⟨h,g,d,t,os⟩) :
  wpAny (model prog w) A (Builtin.«object.__getattribute__» ⟨[.ref a,.str "__class__" tk],[]⟩) Q E ⟨h,g,d,t,os⟩:=by
 have hT:(⟨h,g,d,t,os⟩:Shared).TypeIs (.ref a) "function":=⟨_,hx,hc⟩;have hT5:(⟨h,g,d,t,os⟩:Shared).TypeIs (.builtin "object.__class__") "getset_descriptor":=F.typeOf_object_class;have f4:=IfF.aRe;have f5:=F.typeOf_object_class;have f6:=F.slot_gs_get.lookup;have f7:=F.slot_gs_set.lookup
 repeat (any_goals (first|assumption|wp_step))
 refine aEp hx hc ?_
 repeat (any_goals (first|assumption|wp_step))
theorem aGe {tk:Tok}{Q:bEU}(hx:h.get? a=some o)(hc:o.cls=.type "function")(hq:Q (.type "function") ⟨h,g,d,t,os⟩):wpAny (model prog w) A (getAttrBy (.ref a) (.str "__class__" tk) false) Q E ⟨h,g,d,t,os⟩:=by
 have hT:(⟨h,g,d,t,os⟩:Shared).TypeIs (.ref a) "function":=⟨_,hx,hc⟩;have f2:=IfF.zK.lookup;have f3:=IfF.zK.bind (.ref a)
 repeat (any_goals (first|assumption|wp_step))
 refine bCK IfF.zK.plain IfF.aQy (IfF.zK.check _ _ _ _ _ _ _ _ hT (F.args_object_getattribute_2 _ _) (aB6 hx hc ?_))
 repeat (any_goals (first|assumption|wp_step))
theorem aCm {Q:Option Value->Shared->Prop}(hx:h.get? a=some o)(hc:o.cls=.type "function")(hq:Q (some (.type "function")) ⟨h,g,d,t+1,os⟩):wpAny (model prog w) A (getAttr? (.ref a) "__class__") Q E ⟨h,g,d,t,os⟩:=by
 unfold getAttr? getAttrBy?
 repeat (any_goals (first|assumption|with_reducible apply aGe hx hc|wp_step))
theorem aCo {T:String}{dep:Int}{tk:Tok}{Q:Fin->Shared->Prop}(hx:h.get? a=some o)(hc:o.cls=.type "function")(hne:(Value.type "function" == Value.type T)=false)(hty:typeOf (.type T)=pure (.type "type"))
  (hsub:isSubtype (.type "function") (.type T)=pure false) (hq:Q (.done (.ret (.bool false))) ⟨h,g,d,t+1,os⟩) :
  wpAny (model prog w) A (Builtin.«isinstance.nested» ⟨[.ref a,.type T,.int dep tk],[]⟩) Q E ⟨h,g,d,t,os⟩:=by
 have hT:(⟨h,g,d,t,os⟩:Shared).TypeIs (.ref a) "function":=⟨_,hx,hc⟩
 repeat (any_goals (first|assumption|with_reducible apply aCm hx hc|wp_step))
end
theorem pD {a:Addr}{T:String}(hne:(Value.type "function" == Value.type T)=false)(hty:typeOf (.type T)=pure (.type "type"))(hsub:isSubtype (.type "function") (.type T)=pure false) :
  Meets (Builtin.«isinstance» ⟨[.ref a,.type T],[]⟩) (λ_ R s=>(∃o,s.heap.get? a=some o/\o.cls=.type "function")/\R (.ok (.ret (.bool false))) { s with toks:=s.toks+1 }):=
 λ_ _ _ _ s hs=>by obtain⟨h,g,d,t,os⟩:=s;obtain⟨⟨o,hx,hc⟩,hq⟩:=hs;exact isinstance_outer (aCo hx hc hne hty hsub hq)
section
variable {prog:Program}{w:World}{A:Around}{E:bEU}{s:Shared}{Q:bEU}{a:Addr}{o:Obj}
theorem aL1 (hx:s.heap.get? a=some o)(hc:o.cls=.type "function")(h:Q (.bool false) { s with toks:=s.toks+1 }):wpAny (model prog w) A (call (.builtin "isinstance") [.ref a,.type "int"]) Q E s:=
 call_isinstance (pD (by decide) F.isi_meta_int IfF.sub_int) ⟨⟨o,hx,hc⟩,h⟩
theorem aIj (hx:s.heap.get? a=some o)(hc:o.cls=.type "function")(h:Q (.bool false) { s with toks:=s.toks+1 }):wpAny (model prog w) A (call (.builtin "isinstance") [.ref a,.type "bool"]) Q E s:=
 call_isinstance (pD (by decide) F.isi_meta_bool IfF.sub_bool) ⟨⟨o,hx,hc⟩,h⟩
theorem aK3 (hx:s.heap.get? a=some o)(hc:o.cls=.type "function")(h:Q (.bool false) { s with toks:=s.toks+1 }):wpAny (model prog w) A (call (.builtin "isinstance") [.ref a,.type "str"]) Q E s:=
 call_isinstance (pD (by decide) F.isi_meta_str IfF.aVx) ⟨⟨o,hx,hc⟩,h⟩
end
end PySem
namespace L2
open PySem PySem.Spec PyProof.Rows
section
variable {X:Cx}
theorem PE.imp {e:Expr}{t t':TE}(h:PE X e t)(k:∀σ H Q,t' σ H Q->t σ H Q):PE X e t':=λbEX s σ H Q I q=>h bEX s σ H Q I (k σ H Q q)
def bA7 (K:bET):List V->Hp->VK->Prop:=λxs H Q=>∃(p:Addr) (bs:List Bool),xs=[.ref p]/\SqL K H p (bs.map V.bl)/\Q (.bl (bs.all id)) H
theorem all_range (bs:List Bool):(List.range bs.length).all (λi=>bs.getD i false)=bs.all id:=by
 rw[bCL,bB3,bB3];constructor
 ·intro h b hb;obtain⟨i,hi,e⟩:=List.mem_iff_getElem.mp hb;have:=h i (List.mem_range.mpr hi);rw[j7,d9 hi] at this;rw[<-e];exact this
 ·intro h i hi;have hi:=List.mem_range.mp hi;rw[j7,d9 hi];exact h _ (bAR hi)
theorem lJ (hc:X.calm=true):cD X (.builtin "all") (bA7 X.K):=by
 intro bEX s σ H xs us Q I r h;obtain⟨p,bs,rfl,hq,q⟩:=h;obtain⟨u,rfl,rx⟩:=r.one;cases rx;obtain⟨its,rv,pl,hz⟩:=I.list hq;have hl:=rv.length;rw[j9] at hl;have hne:p≠s.heap.objs.size:=by obtain⟨o,ho,_⟩:=pl.isList;exact t7 (m8 ho)
 refine call_all_walk (bB5 pl.isList ?_);refine⟨s.heap.objs.size,_,_,_,_,_,λi=>bs.getD i false,rfl,Walks.list (show X.A.in1.handled=none from I.ok.hd hc) _ p hne its.toArray,⟨⟨_,j5 _ rfl,rfl,rfl⟩,?_⟩,?_,λh' tk kp=>?_⟩
 ·exact pl.isList.at λo e=>j0 _ e
 ·intro i v s' Q' E' hv hq';have hv':its[i]?=some v:=by simpa using hv
  have hi:i<bs.length:=by rw[hl];exact (List.getElem?_eq_some_iff.mp hv').1
  obtain⟨u,hu,ru⟩:=rv.get (i:=i) (x:=.bl bs[i]) (by rw[v4,d9 hi];rfl);rw[hv'] at hu;cases hu;cases ru;have e:bs.getD i false=bs[i]:=by rw[j7,d9 hi];rfl
  replace hq':Q' (bs.getD i false) s':=hq';rw[e] at hq';exact bBK hq'
 ·have e:(List.range its.toArray.size).all (λi=>bs.getD i false)=bs.all id:=by rw[m7,<-hl];exact all_range bs
  rw[e];refine⟨.bl (bs.all id),H,?_,rfl,q⟩;exact I.kept λb o eo=>kp b o (by
   intro z;have:b=s.heap.objs.size:=by simpa using z
   rw[this] at eo;exact absurd (m8 eo) (bBO _)) (j0 _ eo)
inductive Rk (K:bET)(H:Hp):V->String->Prop
 |non:Rk K H .non "NoneType"
 |lst {a xs}:SqL K H a xs->Rk K H (.ref a) "list"
 |tup {a xs}:SqT K H a xs->Rk K H (.ref a) "tuple"
 |dct {a kvs}:H a=some (.dK kvs)->Rk K H (.ref a) "dict"
 |fn {a o}:K.lookup a=some o->o.cls=.type "function"->Rk K H (.ref a) "function"
def aWn (K:bET):List V->Hp->VK->Prop:=λxs H Q=>∃x k T,xs=[x,.ty T]/\Rk K H x k/\(T = "int"\/T = "bool"\/T = "str")/\Q (.bl false) H
theorem rH:cD X (.builtin "isinstance") (aWn X.K):=by
 intro bEX s σ H xs us Q I r h;obtain⟨x,k,T,rfl,hx,hT,q⟩:=h;obtain⟨u,v,rfl,rx,rT⟩:=r.two;cases rT;have f1:EP X bEX σ Q (.bool false) { s with toks:=s.toks+1 }:=⟨.bl _,H,I.tok _,rfl,q⟩;cases hx with
 |non=>
  cases rx;rcases hT with rfl|rfl|rfl
  ·exact IsiPair.NoneType_int f1
  ·exact IsiPair.NoneType_bool f1
  ·exact IsiPair.NoneType_str f1
 |lst hq=>
  cases rx;obtain⟨its,rv,⟨o,n,e,c,_⟩,hz⟩:=I.list hq;rcases hT with rfl|rfl|rfl
  ·exact IsiPair.list_int e c f1
  ·exact IsiPair.list_bool e c f1
  ·exact IsiPair.list_str e c f1
 |tup hq=>
  cases rx;obtain⟨its,rv,⟨o,e,c,_⟩,hz⟩:=I.tuple hq;rcases hT with rfl|rfl|rfl
  ·exact IsiPair.tuple_int e c f1
  ·exact IsiPair.tuple_bool e c f1
  ·exact IsiPair.tuple_str e c f1
 |dct hq=>
  cases rx;obtain⟨_,_,_,_,o,_,_,e,ex,_⟩:=I.hok _ _ hq;rcases hT with rfl|rfl|rfl
  ·exact IsiPair.dict_int e ex.1 f1
  ·exact IsiPair.dict_bool e ex.1 f1
  ·exact IsiPair.dict_str e ex.1 f1
 |fn hk hc=>
  cases rx;have e:=I.kIn _ _ hk;rcases hT with rfl|rfl|rfl
  ·exact aL1 e hc f1
  ·exact aIj e hc f1
  ·exact aK3 e hc f1
end
theorem lC {X:Cx}{scope:Scope}(h:∀z∈scope.names,z.2≠.free):∀y,(y,NameKind.free)∈scope.names->X.env.kindOf y=some .cell\/X.env.kindOf y=some .free:=λy hy=>absurd rfl (h _ hy)
theorem jC {X:Cx}{scope:Scope}(sc:Scope)(e:X.env.scope=sc)(h:∀z∈scope.names,z.2=.free->sc.names.lookup z.1=some .cell\/sc.names.lookup z.1=some .free) :
  ∀y,(y,NameKind.free)∈scope.names->X.env.kindOf y=some .cell\/X.env.kindOf y=some .free:=λy hy=>by
 show X.env.scope.names.lookup y=some .cell\/X.env.scope.names.lookup y=some .free;rw[e];exact h _ hy rfl
theorem Same.aY {K:bET}{H H':Hp}{a:Addr}{xs:List V}(e:Same H H')(h:SqT K H a xs):SqT K H' a xs:=by
 rcases h with (h|⟨o,h⟩)|h
 ·exact .inl (.inl (e _ _ h))
 ·exact .inl (.inr ⟨o,e _ _ h⟩)
 ·exact .inr h
theorem aV {H:Hp}{p:Addr}(h:H p=none)(o:HO):Same H (upd H p o):=λb u q=>by rw[aK (aL q h)];exact q
theorem Rk.same {K:bET}{H H':Hp}{v:V}{k:String}(e:Same H H')(h:Rk K H v k):Rk K H' v k:=by
 cases h with
 |non=>exact .non
 |lst q=>exact .lst (e.seq q)
 |tup q=>exact .tup (e.aY q)
 |dct q=>exact .dct (e _ _ q)
 |fn q c=>exact .fn q c
theorem xB {X:Cx}{scope:Scope}{x:Str}{σ:St}:Cap X scope [x] σ [none]:=⟨rfl,λi y v _ h2=>by
 cases i with
 |zero=>cases h2
 |succ i=>cases h2⟩
section
theorem aO7 {X:Cx}{scope:Scope}{N:List Str}{wi:TI}{te:TE}{σ:St}{H:Hp}{Q:VK}(xs:List V)(f:V->V)(σ0:St)(cap:Cap X scope N σ σ0)(hsz:xs.length<=sizeLine)
  (hw:∀R:It->Hp->Prop,(∀J:It,(∀H' i x,Same H H'->xs[i]?=some x->J.go i H'/\∀y H2,J.yld i H' y H2->H2=H'/\y=x)->(∀H',Same H H'->J.stop xs.length H')->R J H)->wi σ H R)
  (he:∀x∈xs,∀H' R l,Same H H'->R (f x) H'->te ((σ0.set 0 l).set 0 (some x)) H' R) (h0:σ0[0]?=some none)
  (q:∀D,H D=none->Q (.ref D) (upd H D (.lst (xs.map f)))) :
  jU X scope N wi (cO 0) nJ te σ H Q:=by
 refine⟨σ0,cap,hw _ λJ go stop D hD=>?_⟩;have sm:∀ys:List V,Same H (upd H D (.lst ys)):=λys b o e=>by rw[aK (aL e hD)];exact e
 refine⟨λi m σ' H' ys=>i<=xs.length/\m=xs.length - i/\(∃l,σ'=σ0.set 0 l)/\H'=upd H D (.lst ys)/\ys=(xs.take i).map f,⟨xs.length,bAJ _,rfl,⟨none,?_⟩,rfl,rfl⟩,?_⟩
 ·refine (bB7 λj=>?_);rw[List.getElem?_set]
  split
  ·rename_i hj;subst hj
   split
   ·exact h0
   ·rename_i hlt;exact List.getElem?_eq_none_iff.mpr (by lia)
  ·rfl
 ·rintro i m σ' H' ys ⟨hi,rfl,⟨l,rfl⟩,rfl,rfl⟩;refine⟨aJ,?_⟩;by_cases hlt:i<xs.length
  ·right;obtain⟨g1,g2⟩:=go (upd H D (.lst ((xs.take i).map f))) i xs[i] (sm _) (d9 hlt);refine⟨g1,λx H2 hy=>?_⟩;obtain⟨rfl,rfl⟩:=g2 x H2 hy;unfold cO nJ;dsimp only;rw[if_pos rfl];refine he xs[i] (bAR hlt) _ _ l (sm _) ⟨aJ,?_,xs.length - (i+1),by lia,hlt,rfl,⟨some xs[i],?_⟩,?_,?_⟩
   ·rw[j9,bAL];lia
   ·rw[bB8]
   ·rw[aNk]
   ·rw[bBD,d9 hlt,bAO];rfl
  ·left;have e:i=xs.length:=by lia
   subst e;refine⟨stop _ (sm _),?_⟩;rw[bCG];exact q D hD
theorem aXd {z:Str}{tl:TE}{σ:St}{H:Hp}(h:∀R:VK,R (.str z) H->tl σ H R)(R:It->Hp->Prop)
  (q:∀J:It,(∀H' i x,Same H H'->((List.range z.cps.size).map λi=>V.str (sgn z i))[i]?=some x->J.go i H'/\∀y H2,J.yld i H' y H2->H2=H'/\y=x) ->
   (∀H',Same H H'->J.stop ((List.range z.cps.size).map λi=>V.str (sgn z i)).length H')->R J H):aX7 tl σ H R:=by
 refine h _ ⟨z,rfl,q _ (λH' i x _ e=>?_) λH' _=>?_⟩
 ·rw[v4] at e;have hi:i<z.cps.size:=by
   cases hr:(List.range z.cps.size)[i]? with
   |none=>rw[hr] at e;cases e
   |some j=>have:=(List.getElem?_eq_some_iff.mp hr).1;rwa [bAN] at this
  rw[bCA hi] at e;cases e;exact⟨hi,λy H2 hy=>hy⟩
 ·rw[j9,bAN];exact j6 _
theorem aF2 {K:bET}{a:Addr}{xs:List V}{tl:TE}{σ:St}{H:Hp}(hS:∀H',Same H H'->SqL K H' a xs)(h:∀R:VK,R (.ref a) H->tl σ H R)(R:It->Hp->Prop)
  (q:∀J:It,(∀H' i x,Same H H'->xs[i]?=some x->J.go i H'/\∀y H2,J.yld i H' y H2->H2=H'/\y=x)->(∀H',Same H H'->J.stop xs.length H')->R J H):aGl K tl σ H R:=by
 refine h _ ⟨a,rfl,⟨xs,hS H (Same.refl H)⟩,q _ (λH' i x s e=>⟨⟨xs,x,hS H' s,e⟩,λy H2 hy=>?_⟩) λH' s=>⟨xs,hS H' s,j6 _⟩⟩;obtain⟨e1,e2⟩:=hy;have e3:=e2 xs (hS H' s);rw[e] at e3;cases e3;exact⟨e1,rfl⟩
end
end L2
namespace PySem
abbrev sG (t:Addr)(i:Nat):Obj:={ cls:=.type "tuple_iterator",data:=.fields #[.ref t,.int (i:Int) 0] }
abbrev iK (f0:Value)(TI TO:Addr):Obj:={ cls:=.type "zip",dict:=none,data:=.fields #[f0,.bool false,.bool false,.ref TI,.ref TO],slots:=#[] }
abbrev dO (a b:Value):Obj:={ cls:=.type "tuple",data:=.seq #[a,b] }
section
variable {prog:Program}{w:World}{A:Around}{E:bEU}{s:Shared}
theorem aAj {it t:Addr}{i:Nat}{its:Array Value}{x:Value}{Q:bEU}(ho:s.heap.get? it=some (sG t i))(ht:s.heap.IsTuple t its)(hx:its[i]?=some x)
  (q:∀h',h'.get? it=some (sG t (i+1))->Heap.SameBut it s.heap h'->Q x { s with heap:=h' }):wpAny (model prog w) A (Builtin.SmallTypes.nextOf (.ref it)) Q E s:=by
 have hT:s.TypeIs (.ref it) "tuple_iterator":=⟨_,ho,rfl⟩;obtain⟨ol,hol,_,nl,hdl⟩:=ht;unfold Builtin.SmallTypes.nextOf;refine c7 (bAG (name:=Str.ofString "__next__") hT F.slot_tuple_iterator_next (bAE F.slot_tuple_iterator_next hT F.entry_tuple_iterator_next ?_ (F.args_tuple_iterator_next_1 _)));refine c7 (m:=field (.ref it) 0) (bAF ho rfl (x:=.ref t) rfl ?_);refine (if_neg (show ¬ ((Value.ref t == Value.none)=true) from t6)).symm ▸ ?_;refine c7 (m:=field (.ref it) 1) (bAF ho rfl (x:=.int i 0) rfl ?_);refine c7 (m:=seqItems? (.ref t)) (bAZ hol hdl ?_);simp only[bAT,hx];refine c7 (bBV ho rfl (by simp) (j4 ⟨x,rfl,j4 (q _ ?_ (bBP ..))⟩));exact bAX _ ho rfl
theorem aAb {it t:Addr}{i:Nat}{its:Array Value}{Q:bEU}(hh:A.handled=none)(ho:s.heap.get? it=some (sG t i))(ht:s.heap.IsTuple t its)(hx:its[i]?=none)
  (q:∀h' e,Heap.ExtBut it s.heap h'->(∃o,h'.get? e=some o/\o.cls=.type "StopIteration")->E (.ref e) { s with heap:=h' }):wpAny (model prog w) A (Builtin.SmallTypes.nextOf (.ref it)) Q E s:=by
 have hT:s.TypeIs (.ref it) "tuple_iterator":=⟨_,ho,rfl⟩;obtain⟨ol,hol,_,nl,hdl⟩:=ht;unfold Builtin.SmallTypes.nextOf;refine c7 (bAG (name:=Str.ofString "__next__") hT F.slot_tuple_iterator_next (bAE F.slot_tuple_iterator_next hT F.entry_tuple_iterator_next ?_ (F.args_tuple_iterator_next_1 _)));refine c7 (m:=field (.ref it) 0) (bAF ho rfl (x:=.ref t) rfl ?_);refine (if_neg (show ¬ ((Value.ref t == Value.none)=true) from t6)).symm ▸ ?_;refine c7 (m:=field (.ref it) 1) (bAF ho rfl (x:=.int i 0) rfl ?_);refine c7 (m:=seqItems? (.ref t)) (bAZ hol hdl ?_);simp only[bAT,hx];refine c7 (bCY (c7 (bBV ho rfl (by simp) ?_)));unfold Builtin.SmallTypes.stopIteration;refine c7 ?_;simp only[newExc,newTuple];refine c7 (bAH ?_ (by size_fits));refine c7 (m:=firstArgMember _ _) (bEB (a:=Value.none) (by first|rfl|(simp only[firstArgMember];rfl)) ?_);refine bAH ?_ (by size_fits);simp only[raiseNew];refine c7 (bD8 ?_);first|rw[show A.in1.handled=none from hh]|rw[hh]
 refine c7 (j4 (bEQ ?_));exact q _ _ (((bBP ..).extBut.push _).push _) ⟨_,j5 _ rfl,rfl⟩
structure oO (z TI TO a b:Addr):Prop where
 h1:TI≠z
 h2:TO≠z
 h3:a≠z
 h4:b≠z
 h5:TI≠TO
 h6:TI≠a
 h7:TI≠b
 h8:TO≠a
 h9:TO≠b
 h10:a≠b
theorem vY {T:Addr}{a b x:Value}{k:Nat}{Q:Unit->Shared->Prop}(hT:s.heap.get? T=some (dO a b))
  (q:∀h',h'.get? T=some { cls:=.type "tuple",data:=.seq ((#[a,b]:Array Value).setIfInBounds k x) }->Heap.SameBut T s.heap h'->Q () { s with heap:=h' }) :
  wpAny (model prog w) A (updateSeq T (·.setIfInBounds k x)) Q E s:=by
 refine wpAny_updateSeq hT rfl (q _ ?_ (bBP ..));rw[bAX _ hT rfl];simp[Obj.mapSeq]
theorem aP0 {z TI TO i1 i2 t u:Addr}{k:Nat}{xs ys:Array Value}{x y a b:Value}{Q:Option Value->Shared->Prop}(D:oO z TI TO i1 i2)
  (hz:s.heap.get? z=some (iK .none TI TO)) (hTI:s.heap.get? TI=some (dO (.ref i1) (.ref i2))) (hTO:s.heap.get? TO=some (dO a b))
  (g1:s.heap.get? i1=some (sG t k)) (g2:s.heap.get? i2=some (sG u k)) (ht:s.heap.IsTuple t xs) (hu:s.heap.IsTuple u ys) (hx:xs[k]?=some x) (hy:ys[k]?=some y)
  (t1:t≠z) (t2:t≠TO) (t3:t≠i1) (t4:t≠i2) (u1:u≠z) (u2:u≠TO) (u3:u≠i1) (u4:u≠i2)
  (q:∀h',h'.get? z=some (iK (rawInt s.heap.objs.size) TI TO)->h'.get? TO=some (dO x y)->h'.get? i1=some (sG t (k+1))->h'.get? i2=some (sG u (k+1))->h'.get? s.heap.objs.size=some (dO x y) ->
   (∀c o,c≠z->c≠TO->c≠i1->c≠i2->s.heap.get? c=some o->h'.get? c=some o)->Q (some (.ref s.heap.objs.size)) { s with heap:=h' }) :
  wpAny (model prog w) A (pyNext (.ref z)) Q E s:=by
 have hT:s.TypeIs (.ref z) "zip":=⟨_,hz,rfl⟩;unfold pyNext;refine c7 (bB4 (bAG (name:=Str.ofString "__next__") hT F.slot_zip_next (bAE F.slot_zip_next hT F.entry_zip_next ?_ (F.args_zip_next_1 _))));refine c7 (m:=field (.ref z) 2) (bAF hz rfl (x:=.bool false) rfl ?_);refine c7 (m:=field (.ref z) 3) (bAF hz rfl (x:=.ref TI) rfl (c7 (bAZ hTI rfl ?_)));refine c7 (m:=Builtin.SmallTypes.ownedTupleIsFree (.ref z)) ?_;unfold Builtin.SmallTypes.ownedTupleIsFree;refine c7 (bAF hz rfl (x:=.none) rfl (j4 ?_));simp only[if_true];refine c7 (bCY (c7 (bAF hz rfl (x:=.ref TO) rfl (c7 (bAI hz (by simp) λh1 z1 s1=>?_)))));replace z1:h1.get? z=some (iK .ellipsis TI TO):=z1;refine c7 ?_;simp only[bDI,bDP,bCM,bDG];refine c7 (c7 (bCN ?_));refine c7 (m:=Builtin.SmallTypes.nextOf (.ref i1)) (aAj (s:={ s with heap:=h1 }) (s1.extBut _ _ D.h3 g1) (ht.extBut s1.extBut t1) hx λh2 g12 s2=>j4 ?_);have TO2:h2.get? TO=some (dO a b):=s2.extBut _ _ D.h8 (s1.extBut _ _ D.h2 hTO);refine c7 (bAZ TO2 rfl (c7 (vY (s:={ s with heap:=h2 }) TO2 λh3 TO3 s3=>c7 (bDT (j4 ?_)))));replace TO3:h3.get? TO=some (dO x b):=TO3;refine c7 (c7 (bCN ?_));refine c7 (m:=Builtin.SmallTypes.nextOf (.ref i2)) (aAj (s:={ s with heap:=h3 }) (s3.extBut _ _ D.h9.symm (s2.extBut _ _ D.h10.symm (s1.extBut _ _ D.h4 g2))) (((hu.extBut s1.extBut u1).extBut s2.extBut u3).extBut s3.extBut u2) hy λh4 g24 s4=>j4 ?_);have TO4:h4.get? TO=some (dO x b):=s4.extBut _ _ D.h9 TO3;refine c7 (bAZ TO4 rfl (c7 (vY (s:={ s with heap:=h4 }) TO4 λh5 TO5 s5=>c7 (bDT (j4 (j4 ?_))))));replace TO5:h5.get? TO=some (dO x y):=TO5;refine c7 (bAZ TO5 rfl (c7 (bDY ?_)));have hsz:h5.objs.size=s.heap.objs.size:=by rw[s5.1,s4.1,s3.1,s2.1,s1.1]
 have z5:h5.get? z=some (iK .ellipsis TI TO):=s5.extBut _ _ D.h2.symm (s4.extBut _ _ D.h4.symm (s3.extBut _ _ D.h2.symm (s2.extBut _ _ D.h3.symm z1)));have kp:∀c o,c≠z->c≠TO->c≠i1->c≠i2->s.heap.get? c=some o->h5.get? c=some o:=λc o c1 c2 c3 c4 e=>s5.extBut _ _ c2 (s4.extBut _ _ c4 (s3.extBut _ _ c2 (s2.extBut _ _ c3 (s1.extBut _ _ c1 e))));have g15:h5.get? i1=some (sG t (k+1)):=s5.extBut _ _ D.h8.symm (s4.extBut _ _ D.h10 (s3.extBut _ _ D.h8.symm g12));have g25:h5.get? i2=some (sG u (k+1)):=s5.extBut _ _ D.h9.symm g24;refine c7 (m:=Builtin.SmallTypes.ownedTupleHandOut (.ref z) (.ref h5.objs.size)) ?_;unfold Builtin.SmallTypes.ownedTupleHandOut;have z6:(h5.push (dO x y)).get? z=some (iK .ellipsis TI TO):=j0 _ z5;refine c7 (bAI z6 (by simp) λh7 z7 s7=>?_);replace z7:h7.get? z=some (iK (rawInt h5.objs.size) TI TO):=z7;refine bAI z7 (by simp) λh8 z8 s8=>?_;replace z8:h8.get? z=some (iK (rawInt h5.objs.size) TI TO):=z8;have up:∀c o,c≠z->h5.get? c=some o->h8.get? c=some o:=λc o c1 e=>s8.extBut _ _ c1 (s7.extBut _ _ c1 (j0 _ e));have nz:h5.objs.size≠z:=bBY (m8 z5);have T8:h8.get? h5.objs.size=some (dO x y):=s8.extBut _ _ nz (s7.extBut _ _ nz (j5 _ rfl));rw[hsz] at z8 T8;refine j4 ⟨_,rfl,j4 ?_⟩;show Q (some (.ref h5.objs.size)) _;rw[hsz];exact q h8 z8 (up _ _ D.h2 TO5) (up _ _ D.h3 g15) (up _ _ D.h4 g25) T8 λc o c1 c2 c3 c4 e=>up c o c1 (kp c o c1 c2 c3 c4 e)
theorem aSu {z TI TO i1 i2 t:Addr}{k:Nat}{xs:Array Value}{a b:Value}{Q:Option Value->Shared->Prop}(hh:A.handled=none)(D:oO z TI TO i1 i2)
  (hz:s.heap.get? z=some (iK .none TI TO)) (hTI:s.heap.get? TI=some (dO (.ref i1) (.ref i2))) (hTO:s.heap.get? TO=some (dO a b))
  (g1:s.heap.get? i1=some (sG t k)) (ht:s.heap.IsTuple t xs) (hx:xs[k]?=none) (t1:t≠z)
  (q:∀h',(∀c o,c≠z->c≠TO->c≠i1->c≠i2->s.heap.get? c=some o->h'.get? c=some o)->Q none { s with heap:=h' }) :
  wpAny (model prog w) A (pyNext (.ref z)) Q E s:=by
 have hT:s.TypeIs (.ref z) "zip":=⟨_,hz,rfl⟩;unfold pyNext;refine c7 (bB4 (bAG (name:=Str.ofString "__next__") hT F.slot_zip_next (bAE F.slot_zip_next hT F.entry_zip_next ?_ (F.args_zip_next_1 _))));refine c7 (m:=field (.ref z) 2) (bAF hz rfl (x:=.bool false) rfl ?_);refine c7 (m:=field (.ref z) 3) (bAF hz rfl (x:=.ref TI) rfl (c7 (bAZ hTI rfl ?_)));refine c7 (m:=Builtin.SmallTypes.ownedTupleIsFree (.ref z)) ?_;unfold Builtin.SmallTypes.ownedTupleIsFree;refine c7 (bAF hz rfl (x:=.none) rfl (j4 ?_));simp only[if_true];refine c7 (bCY (c7 (bAF hz rfl (x:=.ref TO) rfl (c7 (bAI hz (by simp) λh1 z1 s1=>?_)))));replace z1:h1.get? z=some (iK .ellipsis TI TO):=z1;refine c7 ?_;simp only[bDI,bDP,bCM,bDG];refine c7 (c7 (bCN ?_));refine c7 (m:=Builtin.SmallTypes.nextOf (.ref i1)) (aAb (s:={ s with heap:=h1 }) hh (s1.extBut _ _ D.h3 g1) (ht.extBut s1.extBut t1) hx λh2 e s2 he=>?_);obtain⟨oe,hoe,hce⟩:=he;have z2:h2.get? z=some (iK .ellipsis TI TO):=s2 _ _ D.h3.symm z1;have hez:e≠z:=λx=>by subst x;rw[z2] at hoe;cases hoe;simp at hce
 refine bAI z2 (by simp) λh3 _ s3=>?_;refine c7 (bCQ (T:="StopIteration") (b:=true) ⟨oe,s3.extBut _ _ hez hoe,hce⟩ isSubtype_stop ?_);exact j4 (q _ λc o c1 _ c3 _ x=>s3.extBut _ _ c1 (s2 _ _ c3 (s1.extBut _ _ c1 x)))
end
end PySem
namespace PySem
section
variable {prog:Program}{w:World}{A:Around}{E:bEU}{s:Shared}
abbrev zT1 (h:Heap)(t:Addr):Heap:=h.push (sG t 0)
abbrev zT2 (h:Heap)(t u:Addr):Heap:=(zT1 h t).push (sG u 0)
abbrev zT3 (h:Heap)(t u:Addr):Heap:=(zT2 h t u).push (dO (.ref h.objs.size) (.ref (zT1 h t).objs.size))
abbrev zT4 (h:Heap)(t u:Addr):Heap:=(zT3 h t u).push (dO .none .none)
abbrev zT5 (h:Heap)(t u:Addr):Heap:=(zT4 h t u).push (iK .none (zT2 h t u).objs.size (zT3 h t u).objs.size)
theorem aKx (t u:Addr)(xs ys:Array Value):Meets (Builtin.«zip.__new__» ⟨[.type "zip",.ref t,.ref u],[]⟩)
  (λ_ R s=>s.heap.IsTuple t xs/\s.heap.IsTuple u ys/\R (.ok (.ret (.ref (zT4 s.heap t u).objs.size))) { s with heap:=zT5 s.heap t u }):=
 .of_wp λprog w A R s h=>by
  obtain⟨hp,g,d,tk,os⟩:=s;obtain⟨a1,a2,h⟩:=h;have hsub:=sub_zip;have b1:Heap.IsTuple (Shared.heap ⟨hp,g,d,tk,os⟩) t xs:=a1;have b2:Heap.IsTuple (Shared.heap ⟨hp.push { cls:=.type "tuple_iterator",data:=.fields #[.ref t,.int 0 0] },g,d,tk,os⟩) u ys:=by obtain⟨o,ho,r⟩:=a2;exact⟨o,j0 _ ho,r⟩
  wp_walk using bEL b1,bEL b2;exact⟨_,rfl,h⟩
theorem aO6 {t u:Addr}{xs ys:Array Value}{Q:bEU}(ht:s.heap.IsTuple t xs)(hu:s.heap.IsTuple u ys)(q:Q (.ref (zT4 s.heap t u).objs.size) { s with heap:=zT5 s.heap t u }) :
  wpAny (model prog w) A (call (.type "zip") [.ref t,.ref u]) Q E s:=by
 refine callType_new F.called_zip (by decide) (F.typeCall_zip_2 _ _) (F.newCall_zip_2 _ _) (λobj=>F.args_object_init_3 obj _ _) F.entry_zip_new (aKx t u xs ys) ⟨ht,hu,?_⟩;exact⟨⟨_,j5 _ rfl,rfl⟩,q⟩
end
end PySem
namespace L2
open PySem PySem.Spec PyProof.Rows
section
variable {X:Cx}{bEX:bEV}{σ:St}{H:Hp}{s:Shared}
theorem Inv.tup_ne {t b:Addr}{xs:List V}(I:Inv X bEX σ H s)(h:SqT X.K H t xs)(f:sI X bEX H b):t≠b:=by
 rintro rfl;obtain⟨f0,f1,f2,f3,_⟩:=f;rcases h with (h|⟨o,h⟩)|⟨o,its,n,hk,_⟩
 ·rw[f0] at h;cases h
 ·rw[f0] at h;cases h
 ·have e:=I.ok.mod.kin t o hk;rcases f3 with z|z
  ·exact I.ok.noex t o e z
  ·exact absurd (bAB (m8 e) (bAP I.ok.bsz z)) (bBO _)
theorem Inv.drawn {ch:List Addr}{h':Heap}{vs:List V}{its:List Value}{T:Addr}(I:Inv X bEX σ H s)(hch:∀b∈ch,sI X bEX H b)(kp:∀b o,b∉ch->s.heap.get? b=some o->h'.get? b=some o)
  (hT:s.heap.objs.size<=T) (hv:Vals vs its) (hz:vs.length<=sizeLine) (ho:yL h' T its.toArray) (hth:∀b∈ch,∃o,h'.get? b=some o):Inv X bEX σ (upd H T (.tup vs)) { s with heap:=h' }:=by
 have fT:H T=none:=I.hok.fresh hT;have nT:∀b o,s.heap.get? b=some o->b≠T:=λb o e=>t7 (bAB (m8 e) hT);have nch:∀b u,H b=some u->b∉ch:=λb u e z=>by rw[(hch b z).1] at e;cases e
 refine I.step (g':=s.gens) (d':=s.drawn) (t':=s.toks) (ch:=ch) (λb hb=>?_) (λb o _ _ hc e _=>kp b o hc e) (λb o _ _ hc e _=>⟨o.slots,kp b o hc e⟩) (λb o hc e n=>by rw[aK (nT b o e)];exact n)
  (λb o hc e=>⟨o,kp b o hc e⟩) (λb xs e=>by rw[aK (aL e fT)];exact e) (λb o u e=>by rw[aK (aL e fT)];exact e) (λb ps e=>⟨#[],by rw[aK (aL e fT),e];simp⟩) (λm hm=>?_) (λb u e=>?_) I.bare
 ·obtain⟨_,f1,_,f3,f4,f5⟩:=hch b hb;exact⟨f3,f1,f4,f5⟩
 ·obtain⟨o,es,ep,ho',r⟩:=hm;exact⟨o,es,ep,kp _ o (λz=>(hch _ z).2.1 rfl) ho',r⟩
 ·by_cases hb:b=T
  ·subst hb;rw[aJ] at e;cases e;exact⟨hz,its,hv,ho⟩
  ·rw[aK hb] at e;refine (I.hok b u e).stay (λc v hc' q=>kp c v ?_ q) (λc q=>by rw[aK (aL q fT)];exact q) λc xs q=>by rw[aK (aL q fT)];exact q
   rcases hc' with z|z
   ·rw[z];exact nch b u e
   ·exact nch c _ z
theorem Inv.aFh {ch:List Addr}{h':Heap}(I:Inv X bEX σ H s)(hch:∀b∈ch,sI X bEX H b)(kp:∀b o,b∉ch->s.heap.get? b=some o->h'.get? b=some o):Inv X bEX σ H { s with heap:=h' }:=by
 have nch:∀b u,H b=some u->b∉ch:=λb u e z=>by rw[(hch b z).1] at e;cases e
 refine I.step (g':=s.gens) (d':=s.drawn) (t':=s.toks) (ch:=ch) (λb hb=>?_) (λb o _ _ hc e _=>kp b o hc e) (λb o _ _ hc e _=>⟨o.slots,kp b o hc e⟩) (λ_ _ _ _ n=>n)
  (λb o hc e=>⟨o,kp b o hc e⟩) (λ_ _ e=>e) (λ_ _ _ e=>e) (λb ps e=>⟨#[],by rw[e];simp⟩) (λm hm=>?_) (λb u e=>?_) I.bare
 ·obtain⟨_,f1,_,f3,f4,f5⟩:=hch b hb;exact⟨f3,f1,f4,f5⟩
 ·obtain⟨o,es,ep,ho',r⟩:=hm;exact⟨o,es,ep,kp _ o (λz=>(hch _ z).2.1 rfl) ho',r⟩
 ·refine (I.hok b u e).stay (λc v hc' q=>kp c v ?_ q) (λ_ q=>q) λ_ _ q=>q;rcases hc' with z|z
  ·rw[z];exact nch b u e
  ·exact nch c _ z
end
def Itz (K:bET)(t u:Addr)(xs ys:List V):It:=
 ⟨λi H=>SqT K H t xs/\SqT K H u ys/\i<xs.length/\i<ys.length,λi H v H'=>∃T a b,H T=none/\v=.ref T/\H'=upd H T (.tup [a,b])/\xs[i]?=some a/\ys[i]?=some b,λi H=>SqT K H t xs/\xs.length<=i⟩
def ztn (z TI TO i1 i2 t u:Addr)(i:Nat)(h:Heap):Prop:=
 h.get? z=some (iK .none TI TO)/\h.get? TI=some (dO (.ref i1) (.ref i2))/\(∃a b,h.get? TO=some (dO a b))/\h.get? i1=some (sG t i)/\h.get? i2=some (sG u i)
theorem aSr {P:Program}{w:World}{K:bET}{elts:List Expr}{kt:Nat}{pos:Pos}{z TI TO i1 i2 t u:Addr}{xs ys:List V}(D:oO z TI TO i1 i2) :
  Turn P w K (.Tuple elts kt pos) (Itz K t u xs ys) [z,TI,TO,i1,i2] z (ztn z TI TO i1 i2 t u) where
 mem:=by simp
 obj:=λi h st b hb=>by
  obtain⟨e1,e2,⟨a,c,e3⟩,e4,e5⟩:=st;simp only[bAD,v9,or_false] at hb;rcases hb with rfl|rfl|rfl|rfl|rfl
  ·exact⟨_,e1,λv z=>by cases (show Data.fields _=Data.cell v from z)⟩
  ·exact⟨_,e2,λv z=>by cases (show Data.seq _ _=Data.cell v from z)⟩
  ·exact⟨_,e3,λv z=>by cases (show Data.seq _ _=Data.cell v from z)⟩
  ·exact⟨_,e4,λv z=>by cases (show Data.fields _=Data.cell v from z)⟩
  ·exact⟨_,e5,λv z=>by cases (show Data.fields _=Data.cell v from z)⟩
 keep:=λi h h' st k=>by obtain⟨e1,e2,⟨a,c,e3⟩,e4,e5⟩:=st;exact⟨k z (by simp) _ e1,k TI (by simp) _ e2,⟨a,c,k TO (by simp) _ e3⟩,k i1 (by simp) _ e4,k i2 (by simp) _ e5⟩
 item:=by
  intro X hP hw hK hc i bEX s σ H E I hf st hg;subst hP hw hK;obtain⟨e1,e2,⟨a0,c0,e3⟩,e4,e5⟩:=st;obtain⟨ht,hu,l1,l2⟩:=hg;obtain⟨its,rv,pt,hz⟩:=I.tuple ht;obtain⟨jts,rw',pu,hz'⟩:=I.tuple hu;obtain⟨x,hx,rx⟩:=rv.get (d9 l1);obtain⟨y,hy,ry⟩:=rw'.get (d9 l2);have fz:=hf z (by simp);have fO:=hf TO (by simp);have f1:=hf i1 (by simp);have f2:=hf i2 (by simp);refine aP0 D e1 e2 e3 e4 e5 (show s.heap.IsTuple t its.toArray from pt) (show s.heap.IsTuple u jts.toArray from pu) (by simpa using hx) (by simpa using hy) (I.tup_ne ht fz) (I.tup_ne ht fO) (I.tup_ne ht f1) (I.tup_ne ht f2)
   (I.tup_ne hu fz) (I.tup_ne hu fO) (I.tup_ne hu f1) (I.tup_ne hu f2) λh' a1 a2 a3 a4 a5 kp=>?_
  refine⟨_,rfl,?_⟩;have fT:H s.heap.objs.size=none:=I.hok.fresh (j6 _);have I1:Inv X bEX σ (upd H s.heap.objs.size (.tup [xs[i],ys[i]])) { s with heap:=h' }:=by
   refine I.drawn (ch:=[z,TO,i1,i2]) (its:=[x,y]) (λb hb=>?_) (λb o hb e=>?_) (j6 _) (.cons rx (.cons ry .nil)) (small (by simp)) (.of a5 rfl ⟨_,a5,rfl,_,rfl⟩) (λb hb=>?_)
   ·refine hf b ?_;simp only[bAD,v9,or_false] at hb ⊢;rcases hb with h|h|h|h <;> simp[h]
   ·simp only[bAD,v9,or_false,not_or] at hb;exact kp b o hb.1 hb.2.1 hb.2.2.1 hb.2.2.2 e
   ·simp only[bAD,v9,or_false] at hb;rcases hb with rfl|rfl|rfl|rfl
    ·exact⟨_,a1⟩
    ·exact⟨_,a2⟩
    ·exact⟨_,a3⟩
    ·exact⟨_,a4⟩
  have nT:∀b∈[z,TI,TO,i1,i2],b≠s.heap.objs.size:=λb hb=>by
   have e:∃o,s.heap.get? b=some o:=by
    simp only[bAD,v9,or_false] at hb;rcases hb with rfl|rfl|rfl|rfl|rfl
    ·exact⟨_,e1⟩
    ·exact⟨_,e2⟩
    ·exact⟨_,e3⟩
    ·exact⟨_,e4⟩
    ·exact⟨_,e5⟩
   obtain⟨o,e⟩:=e;exact t7 (m8 e)
  refine bEP (s:={ s with heap:=h' }) a1 λh2 z2 s2=>?_;obtain⟨g0,g1,g2,g3,g4,g5⟩:=fz;have I2:Inv X bEX σ (upd H s.heap.objs.size (.tup [xs[i],ys[i]])) { s with heap:=h2 }:=Inv.turned (s:={ s with heap:=h' }) I1 (t':=s.toks) (it:=z) (λb o hb e=>(s2.2 b hb).trans e) (by rw[aK (nT z (by simp))];exact g0) g1 g3 g4 g5;refine⟨.ref s.heap.objs.size,_,I2,rfl,⟨_,_,_,fT,rfl,rfl,d9 l1,d9 l2⟩,?_,λb hb=>by rw[aK (nT b hb)];exact (hf b hb).1⟩;exact⟨z2,s2.extBut _ _ D.h1 (kp TI _ D.h1 D.h5 D.h6 D.h7 e2),⟨_,_,s2.extBut _ _ D.h2 a2⟩,s2.extBut _ _ D.h3 a3,s2.extBut _ _ D.h4 a4⟩
 done:=by
  intro X hP hw hK hc i bEX s σ H E I hf st hg;subst hP hw hK;obtain⟨e1,e2,⟨a0,c0,e3⟩,e4,e5⟩:=st;obtain⟨ht,hl⟩:=hg;obtain⟨its,rv,pt,hz⟩:=I.tuple ht;have hlen:=rv.length;refine aSu (I.ok.hd hc) D e1 e2 e3 e4 (show s.heap.IsTuple t its.toArray from pt) (by simp;lia) (I.tup_ne ht (hf z (by simp))) λh' kp=>⟨rfl,?_⟩;refine Inv.aFh (ch:=[z,TO,i1,i2]) I (λb hb=>hf b ?_) λb o hb e=>?_
  ·simp only[bAD,v9,or_false] at hb ⊢;rcases hb with h|h|h|h <;> simp[h]
  ·simp only[bAD,v9,or_false,not_or] at hb;exact kp b o hb.1 hb.2.1 hb.2.2.1 hb.2.2.2 e
 self:=λ_ _ _ _ _ st h=>bD6 st.1 h
section
variable {X:Cx}
def aSo (K:bET)(ta:TA):TI:=fun σ H R=>ta σ H λvs H1=>∃t u xs ys,vs=[.ref t,.ref u]/\SqT K H1 t xs/\SqT K H1 u ys/\R (Itz K t u xs ys) H1
theorem aT9 {elts:List Expr}{kt:Nat}{tp:Pos}{a b:Expr}{ta:TA}{p pos:Pos}(hg:Gl X "zip")(hm:X.mg "zip"=none)(ha:PA X [a,b] ta)(hs:starEach [a,b] X.env=(false,eval a X.env)::starEach [b] X.env:=by rfl)
  (hs2:starEach [b] X.env=[(false,eval b X.env)]:=by rfl):PI X (.Tuple elts kt tp) (.Call (.Name "zip" p) [a,b] [] pos) (aSo X.K ta):=by
 intro bEX s σ H R I h;refine Call_ (nU I hg hm aTj (bBQ (thn (ha pos bEX s σ H _ I h) λus s1 ⟨vs,H1,I1,r1,q1⟩=>?_) hs (by rw[hs2];rfl)));obtain⟨t,u,xs,ys,e,ht,hu,q⟩:=q1;subst e;obtain⟨its,rv,pt,hz⟩:=I1.tuple ht;obtain⟨jts,rw',pu,hz'⟩:=I1.tuple hu;cases r1 with
 |cons r rr=>
  cases rr with
  |cons r' rr'=>
   cases rr';cases r;cases r';refine aO6 (show s1.heap.IsTuple t its.toArray from pt) (show s1.heap.IsTuple u jts.toArray from pu) ?_;have z1:(zT1 s1.heap t).objs.size=s1.heap.objs.size+1:=bAW ..;have z2:(zT2 s1.heap t u).objs.size=s1.heap.objs.size+2:=by rw[bAW,z1]
   have z3:(zT3 s1.heap t u).objs.size=s1.heap.objs.size+3:=by rw[bAW,z2]
   have z4:(zT4 s1.heap t u).objs.size=s1.heap.objs.size+4:=by rw[bAW,z3]
   have D:oO (zT4 s1.heap t u).objs.size (zT2 s1.heap t u).objs.size (zT3 s1.heap t u).objs.size s1.heap.objs.size (zT1 s1.heap t).objs.size:=by constructor <;> (show (_:Nat)≠(_:Nat);rw[Ne];intro h;simp only[z1,z2,z3,z4] at h;lia)
   have g5:(zT5 s1.heap t u).get? (zT4 s1.heap t u).objs.size=some (iK .none (zT2 s1.heap t u).objs.size (zT3 s1.heap t u).objs.size):=j5 _ rfl;have g4:(zT5 s1.heap t u).get? (zT3 s1.heap t u).objs.size=some (dO .none .none):=j0 _ (j5 _ rfl);have g3:(zT5 s1.heap t u).get? (zT2 s1.heap t u).objs.size=some (dO (.ref s1.heap.objs.size) (.ref (zT1 s1.heap t).objs.size)):=j0 _ (j0 _ (j5 _ rfl));have g2:(zT5 s1.heap t u).get? (zT1 s1.heap t).objs.size=some (sG u 0):=j0 _ (j0 _ (j0 _ (j5 _ rfl)));have g1:(zT5 s1.heap t u).get? s1.heap.objs.size=some (sG t 0):=j0 _ (j0 _ (j0 _ (j0 _ (j5 _ rfl))));have I2:Inv X bEX σ H1 { s1 with heap:=zT5 s1.heap t u }:=I1.kept (t':=s1.toks) λb o e=>j0 _ (j0 _ (j0 _ (j0 _ (j0 _ e))));refine bD6 (s:={ s1 with heap:=zT5 s1.heap t u }) g5 ⟨_,_,_,_,H1,rfl,I2,aSr (xs:=xs) (ys:=ys) D,⟨g5,g3,⟨_,_,g4⟩,g1,g2⟩,λb hb=>?_,q⟩;have hb':s1.heap.objs.size<=b:=by
    simp only[bAD,v9,or_false] at hb;rcases hb with rfl|rfl|rfl|rfl|rfl
    ·rw[z4];exact bBS ..
    ·rw[z2];exact bBS ..
    ·rw[z3];exact bBS ..
    ·exact j6 _
    ·rw[z1];exact bBS ..
   exact I1.aCa hb' (I1.hok.fresh hb')
inductive Tk (K:bET)(H:Hp):V->Bool->Prop
 |int {i}:Tk K H (.int i) false
 |str {x}:Tk K H (.str x) false
 |bl {b}:Tk K H (.bl b) false
 |non:Tk K H .non false
 |lst {a xs}:SqL K H a xs->Tk K H (.ref a) false
 |dct {a kvs}:H a=some (.dK kvs)->Tk K H (.ref a) false
 |tup {a xs}:SqT K H a xs->Tk K H (.ref a) true
def aZ4 (K:bET):List V->Hp->VK->Prop:=λxs H Q=>∃x b,xs=[x,.ty "tuple"]/\Tk K H x b/\Q (.bl b) H
theorem jB:cD X (.builtin "isinstance") (aZ4 X.K):=by
 intro bEX s σ H xs us Q I r h;obtain⟨x,b,rfl,hx,q⟩:=h;obtain⟨u,v,rfl,rx,rT⟩:=r.two;cases rT;have f0:EP X bEX σ Q (.bool b) s:=⟨.bl _,H,I,rfl,q⟩;have f1:EP X bEX σ Q (.bool b) { s with toks:=s.toks+1 }:=⟨.bl _,H,I.tok _,rfl,q⟩;cases hx with
 |int=>obtain⟨t,rfl⟩:=rx;exact IsiPair.int_tuple f1
 |str=>obtain⟨t,rfl⟩:=rx;exact IsiPair.str_tuple f1
 |bl=>cases rx;exact IsiPair.bool_tuple f1
 |non=>cases rx;exact IsiPair.NoneType_tuple f1
 |lst hq=>cases rx;obtain⟨its,rv,⟨o,n,e,c,_⟩,hz⟩:=I.list hq;exact IsiPair.list_tuple e c f1
 |dct hq=>cases rx;obtain⟨_,_,_,_,o,_,_,e,ex,_⟩:=I.hok _ _ hq;exact IsiPair.dict_tuple e ex.1 f1
 |tup hq=>cases rx;obtain⟨its,rv,⟨o,e,c,_⟩,hz⟩:=I.tuple hq;exact IsiPair.tuple_tuple e c f0
end
section
variable {X:Cx}{scope:Scope}{N:List Str}{wi:TI}{te:TE}{σ:St}{H:Hp}{Q:VK}
theorem kY {σ0:St}{j:Nat}(h0:σ0[j]?=some none):σ0=σ0.set j none:=by
 refine (bB7 λi=>?_);rw[List.getElem?_set]
 split
 ·rename_i hj;subst hj
  split
  ·exact h0
  ·rename_i hlt;exact List.getElem?_eq_none_iff.mpr (by lia)
 ·rfl
theorem aDm (xs:List V)(f:V->V)(σ0:St)(cap:Cap X scope N σ σ0)(hsz:xs.length<=sizeLine)
  (hw:∀R:It->Hp->Prop,(∀J:It,(∀H' i x,Same H H'->xs[i]?=some x->J.go i H'/\∀y H2,J.yld i H' y H2->H2=H'/\y=x)->(∀H',Same H H'->J.stop xs.length H')->R J H)->wi σ H R)
  (he:∀x∈xs,∀H' R l,Same H H'->(∀H2,Same H' H2->R (f x) H2)->te ((σ0.set 0 l).set 0 (some x)) H' R) (h0:σ0[0]?=some none)
  (q:∀D H',Same H H'->H' D=some (.lst (xs.map f))->Q (.ref D) H') :
  jU X scope N wi (cO 0) nJ te σ H Q:=by
 refine⟨σ0,cap,hw _ λJ go stop D hD=>?_⟩;refine⟨λi m σ' H' ys=>i<=xs.length/\m=xs.length - i/\(∃l,σ'=σ0.set 0 l)/\Same H H'/\H' D=some (.lst ys)/\ys=(xs.take i).map f,⟨xs.length,bAJ _,rfl,⟨none,kY h0⟩,aV hD _,aJ,rfl⟩,?_⟩;rintro i m σ' H' ys ⟨hi,rfl,⟨l,rfl⟩,sm,hL,rfl⟩;refine⟨hL,?_⟩;by_cases hlt:i<xs.length
 ·right;obtain⟨g1,g2⟩:=go H' i xs[i] sm (d9 hlt);refine⟨g1,λx H2 hy=>?_⟩;obtain⟨rfl,rfl⟩:=g2 x H2 hy;unfold cO nJ;dsimp only;rw[if_pos rfl];refine he xs[i] (bAR hlt) _ _ l sm λH3 s3=>⟨s3 _ _ hL,?_,xs.length - (i+1),by lia,hlt,rfl,⟨some xs[i],?_⟩,?_,aJ,?_⟩
  ·rw[j9,bAL];lia
  ·rw[bB8]
  ·intro b o e;rw[aK (aL e hD)];exact s3 _ _ (sm _ _ e)
  ·rw[bBD,d9 hlt,bAO];rfl
 ·left;have e:i=xs.length:=by lia
  subst e;refine⟨stop _ sm,?_⟩;rw[bCG] at hL;exact q D _ sm hL
theorem aR6 {K:bET}{tl:TA}{t u:Addr}(xs ys:List V)(f:V->V->V)(σ0:St)(cap:Cap X scope N σ σ0)(hsz:xs.length<=sizeLine)(hl:xs.length=ys.length)
  (ht:SqT K H t xs) (hu:SqT K H u ys) (hw:∀R:List V->Hp->Prop,R [.ref t,.ref u] H->tl σ H R)
  (he:∀(i:Nat) (x y:V),xs[i]?=some x->ys[i]?=some y->∀H' R l1 l2,Same H H'->(∀H2,Same H' H2->R (f x y) H2)->te ((((σ0.set 0 l1).set 1 l2).set 0 (some x)).set 1 (some y)) H' R) (h0:σ0[0]?=some none) (h1:σ0[1]?=some none)
  (q:∀D H',Same H H'->H' D=some (.lst (List.zipWith f xs ys))->Q (.ref D) H') :
  jU X scope N (aSo K tl) (aL6 K 2 (sV (cO 0) (sV (cO 1) aPz))) nJ te σ H Q:=by
 refine⟨σ0,cap,hw _ ⟨t,u,xs,ys,rfl,ht,hu,λD hD=>?_⟩⟩;refine⟨λi m σ' H' zs=>i<=xs.length/\m=xs.length - i/\(∃l1 l2,σ'=(σ0.set 0 l1).set 1 l2)/\Same H H'/\H' D=some (.lst zs)/\zs=(List.zipWith f xs ys).take i,⟨xs.length,bAJ _,rfl,⟨none,none,?_⟩,aV hD _,aJ,rfl⟩,?_⟩
 ·rw[<-kY h0];exact kY h1
 rintro i m σ' H' zs ⟨hi,rfl,⟨l1,l2,rfl⟩,sm,hL,rfl⟩;refine⟨hL,?_⟩;by_cases hlt:i<xs.length
 ·right;refine⟨⟨sm.aY ht,sm.aY hu,hlt,by lia⟩,λv H2 hy=>?_⟩;obtain⟨T,a,b,hT,rfl,rfl,ha,hb⟩:=hy;have s2:Same H' (upd H' T (.tup [a,b])):=aV hT _;refine⟨T,[a,b],rfl,.inl (.inl aJ),rfl,a,[b],rfl,b,[],rfl,rfl,?_⟩;unfold nJ;dsimp only;rw[if_pos rfl];refine he i a b ha hb _ _ l1 l2 (λb o e=>s2 _ _ (sm _ _ e)) λH3 s3=>⟨s3 _ _ (s2 _ _ hL),?_,xs.length - (i+1),by lia,hlt,rfl,⟨some a,some b,?_⟩,?_,aJ,?_⟩
  ·rw[bAL,bEH];lia
  ·rw[List.set_comm _ _ (show (1:Nat)≠0 by decide),bB8,bB8]
  ·intro c o e;rw[aK (aL e hD)];exact s3 _ _ (s2 _ _ (sm _ _ e))
  ·rw[bBD,List.getElem?_zipWith,ha,hb];rfl
 ·left;have e:i=xs.length:=by lia
  subst e;refine⟨⟨sm.aY ht,j6 _⟩,?_⟩;rw[bAY (by rw[bEH];lia)] at hL;exact q D _ sm hL
theorem aL3 {K:bET}{a:Addr}{xs:List V}{tl:TE}(hS:SqT K H a xs)(h:∀R:VK,R (.ref a) H->tl σ H R)(R:It->Hp->Prop)
  (q:∀J:It,(∀H' i x,Same H H'->xs[i]?=some x->J.go i H'/\∀y H2,J.yld i H' y H2->H2=H'/\y=x)->(∀H',Same H H'->J.stop xs.length H')->R J H):aUy K tl σ H R:=by
 refine h _ ⟨a,rfl,⟨xs,hS⟩,q _ (λH' i x s e=>⟨⟨xs,x,s.aY hS,e⟩,λy H2 hy=>?_⟩) λH' s=>⟨xs,s.aY hS,j6 _⟩⟩;obtain⟨e1,e2⟩:=hy;have e3:=e2 xs (s.aY hS);rw[e] at e3;cases e3;exact⟨e1,rfl⟩
end
section
variable {κ:Type}[DecidableEq κ]
def lV (kvs:List (κ × V))(k:κ):Option V:=(kvs.find? λkv=>decide (kv.1=k)).map (·.2)
def putK (kvs:List (κ × V))(k:κ)(v:V):List (κ × V):=
 if (kvs.any λkv=>decide (kv.1=k))=true then kvs.map (λkv=>if kv.1=k then (kv.1,v) else kv) else kvs++[(k,v)]
def mF (kvs:List (κ × V))(k:κ):List (κ × V):=kvs.filter λkv=>decide (kv.1≠k)
theorem mZ {p:κ × V}{r:List (κ × V)}{k:κ}(e:p.1=k):lV (p::r) k=some p.2:=by simp[lV,bCC,e]
theorem qM {p:κ × V}{r:List (κ × V)}{k:κ}(e:¬ p.1=k):lV (p::r) k=lV r k:=by simp[lV,bCC,e]
theorem vO (k:κ):∀kvs:List (κ × V),(kvs.any λkv=>decide (kv.1=k))=(lV kvs k).isSome
 |[]=>rfl
 |p::r=>by
  rw[bD7];by_cases e:p.1=k
  ·simp only[mZ e,v6 e,Bool.true_or,Option.isSome_some]
  ·rw[qM e,w6 e,Bool.false_or];exact vO k r
theorem qO (kvs:List (κ × V))(k:κ)(v:V):(putK kvs k v).length<=kvs.length+1:=by
 unfold putK
 split
 ·rw[j9];lia
 ·rw[bAC,v5,bBZ];lia
theorem wB {kvs:List (κ × V)}{k:κ}(v:V)(h:lV kvs k=none):putK kvs k v=kvs++[(k,v)]:=by unfold putK;rw[vO,h];exact if_neg (by decide)
theorem mW.wH {o:Option V}{u:Option Value}(r:mW o u):o.isSome=u.isSome:=by
 cases o with
 |none=>cases u with
  |none=>rfl
  |some _=>exact (show False from r).elim
 |some _=>cases u with
  |none=>exact (show False from r).elim
  |some _=>rfl
theorem mW.getD {o:Option V}{u:Option Value}{d:V}{d':Value}(r:mW o u)(rd:RelV d d'):RelV (o.getD d) (u.getD d'):=by
 cases o with
 |none=>cases u with
  |none=>exact rd
  |some _=>exact (show False from r).elim
 |some _=>cases u with
  |none=>exact (show False from r).elim
  |some _=>exact r
theorem KV.val {kvs:List (κ × V)}{vs:List (κ × Value)}(r:KV kvs vs)(k:κ):mW (lV kvs k) (valueAt vs k):=by
 unfold KV at r
 induction r with
 |nil=>exact True.intro
 |@cons p q ps qs h t ih=>
  obtain⟨h1,h2⟩:=h;by_cases e:p.1=k
  ·have e':q.1=k:=h1.symm.trans e;have b:valueAt (q::qs) k=some q.2:=by simp[valueAt,bCC,e']
   rw[mZ e,b];exact h2
  ·have e':¬ q.1=k:=λz=>e (h1.trans z);have b:valueAt (q::qs) k=valueAt qs k:=by simp[valueAt,bCC,e']
   rw[qM e,b];exact ih
theorem KV.any {kvs:List (κ × V)}{vs:List (κ × Value)}(r:KV kvs vs)(k:κ):(kvs.any λkv=>decide (kv.1=k))=vs.any λkv=>decide (kv.1=k):=by
 unfold KV at r
 induction r with
 |nil=>rfl
 |cons h t ih=>rw[bD7,bD7,ih,h.1]
theorem KV.repl {kvs:List (κ × V)}{vs:List (κ × Value)}(r:KV kvs vs)(k:κ){y:V}{u:Value}(ry:RelV y u) :
  KV (kvs.map λkv=>if kv.1=k then (kv.1,y) else kv) (vs.map λkv=>if kv.1=k then (kv.1,u) else kv):=by
 unfold KV at r ⊢
 induction r with
 |nil=>exact .nil
 |@cons p q ps qs h t ih=>
  rw[bAM,bAM];refine .cons ?_ ih;obtain⟨h1,h2⟩:=h;by_cases e:p.1=k
  ·rw[if_pos e,if_pos (h1.symm.trans e)];exact⟨h1,ry⟩
  ·rw[if_neg e,if_neg (λz=>e (h1.trans z))];exact⟨h1,h2⟩
theorem KV.put {kvs:List (κ × V)}{vs:List (κ × Value)}(r:KV kvs vs)(k:κ){y:V}{u:Value}(ry:RelV y u):KV (putK kvs k y) (stored vs k u):=by
 unfold putK stored;rw[r.any k];by_cases e:(vs.any λkv=>decide (kv.1=k))=true
 ·rw[if_pos e,if_pos e];exact r.repl k ry
 ·rw[if_neg e,if_neg e];exact Paired.snoc r ⟨rfl,ry⟩
theorem KV.drop {kvs:List (κ × V)}{vs:List (κ × Value)}(r:KV kvs vs)(k:κ):KV (mF kvs k) (without vs k):=by
 unfold KV at r ⊢;unfold mF without
 induction r with
 |nil=>exact .nil
 |@cons p q ps qs h t ih=>
  obtain⟨h1,h2⟩:=h;rw[bC3,bC3];by_cases e:p.1=k
  ·have a:¬ decide (p.1≠k)=true:=by simp[e]
   have b:¬ decide (q.1≠k)=true:=by simp[h1.symm.trans e]
   rw[if_neg a,if_neg b];exact ih
  ·have e':¬ q.1=k:=λz=>e (h1.trans z);have a:decide (p.1≠k)=true:=by simp[e]
   have b:decide (q.1≠k)=true:=by simp[e']
   rw[if_pos a,if_pos b];exact .cons ⟨h1,h2⟩ ih
theorem KV.keys {kvs:List (κ × V)}{vs:List (κ × Value)}(r:KV kvs vs):kvs.map (·.1)=vs.map (·.1):=by
 unfold KV at r
 induction r with
 |nil=>rfl
 |cons h t ih=>rw[bAM,bAM,ih,h.1]
theorem KV.length {kvs:List (κ × V)}{vs:List (κ × Value)}(r:KV kvs vs):kvs.length=vs.length:=Paired.length r
theorem aRn (kvs:List (κ × V))(k:κ):(mF kvs k).length<=kvs.length:=bDA _ _
end
theorem aBr {P:Program}{w:World}{k:Key}{u:Value}(r:RelV (kV k) u):(bB P w).is k u=true:=by
 cases k with
 |inl i=>obtain⟨t,e⟩:=(show ∃t,u=Value.int i t from r);subst e;exact aGf P w i t
 |inr x=>obtain⟨t,e⟩:=(show ∃t,u=Value.str x t from r);subst e;exact aHw P w x t
theorem aC6 {P:Program}{w:World}:∀{ks:List Key} {us:List Value},Vals (ks.map kV) us->ItemsAre (bB P w) ks us
 |[],_,r=>by rw[List.map_nil] at r;cases r;exact .nil
 |k::ks,_,r=>by
  rw[bAM] at r;cases r with
  |cons h t=>exact .cons (aBr h) (aC6 t)
abbrev KT (H:Hp):List (List Key × V)->List (List Key × Addr × Value)->Prop:=Paired λp q=>p.1=q.1/\H q.2.1=some (.tup (p.1.map kV))/\RelV p.2 q.2.2
theorem KT.val {H:Hp}{kvs:List (List Key × V)}{xs:List (List Key × Addr × Value)}(r:KT H kvs xs)(k:List Key):mW (lV kvs k) ((atKey xs k).map (·.2)):=by
 induction r with
 |nil=>exact True.intro
 |@cons p q ps qs h t ih=>
  obtain⟨h1,_,h2⟩:=h;by_cases e:p.1=k
  ·have e':q.1=k:=h1.symm.trans e;have b:atKey (q::qs) k=some q.2:=by simp[atKey,bCC,e']
   rw[mZ e,b];exact h2
  ·have e':¬ q.1=k:=λz=>e (h1.trans z);have b:atKey (q::qs) k=atKey qs k:=by simp[atKey,bCC,e']
   rw[qM e,b];exact ih
theorem KT.repl {H:Hp}{kvs:List (List Key × V)}{xs:List (List Key × Addr × Value)}(r:KT H kvs xs)(k:List Key){y:V}{u:Value}(ry:RelV y u) :
  KT H (kvs.map λkv=>if kv.1=k then (kv.1,y) else kv) (xs.map (putAt k u)):=by
 induction r with
 |nil=>exact .nil
 |@cons p q ps qs h t ih=>
  rw[bAM,bAM];refine .cons ?_ ih;obtain⟨h1,h2,h3⟩:=h;unfold putAt;by_cases e:p.1=k
  ·rw[if_pos e,if_pos (h1.symm.trans e)];exact⟨h1,h2,ry⟩
  ·rw[if_neg e,if_neg (λz=>e (h1.trans z))];exact⟨h1,h2,h3⟩
theorem KT.put {H:Hp}{kvs:List (List Key × V)}{xs:List (List Key × Addr × Value)}(r:KT H kvs xs)(k:List Key){b:Addr}{y:V}{u:Value}(hb:H b=some (.tup (k.map kV)))(ry:RelV y u) :
  KT H (putK kvs k y) (storedH xs k b u):=by
 have e:(kvs.any λkv=>decide (kv.1=k))=(atKey xs k).isSome:=by rw[vO,(r.val k).wH,Option.isSome_map]
 unfold putK storedH;rw[e];by_cases q:(atKey xs k).isSome=true
 ·rw[if_pos q,if_pos q];exact r.repl k ry
 ·rw[if_neg q,if_neg q];exact Paired.snoc r ⟨rfl,hb,ry⟩
theorem KT.keeps {H H':Hp}{kvs:List (List Key × V)}{xs:List (List Key × Addr × Value)}(r:KT H kvs xs)(ht:∀b ys,H b=some (.tup ys)->H' b=some (.tup ys)):KT H' kvs xs:=
 Paired.aYk r λ_ _ z=>⟨z.1,ht _ _ z.2.1,z.2.2⟩
section
variable {P:Program}{w:World}{H:Hp}{h:Heap}{a:Addr}
theorem aWp {u:HO}(ok:HOk P w H h)(e:Rd H a u):cU P w H h a u:=e.ok ok
theorem aAl {kvs:List (Key × V)}(ok:HOk P w H h)(e:Rd H a (.dK kvs)):kvs.length<=sizeLine/\(a == sysModules)=false/\∃vs,KV kvs vs/\h.DictOf (bB P w) a vs:=
 show cU P w H h a (.dK kvs) from aWp ok e
theorem aA9 {kvs:List (Key × V)}(ok:HOk P w H h)(e:H a=some (.dK kvs)):kvs.length<=sizeLine/\(a == sysModules)=false/\∃vs,KV kvs vs/\h.DictOf (bB P w) a vs:=aAl ok (.inl e)
theorem aBh {ks:List Key}(ok:HOk P w H h)(e:H a=some (.tup (ks.map kV))):(tupleKind (bB P w)).is h ks a:=by obtain⟨_,its,r,⟨o,h1,h2,n,h3⟩,_⟩:=(show cU P w H h a (.tup (ks.map kV)) from ok a _ e);exact⟨o,its.toArray,n,h1,h2,h3,by simpa using aC6 r⟩
theorem aC8 {kvs:List (List Key × V)}(ok:HOk P w H h)(e:Rd H a (.dT kvs)):kvs.length<=sizeLine/\(a == sysModules)=false /\
  ∃xs,KT H kvs xs/\h.DictOfH (tupleKind (bB P w)) a xs:=by
 obtain⟨z,y,xs,r,o,es,ep,h1,h2,h3,h4,h5⟩:=(show cU P w H h a (.dT kvs) from aWp ok e);refine⟨z,y,xs,r,o,es,ep,h1,h2,h3,h4,λx hx=>?_,h5⟩;have all:∀{l:List (List Key × V)} {m:List (List Key × Addr × Value)},KT H l m->∀x∈m,(tupleKind (bB P w)).is h x.1 x.2.1:=by
  intro l m q
  induction q with
  |nil=>intro x hx;exact nomatch hx
  |@cons p q ps qs hq t ih=>
   intro x hx;rcases List.mem_cons.mp hx with e|hx
   ·subst e;exact aBh ok (by rw[<-hq.1];exact hq.2.1)
   ·exact ih x hx
 exact all r x hx
theorem bA1 {kvs:List (List Key × V)}(ok:HOk P w H h)(e:H a=some (.dT kvs)):kvs.length<=sizeLine/\(a == sysModules)=false /\
  ∃xs,KT H kvs xs/\h.DictOfH (tupleKind (bB P w)) a xs:=aC8 ok (.inl e)
end
def aK4 (H:Hp)(a:Addr)(y:V)(r:Option V):Prop:=
 (∃kvs k,Rd H a (.dK kvs)/\y=kV k/\r=lV kvs k)\/∃kvs k b,Rd H a (.dT kvs)/\y=.ref b/\H b=some (.tup (k.map kV))/\r=lV kvs k
def aG2 (H:Hp)(a:Addr)(y v:V)(H':Hp):Prop:=
 (∃kvs k,H a=some (.dK kvs)/\y=kV k/\kvs.length<sizeLine/\H'=upd H a (.dK (putK kvs k v))) \/
 ∃kvs k b,H a=some (.dT kvs)/\y=.ref b/\H b=some (.tup (k.map kV))/\kvs.length<sizeLine/\H'=upd H a (.dT (putK kvs k v))
theorem aG2.k {H:Hp}{a:Addr}{kvs:List (Key × V)}{k:Key}{v:V}(e:H a=some (.dK kvs))(hl:kvs.length<sizeLine):aG2 H a (kV k) v (upd H a (.dK (putK kvs k v))):=.inl ⟨kvs,k,e,rfl,hl,rfl⟩
section
variable {X:Cx}{bEX:bEV}{σ:St}{H:Hp}{s:Shared}{a:Addr}{y v:V}{u r:Value}{o:Option V}{A:Around}{E:bEU}
theorem Inv.big (I:Inv X bEX σ H s):sysModules<s.heap.objs.size:=by have h:mainGlobals<s.heap.objs.size:=(I.mod.glob.keeps I.bk).lt;exact bDZ (by decide) h
theorem aPw {Q:bEU}(hu:A.units+1<cLine)(I:Inv X bEX σ H s)(g:aK4 H a y (some v))(ry:RelV y u)(h:∀w' s',Inv X bEX σ H s'->RelV v w'->Q w' s') :
  wpAny (model X.prog X.w) A (getItem (.ref a) u) Q E s:=by
 rcases g with⟨kvs,k,e,ey,l⟩|⟨kvs,k,b,e,ey,eb,l⟩
 ·subst ey;obtain⟨z,hd,vs,rel,dd⟩:=aAl I.hok e;obtain⟨w',hw,rw'⟩:=mW.some_of (v:=v) (o:=valueAt vs k) (by rw[l];exact rel.val k);exact wpAny_getItem_of (aBr ry) dd.mapOf hw (h w' _ (I.tok _) rw')
 ·subst ey;cases (show u=Value.ref b from ry);obtain⟨z,hd,xs,rel,dd⟩:=aC8 I.hok e;obtain⟨w',hw,rw'⟩:=mW.some_of (v:=v) (o:=(atKey xs k).map (·.2)) (by rw[l];exact rel.val k);obtain⟨p,hp,hp2⟩:=Option.map_eq_some_iff.mp hw;refine wpAny_getItem_heap (tupleKind_room_in1 hu) (aBh I.hok eb) dd hp ?_;rw[hp2];exact h w' _ (I.tok _) rw'
theorem aUr {Q:bEU}(hu:A.units+1<cLine)(I:Inv X bEX σ H s)(g:aK4 H a y o)(ry:RelV y u)(h:∀s',Inv X bEX σ H s'->Q (.bool (!o.isSome)) s') :
  wpAny (model X.prog X.w) A (compareOp .NotIn u (.ref a)) Q E s:=by
 rcases g with⟨kvs,k,e,ey,l⟩|⟨kvs,k,b,e,ey,eb,l⟩
 ·subst ey;obtain⟨z,hd,vs,rel,dd⟩:=aAl I.hok e;refine wpAny_notIn_of (aBr ry) hd dd.mapOf ?_;rw[<-(rel.val k).wH,<-l];exact h _ (I.tok _)
 ·subst ey;cases (show u=Value.ref b from ry);obtain⟨z,hd,xs,rel,dd⟩:=aC8 I.hok e;refine wpAny_notIn_heap (tupleKind_room_in1 hu) (aBh I.hok eb) hd dd ?_;have q:=(rel.val k).wH;rw[Option.isSome_map] at q;rw[<-q,<-l];exact h _ (I.tok _)
theorem aGa {h':Heap}{t':Nat}{ob:HO}(I:Inv X bEX σ H s)(mu:Mut (H a))(hs:Heap.SameBut a s.heap h')(he:∃q,h'.get? a=some q)(new:cU X.prog X.w (upd H a ob) h' a ob) :
  Inv X bEX σ (upd H a ob) { s with heap:=h',toks:=t' }:=
 I.write (x:=a) (e:=a) mu (.inl rfl) (λb q hb z=>(hs.2 b hb).trans z) he new
theorem aS5 {P:Program}{w:World}{H':Hp}{h':Heap}{kvs:List (Key × V)}{vs:List (Key × Value)}(z:kvs.length<=sizeLine)(hd:(a == sysModules)=false)(rel:KV kvs vs)(dd:h'.DictOf (bB P w) a vs) :
  cU P w H' h' a (.dK kvs):=⟨z,hd,vs,rel,dd⟩
theorem aN7 {H':Hp}{Q:Unit->Shared->Prop}(hu:A.units+1<cLine)(I:Inv X bEX σ H s)(g:aG2 H a y v H')(ry:RelV y u)(rv:RelV v r)(h:∀s',Inv X bEX σ H' s'->Q () s') :
  wpAny (model X.prog X.w) A (setItem (.ref a) u r) Q E s:=by
 rcases g with⟨kvs,k,e,ey,l,eH⟩|⟨kvs,k,b,e,ey,eb,l,eH⟩
 ·subst ey eH;obtain⟨z,hd,vs,rel,dd⟩:=aA9 I.hok e;have hz:vs.length<=sizeLine:=by rw[<-rel.length];exact z
  have hl:(putK kvs k v).length<=sizeLine:=by have:=qO kvs k v;lia
  refine wpAny_setItem_pairs (hsz:=hz) (aBr ry) dd λh' dd' hs=>h _ ?_;have he:∃q,h'.get? a=some q:=let ⟨q,_,_,hq,_⟩:=dd';⟨q,hq⟩
  exact aGa I (by rw[e];exact True.intro) hs he (aS5 hl hd (rel.put k rv) dd')
 ·subst ey eH;cases (show u=Value.ref b from ry);obtain⟨z,hd,xs,rel,dd⟩:=bA1 I.hok e;have hz:xs.length<=sizeLine:=by rw[<-Paired.length rel];exact z
  have hl:(putK kvs k v).length<=sizeLine:=by have:=qO kvs k v;lia
  refine wpAny_setItem_heap (hsz:=hz) (tupleKind_room_in1 hu) (aBh I.hok eb) dd λh' dd' hs=>h _ ?_;obtain⟨q,es,ep,hq,h2,h3,h4,_,h5⟩:=dd';refine aGa I (by rw[e];exact True.intro) hs ⟨q,hq⟩ ⟨hl,hd,_,(rel.put k eb rv).keeps λc ys ec=>?_,q,es,ep,hq,h2,h3,h4,h5⟩;rw[aK (aIs ec e (λz=>nomatch z))];exact ec
end
section
variable {X:Cx}{bEX:bEV}{σ:St}{H:Hp}{s:Shared}{a:Addr}{kvs:List (Key × V)}{k:Key}{u:Value}{A:Around}{E:bEU}
theorem bAd {v:V}{more:List Value}{Q:bEU}(I:Inv X bEX σ H s)(e:H a=some (.dK kvs))(ry:RelV (kV k) u)(l:lV kvs k=some v)(hm:more=[]\/∃x,more=[x])
  (h:∀w' s',Inv X bEX σ (upd H a (.dK (mF kvs k))) s'->RelV v w'->Q w' s'):wpAny (model X.prog X.w) A (call (.builtin "dict.pop") (.ref a::u::more)) Q E s:=by
 obtain⟨z,hd,vs,rel,dd⟩:=aA9 I.hok e;obtain⟨w',hw,rw'⟩:=mW.some_of (v:=v) (o:=valueAt vs k) (by rw[<-l];exact rel.val k);have hp:(keyPart u).isSome=true:=by
  cases k with
  |inl i=>obtain⟨t,q⟩:=(show ∃t,u=Value.int i t from ry);subst q;rfl
  |inr x=>obtain⟨t,q⟩:=(show ∃t,u=Value.str x t from ry);subst q;rfl
 have ha:argsOk "dict.pop" ⟨.ref a::u::more,[]⟩:=by
  rcases hm with q|⟨x,q⟩
  ·subst q;exact PySem.F.args_dict_pop_2 _ _
  ·subst q;exact PySem.F.args_dict_pop_3 _ _ _
 refine call_meetsIn PySem.F.slot_dict_pop dd.typeIs PySem.F.entry_dict_pop ha (meets_dict_pop_there (bB X.prog X.w) a (aBr ry) more hm hp)
  ⟨vs,w',dd,by rw[<-rel.length];exact z,hw,λh' dd' hs=>h w' _ ?_ rw'⟩
 have he:∃q,h'.get? a=some q:=let ⟨q,_,_,hq,_⟩:=dd';⟨q,hq⟩
 exact aGa I (by rw[e];exact True.intro) hs he (aS5 (bAP (aRn kvs k) z) hd (rel.drop k) dd')
theorem bAp {Q:bEU}(I:Inv X bEX σ H s)(e:Rd H a (.dK kvs))(h:∀t s',Inv X bEX σ H s'->Q (.int kvs.length t) s'):wpAny (model X.prog X.w) A (call (.builtin "len") [.ref a]) Q E s:=by obtain⟨z,hd,vs,rel,dd⟩:=aAl I.hok e;refine call_len_dict hd dd (by rw[<-rel.length];rw[sizeLine_eq] at z;lia) ?_;rw[<-rel.length];exact h _ _ (I.tok _)
end
def aXv (i:Expr):Prop:=∀ov iv,subscripted i false ov iv=operate [ov,iv] (getItem ov iv)
theorem aU4 {prog:Program}{w:World}{A:Around}{E:bEU}{s:Shared}{env:Env}{value slice:Expr}{pos:Pos}{T id:String}{Q:bEU}
  (hl:typeLookup (.type T) "__getitem__"=pure (some (.builtin id))) (hs:aXv slice)
  (h:wpAny (model prog w) A (eval value env) (λo s₁=>wpAny (model prog w) A (eval slice env) (λi s₂=>s₂.TypeIs o T/\wpAny (model prog w) A (getItem o i) Q E s₂) E s₁) E s) :
  wpAny (model prog w) A (eval (.Subscript value slice pos) env) Q E s:=by
 refine Subscript_ (bBB h (λo s₁ h₁=>bBB h₁ (λi s₂ h₂=>?_) λ_ _ x=>x) λ_ _ x=>x);obtain⟨hT,h₂⟩:=h₂;unfold subscriptTail;refine c7 ?_;rw[getitemInPython_of_ne hT.not_modules];refine c7 (wpAny_specialOf hT hl ?_);have fin:wpAny (model prog w) A (subscripted slice false o i) (λr s₃=>wpAny (model prog w) A (letTemporaryGo value o r >>= λ_=>pure r) Q E s₃) E s₂:=by rw[hs o i];exact wpAny_operating (bBB h₂ (λr s₃ h₃=>c7 (wpAny_letTemporaryGo (j4 h₃))) λ_ _ x=>x)
 first
  |exact j4 (c7 fin)
  |exact c7 (j4 (c7 fin))
  |exact c7 fin
theorem aHd {X:Cx}{bEX:bEV}{σ:St}{H:Hp}{s:Shared}{a:Addr}{y:V}{o:Option V}(I:Inv X bEX σ H s)(g:aK4 H a y o):s.TypeIs (.ref a) "dict":=by
 rcases g with⟨kvs,k,e,_,_⟩|⟨kvs,k,b,e,_,_,_⟩
 ·obtain⟨_,_,vs,_,dd⟩:=aAl I.hok e;exact dd.typeIs
 ·obtain⟨_,_,xs,_,dd⟩:=aC8 I.hok e;exact dd.typeIs
def aWo (td ty:TE):TE:=fun σ H Q=>td σ H λx H1=>ty σ H1 λy H2=>∃a v,x=.ref a/\aK4 H2 a y (some v)/\Q v H2
def aMl (ty td:TE):TE:=fun σ H Q=>ty σ H λy H1=>td σ H1 λx H2=>∃a o,x=.ref a/\aK4 H2 a y o/\Q (.bl (!o.isSome)) H2
def aWz (td ty tv:TE):TS:=λD σ H=>tv σ H λv H1=>td σ H1 λx H2=>ty σ H2 λy H3=>∃a H4,x=.ref a/\aG2 H3 a y v H4/\D.nx σ H4
section
variable {X:Cx}{o i e value:Expr}{pos pos' tpos:Pos}{td ty tv:TE}
theorem aU5 (hu:X.A.units+1<cLine)(ho:PE X o td)(hi:PE X i ty)(hs:aXv i):PE X (.Subscript o i pos) (aWo td ty):=by intro bEX s σ H Q I h;refine aU4 PySem.F.slot_dict_getitem.lookup hs (thn (ho bEX s σ H _ I h) λu s1 ⟨x,H1,I1,rx,q1⟩=>thn (hi bEX s1 σ H1 _ I1 q1) λiv s2 ⟨y,H2,I2,ry,a,v,ex,g,q2⟩=>?_);subst ex;obtain rfl:u=Value.ref a:=rx;exact⟨aHd I2 g,aPw hu I2 g ry λw' s3 I3 rw'=>⟨v,H2,I3,rw',q2⟩⟩
theorem aPj (hu:X.A.units+1<cLine)(hi:PE X i ty)(ho:PE X o td):PC X .NotIn i o (aMl ty td):=by intro bEX s σ H Q I h;refine thn (hi bEX s σ H _ I h) λiv s1 ⟨y,H1,I1,ry,q1⟩=>thn (ho bEX s1 σ H1 _ I1 q1) λu s2 ⟨x,H2,I2,rx,a,ov,ex,g,q2⟩=>?_;subst ex;obtain rfl:u=Value.ref a:=rx;exact aUr hu I2 g ry λs3 I3=>⟨.bl (!ov.isSome),H2,I3,rfl,q2⟩
theorem aU1 (hu:X.A.units+1<cLine)(ho:PE X o td)(hi:PE X i ty)(hv:PE X value tv)(hs:swapsWith value (some (.Subscript o i pos')) pos.line X.env=pure false) :
  PS X (.Assign [.Subscript o i pos'] value pos) (aWz td ty tv):=by
 intro bEX s σ H D I h;refine wpAny_Assign_Subscript (thn (hv bEX s σ H _ I h) λr s1 ⟨v,H1,I1,rv,q1⟩=>thn (ho bEX s1 σ H1 _ I1 q1) λu s2 ⟨x,H2,I2,rx,q2⟩=>thn (hi bEX s2 σ H2 _ I2 q2) λiv s3 ⟨y,H3,I3,ry,a,H4,ex,g,q3⟩=>?_) hs;subst ex;obtain rfl:u=Value.ref a:=rx;exact aN7 hu I3 g ry rv λs4 I4=>⟨σ,H4,I4,q3⟩
end
theorem aQ6 {P:Program}{w:World}{H:Hp}(h:Heap)(hb:sysModules<h.objs.size):cU P w H (h.push { cls:=.type "dict",data:=.dict #[] }) h.objs.size (.dK []):=
 ⟨bAJ _,beq_eq_false_iff_ne.mpr (Ne.symm (t7 hb)),[],.nil,Heap.DictOf.new h⟩
def aS4:TE:=λ_ H Q=>∀p,H p=none->Q (.ref p) (upd H p (.dK []))
section
variable {X:Cx}{pos:Pos}
theorem aRs:PE X (.Dict [] [] pos) aS4:=λbEX s σ H Q I h=>
 wpAny_Dict_empty ⟨.ref s.heap.objs.size,_,I.laid (a:=s.heap.objs.size) (o:=.dK []) (t':=s.toks) (λ_ _ q=>j0 _ q) (j6 _) (aQ6 s.heap I.big),rfl,h _ (I.hok.fresh (j6 _))⟩
end
def qK (kvs more:List (Key × V)):List (Key × V):=more.foldl (λacc kv=>putK acc kv.1 kv.2) kvs
theorem KV.merge:∀{more:List (Key × V)} {rs:List (Key × Value)} {kvs:List (Key × V)} {vs:List (Key × Value)},KV more rs->KV kvs vs->KV (qK kvs more) (merged vs rs):=by
 intro more rs kvs vs r;unfold KV at r
 induction r generalizing kvs vs with
 |nil=>intro q;exact q
 |@cons p q ps qs h t ih=>
  intro r0;have e:KV (putK kvs p.1 p.2) (stored vs q.1 q.2):=by have:=r0.put p.1 h.2;rw[<-h.1];exact this
  exact ih e
theorem sW:∀(more kvs:List (Key × V)),(qK kvs more).length<=kvs.length+more.length
 |[],kvs=>by show kvs.length<=kvs.length+0;lia
 |p::r,kvs=>by have h1:=sW r (putK kvs p.1 p.2);have h2:=qO kvs p.1 p.2;show (qK (putK kvs p.1 p.2) r).length<=_;rw[v5];lia
structure M1 (X:Cx)(o:Expr)(m:Str)(apos:Pos)(e:Expr)(cpos:Pos):Prop where
 base:attributeBase o m X.env (eval o X.env)=eval o X.env
 few:((backTo cpos (starEach [e] X.env)).all (λx=>!x.1) && (backToKw cpos (keywordEach [] X.env)).all (λx=>x.1.isSome)
  && decide (([e]:List Expr).length+([]:List Keyword).length+(if ([]:List Keyword).isEmpty then 0 else 1)<30))=true
 line:(apos.endLine == cpos.line)=true
 trees:backTo cpos (starEach [e] X.env)=[(false,eval e X.env)]
def IsD (H:Hp)(a:Addr):Prop:=(∃kvs,Rd H a (.dK kvs))\/∃kvs,Rd H a (.dT kvs)
theorem aYo {X:Cx}{bEX:bEV}{σ:St}{H:Hp}{s:Shared}{a:Addr}(I:Inv X bEX σ H s)(d:IsD H a) :
  s.TypeIs (.ref a) "dict"/\(∀b,Value.ref a=.ref b->∃ob,s.heap.get? b=some ob/\ob.dict=none)/\(a == sysModules)=false:=by
 rcases d with⟨kvs,e⟩|⟨kvs,e⟩
 ·obtain⟨_,hd,vs,_,dd⟩:=aAl I.hok e;refine⟨dd.typeIs,λb q=>?_,hd⟩;cases q;obtain⟨ob,_,_,h1,h2,_⟩:=dd;exact⟨ob,h1,h2.2.1⟩
 ·obtain⟨_,hd,xs,_,dd⟩:=aC8 I.hok e;refine⟨dd.typeIs,λb q=>?_,hd⟩;cases q;obtain⟨ob,_,_,h1,h2,_⟩:=dd;exact⟨ob,h1,h2.2.1⟩
section
variable {X:Cx}{bEX:bEV}{σ:St}{H:Hp}{s:Shared}{a:Addr}{y d:V}{u r:Value}{o:Option V}{A:Around}{E:bEU}
theorem aXq {Q:bEU}(hu:A.units+1<cLine)(I:Inv X bEX σ H s)(g:aK4 H a y o)(ry:RelV y u)(h:∀w' s',Inv X bEX σ H s'->RelV (o.getD .non) w'->Q w' s') :
  wpAny (model X.prog X.w) A (call (.builtin "dict.get") [.ref a,u]) Q E s:=by
 rcases g with⟨kvs,k,e,ey,l⟩|⟨kvs,k,b,e,ey,eb,l⟩
 ·subst ey;obtain⟨z,hd,vs,rel,dd⟩:=aAl I.hok e;refine call_meetsIn PySem.F.slot_dict_get dd.typeIs PySem.F.entry_dict_get (PySem.F.args_dict_get_2 _ _) (meets_dict_get (bB X.prog X.w) a (aBr ry) hd) ⟨_,dd.mapOf,h _ _ (I.tok _) ?_⟩;rw[l];exact (rel.val k).getD rfl
 ·subst ey;cases (show u=Value.ref b from ry);obtain⟨z,hd,xs,rel,dd⟩:=aC8 I.hok e;refine call_meetsIn PySem.F.slot_dict_get dd.typeIs PySem.F.entry_dict_get (PySem.F.args_dict_get_2 _ _) (meetsH_dict_get (tupleKind (bB X.prog X.w)) a b hd) ⟨tupleKind_room_in1 hu,k,xs,aBh I.hok eb,dd,h _ _ (I.tok _) ?_⟩;rw[l];exact (rel.val k).getD rfl
end
def aQl (td ty:TE):TE:=fun σ H Q=>td σ H λx H1=>∃a,x=.ref a/\IsD H1 a/\ty σ H1 λy H2=>∃o,aK4 H2 a y o/\Q (o.getD .non) H2
section
variable {X:Cx}{o e f:Expr}{apos cpos:Pos}{td ty tx:TE}
theorem aQz (hu:X.A.units+1<cLine)(ho:PE X o td)(he:PE X e ty)(m:M1 X o "get" apos e cpos):PE X (.Call (.Attribute o "get" apos) [e] [] cpos) (aQl td ty):=by intro bEX s σ H Q I h;refine wpAny_Call_method m.base m.few m.line PySem.F.plainAttrs_dict PySem.F.slot_dict_get PySem.F.type_dict_get (thn (ho bEX s σ H _ I h) λu s1 ⟨x,H1,I1,rx,a,ex,d,q1⟩=>?_);subst ex;obtain rfl:u=Value.ref a:=rx;obtain⟨t1,t2,_⟩:=aYo I1 d;refine⟨t1,t2,?_⟩;rw[m.trees];refine bC6 rfl (bD9 (bB1 (thn (he bEX s1 σ H1 _ I1 q1) λiv s2 ⟨y,H2,I2,ry,ov,g,q2⟩=>bDW ?_)));exact aXq hu I2 g ry λw' s3 I3 rw'=>⟨_,H2,I3,rw',q2⟩
end
section
variable {X:Cx}{bEX:bEV}{σ:St}{H:Hp}{s:Shared}{a:Addr}{kvs:List (Key × V)}{A:Around}{E:bEU}
end
section
variable {X:Cx}{bEX:bEV}{σ:St}{H:Hp}{s:Shared}{a:Addr}{y:V}{u:Value}{A:Around}{E:bEU}
end
section
variable {X:Cx}
theorem aP2:cD X (.builtin "len") (λxs H Q=>∃a kvs,xs=[V.ref a]/\H a=some (.dK kvs)/\Q (.int kvs.length) H):=by intro bEX s σ H xs us Q I r h;obtain⟨a,kvs,rfl,ha,q⟩:=h;obtain⟨u,rfl,ru⟩:=vals1 r;cases ru;exact bAp I (.inl ha) λt s' I'=>⟨.int kvs.length,H,I',⟨t,rfl⟩,q⟩
end
section
variable {κ:Type}[DecidableEq κ]
theorem aVt {kvs:List (κ × V)}{k:κ}{v:V}(h:lV kvs k=some v):k∈kvs.map (·.1):=by
 have q:(kvs.any λkv=>decide (kv.1=k))=true:=by rw[vO,h];all_goals rfl
 obtain⟨p,hp,e⟩:=List.any_eq_true.mp q;exact List.mem_map.mpr ⟨p,hp,of_decide_eq_true e⟩
theorem aOg {p:κ × V}{r:List (κ × V)}{k:κ}(e:p.1=k):mF (p::r) k=mF r k:=by unfold mF;rw[bC3,if_neg (by simp[e])]
theorem aOq {p:κ × V}{r:List (κ × V)}{k:κ}(e:¬ p.1=k):mF (p::r) k=p::mF r k:=by unfold mF;rw[bC3,if_pos (by simp[e])]
theorem aI1:∀{kvs:List (κ × V)} {k:κ},¬ k∈kvs.map (·.1)->mF kvs k=kvs
 |[],_,_=>rfl
 |p::r,k,h=>by
  have h':¬ k∈r.map (·.1):=λm=>by obtain⟨q,hq,e⟩:=List.mem_map.mp m;exact h (List.mem_map.mpr ⟨q,List.mem_cons.mpr (Or.inr hq),e⟩)
  rw[aOq λe=>h (List.mem_map.mpr ⟨p,List.mem_cons.mpr (Or.inl rfl),e⟩),aI1 h']
end
structure VE (X:Cx)(e:Expr)(t:TE):Prop where
 out:PE X e t
structure VT (X:Cx)(e:Expr)(t:TT):Prop where
 out:PT X e t
structure VW (X:Cx)(e:Expr)(t:TT):Prop where
 out:PW X e t
structure VA (X:Cx)(es:List Expr)(t:TA):Prop where
 out:PA X es t
structure VS (X:Cx)(st:Stmt)(t:TS):Prop where
 out:PS X st t
structure VSs (X:Cx)(st:List Stmt)(t:TS):Prop where
 out:PSs X st t
structure VI (X:Cx)(tg iter:Expr)(t:TI):Prop where
 out:PI X tg iter t
structure VG (X:Cx)(tg:Expr)(t:TG):Prop where
 out:PG X tg t
structure VGs (X:Cx)(tg:List Expr)(t:TGs):Prop where
 out:PGs X tg t
structure VO (X:Cx)(e:Option Expr)(t:TO):Prop where
 out:PO X e t
structure VF (X:Cx)(ifs:List Expr)(t:TT):Prop where
 out:aQg X ifs t
section
variable {X:Cx}{a b c e:Expr}{es:List Expr}{ta tb tc te:TE}{t:TA}{tA tB':TT}{pos p:Pos}{x:Str}
theorem vv (i:Nat){x:Str}{pos:Pos}(hN:X.N[i]?=some x:=by rfl)(hv:Vis X.env.scope x:=by trivial)(hd:(x == ("__debug__":Str))=false:=by decide)
  (hcd:(x == ("__classdict__":Str))=false:=by decide):VE X (.Name x pos) (vZ i):=⟨pv i hN hv hd hcd⟩
theorem sX {v:V}(hg:Gl X x)(hm:∃u,X.mg x=some u/\RelV v u)(hd:(x == ("__debug__":Str))=false:=by decide):VE X (.Name x pos) (tC v):=⟨bAf hg hm hd⟩
theorem dY {v:V}{u:Value}(hg:Gl X x)(hm:X.mg x=none)(hv:bootBuiltins x=some u)(r:RelV v u)(hn:x≠"__name__":=by decide)(hd:(x == ("__debug__":Str))=false:=by decide):VE X (.Name x pos) (tC v):=⟨aVy hg hm hv r hn hd⟩
theorem aH {i j}:VE X (.Constant (.int i) j pos) (tC (.int i)):=⟨aXx⟩
theorem gK {b j}:VE X (.Constant (.bool b) j pos) (tC (.bl b)):=⟨bAm⟩
theorem pA {j}:VE X (.Constant .none j pos) (tC .non):=⟨aZe⟩
theorem bC {x j}:VE X (.Constant (.str x) j pos) (tC (.str x)):=⟨aXi⟩
theorem bM {op:Operator}{r:R2}(ho:OpR X (binaryOp op) r)(ha:VE X a ta)(hb:VE X b tb):VE X (.BinOp a op b pos) (tOp r ta tb):=⟨bA0 ho ha.1 hb.1⟩
theorem dC {op:CmpOp}{r:R2}(ho:OpR X (compareOp op) r)(ha:VE X a ta)(hb:VE X b tb)(hm:behindInMarks op b=false):VE X (.Compare a [op] [b] pos) (tOp r ta tb):=⟨aVo ho ha.1 hb.1 hm⟩
theorem bH {op:CmpOp}{r:R2}(ho:OpR X (compareOp op) r)(ha:VE X a ta)(hb:VE X b tb)(hm:behindInMarks op b=false):VT X (.Compare a [op] [b] pos) (aMh (tOp r ta tb)):=⟨aUz ho ha.1 hb.1 hm⟩
theorem aSl {op op':CmpOp}{r r':R2}(ho:OpR X (compareOp op) r)(ho':OpR X (compareOp op') r')(ha:VE X a ta)(hb:VE X b tb)(hc:VE X c tc)
  (hm:lastMarks [op,op'] [b,c]=false:=by with_unfolding_all rfl):VE X (.Compare a [op,op'] [b,c] pos) (aD9 r r' ta tb tc):=⟨aRq ho ho' ha.1 hb.1 hc.1 hm⟩
theorem aAa {op op':CmpOp}{r r':R2}(ho:OpR X (compareOp op) r)(ho':OpR X (compareOp op') r')(ha:VE X a ta)(hb:VE X b tb)(hc:VE X c tc)
  (hm:lastMarks [op,op'] [b,c]=false:=by with_unfolding_all rfl):VT X (.Compare a [op,op'] [b,c] pos) (aMh (aD9 r r' ta tb tc)):=⟨aRy ho ho' ha.1 hb.1 hc.1 hm⟩
theorem jE {op}(h:VE X a te):VE X (.BoolOp op [a] pos) te:=⟨aXj h.1⟩
theorem iW {rest:List Expr}(ha:VE X a ta)(hb:VE X (.BoolOp .And (b::rest) pos) tb):VE X (.BoolOp .And (a::b::rest) pos) (aWv ta tb):=⟨aZh ha.1 hb.1⟩
theorem bAt {rest:List Expr}(ha:VE X a ta)(hb:VE X (.BoolOp .Or (b::rest) pos) tb):VE X (.BoolOp .Or (a::b::rest) pos) (aZ2 ta tb):=⟨bAg ha.1 hb.1⟩
theorem aZd (ha:VE X a ta):VE X (.UnaryOp .Not a pos) (aWr ta):=⟨aXc ha.1⟩
theorem aHk (hc:VT X c tA)(ha:VE X a ta)(hb:VE X b tb):VE X (.IfExp c a b pos) (tIf tA ta tb):=⟨aRp hc.1 ha.1 hb.1⟩
theorem aB:VA X [] aAr:=⟨aRu⟩
theorem aC (ha:VE X e te)(hr:VA X es t)(hp:cP e=true:=by rfl):VA X (e::es) (dR te t):=⟨aYs ha.1 hr.1 hp⟩
theorem aQ {k:Nat}{ps:List Str}{sp:Sp}(G:Ok X.prog X.w X.K X.mg X.base k x ps sp)(hr:Room k X.A)(hg:Gl X x)(ha:VA X (e::es) t)(hdb:(x == ("__debug__":Str))=false:=by decide)
  (hp:cP e=true:=by rfl) (hpl:(backTo pos (starEach es X.env)).any (·.1)=false:=by rfl) :
  VE X (.Call (.Name x p) (e::es) [] pos) (aDu sp [] E0 t):=⟨bAv G hr hg ha.1 hdb (aP hp) hpl⟩
theorem aW1 {k:Nat}{ps:List Str}{sp:Sp}(G:Ok X.prog X.w X.K X.mg X.base k x ps sp)(hr:Room k X.A)(hg:Gl X x)(hdb:(x == ("__debug__":Str))=false:=by decide) :
  VE X (.Call (.Name x p) [] [] pos) (aDu sp [] E0 aAr):=⟨aW5 G hr hg hdb⟩
theorem aO {id:String}{r:List V->Hp->VK->Prop}(hc:cD X (.builtin id) r)(hg:Gl X x)(hm:X.mg x=none)(hv:bootBuiltins x=some (.builtin id))(ha:VA X (e::es) t)(hn:x≠"__name__":=by decide)(hdb:(x == ("__debug__":Str))=false:=by decide)
  (hp:cP e=true:=by rfl) (hpl:(backTo pos (starEach es X.env)).any (·.1)=false:=by rfl):VE X (.Call (.Name x p) (e::es) [] pos) (tCB r t):=⟨aSd hc hg hm hv ha.1 hn hdb (aP hp) hpl⟩
theorem cV {T:String}{r:List V->Hp->VK->Prop}(hc:cD X (.type T) r)(hg:Gl X x)(hm:X.mg x=none)(hv:bootBuiltins x=some (.type T))(ha:VA X (e::es) t)(hn:x≠"__name__":=by decide)(hdb:(x == ("__debug__":Str))=false:=by decide)
  (hp:cP e=true:=by rfl) (hpl:(backTo pos (starEach es X.env)).any (·.1)=false:=by rfl):VE X (.Call (.Name x p) (e::es) [] pos) (tCB r t):=⟨aPq hc hg hm hv ha.1 hn hdb (aP hp) hpl⟩
theorem nP {o:Expr}{to:TE}{name:Str}{apos cpos:Pos}{T id:String}{r:V->List V->Hp->VK->Prop}(pa:PlainAttrs T)(slot:Slot T name id)(hty:typeOf (.builtin id)=pure (.type "method_descriptor"))(hm:MtR X id r)(ho:VE X o to)(ha:VA X (e::es) t)
  (hbase:attributeBase o name X.env (eval o X.env)=eval o X.env:=by rfl)
  (hfew:((backTo cpos (starEach (e::es) X.env)).all (λx=>!x.1) && (backToKw cpos (keywordEach [] X.env)).all (λx=>x.1.isSome)
   && decide ((e::es).length+([]:List Keyword).length+(if ([]:List Keyword).isEmpty then 0 else 1)<30))=true:=by rfl)
  (hline:(apos.endLine == cpos.line)=true:=by rfl) (hp:cP e=true:=by rfl) (hplain:(backTo cpos (starEach es X.env)).any (·.1)=false:=by rfl) :
  VE X (.Call (.Attribute o name apos) (e::es) [] cpos) (tBM X.K T r to t):=⟨aZ0 pa slot hty hm ho.1 ha.1 hbase hfew hline (aP hp) hplain⟩
theorem qL (ha:VE X a ta)(hb:VE X b tb)(hs:aHt b) :
  VE X (.Subscript a b pos) (tOp (λx y H Q=>∃z i c,x=.str z/\y=.int i/\0<=i/\i<2 ^ 63/\i<z.length/\z.cps[i.toNat]?=some c/\Q (.str ⟨#[c]⟩) H) ta tb):=⟨aJb ha.1 hb.1 hs⟩
theorem oH:VO X none aNf:=⟨aT5⟩
theorem kI (h:VE X e te):VO X (some e) (aWl te):=⟨aUj h.1⟩
theorem jP {r:V->Option Int->Option Int->Hp->VK->Prop}{lo hi:Option Expr}{tl th:TO}{p2:Pos}(hr:SlR X r)(he:VE X e te)(hl:VO X lo tl)(hu:VO X hi th):VE X (.Subscript e (.Slice lo hi none p2) pos) (tSl r te tl th):=⟨aSt hr he.1 hl.1 hu.1⟩
theorem aW {r:R2}(hr:IxR X r)(ha:VE X a ta)(hb:VE X b tb)(hs:aM1 b):VE X (.Subscript a b pos) (tOp r ta tb):=⟨bAs hr ha.1 hb.1 hs⟩
theorem aQb:VE X (.Dict [] [] pos) aS4:=⟨aRs⟩
theorem VE.imp {t t':TE}(h:VE X e t)(k:∀σ H Q,t' σ H Q->t σ H Q):VE X e t':=⟨PE.imp h.1 k⟩
theorem aNc (ha:VT X a tA):VW X (.BoolOp .And [a] pos) tA:=⟨aUl ha.1⟩
theorem gC (ha:VT X a tA):VW X (.BoolOp .Or [a] pos) tA:=⟨aYy ha.1⟩
theorem aRt {rest:List Expr}(ha:VT X a tA)(hb:VW X (.BoolOp .And (b::rest) pos) tB'):VW X (.BoolOp .And (a::b::rest) pos) (bAc tA tB'):=⟨aX9 ha.1 hb.1⟩
theorem iM {rest:List Expr}(ha:VT X a tA)(hb:VW X (.BoolOp .Or (b::rest) pos) tB'):VW X (.BoolOp .Or (a::b::rest) pos) (tOr tA tB'):=⟨aZz ha.1 hb.1⟩
theorem VW.pt (h:VW X e tA):VT X e tA:=⟨h.1.pt⟩
theorem cI (ha:VT X a tA):VT X (.UnaryOp .Not a pos) (aXy tA):=⟨aXw ha.1⟩
theorem cA (h:VE X e te)(he:∀whole,isTrue e X.env whole=(do let v <-whole;standAt e.pos;holding [v] (truthy v)):=by intro _;rfl):VT X e (tB te):=⟨aY4 h.1 he⟩
variable {st:Stmt}{rest:List Stmt}{u w':TS}
theorem aZ:VSs X [] pO:=⟨aV3⟩
theorem aD (h1:VS X st u)(h2:VSs X rest w'):VSs X (st::rest) (aBx u w'):=⟨aTk h1.1 h2.1⟩
theorem aG (h1:VS X st u):VSs X [st] u:=⟨aUb h1.1⟩
theorem aN (he:VE X e te):VS X (.Return (some e) pos) (uX te):=⟨aXt he.1⟩
theorem bZ {a b:List Stmt}(hc:VT X c tA)(ha:VSs X a u)(hb:VSs X b w'):VS X (.If c a b pos) (aPh tA u w'):=⟨aZu hc.1 ha.1 hb.1⟩
theorem aX {i:Nat}{pos':Pos}(hN:X.N.Nodup)(hi:X.N[i]?=some x)(hx:Loc X.env.scope x)(he:VE X e te)(hs:swapsWith e (some (.Name x pos')) pos.line X.env=pure false:=by rfl)(hf:X.fn x=true\/X.env.scope.names.lookup x=some .local:=by first|exact .inl rfl|exact .inr rfl|assumption) :
  VS X (.Assign [.Name x pos'] e pos) (aA8 te (cO i)):=⟨aYp hN hi hx he.1 hs hf⟩
theorem fW (he:VE X e te)(hs:swapsWith e none pos.line X.env=pure false:=by rfl):VS X (.Expr e pos) (aMn te):=⟨aM6 he.1 hs⟩
theorem eN {tg iter:Expr}{body:List Stmt}{wi:TI}{g:TG}{tb:TS}(hp:PassesOwn (model X.prog X.w) X.A X.env X.xe)(hc:X.calm=true)(hi:VI X tg iter wi)(hg:VG X tg g)(hb:VSs X body tb)
  (hs:∀x,foldedSetIterable iter X.env x=pure x:=by intro _;rfl):VS X (.For tg iter body [] pos) (aZ9 wi g tb):=⟨aZa hp hc hi.1 hg.1 hb.1 hs⟩
theorem aU {i:Nat}(hN:X.N.Nodup)(hi:X.N[i]?=some x)(hx:Loc X.env.scope x)(hf:X.fn x=true\/X.env.scope.names.lookup x=some .local:=by first|exact .inl rfl|exact .inr rfl|assumption):VG X (.Name x pos) (cO i):=⟨aVq hN hi hx hf⟩
theorem fY:VGs X [] aPz:=⟨aVk⟩
theorem bL {t:TG}{u:TGs}(h1:VG X e t)(h2:VGs X es u)(hs:(assignEach (e::es) X.env).map (·.2)=assign e X.env::(assignEach es X.env).map (·.2):=by rfl):VGs X (e::es) (sV t u):=⟨aSi h1.1 h2.1 hs⟩
theorem wK {k:Nat}{t:TGs}{n:Nat}(hc:X.calm=true)(h:VGs X es t)(hn:(assignEach es X.env).length=n:=by rfl)(hst:(assignEach es X.env).findIdx? (·.1)=none:=by rfl):VG X (.Tuple es k pos) (aL6 X.K n t):=⟨aYl hc h.1 hn hst⟩
variable {tg:Expr}
theorem iG (h:VE X e te):VI X tg e (aGl X.K te):=⟨aWe h.1⟩
theorem qG (h:VE X e te):VI X tg e (aUy X.K te):=⟨aY9 h.1⟩
theorem aLs (h:VE X e te):VI X tg e (aX7 te):=⟨aZj h.1⟩
theorem fC (hg:Gl X "range")(hm:X.mg "range"=none)(ha:VA X [a] t)(hp:cP a=true:=by rfl):VI X tg (.Call (.Name "range" p) [a] [] pos) (aRr t):=⟨aOk hg hm ha.1 (aP (es:=[]) hp)⟩
theorem gH:VF X [] nJ:=⟨aYj⟩
theorem aBb (h:VT X c tA):VF X [c] tA:=⟨aYv h.1⟩
theorem dB {elt target iter:Expr}{ifs:List Expr}{scope:Scope}{N:List Str}{wi:TI}{g:TG}{tt:TT}
  (C:aB3 scope N) (hfr:∀y,(y,NameKind.free)∈scope.names->X.env.kindOf y=some .cell\/X.env.kindOf y=some .free) (hc:X.calm=true)
  (hi:VI X target iter wi)
  (hb:∀cl s H fp,VG (cxC X N scope cl s H fp) target g/\VF (cxC X N scope cl s H fp) ifs tt/\VE (cxC X N scope cl s H fp) elt te)
  (hs:∀x,foldedSetIterable iter X.env x=pure x:=by intro _;rfl) :
  VE X (.ListComp elt [⟨target,iter,ifs,0⟩] scope pos) (jU X scope N wi g tt te):=
 ⟨aVl C hfr hc hi.1 (λcl s H fp=>⟨(hb cl s H fp).1.1,(hb cl s H fp).2.1.1,(hb cl s H fp).2.2.1⟩) hs⟩
end
section
variable {P:Program}{w:World}{K:bET}{mg:bEW}{base:Heap}
theorem Fun.okV {x qual:Str}{st:Stmt}{f:Addr}{fd:FuncData}{N ps:List Str}{k:Nat}{sp:Sp}(F:Fun K x qual st f fd)(S:aM N ps (aF st))(len:∀vs H Q E,sp vs H Q E->vs.length=ps.length)
  (hbody:∀(cdv:Value) (A:Around) (outer:List Env) (s:Shared) (H:Hp) (vs:List V) (Q:VK) (E:XK),Room k (A.deeper (envOfC qual (aF st) s.heap.objs.size f cdv))->sp vs H Q E ->
   ∃t,VSs (vW CX0 P w K mg base N qual (aF st) f cdv A outer s H E).nox (cX st) t/\t { nx:=λ_ H'=>Q .non H',rt:=Q } (start N vs) H):fQ P w K mg base CX0 (k+1) f fd ps sp:=
 F.ok S len λcdv A outer s H vs Q E hr h=>let ⟨t,h1,h2⟩:=hbody cdv A outer s H vs Q E hr h;⟨t,h1.1,h2⟩
theorem Ok.ofV {x:Str}{st:Stmt}{N ps:List Str}{k:Nat}{sp:Sp}(D:Dn K mg x st ps)(S:aM N ps (aF st))(len:∀vs H Q E,sp vs H Q E->vs.length=ps.length)
  (hbody:∀(f:Addr) (cdv:Value) (A:Around) (outer:List Env) (s:Shared) (H:Hp) (vs:List V) (Q:VK) (E:XK),Room k (A.deeper (envOfC x (aF st) s.heap.objs.size f cdv))->sp vs H Q E ->
   ∃t,VSs (vW CX0 P w K mg base N x (aF st) f cdv A outer s H E).nox (cX st) t/\t { nx:=λ_ H'=>Q .non H',rt:=Q } (start N vs) H):Ok P w K mg base (k+1) x ps sp:=
 Ok.of D S len λf cdv A outer s H vs Q E hr h=>let ⟨t,h1,h2⟩:=hbody f cdv A outer s H vs Q E hr h;⟨t,h1.1,h2⟩
end
def Held (P:Program)(w:World)(K:bET)(mg:bEW)(base:Heap)(k:Nat)(f:Addr)(ps:List Str)(sp:Sp):Prop:=
 ∃fd,PySem.W.keepIn K (.ref f)=true/\Binds K fd ps []/\fQ P w K mg base CX0 k f fd ps sp
theorem Ok.held {P:Program}{w:World}{K:bET}{mg:bEW}{base:Heap}{k:Nat}{x:Str}{ps:List Str}{sp:Sp}(G:Ok P w K mg base k x ps sp):∃f,mg x=some (.ref f)/\Held P w K mg base k f ps sp:=by obtain⟨f,fd,h1,h2,h3,h4⟩:=G;exact⟨f,h1,fd,h2,h3,h4⟩
section
variable {X:Cx}{x:Str}{p pos:Pos}{e:Expr}{es:List Expr}{te:TE}{t:TA}
def aQr (P:Program)(w:World)(K:bET)(mg:bEW)(base:Heap)(k:Nat)(te:TE)(t:TA):TE:=fun σ H Q=>te σ H λv H1=>∃f ps sp,v=.ref f/\Held P w K mg base k f ps sp/\t σ H1 λvs H2=>sp vs H2 Q E0
theorem aVe {k:Nat}(hr:Room k X.A)(hf:PE X (.Name x p) te)(ha:PA X (e::es) t)
  (he:starEach (e::es) X.env=(false,eval e X.env)::starEach es X.env:=by rfl) (hpl:(backTo pos (starEach es X.env)).any (·.1)=false:=by rfl) :
  PE X (.Call (.Name x p) (e::es) [] pos) (aQr X.prog X.w X.K X.mg X.base k te t):=by
 intro bEX s σ H Q I h;refine bBM (thn (hf bEX s σ H _ I h) λu s1 ⟨v,H1,I1,r1,q1⟩=>?_);obtain⟨f,ps,sp,rfl,⟨fd,hk,hb,F⟩,q⟩:=q1;obtain rfl:u=Value.ref f:=r1;refine PySem.W.callWith_K (h₀:=X.base) I1.ok.mod.kin hk (thn (ha pos bEX s1 σ H1 _ I1 q) λus s2 ⟨vs,H2,I2,r,q2⟩=>⟨I2.kIn,?_⟩) he hpl;exact aAd F hr hb .nil aA2 I2 r (by simpa using q2)
end
end L2
namespace PySem
end PySem
namespace L2
open PySem PySem.Spec PyProof.Rows
section
variable {X:Cx}
theorem aU7:OpR X (binaryOp .Add) (λx y H Q=>∃a b ys,x=.ref a/\y=.ref b/\SqT X.K H a []/\SqT X.K H b ys/\Q (.ref b) H):=by
 intro bEX s σ H x y v u Q I rx ry h;obtain⟨a,b,ys,rfl,rfl,ha,hb,q⟩:=h;cases rx;cases ry;obtain⟨its,r1,p1,_⟩:=I.tuple ha;obtain⟨its2,r2,p2,_⟩:=I.tuple hb;cases r1;obtain⟨⟨cls,dd,data,sl⟩,ho,hc,n,hd⟩:=id p1;obtain⟨⟨cls2,dd2,data2,sl2⟩,ho2,hc2,n2,hd2⟩:=id p2;simp only at hc hd hc2 hd2;subst hc hd hc2 hd2;exact concat_meets ⟨_,ho,rfl⟩ ⟨_,ho2,rfl⟩ noFill_tuple_add seq_tuple_add PySem.F.slot_tuple_add PySem.F.entry_tuple_add (PySem.F.args_tuple_add_2 _ _)
  (tuple_addW0 a b #[] its2.toArray n n2 dd dd2 sl sl2 rfl) ⟨ho,ho2,⟨.ref b,H,I,rfl,q⟩⟩
end
end L2
namespace PySem
def aBn (σ:List Str)(v:Str):List Str:=if v∈σ then σ else σ++[v]
def nG (ss:List Str):List Str:=ss.foldl aBn []
theorem aDn (ss:List Str)(v:Str):nG (ss++[v])=aBn (nG ss) v:=by unfold nG;rw[List.foldl_append];rfl
theorem uT (σ:List Str)(v k:Str):k∈aBn σ v↔k∈σ\/k=v:=by
 unfold aBn;by_cases h:v∈σ
 ·rw[if_pos h];exact⟨.inl,λq=>q.elim id λe=>e ▸ h⟩
 ·rw[if_neg h];simp
theorem aBs (σ:List Str)(v:Str):(aBn σ v).length=if v∈σ then σ.length else σ.length+1:=by
 unfold aBn
 split <;> simp
theorem xX:∀(ss σ:List Str),(ss.foldl aBn σ).length<=σ.length+ss.length
 |[],σ=>by simp
 |v::r,σ=>by
  rw[List.foldl_cons,v5];have h:=xX r (aBn σ v);rw[aBs] at h
  split at h <;> lia
theorem aQn (ss:List Str):(nG ss).length<=ss.length:=by have h:=xX ss [];unfold nG;simpa using h
theorem aAs:∀(ss σ:List Str),(ss.foldl aBn σ).length=σ.length+ss.length↔ss.Nodup/\∀v∈ss,v∉σ
 |[],σ=>by simp
 |v::r,σ=>by
  rw[List.foldl_cons,v5,bDQ];have hle:=xX r (aBn σ v);have ih:=aAs r (aBn σ v);rw[aBs] at ih hle;by_cases h:v∈σ
  ·rw[if_pos h] at ih hle;constructor
   ·intro q;lia
   ·intro q;exact absurd h (q.2 v m9)
  ·rw[if_neg h] at ih hle;have e:σ.length+(r.length+1)=σ.length+1+r.length:=by lia
   rw[e,ih];constructor
   ·rintro⟨q1,q2⟩;refine⟨⟨λm=>q2 v m ((uT σ v v).mpr (.inr rfl)),q1⟩,λy hy=>?_⟩;rcases List.mem_cons.mp hy with rfl|hy
    ·exact h
    ·exact λm=>q2 y hy ((uT σ v y).mpr (.inl m))
   ·rintro⟨⟨q1,q2⟩,q3⟩;refine⟨q2,λy hy m=>?_⟩;rcases (uT σ v y).mp m with m|rfl
    ·exact q3 y (j8 _ hy) m
    ·exact q1 hy
theorem aPl (ss:List Str):(nG ss).length=ss.length↔ss.Nodup:=by have h:=aAs ss [];simp only[bBZ,bC7,v9,not_false_eq_true,implies_true,and_true] at h;exact h
section
variable {prog:Program}{w:World}
def cZ (prog:Program)(w:World)(h:Heap)(D:Addr)(ss:List Str):Prop:=h.SetOf (strKind prog w) D (λy=>decide (y∈nG ss)) (nG ss).length
theorem cZ.at {h h':Heap}{D:Addr}{ss:List Str}(x:cZ prog w h D ss)(e:∀o,h.get? D=some o->h'.get? D=some o):cZ prog w h' D ss:=by obtain⟨o,es,ep,t,ho,r⟩:=x;exact⟨o,es,ep,t,e o ho,r⟩
theorem cZ.congr {h:Heap}{D:Addr}{S:Str->Bool}{n:Nat}{ss:List Str}(x:h.SetOf (strKind prog w) D S n)(e1:∀y,S y=decide (y∈nG ss))(e2:n=(nG ss).length):cZ prog w h D ss:=by have e:S=λy=>decide (y∈nG ss):=funext e1;subst e e2;exact x
theorem aBk {A:Around}{R:Result->Shared->Prop}{I:Addr}{fp wr:List Addr}{n:Nat}{P:Nat->Value->Prop}{St:Nat->Heap->Prop}(W:Walks prog w A.in1 I fp wr n P St)(D:Addr)(hD:D∉fp)
  (ss:List Str) (hss:ss.length=n) (hval:∀i v,P i v->∃t,v=.str (ss.getD i "") t) (hb:n+1<scanBound) :
  ∀(k i:Nat) (s:Shared),i+k=n->St i s.heap->cZ prog w s.heap D (ss.take i) ->
   (∀h' tk,(∀b o,b∉D::wr->s.heap.get? b=some o->h'.get? b=some o)->cZ prog w h' D ss->R (.ok (.ret .none)) { s with heap:=h',toks:=tk }) ->
   codeAny (model prog w) A (.builtin "set.update.loop" ⟨[.ref D,.ref I],[]⟩) R s:=by
 have hDw:D∉wr:=λq=>hD (W.sub _ q);intro k
 induction k with
 |zero=>
  intro i s hi st hS q;obtain rfl:i=n:=by lia
  refine bBF bBT ?_;rw[bBC bBA _];show wpAny _ A.in1 (pyNext (.ref I) >>= _) _ _ _;refine c7 (W.done s _ _ st λh' tk kp=>?_);refine j4 (q h' tk (λb o nb e=>kp b o (λz=>nb (j8 _ z)) e) ?_);rw[bAY (bEI hss)] at hS;exact hS.at λo e=>kp D o hDw e
 |succ k ih=>
  intro i s hi st hS q;refine bBF bBT ?_;rw[bBC bBA _];show wpAny _ A.in1 (pyNext (.ref I) >>= _) _ _ _;refine c7 (W.item i s _ _ (by lia) st λv h1 tk1 hP st1 kp1=>?_);obtain⟨t,rfl⟩:=hval i v hP;have hS1:cZ prog w h1 D (ss.take i):=hS.at λo e=>kp1 D o hDw e;show wpAny _ A.in1 (holding [Value.str (ss.getD i "") t] (setAdd D (.str (ss.getD i "") t)) >>= _) _ _ _;refine c7 (bAV ?_);unfold setAdd;refine bAV (c7 ((strKind prog w).pyHash (k:=ss.getD i "") (strKind_is _ _ _ _) ?_));have room:(nG (ss.take i)).length+1<scanBound:=by
   have h1:=aQn (ss.take i);have h2:(ss.take i).length<=ss.length:=by rw[bAL];exact Nat.min_le_right _ _
   lia
  refine wpAny_setAddHashed_of (knd:=strKind prog w) (strKind_is _ _ _ _) rfl hS1 room λh2 sb2 hS2=>?_;have hlt:i<ss.length:=by lia
  have et:ss.take (i+1)=ss.take i++[ss.getD i ""]:=by rw[bBD,d9 hlt,j7,d9 hlt];rfl
  have hS3:cZ prog w h2 D (ss.take (i+1)):=by
   refine cZ.congr hS2 (λy=>?_) ?_
   ·rw[et,aDn,bCL,Bool.or_eq_true,decide_eq_true_eq,decide_eq_true_eq,decide_eq_true_eq,uT]
   ·rw[et,aDn,aBs];by_cases z:ss.getD i ""∈nG (ss.take i)
    ·rw[if_pos z,if_pos (v6 z)]
    ·rw[if_neg z,if_neg (by rw[w6 z];exact t6)]
  have kp2:∀b o,b∉D::wr->s.heap.get? b=some o->h2.get? b=some o:=λb o nb e=>by rw[sb2.2 b (λz=>nb (by rw[z];exact m9))];exact kp1 b o (λz=>nb (j8 _ z)) e
  refine j4 ⟨bCJ bBA _,ih (i+1) _ (by lia) (W.frame _ _ _ st1 λb hb o e=>?_) hS3 λh' tk kp hS'=>q h' tk (λb o nb e=>kp b o nb (kp2 b o nb e)) hS'⟩;rw[sb2.2 b (λz=>hD (by rw[<-z];exact hb))];exact e
variable {A:Around}{E:bEU}{s:Shared}
abbrev bA (led:Bool):Obj:={ cls:=.type "set",dict:=none,data:=.set #[] 0 (.fresh 0 0 led) }
theorem aKp {A:Around}{R:Fin->Shared->Prop}{E:bEU}{s:Shared}{l:Addr}{its:Array Value}{ss:List Str}(led:Bool)(hh:A.handled=none)(hl:s.heap.IsList l its)(hlen:ss.length=its.size)
  (hval:∀(i:Nat) (v:Value),its[i]?=some v->∃t,v=Value.str (ss.getD i "") t) (hb:its.size+1<scanBound)
  (q:∀h' tk,cZ prog w h' s.heap.objs.size ss->(∀b o,b<s.heap.objs.size->s.heap.get? b=some o->h'.get? b=some o)->R (.done (.ret .none)) { s with heap:=h',toks:=tk }) :
  wpAny (model prog w) A (Builtin.«set.__init__» ⟨[.ref s.heap.objs.size,.ref l],[]⟩) R E { s with heap:=s.heap.push (bA led) }:=by
 obtain⟨⟨oc,od,ox,osl⟩,hol,hcl,nl,hdl⟩:=id hl;simp only at hcl hdl;subst hcl hdl;have hS:(s.heap.push (bA led)).get? s.heap.objs.size=some (bA led):=j5 _ rfl;have hT:Shared.TypeIs { s with heap:=s.heap.push (bA led) } (.ref s.heap.objs.size) "set":=⟨_,hS,rfl⟩;have hol':(s.heap.push (bA led)).get? l=some { cls:=.type "list",dict:=od,data:=.seq its nl,slots:=osl }:=j0 _ hol;have f1:=F.sub_list_set;have f2:=F.sub_list_frozenset;have f3:(Value.type "list" == Value.type "dict")=false:=by decide
 have hl1:(s.heap.push (bA led)).IsList l its:=⟨_,hol',rfl,nl,rfl⟩;have hlt:l<s.heap.objs.size:=m8 hol;unfold Builtin.«set.__init__» noKeywords Builtin.Frozenset.updateFrom;generalize hPI:pyIter=PI;wp_walk;subst hPI;refine bB5 hl1 ?_;refine c7 (wpAny_runValue ?_);have hz:(s.heap.push (bA led)).objs.size=s.heap.objs.size+1:=bAW ..;have hne:l≠(s.heap.push (bA led)).objs.size:=by rw[hz];exact t7 (bBH hlt)
 have hSf:s.heap.objs.size∉[(s.heap.push (bA led)).objs.size,l]:=by rw[hz];simp only[bAD,v9,or_false,not_or];exact⟨t7 (bCO _),bBY hlt⟩
 refine aBk (Walks.list (by first|exact hh|simp[hh]) _ l hne its) s.heap.objs.size hSf ss hlen hval hb its.size 0 _ (by lia) ⟨⟨_,j5 _ rfl,rfl,rfl⟩,hl1.push _⟩ ?_ λh' tk kp hS'=>?_
 ·have hg:((s.heap.push (bA led)).push { cls:=.type "list_iterator",data:=.fields #[.ref l,.int 0 0] }).get? s.heap.objs.size=some (bA led):=j0 _ hS;exact cZ.congr ((PyProof.Rows.setObjOf_fresh (knd:=strKind prog w) led).setOf hg (by unfold scanBound;lia)) (λ_=>rfl) rfl
 ·refine j4 (j4 (q h' tk hS' λb o hb' e=>kp b o ?_ (j0 _ (j0 _ e))));rw[hz];simp only[bAD,v9,or_false,not_or];exact⟨t7 hb',t7 (bBH hb')⟩
theorem zM {l:Addr}{its:Array Value}{ss:List Str}{Q:bEU}(hh:A.handled=none)(hl:s.heap.IsList l its)(hlen:ss.length=its.size)
  (hval:∀(i:Nat) (v:Value),its[i]?=some v->∃t,v=Value.str (ss.getD i "") t) (hb:its.size+1<scanBound)
  (q:∀h' tk,cZ prog w h' s.heap.objs.size ss->(∀b o,b<s.heap.objs.size->s.heap.get? b=some o->h'.get? b=some o)->Q (.ref s.heap.objs.size) { s with heap:=h',toks:=tk }) :
  wpAny (model prog w) A (call (.type "set") [.ref l]) Q E s:=by
 have ft:=F.called_set;obtain⟨c,tl,hmro⟩:=ft.mro;have g1:=ft.made;have g2:=ft.sub;have g3:=ft.notType;have g4:=ft.canCreate;have g5:=F.typeCall_set_1 (.ref l);refine bCX (bEF (show wpAny _ _ (callAny (.type "set") _) _ _ _ from j4 ⟨Code.quiet_builtin _ (by decide +kernel),bBF F.entry_type_call ?_⟩));rw[Around.under_plain (weight_type_call_type "set" [.ref l] []) (by rfl)]
 repeat (any_goals (first|assumption|wp_step))
 refine bBR (code_set_new_1 (.ref l) (Q₁:=λobj s1=>∃led:Bool,obj=.ref s.heap.objs.size/\s1={ s with heap:=s.heap.push (bA led) }) (E:=E) λled=>⟨led,rfl,rfl⟩) λr s1 hr=>?_;rcases r with e|fl
 ·exact hr
 rcases fl with _|_|_|obj
 ·exact hr.elim
 ·exact hr.elim
 ·exact hr.elim
 obtain⟨led,rfl,rfl⟩:=hr;have hT:Shared.TypeIs { s with heap:=s.heap.push (bA led) } (.ref s.heap.objs.size) "set":=⟨_,j5 _ rfl,rfl⟩;have g6:=ft.init.lookup;have g7:=ft.init.bind (.ref s.heap.objs.size)
 repeat (any_goals (first|assumption|wp_step))
 refine bBR (bCK (R:=wants (λr s2=>r=.none/\∃h' tk,s2={ s with heap:=h',toks:=tk }/\cZ prog w h' s.heap.objs.size ss/\∀b o,b<s.heap.objs.size->s.heap.get? b=some o->h'.get? b=some o) E)
  ft.init.plain F.entry_set_init (check_set_init_1 hT (aKp led (by first|exact hh|simp[hh]) hl hlen hval hb λh' tk x kp=>⟨rfl,h',tk,rfl,x,kp⟩))) λr2 s2 hr2=>?_
 rcases r2 with e|fl
 ·exact hr2
 rcases fl with _|_|_|v
 ·exact hr2.elim
 ·exact hr2.elim
 ·exact hr2.elim
 obtain⟨rfl,h',tk,rfl,x,kp⟩:=hr2
 repeat (any_goals (first|assumption|wp_step))
 exact q h' tk x kp
theorem aOz {D:Addr}{ss:List Str}{Q:bEU}(x:cZ prog w s.heap D ss)(q:Q (.int ((nG ss).length:Nat) (s.toks+1)) { s with toks:=s.toks+1+1 }):wpAny (model prog w) A (call (.builtin "len") [.ref D]) Q E s:=by
 obtain⟨o,es,ep,t,ho,hex,hd,hel,hmem,hb,hf,hn⟩:=x;refine call_len_set ho hex hd hf ?_ ?_
 ·unfold scanBound at hb;lia
 ·rw[hn];exact q
end
end PySem
namespace L2
open PySem PySem.Spec PyProof.Rows
def aSj (P:Program)(w:World)(D:Addr)(ss:List Str):HO:=.ext λh=>cZ P w h D ss
section
variable {X:Cx}
def aX8 (P:Program)(w:World)(K:bET):List V->Hp->VK->Prop:=λxs H Q=>∃(p:Addr) (ss:List Str),xs=[.ref p]/\SqL K H p (ss.map V.str)/\ss.length<=1000/\∀D,H D=none->Q (.ref D) (upd H D (aSj P w D ss))
theorem aLt (hc:X.calm=true):cD X (.type "set") (aX8 X.prog X.w X.K):=by
 intro bEX s σ H xs us Q I r h;obtain⟨p,ss,rfl,hq,hl,q⟩:=h;obtain⟨u,rfl,rx⟩:=r.one;cases rx;obtain⟨its,rv,pl,hz⟩:=I.list hq;have hlen:=rv.length;rw[j9] at hlen;refine zM (I.ok.hd hc) pl.isList (by rw[m7];exact hlen) (λi v hv=>?_) (by rw[m7,<-hlen];unfold scanBound;lia) λh' tk x kp=>?_
 ·have hv':its[i]?=some v:=by simpa using hv
  have hi:i<ss.length:=by rw[hlen];exact (List.getElem?_eq_some_iff.mp hv').1
  obtain⟨u,hu,t,rfl⟩:=rv.get (i:=i) (x:=.str ss[i]) (by rw[v4,d9 hi];rfl);rw[hv'] at hu;cases hu;exact⟨t,by rw[j7,d9 hi];rfl⟩
 ·have e:∃o,h'.get? s.heap.objs.size=some o:=by obtain⟨o,_,_,_,ho,_⟩:=x;exact⟨o,ho⟩
  exact⟨.ref s.heap.objs.size,_,I.laid (o:=aSj X.prog X.w s.heap.objs.size ss) (λb o eo=>kp b o (m8 eo) eo) (j6 _) (show cZ X.prog X.w h' s.heap.objs.size ss/\_/\_ from ⟨x,e,λh1 h2 y k=>y.at k⟩),rfl,q _ (I.hok.fresh (j6 _))⟩
theorem aJ8:cD X (.builtin "len") (λxs H Q=>∃(D:Addr) (ss:List Str),xs=[.ref D]/\H D=some (aSj X.prog X.w D ss)/\Q (.int ((nG ss).length:Nat)) H):=by intro bEX s σ H xs us Q I r h;obtain⟨D,ss,rfl,hD,q⟩:=h;obtain⟨u,rfl,rx⟩:=r.one;cases rx;obtain⟨x,_⟩:=I.hok D _ hD;exact aOz x ⟨.int ((nG ss).length:Nat),H,I.tok _,⟨_,rfl⟩,q⟩
end
theorem uM {X:Cx}{scope:Scope}{x y:Str}{σ:St}{v:V}(j:Nat)(hf:(y,NameKind.free)∈scope.names)(hj:X.N[j]?=some y)(hs:σ[j]?=some (some v))(hv:Vis X.env.scope y):Cap X scope [x,y] σ [none,some v]:=
 ⟨rfl,λi z u h1 h2=>by
  match i,h1,h2 with
  |0,_,h2=>cases h2
  |1,h1,h2=>cases h1;cases h2;exact⟨hf,j,hj,hs,hv⟩
  |i+2,h1,_=>cases h1⟩
theorem rN {X:Cx}{scope:Scope}{x y:Str}{σ:St}:Cap X scope [x,y] σ [none,none]:=⟨rfl,λi z u h1 h2=>by
  match i,h1,h2 with
  |0,_,h2=>cases h2
  |1,_,h2=>cases h2
  |i+2,h1,_=>cases h1⟩
section
variable {X:Cx}{a b e:Expr}{es:List Expr}{te:TE}{t:TA}{pos p:Pos}{x:Str}
theorem aT3 {k:Nat}(hr:Room k X.A)(hf:VE X (.Name x p) te)(ha:VA X (e::es) t)(hp:cP e=true:=by rfl)(hpl:(backTo pos (starEach es X.env)).any (·.1)=false:=by rfl) :
  VE X (.Call (.Name x p) (e::es) [] pos) (aQr X.prog X.w X.K X.mg X.base k te t):=⟨aVe hr hf.1 ha.1 (aP hp) hpl⟩
theorem aQp {P:Program}{w:World}{K:bET}{mg:bEW}{base:Heap}{k:Nat}(hr:Room k X.A)(hf:VE X (.Name x p) te)(ha:VA X (e::es) t)(hp:cP e=true:=by rfl)(hpl:(backTo pos (starEach es X.env)).any (·.1)=false:=by rfl)
  (h1:X.prog=P:=by rfl) (h2:X.w=w:=by rfl) (h3:X.K=K:=by rfl) (h4:X.mg=mg:=by rfl) (h5:X.base=base:=by rfl) :
  VE X (.Call (.Name x p) (e::es) [] pos) (aQr P w K mg base k te t):=by
 subst h1 h2 h3 h4 h5;exact aT3 hr hf ha hp hpl
theorem cT {K:bET}(h:X.K=K:=by rfl):IxR X (bAu K):=by subst h;exact bK
theorem rK {K:bET}{k:Nat}{u:TGs}{n:Nat}(hc:X.calm=true)(h:VGs X es u)(hn:(assignEach es X.env).length=n:=by rfl)(hst:(assignEach es X.env).findIdx? (·.1)=none:=by rfl)(hK:X.K=K:=by rfl):VG X (.Tuple es k pos) (aL6 K n u):=by subst hK;exact wK hc h hn hst
theorem aVr {elts:List Expr}{kt:Nat}{tp:Pos}(hg:Gl X "zip")(hm:X.mg "zip"=none)(ha:VA X [a,b] t)(hp:cP a=true:=by rfl)(hp2:cP b=true:=by rfl) :
  VI X (.Tuple elts kt tp) (.Call (.Name "zip" p) [a,b] [] pos) (aSo X.K t):=⟨aT9 hg hm ha.1 (aP hp) (aP (es:=[]) hp2)⟩
theorem zV {tg:Expr}{g:TG}(he:VE X e te)(hg:VG X tg g)(hs:swapsWithSole [tg] e pos.line X.env=pure false:=by rfl)(hw:swappedStores [tg] e X.env=pure none:=by rfl)
  (h1:(assignEach [tg] X.env).map (·.2)=[assign tg X.env]:=by rfl):VS X (.Assign [tg] e pos) (aA8 te g):=⟨aYr he.1 hg.1 hs hw h1⟩
end
section
variable {X:Cx}
def bA4:V->Option Int->Option Int->Hp->VK->Prop:=λx lo hi H Q=>∃z,x=.str z/\z.length<=sizeLine/\Q (.str (Txt.slice z lo hi)) H
theorem aFx:SlR X bA4:=by
 intro bEX s σ H x v vl vu lo hi sl Q I rx hs pl pu h;obtain⟨z,rfl,hz,q⟩:=h;obtain⟨t,rfl⟩:=rx;have fin:∀l u:Option (Int × Tok),l.map (·.1)=lo->u.map (·.1)=hi->s.heap.IsSlice sl l u none->wpAny (model X.prog X.w) X.A (getItem (.str z t) (.ref sl)) (EP X bEX σ Q) X.xe s:=λl u e1 e2 hsl=>by subst e1 e2;refine wpAny_getItem_str_slice (st:=none) hsl rfl ?_;unfold sliceMade;have hle:=Txt.slice_le z (l.map (·.1)) (u.map (·.1));exact post_val_or_str ⟨bAP hle hz,λt' k=>⟨.str (Txt.slice z (l.map (·.1)) (u.map (·.1))),H,I.tok _,⟨_,rfl⟩,q⟩⟩
 refine⟨"str",_,F.slot_str_getitem.lookup,typeIs_str _ _ _,?_⟩;obtain⟨o,ho,hc,hd⟩:=hs;cases pl with
 |none=>
  cases pu with
  |none=>exact fin none none rfl rfl ⟨o,ho,hc,hd⟩
  |int j u=>exact fin none (some (j,u)) rfl rfl ⟨o,ho,hc,hd⟩
 |int i t=>
  cases pu with
  |none=>exact fin (some (i,t)) none rfl rfl ⟨o,ho,hc,hd⟩
  |int j u=>exact fin (some (i,t)) (some (j,u)) rfl rfl ⟨o,ho,hc,hd⟩
end
theorem aQ9 {x:Str}{j:Nat}(h:j<=x.length):(Txt.slice x none (some (j:Int))).cps.toList=x.cps.toList.take j:=by have e:=StrLaws.sliceText_to (x:=x) (j:=(j:Int)) ⟨by lia,by rw[bAA];exact Int.ofNat_le.mpr h⟩;show (StrLaws.sliceText x none (some (j:Int))).cps.toList=_;rw[e];simp
theorem aLv {x:Str}{j:Nat}(h:j<=x.length):(Txt.slice x (some (j:Int)) none).cps.toList=x.cps.toList.drop j:=by have e:=StrLaws.sliceText_from (x:=x) (i:=(j:Int)) ⟨by lia,by rw[bAA];exact Int.ofNat_le.mpr h⟩;show (StrLaws.sliceText x (some (j:Int)) none).cps.toList=_;rw[e];simp only[bAT];refine bAY ?_;rw[bB2];lia
def put (x:Str)(a:Nat)(c:Nat):Str:=Txt.slice x none (some (a:Int))++⟨#[c]⟩++Txt.slice x (some (a:Int)) none
theorem aD8 {x:Str}{a c:Nat}(h:a<=x.length):(put x a c).cps.toList=x.cps.toList.take a++c::x.cps.toList.drop a:=by show ((Txt.slice x none (some (a:Int))).cps++#[c]++(Txt.slice x (some (a:Int)) none).cps).toList=_;rw[bC0,bC0,aQ9 h,aLv h];simp
theorem aWc {x:Str}{a c d:Nat}(h:a<=x.length)(e:put x a c=put x a d):c=d:=by have e1:=congrArg (λy:Str=>y.cps.toList) e;simp only[aD8 h] at e1;have e2:=List.append_cancel_left e1;exact (List.cons.inj e2).1
theorem aUx {x:Str}{a c:Nat}(h:a<=x.length):(put x a c).length=x.length+1:=by
 have e:=congrArg List.length (aD8 (c:=c) h);have l:x.length=x.cps.toList.length:=by rw[bAA];rfl
 rw[bAA,bAC,v5,bAL,bB2] at e;show (put x a c).cps.size=_;lia
theorem aVh {x:Str}{a c d:Nat}(h:a<=x.length)(m:d∈(put x a c).cps):d=c\/d∈x.cps:=by
 have m1:d∈(put x a c).cps.toList:=Array.mem_toList_iff.mpr m;rw[aD8 h] at m1;rcases List.mem_append.mp m1 with z|z
 ·exact .inr (Array.mem_toList_iff.mp (List.mem_of_mem_take z))
 ·rcases List.mem_cons.mp z with z|z
  ·exact .inl z
  ·exact .inr (Array.mem_toList_iff.mp (List.mem_of_mem_drop z))
section
variable {X:Cx}{scope:Scope}{N:List Str}{wi:TI}{te:TE}{σ:St}{H:Hp}{Q:VK}
end
section
variable {X:Cx}{e:Expr}{es:List Expr}{t:TA}{pos:Pos}
def bAl (t:TA):TE:=fun σ H Q=>t σ H λxs H1=>xs.length<=sizeLine/\∀p H',H1 p=none->Same H1 H'->H' p=some (.tup xs)->Q (.ref p) H'
def aZ5 (t:TA):TE:=fun σ H Q=>t σ H λxs H1=>xs.length<=sizeLine/\∀p H',H1 p=none->Same H1 H'->H' p=some (.lst xs)->Q (.ref p) H'
def aXh:TE:=λ_ H Q=>∀p H',H p=none->Same H H'->H' p=some (.dK [])->Q (.ref p) H'
theorem dW {x1}(h:VA X es t):VE X (.Tuple es x1 pos) (bAl t):=⟨by intro bEX s σ H Q I hq;refine wpAny_Tuple_spliced (thn (h.1 pos bEX s σ H _ I hq) λus s1 ⟨xs,H1,I1,r,z,q⟩=>⟨by rw[<-r.length];exact z,?_⟩);have hf:H1 s1.heap.objs.size=none:=I1.hok.fresh (j6 _);refine⟨.ref s1.heap.objs.size,upd H1 s1.heap.objs.size (.tup xs),I1.laid (t':=s1.toks) (λb u e=>j0 _ e) (j6 _) ?_,rfl,q _ _ hf (aV hf _) aJ⟩;exact⟨z,us,r,.of (j5 _ rfl) rfl ⟨_,j5 _ rfl,rfl,_,rfl⟩⟩⟩
theorem dJ (h:VA X es t):VE X (.List es pos) (aZ5 t):=⟨by intro bEX s σ H Q I hq;refine wpAny_List_spliced (thn (h.1 pos bEX s σ H _ I hq) λus s1 ⟨xs,H1,I1,r,z,q⟩=>⟨by rw[<-r.length];exact z,?_⟩);have hf:H1 s1.heap.objs.size=none:=I1.hok.fresh (j6 _);refine⟨.ref s1.heap.objs.size,upd H1 s1.heap.objs.size (.lst xs),I1.laid (t':=s1.toks) (λb u e=>j0 _ e) (j6 _) ?_,rfl,q _ _ hf (aV hf _) aJ⟩;exact⟨z,us,0,r,j5 _ rfl⟩⟩
theorem aBv:VE X (.Dict [] [] pos) aXh:=VE.imp aQb fun σ H Q h p hp=>h p _ hp (aV hp _) aJ
theorem OpR.imp {f:Value->Value->Sem Value}{r r':R2}(h:OpR X f r)(k:∀x y H Q,r' x y H Q->r x y H Q):OpR X f r':=λbEX s σ H x y v u Q I rx ry q=>h bEX s σ H x y v u Q I rx ry (k _ _ _ _ q)
theorem cD.imp {f:Value}{r r':List V->Hp->VK->Prop}(h:cD X f r)(k:∀xs H Q,r' xs H Q->r xs H Q):cD X f r':=λbEX s σ H xs us Q I rv q=>h bEX s σ H xs us Q I rv (k _ _ _ q)
def aZw (K:bET):R2:=λx y H Q=>∃a b xs ys,x=.ref a/\y=.ref b/\SqT K H a xs/\SqT K H b ys/\xs.length+ys.length<=sizeLine/\∀r H',Same H H'->SqT K H' r (xs++ys)->Q (.ref r) H'
theorem aUw:OpR X (binaryOp .Add) (aZw X.K):=OpR.imp (aUn.or aU7) λx y H Q ⟨a,b,xs,ys,ex,ey,ha,hb,hz,q⟩=>by
 by_cases h:xs=[]
 ·subst h;exact .inr ⟨a,b,ys,ex,ey,ha,hb,q b H (Same.refl H) hb⟩
 ·refine .inl ⟨a,b,xs,ys,ex,ey,ha,hb,h,hz,λz=>?_,λ_ p hp=>q p _ (aV hp _) (SqT.of aJ)⟩;subst z;exact q a H (Same.refl H) (by rw[bBN];exact ha)
def bBj (K:bET):V->Option Int->Option Int->Hp->VK->Prop:=λx lo hi H Q=>∃a xs,x=.ref a/\SqT K H a xs /\
 ¬ (HT.sIx xs.length 0 lo=0/\HT.sIx xs.length xs.length hi=xs.length)/\∀p H',Same H H'->H' p=some (.tup (qI xs lo hi))->Q (.ref p) H'
theorem aMr:SlR X (bBj X.K):=λbEX s σ H x v vl vu lo hi sl Q I rx hs pl pu ⟨a,xs,e,ha,hn,q⟩=>
 aW2 bEX s σ H x v vl vu lo hi sl Q I rx hs pl pu ⟨a,xs,e,ha,hn,λp hp=>q p _ (aV hp _) aJ⟩
def aZb:R2:=λx y H Q=>∃l b xs zs,x=.ref l/\y=.ref b/\H l=some (.lst xs)/\H b=some (.lst zs)/\xs.length+zs.length<=sizeLine/\∀p H',H p=none->Same H H'->H' p=some (.lst (xs++zs))->Q (.ref p) H'
theorem aBq:OpR X (binaryOp .Add) aZb:=OpR.imp aYe λx y H Q ⟨l,b,xs,zs,ex,ey,hl,hb,hz,q⟩=>⟨l,b,xs,zs,ex,ey,hl,hb,hz,λp hp=>q p _ hp (aV hp _) aJ⟩
def aS0 (K:bET):List V->Hp->VK->Prop:=λxs H Q=>∃p ys,xs=[.ref p]/\(SqL K H p ys\/SqT K H p ys)/\∀l H',H l=none->Same H H'->H' l=some (.lst ys)->Q (.ref l) H'
theorem tW:cD X (.type "list") (aS0 X.K):=cD.imp aE8 λxs H Q ⟨p,ys,e,h,q⟩=>⟨p,ys,e,h,λl hl=>q l _ hl (aV hl _) aJ⟩
def aUi (K:bET):List V->Hp->VK->Prop:=λxs H Q=>∃p ys,xs=[.ref p]/\SqL K H p ys/\∀l H',H l=none->Same H H'->H' l=some (.tup ys)->Q (.ref l) H'
theorem qJ:cD X (.type "tuple") (aUi X.K):=cD.imp aB8 λxs H Q ⟨p,ys,e,h,q⟩=>⟨p,ys,e,.inl ⟨h,λl hl=>q l _ hl (aV hl _) aJ⟩⟩
theorem jD:MtR X "list.append" aMu:=xQ
theorem iQ {H H':Hp}{D:Addr}{o:HO}(f:H D=none)(s:Same H H'):Same H (upd H' D o):=λb u e=>by rw[aK (aL e f)];exact s _ _ e
end
end L2
namespace PySem
section
variable {prog:Program}{w:World}{A:Around}{E:bEU}{s:Shared}{T:String}{r d:Addr}{n:Nat}{P:Nat->Value->Prop}{OK:Heap->Prop}
end
end PySem
namespace L2
open PySem PySem.Spec PyProof.Rows
section
variable {X:Cx}
end
section
variable {X:Cx}{bEX:bEV}{σ:St}{H:Hp}{s:Shared}
theorem Inv.jK {t b:Addr}{xs:List V}(I:Inv X bEX σ H s)(h:SqL X.K H t xs)(f:sI X bEX H b):t≠b:=by
 rintro rfl;obtain⟨f0,f1,f2,f3,_⟩:=f;rcases h with (h|⟨o,h⟩)|⟨o,its,n,hk,_⟩
 ·rw[f0] at h;cases h
 ·rw[f0] at h;cases h
 ·have e:=I.ok.mod.kin t o hk;rcases f3 with z|z
  ·exact I.ok.noex t o e z
  ·exact absurd (bAB (m8 e) (bAP I.ok.bsz z)) (bBO _)
end
def Ite (K:bET)(l:Addr)(xs:List V):It:=
 ⟨λi H=>SqL K H l xs/\i<xs.length,λi H v H'=>∃T a,H T=none/\v=.ref T/\H'=upd H T (.tup [.int (i:Nat),a])/\xs[i]?=some a,λi H=>SqL K H l xs/\xs.length<=i⟩
def etn (e it l:Addr)(i:Nat)(h:Heap):Prop:=(∃old,IsEnum h e it (i:Int) old)/\h.IsListIter it l i
theorem aPu {P:Program}{w:World}{K:bET}{elts:List Expr}{kt:Nat}{pos:Pos}{e it l:Addr}{xs:List V}(hne:e≠it) :
  Turn P w K (.Tuple elts kt pos) (Ite K l xs) [e,it] e (etn e it l) where
 mem:=by simp
 obj:=λi h st b hb=>by
  obtain⟨⟨old,e1⟩,o,e2,c2,d2⟩:=st;simp only[bAD,v9,or_false] at hb;rcases hb with rfl|rfl
  ·exact⟨_,e1,λv z=>by cases (show Data.fields _=Data.cell v from z)⟩
  ·exact⟨_,e2,λv z=>by rw[d2] at z;cases z⟩
 keep:=λi h h' st k=>by obtain⟨⟨old,e1⟩,o,e2,r⟩:=st;exact⟨⟨old,k e (by simp) _ e1⟩,o,k it (by simp) _ e2,r⟩
 item:=by
  intro X hP hw hK hc i bEX s σ H E I hf st hg;subst hP hw hK;obtain⟨⟨old,e1⟩,e2⟩:=st;obtain⟨hl,l1⟩:=hg;obtain⟨its,rv,pl,hz⟩:=I.list hl;obtain⟨x,hx,rx⟩:=rv.get (d9 l1);have fe:=hf e (by simp);have fi:=hf it (by simp);refine wpAny_pyNext_enum_item e1 e2 pl.isList (by simpa using hx) hne λh' a1 a2 a3 a4 kp=>?_;refine⟨_,rfl,?_⟩;have fT:H s.heap.objs.size=none:=I.hok.fresh (j6 _);obtain⟨oi,e2',_⟩:=id e2;obtain⟨oi2,a2',_⟩:=id a2;have I1:Inv X bEX σ (upd H s.heap.objs.size (.tup [.int (i:Nat),xs[i]])) { s with heap:=h' }:=by
   refine I.drawn (ch:=[e,it]) (its:=[.int i s.toks,x]) (λb hb=>hf b hb) (λb o hb z=>?_) (j6 _) (.cons ⟨_,rfl⟩ (.cons rx .nil)) (small (by simp)) (.of a3 rfl ⟨_,a3,rfl,_,rfl⟩) (λb hb=>?_)
   ·simp only[bAD,v9,or_false,not_or] at hb;exact kp b o hb.1 hb.2 z
   ·simp only[bAD,v9,or_false] at hb;rcases hb with rfl|rfl
    ·exact⟨_,a1⟩
    ·exact⟨_,a2'⟩
  have I1':Inv X bEX σ (upd H s.heap.objs.size (.tup [.int (i:Nat),xs[i]])) { s with heap:=h',toks:=s.toks+1 }:=I1.tok _;have nT:∀b∈[e,it],b≠s.heap.objs.size:=λb hb=>by
   simp only[bAD,v9,or_false] at hb;rcases hb with rfl|rfl
   ·exact t7 (m8 e1)
   ·exact t7 (m8 e2')
  refine wpAny_letOwnedTupleGo_enum (s:={ s with heap:=h',toks:=s.toks+1 }) a1 λh2 z2 s2=>?_;obtain⟨g0,g1,g2,g3,g4,g5⟩:=fe;have I2:Inv X bEX σ (upd H s.heap.objs.size (.tup [.int (i:Nat),xs[i]])) { s with heap:=h2,toks:=s.toks+1 }:=Inv.turned (s:={ s with heap:=h',toks:=s.toks+1 }) I1' (t':=s.toks+1) (it:=e) (λb o hb z=>(s2.2 b hb).trans z) (by rw[aK (nT e (by simp))];exact g0) g1 g3 g4 g5;refine⟨.ref s.heap.objs.size,_,I2,rfl,⟨_,_,fT,rfl,rfl,d9 l1⟩,⟨⟨x,?_⟩,?_⟩,λb hb=>by rw[aK (nT b hb)];exact (hf b hb).1⟩
  ·rw[show ((i+1:Nat):Int)=(i:Int)+1 from by lia];exact z2
  ·obtain⟨o,ho,r⟩:=a2;exact⟨o,(s2.2 it (Ne.symm hne)).trans ho,r⟩
 done:=by intro X hP hw hK hc i bEX s σ H E I hf st hg;subst hP hw hK;obtain⟨⟨old,e1⟩,e2⟩:=st;obtain⟨hl,hi⟩:=hg;obtain⟨its,rv,pl,hz⟩:=I.list hl;have hlen:=rv.length;refine wpAny_pyNext_enum_end (I.ok.hd hc) e1 e2 pl.isList (by simp;lia) λh' kp=>⟨rfl,?_⟩;refine Inv.aFh (ch:=[it]) I (λb hb=>hf b (j8 _ hb)) λb o hb z=>kp b o (by simpa using hb) z
 self:=λ_ _ _ _ _ st h=>by obtain⟨⟨old,e1⟩,_⟩:=st;exact wpAny_pyIter_enum e1 h
section
variable {X:Cx}
def aWy (K:bET)(ta:TA):TI:=fun σ H R=>ta σ H λvs H1=>∃l xs,vs=[.ref l]/\SqL K H1 l xs/\R (Ite K l xs) H1
theorem aU0 {elts:List Expr}{kt:Nat}{tp:Pos}{a:Expr}{ta:TA}{p pos:Pos}(hg:Gl X "enumerate")(hm:X.mg "enumerate"=none)(ha:PA X [a] ta)(hs:starEach [a] X.env=[(false,eval a X.env)]:=by rfl) :
  PI X (.Tuple elts kt tp) (.Call (.Name "enumerate" p) [a] [] pos) (aWy X.K ta):=by
 intro bEX s σ H R I h;refine Call_ (nU I hg hm aEx (bBQ (thn (ha pos bEX s σ H _ I h) λus s1 ⟨vs,H1,I1,r1,q1⟩=>?_) hs (by rfl)));obtain⟨l,xs,e,hl,q⟩:=q1;subst e;obtain⟨its,rv,pl,hz⟩:=I1.list hl;obtain⟨u,rfl,ru⟩:=vals1 r1;cases ru;refine call_enumerate_list pl.isList λh' a1 a2 a3 kp=>?_;have I2:Inv X bEX σ H1 { s1 with heap:=h' }:=I1.kept (t':=s1.toks) kp;refine wpAny_pyIter_enum (s:={ s1 with heap:=h' }) a1 ⟨_,_,_,_,H1,rfl,I2,aPu (xs:=xs) (l:=l) (bBY (bCO _)),⟨⟨_,a1⟩,a2⟩,λb hb=>?_,q⟩;have hb':s1.heap.objs.size<=b:=by
  simp only[bAD,v9,or_false] at hb;rcases hb with rfl|rfl
  ·exact bCU _
  ·exact j6 _
 exact I1.aCa hb' (I1.hok.fresh hb')
theorem aSz {K:bET}{l:Addr}{xs:List V}{g:TG}{tb:TS}{D:Ends}{σ:St}{H:Hp}(Pv:Nat->St->Hp->Prop)(h0:Pv 0 σ H)(hl:∀i σ H,i<=xs.length->Pv i σ H->SqL K H l xs)
  (hs:∀i σ H a T H',xs[i]?=some a->Pv i σ H->H T=none->H'=upd H T (.tup [.int (i:Nat),a])->g (.ref T) σ H' fun σ2 H2=>tb { D with nx:=Pv (i+1),ct:=Pv (i+1),bk:=D.nx } σ2 H2) (hd:∀σ H,Pv xs.length σ H->D.nx σ H) :
  ∃W:Nat->Nat->St->Hp->Prop,(∃m,W 0 m σ H)/\∀i m σ H,W i m σ H ->
   ((Ite K l xs).stop i H/\D.nx σ H)\/((Ite K l xs).go i H/\∃N:St->Hp->Prop,(∀σ' H',N σ' H'->∃m',m'<m/\W (i+1) m' σ' H')/\∀x H',(Ite K l xs).yld i H x H'->g x σ H' fun σ2 H2=>tb { D with nx:=N,ct:=N,bk:=D.nx } σ2 H2):=by
 refine⟨λi m σ H=>m=xs.length - i/\i<=xs.length/\Pv i σ H,⟨xs.length,by simp,bAJ _,h0⟩,?_⟩;rintro i m σ H ⟨rfl,hi,p⟩;by_cases hlt:i<xs.length
 ·refine .inr ⟨⟨hl i σ H hi p,hlt⟩,Pv (i+1),fun σ' H' p'=>⟨xs.length - (i+1),by lia,rfl,hlt,p'⟩,λx H' y=>?_⟩;obtain⟨T,a,hT,rfl,e,ha⟩:=y;exact hs i σ H a T H' ha p hT e
 ·have e:i=xs.length:=by lia
  subst e;exact .inl ⟨⟨hl _ σ H hi p,j6 _⟩,hd σ H p⟩
end
section
variable {X:Cx}{a c e:Expr}{st:Stmt}{body:List Stmt}{tc:TT}{tb:TS}{t:TA}{te:TE}{pos p:Pos}
theorem nH:VS X st aSs:=⟨aR0⟩
theorem aTx {elts:List Expr}{kt:Nat}{tp:Pos}(hg:Gl X "enumerate")(hm:X.mg "enumerate"=none)(ha:VA X [a] t)(hp:cP a=true:=by rfl) :
  VI X (.Tuple elts kt tp) (.Call (.Name "enumerate" p) [a] [] pos) (aWy X.K t):=⟨aU0 hg hm ha.1 (aP (es:=[]) hp)⟩
theorem aZc {o:Expr}{to:TE}{name:Str}{apos cpos:Pos}{T id:String}{r:V->List V->Hp->VK->Prop}(pa:PlainAttrs T)(slot:Slot T name id)(hty:typeOf (.builtin id)=pure (.type "method_descriptor"))(hm:MtR X id r)(ho:VE X o to)
  (hbase:attributeBase o name X.env (eval o X.env)=eval o X.env:=by rfl) (hline:(apos.endLine == cpos.line)=true:=by rfl):VE X (.Call (.Attribute o name apos) [] [] cpos) (aZr X.K T r to):=⟨aXz pa slot hty hm ho.1 hbase hline⟩
end
section
variable {P:Program}{w:World}{K:bET}{mg:bEW}{base:Heap}
end
section
variable {X:Cx}{scope:Scope}{N:List Str}{wi:TI}{te:TE}{σ:St}{H:Hp}{Q:VK}
theorem aPr (xs:List V)(Rel:Nat->Hp->V->Prop)(st:∀{i H1 H2 y},Same H1 H2->Rel i H1 y->Rel i H2 y)(su:∀{i H1 D ys zs y},H1 D=some (.lst ys)->Rel i H1 y->Rel i (upd H1 D (.lst zs)) y)
  (σ0:St) (cap:Cap X scope N σ σ0) (hsz:xs.length<=sizeLine)
  (hw:∀R:It->Hp->Prop,(∀J:It,(∀H' i x,Same H H'->xs[i]?=some x->J.go i H'/\∀y H2,J.yld i H' y H2->H2=H'/\y=x)->(∀H',Same H H'->J.stop xs.length H')->R J H)->wi σ H R)
  (he:∀(i:Nat) (x:V),xs[i]?=some x->∀H' R l,Same H H'->(∀y H2,Same H' H2->Rel i H2 y->R y H2)->te ((σ0.set 0 l).set 0 (some x)) H' R) (h0:σ0[0]?=some none)
  (q:∀D H' ys,Same H H'->H' D=some (.lst ys)->ys.length=xs.length->(∀(i:Nat) (y:V),ys[i]?=some y->Rel i H' y)->Q (.ref D) H') :
  jU X scope N wi (cO 0) nJ te σ H Q:=by
 refine⟨σ0,cap,hw _ λJ go stop D hD=>?_⟩;refine⟨λi m σ' H' ys=>i<=xs.length/\m=xs.length - i/\(∃l,σ'=σ0.set 0 l)/\Same H H'/\H' D=some (.lst ys)/\ys.length=i/\∀(j:Nat) (y:V),ys[j]?=some y->Rel j H' y,⟨xs.length,bAJ _,rfl,⟨none,kY h0⟩,aV hD _,aJ,rfl,λj y e=>by simp at e⟩,?_⟩;rintro i m σ' H' ys ⟨hi,rfl,⟨l,rfl⟩,sm,hL,hl,hR⟩;refine⟨hL,?_⟩;by_cases hlt:i<xs.length
 ·right;obtain⟨g1,g2⟩:=go H' i xs[i] sm (d9 hlt);refine⟨g1,λx H2 hy=>?_⟩;obtain⟨rfl,rfl⟩:=g2 x H2 hy;unfold cO nJ;dsimp only;rw[if_pos rfl];refine he i xs[i] (d9 hlt) _ _ l sm λy H3 s3 r3=>⟨s3 _ _ hL,by lia,xs.length - (i+1),by lia,hlt,rfl,⟨some xs[i],?_⟩,?_,aJ,?_,?_⟩
  ·rw[bB8]
  ·intro b o e;rw[aK (aL e hD)];exact s3 _ _ (sm _ _ e)
  ·rw[bAC,bD4,hl]
  ·intro j z ez;refine su (s3 _ _ hL) ?_;by_cases hj:j<ys.length
   ·rw[bCE hj] at ez;exact st s3 (hR j z ez)
   ·rw[bB6 (by lia)] at ez;have hj0:j - ys.length=0:=by
     by_cases z0:j - ys.length=0
     ·exact z0
     ·rw[bAK (by simp;lia)] at ez;cases ez
    have hj1:j=i:=by lia
    subst hj1;rw[hj0] at ez;cases ez;exact r3
 ·left;have e:i=xs.length:=by lia
  subst e;exact⟨stop _ sm,q D _ ys sm hL hl hR⟩
theorem aUg (xs ys:List V)(hly:ys.length=xs.length)(σ0:St)(cap:Cap X scope N σ σ0)(hsz:xs.length<=sizeLine)
  (hw:∀R:It->Hp->Prop,(∀J:It,(∀H' i x,Same H H'->xs[i]?=some x->J.go i H'/\∀y H2,J.yld i H' y H2->H2=H'/\y=x)->(∀H',Same H H'->J.stop xs.length H')->R J H)->wi σ H R)
  (he:∀(i:Nat) (x y:V),xs[i]?=some x->ys[i]?=some y->∀H' R l,Same H H'->(∀H2,Same H' H2->R y H2)->te ((σ0.set 0 l).set 0 (some x)) H' R) (h0:σ0[0]?=some none)
  (q:∀D H',Same H H'->H' D=some (.lst ys)->Q (.ref D) H') :
  jU X scope N wi (cO 0) nJ te σ H Q:=by
 refine aPr xs (λi _ y=>ys[i]?=some y) (λ_ h=>h) (λ_ h=>h) σ0 cap hsz hw (λi x ex H' R l sm r=>?_) h0 λD H' zs sm hD hl hR=>?_
 ·have hi:i<ys.length:=by rw[hly];exact (List.getElem?_eq_some_iff.mp ex).1
  exact he i x ys[i] ex (d9 hi) H' R l sm λH2 s2=>r _ H2 s2 (d9 hi)
 ·have e:zs=ys:=by
   refine bB7 λi=>?_;by_cases hi:i<zs.length
   ·rw[hR i zs[i] (d9 hi),d9 hi]
   ·rw[bAK (by lia),bAK (by lia)]
  subst e;exact q D H' sm hD
end
section
variable {X:Cx}{tg e o i:Expr}{te td ty:TE}{pos:Pos}
theorem jZ (hu:X.A.units+1<cLine)(ho:VE X o td)(hi:VE X i ty)(hs:aXv i):VE X (.Subscript o i pos) (aWo td ty):=⟨aU5 hu ho.1 hi.1 hs⟩
end
theorem aO0 {X:Cx}{i o:Expr}{td ty:TE}{pos:Pos}(hu:X.A.units+1<cLine)(hi:VE X i ty)(ho:VE X o td)(h1:behindInMarks .NotIn o=false:=by first|exact nobehind _ (by decide) (by decide)|rfl):VT X (.Compare i [.NotIn] [o] pos) (tB (aMl ty td)):=⟨aXf (aPj hu hi.1 ho.1) h1⟩
end L2
namespace L2
open PySem PySem.Spec PyProof.Rows
def sel {α:Type}(p:Nat->Bool):Nat->List α->List α
 |_,[]=>[]
 |i,x::r=>if p i then x::sel p (i+1) r else sel p (i+1) r
theorem aBm {α:Type}(p:Nat->Bool)(x:α):∀(k:Nat) (xs:List α),sel p k (xs++[x])=sel p k xs++(if p (k+xs.length) then [x] else [])
 |k,[]=>by show (if p k then x::sel p (k+1) [] else sel p (k+1) [])=[]++(if p (k+0) then [x] else []);rw[Nat.add_zero,bEG];rfl
 |k,y::r=>by
  show (if p k then y::sel p (k+1) (r++[x]) else sel p (k+1) (r++[x]))=(if p k then y::sel p (k+1) r else sel p (k+1) r)++_;rw[aBm p x (k+1) r,v5,show k+1+r.length=k+(r.length+1) by lia]
  split <;> rfl
theorem aF7 {α:Type}(p:Nat->Bool):∀(k:Nat) (xs:List α),(sel p k xs).length<=xs.length
 |_,[]=>j6 _
 |k,y::r=>by
  have:=aF7 p (k+1) r;show (if p k then y::sel p (k+1) r else sel p (k+1) r).length<=r.length+1
  split
  ·rw[v5];lia
  ·lia
section
variable {X:Cx}{scope:Scope}{N:List Str}{wi:TI}{te:TE}{σ:L2.St}{H:Hp}{Q:VK}
end
theorem aWf {X:Cx}{i0:Nat}{x0:Str}{pos' spos:Pos}{elt target iter:Expr}{ifs:List Expr}{scope:Scope}{pos:Pos}{N:List Str}{wi:TI}{g:TG}{tt:TT}{te:TE}
  (hN:X.N.Nodup) (hi0:X.N[i0]?=some x0) (hx0:Loc X.env.scope x0) (C:aB3 scope N) (hfr:∀y,(y,NameKind.free)∈scope.names->X.env.kindOf y=some .cell\/X.env.kindOf y=some .free) (hc:X.calm=true)
  (hi:PI X target iter wi)
  (hb:∀cl s H fp,PG (cxC X N scope cl s H fp) target g/\aQg (cxC X N scope cl s H fp) ifs tt/\PE (cxC X N scope cl s H fp) elt te)
  (hs:∀x,foldedSetIterable iter X.env x=pure x:=by intro _;rfl) (hsw:swapsWith (.ListComp elt [⟨target,iter,ifs,0⟩] scope pos) (some (.Name x0 pos')) spos.line X.env=pure true:=by rfl)
  (hf:X.fn x0=true\/X.env.scope.names.lookup x0=some .local:=by first|exact .inl rfl|exact .inr rfl|assumption) :
  PS X (.Assign [.Name x0 pos'] (.ListComp elt [⟨target,iter,ifs,0⟩] scope pos) spos) (aA8 (jU X scope N wi g tt te) (cO i0)):=by
 intro bEX s σ H Dn I hq;obtain⟨σ0,cap,hq⟩:=hq;obtain⟨cl,hcl,p1,p2⟩:=aAi (scope:=scope) (env:=X.env) (λy hy hk=>by obtain⟨n,k⟩:=y;cases hk;exact I.ok.has n (hfr n hy))
 rw[exec_Assign_Name_used _ _ _ _ hsw];refine c7 (bDL (c7 ?_));show wpAny _ X.A (do let _ <-comprehension (.ListComp elt [⟨target,iter,ifs,0⟩] scope pos) scope X.env _ (newList []) false (eval iter X.env) (some (assign (.Name x0 pos') X.env))) _ _ s;refine c7 (bBB (wpAny_comprehension_free (use:=some (assign (.Name x0 pos') X.env)) (Q:=λ_ s'=>SP X bEX Dn .next s') rfl hs hcl C.kind C.names (thn (hi bEX s σ H _ I hq) λxv s1 h1=>thn h1 λitv s2 h2=>?_))
  (λ_ s' hq=>j4 (j4 hq)) λ_ _ e=>e)
 obtain⟨it,fp,tn,J,H2,rfl,I2,T,st2,f2,q2⟩:=h2;refine bAH (bEA C.cell (by intro y hy;simp at hy) (λh₁ hns₁ hsb₁=>?_) C.kind);dsimp only at hns₁ hsb₁ ⊢;have hD:H2 s2.heap.objs.size=none:=I2.hok.fresh (j6 _);have I3:Inv X bEX σ (upd H2 s2.heap.objs.size (.lst [])) { s2 with heap:=s2.heap.push { cls:=.type "list",dict:=none,data:=.seq ([]:List Value).toArray } }:=
  I2.laid (t':=s2.toks) (λb u e=>j0 _ e) (j6 _) ⟨bAJ _,[],0,.nil,j5 _ rfl⟩
 generalize hs3:({ s2 with heap:=s2.heap.push { cls:=.type "list",dict:=none,data:=.seq ([]:List Value).toArray } }:Shared)=s3 at I3;have hh3:s2.heap.push { cls:=.type "list",dict:=none,data:=.seq ([]:List Value).toArray }=s3.heap:=by rw[<-hs3]
 rw[hh3] at hns₁ hsb₁;have fl2:∀b∈fp,b<s2.heap.objs.size:=λb hb=>by obtain⟨o,e,_⟩:=T.obj _ _ st2 b hb;exact m8 e
 have fl3:∀b∈fp,b<s3.heap.objs.size:=λb hb=>by rw[<-hh3,bAW];exact bBH (fl2 b hb)
 have f3:∀b∈fp,sI X bEX (upd H2 s2.heap.objs.size (.lst [])) b:=λb hb=>by obtain⟨f0,fr⟩:=f2 b hb;exact⟨by rw[aK (t7 (fl2 b hb))];exact f0,fr⟩
 have keep3:∀b o,s3.heap.get? b=some o->h₁.get? b=some o:=λb o e=>hsb₁.extBut b o (t7 (m8 e)) (j0 _ e);have I4:=aH8 (tk:=s3.toks) I3 C hfr p1 p2 cap f3 fl3 hns₁ keep3;have st4:tn 0 h₁:=T.keep _ _ _ st2 λb hb o e=>keep3 b o (by rw[<-hh3];exact j0 _ e);obtain⟨W,⟨m0,w0⟩,turn⟩:=q2 s2.heap.objs.size hD;have fpc:∀{H':Hp},(∀b∈fp,H' b=none)->∀b∈fp,sI (cxC X N scope cl s3 (upd H2 s2.heap.objs.size (.lst [])) fp) [] H' b:=λ{H'} hn b hb=>by obtain⟨e1,e2⟩:=I4.ok.exf b hb;exact⟨hn b hb,e1,I4.ok.exfs b hb,.inl hb,e2,λp hp=>absurd (show p∈([]:bEV) from hp) (by simp)⟩
 have loop:∀s4:Shared,s4={ s3 with heap:=h₁,toks:=s3.toks } ->
   codeAny (model X.prog X.w) X.A (.compLoop (.ListComp elt [⟨target,iter,ifs,0⟩] scope pos) 0 (.ref it) (.ref s2.heap.objs.size) (compEnvC scope cl s3.heap.objs.size X.env))
    (compPost (model X.prog X.w) X.A X.xe (some (assign (.Name x0 pos') X.env)) (λ_ s'=>SP X bEX Dn .next s') (.ref s2.heap.objs.size) s3.heap.objs.size) s4:=by
  rintro s4 rfl;refine aC5 (λn s'=>∃i σ' H' ys,Inv (cxC X N scope cl s3 (upd H2 s2.heap.objs.size (.lst [])) fp) [] σ' H' s'/\tn i s'.heap/\(∀b∈fp,H' b=none)/\W i n σ' H' ys) ?_ m0 ⟨0,σ0,_,[],I4,st4,λb hb=>(f3 b hb).1,w0⟩;rintro n s5 ⟨i,σ5,H5,ys,I5,st5,fr5,w5⟩;obtain⟨hacc,w5⟩:=turn i n σ5 H5 ys w5;have noE:∀{α:Type} {t:Sem α} {Q':α->Shared->Prop} {E':bEU} {s':Shared},wpAny (model X.prog X.w) X.A t Q' (λ_ _=>False) s'->wpAny (model X.prog X.w) X.A t Q' E' s':=λh=>bBB h (λ_ _ q=>q) λ_ _ z=>z.elim;rcases w5 with⟨stop,qn⟩|⟨go,step⟩
  ·refine noE (thn (T.done (cxC X N scope cl s3 (upd H2 s2.heap.objs.size (.lst [])) fp) rfl rfl rfl hc i [] s5 σ5 H5 _ I5 (fpc fr5) st5 stop) λr s6 ⟨hr,I6⟩=>?_);subst hr;obtain⟨m6,hn6,_⟩:=I6.loc;have kp:∀b o,b≠s3.heap.objs.size->s6.heap.get? b=some o->s6.heap.get? b=some o:=λb o hb e=>e;have ne3:∀b o,s3.heap.get? b=some o->b≠s3.heap.objs.size:=λb o e=>t7 (m8 e);have un:Un (frs X.stack) fp (upd H2 s2.heap.objs.size (.lst [])) H5 s3.heap s6.heap:=by
    have u:=I6.base;exact⟨λb o e n hb hx=>kp b o (ne3 b o e) (u.keep b o e n hb hx),λb o e n hb hx=>by
     obtain⟨sl,e1⟩:=u.slot b o e n hb hx;exact⟨sl,kp b _ (ne3 b o e) e1⟩,u.free,λb o e hx=>by
     obtain⟨o',e1⟩:=u.there b o e hx;exact⟨o',kp b _ (ne3 b o e) e1⟩,u.tups,u.frzs,u.tbls⟩
   have hok:HOk X.prog X.w H5 s6.heap:=λb u e=>by
    refine (I6.hok b u e).stay (λc v hc' q=>kp c v ?_ q) (λ_ q=>q) λ_ _ q=>q;have hfree:H5 s3.heap.objs.size=none:=I6.free;rintro rfl;rcases hc' with z|z
    ·rw[z] at hfree;rw[hfree] at e;cases e
    ·rw[hfree] at z;cases z
   have I7:Inv X bEX σ H5 s6:=by refine I3.call' (s':=s6) I6.os un hok I6.bare λb hb=>?_;obtain⟨f0,f1,f2',f3',f4,f5⟩:=f3 b hb;exact⟨f3',f1,f4,f5⟩
   have hfree:H5 s3.heap.objs.size=none:=I6.free;obtain⟨g0,g1,g2,g3,g4,g5⟩:=I3.aCa (j6 _) hfree;show wpAny (model X.prog X.w) X.A (assign (.Name x0 pos') X.env (.ref s2.heap.objs.size)) _ _ s6;refine wpAny_assign_Name (aDg I7 hN hi0 hx0 (v:=.ref s2.heap.objs.size) rfl (λs8 I8 ⟨a,sb,ha⟩=>?_) hf);have nea:s3.heap.objs.size≠a:=by
    rcases ha with z|z
    ·rw[z];exact g1
    ·exact λe=>g4 x0 a z e.symm
   refine⟨m6,hn6.sameBut sb nea,λh' sb'=>?_⟩;exact⟨_,H5,Inv.turned I8 (t':=s8.toks) (it:=s3.heap.objs.size) (λb o hb e=>sb'.extBut b o hb e) g0 g1 g3 g4 g5,qn⟩
  ·refine noE (thn (T.item (cxC X N scope cl s3 (upd H2 s2.heap.objs.size (.lst [])) fp) rfl rfl rfl hc i [] s5 σ5 H5 (λ_ _=>False) I5 (fpc fr5) st5 go) λr s6 ⟨u,hr,h6⟩=>?_);subst hr;refine noE (thn h6 λ_ s7 ⟨x,H7,I7,r7,y7,st7,fr7⟩=>?_);obtain⟨hg,ht,he⟩:=hb cl s3 (upd H2 s2.heap.objs.size (.lst [])) fp;have I7':=I7.pinned (fpc fr7) (T.obj _ _ st7);have back:∀{σ8:St} {H8:Hp} {s8:Shared},Inv (cxC X N scope cl s3 (upd H2 s2.heap.objs.size (.lst [])) fp) ([]++xT fp s7.heap) σ8 H8 s8->tn (i+1) s8.heap/\∀b∈fp,H8 b=none:=λ{σ8 H8 s8} I8=>
    ⟨T.keep _ _ _ st7 λb hb o e=>(I8.pin (b,o) (v8 _ (v8 _ (jA hb e)))).1,λb hb=>by obtain⟨o,e,d⟩:=T.obj _ _ st7 b hb;exact (I8.pin (b,o) (v8 _ (v8 _ (jA hb e)))).2.1⟩
   refine noE (thn (hg _ s7 σ5 H7 x u _ I7' r7 (step x H7 y7)) λ_ s8 ⟨σ8,H8,I8,q8⟩=>?_);refine noE (thn (ht _ s8 σ8 H8 _ I8 q8) λb s9 ⟨H9,I9,q9⟩=>?_);cases b with
   |false=>rw[if_neg t6] at q9 ⊢;obtain⟨_,m',hm,w9⟩:=q9;exact⟨m',hm,i+1,σ8,H9,ys,I9.lD,(back I9).1,(back I9).2,w9⟩
   |true=>rw[if_pos rfl] at q9 ⊢;refine noE (thn (he _ s9 σ8 H9 _ I9 q9) λyv s10 ⟨y,H10,I10,r10,hacc10,hlen,m',hm,w10⟩=>?_);refine noE (thn (xQ _ s10 σ8 H10 (.ref s2.heap.objs.size) [y] (.ref s2.heap.objs.size) [yv] (λ_ H11=>H11=upd H10 s2.heap.objs.size (.lst (ys++[y]))) I10 rfl (.cons r10 .nil) ⟨_,_,_,rfl,rfl,hacc10,hlen,rfl⟩) λ_ s11 ⟨z,H11,I11,_,e11⟩=>?_);subst e11;exact⟨m',hm,i+1,σ8,_,ys++[y],I11.lD,(back I11).1,(back I11).2,w10⟩
 have fin:=codeAny_compStart_list (loop { s3 with heap:=h₁,toks:=s3.toks } rfl) (T.self _ _ _ _ _ st4 (loop { s3 with heap:=h₁,toks:=s3.toks } rfl));subst hs3;exact fin
theorem aFq {X:Cx}{i0:Nat}{x0:Str}{pos' spos:Pos}{elt target iter:Expr}{ifs:List Expr}{scope:Scope}{pos:Pos}{N:List Str}{wi:TI}{g:TG}{tt:TT}{te:TE}
  (hN:X.N.Nodup) (hi0:X.N[i0]?=some x0) (hx0:Loc X.env.scope x0) (C:aB3 scope N) (hfr:∀y,(y,NameKind.free)∈scope.names->X.env.kindOf y=some .cell\/X.env.kindOf y=some .free) (hc:X.calm=true)
  (hi:VI X target iter wi)
  (hb:∀cl s H fp,VG (cxC X N scope cl s H fp) target g/\VF (cxC X N scope cl s H fp) ifs tt/\VE (cxC X N scope cl s H fp) elt te)
  (hs:∀x,foldedSetIterable iter X.env x=pure x:=by intro _;rfl) (hsw:swapsWith (.ListComp elt [⟨target,iter,ifs,0⟩] scope pos) (some (.Name x0 pos')) spos.line X.env=pure true:=by rfl)
  (hf:X.fn x0=true\/X.env.scope.names.lookup x0=some .local:=by first|exact .inl rfl|exact .inr rfl|assumption) :
  VS X (.Assign [.Name x0 pos'] (.ListComp elt [⟨target,iter,ifs,0⟩] scope pos) spos) (aA8 (jU X scope N wi g tt te) (cO i0)):=
 ⟨aWf hN hi0 hx0 C hfr hc hi.1 (λcl s H fp=>⟨(hb cl s H fp).1.1,(hb cl s H fp).2.1.1,(hb cl s H fp).2.2.1⟩) hs hsw hf⟩
section
variable {te:TE}{H:Hp}{Q:VK}
theorem aJs (xs:List V)(Rel:Nat->Hp->V->Prop)(st:∀{i H1 H2 y},Same H1 H2->Rel i H1 y->Rel i H2 y)(su:∀{i H1 D ys zs y},H1 D=some (.lst ys)->Rel i H1 y->Rel i (upd H1 D (.lst zs)) y)
  (σ0:St) (hsz:xs.length<=sizeLine)
  (J:It) (go:∀H' i x,Same H H'->xs[i]?=some x->J.go i H'/\∀y H2,J.yld i H' y H2->H2=H'/\y=x) (stop:∀H',Same H H'->J.stop xs.length H')
  (he:∀(i:Nat) (x:V),xs[i]?=some x->∀H' R l,Same H H'->(∀y H2,Same H' H2->Rel i H2 y->R y H2)->te ((σ0.set 0 l).set 0 (some x)) H' R) (h0:σ0[0]?=some none)
  (q:∀D H' ys,Same H H'->H' D=some (.lst ys)->ys.length=xs.length->(∀(i:Nat) (y:V),ys[i]?=some y->Rel i H' y)->Q (.ref D) H') :
  ∀D,H D=none->∃W:Nat->Nat->St->Hp->List V->Prop,(∃m,W 0 m σ0 (upd H D (.lst [])) []) /\
   ∀i m σ' H' ys,W i m σ' H' ys->H' D=some (.lst ys)/\((J.stop i H'/\Q (.ref D) H')\/(J.go i H'/\∀x H2,J.yld i H' x H2->cO 0 x σ' H2 fun σ3 H3=>nJ σ3 H3 λb H4=>
    if b=true then te σ3 H4 λy H5=>H5 D=some (.lst ys)/\ys.length<sizeLine/\∃m',m'<m/\W (i+1) m' σ3 (upd H5 D (.lst (ys++[y]))) (ys++[y]) else H4 D=some (.lst ys)/\∃m',m'<m/\W (i+1) m' σ3 H4 ys)):=by
 intro D hD;refine⟨λi m σ' H' ys=>i<=xs.length/\m=xs.length - i/\(∃l,σ'=σ0.set 0 l)/\Same H H'/\H' D=some (.lst ys)/\ys.length=i/\∀(j:Nat) (y:V),ys[j]?=some y->Rel j H' y,⟨xs.length,bAJ _,rfl,⟨none,kY h0⟩,aV hD _,aJ,rfl,λj y e=>by simp at e⟩,?_⟩;rintro i m σ' H' ys ⟨hi,rfl,⟨l,rfl⟩,sm,hL,hl,hR⟩;refine⟨hL,?_⟩;by_cases hlt:i<xs.length
 ·right;obtain⟨g1,g2⟩:=go H' i xs[i] sm (d9 hlt);refine⟨g1,λx H2 hy=>?_⟩;obtain⟨rfl,rfl⟩:=g2 x H2 hy;unfold cO nJ;dsimp only;rw[if_pos rfl];refine he i xs[i] (d9 hlt) _ _ l sm λy H3 s3 r3=>⟨s3 _ _ hL,by lia,xs.length - (i+1),by lia,hlt,rfl,⟨some xs[i],?_⟩,?_,aJ,?_,?_⟩
  ·rw[bB8]
  ·intro b o e;rw[aK (aL e hD)];exact s3 _ _ (sm _ _ e)
  ·rw[bAC,bD4,hl]
  ·intro j z ez;refine su (s3 _ _ hL) ?_;by_cases hj:j<ys.length
   ·rw[bCE hj] at ez;exact st s3 (hR j z ez)
   ·rw[bB6 (by lia)] at ez;have hj0:j - ys.length=0:=by
     by_cases z0:j - ys.length=0
     ·exact z0
     ·rw[bAK (by simp;lia)] at ez;cases ez
    have hj1:j=i:=by lia
    subst hj1;rw[hj0] at ez;cases ez;exact r3
 ·left;have e:i=xs.length:=by lia
  subst e;exact⟨stop _ sm,q D _ ys sm hL hl hR⟩
end
section
variable {K:bET}
theorem aJv {a:Addr}{xs:List V}{H:Hp}(hS:∀H',Same H H'->SqL K H' a xs):∀H' i x,Same H H'->xs[i]?=some x->(Itl K a).go i H'/\∀y H2,(Itl K a).yld i H' y H2->H2=H'/\y=x:=λH' i x s e=>
 ⟨⟨xs,x,hS H' s,e⟩,λy H2 hy=>by obtain⟨e1,e2⟩:=hy;have e3:=e2 xs (hS H' s);rw[e] at e3;cases e3;exact⟨e1,rfl⟩⟩
theorem aBy {a:Addr}{xs:List V}{H:Hp}(hS:∀H',Same H H'->SqL K H' a xs):∀H',Same H H'->(Itl K a).stop xs.length H':=λH' s=>⟨xs,hS H' s,j6 _⟩
end
section
variable {X:Cx}{K:bET}{scope:Scope}{N:List Str}{tl te:TE}{σ:L2.St}{H:Hp}{Q:VK}
theorem aPk (Pr:List V->Prop)(Rel:Nat->Hp->V->Prop)(st:∀{i H1 H2 y},Same H1 H2->Rel i H1 y->Rel i H2 y)(su:∀{i H1 D ys zs y},H1 D=some (.lst ys)->Rel i H1 y->Rel i (upd H1 D (.lst zs)) y)
  (σ0:L2.St) (cap:Cap X scope N σ σ0) (h0:σ0[0]?=some none)
  (hw:∀R:VK,(∀D H1 us,Same H H1->H1 D=some (.lst us)->Pr us->R (.ref D) H1)->tl σ H R)
  (hsz:∀us,Pr us->us.length<=sizeLine)
  (he:∀us,Pr us->∀(i:Nat) (x:V),us[i]?=some x->∀H' R l,Same H H'->(∀y H2,Same H' H2->Rel i H2 y->R y H2)->te ((σ0.set 0 l).set 0 (some x)) H' R)
  (q:∀us,Pr us->∀D H' ys,Same H H'->H' D=some (.lst ys)->ys.length=us.length->(∀(i:Nat) (y:V),ys[i]?=some y->Rel i H' y)->Q (.ref D) H') :
  jU X scope N (aGl K tl) (cO 0) nJ te σ H Q:=
 ⟨σ0,cap,hw _ λD H1 us s1 g1 p=>⟨D,rfl,⟨us,SqL.of g1⟩,aJs us Rel st su σ0 (hsz us p) (Itl K D) (aJv λH' sm=>SqL.of (sm _ _ g1)) (aBy λH' sm=>SqL.of (sm _ _ g1))
  (λi x ex H' R l sm r=>he us p i x ex H' R l (s1.trans sm) r) h0 λD2 H' ys sm=>q us p D2 H' ys (s1.trans sm)⟩⟩
end
theorem SqT.nM {K:bET}{H:Hp}{a D:Addr}{xs ys zs:List V}(hD:H D=some (.lst ys))(h:SqT K H a xs):SqT K (upd H D (.lst zs)) a xs:=by
 rcases h with (h|⟨o,h⟩)|h
 ·exact .inl (.inl (by rw[aK (aIs h hD (by intro z;cases z))];exact h))
 ·exact .inl (.inr ⟨o,by rw[aK (aIs h hD (by intro z;cases z))];exact h⟩)
 ·exact .inr h
end L2
namespace PySem
end PySem
namespace L2
open PySem PySem.Spec PyProof.Rows
def classAt:Stmt->Nat->Stmt
 |.ClassDef _ _ _ body _ _ _ _ _ _ _,j=>body.getD j (.Pass ⟨0,0,0,0⟩)
 |st,_=>st
structure aVd (K:bET)(mg:bEW)(x:Str)(C:Addr):Prop where
 at_:mg x=some (.ref C)
 cls:Cls K C
 mks:PySem.W.makesIn K C=true
 kp:PySem.W.keepIn K (.ref C)=true
def kO (K:bET)(C:Addr)(m qual:Str)(st:Stmt)(ps:List Str):Prop:=∃f fd,Meth K C m f/\Fun K m qual st f fd/\Binds K fd ps []
section
variable {P:Program}{w:World}{K:bET}{mg:bEW}{base:Heap}
def OkM (P:Program)(w:World)(K:bET)(mg:bEW)(base:Heap)(C:Addr)(k:Nat)(m:Str)(ps:List Str)(sp:Sp):Prop:=
 ∃f fd,Cls K C/\Meth K C m f/\Binds K fd ps []/\fQ P w K mg base CX0 k f fd ps sp
theorem OkM.mono {C:Addr}{j k:Nat}{m:Str}{ps:List Str}{sp:Sp}(h:OkM P w K mg base C j m ps sp)(hj:j<=k):OkM P w K mg base C k m ps sp:=by obtain⟨f,fd,h1,h2,h3,h4⟩:=h;exact⟨f,fd,h1,h2,h3,h4.mono hj⟩
theorem OkM.ofV {C:Addr}{m qual:Str}{st:Stmt}{N ps:List Str}{k:Nat}{sp:Sp}(c:Cls K C)(D:kO K C m qual st ps)(S:aM N ps (aF st))(len:∀vs H Q E,sp vs H Q E->vs.length=ps.length)
  (hbody:∀(f:Addr) (cdv:Value) (A:Around) (outer:List Env) (s:Shared) (H:Hp) (vs:List V) (Q:VK) (E:XK),Room k (A.deeper (envOfC qual (aF st) s.heap.objs.size f cdv))->sp vs H Q E ->
   ∃t,VSs (vW CX0 P w K mg base N qual (aF st) f cdv A outer s H E).nox (cX st) t/\t { nx:=λ_ H'=>Q .non H',rt:=Q } (start N vs) H):OkM P w K mg base C (k+1) m ps sp:=by
 obtain⟨f,fd,hm,F,B⟩:=D;exact⟨f,fd,c,hm,B,Fun.okV F S len λcdv A outer s H vs Q E hr h=>hbody f cdv A outer s H vs Q E hr h⟩
def OkC (P:Program)(w:World)(K:bET)(mg:bEW)(base:Heap)(C:Addr)(k:Nat)(x:Str)(ps:List Str)(sp:Sp):Prop:=
 ∃f fd,mg x=some (.ref C)/\Mk K C f/\Binds K fd ps []/\fQ P w K mg base CX0 k f fd ps sp
theorem OkC.mono {C:Addr}{j k:Nat}{x:Str}{ps:List Str}{sp:Sp}(h:OkC P w K mg base C j x ps sp)(hj:j<=k):OkC P w K mg base C k x ps sp:=by obtain⟨f,fd,h1,h2,h3,h4⟩:=h;exact⟨f,fd,h1,h2,h3,h4.mono hj⟩
theorem OkM.make {C:Addr}{k:Nat}{x:Str}{ps:List Str}{sp:Sp}(c:aVd K mg x C)(h:OkM P w K mg base C k "__init__" ps sp):OkC P w K mg base C k x ps sp:=by obtain⟨f,fd,h1,h2,h3,h4⟩:=h;exact⟨f,fd,c.at_,⟨c.mks,h2.at_,h2.fn,c.kp⟩,h3,h4⟩
end
section
variable {X:Cx}{e o value:Expr}{es:List Expr}{f m x:Str}{p pos pos' apos:Pos}{ta tv:TE}{t:TA}{C:Addr}{k:Nat}{ps:List Str}{sp:Sp}
theorem jJ {K:bET}(he:VE X e ta)(hb:attributeBase e f X.env (eval e X.env)=eval e X.env:=by rfl)(h:X.K=K:=by rfl):VE X (.Attribute e f pos) (bAk K ta f):=by subst h;exact⟨aX4 he.1 hb⟩
theorem aBf {K:bET}(ha:VE X o ta)(hv:VE X value tv)(hs:swapsWith value (some (.Attribute o f pos')) pos.line X.env=pure false:=by rfl)(h:X.K=K:=by rfl):VS X (.Assign [.Attribute o f pos'] value pos) (bAq K ta tv f):=by subst h;exact⟨aYa ha.1 hv.1 hs⟩
theorem oM {pl:Sem Bool}(G:OkM X.prog X.w X.K X.mg X.base C k m ps sp)(hr:Room k X.A)(he:VE X o ta)(ha:VA X (e::es) t)
  (hp:cP e=true:=by rfl) (hpl:(backTo pos (starEach es X.env)).any (·.1)=false:=by rfl)
  (ht:eval (.Call (.Attribute o m apos) (e::es) [] pos) X.env=(do
   let ov <-eval o X.env
   standAt apos.atName
   let (f,first) <-holding [ov] (getMethod ov m pl)
   callWith pos f first (backTo pos (starEach (e::es) X.env)) (backToKw pos (keywordEach [] X.env))):=by rfl):VE X (.Call (.Attribute o m apos) (e::es) [] pos) (aNj C m sp [] E0 ta t):=by
 obtain⟨f,fd,h1,h2,h3,h4⟩:=G;exact⟨aVz he.1 h1 h2 h4 hr h3 .nil aA2 ha.1 (aP hp) hpl ht⟩
theorem aTb {pl:Sem Bool}(G:OkM X.prog X.w X.K X.mg X.base C k m ps sp)(hr:Room k X.A)(he:VE X o ta)
  (ht:eval (.Call (.Attribute o m apos) [] [] pos) X.env=(do
   let ov <-eval o X.env
   standAt apos.atName
   let (f,first) <-holding [ov] (getMethod ov m pl)
   callWith pos f first (backTo pos (starEach [] X.env)) (backToKw pos (keywordEach [] X.env))):=by rfl):VE X (.Call (.Attribute o m apos) [] [] pos) (aNj C m sp [] E0 ta aAr):=by
 obtain⟨f,fd,h1,h2,h3,h4⟩:=G;exact⟨aRk he.1 h1 h2 h4 hr h3 .nil aA2 ht⟩
theorem aMi (G:OkC X.prog X.w X.K X.mg X.base C k x ps sp)(hr:Room (k+1) X.A)(hg:Gl X x)(ha:VA X (e::es) t)(hdb:(x == ("__debug__":Str))=false:=by decide)(hp:cP e=true:=by rfl)(hpl:(backTo pos (starEach es X.env)).any (·.1)=false:=by rfl) :
  VE X (.Call (.Name x p) (e::es) [] pos) (aWt C sp [] E0 t):=by
 obtain⟨f,fd,h1,h2,h3,h4⟩:=G;exact⟨aV9 h2 h4 hr hg h1 h3 .nil aA2 ha.1 hdb (aP hp) hpl⟩
end
end L2
namespace PySem
open Sem (wp)
section
variable {M:Model}{prog:Program}{w:World}{A:Around}{E:bEU}{R:Result->Shared->Prop}{h:Heap}{g:Array GenState}{d:Drawn}{t:Nat}{os:OsState}
variable {nm q:Str}{C N:Addr}{bs bm bmN:List Value}{hdct:Bool}{sn:List Str}{sub:List Value}{ab:Bool}{col:Option Bool}{dd:Option Addr}{k0 k1 k2 k3 k5:Option Value}{Bn newId inN:String}
theorem aG9 (Fn:ExcBaseFacts Bn newId inN bmN)(hBn:bm.contains (.type Bn)=true){rest:List Value}{Q:Unit->Shared->Prop}(hC:h.get? C=some (excClassObj nm q C N bs bm hdct sn sub ab col dd k0 k1 k2 k3 k5 newId))
  (hq:Q () ⟨h,g,d,t,os⟩):wpAny M A (checkBuiltinCall newId ⟨.ref C::rest,[]⟩) Q E ⟨h,g,d,t,os⟩:=by
 have hcont:(Value.ref C::bm).contains (.type Bn)=true:=by rw[bCH,hBn,bEK]
 have hstar:=Fn.noStar;simp only[checkBuiltinCall,Fn.newKind,Fn.newSplit,Fn.newRow]
 repeat (first|refine bBU hC ?_|(refine bC1 hC ?_;rw[hcont])|refine wpAny_staticBase_exc hC ?_|refine wpAny_madeBy_exc hC ?_|simp only[bne_self_eq_false,bBE,if_false]|wp_step)
 exact hq
theorem bAa (Fn:ExcBaseFacts Bn newId inN bmN)(hBn:bm.contains (.type Bn)=true)(hA:bm.contains (.type "AttributeError")=false)(hN:bm.contains (.type "NameError")=false){rest:List Value}(hC:h.get? C=some (excClassObj nm q C N bs bm hdct sn sub ab col dd k0 k1 k2 k3 k5 newId))
  (hq:R (.ok (.ret (.ref (h.objs.size+1)))) ⟨(h.push { cls:=.type "tuple",data:=.seq rest.toArray }).push
   { cls:=.ref C,data:=.fields #[.ref h.objs.size,.none,.none,.none,.bool false,.none] },g,d,t,os⟩) (hrest:rest.length<=sizeLine:=by size_fits) :
  codeAny (model prog w) A (.builtin newId ⟨.ref C::rest,[]⟩) R ⟨h,g,d,t,os⟩:=by
 have hends:=Fn.ends;have hcB:(Value.ref C::bm).contains (.type Bn)=true:=by rw[bCH,hBn,bEK]
 have hcA:(Value.ref C::bm).contains (.type "AttributeError")=false:=by rw[bCH,hA];rfl
 have hcN:(Value.ref C::bm).contains (.type "NameError")=false:=by rw[bCH,hN];rfl
 refine codeAny_builtinAt Fn.entry ?_;unfold Builtin.«BaseException.__new__»;refine wpAt_bind ?_;show wpAt _ _ _ (stack >>= _) _ _ _;refine wpAt_bind (wpAt_stack λp below=>wpAt_of_wpAny ?_);wp_walk;refine wpAt_of_wpAny ?_;rw[Fn.owner]
 repeat (first|with_reducible refine wpAny_madeHere_exc Fn.canon hC ?_|with_reducible refine bBU hC ?_|(with_reducible refine bC1 hC ?_;first|rw[hcB]|rw[hcA]|rw[hcN])|wp_step)
 show R _ _;rw[bAW];exact hq
end
end PySem
namespace L2
open PySem PySem.Spec PyProof.Rows
def aIw:List Value->Bool
 |.ref _::r=>aIw r
 |l=>l == [.type "ValueError",.type "Exception",.type "BaseException",.type "object"]
theorem uL (self:Value):∀{l:List Value},aIw l=true->refuseLoop self "__setattr__" l=pure ()
 |[],e=>absurd e (by decide)
 |.ref c::r,e=>by rw[refuseLoop_ref];exact uL self e
 |.none::r,e|.bool _::r,e|.int _ _::r,e|.str _ _::r,e|.float _ _::r,e|.bytes _ _::r,e|.builtin _::r,e|.type _::r,e=>by have q:=beq_iff_eq.mp e;rw[q];exact PySem.F.store_ValueError.passes self
structure XC (K:bET)(C fI:Addr):Prop where
 at_:∃nm q N bs bm sn sub ab col dd k0 k1 k2 k3 k5,K.lookup C=some (excClassObj nm q C N bs bm true sn sub ab col dd k0 k1 k2 k3 k5 "ValueError.__new__")/\bm.contains (.type "ValueError")=true /\
  bm.contains (.type "AttributeError")=false/\bm.contains (.type "NameError")=false/\bm.contains (.type "BaseException")=true
 init:PySem.W.findIn K (.ref C) "__init__"=some (some (.ref fI))
 fn:PySem.W.typeIn K (.ref fI)=some (.type "function")
 row:(PySem.W.clsIn K C).any (λcd=>aIw cd.mro && cd.hasDict)=true
 sa:PySem.W.findIn K (.ref C) "__setattr__"=some (some (.builtin "object.__setattr__"))
 ga:PySem.W.findIn K (.ref C) "__getattribute__"=some (some (.builtin "BaseException.__getattribute__"))
 hook:PySem.W.findIn K (.ref C) "__getattr__"=some none
 act:PySem.W.findIn K (.ref C) "act"=some none
 cls:PySem.W.findIn K (.ref C) "__class__"=some (some (.builtin "object.__class__"))
section
variable {prog:Program}{w:World}{A:Around}{E:bEU}{h:Heap}{g:Array GenState}{d:Drawn}{t:Nat}{os:OsState}{K:bET}{C fI:Addr}
theorem aIf (X:K.In h)(c:XC K C fI){rest:List Value}{Q:Fin->Shared->Prop}
  (hq:∀h' e,Heap.MadeExcOf h h' e (.ref C) rest->e=h.objs.size+1->h'.get? h.objs.size=some { cls:=.type "tuple",data:=.seq rest.toArray } ->
   wpAny (model prog w) A (call (.ref fI) (.ref e::rest)) (λr s'=>r=.none/\Q (.done (.ret (.ref e))) s') E ⟨h',g,d,t,os⟩) (hrest:rest.length<=sizeLine) :
  wpAny (model prog w) A (Builtin.«type.__call__» ⟨.ref C::rest,[]⟩) Q E ⟨h,g,d,t,os⟩:=by
 obtain⟨⟨nm,q,N,bs,bm,sn,sub,ab,col,dd,k0,k1,k2,k3,k5,lk,hB,hA,hN,hE⟩,hi,hf,_⟩:=c;have hC:=X _ _ lk;have F:=PySem.F.excBase_ValueError
 repeat (first|with_reducible refine bBU hC ?_|with_reducible refine wpAny_madeBy_exc hC ?_|wp_step)
 refine codeAny_call_builtin_code (Code.quiet_builtin _ F.quiet) (aG9 F hB hC ?_);refine bAa F hB hA hN hC ?_ hrest;show wpAny _ _ _ _ _ _;have kp:∀b o,h.get? b=some o->((h.push { cls:=.type "tuple",data:=.seq rest.toArray }).push { cls:=.ref C,data:=.fields #[.ref h.objs.size,.none,.none,.none,.bool false,.none] }).get? b=some o:=
  λb o e=>j0 _ (j0 _ e)
 have hC₁:=kp _ _ hC;have X₁:=X.keeps kp;have hget:((h.push { cls:=.type "tuple",data:=.seq rest.toArray }).push
   { cls:=.ref C,data:=.fields #[.ref h.objs.size,.none,.none,.none,.bool false,.none] }).get? (h.objs.size+1)=some
   { cls:=.ref C,data:=.fields #[.ref h.objs.size,.none,.none,.none,.bool false,.none] }:=by heap_get
 have htup:((h.push { cls:=.type "tuple",data:=.seq rest.toArray }).push
   { cls:=.ref C,data:=.fields #[.ref h.objs.size,.none,.none,.none,.bool false,.none] }).get? h.objs.size=some { cls:=.type "tuple",data:=.seq rest.toArray }:=j0 _ (Heap.get?_push_at rfl rfl)
 have hcC:(Value.ref C::bm).contains (.ref C)=true:=by simp
 unfold isInstance
 repeat (first|with_reducible refine bBU hget ?_|(with_reducible refine bC1 hC₁ ?_;rw[hcC])|wp_step)
 show wpAny _ _ (typeLookup (.ref C) _) _ _ _;refine (PySem.W.looks_findIn X₁ hi).at ?_;refine bAV (c7 ?_);unfold bindSpecial;refine c7 ((PySem.W.looks_typeIn X₁ hf).at ?_);rw[if_pos (by decide)];refine j4 (c7 (bBB (hq _ (h.objs.size+1) ⟨kp,bDE (bCU _),h.objs.size,hget,bDE (j6 _),htup⟩ rfl htup) (λr s' hr=>?_) λ_ _ x=>x));obtain⟨rfl,hQ⟩:=hr;wp_walk;exact hQ
theorem x_call (X:K.In h)(c:XC K C fI){rest:List Value}{Q:bEU}
  (hq:∀h' e,Heap.MadeExcOf h h' e (.ref C) rest->e=h.objs.size+1->h'.get? h.objs.size=some { cls:=.type "tuple",data:=.seq rest.toArray } ->
   wpAny (model prog w) (A.under (.builtin "type.__call__" ⟨.ref C::rest,[]⟩)) (call (.ref fI) (.ref e::rest)) (λr s'=>r=.none/\Q (.ref e) s') E ⟨h',g,d,t,os⟩) (hrest:rest.length<=sizeLine) :
  wpAny (model prog w) A (call (.ref C) rest) Q E ⟨h,g,d,t,os⟩:=by
 obtain⟨nm,q,N,bs,bm,sn,sub,ab,col,dd,k0,k1,k2,k3,k5,lk,hB,hA,hN,hE⟩:=c.at_;have hC:=X _ _ lk;have f1:=tc_lookup;have f2:=tc_bind (.ref C);have hT:(⟨h,g,d,t,os⟩:Shared).TypeIs (.ref C) "type":=⟨_,hC,rfl⟩;refine bCX (bEF ?_);show wpAny _ _ (callAny (.ref C) _) _ _ _
 repeat (any_goals (first|assumption|with_reducible refine bBU hC ?_|wp_step))
 refine⟨rfl,?_⟩;refine codeAny_call_builtin_at (Code.quiet_builtin _ (by decide +kernel)) entry_typeCall (wpAny_check_type_call_sub hC (aIf X c (λh' e hm h1 h2=>?_) hrest));exact hq h' e hm h1 h2
end
def XO (e C:Addr)(d:Option Addr):HO:=.ext λh=>∃vs:Array Value,h.get? e=some { cls:=.ref C,dict:=d,data:=.fields vs }/\vs.size=6/\vs[1]?=some .none
theorem XO.at {P:Program}{w:World}{H:Hp}{h:Heap}{e C:Addr}{d:Option Addr}(x:HOk P w H h)(q:H e=some (XO e C d)):∃vs:Array Value,h.get? e=some { cls:=.ref C,dict:=d,data:=.fields vs }/\vs.size=6/\vs[1]?=some .none:=(x e _ q).1
theorem XO.ok {P:Program}{w:World}{H:Hp}{h:Heap}{e C:Addr}{d:Option Addr}{vs:Array Value}(q:h.get? e=some { cls:=.ref C,dict:=d,data:=.fields vs })(z:vs.size=6)(n:vs[1]?=some .none):cU P w H h e (XO e C d):=
 ⟨⟨vs,q,z,n⟩,⟨_,q⟩,λh1 h2 ⟨us,a,b,c⟩ k=>⟨us,k _ a,b,c⟩⟩
theorem aUo (K:bET):PySem.W.findCls K (.type "ValueError") (.type "type") "__init__"=some (.val (.builtin "ValueError.__init__")):=
 show PySem.W.findCls [] (.type "ValueError") (.type "type") "__init__"=some (.val (.builtin "ValueError.__init__")) by kernel_rfl
section
variable {prog:Program}{w:World}{A:Around}{E:bEU}{s:Shared}{K:bET}{C fI e:Addr}
theorem aXn (X:K.In s.heap)(c:XC K C fI){dx:Option Addr}{vs:Array Value}{sl:Array (Option Value)}{rest:List Value}{Q:bEU}(he:s.heap.get? e=some { cls:=.ref C,dict:=dx,data:=.fields vs,slots:=sl })(hz:0<vs.size){u0:Value}(h0:vs[0]?=some u0)(hr:rest.length<=sizeLine)
  (h:Q .none { s with heap:=(s.heap.push { cls:=.type "tuple",data:=.seq rest.toArray }).update e (Obj.mapFields (·.setIfInBounds 0 (.ref s.heap.objs.size))) }) :
  wpAny (model prog w) A (call (.builtin "ValueError.__init__") (.ref e::rest)) Q E s:=by
 obtain⟨nm,q,N,bs,bm,sn,sub,ab,col,dd,k0,k1,k2,k3,k5,lk,hB,hA,hN,hE⟩:=c.at_;have hC:=X _ _ lk;have F:=PySem.F.excBase_ValueError;obtain⟨hp,g,d,t,os⟩:=s;have hcB:(Value.ref C::bm).contains (.type "ValueError")=true:=by rw[bCH,hB,bEK]
 refine bCX (bCK F.init.plain F.initEntry ?_);have hshort:=F.noStar;simp only[checkBuiltinCall,F.initKind,F.initSplit,F.initRow]
 repeat (first|with_reducible refine bBU he ?_|with_reducible refine bBU hC ?_|(with_reducible refine bC1 hC ?_;rw[hcB])|wp_step)
 refine bCN ?_;rw[show ∀(a b:String) (n:Nat),Bind.check ⟨.positional,"*","ValueError",.self,[⟨"args",.varPos,false⟩]⟩ a b n (List.map (λx=>x.fst) ({ pos:=Value.ref e::rest }:Args).kw)=pure () from
  λa b n=>check_star_args _ _ _ _ _ _]
 refine j4 ?_;unfold Builtin.«BaseException.__init__» newTuple;refine c7 (bAH ?_ (by show rest.toArray.size<=sizeLine;rw[m7];exact hr));have he₁:=j0 (h:=hp) { cls:=.type "tuple",data:=.seq rest.toArray } he;refine c7 ?_;unfold Builtin.BaseException.bexcPut;refine c7 (bAF he₁ rfl h0 ?_);refine c7 (bBV he₁ rfl hz ?_)
 split
 ·exact bDT (j4 h)
 ·exact j4 (j4 h)
end
end L2
namespace L2
open PySem PySem.Spec PyProof.Rows Builtin Builtin.ObjectAttr
section
variable {prog:Program}{w:World}{A:Around}{E:bEU}{s:Shared}{K:bET}{C fI e:Addr}
theorem aVp (X:K.In s.heap)(c:XC K C fI){vs:Array Value}{v:Value}{Q:Unit->Shared->Prop}(he:s.heap.get? e=some { cls:=.ref C,data:=.fields vs })
  (hq:∀h' t',h'.get? e=some { cls:=.ref C,dict:=some s.heap.objs.size,data:=.fields vs }->h'.Ns1 s.heap.objs.size (λy=>if y = "act" then some v else none) ->
   (∀b o,b≠e->s.heap.get? b=some o->h'.get? b=some o)->Q () { s with heap:=h',toks:=t' }) :
  wpAny (model prog w) A (setAttr (.ref e) "act" v) Q E s:=by
 have I:PySem.W.InstAt s.heap e { cls:=.ref C,data:=.fields vs } C none:=⟨he,rfl,rfl,trivial⟩;refine PySem.W.set_plain X I c.sa ?_;obtain⟨cd,hc,ho'⟩:=PySem.W.any_some c.row;obtain⟨ho,hd⟩:=Bool.and_eq_true_iff.mp ho';have SF:=PySem.F.store_object;have SV:=PySem.F.store_ValueError;have hm:PySem.W.Looks (model prog w) s.heap (mroOf (.ref C)) cd.mro:=(PySem.W.looks_clsIn X hc).andThen .now;have hasO:∀{l:List Value},aIw l=true->l.contains (.type "object")=true/\l.isEmpty=false:=by
  intro l
  induction l with
  |nil=>intro z;exact absurd z (by decide)
  |cons a r ih=>
   intro z;refine⟨?_,rfl⟩;cases a with
   |ref x=>rw[bCH,(ih z).1,bEK]
   |_=>have q:=beq_iff_eq.mp z;rw[q];decide +kernel
 have sub:PySem.W.Looks (model prog w) s.heap (isInstance (.ref e) (.type "object")) true:=I.type.andThen (PySem.W.looks_mroIn X (by unfold PySem.W.mroIn;rw[hc,Option.bind_some,if_neg (by rw[(hasO ho).2];decide),(hasO ho).1]));refine bCK SF.slot.plain SF.entry (@PySem.W.check_slot (model prog w) _ _ { s with toks:=s.toks+1 } "object.__setattr__" "object" "__setattr__" (.ref e) [.str "act" s.toks,v] [] _ SF.kind SF.split sub (SF.args (.ref e) (.str "act" s.toks) v) ?_);rw[PySem.W.osa_eq,refuse_eq];refine c7 (c7 (I.type _ _ _ _ (λ_ _ e=>e) (c7 (hm _ _ _ _ (λ_ _ e=>e) ?_))));rw[uL _ ho];refine j4 (c7 (I.type _ _ _ _ (λ_ _ e=>e) (c7 (PySem.W.looks_findIn X c.act _ _ _ _ (λ_ _ e=>e) (c7 ?_)))));refine j4 ?_;dsimp only;obtain⟨h,g,d,t,os⟩:=s;dsimp only at *;unfold storeInOwnDict;have hxs:e≠h.objs.size:=t7 (m8 he);have hx₁:(h.push { cls:=.type "dict",data:=.dict #[] }).get? e=some { cls:=.ref C,data:=.fields vs }:=j0 _ he;refine c7 (j4 (c7 ?_));unfold ownDictForStores instanceDict;refine c7 (wpAny_loadPart he ?_);dsimp only;refine c7 ((PySem.W.looks_clsIn X hc) _ _ _ _ (λ_ _ e=>e) ?_);rw[hd,if_neg (by decide),if_neg (by simp[typeHasDict])];refine c7 (wpAny_alloc' ?_);refine c7 (wpAny_update' hx₁ ?_);refine j4 ?_;have hgd:((h.push { cls:=.type "dict",data:=.dict #[] }).update e λo=>{ cls:=o.cls,dict:=some h.objs.size,data:=o.data,slots:=o.slots }).get? h.objs.size
   = some { cls:=.type "dict",data:=.dict #[] }:=
  (bDK _ _ _ _ hxs.symm).trans (Heap.get?_push_at rfl rfl)
 have hnd:((h.push { cls:=.type "dict",data:=.dict #[] }).update e λo=>{ cls:=o.cls,dict:=some h.objs.size,data:=o.data,slots:=o.slots }).Ns h.objs.size (λ_=>none):=
  ⟨_,#[],_,hgd,rfl,λe he=>absurd he (by simp),λ_=>rfl⟩
 show wpAny _ _ (storeInDict h.objs.size (.str "act" _) "act" v) _ _ _;unfold storeInDict newKeyGuard;refine c7 (j4 (c7 (wpAny_nsSet1 (Heap.Ns1.of_empty hnd) λh' hn' hs=>?_)));obtain⟨oD,esD,epD,hoD,hdD,hcD⟩:=hn'.count (Within.cons "act" v Within.nil);refine c7 (wpAny_lookBehind hoD (by rw[hdD];exact pastItsLine_dict (bAP hcD (by rw[v5,bBZ,sizeLine_eq];lia))) ?_);refine j4 ?_;refine hq h' _ ?_ hn' λb ob hbx hb=>(hs.2 b (t7 (m8 hb))).trans ((bDK _ _ _ _ hbx).trans (j0 _ hb));exact (hs.2 e hxs).trans (bAX _ hx₁ rfl)
end
end L2
namespace L2
open PySem PySem.Spec PyProof.Rows Builtin Builtin.ObjectAttr
section
variable {prog:Program}{w:World}{A:Around}{E:bEU}{s:Shared}{K:bET}{C fI e:Addr}
end
section
variable {M:Model}{A:Around}{E:bEU}{s:Shared}{base:Heap}{env:Env}{outer:List Env}{L e:Addr}
theorem aNp {oe:Obj}{vs:Array Value}{head:Value}{hadNext:Bool}{Q:Unit->Shared->Prop}(hfr:A.frames=some (env::outer))(hl:s.heap.FunFrames base (env::outer))(hf:env.frame=some L)
  (he:s.heap.get? e=some oe) (hd:oe.data=.fields vs) (hsz:1<vs.size)
  (h:∀h',(∀b o,b≠e->b∉frs (env::outer)->s.heap.get? b=some o->h'.get? b=some o)->(∀b o,b≠e->s.heap.get? b=some o->∃sl,h'.get? b=some { o with slots:=sl }) ->
   h'.get? e=some (oe.mapFields (·.setIfInBounds 1 (.ref s.heap.objs.size)))->(∃oT ts,h'.get? s.heap.objs.size=some oT/\oT.data=.fields ts/\3<ts.size)->Q () { s with heap:=h' }) :
  wpAny M A (do let a <-frameOf env;let pl <-entryPlaceOf L hadNext;let b <-EntryCells.newEntry head a .none (rawInt L) .none pl;setField (.ref e) 1 b) Q E s:=by
 have hene:e∉(env::outer).filterMap (·.frame):=λhm=>by obtain⟨_,o,ho,hnf⟩:=hl.mem hm;rw[he] at ho;injection ho with ho;subst ho;exact hnf vs hd
 refine c7 (wpAny_frameOf_fun hfr hl hf λh₁ hs₁=>?_);refine c7 (wpAny_entryPlaceOf λpl hpl=>?_);unfold EntryCells.newEntry newFields;refine c7 (bAH ?_ (hpl.sizeOk5 _ _ _ _ _));have he₁:h₁.get? e=some oe:=(hs₁.2.1 e hene).trans he;have he₂:=j0 (h:=h₁) { cls:=.type "traceback",dict:=none,data:=.fields ([head,.ref L,.none,rawInt L,.none]++(if pl.isEmpty then List.replicate 6 Value.none else pl)).toArray } he₁;have hTe:h₁.objs.size≠e:=bBY (m8 he₁);have hd₃:=bC8 hd (·.setIfInBounds 1 (Value.ref h₁.objs.size));have he₃:=bAX (Obj.mapFields (·.setIfInBounds 1 (Value.ref h₁.objs.size))) he₂ (bDB hd₃);have hT₃:=(bBG (h₁.push { cls:=.type "traceback",dict:=none,data:=.fields ([head,.ref L,.none,rawInt L,.none]++(if pl.isEmpty then List.replicate 6 Value.none else pl)).toArray })
  (Obj.mapFields (·.setIfInBounds 1 (Value.ref h₁.objs.size))) (Ne.symm hTe)).trans (j5 h₁ rfl)
 have keep:∀b o,b≠e->h₁.get? b=some o ->
   ((h₁.push { cls:=.type "traceback",dict:=none,data:=.fields ([head,.ref L,.none,rawInt L,.none]++(if pl.isEmpty then List.replicate 6 Value.none else pl)).toArray }).update e (Obj.mapFields (·.setIfInBounds 1 (Value.ref h₁.objs.size)))).get? b=some o:=λb o hbe hb=>by
  rw[bBG _ _ (Ne.symm hbe)];exact j0 _ hb
 refine bBV he₂ hd hsz (h _ (λb o hbe hbf hb=>keep b o hbe ((hs₁.2.1 b hbf).trans hb)) (λb o hbe hb=>?_) ?_ ?_)
 ·obtain⟨sl,hs⟩:=hs₁.2.2 b o hb;exact⟨sl,keep b _ hbe hs⟩
 ·rw[<-hs₁.1];exact he₃
 ·rw[<-hs₁.1];exact⟨_,_,hT₃,rfl,by simp only[m7,bAC,v5,bBZ] <;> lia⟩
theorem aYi {oe:Obj}{vs:Array Value}{Q:Unit->Shared->Prop}(T:Option Addr)(hfr:A.frames=some (env::outer))(hl:s.heap.FunFrames base (env::outer))(hf:env.frame=some L)
  (he:s.heap.get? e=some oe) (hd:oe.data=.fields vs) (h1:vs[1]?=some (T.elim .none .ref)) (hT:∀a,T=some a->a≠e/\∃oT ts,s.heap.get? a=some oT/\oT.data=.fields ts/\3<ts.size)
  (h:∀h' T',(∀b o,b≠e->T≠some b->b∉frs (env::outer)->s.heap.get? b=some o->h'.get? b=some o)->(∀b o,b≠e->T≠some b->s.heap.get? b=some o->∃sl,h'.get? b=some { o with slots:=sl })->(∀b o,s.heap.get? b=some o->∃o',h'.get? b=some o') ->
   (∃vs':Array Value,h'.get? e=some { oe with data:=.fields vs' }/\vs'.size=vs.size/\vs'[1]?=some (.ref T'))->(∃oT ts,h'.get? T'=some oT/\oT.data=.fields ts/\3<ts.size)->(T=some T'\/T'=s.heap.objs.size)->Q () { s with heap:=h' }) :
  wpAny M A (noteFrame (.ref e) env) Q E s:=by
 unfold noteFrame;simp only[hf];obtain⟨u,hu,h1⟩:∃u:Value,u=T.elim .none .ref/\vs[1]?=some u:=⟨_,rfl,h1⟩;refine c7 (bAF he hd h1 ?_);have hs1:1<vs.size:=(Array.getElem?_eq_some_iff.mp h1).1;have mf:∀n:Addr,oe.mapFields (·.setIfInBounds 1 (.ref n))={ oe with data:=.fields (vs.setIfInBounds 1 (.ref n)) }:=λn=>by obtain⟨c,d,dt,sl⟩:=oe;cases hd;rfl
 have hfin:∀{h':Heap} {n:Addr},h'.get? e=some (oe.mapFields (·.setIfInBounds 1 (.ref n)))->∃vs':Array Value,h'.get? e=some { oe with data:=.fields vs' }/\vs'.size=vs.size/\vs'[1]?=some (.ref n):=λ{h' n} q=>
  ⟨_,by rw[q,mf n],by simp,by simp[hs1]⟩
 cases T with
 |none=>
  obtain rfl:u=.none:=hu;rw[if_neg (by decide)];refine aNp hfr hl hf he hd hs1 λh' k1 k2 k3 k4=>h h' _ (λb o hb _ hf q=>k1 b o hb hf q) (λb o hb _ q=>k2 b o hb q) (λb o q=>?_) (hfin k3) k4 (.inr rfl);by_cases z:b=e
  ·subst z;exact⟨_,k3⟩
  ·obtain⟨sl,r⟩:=k2 b o z q;exact⟨_,r⟩
 |some a=>
  obtain⟨hae,oT,ts,hTa,hdT,h3⟩:=hT a rfl;obtain rfl:u=.ref a:=hu;rw[if_pos (show (Value.ref a != Value.none)=true from by simp)];refine c7 (bAF hTa hdT (t8 h3) ?_);by_cases hq:(ts[3] == rawInt L)=true
  ·rw[if_pos hq];refine j4 (h s.heap a (λb o _ _ _ q=>q) (λb o _ _ q=>⟨o.slots,q⟩) (λb o q=>⟨o,q⟩) ⟨vs,?_,rfl,h1⟩ ⟨oT,ts,hTa,hdT,h3⟩ (.inl rfl));rw[he];obtain⟨c,d,dt,sl⟩:=oe;cases hd;rfl
  rw[if_neg hq];refine c7 (bBV hTa hdT h3 ?_);have other:∀b,b≠a->(s.heap.update a (Obj.mapFields (·.setIfInBounds 3 Value.none))).get? b=s.heap.get? b:=λb hb=>bBG _ _ (Ne.symm hb);have noRecord:∀b o,s.heap.get? b=some o->(∀vs,o.data≠.fields vs)->b≠a:=λb o hb hnf q=>by rw[q,hTa] at hb;injection hb with hb;subst hb;exact hnf ts hdT
  have hsz:(s.heap.update a (Obj.mapFields (·.setIfInBounds 3 Value.none))).objs.size=s.heap.objs.size:=Heap.size_after_update ..;have hsame:=bAX (h:=s.heap) (Obj.mapFields (·.setIfInBounds 3 Value.none)) hTa (bDB (bC8 hdT _));refine aNp (s:={ s with heap:=s.heap.update a (Obj.mapFields (·.setIfInBounds 3 Value.none)) }) hfr (hl.of_keeps λb o hb hnf=>⟨o,(other b (noRecord b o hb hnf)).trans hb,rfl⟩) hf ((other e (Ne.symm hae)).trans he) hd hs1 λh' k1 k2 k3 k4=>?_;dsimp only at k1 k2 k3 k4;rw[hsz] at k3 k4;refine h h' _ (λb o hb hba hf q=>k1 b o hb hf ((other b λz=>hba (by rw[z])).trans q)) (λb o hb hba q=>k2 b o hb ((other b λz=>hba (by rw[z])).trans q)) (λb o q=>?_) (hfin k3) k4 (.inr rfl);by_cases z:b=e
  ·subst z;exact⟨_,k3⟩
  ·by_cases y:b=a
   ·subst y;obtain⟨sl,r⟩:=k2 b _ z hsame;exact⟨_,r⟩
   ·obtain⟨sl,r⟩:=k2 b o z ((other b y).trans q);exact⟨_,r⟩
end
def aKu (e T C dx:Addr):HO:=.ext λh=>∃vs:Array Value,h.get? e=some { cls:=.ref C,dict:=some dx,data:=.fields vs }/\vs.size=6/\vs[1]?=some (.ref T)
def TbO (T:Addr):HO:=.ext λh=>∃oT ts,h.get? T=some oT/\oT.data=.fields ts/\3<ts.size
def up2 (H:Hp)(e T C dx:Addr):Hp:=upd (upd H T (TbO T)) e (aKu e T C dx)
abbrev xdA:HO:=.xd [(("act":Str),V.non)]
theorem aKu.ok {P:Program}{w:World}{H:Hp}{h:Heap}{e T C dx:Addr}{vs:Array Value}(q:h.get? e=some { cls:=.ref C,dict:=some dx,data:=.fields vs })(z:vs.size=6)(n:vs[1]?=some (.ref T)):cU P w H h e (aKu e T C dx):=
 ⟨⟨vs,q,z,n⟩,⟨_,q⟩,λh1 h2 ⟨us,a,b,c⟩ k=>⟨us,k _ a,b,c⟩⟩
theorem TbO.ok {P:Program}{w:World}{H:Hp}{h:Heap}{T:Addr}(q:∃oT ts,h.get? T=some oT/\oT.data=.fields ts/\3<ts.size):cU P w H h T (TbO T):=by obtain⟨o,ts,a,b,c⟩:=q;exact⟨⟨o,ts,a,b,c⟩,⟨_,a⟩,λh1 h2 ⟨u,us,a,b,c⟩ k=>⟨u,us,k _ a,b,c⟩⟩
theorem aV5 {H:Hp}{a:Addr}{o:HO}(h:H a=some o):upd H a o=H:=by
 funext b;unfold upd;split
 ·rename_i e;rw[e,h]
 ·rfl
def Xt:HO->Prop
 |.ext _=>True
 |_=>False
section
variable {X:Cx}{bEX:bEV}{σ:St}{H H₁:Hp}{s:Shared}{e C dx:Addr}{M:Model}{E:bEU}{Q:Unit->Shared->Prop}
theorem aD1 (I:Inv X bEX σ H s)(hst:X.stack=X.env::X.outer)(hfrm:X.env.frame=some X.env.locals)(T:Option Addr){vs:Array Value}
  (he:s.heap.get? e=some { cls:=.ref C,dict:=some dx,data:=.fields vs }) (z:vs.size=6) (h1:vs[1]?=some (T.elim .none .ref))
  (hT:∀a,T=some a->a≠e/\(∃oT ts,s.heap.get? a=some oT/\oT.data=.fields ts/\3<ts.size)/\∃o,H a=some o/\Xt o)
  (hx:∃o,H e=some o/\Xt o) (tr:∀b o,H₁ b=some o->b≠e/\T≠some b/\H b=some o) (cov:∀b o,H b=some o->b≠e->T≠some b->H₁ b=some o)
  (q:∀T' s',Inv X bEX σ (up2 H₁ e T' C dx) s'->H₁ T'=none->T'≠e->Q () s') :
  wpAny M X.A (noteFrame (.ref e) X.env) Q E s:=by
 have hfun:s.heap.FunFrames X.base (X.env::X.outer):=hst ▸ I.stack;obtain⟨oE,hE,hEx⟩:=hx;refine aYi T (by rw[<-hst];exact I.ok.frames) hfun hfrm he rfl h1 (λa ha=>⟨(hT a ha).1,(hT a ha).2.1⟩) λh' T' k1 k2 k3 k4 k5 k6=>?_;have fr0:∀b∈frs (X.env::X.outer),H b=none:=λb hb=>I.rO b (by rw[hst];exact hb);have un:∀b,H b=none->H₁ b=none:=λb n=>by
  cases r:H₁ b with
  |none=>rfl
  |some o=>rw[(tr b o r).2.2] at n;cases n
 have h₁T:H₁ T'=none:=by
  rcases k6 with k6|rfl
  ·cases r:H₁ T' with
   |none=>rfl
   |some o=>exact absurd k6 (tr _ o r).2.1
  ·exact un _ (I.hok.fresh (j6 _))
 have nTe:T'≠e:=by
  rcases k6 with k6|rfl
  ·exact (hT _ k6).1
  ·exact bBY (m8 he)
 have get2:∀b,b≠e->b≠T'->up2 H₁ e T' C dx b=H₁ b:=λb n1 n2=>by unfold up2;rw[aK n1,aK n2]
 have trk:∀b o,H b=some o->T≠some b->b≠T':=λb o r n=>by
  rcases k6 with k6|rfl
  ·exact λzz=>n (by rw[zz];exact k6)
  ·exact t7 (I.hok.lt r)
 have old:∀b,H b=none->(∃o,s.heap.get? b=some o)->b≠T':=λb n ⟨o,r⟩=>by
  rcases k6 with k6|rfl
  ·intro zz;obtain⟨o',r',_⟩:=(hT _ k6).2.2;rw[zz,r'] at n;cases n
  ·exact t7 (m8 r)
 have notE:∀b o,H b=some o->¬ Xt o->b≠e/\T≠some b:=λb o r n=>by
  refine⟨λzz=>?_,λzz=>?_⟩
  ·subst zz;rw[hE] at r;cases r;exact n hEx
  ·obtain⟨o',r',x'⟩:=(hT b zz).2.2;rw[r'] at r;cases r;exact n x'
 have keepT:∀b o u,H b=some o->b≠e->T≠some b->s.heap.get? b=some u->h'.get? b=some u:=λb o u r n1 n2 r2=>
  k1 b u n1 n2 (λhb=>by rw[fr0 b hb] at r;cases r) r2
 have stay2:∀b o,H b=some o->¬ Xt o->up2 H₁ e T' C dx b=some o:=λb o r n=>by obtain⟨n1,n2⟩:=notE b o r n;rw[get2 b n1 (trk b o r n2)];exact cov b o r n1 n2
 have hok:HOk X.prog X.w (up2 H₁ e T' C dx) h':=λb o r=>by
  by_cases be:b=e
  ·subst be;unfold up2 at r;rw[aJ] at r;cases r;obtain⟨vs',e1,e2,e3⟩:=k4;exact aKu.ok (vs:=vs') e1 (e2.trans z) e3
  ·by_cases bT:b=T'
   ·subst bT;unfold up2 at r;rw[aK be,aJ] at r;cases r;exact TbO.ok k5
   ·rw[get2 b be bT] at r;obtain⟨n1,n2,r'⟩:=tr b o r;refine (I.hok b o r').stay (λc u hc r2=>?_) (λc r2=>stay2 c _ r2 λz=>z) λc xs r2=>stay2 c _ r2 λz=>z;rcases hc with rfl|hc
    ·exact keepT c o u r' n1 n2 r2
    ·obtain⟨m1,m2⟩:=notE c _ hc λz=>z;exact keepT c _ u hc m1 m2 r2
 have hTn:∀b,T=some b->H b≠none:=λb hb n=>by obtain⟨o',r',_⟩:=(hT b hb).2.2;rw[r'] at n;cases n
 have U:Un (frs X.stack) [] H (up2 H₁ e T' C dx) s.heap h':=by
  refine⟨λb o r n hb _=>?_,λb o r n hb _=>?_,λb o r n _=>?_,λb o r _=>k3 b o r,λb xs r=>stay2 b _ r λz=>z,λb o u r=>stay2 b _ r λz=>z,λb ps r=>⟨#[],by rw[stay2 b _ r λz=>z];simp⟩⟩
  ·exact k1 b o (λzz=>by subst zz;rw[hE] at n;cases n) (λzz=>hTn b zz n) (by rw[<-hst];exact hb) r
  ·exact k2 b o (λzz=>by subst zz;rw[hE] at n;cases n) (λzz=>hTn b zz n) r
  ·rw[get2 b (λzz=>by subst zz;rw[hE] at n;cases n) (old b n ⟨o,r⟩)];exact un b n
 exact q T' _ (I.call' (s':={ s with heap:=h' }) (ch:=[]) rfl U hok I.bare λb z=>absurd z (by simp)) h₁T nTe
theorem tL {T:Addr}{A:Around}{fr:Option Addr}(I:Inv X bEX σ (up2 H₁ e T C dx) s)(hTe:T≠e)(q:∀s',Inv X bEX σ (up2 H₁ e T C dx) s'->Q () s'):wpAny M A (setFlight (.ref e) fr) Q E s:=by
 have e1:up2 H₁ e T C dx e=some (aKu e T C dx):=aJ;have e2:up2 H₁ e T C dx T=some (TbO T):=by unfold up2;rw[aK hTe,aJ]
 obtain⟨vs,hge,hz,hv1⟩:=(I.hok e _ e1).1;obtain⟨oT,ts,hgT,hdT,ht3⟩:=(I.hok T _ e2).1;unfold setFlight;refine c7 (bAF hge rfl hv1 ?_);rw[if_pos (show (Value.ref T != Value.none)=true from by simp)];refine bBV hgT hdT ht3 (q _ ?_);have hu:=bAX (h:=s.heap) (Obj.mapFields (·.setIfInBounds 3 (fr.elim Value.none λf=>rawInt f))) hgT (bDB (bC8 hdT _));have W:=I.write (x:=T) (e:=T) (o:=TbO T) (h':=s.heap.update T (Obj.mapFields (·.setIfInBounds 3 (fr.elim Value.none λf=>rawInt f)))) (t':=s.toks) (by rw[e2];trivial) (.inl rfl) (λb u nb q=>(bBG _ _ (Ne.symm nb)).trans q) ⟨_,hu⟩
  (TbO.ok ⟨_,_,hu,bC8 hdT _,by simpa using ht3⟩)
 rw[aV5 e2] at W;exact W
theorem aN8 (I:Inv X bEX σ (upd H₁ e (XO e C (some dx))) s)(hst:X.stack=X.env::X.outer)(hfrm:X.env.frame=some X.env.locals)(n:H₁ e=none)
  (q:∀T' s',Inv X bEX σ (up2 H₁ e T' C dx) s'->H₁ T'=none->T'≠e->Q () s') :
  wpAny M X.A (noteFrame (.ref e) X.env) Q E s:=by
 obtain⟨vs,he,z,h1⟩:=XO.at (d:=some dx) I.hok aJ;refine aD1 I hst hfrm none he z h1 (λa ha=>nomatch ha) ⟨_,aJ,trivial⟩ (λb o r=>?_) (λb o r ne _=>by rw[aK ne] at r;exact r) q;have ne:b≠e:=λzz=>by subst zz;rw[n] at r;cases r
 exact⟨ne,(nomatch ·),by rw[aK ne];exact r⟩
theorem aOf {T:Addr}(I:Inv X bEX σ (up2 H₁ e T C dx) s)(hst:X.stack=X.env::X.outer)(hfrm:X.env.frame=some X.env.locals)(n:H₁ e=none)(nT:H₁ T=none)(hTe:T≠e)
  (q:∀T' s',Inv X bEX σ (up2 H₁ e T' C dx) s'->H₁ T'=none->T'≠e->Q () s') :
  wpAny M X.A (noteFrame (.ref e) X.env) Q E s:=by
 have e1:up2 H₁ e T C dx e=some (aKu e T C dx):=aJ;have e2:up2 H₁ e T C dx T=some (TbO T):=by unfold up2;rw[aK hTe,aJ]
 obtain⟨vs,he,z,h1⟩:=(I.hok e _ e1).1;refine aD1 I hst hfrm (some T) he z h1 (λa ha=>?_) ⟨_,e1,trivial⟩ (λb o r=>?_) (λb o r ne nt=>?_) q
 ·cases ha;exact⟨hTe,(I.hok T _ e2).1,_,e2,trivial⟩
 ·have ne:b≠e:=λzz=>by subst zz;rw[n] at r;cases r
  have nt:b≠T:=λzz=>by subst zz;rw[nT] at r;cases r
  exact⟨ne,λzz=>nt (bAQ zz).symm,by unfold up2;rw[aK ne,aK nt];exact r⟩
 ·unfold up2 at r;rw[aK ne,aK (λzz=>nt (by rw[zz]))] at r;exact r
end
def CXR (P:Program)(w:World):CXT:=λouter H s E v s'=>∃e T dx C H₁,v=.ref e/\s'.os=s.os/\AllBare s'.gens/\H₁ e=none/\H₁ T=none/\T≠e/\H₁ dx=some xdA /\
 Un (frs outer) [] H (up2 H₁ e T C dx) s.heap s'.heap/\HOk P w (up2 H₁ e T C dx) s'.heap/\E (.ref C) (some e) H₁
def Raises (X:Cx)(E:XK):Prop:=∀(bEX:bEV) (σ:St) (H₁:Hp) (s:Shared) (e C dx:Addr),Inv X bEX σ (upd H₁ e (XO e C (some dx))) s->H₁ e=none->H₁ dx=some xdA->E (.ref C) (some e) H₁->X.xe (.ref e) s
section
variable {P:Program}{w:World}{K:bET}{mg:bEW}{base:Heap}{N:List Str}{qual:Str}{scope:Scope}{f:Addr}{cd:Value}{A:Around}{outer:List Env}{s₀:Shared}{H₀:Hp}{E:XK}
theorem aOj {bEX:bEV}{σ:St}{H₁:Hp}{s:Shared}{e T C dx:Addr}(I:Inv (vW (CXR P w) P w K mg base N qual scope f cd A outer s₀ H₀ E) bEX σ (up2 H₁ e T C dx) s)(n:H₁ e=none)(nT:H₁ T=none)(hTe:T≠e)(hd:H₁ dx=some xdA)(q:E (.ref C) (some e) H₁) :
  CXR P w outer H₀ s₀ E (.ref e) s:=⟨e,T,dx,C,H₁,rfl,I.os,I.bare,n,nT,hTe,hd,I.base,I.hok,q⟩
theorem aN5:Raises (vW (CXR P w) P w K mg base N qual scope f cd A outer s₀ H₀ E) E:=by intro bEX σ H₁ s e C dx I n hd q;show wpAny _ _ (leaving _ (.ref e)) _ _ s;unfold leaving;exact c7 (aN8 I rfl rfl n λT' s' I' nT hTe=>tL I' hTe λs2 I2=>aOj I2 n nT hTe hd q)
end
theorem aZf {H:Hp}{a:Addr}{o:HO}(h:H a=some o):upd H a o=H:=by
 funext b;unfold upd;split
 ·rename_i e;rw[e,h]
 ·rfl
theorem aQ7 {H:Hp}{a b:Addr}{o u:HO}(h:a≠b):upd (upd H a o) b u=upd (upd H b u) a o:=by
 funext c;unfold upd;by_cases e1:c=b
 ·by_cases e2:c=a
  ·exact absurd (e2.symm.trans e1) h
  ·simp[e1,e2,Ne.symm h]
 ·by_cases e2:c=a
  ·simp[e2,h]
  ·simp[e1,e2]
def tVI (K:bET)(fI:Addr)(t:TA):TE:=fun σ H Q=>t σ H λvs H1=>∃e C v,vs=[.ref e,v]/\H1 e=some (XO e C none)/\XC K C fI/\Q .non H1
def aQh (K:bET)(fI:Addr)(ta tv:TE):TS:=λD σ H=>tv σ H λy H1=>ta σ H1 λx H2=>∃e C,y=.non/\x=.ref e/\H2 e=some (XO e C none)/\XC K C fI /\
 ∀dx,H2 dx=none->dx≠e->D.nx σ (upd (upd H2 dx xdA) e (XO e C (some dx)))
section
variable {X:Cx}{o value e1:Expr}{es:List Expr}{p ap pos pos' cpos:Pos}{ta tv:TE}{t:TA}{fI:Addr}{pl:Sem Bool}
theorem aUe:bootBuiltins "ValueError"=some (.type "ValueError"):=by decide +kernel
theorem bAn:typeOf (.type "ValueError")=pure (.type "type"):=by first|rfl|kernel_rfl
theorem aUq:PySem.W.handedIn (.builtin "ValueError.__init__")=true:=by decide +kernel
theorem aT7:Manifest.isStub "ValueError"=false:=by decide +kernel
theorem aS1 (hg:Gl X "ValueError")(hm:X.mg "ValueError"=none)(ha:PA X (e1::es) t)
  (hst:starEach (e1::es) X.env=(false,eval e1 X.env)::starEach es X.env:=by rfl) (hpl:(backTo cpos (starEach es X.env)).any (·.1)=false:=by rfl)
  (ht:eval (.Call (.Attribute (.Name "ValueError" p) "__init__" ap) (e1::es) [] cpos) X.env=(do
   let ov <-eval (.Name "ValueError" p) X.env
   standAt ap.atName
   let (f,first) <-holding [ov] (getMethod ov "__init__" pl)
   callWith cpos f first (backTo cpos (starEach (e1::es) X.env)) (backToKw cpos (keywordEach [] X.env))):=by rfl) :
  PE X (.Call (.Attribute (.Name "ValueError" p) "__init__" ap) (e1::es) [] cpos) (tVI X.K fI t):=by
 intro bEX s σ H Q I h;refine PySem.W.methodCall_KW (pl:=pl) (nU I hg hm aUe ?_) ht;obtain⟨m,F⟩:=I.fr;refine PySem.W.method_type (T:="ValueError") (name:="__init__") (v:=.builtin "ValueError.__init__") F I.ok.mod.kin bAn aT7 (aUo X.K) aUq ?_;refine bD5 (thn (ha cpos bEX _ σ H _ (I.tok _) h) λus s1 ⟨vs,H1,I1,r,e,C,v,ev,he,c,q⟩=>?_) hst hpl;subst ev;cases r with
 |cons r0 r1=>
  cases r1 with
  |@cons _ u2 _ _ r2 r3=>
   cases r3;obtain rfl:=r0;obtain⟨ws,hg',hz,h1⟩:=XO.at I1.hok he;have h0:0<ws.size:=by lia
   refine aXn I1.kIn c hg' h0 (t8 h0) (by rw[sizeLine_eq,v5,bBZ];lia) ?_;refine⟨.non,H1,?_,rfl,q⟩;have I2:=I1.kept (h':=s1.heap.push { cls:=.type "tuple",data:=.seq [u2].toArray }) (t':=s1.toks) (λb u e=>j0 _ e);have hg2:=j0 (h:=s1.heap) { cls:=.type "tuple",data:=.seq [u2].toArray } hg';have hu:=bAX (Obj.mapFields (·.setIfInBounds 0 (Value.ref s1.heap.objs.size))) hg2 (bDB (bC8 rfl _));have W:=I2.write (x:=e) (e:=e) (o:=XO e C none) (t':=s1.toks) (by rw[he];trivial) (.inl rfl) (λb u nb q=>(bBG _ _ (Ne.symm nb)).trans q) ⟨_,hu⟩
    (XO.ok (vs:=ws.setIfInBounds 0 (.ref s1.heap.objs.size)) hu (by simp[hz]) (by rw[Array.getElem?_setIfInBounds_ne (by decide)];exact h1))
   rw[aZf he] at W;exact W
theorem aYd (ha:PE X o ta)(hv:PE X value tv)(hs:swapsWith value (some (.Attribute o "act" pos')) pos.line X.env=pure false:=by rfl):PS X (.Assign [.Attribute o "act" pos'] value pos) (aQh X.K fI ta tv):=by
 intro bEX s σ H D I h;refine plainObj_wpAny_Assign_Attribute (thn (hv bEX s σ H _ I h) λu s1 ⟨y,H1,I1,ry,q⟩=>thn (ha bEX s1 σ H1 _ I1 q) λov s2 ⟨x,H2,I2,rx,e,C,ey,ex,he,c,q2⟩=>?_) hs;subst ex ey;obtain rfl:=rx;obtain rfl:=ry;obtain⟨ws,hg',hz,h1⟩:=XO.at I2.hok he;have hdn:H2 s2.heap.objs.size=none:=I2.hok.fresh (j6 _);have hne:s2.heap.objs.size≠e:=bBY (m8 hg');refine aVp I2.kIn c hg' λh' t' k1 k2 k3=>⟨σ,_,?_,q2 _ hdn hne⟩;obtain⟨od,es,ep,hod,hdd,r⟩:=id k2;have I3:=I2.laid (a:=s2.heap.objs.size) (o:=xdA) (h':=s2.heap.push od) (t':=t') (λb u e=>j0 _ e) (j6 _)
  ⟨_,⟨od,es,ep,j5 _ (Heap.get?_some_iff.mp hod).2,hdd,r⟩,λf=>by
   by_cases e:f = "act"
   ·subst e;simp[mW,RelV]
   ·have n:(f == ("act":Str))=false:=by simpa using e
    simp[List.lookup,n,e,mW]⟩
 refine I3.write (x:=e) (e:=e) (o:=XO e C (some s2.heap.objs.size)) (h':=h') (t':=t') (by rw[aK (Ne.symm hne),he];trivial) (.inl rfl) (λb u nb q=>?_) ⟨_,k1⟩ (XO.ok k1 hz h1);by_cases eb:b=s2.heap.objs.size
 ·subst eb;rw[j5 _ (Heap.get?_some_iff.mp hod).2] at q;cases q;exact hod
 ·refine k3 b u nb ?_;obtain⟨q1,q2⟩:=Heap.get?_some_iff.mp q;refine Heap.get?_some_iff.mpr ⟨?_,q2⟩;rw[<-q1];generalize s2.heap=hh at eb ⊢;cases hh;simp only at eb;simp[Heap.push,Array.getElem?_push,eb]
end
def aBu (K:bET)(fI:Addr):Sp:=λvs H Q _=>∃e C,vs=[.ref e,.non]/\H e=some (XO e C none)/\XC K C fI/\∀dx,H dx=none->dx≠e->Q .non (upd (upd H dx xdA) e (XO e C (some dx)))
def aQm (C:Addr)(E:XK)(t:TA):TS:=λ_ σ H=>t σ H λvs H1=>vs=[.non]/\∀e dx,H1 e=none->H1 dx=none->dx≠e->E (.ref C) (some e) (upd H1 dx xdA)
section
variable {M:Model}{A:Around}{E:bEU}{env:Env}{K:bET}{C fI:Addr}
theorem aGj {s:Shared}{x:Sem Value}{Q:Flow->Shared->Prop}(c:XC K C fI)(hh:A.handled=none)
  (h:wpAny M A x (λv s₁=>∃e d vs,v=.ref e/\K.In s₁.heap/\s₁.heap.get? e=some { cls:=.ref C,dict:=d,data:=.fields vs }/\vs[1]?=some .none/\E (.ref e) s₁) E s) :
  wpAny M A (raiseStmt env (some x) none) Q E s:=by
 obtain⟨nm,q,N,bs,bm,sn,sub,ab,col,dd,k0,k1,k2,k3,k5,lk,hB,hA,hN,hE⟩:=c.at_;have hcB:(Value.ref C::bm).contains (.type "BaseException")=true:=by rw[bCH,hE,bEK]
 unfold raiseStmt;refine c7 (bBB h (λv s₁ h₁=>?_) λ_ _ x=>x);obtain⟨e,di,vs,rfl,X,he,h1,hE'⟩:=h₁;have hC:=X _ _ lk;obtain⟨hp,g,d,tk,os⟩:=s₁
 repeat (first|with_reducible refine bBU he ?_|with_reducible refine bBU hC ?_|(with_reducible refine bC1 hC ?_;rw[hcB])|with_reducible refine bAF he rfl h1 ?_|wp_step)
 exact wpAny_raiseNew_none hh hE'
end
section
variable {X:Cx}{CX:CXT}{k:Nat}{C fI:Addr}{fd:FuncData}{ps:List Str}{E:XK}{x:Str}{np cpos pos:Pos}{a:Expr}{t:TA}
theorem aUv {bEX:bEV}{σ:St}{H:Hp}{s:Shared}{Q:VK}{u:Value}(c:XC X.K C fI)(F:fQ X.prog X.w X.K X.mg X.base CX k fI fd ps (aBu X.K fI))(hr:Room (k+1) X.A)(hb:Binds X.K fd ps [])(hx:mO CX X E0)
  (I:Inv X bEX σ H s) (r:RelV .non u) (h:∀e dx,H e=none->H dx=none->dx≠e->Q (.ref e) (upd (upd H dx xdA) e (XO e C (some dx)))) :
  wpAny (model X.prog X.w) X.A (call (.ref C) [u]) (EP X bEX σ Q) X.xe s:=by
 obtain⟨hp,g,d,tk,os⟩:=s;refine x_call I.kIn c (λh' e mk ee ht=>?_) (by rw[sizeLine_eq,v5,bBZ];lia);obtain⟨t0,te,-,-⟩:=mk.there;have hen:H e=none:=I.hok.fresh (by rw[ee];exact bCU _);have I2:Inv X bEX σ (upd H e (XO e C none)) ⟨h',g,d,tk,os⟩:=I.laid (a:=e) (h':=h') (t':=tk) mk.keeps (by rw[ee];exact bCU _) (XO.ok te rfl rfl);have sp:aBu X.K fI [.ref e,.non] (upd H e (XO e C none)) (λv H2=>v=.non/\Q (.ref e) H2) E0:=by refine⟨e,C,rfl,aJ,c,λdx n ne=>⟨rfl,?_⟩⟩;rw[aK ne] at n;have q:=h e dx hen n ne;rw[aQ7 (Ne.symm ne),aNk];exact q
 have r2:Vals [V.ref e,V.non] [Value.ref e,u]:=.cons rfl (.cons r .nil);have hl:([Value.ref e,u]++[]).length=ps.length:=by have q:=F.len _ _ _ _ sp;rw[bBN];exact q
 have hb':=hb ⟨h',g,d,tk,os⟩ [Value.ref e,u] I2.kIn hl;rw[bBN] at hb';refine bCX (bBR (F.run _ X.stack _ _ ⟨[Value.ref e,u],[]⟩ [Value.ref e,u] _ _ E0 (hr.make C [u] []) (I2.env0.make C [u] []) hb' r2 sp) λr s' hq'=>?_);cases r with
 |error v=>exact hx bEX σ _ _ v s' I2 hq'
 |ok fl=>
  cases fl with
  |ret w=>obtain⟨v,H',I3,rv,ev,q3⟩:=I2.after hq';subst ev;exact⟨rv,⟨V.ref e,H',I3,rfl,q3⟩⟩
  |next=>exact False.elim hq'
  |brk=>exact False.elim hq'
  |cont=>exact False.elim hq'
theorem aR9 (c:XC X.K C fI)(F:fQ X.prog X.w X.K X.mg X.base CX k fI fd ps (aBu X.K fI))(hr:Room (k+1) X.A)(hb:Binds X.K fd ps [])(hx:mO CX X E0)(hR:Raises X E)(hc:X.calm=true)(hk:PySem.W.keepIn X.K (.ref C)=true)
  (hg:Gl X x) (hm:X.mg x=some (.ref C)) (ha:PA X [a] t) (hdb:(x == ("__debug__":Str))=false:=by decide) (he:starEach [a] X.env=(false,eval a X.env)::starEach [] X.env:=by rfl) :
  PS X (.Raise (some (.Call (.Name x np) [a] [] cpos)) none pos) (aQm C E t):=by
 intro bEX s σ H D I h;rw[arm_exec_Raise];refine c7 (bDL (aGj c (I.ok.hd hc) ?_));refine c7 (bBB (Q:=EP X bEX σ λv H'=>∃e dx H₁,v=.ref e/\H'=upd H₁ e (XO e C (some dx))/\H₁ e=none/\H₁ dx=some xdA/\E (.ref C) (some e) H₁) (E:=X.xe) ?_ (λv s1 ⟨y,H',I',ry,e,dx,H₁,ey,eH,n,nd,q⟩=>?_) λ_ _ z=>z)
 ·refine bBM (oV I hg hm ?_ hdb);refine PySem.W.callWith_K (h₀:=X.base) I.ok.mod.kin hk (thn (ha cpos bEX s σ H _ I h) λus s1 ⟨vs,H1,I1,r,ev,q⟩=>⟨I1.kIn,?_⟩) he rfl;subst ev;cases r with
  |cons r0 r1=>cases r1;exact aUv c F hr hb hx I1 r0 λe dx n1 n2 ne=>⟨e,dx,upd H1 dx xdA,rfl,rfl,by rw[aK (Ne.symm ne)];exact n1,aJ,q e dx n1 n2 ne⟩
 ·subst ey eH;obtain rfl:=ry;refine c7 (bDL (j4 ?_));obtain⟨vs,hg',hz,h1⟩:=XO.at (d:=some dx) I'.hok aJ;exact⟨e,_,vs,rfl,I'.kIn,hg',h1,hR bEX σ H₁ s1 e C dx I' n nd q⟩
end
section
variable {X:Cx}{bEX:bEV}{σ:St}{H:Hp}{s:Shared}{M:Model}{A:Around}{E:bEU}{i:Nat}{n:Str}{pos:Pos}{Q:Unit->Shared->Prop}
end
def aAx (X:Cx)(bEX:bEV)(σ₀:St)(E:XK):Cx:={ X with pn:=X.pn++bEX,xe:=λv s'=>∃e T dx C H₁,v=.ref e/\Inv X bEX σ₀ (up2 H₁ e T C dx) s'/\H₁ e=none/\H₁ T=none/\T≠e/\H₁ dx=some xdA/\E (.ref C) (some e) H₁ }
def xD (X:Cx)(e:Addr):Cx:={ X with A:=X.A.mark (some (.ref e)),calm:=false,xe:=λ_ _=>False }
section
variable {X:Cx}{bEX:bEV}{σ σ₀:St}{H:Hp}{s:Shared}{E:XK}{e:Addr}
theorem aX6 (ok:X.Ok):(aAx X bEX σ₀ E).Ok:=⟨ok.mod,ok.kind,ok.glob,ok.blt,ok.above,ok.inj,ok.has,ok.cab,ok.hd,ok.frames,ok.stk,ok.exf,ok.bs,ok.bsz,ok.noex,ok.exfs,ok.funs,ok.frf⟩
theorem aVn (ok:X.Ok):(xD X e).Ok:=⟨ok.mod,ok.kind,ok.glob,ok.blt,ok.above,ok.inj,ok.has,ok.cab,(λz=>nomatch z),ok.frames,ok.stk,ok.exf,ok.bs,ok.bsz,ok.noex,ok.exfs,ok.funs,ok.frf⟩
theorem Inv.aZv (I:Inv X bEX σ H s):Inv (aAx X bEX σ₀ E) [] σ H s:=⟨aX6 I.ok,I.os,I.bare,I.base,I.loc,I.cell,I.free,I.freeC,λp hp=>I.pin p (by rw[bBN] at hp;exact hp),I.hok,I.len⟩
theorem Inv.aIp {pins':bEV}(ok:X.Ok)(I:Inv (aAx X bEX σ₀ E) pins' σ H s):Inv X bEX σ H s:=⟨ok,I.os,I.bare,I.base,I.loc,I.cell,I.free,I.freeC,λp hp=>I.pin p (bBL _ hp),I.hok,I.len⟩
theorem Inv.aS3 (I:Inv X bEX σ H s):Inv (xD X e) bEX σ H s:=⟨aVn I.ok,I.os,I.bare,I.base,I.loc,I.cell,I.free,I.freeC,I.pin,I.hok,I.len⟩
theorem Inv.aE6 (ok:X.Ok)(I:Inv (xD X e) bEX σ H s):Inv X bEX σ H s:=⟨ok,I.os,I.bare,I.base,I.loc,I.cell,I.free,I.freeC,I.pin,I.hok,I.len⟩
end
section
variable {X:Cx}{bEX₀:bEV}{σ₀:St}{k:Nat}{f:Addr}{fd:FuncData}{ps:List Str}{sp:Sp}{dvs:List V}{ds:List Value}{E:XK}{x:Str}{p pos:Pos}{e:Expr}{es:List Expr}{t:TA}
end
structure XS (K:bET)(S:Addr):Prop where
 ty:PySem.W.typeIn K (.ref S)=some (.type "type")
 cls:(PySem.W.clsIn K S).isSome=true
 base:PySem.W.mroIn K S (.type "BaseException")=some true
theorem aOx {M:Model}{A:Around}{E:bEU}{s:Shared}{K:bET}{S C e:Addr}{oe:Obj}{Q:Bool->Shared->Prop}(X:K.In s.heap)(hS:XS K S)(he:s.heap.get? e=some oe)(hc:oe.cls=.ref C)(hm:PySem.W.mroIn K C (.ref S)=some true)
  (hq:Q true s):wpAny M A (excMatches (.ref e) (.ref S)) Q E s:=by
 obtain⟨h,g,d,t,os⟩:=s;have T:PySem.W.Looks M h (typeOf (.ref S)) (.type "type"):=PySem.W.looks_typeIn X hS.ty;have T0:PySem.W.Looks M h (isInstance (.ref S) (.type "tuple")) false:=T.andThen (PySem.W.Looks.of_pure tc_notTuple);have Ti:PySem.W.Looks M h (isType (.ref S)) true:=by
  obtain⟨cd,q⟩:=Option.isSome_iff_exists.mp hS.cls;unfold PySem.W.clsIn at q
  split at q
  ·rename_i ho;exact (PySem.W.Looks.ld (X _ _ ho)).andThen .now
  ·cases q
 have Te:PySem.W.Looks M h (typeOf (.ref e)) (.ref C):=hc ▸ (PySem.W.Looks.ld he).andThen .now;have L1:=PySem.W.looks_mroIn (M:=M) X hS.base;have L2:=PySem.W.looks_mroIn (M:=M) X hm;have LE:PySem.W.Looks M h (isExcClass (.ref S)) true:=Ti.andThen L1;unfold excMatches;refine c7 (T0.at ?_);rw[if_neg (by decide)];refine c7 (j4 (a:=[Value.ref S]) ?_);simp only[bCM,bDG];refine c7 (c7 (c7 (LE.at ?_)));simp only[Bool.not_true,bBE,if_false];refine j4 (j4 (c7 (Te.at (c7 (c7 (c7 (L2.at ?_)))))));simp only[if_true];exact j4 (j4 (j4 hq))
section
variable {X:Cx}{S:Addr}{i:Nat}{x n:Str}{np hpos pos:Pos}{body suite:List Stmt}{b₀:Stmt}{tb:St->XK->TS}{th:TS}
end
section
variable {X:Cx}{o:Expr}{pos:Pos}{ta:TE}
end
section
variable {P:Program}{w:World}{K:bET}{mg:bEW}{base:Heap}
theorem fQ.calm {k:Nat}{f:Addr}{fd:FuncData}{ps:List Str}{sp sp':Sp}(F:fQ P w K mg base (CXR P w) k f fd ps sp)(h:∀vs H Q E,sp' vs H Q E->sp vs H Q E0):fQ P w K mg base CX0 k f fd ps sp':=
 ⟨λvs H Q E q=>F.len vs H Q E0 (h _ _ _ _ q),λA outer s H args us vs Q E hr he hb hv hs=>bBR (F.run A outer s H args us vs Q E0 hr he hb hv (h _ _ _ _ hs)) λr s' hq=>by
  cases r with
  |error v=>obtain⟨_,_,_,_,_,_,_,_,_,_,_,_,_,_,z⟩:=hq;exact z.elim
  |ok fl=>cases fl <;> exact hq⟩
structure ExT (K:bET)(mg:bEW)(st:Stmt)(x y:Str)(C S:Addr):Prop where
 at_:∃fI fd,XC K C fI/\Fun K "__init__" y st fI fd/\Binds K fd ["self","act"] []
 mg:mg x=some (.ref C)
 kp:PySem.W.keepIn K (.ref C)=true
 cls:XS K C
 over:PySem.W.mroIn K C (.ref S)=some true
theorem aTy {k:Nat}{y:Str}{st:Stmt}{fI:Addr}{fd:FuncData}(F:Fun K "__init__" y st fI fd)(Sc:aM ["self","act"] ["self","act"] (aF st))
  (hb:∀(X:Cx),X.N=(["self","act"]:List Str)->X.env.scope=aF st->X.mg=mg->VSs X (cX st) (aBx (aMn (tVI X.K fI (dR (vZ 0) (dR (vZ 1) aAr)))) (aQh X.K fI (vZ 0) (vZ 1)))) :
  fQ P w K mg base CX0 (k+1) fI fd ["self","act"] (aBu K fI):=by
 refine F.okV Sc (λvs H Q E ⟨e,C,z,_⟩=>by rw[z];rfl) λcdv A outer s H vs Q E hr ⟨e,C,ev,he,c,q⟩=>⟨_,hb _ rfl rfl rfl,?_⟩;subst ev;refine⟨_,rfl,_,rfl,e,C,.non,rfl,he,c,?_⟩;exact⟨_,rfl,_,rfl,e,C,rfl,rfl,he,c,λdx n ne=>q dx n ne⟩
end
section
variable {X:Cx}{k j:Nat}{C S:Addr}{E:XK}{x y:Str}{np cpos pos:Pos}{a:Expr}{t:TA}{st:Stmt}
theorem aQk (hT:ExT X.K X.mg st x y C S)(hI:∀fI fd,Fun X.K "__init__" y st fI fd->fQ X.prog X.w X.K X.mg X.base CX0 k fI fd ["self","act"] (aBu X.K fI))(hr:Room (k+1) X.A)(hR:Raises X E)(hc:X.calm=true)
  (hg:Gl X x) (ha:VA X [a] t) (hdb:(x == ("__debug__":Str))=false:=by decide) (hp:cP a=true:=by rfl) :
  VS X (.Raise (some (.Call (.Name x np) [a] [] cpos)) none pos) (aQm C E t):=by
 obtain⟨⟨fI,fd,c,F,B⟩,m,kp,_,_⟩:=hT;exact⟨aR9 c (hI fI fd F) hr B aA2 hR hc kp hg m ha.1 hdb (aP (es:=[]) hp)⟩
end
section
variable {P:Program}{w:World}{K:bET}{mg:bEW}{base:Heap}
def yV (P:Program)(w:World)(K:bET)(mg:bEW)(base:Heap)(C:Addr)(k:Nat)(m:Str)(ps:List Str)(sp:Sp):Prop:=
 ∃f fd,Cls K C/\Meth K C m f/\Binds K fd ps []/\fQ P w K mg base (CXR P w) k f fd ps sp
theorem yV.mono {C:Addr}{j k:Nat}{m:Str}{ps:List Str}{sp:Sp}(h:yV P w K mg base C j m ps sp)(hj:j<=k):yV P w K mg base C k m ps sp:=by obtain⟨f,fd,h1,h2,h3,h4⟩:=h;exact⟨f,fd,h1,h2,h3,h4.mono hj⟩
theorem yV.ofV {C:Addr}{m qual:Str}{st:Stmt}{N ps:List Str}{k:Nat}{sp:Sp}(c:Cls K C)(D:kO K C m qual st ps)(S:aM N ps (aF st))(len:∀vs H Q E,sp vs H Q E->vs.length=ps.length)
  (hbody:∀(f:Addr) (cdv:Value) (A:Around) (outer:List Env) (s:Shared) (H:Hp) (vs:List V) (Q:VK) (E:XK),Room k (A.deeper (envOfC qual (aF st) s.heap.objs.size f cdv))->sp vs H Q E ->
   ∃t,VSs (vW (CXR P w) P w K mg base N qual (aF st) f cdv A outer s H E) (cX st) t/\t { nx:=λ_ H'=>Q .non H',rt:=Q } (start N vs) H):yV P w K mg base C (k+1) m ps sp:=by
 obtain⟨f,fd,hm,F,B⟩:=D;obtain⟨oc,od,kV,doc,pm,an,cdv,ct,osl,rfl,lk,hcd⟩:=F.ex;exact⟨f,_,c,hm,B,aRh lk hcd S len λA outer s H vs Q E hr hsp=>let ⟨t,h1,h2⟩:=hbody f cdv A outer s H vs Q E hr hsp;⟨t,h1.1,h2⟩⟩
theorem yV.calm {C:Addr}{k:Nat}{m:Str}{ps:List Str}{sp sp':Sp}(G:yV P w K mg base C k m ps sp)(h:∀vs H Q E,sp' vs H Q E->sp vs H Q E0):OkM P w K mg base C k m ps sp':=by obtain⟨f,fd,h1,h2,h3,h4⟩:=G;exact⟨f,fd,h1,h2,h3,h4.calm h⟩
end
def aVg (σ₀:St)(C:Addr)(m:Str)(sp:Sp)(E:XK)(ta:TE)(t:TA):TE:=fun σ H Q=>σ=σ₀/\ta σ H λx H1=>∃a dx fs,x=.ref a/\H1 a=some (.ins C dx fs)/\fs.lookup m=none/\t σ H1 λvs H2=>sp (x::vs) H2 Q E
section
variable {X:Cx}{bEX₀:bEV}{σ₀:St}{k:Nat}{C:Addr}{ps:List Str}{sp:Sp}{E:XK}{m:Str}{apos pos:Pos}{o e:Expr}{es:List Expr}{ta:TE}{t:TA}
theorem aOu {pl:Sem Bool}(ok:X.Ok)(G:yV X.prog X.w X.K X.mg X.base C k m ps sp)(hr:Room k X.A)(he:VE (aAx X bEX₀ σ₀ E) o ta)(ha:VA (aAx X bEX₀ σ₀ E) (e::es) t)
  (hp:cP e=true:=by rfl) (hpl:(backTo pos (starEach es X.env)).any (·.1)=false:=by rfl)
  (ht:eval (.Call (.Attribute o m apos) (e::es) [] pos) X.env=(do
   let ov <-eval o X.env
   standAt apos.atName
   let (f,first) <-holding [ov] (getMethod ov m pl)
   callWith pos f first (backTo pos (starEach (e::es) X.env)) (backToKw pos (keywordEach [] X.env))):=by rfl):VE (aAx X bEX₀ σ₀ E) (.Call (.Attribute o m apos) (e::es) [] pos) (aVg σ₀ C m sp E ta t):=by
 obtain⟨f,fd,c,hm,hb,F⟩:=G;refine⟨?_⟩;rintro bEX s σ H Q I ⟨rfl,h⟩;refine PySem.W.methodCall_KW (pl:=pl) (thn (he.1 bEX s σ H _ I h) λu s1 ⟨x,H1,I1,rx,a,dx,fs,ex,ea,l,q⟩=>?_) ht;subst ex;obtain rfl:u=Value.ref a:=rx;refine uK I1 ea c hm l ?_;refine PySem.W.callWith_K (first:=[.ref a]) (h₀:=X.base) I.ok.mod.kin hm.kp (thn (ha.1 pos bEX s1 σ H1 _ I1 q) λus s2 ⟨vs,H2,I2,r,q2⟩=>⟨I2.kIn,?_⟩) (aP hp) hpl;have r2:Vals (.ref a::vs) (.ref a::us):=.cons rfl r;have hl:(Value.ref a::us).length=ps.length:=by rw[<-r2.length];exact F.len _ _ _ _ q2
 have hb2:=hb s2 (Value.ref a::us) I2.kIn (by rw[bBN];exact hl);rw[bBN] at hb2;refine bCX (bBR (F.run X.A X.stack s2 H2 ⟨.ref a::us,[]⟩ (.ref a::us) (.ref a::vs) Q E hr I2.env0 hb2 r2 q2) λr s' hq=>?_);cases r with
 |error v=>obtain⟨a,T,dx,C,H₁,rfl,os,bare,n,nT,hTe,hd',un,hok,q'⟩:=hq;exact⟨a,T,dx,C,H₁,rfl,(Inv.aIp ok I2).call' (s':=s') (ch:=[]) os un hok bare (λb z=>absurd z (by simp)),n,nT,hTe,hd',q'⟩
 |ok fl=>
  cases fl with
  |ret u=>exact I2.after hq
  |next=>exact False.elim hq
  |brk=>exact False.elim hq
  |cont=>exact False.elim hq
end
def exN (K:bET)(S:Addr)(th:TS)(D:Ends)(σ:St):XK:=λv o H₁=>∃C e fI,v=.ref C/\o=some e/\XC K C fI/\PySem.W.mroIn K C (.ref S)=some true /\
 ∀T dx,H₁ e=none->H₁ T=none->T≠e->H₁ dx=some xdA->th D σ (up2 H₁ e T C dx)
def bAw (K:bET)(S:Addr)(tb:St->XK->TS)(th:TS):TS:=λD σ H=>tb σ (exN K S th D σ) D σ H
section
variable {X:Cx}{S:Addr}{x:Str}{np hpos pos:Pos}{body suite:List Stmt}{b₀:Stmt}{tb:St->XK->TS}{th:TS}
theorem aVm (hst:X.stack=X.env::X.outer)(hfrm:X.env.frame=some X.env.locals)
  (hg:Gl X x) (hm:X.mg x=some (.ref S)) (hS:XS X.K S) (hb:∀bEX σ₀ E,X.Ok->VSs (aAx X bEX σ₀ E) body (tb σ₀ E)) (hh:∀e,VSs (xD X e) (b₀::suite) th) (hdb:(x == ("__debug__":Str))=false:=by decide) :
  VS X (.Try body [.ExceptHandler (some (.Name x np)) none (b₀::suite) hpos] [] [] pos) (bAw X.K S tb th):=⟨by
 intro bEX s σ H D I h;refine wpAny_Try_except (bBB ((hb bEX σ (exN X.K S th D σ) I.ok).1 [] s σ H D I.aZv h) (λf s1 h1=>?_) λv s1 h1=>?_)
 ·cases f with
  |next=>obtain⟨σ',H',I',q⟩:=h1;exact bEE ⟨σ',H',Inv.aIp I.ok I',q⟩
  |brk=>obtain⟨σ',H',I',q⟩:=h1;exact⟨σ',H',Inv.aIp I.ok I',q⟩
  |cont=>obtain⟨σ',H',I',q⟩:=h1;exact⟨σ',H',Inv.aIp I.ok I',q⟩
  |ret u=>obtain⟨v,σ',H',I',r,q⟩:=h1;exact⟨v,σ',H',Inv.aIp I.ok I',r,q⟩
 ·obtain⟨e,T,dx,C,H₁,rfl,I1,n1,nT,hTe,hd,C',e',fI,eC,ee,c,hmr,q⟩:=h1;cases eC;cases ee;refine aOf I1 hst hfrm n1 nT hTe λT' s1' I1' nT' hTe'=>tL I1' hTe' λs2 I2=>?_;have I2h:Inv (xD X e) bEX σ (up2 H₁ e T' C dx) s2:=I2.aS3;refine wpAny_handleBy_cons (codeAny_handlers_test ?_) (by intro q;cases q);refine oV (X:=xD X e) I2h hg hm ?_ hdb;have e1:up2 H₁ e T' C dx e=some (aKu e T' C dx):=aJ;obtain⟨vs,hge,hz,hv1⟩:=(I2.hok e _ e1).1;refine aOx I2.kIn hS hge rfl hmr ?_;rw[if_pos rfl];refine codeAny_handlers_suite ?_;refine tL I2 hTe' λs2' I3=>?_;refine bBB ((hh e).1 bEX s2' _ _ _ I3.aS3 (q T' dx n1 nT' hTe' hd)) (λf s4 h4=>?_) λ_ _ z=>z.elim;cases f with
  |next=>obtain⟨σ',H',I',q'⟩:=h4;exact⟨σ',H',Inv.aE6 I.ok I',q'⟩
  |brk=>obtain⟨σ',H',I',q'⟩:=h4;exact⟨σ',H',Inv.aE6 I.ok I',q'⟩
  |cont=>obtain⟨σ',H',I',q'⟩:=h4;exact⟨σ',H',Inv.aE6 I.ok I',q'⟩
  |ret u=>obtain⟨v,σ',H',I',r,q'⟩:=h4;exact⟨v,σ',H',Inv.aE6 I.ok I',r,q'⟩⟩
end
section
variable {X:Cx}
def bBf (K:bET):List V->Hp->VK->Prop:=λxs H Q=>∃(p:Addr) (bs:List Bool),xs=[.ref p]/\SqL K H p (bs.map V.bl)/\Q (.bl (bs.any id)) H
theorem any_range (bs:List Bool):(List.range bs.length).any (λi=>bs.getD i false)=bs.any id:=by
 rw[bCL,bDJ,bDJ];constructor
 ·rintro⟨i,hi,h⟩;have hi:=List.mem_range.mp hi;rw[j7,d9 hi] at h;exact⟨_,bAR hi,h⟩
 ·rintro⟨b,hb,h⟩;obtain⟨i,hi,e⟩:=List.mem_iff_getElem.mp hb;refine⟨i,List.mem_range.mpr hi,?_⟩;rw[j7,d9 hi];show bs[i]=true;rw[e];exact h
theorem aQt (hc:X.calm=true):cD X (.builtin "any") (bBf X.K):=by
 intro bEX s σ H xs us Q I r h;obtain⟨p,bs,rfl,hq,q⟩:=h;obtain⟨u,rfl,rx⟩:=r.one;cases rx;obtain⟨its,rv,pl,hz⟩:=I.list hq;have hl:=rv.length;rw[j9] at hl;have hne:p≠s.heap.objs.size:=by obtain⟨o,ho,_⟩:=pl.isList;exact t7 (m8 ho)
 refine call_any_walk (bB5 pl.isList ?_);refine⟨s.heap.objs.size,_,_,_,_,_,λi=>bs.getD i false,rfl,Walks.list (show X.A.in1.handled=none from I.ok.hd hc) _ p hne its.toArray,⟨⟨_,j5 _ rfl,rfl,rfl⟩,?_⟩,?_,λh' tk kp=>?_⟩
 ·exact pl.isList.at λo e=>j0 _ e
 ·intro i v s' Q' E' hv hq';have hv':its[i]?=some v:=by simpa using hv
  have hi:i<bs.length:=by rw[hl];exact (List.getElem?_eq_some_iff.mp hv').1
  obtain⟨u,hu,ru⟩:=rv.get (i:=i) (x:=.bl bs[i]) (by rw[v4,d9 hi];rfl);rw[hv'] at hu;cases hu;cases ru;have e:bs.getD i false=bs[i]:=by rw[j7,d9 hi];rfl
  replace hq':Q' (bs.getD i false) s':=hq';rw[e] at hq';exact bBK hq'
 ·have e:(List.range its.toArray.size).any (λi=>bs.getD i false)=bs.any id:=by rw[m7,<-hl];exact any_range bs
  rw[e];refine⟨.bl (bs.any id),H,?_,rfl,q⟩;exact I.kept λb o eo=>kp b o (by
   intro z;have:b=s.heap.objs.size:=by simpa using z
   rw[this] at eo;exact absurd (m8 eo) (bBO _)) (j0 _ eo)
def aYx:List V->Hp->VK->Prop:=λxs H Q=>∃z:Str,xs=[.str z]/\z.length<=1000/\∀l H',H l=none->Same H H'->H' l=some (.lst ((List.range z.cps.size).map λi=>V.str (sgn z i)))->Q (.ref l) H'
theorem aAg (z:Str):∀(n k:Nat) (vs:List Value),vs.length=n->(∀(j:Nat) (v:Value),vs[j]?=some v->∃t,v=.str (sgn z (k+j)) t)->Vals ((List.range' k n).map λi=>V.str (sgn z i)) vs
 |0,k,[],_,_=>.nil
 |n+1,k,v::vs,hl,h=>by obtain⟨t,rfl⟩:=h 0 v rfl;rw[List.range'_succ,bAM];refine .cons ⟨t,rfl⟩ (aAg z n (k+1) vs (by simpa using hl) λj u e=>?_);obtain⟨t',e'⟩:=h (j+1) u e;exact⟨t',by rw[e',show k+(j+1)=k+1+j by lia]⟩
theorem aKa (hc:X.calm=true):cD X (.type "list") aYx:=by
 intro bEX s σ H xs us Q I r h;obtain⟨z,rfl,hl,q⟩:=h;obtain⟨u,rfl,t,rfl⟩:=vals1 r;refine call_list_str (I.ok.hd hc) z t (λh' tk acc' c' kp hS hacc=>?_) (small hl);have hv:=aAg z z.cps.size 0 acc'.toList (by rw[bAA];exact hacc.1) λj v e=>by have hj:=hacc.2 j v (by rw[<-bBI];exact e);obtain⟨c,t',e1,e2⟩:=hj;refine⟨t',?_⟩;rw[e2];unfold sgn;rw[bC7,v7,e1];rfl
 rw[<-List.range_eq_range'] at hv;have ea:acc'.toList.toArray=acc':=by simp
 have hf:H s.heap.objs.size=none:=I.hok.fresh (j6 _);refine⟨.ref s.heap.objs.size,_,I.laid (t':=tk) (o:=.lst ((List.range z.cps.size).map λi=>V.str (sgn z i))) kp (j6 _) ?_,rfl,q _ _ hf (aV hf _) aJ⟩;refine⟨by rw[j9,bAN];exact small hl,acc'.toList,c',hv,?_⟩;rw[ea];exact hS
end
theorem aKr {X:Cx}{K:bET}(h:X.K=K:=by rfl):OpR X (compareOp .In) (rIn K false):=by subst h;exact xO
structure aYm (E:Hp->Hp->Prop)(H:Hp):Prop where
 new:∀D o,H D=none->E H (upd H D o)
 trans:∀{H1 H2},E H H1->E H1 H2->E H H2
 upd:∀D o H',H D=none->E H H'->E H (upd H' D o)
 keep:∀D H1 H2 xs,H D=none->E H H1->H1 D=some (.lst xs)->E H1 H2->H2 D=some (.lst xs)
theorem aN0 (H:Hp):aYm Same H:=⟨λD o h=>aV h o,λa b=>a.trans b,λD o H' h s=>iQ h s,λD H1 H2 xs _ _ h s=>s _ _ h⟩
def vA (J:It)(H1:Hp)(σ0:L2.St)(g:TG)(tt:TT)(te:TE)(Q:VK):Prop:=∀D,H1 D=none->∃W:Nat->Nat->L2.St->Hp->List V->Prop,(∃m,W 0 m σ0 (L2.upd H1 D (.lst [])) []) /\
 ∀i m σ' H' ys,W i m σ' H' ys->H' D=some (.lst ys)/\((J.stop i H'/\Q (.ref D) H')\/(J.go i H'/\∀x H2,J.yld i H' x H2->g x σ' H2 fun σ3 H3=>tt σ3 H3 λb H4=>
  if b=true then te σ3 H4 λy H5=>H5 D=some (.lst ys)/\ys.length<sizeLine/\∃m',m'<m/\W (i+1) m' σ3 (L2.upd H5 D (.lst (ys++[y]))) (ys++[y]) else H4 D=some (.lst ys)/\∃m',m'<m/\W (i+1) m' σ3 H4 ys))
section
variable {X:Cx}{K:bET}{scope:Scope}{N:List Str}{tl te:TE}{tt:TT}{g:TG}{σ:L2.St}{H:Hp}{Q:VK}
theorem aGi (σ0:L2.St)(cap:Cap X scope N σ σ0)(h:tl σ H λv H1=>∃a,v=.ref a/\(∃xs,SqL K H1 a xs)/\vA (Itl K a) H1 σ0 g tt te Q):jU X scope N (aGl K tl) g tt te σ H Q:=⟨σ0,cap,h⟩
theorem uZ (σ0:L2.St)(cap:Cap X scope N σ σ0)(h:tl σ H λv H1=>∃a,v=.ref a/\(∃xs,SqT K H1 a xs)/\vA (Itt K a) H1 σ0 g tt te Q):jU X scope N (aUy K tl) g tt te σ H Q:=⟨σ0,cap,h⟩
theorem aEw {a:Addr}{xs:List V}{E:Hp->Hp->Prop}(hS:∀H',E H H'->SqT K H' a xs):∀H' i x,E H H'->xs[i]?=some x->(Itt K a).go i H'/\∀y H2,(Itt K a).yld i H' y H2->H2=H'/\y=x:=λH' i x s e=>
 ⟨⟨xs,x,hS H' s,e⟩,λy H2 hy=>by obtain⟨e1,e2⟩:=hy;have e3:=e2 xs (hS H' s);rw[e] at e3;cases e3;exact⟨e1,rfl⟩⟩
theorem vJ {a:Addr}{xs:List V}{E:Hp->Hp->Prop}(hS:∀H',E H H'->SqT K H' a xs):∀H',E H H'->(Itt K a).stop xs.length H':=λH' s=>⟨xs,hS H' s,j6 _⟩
inductive rZ (R:Nat->V->Prop):List Nat->List V->Prop
 |nil:rZ R [] []
 |cons {i y is ys}:R i y->rZ R is ys->rZ R (i::is) (y::ys)
theorem rZ.snoc {R:Nat->V->Prop}{is:List Nat}{ys:List V}{i:Nat}{y:V}(h:rZ R is ys)(r:R i y):rZ R (is++[i]) (ys++[y]):=by
 induction h with
 |nil=>exact .cons r .nil
 |cons r' _ ih=>exact .cons r' ih
theorem rZ.imp {R S:Nat->V->Prop}{is:List Nat}{ys:List V}(h:rZ R is ys)(k:∀i y,R i y->S i y):rZ S is ys:=by
 induction h with
 |nil=>exact .nil
 |cons r _ ih=>exact .cons (k _ _ r) ih
theorem rZ.len {R:Nat->V->Prop}{is:List Nat}{ys:List V}(h:rZ R is ys):is.length=ys.length:=by
 induction h with
 |nil=>rfl
 |cons _ _ ih=>rw[v5,v5,ih]
theorem aHq {σ0:L2.St}(E:Hp->Hp->Prop)(eo:aYm E H)(xs:List V)(p:Nat->Bool)(Rel:Nat->Hp->V->Prop)
  (st:∀{i H1 H2 y},E H H1->E H1 H2->Rel i H1 y->Rel i H2 y) (su:∀{i H1 D ys zs y},H D=none->E H H1->H1 D=some (.lst ys)->Rel i H1 y->Rel i (L2.upd H1 D (.lst zs)) y)
  (At:Nat->L2.St->Prop) (Ps:L2.St->Prop) (h0:Ps σ0) (hsz:xs.length<=sizeLine)
  (J:It) (go:∀H' i x,E H H'->xs[i]?=some x->J.go i H'/\∀y H2,J.yld i H' y H2->H2=H'/\y=x) (stop:∀H',E H H'->J.stop xs.length H')
  (hg:∀(i:Nat) (x:V) σ' H' Q',xs[i]?=some x->Ps σ'->E H H'->(∀σ2,Ps σ2->At i σ2->Q' σ2 H')->g x σ' H' Q')
  (ht:∀(i:Nat) (x:V) σ2,xs[i]?=some x->At i σ2->∀H' R,E H H'->(∀H2,E H' H2->R (p i) H2)->tt σ2 H' R)
  (he:∀(i:Nat) (x:V) σ2,xs[i]?=some x->At i σ2->p i=true->∀H' R,E H H'->(∀y H2,E H' H2->Rel i H2 y->R y H2)->te σ2 H' R)
  (q:∀D H' ys,E H H'->H D=none->H' D=some (.lst ys)->rZ (λi y=>Rel i H' y) (sel p 0 (List.range xs.length)) ys->Q (.ref D) H'):vA J H σ0 g tt te Q:=by
 intro D hD;refine⟨λi m σ' H' ys=>i<=xs.length/\m=xs.length - i/\Ps σ'/\E H H'/\H' D=some (.lst ys)/\rZ (λi y=>Rel i H' y) (sel p 0 (List.range i)) ys,⟨xs.length,bAJ _,rfl,h0,eo.new _ _ hD,aJ,.nil⟩,?_⟩;rintro i m σ' H' ys ⟨hi,rfl,hps,sm,hL,hR⟩;refine⟨hL,?_⟩;by_cases hlt:i<xs.length
 ·right;have hx:=d9 hlt;obtain⟨g1,g2⟩:=go H' i xs[i] sm hx;refine⟨g1,λx H2 hy=>?_⟩;obtain⟨rfl,rfl⟩:=g2 x H2 hy;have tk:sel p 0 (List.range (i+1))=sel p 0 (List.range i)++(if p i then [i] else []):=by rw[List.range_succ,aBm,bAN,bC7]
  have lR:=hR.len;have lS:=aF7 p 0 (List.range i);rw[bAN] at lS;refine hg i xs[i] σ' _ _ hx hps sm fun σ2 hp2 hat=>?_;refine ht i xs[i] σ2 hx hat _ _ sm λH3 s3=>?_;have sm3:=eo.trans sm s3;have hL3:=eo.keep D _ _ _ hD sm hL s3;cases hp:p i with
  |true=>rw[if_pos rfl];refine he i xs[i] σ2 hx hat hp _ _ sm3 λy H4 s4 r4=>?_;have sm4:=eo.trans sm3 s4;have hL4:=eo.keep D _ _ _ hD sm3 hL3 s4;refine⟨hL4,by lia,xs.length - (i+1),by lia,hlt,rfl,hp2,eo.upd D _ _ hD sm4,aJ,?_⟩;rw[tk,hp];exact rZ.snoc (hR.imp λj z r=>su hD sm4 hL4 (st sm3 s4 (st sm s3 r))) (su hD sm4 hL4 r4)
  |false=>rw[if_neg (by simp)];refine⟨hL3,xs.length - (i+1),by lia,hlt,rfl,hp2,sm3,hL3,?_⟩;rw[tk,hp];simp only[bBE,if_false,bBN];exact hR.imp λj z r=>st sm s3 r
 ·left;have e:i=xs.length:=by lia
  subst e;exact⟨stop _ sm,q D _ ys sm hD hL hR⟩
end
def At1 (σ0:L2.St)(v:V)(σ:L2.St):Prop:=∃l,σ=(σ0.set 0 l).set 0 (some v)
def Ps1 (σ0:L2.St)(σ:L2.St):Prop:=∃l,σ=σ0.set 0 l
def At2 (σ0:L2.St)(a b:V)(σ:L2.St):Prop:=σ=(σ0.set 0 (some a)).set 1 (some b)
def Ps2 (σ0:L2.St)(σ:L2.St):Prop:=∃l m,σ=(σ0.set 0 l).set 1 m
theorem hg1 {σ0:L2.St}{i:Nat}{x:V}{σ':L2.St}{H':Hp}{Q':L2.St->Hp->Prop}(h:Ps1 σ0 σ')(q:∀σ2,Ps1 σ0 σ2->At1 σ0 x σ2->Q' σ2 H'):cO 0 x σ' H' Q':=by obtain⟨l,rfl⟩:=h;exact q _ ⟨some x,by rw[bB8]⟩ ⟨l,rfl⟩
theorem hg2 {K:bET}{σ0:L2.St}{p:Addr}{a b:V}{σ':L2.St}{H':Hp}{Q':L2.St->Hp->Prop}(hp:SqT K H' p [a,b])(h:Ps2 σ0 σ')(q:∀σ2,Ps2 σ0 σ2->At2 σ0 a b σ2->Q' σ2 H'):aL6 K 2 (sV (cO 0) (sV (cO 1) aPz)) (.ref p) σ' H' Q':=by
 obtain⟨l,m,rfl⟩:=h;have e:(((σ0.set 0 l).set 1 m).set 0 (some a)).set 1 (some b)=(σ0.set 0 (some a)).set 1 (some b):=by rw[List.set_comm _ _ (show (1:Nat)≠0 by decide),bB8,bB8]
 refine⟨p,_,rfl,hp,rfl,_,_,rfl,_,_,rfl,rfl,?_⟩;show Q' ((((σ0.set 0 l).set 1 m).set 0 (some a)).set 1 (some b)) H';rw[e];exact q _ ⟨some a,some b,rfl⟩ rfl
theorem aM7 (xs:List V)(n:Nat):qI xs none (some (n:Int))=xs.take n:=by
 unfold qI;rw[HT.aIn,HT.aMt,List.drop_zero,Nat.sub_zero];by_cases h:n<=xs.length
 ·rw[Nat.min_eq_left h]
 ·rw[Nat.min_eq_right (by lia),bCG,bAY (by lia)]
theorem wM (xs:List V)(n:Nat):qI xs (some (n:Int)) none=xs.drop n:=by
 unfold qI;rw[HT.aIn,HT.aMt];by_cases h:n<=xs.length
 ·rw[Nat.min_eq_left h];exact bAY (by rw[bB2];lia)
 ·rw[Nat.min_eq_right (by lia),List.drop_length,List.drop_of_length_le (by lia),List.take_nil]
def bAb (K:bET):V->Option Int->Option Int->Hp->VK->Prop:=λx lo hi H Q=>∃a xs,x=.ref a/\SqL K H a xs/\∀p H',H p=none->Same H H'->H' p=some (.lst (qI xs lo hi))->Q (.ref p) H'
theorem aIb {X:Cx}:SlR X (bAb X.K):=λbEX s σ H x v vl vu lo hi sl Q I rx hs pl pu ⟨a,xs,e,ha,q⟩=>
 aUd bEX s σ H x v vl vu lo hi sl Q I rx hs pl pu ⟨a,xs,e,ha,λp hp=>q p _ hp (aV hp _) aJ⟩
end L2
namespace L2
open PySem PySem.Spec PyProof.Rows
inductive Al2 {α β:Type}(R:α->β->Prop):List α->List β->Prop
 |nil:Al2 R [] []
 |cons {a b as bs}:R a b->Al2 R as bs->Al2 R (a::as) (b::bs)
theorem Al2.len {α β:Type}{R:α->β->Prop}{as:List α}{bs:List β}(h:Al2 R as bs):as.length=bs.length:=by
 induction h with
 |nil=>rfl
 |cons _ _ ih=>rw[v5,v5,ih]
theorem Al2.at {α β:Type}{R:α->β->Prop}{as:List α}{bs:List β}(h:Al2 R as bs):∀{j:Nat} {a:α},as[j]?=some a->∃b,bs[j]?=some b/\R a b:=by
 induction h with
 |nil=>intro j a e;simp at e
 |cons r _ ih=>
  intro j a e;cases j with
  |zero=>cases e;exact⟨_,rfl,r⟩
  |succ j=>exact ih (by simpa using e)
def DEq (K:bET)(H:Hp):Nat->V->V->Prop
 |0,x,y=>lM x=true/\x=y
 |n+1,x,y=>(lM x=true/\x=y)\/∃a b xs ys,x=.ref a/\y=.ref b/\SqT K H a xs/\SqT K H b ys/\Al2 (DEq K H n) xs ys
theorem aDz {A:Around}{s:Shared}{x:V}{v u:Value}(h:lM x=true)(rv:RelV x v)(ru:RelV x u):SeqAt.EqAt A s v u true:=by
 cases x with
 |non=>cases rv;cases ru;exact bDO _
 |bl b=>cases rv;cases ru;exact bDO _
 |int i=>obtain⟨t,rfl⟩:=rv;obtain⟨t',rfl⟩:=ru;have z:=bEM (A:=A) (s:=s) i t i t';simpa using z
 |str y=>obtain⟨t,rfl⟩:=rv;obtain⟨t',rfl⟩:=ru;have z:=bDR (A:=A) (s:=s) y t y t';simpa using z
 |_=>cases h
section
variable {X:Cx}{bEX:bEV}{σ:L2.St}{H:Hp}{s:Shared}
theorem aAv (I:Inv X bEX σ H s){n:Nat}{A:Around}{xs ys:List V}{its jts:List Value}(rv:Vals xs its)(rw':Vals ys jts)(h:Al2 (DEq X.K H n) xs ys)
  (ih:∀{x y v u},DEq X.K H n x y->RelV x v->RelV y u->SeqAt.EqAt A s v u true):∀(j:Nat) (h1:j<its.toArray.size) (h2:j<jts.toArray.size),SeqAt.EqAt A s its.toArray[j] jts.toArray[j] ((λ_=>true) j):=λj h1 h2=>by
 have e1:=rv.length;have hj1:j<xs.length:=by rw[m7] at h1;lia
 obtain⟨y,hy,d⟩:=h.at (d9 hj1);obtain⟨u1,hu1,r1⟩:=rv.get (d9 hj1);obtain⟨u2,hu2,r2⟩:=rw'.get hy;have g1:its.toArray[j]=u1:=by rw[bCV];exact (List.getElem?_eq_some_iff.mp hu1).2
 have g2:jts.toArray[j]=u2:=by rw[bCV];exact (List.getElem?_eq_some_iff.mp hu2).2
 rw[g1,g2];exact ih d r1 r2
theorem aBt (n:Nat):(List.range n).all (λ_=>true)=true:=by rw[bB3];intro _ _;rfl
theorem aD2 (I:Inv X bEX σ H s):∀(n:Nat) {A:Around} {x y:V} {v u:Value},DEq X.K H n x y->RelV x v->RelV y u->A.units+n<cLine->SeqAt.EqAt A s v u true
 |0,A,x,y,v,u,h,rv,ru,_=>by obtain⟨h,rfl⟩:=h;exact aDz h rv ru
 |n+1,A,x,y,v,u,h,rv,ru,hu=>by
  rcases h with⟨h,rfl⟩|⟨a,b,xs,ys,rfl,rfl,ha,hb,h⟩
  ·exact aDz h rv ru
  cases rv;cases ru;by_cases e:a=b
  ·subst e;exact bDO _
  obtain⟨its,r1,pl,hz⟩:=I.tuple ha;obtain⟨jts,r2,pm,hw⟩:=I.tuple hb;refine SeqAt.EqAt.of_refs e ?_;have z:=SeqAt.RcAt.tuples (A:=A) (e:=λ_=>true) (show s.heap.IsTuple a its.toArray from pl) (show s.heap.IsTuple b jts.toArray from pm) (by lia) (aAv I r1 r2 h λd q1 q2=>aD2 I n d q1 q2 (by show A.units+1+n<cLine;lia));have z2:(its.toArray.size == jts.toArray.size)=true:=by rw[m7,m7];have:=r1.length;have:=r2.length;have:=h.len;simp;lia
  rw[aBt,z2] at z;exact z
end
section
variable {X:Cx}
def aZp:R2:=λx y H Q=>(∃a b,x=.int a/\y=.int b/\Q (.bl (decide (a<b))) H)\/∃a b:Str,x=.str a/\y=.str b/\Q (.bl (decide (a.cps.toList<b.cps.toList))) H
theorem aXs:OpR X (compareOp .Lt) aZp:=by
 intro bEX s σ H x y v u Q I rx ry h;rcases h with⟨a,b,rfl,rfl,q⟩|⟨a,b,rfl,rfl,q⟩
 ·obtain⟨t,rfl⟩:=rx;obtain⟨t',rfl⟩:=ry;exact lt_int ⟨.bl _,H,I,rfl,q⟩
 ·obtain⟨t,rfl⟩:=rx;obtain⟨t',rfl⟩:=ry;exact lt_str ⟨.bl _,H,I,rfl,q⟩
def aUu (K:bET):V->List V->Hp->VK->Prop:=λx vs H Q=>∃(l:Addr) (ss:List Str) (n:Str) (i:Nat),x=.ref l/\vs=[.str n]/\SqL K H l (ss.map V.str)/\ss.length<=1000/\ss[i]?=some n/\(∀(j:Nat) (m:Str),j<i->ss[j]?=some m->m≠n)/\Q (.int (i:Nat)) H
def aLj (n:Str):Value->Bool
 |.str x _=>x == n
 |_=>false
theorem aC1:MtR X "list.index" (aUu X.K):=by
 intro bEX s σ H x vs v us Q I rx rv h;obtain⟨l,ss,n,i,rfl,rfl,hH,h1000,hi,hno,q⟩:=h;cases rx;obtain⟨u,rfl,ru⟩:=rv.one;obtain⟨t,rfl⟩:=ru;obtain⟨its,r,pl,hz⟩:=I.list hH;have el:=r.length;rw[j9] at el;obtain⟨⟨cls,dd,data,sl⟩,ho,hc,nn,hd⟩:=id pl.isList;simp only at hc hd;subst hc hd;have hil:=(List.getElem?_eq_some_iff.mp hi).1;have get:∀{j:Nat} (hj:j<its.length),∃m t',ss[j]?=some m/\its[j]=.str m t':=λ{j} hj=>by
  have hj':j<ss.length:=by lia
  obtain⟨w,hw,rw'⟩:=r.get (show (ss.map V.str)[j]?=some (.str ss[j]) by rw[v4,d9 hj'];rfl);obtain⟨t',rfl⟩:=rw';exact⟨ss[j],t',d9 hj',(List.getElem?_eq_some_iff.mp hw).2⟩
 refine call_meets PySem.F.slot_list_index ⟨_,ho,rfl⟩ PySem.F.entry_list_index (PySem.F.args_list_index_2 _ _)
  (SeqAt.list_indexAt l its.toArray nn dd sl (.str n t) (aLj n) i (by rw[m7];lia) (by lia) ?_ ?_) ⟨ho,λy hy=>?_,⟨.int _,H,I.tok _,⟨_,rfl⟩,q⟩⟩
 ·obtain⟨m,t',h1,h2⟩:=get (j:=i) (by lia);rw[hi] at h1;cases h1;show aLj n its[i]=true;rw[h2];show (n == n)=true;simp
 ·intro j hj hlt;obtain⟨m,t',h1,h2⟩:=get (j:=j) (by simpa using hj);show aLj n its[j]=false;rw[h2];have:=hno j m hlt h1;show (m == n)=false;simpa using this
 ·have hy:y∈its:=by simpa using hy
  obtain⟨j,hj,rfl⟩:=bCB hy;obtain⟨m,t',h1,h2⟩:=get (j:=j) hj;rw[h2];exact bDR m t' n t
end
end L2
namespace L2
open PySem PySem.Spec PyProof.Rows Builtin
section
variable {prog:Program}{w:World}{A:Around}{E:bEU}{s:Shared}
end
section
variable {X:Cx}
def aZo (K:bET):List V->Hp->VK->Prop:=λxs H Q=>∃l us,xs=[.ref l,.ty "list"]/\SqL K H l us/\Q (.bl true) H
theorem aDt:cD X (.builtin "isinstance") (aZo X.K):=by intro bEX s σ H xs us Q I r h;obtain⟨l,zs,rfl,hl,q⟩:=h;obtain⟨u,v,rfl,rx,rT⟩:=r.two;obtain rfl:v=Value.type "list":=rT;obtain rfl:u=Value.ref l:=rx;obtain⟨its,rv,pl,_⟩:=I.list hl;obtain⟨o,ho,hc,_⟩:=id pl.isList;exact call_isinstance (isinstance_true F.isi_meta_list F.isi_self_list) ⟨⟨o,ho,hc⟩,⟨.bl true,H,I,rfl,q⟩⟩
end
variable {X:Cx}
end L2
namespace My
open PySem PySem.Spec PyProof.Rows L2
def top (i:Nat):Stmt:=PySem.Challenge.pw_shardask_k60_put_and_drop.main.body.getD i (.Pass ⟨0,0,0,0⟩)
abbrev tM:Stmt:=top 15
abbrev iB:Stmt:=top 16
abbrev wO:Stmt:=top 17
abbrev qD:Stmt:=top 18
abbrev fK:Stmt:=top 19
abbrev pG:Stmt:=top 20
abbrev tX:Stmt:=top 21
abbrev xK:Stmt:=top 22
abbrev uC:Stmt:=top 23
abbrev wV:Stmt:=top 24
abbrev mQ:Stmt:=top 25
abbrev pQ:Stmt:=top 26
abbrev wG:Stmt:=top 27
abbrev aAy:Stmt:=top 28
abbrev mU:Stmt:=top 29
abbrev aMd:Stmt:=top 30
abbrev xF:Stmt:=top 32
abbrev tH:Stmt:=top 34
abbrev aAh:Stmt:=top 38
abbrev nZ:Stmt:=top 39
abbrev lH:Stmt:=top 40
abbrev pF:Stmt:=top 41
abbrev pB:Stmt:=top 42
abbrev tY:Stmt:=top 43
abbrev qQ:Stmt:=top 44
abbrev jR:Stmt:=top 45
abbrev tO:Stmt:=top 46
abbrev aB0:Stmt:=top 47
abbrev qP:Stmt:=top 48
abbrev rU:Stmt:=top 49
abbrev fZ:Stmt:=classAt (top 50) 0
abbrev sS:Stmt:=classAt (top 50) 1
abbrev pX:Stmt:=classAt (top 50) 3
abbrev jW:Stmt:=classAt (top 50) 4
abbrev tD:Stmt:=classAt (top 50) 5
abbrev lX:Stmt:=classAt (top 50) 6
abbrev rE:Stmt:=top 52
abbrev pM:Stmt:=top 53
abbrev tE:Stmt:=top 54
abbrev eZ:Stmt:=classAt (top 55) 0
abbrev lW:Stmt:=classAt (top 55) 5
abbrev jY:Stmt:=classAt (top 55) 6
abbrev iV:Stmt:=classAt (top 55) 12
abbrev eV:Stmt:=classAt (top 55) 13
abbrev kJ:Stmt:=classAt (top 55) 14
abbrev qU:Stmt:=top 57
abbrev rC:Stmt:=top 58
abbrev oZ:Stmt:=top 59
abbrev jV:Stmt:=top 60
abbrev nY:Stmt:=top 61
abbrev nR:Stmt:=top 62
abbrev pP:Stmt:=top 63
abbrev iD:Stmt:=top 64
abbrev oK:Stmt:=top 65
abbrev lZ:Stmt:=top 66
abbrev rD:Stmt:=top 67
abbrev mG:Stmt:=top 68
abbrev qH:Stmt:=top 69
abbrev iJ:Stmt:=top 70
abbrev oW:Stmt:=top 71
abbrev jF:Stmt:=top 72
abbrev pH:Stmt:=top 73
abbrev aNu:Stmt:=top 74
abbrev mV:Stmt:=classAt (top 2) 0
structure Txt (w:World)(K:bET)(mg:bEW):Prop where
 aFl:mg "ValueError"=none
 aAc:mg "all"=none
 bAi:mg "any"=none
 aXa:mg "bool"=none
 aRw:mg "dict"=none
 aHa:mg "enumerate"=none
 aTe:mg "int"=none
 bN:mg "isinstance"=none
 fM:mg "len"=none
 uG:mg "list"=none
 jN:mg "range"=none
 aWq:mg "set"=none
 eX:mg "sorted"=none
 aR4:mg "str"=none
 jO:mg "tuple"=none
 aWw:mg "zip"=none
 jG:∃a,mg "QUESTION_WORDS"=some (.ref a)/\∀H,SqT K H a [.str "and",.str "by",.str "count",.str "down",.str "first",.str "group",.str "join",.str "keep",.str "least",.str "most",.str "named",.str "on",.str "sum",.str "table",.str "up",.str "where",.str "with"]
 aDl:∃u,mg "LETTERS"=some u/\RelV (.str "abcdefghijklmnopqrstuvwxyz") u
 aF3:∃a,mg "KINDS"=some (.ref a)/\∀H,SqT K H a [.str "number",.str "word"]
 aAk:∃u,mg "MOST_LETTERS"=some u/\RelV (.int 8) u
 zY:∃u,mg "MOST_COLUMNS"=some u/\RelV (.int 8) u
 aIo:∃u,mg "WORD_BASE"=some u/\RelV (.int 27) u
 aCy:∃u,mg "MOST_HOUSES"=some u/\RelV (.int 6) u
 aI9:∃u,mg "MOST_CUTS"=some u/\RelV (.int 8) u
 yK:∃f o,(∃u,mg "is_column"=some u/\RelV (.ref f) u)/\K.lookup f=some o/\o.cls=.type "function"
 aKw:Dn K mg "is_whole" tM ["thing"]
 vR:Dn K mg "is_number_below" iB ["thing","many"]
 aOe:Dn K mg "is_word" wO ["thing"]
 aIg:Dn K mg "is_one_of" qD ["thing","texts"]
 sO:Dn K mg "is_tuple_of" fK ["thing","least","most","is_part"]
 aEa:Dn K mg "are_unlike" pG ["names"]
 aLq:Dn K mg "names_of" tX ["head"]
 aPi:Dn K mg "is_name" xK ["thing"]
 aJt:Dn K mg "is_value" uC ["thing"]
 aOr:Dn K mg "kind_of" wV ["value"]
 aCt:Dn K mg "is_value_of" mQ ["thing","kind"]
 aH3:Dn K mg "is_column" pQ ["thing"]
 aOb:Dn K mg "is_head" wG ["thing"]
 aSc:Dn K mg "is_row" aAy ["head","thing"]
 aB7:Dn K mg "word_number" mU ["word"]
 aYf:Dn K mg "home" aMd ["value","houses"]
 aO9:Dn K mg "kind_in" xF ["head","name"]
 aL8:Dn K mg "place_of" tH ["head","name"]
 aSv:Dn K mg "is_cut" aAh ["thing","houses"]
 aK9:Dn K mg "are_cuts" nZ ["thing","kind","houses"]
 aBi:Dn K mg "is_column_in" lH ["head","thing"]
 aE0:Dn K mg "is_placing" pF ["thing","head","houses"]
 aKt:Dn K mg "are_rows" pB ["thing","head"]
 aLh:Dn K mg "is_table" tY ["thing","houses"]
 aJh:Dn K mg "need_town" qQ ["houses","tables"]
 yQ:Dn K mg "placed_tables" jR ["houses","tables"]
 aKo:Dn K mg "table_in" tO ["placed","name"]
 aQ1:Dn K mg "cut_of" aB0 ["cuts","value"]
 aI4:Dn K mg "stands_at" qP ["head","placing","row","house","houses"]
 aP7:Dn K mg "rows_at" rU ["table","house","houses"]
 aI0:Dn K mg "with_rows" rE ["table","rows"]
 aJm:Dn K mg "span_rows" pM ["table","number"]
 aKy:Dn K mg "is_above" tE ["row","mark"]
 aJq:Dn K mg "_law_seed" qU ["_law_script"]
 aHf:Dn K mg "_law_next" rC ["_law_state","_law_many"]
 aFs:Dn K mg "_law_words" oZ []
 aFm:Dn K mg "_law_names" jV ["_law_state","_law_many"]
 aE7:Dn K mg "_law_great" nY ["_law_state"]
 aFn:Dn K mg "_law_value" nR ["_law_state","_law_kind"]
 aJo:Dn K mg "_law_head" pP ["_law_state","_law_names_here"]
 aAf:Dn K mg "_law_placing" iD ["_law_state","_law_head_here","_law_houses"]
 aMb:Dn K mg "_law_row" oK ["_law_state","_law_head_here"]
 aJi:Dn K mg "_law_town" lZ ["_law_state","_law_names_here","_law_most"]
 aHi:Dn K mg "_law_home" rD ["_law_value_here","_law_houses"]
 aH6:Dn K mg "_law_span" mG ["_law_cuts","_law_value_here"]
 aG4:Dn K mg "_law_spot" qH ["_law_head_here","_law_name"]
 aGb:Dn K mg "_law_stood" iJ ["_law_table","_law_houses","_law_house"]
 aFi:Dn K mg "_law_begun" oW ["_law_names_here","_law_state","_law_most"]
 xR:Dn K mg "_law_not_there" jF ["_law_store","_law_name","_law_row_here"]
 aFo:Dn K mg "_law_right" pH ["_law_store","_law_model","_law_names_here","_law_houses"]
 aZx:Dn K mg "law" aNu ["_law_script"]
 aX0:∃C,aVd K mg "Town" C/\kO K C "__init__" "Town.__init__" fZ ["self","houses","tables"]/\kO K C "houses" "Town.houses" sS ["self"]/\kO K C "placing" "Town.placing" pX ["self","name"]/\kO K C "whole" "Town.whole" jW ["self","name"]/\kO K C "tables" "Town.tables" tD ["self"]/\kO K C "part" "Town.part" lX ["self","name","house"]/\bR K C "placed"/\bR K C "house_count"
 aUp:∃C,aVd K mg "Store" C/\kO K C "__init__" "Store.__init__" eZ ["self","houses","tables"]/\kO K C "put" "Store.put" lW ["self","name","row"]/\kO K C "drop" "Store.drop" jY ["self","name","row"]/\kO K C "moving" "Store.moving" iV ["self","name"]/\kO K C "stands" "Store.stands" eV ["self","name","house"]/\kO K C "town" "Store.town" kJ ["self"]/\bR K C "placed"/\bR K C "house_count"/\bR K C "moves"
 bA9:∃C S,ExT K mg mV "NoRow" "ShardError.__init__" C S/\PySem.W.mroIn K C (.ref C)=some true
abbrev abc:Str:="abcdefghijklmnopqrstuvwxyz"
abbrev words:List V:=[.str "and",.str "by",.str "count",.str "down",.str "first",.str "group",.str "join",.str "keep",.str "least",.str "most",.str "named",.str "on",.str "sum",.str "table",.str "up",.str "where",.str "with"]
def Th (K:bET)(H:Hp)(v:V):Prop:=(∃x,v=.str x/\x.length<=1000)\/(∃i,v=.int i)\/(∃b,v=.bl b)\/∃k,Rk K H v k
theorem Th.same {K:bET}{H H':Hp}{v:V}(e:Same H H')(h:Th K H v):Th K H' v:=by
 rcases h with h|h|h|⟨k,h⟩
 ·exact .inl h
 ·exact .inr (.inl h)
 ·exact .inr (.inr (.inl h))
 ·exact .inr (.inr (.inr ⟨k,h.same e⟩))
def aVi:V->String->Bool
 |.int _,T=>T == "int"
 |.str _,T=>T == "str"
 |.bl _,T=>T == "int" || T == "bool"
 |_,_=>false
def isS:V->Bool
 |.str _=>true
 |_=>false
def whole:V->Bool
 |.int _=>true
 |_=>false
theorem wA {K:bET}{H:Hp}{v:V}{T:String}{Q:VK}(hv:Th K H v)(hT:T = "int"\/T = "bool"\/T = "str")(q:Q (.bl (aVi v T)) H):aZ6 [v,.ty T] H Q\/aWn K [v,.ty T] H Q:=by
 rcases hv with⟨x,rfl,_⟩|⟨i,rfl⟩|⟨b,rfl⟩|⟨k,h⟩
 ·refine .inl ⟨_,_,_,rfl,?_,q⟩;rcases hT with rfl|rfl|rfl <;> simp[aKk,aVi]
 ·refine .inl ⟨_,_,_,rfl,?_,q⟩;rcases hT with rfl|rfl|rfl <;> simp[aKk,aVi]
 ·refine .inl ⟨_,_,_,rfl,?_,q⟩;rcases hT with rfl|rfl|rfl <;> simp[aKk,aVi]
 ·refine .inr ⟨_,_,_,rfl,h,hT,?_⟩;cases h <;> exact q
def inA (y:Str):Bool:=!(Builtin.Str.occurrences abc y 0 abc.length 1).isEmpty
def allIn (x:Str):Bool:=((List.range x.cps.size).map λi=>inA (sgn x i)).all id
def sE (l:Nat):V->Bool
 |.str x=>decide (l<=x.length) && (decide (x.length<=8) && allIn x)
 |_=>false
def nameB (v:V):Bool:=sE 1 v && !inV v words
def aKd (v:V):Bool:=whole v || sE 0 v
def nQ (K:bET):Sp:=λvs H Q _=>∃v,vs=[v]/\Th K H v/\Q (.bl (whole v)) H
def aCx (K:bET)(f:V->Bool):Sp:=λvs H Q _=>∃v,vs=[v]/\Th K H v/\∀H',Same H H'->Q (.bl (f v)) H'
def aM2 (K:bET):Sp:=λvs H Q _=>∃v,vs=[v]/\Th K H v/\Q (.str (if whole v then "number" else "word")) H
def aZg (K:bET):Sp:=λvs H Q _=>∃(a:Addr) (ns:List Int),vs=[.ref a]/\SqL K H a (ns.map V.int)/\ns.length<=63/\∀H',Q (.bl true) H'
theorem aZn {K:bET}{H:Hp}{a:Addr}{ns:List Int}(h:ns.length<=63)(hS:SqL K H a (ns.map V.int)):aZg K [.ref a] H (λv _=>v=.bl true) λ_ _ _=>False:=
 ⟨a,ns,rfl,hS,h,λ_=>rfl⟩
theorem aHg:aM ["thing"] ["thing"] (aF tM):=by trivial
theorem uF:aM ["thing","many"] ["thing","many"] (aF iB):=by trivial
theorem aJu:aM ["thing"] ["thing"] (aF wO):=by trivial
theorem aEd:aM ["thing","texts"] ["thing","texts"] (aF qD):=by trivial
theorem rA:aM ["thing","least","most","is_part"] ["thing","least","most","is_part"] (aF fK):=by trivial
theorem aCp:aM ["names"] ["names"] (aF pG):=by trivial
theorem aI2:aM ["head"] ["head"] (aF tX):=by trivial
theorem aKg:aM ["thing"] ["thing"] (aF xK):=by trivial
theorem aIm:aM ["thing"] ["thing"] (aF uC):=by trivial
theorem aLr:aM ["value"] ["value"] (aF wV):=by trivial
theorem aAp:aM ["thing","kind"] ["thing","kind"] (aF mQ):=by trivial
theorem aE2:aM ["thing"] ["thing"] (aF pQ):=by trivial
theorem aL9:aM ["thing"] ["thing"] (aF wG):=by trivial
theorem aOt:aM ["head","thing"] ["head","thing"] (aF aAy):=by trivial
theorem iI:aM ["word","number","letter"] ["word"] (aF mU):=by trivial
theorem aN4:aM ["value","houses","number"] ["value","houses"] (aF aMd):=by trivial
theorem aAe:aM ["head","name","column"] ["head","name"] (aF xF):=by trivial
theorem aGv:aM ["head","name"] ["head","name"] (aF tH):=by trivial
theorem aPm:aM ["thing","houses"] ["thing","houses"] (aF aAh):=by trivial
theorem yD:aM ["thing","kind","houses","lows"] ["thing","kind","houses"] (aF nZ):=by trivial
theorem yU:aM ["head","thing"] ["head","thing"] (aF lH):=by trivial
theorem aCh:aM ["thing","head","houses"] ["thing","head","houses"] (aF pF):=by trivial
theorem aIr:aM ["thing","head"] ["thing","head"] (aF pB):=by trivial
theorem aGk:aM ["thing","houses"] ["thing","houses"] (aF tY):=by trivial
theorem oN:aM ["houses","tables","name","table"] ["houses","tables"] (aF qQ):=by trivial
theorem wQ:aM ["houses","tables"] ["houses","tables"] (aF jR):=by trivial
theorem aIv:aM ["placed","name"] ["placed","name"] (aF tO):=by trivial
theorem rW:aM ["cuts","value","number","place"] ["cuts","value"] (aF aB0):=by trivial
theorem oG:aM ["head","placing","row","house","houses","value","cuts"] ["head","placing","row","house","houses"] (aF qP):=by trivial
theorem aLc:aM ["table","house","houses"] ["table","house","houses"] (aF rU):=by trivial
theorem wF:aM ["self","houses","tables"] ["self","houses","tables"] (aF fZ):=by trivial
theorem aCs:aM ["self","name"] ["self","name"] (aF jW):=by trivial
theorem aEj:aM ["self","name","house"] ["self","name","house"] (aF lX):=by trivial
theorem aFj:aM ["table","rows"] ["table","rows"] (aF rE):=by trivial
theorem aEs:aM ["table","number","place"] ["table","number"] (aF pM):=by trivial
theorem aH5:aM ["row","mark"] ["row","mark"] (aF tE):=by trivial
theorem uR:aM ["self","houses","tables"] ["self","houses","tables"] (aF eZ):=by trivial
theorem vK:aM ["self","name","row","table"] ["self","name","row"] (aF lW):=by trivial
theorem mR:aM ["self","name","row","table","rows"] ["self","name","row"] (aF jY):=by trivial
theorem yP:aM ["self","name"] ["self","name"] (aF iV):=by trivial
theorem fX:aM ["self","name","house","table","rows","move"] ["self","name","house"] (aF eV):=by trivial
theorem aCe:aM ["self"] ["self"] (aF kJ):=by trivial
theorem iT:aM ["_law_script","_law_seed_here","_law_k","_law_cell"] ["_law_script"] (aF qU):=by trivial
theorem aE3:aM ["_law_state","_law_many"] ["_law_state","_law_many"] (aF rC):=by trivial
theorem sZ:aM ["_law_words_here"] [] (aF oZ):=by trivial
theorem cC:aM ["_law_state","_law_many","_law_small","_law_odd","_law_base","_law_k","_law_at","_law_names_here"] ["_law_state","_law_many"] (aF jV):=by trivial
theorem jM:aM ["_law_state","_law_number","_law_k"] ["_law_state"] (aF nY):=by trivial
theorem fU:aM ["_law_state","_law_kind","_law_way","_law_word","_law_k"] ["_law_state","_law_kind"] (aF nR):=by trivial
theorem iR:aM ["_law_state","_law_names_here","_law_start","_law_head_here","_law_k","_law_kind"] ["_law_state","_law_names_here"] (aF pP):=by trivial
theorem cQ:aM ["_law_state","_law_head_here","_law_houses","_law_way","_law_name","_law_kind","_law_lows","_law_cuts","_law_low"] ["_law_state","_law_head_here","_law_houses"] (aF iD):=by trivial
theorem aJn:aM ["_law_state","_law_head_here"] ["_law_state","_law_head_here"] (aF oK):=by trivial
theorem dU:aM ["_law_state","_law_names_here","_law_most","_law_houses","_law_tables","_law_k","_law_head_here","_law_placing_here","_law_rows"] ["_law_state","_law_names_here","_law_most"] (aF lZ):=by trivial
theorem gU:aM ["_law_value_here","_law_houses","_law_number","_law_letter"] ["_law_value_here","_law_houses"] (aF rD):=by trivial
theorem aEo:aM ["_law_cuts","_law_value_here"] ["_law_cuts","_law_value_here"] (aF mG):=by trivial
theorem aFe:aM ["_law_head_here","_law_name"] ["_law_head_here","_law_name"] (aF qH):=by trivial
theorem eG:aM ["_law_table","_law_houses","_law_house","_law_head_here","_law_placing_here","_law_rows","_law_move","_law_spot_here"] ["_law_table","_law_houses","_law_house"] (aF iJ):=by trivial
theorem dH:aM ["_law_names_here","_law_state","_law_most","_law_houses","_law_tables","_law_model","_law_name","_law_store"] ["_law_names_here","_law_state","_law_most"] (aF oW):=by trivial
theorem iC:aM ["_law_store","_law_name","_law_row_here","_law_word"] ["_law_store","_law_name","_law_row_here"] (aF jF):=by trivial
theorem eE:aM ["_law_store","_law_model","_law_names_here","_law_houses","_law_town_here","_law_name","_law_house","_law_due","_law_found"] ["_law_store","_law_model","_law_names_here","_law_houses"] (aF pH):=by trivial
theorem lO:aM ["_law_script","_law_state","_law_store","_law_model","_law_houses","_law_cell","_law_name","_law_rows","_law_row_here"] ["_law_script"] (aF aNu):=by trivial
theorem aVb:aM ["self","act"] ["self","act"] (aF mV):=by trivial
section
variable {P:Program}{w:World}{K:bET}{mg:bEW}{base:Heap}
theorem aIh (T:Txt w K mg):Ok P w K mg base 1 "is_whole" ["thing"] (nQ K):=by
 refine Ok.ofV T.aKw aHg (λvs H Q E h=>?_) (λf cdv A outer s H vs Q E hr h=>?_)
 ·obtain⟨v,rfl,_⟩:=h;rfl
 obtain⟨v,rfl,hv,q⟩:=h;refine⟨_,(aG (aN (iW (aO (qX.or rH) (by rfl) T.bN bJ (aC (vv 0) (aC (dY (v:=.ty "int") (by rfl) T.aTe aLz rfl) aB))) (jE (aZd (aO (qX.or rH) (by rfl) T.bN bJ (aC (vv 0) (aC (dY (v:=.ty "bool") (by rfl) T.aXa aT1 rfl) aB)))))))),?_⟩;refine⟨_,rfl,wA hv (.inl rfl) ⟨_,rfl,?_⟩⟩;rcases id hv with⟨x,rfl,_⟩|⟨i,rfl⟩|⟨b,rfl⟩|⟨k,h⟩
 ·exact bV q
 ·exact dI ⟨_,rfl,wA hv (.inr (.inl rfl)) ⟨_,rfl,q⟩⟩
 ·exact dI ⟨_,rfl,wA hv (.inr (.inl rfl)) ⟨_,rfl,q⟩⟩
 ·cases h <;> exact bV q
theorem aRv (x:Str):(((List.range x.cps.size).map λi=>V.str (sgn x i)).map λv=>match v with|.str y=>V.bl (inA y)|_=>.bl false)=(((List.range x.cps.size).map λi=>inA (sgn x i)).map V.bl):=by rw[bB0,bB0];rfl
theorem aL4 (T:Txt w K mg):Ok P w K mg base 1 "is_word" ["thing"] (aCx K (sE 0)):=by
 refine Ok.ofV T.aOe aJu (λvs H Q E h=>?_) (λf cdv A outer s H vs Q E hr h=>?_)
 ·obtain⟨v,rfl,_⟩:=h;rfl
 obtain⟨v,rfl,hv,q⟩:=h;refine⟨_,(aD (bZ (VW.pt (iM (cI (cA (aO (qX.or rH) (by rfl) T.bN bJ (aC (vv 0) (aC (dY (v:=.ty "str") (by rfl) T.aR4 aJr rfl) aB))))) (gC (bH bAe (aO vB (by rfl) T.fM dF (aC (vv 0) aB)) (sX (by rfl) T.aAk) (bF _))))) (aG (aN gK)) aZ) (aG (aN (aO (lJ rfl) (by rfl) T.aAc tV (aC (dB (N:=["sign"]) (by trivial) (lC (by decide +kernel)) rfl (aLs (vv 0)) (λcl s' H' fp=>⟨(aU (i:=0) (show (["sign"]:List Str).Nodup from by decide +kernel) rfl (Or.inl rfl)),gH,(dC aPn (vv 0) (sX (by rfl) T.aDl) (by with_unfolding_all rfl))⟩)) aB))))),?_⟩;refine⟨_,rfl,wA hv (.inr (.inr rfl)) ⟨_,rfl,?_⟩⟩;have no:isS v=false->Q (.bl false) H:=λe=>by
  have z:sE 0 v=false:=by cases v <;> first|rfl|cases e
  rw[<-z];exact q H (Same.refl H)
 rcases id hv with⟨x,rfl,hx⟩|⟨i,rfl⟩|⟨b,rfl⟩|⟨k,h⟩
 ·refine bV ⟨_,rfl,_,rfl,small hx,_,_,rfl,rfl,_,rfl,?_⟩;refine aK8 (λc=>?_) (λc=>?_)
  ·have c':(8:Int)<x.length:=of_decide_eq_true c;have z:sE 0 (.str x)=false:=by show (decide (0<=x.length) && (decide (x.length<=8) && allIn x))=false;rw[w6 (p:=x.length<=8) (by lia)];simp
   rw[<-z];exact q H (Same.refl H)
  ·have c':¬ (8:Int)<x.length:=of_decide_eq_false (Bool.eq_false_iff.mpr c);dsimp only[pO,uX,tCB,dR];refine aO7 ((List.range x.cps.size).map λi=>V.str (sgn x i)) (λv=>match v with|.str y=>V.bl (inA y)|_=>.bl false) [none] xB ?_
    (λR r=>aXd (z:=x) (λR' r'=>⟨_,rfl,r'⟩) R r) (λv hv' H' R l sm r=>?_) rfl λD hD=>?_
   ·rw[j9,bAN];exact small hx
   ·obtain⟨i,_,rfl⟩:=List.mem_map.mp hv';exact⟨_,rfl,_,_,rfl,rfl,r⟩
   ·refine⟨D,(List.range x.cps.size).map λi=>inA (sgn x i),rfl,SqL.of (by rw[aJ,aRv]),?_⟩;have z:sE 0 (.str x)=allIn x:=by show (decide (0<=x.length) && (decide (x.length<=8) && allIn x))=allIn x;rw[v6 (p:=x.length<=8) (by lia)];simp
    show Q (.bl (allIn x)) _;rw[<-z];exact q _ (aV hD _)
 ·exact dI (no rfl)
 ·exact dI (no rfl)
 ·cases h <;> exact dI (no rfl)
theorem aF9 {v:V}{l:Nat}(h:sE l v=true):∃x,v=.str x/\l<=x.length/\x.length<=8/\allIn x=true:=by
 cases v with
 |str x=>have h:(decide (l<=x.length) && (decide (x.length<=8) && allIn x))=true:=h;rw[bAU,bAU] at h;exact⟨x,rfl,of_decide_eq_true h.1,of_decide_eq_true h.2.1,h.2.2⟩
 |_=>cases h
theorem aDs {x:Str}:x=("":Str)↔x.length=0:=by
 constructor
 ·rintro rfl;decide +kernel
 ·intro h;obtain⟨cps⟩:=x;have h:cps.size=0:=h;rw[Array.size_eq_zero_iff] at h;subst h;decide +kernel
theorem zQ:words.all lM=true:=rfl
theorem aLf (T:Txt w K mg)(xA:Ok P w K mg base 1 "is_word" ["thing"] (aCx K (sE 0))):Ok P w K mg base 2 "is_name" ["thing"] (aCx K nameB):=by
 refine Ok.ofV T.aPi aKg (λvs H Q E h=>?_) (λf cdv A outer s H vs Q E hr h=>?_)
 ·obtain⟨v,rfl,_⟩:=h;rfl
 obtain⟨v,rfl,hv,q⟩:=h;obtain⟨qa,mq,hqa⟩:=T.jG;have jG:∃u,mg "QUESTION_WORDS"=some u/\RelV (.ref qa) u:=⟨_,mq,rfl⟩;refine⟨_,(aG (aN (iW (aQ (xA.mono (by decide)) hr (by rfl) (aC (vv 0) aB)) (iW (dC aDh (vv 0) bC (bF _)) (jE (dC aEg (vv 0) (sX (by rfl) jG) (by with_unfolding_all rfl))))))),?_⟩;refine⟨_,rfl,_,rfl,hv,λH1 s1=>⟨_,rfl,?_⟩⟩;refine aK8 (λc=>?_) (λc=>?_)
 ·obtain⟨x,rfl,_,h8,ha⟩:=aF9 c;refine⟨_,rfl,rfl,_,rfl,?_⟩;by_cases e:x.length=0
  ·have ex:=aDs.mpr e;subst ex;refine bV ?_;have z:nameB (.str "")=false:=by decide +kernel
   rw[<-z];exact q H1 s1
  ·have ne:¬ (V.str x=V.str ""):=λz=>e (aDs.mp (V.str.inj z));have e2:(!decide (V.str x=V.str ""))=true:=by rw[w6 ne];rfl
   rw[e2];refine dI ⟨_,rfl,qa,words,rfl,.inr (hqa _),rfl,zQ,?_⟩;have z:nameB (.str x)=!inV (.str x) words:=by show ((decide (1<=x.length) && (decide (x.length<=8) && allIn x)) && !inV (.str x) words)=!inV (.str x) words;rw[v6 (p:=1<=x.length) (by lia),v6 h8,ha];rfl
   show Q (.bl (!inV (.str x) words)) H1;rw[<-z];exact q H1 s1
 ·have z:nameB v=false:=by
   show (sE 1 v && !inV v words)=false;cases hv1:sE 1 v with
   |false=>rfl
   |true=>obtain⟨x,rfl,h1,h8,ha⟩:=aF9 hv1;refine absurd ?_ c;show (decide (0<=x.length) && (decide (x.length<=8) && allIn x))=true;rw[v6 h8,ha,v6 (bAJ _)];rfl
  rw[<-z];exact q H1 s1
theorem aIt (T:Txt w K mg)(dX:Ok P w K mg base 1 "is_whole" ["thing"] (nQ K))(xA:Ok P w K mg base 1 "is_word" ["thing"] (aCx K (sE 0))) :
  Ok P w K mg base 2 "is_value" ["thing"] (aCx K aKd):=by
 refine Ok.ofV T.aJt aIm (λvs H Q E h=>?_) (λf cdv A outer s H vs Q E hr h=>?_)
 ·obtain⟨v,rfl,_⟩:=h;rfl
 obtain⟨v,rfl,hv,q⟩:=h;refine⟨_,(aG (aN (bAt (aQ (dX.mono (by decide)) hr (by rfl) (aC (vv 0) aB)) (jE (aQ (xA.mono (by decide)) hr (by rfl) (aC (vv 0) aB)))))),?_⟩;refine⟨_,rfl,_,rfl,hv,_,rfl,?_⟩;cases hw:whole v with
 |true=>
  refine dI ?_;have z:aKd v=true:=by show (whole v || sE 0 v)=true;rw[hw];rfl
  rw[<-z];exact q H (Same.refl H)
 |false=>
  refine bV ⟨_,rfl,_,rfl,hv,λH1 s1=>?_⟩;have z:aKd v=sE 0 v:=by show (whole v || sE 0 v)=sE 0 v;rw[hw];rfl
  rw[<-z];exact q H1 s1
theorem aKv (T:Txt w K mg)(dX:Ok P w K mg base 1 "is_whole" ["thing"] (nQ K)):Ok P w K mg base 2 "kind_of" ["value"] (aM2 K):=by
 refine Ok.ofV T.aOr aLr (λvs H Q E h=>?_) (λf cdv A outer s H vs Q E hr h=>?_)
 ·obtain⟨v,rfl,_⟩:=h;rfl
 obtain⟨v,rfl,hv,q⟩:=h;refine⟨_,(aG (aN (aHk (cA (aQ (dX.mono (by decide)) hr (by rfl) (aC (vv 0) aB))) bC bC))),?_⟩;refine⟨_,rfl,_,rfl,hv,_,rfl,?_⟩;cases hw:whole v with
 |true=>rw[hw] at q;exact dI q
 |false=>rw[hw] at q;exact bV q
theorem at0 (x:V)(r:List V):atI (x::r) 0=some x:=by unfold atI ixN;simp
theorem at1 (x y:V)(r:List V):atI (x::y::r) 1=some y:=by unfold atI ixN;simp only[v5];rw[if_pos (by lia),if_pos (by lia)];rfl
theorem Tk.same {K:bET}{H H':Hp}{v:V}{b:Bool}(e:Same H H')(h:Tk K H v b):Tk K H' v b:=by
 cases h with
 |int=>exact .int
 |str=>exact .str
 |bl=>exact .bl
 |non=>exact .non
 |lst q=>exact .lst (e.seq q)
 |dct q=>exact .dct (e _ _ q)
 |tup q=>exact .tup (e.aY q)
structure Tells (R:Hp->V->Bool->Prop):Prop where
 same:∀{H H' v b},Same H H'->R H v b->R H' v b
def aYb (R:Hp->V->Bool->Prop):Sp:=λvs H Q _=>∃v b,vs=[v]/\R H v b/\∀H',Same H H'->Q (.bl b) H'
inductive aDk (K:bET)(R:Hp->V->Bool->Prop)(lo hi:Nat)(H:Hp):V->Bool->Prop
 |no {v}:Tk K H v false->aDk K R lo hi H v false
 |len {a xs}:SqT K H a xs->¬ (lo<=xs.length/\xs.length<=hi)->aDk K R lo hi H (.ref a) false
 |yes {a xs} (f:V->Bool):SqT K H a xs->lo<=xs.length->xs.length<=hi->(∀x∈xs,R H x (f x))->aDk K R lo hi H (.ref a) (xs.all f)
def aLo (K:bET):Sp:=λvs H Q _=>∃v a xs,vs=[v,.ref a]/\Th K H v/\SqT K H a xs/\xs.all lM=true/\Q (.bl (isS v && inV v xs)) H
def aGp (P:Program)(w:World)(K:bET)(mg:bEW)(base:Heap)(k:Nat):Sp:=λvs H Q _=>∃v lo hi f ps R b,vs=[v,.int (lo:Nat),.int (hi:Nat),.ref f]/\hi<=1000/\Held P w K mg base k f ps (aYb R)/\Tells R/\aDk K R lo hi H v b/\∀H',Same H H'->Q (.bl b) H'
def aDa (K:bET):Sp:=λvs H Q _=>∃a ss,vs=[.ref a]/\SqL K H a (ss.map V.str)/\ss.length<=1000/\∀H',Same H H'->Q (.bl (decide ((nG ss).length=ss.length))) H'
theorem aEk (T:Txt w K mg):Ok P w K mg base 1 "is_one_of" ["thing","texts"] (aLo K):=by
 refine Ok.ofV T.aIg aEd (λvs H Q E h=>?_) (λf cdv A outer s H vs Q E hr h=>?_)
 ·obtain⟨v,a,xs,rfl,_⟩:=h;rfl
 obtain⟨v,a,xs,rfl,hv,ha,hf,q⟩:=h;refine⟨_,(aG (aN (iW (aO (qX.or rH) (by rfl) T.bN bJ (aC (vv 0) (aC (dY (v:=.ty "str") (by rfl) T.aR4 aJr rfl) aB))) (jE (dC xO (vv 0) (vv 1) (by with_unfolding_all rfl)))))),?_⟩;refine⟨_,rfl,wA hv (.inr (.inr rfl)) ⟨_,rfl,?_⟩⟩;rcases id hv with⟨x,rfl,_⟩|⟨i,rfl⟩|⟨b,rfl⟩|⟨k,h⟩
 ·exact dI ⟨_,rfl,_,rfl,a,xs,rfl,.inr ha,rfl,hf,q⟩
 ·exact bV q
 ·exact bV q
 ·cases h <;> exact bV q
theorem aBp {k:Nat}(T:Txt w K mg):Ok P w K mg base (k+1) "is_tuple_of" ["thing","least","most","is_part"] (aGp P w K mg base k):=by
 refine Ok.ofV T.sO rA (λvs H Q E h=>?_) (λf cdv A outer s H vs Q E hr h=>?_)
 ·obtain⟨v,lo,hi,f,ps,R,b,rfl,_⟩:=h;rfl
 obtain⟨v,lo,hi,g,ps,R,b,rfl,h1000,hg,hR,hv,q⟩:=h;refine⟨_,(aD (bZ (VW.pt (iM (cI (cA (aO jB (by rfl) T.bN bJ (aC (vv 0) (aC (dY (v:=.ty "tuple") (by rfl) T.jO fP rfl) aB))))) (gC (cI (aAa zU zU (vv 1) (aO bI (by rfl) T.fM dF (aC (vv 0) aB)) (vv 2)))))) (aG (aN gK)) aZ) (aG (aN (aO (lJ rfl) (by rfl) T.aAc tV (aC (dB (N:=["part","is_part"]) (by trivial) (jC (aF fK) rfl (by decide +kernel)) rfl (qG (vv 0)) (λcl s' H' fp=>⟨(aU (i:=0) (show (["part","is_part"]:List Str).Nodup from by decide +kernel) rfl (Or.inl rfl)),gH,(aQp (P:=P) (w:=w) (K:=K) (mg:=mg) (base:=base) hr (vv 1) (aC (vv 0) aB))⟩)) aB))))),?_⟩;cases hv with
 |no h=>exact⟨_,rfl,_,_,rfl,h,_,rfl,dI (q H (Same.refl H))⟩
 |@len a xs ha hn=>refine⟨_,rfl,_,_,rfl,.tup ha,_,rfl,bV ?_⟩;refine⟨_,rfl,_,rfl,_,_,rfl,.inr ha,_,_,rfl,rfl,_,rfl,?_⟩;refine aK8 (λc=>⟨_,rfl,_,_,rfl,rfl,_,rfl,?_⟩) (λc=>⟨_,rfl,dI (q H (Same.refl H))⟩);have c':(lo:Int)<=xs.length:=of_decide_eq_true c;have e:decide ((xs.length:Int)<=(hi:Int))=false:=w6 λz=>hn ⟨by lia,by lia⟩;rw[e];exact dI (q H (Same.refl H))
 |@yes a xs t ha h1 h2 hx=>
  refine⟨_,rfl,_,_,rfl,.tup ha,_,rfl,bV ?_⟩;refine⟨_,rfl,_,rfl,_,_,rfl,.inr ha,_,_,rfl,rfl,_,rfl,?_⟩;have e1:decide ((lo:Int)<=(xs.length:Int))=true:=v6 (by lia);have e2:decide ((xs.length:Int)<=(hi:Int))=true:=v6 (by lia);rw[e1];refine dI ⟨_,rfl,_,_,rfl,rfl,_,rfl,?_⟩;rw[e2];refine bV ?_;dsimp only[pO,uX,tCB,dR];refine aDm xs (λx=>.bl (t x)) [none,some (.ref g)] ?_ (small (by lia)) (λR r=>aL3 ha (λR' r'=>⟨_,rfl,r'⟩) R r) (λx hx' H' R l sm r=>?_) rfl λD H' sm hD=>?_
  ·exact uM 3 (by decide +kernel) rfl rfl (by trivial)
  ·exact⟨_,rfl,g,ps,_,rfl,hg,_,rfl,x,t x,rfl,hR.same sm (hx x hx'),r⟩
  ·refine⟨D,xs.map t,rfl,SqL.of (by rw[hD,bB0];rfl),?_⟩;rw[List.all_map];exact q H' sm
theorem aCc (T:Txt w K mg):Ok P w K mg base 1 "are_unlike" ["names"] (aDa K):=by
 refine Ok.ofV T.aEa aCp (λvs H Q E h=>?_) (λf cdv A outer s H vs Q E hr h=>?_)
 ·obtain⟨a,ss,rfl,_⟩:=h;rfl
 obtain⟨a,ss,rfl,ha,hl,q⟩:=h;refine⟨_,(aG (aN (dC eU (aO aJ8 (by rfl) T.fM dF (aC (cV (aLt rfl) (by rfl) T.aWq aSb (aC (vv 0) aB)) aB)) (aO bI (by rfl) T.fM dF (aC (vv 0) aB)) (bF _)))),?_⟩;refine⟨_,rfl,a,ss,rfl,ha,hl,λD hD=>⟨D,ss,rfl,aJ,_,rfl,a,_,rfl,.inl ((aV hD _).seq ha),rfl,?_⟩⟩;have e:decide (V.int ((nG ss).length:Nat)=V.int (ss.map V.str).length)=decide ((nG ss).length=ss.length):=by
  rw[j9];by_cases z:(nG ss).length=ss.length
  ·rw[z];simp
  ·rw[w6 z,w6 (by intro y;apply z;have:=V.int.inj y;lia)]
 rw[e];exact q _ (aV hD _)
abbrev kinds:List V:=[.str "number",.str "word"]
inductive aF5 (K:bET)(H:Hp):V->Bool->Prop
 |no {v}:Tk K H v false->aF5 K H v false
 |len {a xs}:SqT K H a xs->xs.length≠2->aF5 K H (.ref a) false
 |two {a x y}:SqT K H a [x,y]->Th K H x->Th K H y->aF5 K H (.ref a) (nameB x && (isS y && inV y kinds))
theorem aOp (K:bET):Tells (aF5 K):=⟨λe h=>by
 cases h with
 |no q=>exact .no (Tk.same e q)
 |len q n=>exact .len (e.aY q) n
 |two q x y=>exact .two (e.aY q) (x.same e) (y.same e)⟩
theorem aEf (T:Txt w K mg)(jL:Ok P w K mg base 2 "is_name" ["thing"] (aCx K nameB))(jQ:Ok P w K mg base 1 "is_one_of" ["thing","texts"] (aLo K)):Ok P w K mg base 3 "is_column" ["thing"] (aYb (aF5 K)):=by
 refine Ok.ofV T.aH3 aE2 (λvs H Q E h=>?_) (λf cdv A outer s H vs Q E hr h=>?_)
 ·obtain⟨v,b,rfl,_⟩:=h;rfl
 obtain⟨v,b,rfl,hv,q⟩:=h;obtain⟨ka,mk,hka⟩:=T.aF3;have aF3:∃u,mg "KINDS"=some u/\RelV (.ref ka) u:=⟨_,mk,rfl⟩;refine⟨_,(aD (bZ (VW.pt (iM (cI (cA (aO jB (by rfl) T.bN bJ (aC (vv 0) (aC (dY (v:=.ty "tuple") (by rfl) T.jO fP rfl) aB))))) (gC (bH aDh (aO bI (by rfl) T.fM dF (aC (vv 0) aB)) aH (bF _))))) (aG (aN gK)) aZ) (aG (aN (iW (aQ (jL.mono (by decide)) hr (by rfl) (aC (aW bK (vv 0) aH (λ_ _=>rfl)) aB)) (jE (aQ (jQ.mono (by decide)) hr (by rfl) (aC (aW bK (vv 0) aH (λ_ _=>rfl)) (aC (sX (by rfl) aF3) aB)))))))),?_⟩;cases hv with
 |no h=>exact⟨_,rfl,_,_,rfl,h,_,rfl,dI (q H (Same.refl H))⟩
 |@len a xs ha hn=>
  refine⟨_,rfl,_,_,rfl,.tup ha,_,rfl,bV ?_⟩;refine⟨_,rfl,_,_,rfl,.inr ha,rfl,_,rfl,?_⟩;have e:(!decide (V.int (xs.length:Nat)=V.int 2))=true:=by rw[w6 (by intro y;apply hn;have:=V.int.inj y;lia)];rfl
  rw[e];exact dI (q H (Same.refl H))
 |@two a x y ha hx hy=>
  refine⟨_,rfl,_,_,rfl,.tup ha,_,rfl,bV ?_⟩;refine⟨_,rfl,_,_,rfl,.inr ha,rfl,_,rfl,bV ?_⟩;refine⟨_,rfl,a,_,0,_,rfl,rfl,ha,at0 _ _,x,rfl,hx,λH1 s1=>⟨_,rfl,?_⟩⟩;cases hn:nameB x with
  |false=>rw[hn] at q;exact bV (q H1 s1)
  |true=>rw[hn] at q;refine dI ⟨_,rfl,a,_,1,_,rfl,rfl,s1.aY ha,at1 _ _ _,y,ka,kinds,rfl,hy.same s1,hka _,rfl,q H1 s1⟩
def kindS (v:V):Str:=if whole v then "number" else "word"
def aK5 (K:bET):Sp:=λvs H Q _=>∃v k,vs=[v,.str k]/\Th K H v/\∀H',Same H H'->Q (.bl (aKd v && decide (kindS v=k))) H'
theorem aAw (T:Txt w K mg)(aJ7:Ok P w K mg base 2 "is_value" ["thing"] (aCx K aKd))(aOm:Ok P w K mg base 2 "kind_of" ["value"] (aM2 K)):Ok P w K mg base 3 "is_value_of" ["thing","kind"] (aK5 K):=by
 refine Ok.ofV T.aCt aAp (λvs H Q E h=>?_) (λf cdv A outer s H vs Q E hr h=>?_)
 ·obtain⟨v,k,rfl,_⟩:=h;rfl
 obtain⟨v,k,rfl,hv,q⟩:=h;refine⟨_,(aG (aN (iW (aQ (aJ7.mono (by decide)) hr (by rfl) (aC (vv 0) aB)) (jE (dC eU (aQ (aOm.mono (by decide)) hr (by rfl) (aC (vv 0) aB)) (vv 1) (bF _)))))),?_⟩;refine⟨_,rfl,v,rfl,hv,λH1 s1=>⟨_,rfl,?_⟩⟩;cases hvb:aKd v with
 |false=>rw[hvb] at q;exact bV (q H1 s1)
 |true=>rw[hvb] at q;refine dI ⟨_,rfl,v,rfl,hv.same s1,_,rfl,rfl,?_⟩;have z:decide (V.str (if whole v then "number" else "word")=V.str k)=decide (kindS v=k):=decide_eq_decide.mpr ⟨λy=>V.str.inj y,λy=>congrArg V.str y⟩;rw[z];exact q H1 s1
theorem at2 (x y z:V)(r:List V):atI (x::y::z::r) 2=some z:=by unfold atI ixN;simp only[v5];rw[if_pos (by lia),if_pos (by lia)];rfl
theorem aKb {K:bET}{H:Hp}{x:Str}(h:x.length<=8):Th K H (.str x):=.inl ⟨x,rfl,by lia⟩
def Nm (x:Str):Prop:=nameB (.str x)=true
theorem aSf {x:Str}(h:nameB (.str x)=true):x.length<=8:=by have h:(sE 1 (.str x) && !inV (.str x) words)=true:=h;rw[bAU] at h;obtain⟨y,e,_,h8,_⟩:=aF9 h.1;cases e;exact h8
theorem Nm.th {K:bET}{H:Hp}{x:Str}(h:Nm x):Th K H (.str x):=aKb (aSf h)
inductive cH {α β:Type}(R:α->β->Prop):List α->List β->Prop
 |nil:cH R [] []
 |cons {a b as bs}:R a b->cH R as bs->cH R (a::as) (b::bs)
theorem cH.len {α β:Type}{R:α->β->Prop}{as:List α}{bs:List β}(h:cH R as bs):as.length=bs.length:=by
 induction h with
 |nil=>rfl
 |cons _ _ ih=>rw[v5,v5,ih]
theorem cH.imp {α β:Type}{R S:α->β->Prop}{as:List α}{bs:List β}(h:cH R as bs)(k:∀a b,R a b->S a b):cH S as bs:=by
 induction h with
 |nil=>exact .nil
 |cons r _ ih=>exact .cons (k _ _ r) ih
theorem cH.mem {α β:Type}{R:α->β->Prop}{as:List α}{bs:List β}(h:cH R as bs){a:α}(m:a∈as):∃b,b∈bs/\R a b:=by
 induction h with
 |nil=>cases m
 |cons r _ ih=>
  rcases List.mem_cons.mp m with rfl|m
  ·exact⟨_,m9 ..,r⟩
  ·obtain⟨b,hb,q⟩:=ih m;exact⟨b,j8 _ hb,q⟩
theorem cH.app {α β:Type}{R:α->β->Prop}{as cs:List α}{bs ds:List β}(h:cH R as bs)(k:cH R cs ds):cH R (as++cs) (bs++ds):=by
 induction h with
 |nil=>exact k
 |cons r _ ih=>exact .cons r ih
def uD {α:Type}(K:bET)(H:Hp)(R:V->α->Prop)(v:V)(xs:List α):Prop:=∃a vs,v=.ref a/\SqT K H a vs/\cH R vs xs
theorem uD.same {α:Type}{K:bET}{H H':Hp}{R S:V->α->Prop}{v:V}{xs:List α}(e:Same H H')(k:∀a b,R a b->S a b)(h:uD K H R v xs):uD K H' S v xs:=by obtain⟨a,vs,rfl,ha,hr⟩:=h;exact⟨a,vs,rfl,e.aY ha,hr.imp k⟩
abbrev Hdr:=List (Str × Str)
def IsC (K:bET)(H:Hp)(v:V)(c:Str × Str):Prop:=∃p,v=.ref p/\SqT K H p [.str c.1,.str c.2]
theorem IsC.same {K:bET}{H H':Hp}{v:V}{c:Str × Str}(e:Same H H')(h:IsC K H v c):IsC K H' v c:=by obtain⟨p,rfl,hp⟩:=h;exact⟨p,rfl,e.aY hp⟩
def lA (K:bET)(H:Hp)(v:V)(hd:Hdr):Prop:=uD K H (IsC K H) v hd
theorem lA.same {K:bET}{H H':Hp}{v:V}{hd:Hdr}(e:Same H H')(h:lA K H v hd):lA K H' v hd:=uD.same e (λ_ _ q=>q.same e) h
def look (hd:Hdr)(n:Str):Option Str:=(hd.find? λc=>decide (c.1=n)).map (·.2)
theorem aE5 {n k:Str}:∀{hd:Hdr},look hd n=some k->∃i,hd[i]?=some (n,k)/\∀(j:Nat) (c:Str × Str),j<i->hd[j]?=some c->c.1≠n
 |[],h=>by cases h
 |(m,j)::r,h=>by
  unfold look at h;rw[bCC] at h;by_cases e:m=n
  ·rw[v6 (p:=(m,j).1=n) e] at h;have h':j=k:=bAQ h;subst e h';exact⟨0,rfl,λj c hj=>absurd hj (bCT _)⟩
  ·rw[w6 (p:=(m,j).1=n) e] at h;obtain⟨i,h1,h2⟩:=aE5 (hd:=r) h;refine⟨i+1,by simpa using h1,λj' c hj hc=>?_⟩;cases j' with
   |zero=>cases hc;exact e
   |succ j'=>exact h2 j' c (by lia) (by simpa using hc)
theorem cB {α β:Type}{R:α->β->Prop}:∀{as:List α} {bs:List β},cH R as bs->∀{i:Nat} {a:α},as[i]?=some a->∃b,bs[i]?=some b/\R a b
 |_,_,.cons r t,0,_,h1=>by cases h1;exact⟨_,rfl,r⟩
 |_,_,.cons r t,i+1,a,h1=>by obtain⟨b,e,q⟩:=cB t (i:=i) (a:=a) (by simpa using h1);exact⟨b,by simpa using e,q⟩
def aSk (K:bET):Sp:=λvs H Q _=>∃vh n hd k,vs=[vh,.str n]/\lA K H vh hd/\look hd n=some k/\Q (.str k) H
theorem aK1 (T:Txt w K mg):Ok P w K mg base 1 "kind_in" ["head","name"] (aSk K):=by
 refine Ok.ofV T.aO9 aAe (λvs H Q E h=>?_) (λf cdv A outer s H vs Q E hr h=>?_)
 ·obtain⟨vh,n,hd,k,rfl,_⟩:=h;rfl
 obtain⟨vh,n,hd,k,rfl,⟨a,us,rfl,ha,hu⟩,hk,q⟩:=h;refine⟨_,(aD (eN PassesOwn.never rfl (qG (vv 0)) (aU (i:=2) aAe.nd rfl (by trivial)) (aG (bZ (bH eU (aW (cT (K:=K)) (vv 2) aH (λ_ _=>rfl)) (vv 1) (bF _)) (aG (aN (aW (cT (K:=K)) (vv 2) aH (λ_ _=>rfl)))) aZ))) (aG nH)),?_⟩;obtain⟨i0,h0,hf⟩:=aE5 hk;have hi0:i0<us.length:=by rw[hu.len];exact (List.getElem?_eq_some_iff.mp h0).1
 refine⟨_,rfl,a,rfl,⟨_,ha⟩,aT6 (xs:=us) (λi σ H'=>H'=H/\i<=i0/\∃l,σ=[some (.ref a),some (.str n),l]) ⟨rfl,bAJ _,_,rfl⟩ (λi σ H' _ ⟨e,_⟩=>by rw[e];exact ha) ?_ ?_⟩
 ·rintro i x σ H' hx ⟨rfl,hi,l,rfl⟩;obtain⟨c,hc,p,rfl,hp⟩:=cB hu hx;refine⟨_,rfl,p,_,0,_,rfl,rfl,hp,at0 _ _,_,rfl,rfl,_,rfl,?_⟩;by_cases e:i=i0
  ·subst e;rw[h0] at hc;cases hc;rw[v6 rfl];exact dI ⟨_,rfl,p,_,1,_,rfl,rfl,hp,at1 _ _ _,q⟩
  ·have hn:=hf i c (by lia) hc;rw[w6 (by intro z;exact hn (V.str.inj z))];exact bV ⟨rfl,by lia,_,rfl⟩
 ·rintro σ H' ⟨rfl,hi,_⟩;lia
theorem aRm {α:Type}{f:α->V}{xs:List α}{i:Nat}{y:V}(h:(xs.map f)[i]?=some y):∃x,xs[i]?=some x/\y=f x:=by
 rw[v4] at h;cases e:xs[i]? with
 |none=>rw[e] at h;cases h
 |some x=>rw[e] at h;cases h;exact⟨x,rfl,rfl⟩
def Good (hd:Hdr):Prop:=(hd.map (·.1)).Nodup/\1<=hd.length/\hd.length<=8
def aFg (K:bET):Sp:=λvs H Q _=>∃v hd,vs=[v]/\lA K H v hd/\hd.length<=1000/\∀D H',Same H H'->H' D=some (.lst ((hd.map (·.1)).map V.str))->Q (.ref D) H'
theorem aF0 (T:Txt w K mg):Ok P w K mg base 1 "names_of" ["head"] (aFg K):=by
 refine Ok.ofV T.aLq aI2 (λvs H Q E h=>?_) (λf cdv A outer s H vs Q E hr h=>?_)
 ·obtain⟨v,hd,rfl,_⟩:=h;rfl
 obtain⟨v,hd,rfl,⟨a,us,rfl,ha,hu⟩,hl,q⟩:=h;refine⟨_,(aG (aN (dB (N:=["column"]) (by trivial) (lC (by decide +kernel)) rfl (qG (vv 0)) (λcl s' H' fp=>⟨(aU (i:=0) (show (["column"]:List Str).Nodup from by decide +kernel) rfl (Or.inl rfl)),gH,(aW (cT (K:=K)) (vv 0) aH (λ_ _=>rfl))⟩)))),?_⟩;have lu:=hu.len;refine aUg us ((hd.map (·.1)).map V.str) (by rw[j9,j9];lia) [none] xB (small (by lia)) (λR r=>aL3 ha (λR' r'=>⟨_,rfl,r'⟩) R r) (λi x y ex ey H' R l sm r=>?_) rfl λD H' sm hD=>q D H' sm hD;obtain⟨c,hc,p,rfl,hp⟩:=cB hu ex;obtain⟨n,hn,rfl⟩:=aRm ey;rw[v4,hc] at hn;cases hn;exact⟨_,rfl,p,_,0,_,rfl,rfl,sm.aY hp,at0 _ _,r H' (Same.refl H')⟩
def plc:Hdr->Str->Nat
 |[],_=>0
 |c::r,n=>if c.1=n then 0 else plc r n+1
theorem aD7 {n k:Str}:∀{hd:Hdr},look hd n=some k->hd[plc hd n]?=some (n,k)/\∀(j:Nat) (c:Str × Str),j<plc hd n->hd[j]?=some c->c.1≠n
 |[],h=>by cases h
 |(m,q)::r,h=>by
  unfold look at h;rw[bCC] at h;by_cases e:m=n
  ·rw[v6 (p:=(m,q).1=n) e] at h;have h':q=k:=bAQ h;subst e h';have z:plc ((m,q)::r) m=0:=if_pos rfl;rw[z];exact⟨rfl,λj c hj=>absurd hj (bCT _)⟩
  ·rw[w6 (p:=(m,q).1=n) e] at h;obtain⟨h1,h2⟩:=aD7 (hd:=r) h;have z:plc ((m,q)::r) n=plc r n+1:=if_neg e;rw[z];refine⟨by simpa using h1,λj c hj hc=>?_⟩;cases j with
   |zero=>cases hc;exact e
   |succ j=>exact h2 j c (by lia) (by simpa using hc)
def uV (K:bET):Sp:=λvs H Q _=>∃vh n hd k,vs=[vh,.str n]/\lA K H vh hd/\hd.length<=1000/\look hd n=some k/\∀H',Same H H'->Q (.int (plc hd n:Nat)) H'
theorem aHm (T:Txt w K mg)(lK:Ok P w K mg base 1 "names_of" ["head"] (aFg K)):Ok P w K mg base 2 "place_of" ["head","name"] (uV K):=by
 refine Ok.ofV T.aL8 aGv (λvs H Q E h=>?_) (λf cdv A outer s H vs Q E hr h=>?_)
 ·obtain⟨vh,n,hd,k,rfl,_⟩:=h;rfl
 obtain⟨vh,n,hd,k,rfl,hI,hl,hk,q⟩:=h;obtain⟨h1,h2⟩:=aD7 hk;refine⟨_,(aG (aN (nP PySem.F.plainAttrs_list PySem.F.slot_list_index PySem.F.type_list_index aC1 (aQ (lK.mono (by decide)) hr (by rfl) (aC (vv 0) aB)) (aC (vv 1) aB)))),?_⟩;refine⟨_,rfl,vh,hd,rfl,hI,hl,λD H1 s1 g1=>?_⟩;refine⟨.inl ⟨rfl,_,SqL.of g1⟩,_,rfl,D,hd.map (·.1),n,plc hd n,rfl,rfl,SqL.of g1,by rw[j9];exact hl,by rw[v4,h1];rfl,λj m hj hm=>?_,q H1 s1⟩;rw[v4] at hm;obtain⟨c,hc,rfl⟩:=Option.map_eq_some_iff.mp hm;exact h2 j c hj hc
theorem aMv {n:Str}{ss:List Str}:inV (.str n) (ss.map V.str)=decide (n∈ss):=by
 unfold inV;rw[bCL,bDJ,decide_eq_true_eq];constructor
 ·rintro⟨v,hv,e⟩;obtain⟨z,hz,rfl⟩:=List.mem_map.mp hv;have e2:(z == n)=true:=e;have e3:z=n:=by simpa using e2
  rw[<-e3];exact hz
 ·intro h;refine⟨.str n,List.mem_map.mpr ⟨n,h,rfl⟩,?_⟩;show (n == n)=true;simp
theorem aGh {ss:List Str}:(ss.map V.str).all lM=true:=by rw[bB3];intro v hv;obtain⟨z,_,rfl⟩:=List.mem_map.mp hv;rfl
theorem aN2 {z:Str}{j:Int}(h0:0<=j)(h1:j<z.length):∃c,z.cps[j.toNat]?=some c:=
 ⟨_,t8 (by show j.toNat<z.length;lia)⟩
theorem aFy (x y:Str):(x++y).length=x.length+y.length:=by show (x.cps++y.cps).size=_;rw[Array.size_append];rfl
theorem at_of {xs:List V}{j:Int}(h0:0<=j)(h1:j<xs.length):∃v,atI xs j=some v/\v∈xs:=by
 have hj:j.toNat<xs.length:=by lia
 refine⟨xs[j.toNat],?_,bAR hj⟩;have e2:atI xs ((j.toNat:Nat):Int)=some xs[j.toNat]:=eQ (d9 hj);rw[show ((j.toNat:Nat):Int)=j by lia] at e2;exact e2
def Lets (x:Str):Prop:=∀c∈x.cps,97<=c/\c<=122
theorem aWd:∀k:_root_.Fin 26,inA ⟨#[97+k.val]⟩=true:=by decide +kernel
theorem aW9 {c:Nat}(h1:97<=c)(h2:c<=122):inA ⟨#[c]⟩=true:=by have:=aWd ⟨c - 97,by lia⟩;simp only at this;rw[show 97+(c - 97)=c by lia] at this;exact this
theorem allIn_of {x:Str}(h:Lets x):allIn x=true:=by
 unfold allIn;rw[bB3];intro b hb;obtain⟨i,hi,rfl⟩:=List.mem_map.mp hb;have hi':i<x.cps.size:=List.mem_range.mp hi;have e:x.cps.getD i 0=x.cps[i]:=by rw[v7,t8 hi'];rfl
 obtain⟨h1,h2⟩:=h _ (Array.getElem_mem hi');show inA (sgn x i)=true;unfold sgn;rw[e];exact aW9 h1 h2
theorem Lets.add {x y:Str}(hx:Lets x)(hy:Lets y):Lets (x++y):=λc hc=>by
 have hc:c∈x.cps++y.cps:=hc;rcases Array.mem_append.mp hc with h|h
 ·exact hx c h
 ·exact hy c h
theorem Lets.one {z:Str}{i c:Nat}(hz:Lets z)(h:z.cps[i]?=some c):Lets ⟨#[c]⟩:=λd hd=>by
 have hd:d∈#[c]:=hd;have e:d=c:=by simpa using hd
 subst e;exact hz _ (Array.mem_of_getElem? h)
theorem aIu:Lets abc:=by
 have h:(abc.cps.all λc=>decide (97<=c) && decide (c<=122))=true:=by decide +kernel
 intro c hc;have:=(Array.all_eq_true_iff_forall_mem.mp h) c hc;rw[bAU] at this;exact⟨of_decide_eq_true this.1,of_decide_eq_true this.2⟩
inductive cG:Str->V->Prop
 |num {i}:cG "number" (.int i)
 |wrd {x}:Lets x->x.length<=8->cG "word" (.str x)
def val (c:Nat):Int:=(c:Int) - 96
def num (x:Str):Nat->Int
 |0=>0
 |n+1=>num x n * 27+val (x.cps.getD n 0)
theorem aVs:∀k:_root_.Fin 26,Builtin.Str.occurrences abc ⟨#[97+k.val]⟩ 0 abc.length 1=[k.val]:=by decide +kernel
theorem occ {c:Nat}(h1:97<=c)(h2:c<=122):Builtin.Str.occurrences abc ⟨#[c]⟩ 0 abc.length 1=[c - 97]:=by
 have h:=aVs ⟨c - 97,by lia⟩;have e:97+(c - 97)=c:=by lia
 simpa [e] using h
def Vl (v:V):Prop:=(∃i,v=.int i)\/∃x,v=.str x/\Lets x/\x.length<=8
def nm:V->Int
 |.int i=>i
 |.str x=>num x x.cps.size
 |_=>0
theorem Lets.at {x:Str}(h:Lets x){i:Nat}(hi:i<x.cps.size):97<=x.cps.getD i 0/\x.cps.getD i 0<=122:=by rw[v7,t8 hi];exact h _ (Array.getElem_mem hi)
theorem Vl.th {K:bET}{H:Hp}{v:V}(h:Vl v):Th K H v:=by
 rcases h with⟨i,rfl⟩|⟨x,rfl,_,h8⟩
 ·exact .inr (.inl ⟨i,rfl⟩)
 ·exact .inl ⟨x,rfl,by lia⟩
def aNx:Sp:=λvs H Q _=>∃x,vs=[.str x]/\Lets x/\Q (.int (num x x.cps.size)) H
def aN1:Sp:=λvs H Q _=>∃v h,vs=[v,.int h]/\Vl v/\0<h/\Q (.int (nm v % h)) H
theorem zR (T:Txt w K mg):Ok P w K mg base 1 "word_number" ["word"] aNx:=by
 refine Ok.ofV T.aB7 iI (λvs H Q E h=>?_) (λf cdv A outer s H vs Q E hr h=>?_)
 ·obtain⟨v,rfl,_⟩:=h;rfl
 obtain⟨x,rfl,hx,q⟩:=h;refine⟨_,(aD (aX (i:=1) iI.nd rfl (by trivial) aH) (aD (eN PassesOwn.never rfl (aLs (vv 0)) (aU (i:=2) iI.nd rfl (by trivial)) (aG (aX (i:=1) iI.nd rfl (by trivial) (bM dG (bM dG (bM uH (vv 1) (sX (by rfl) T.aIo)) (nP PySem.F.plainAttrs_str PySem.F.slot_str_index PySem.F.type_str_index aJa (sX (by rfl) T.aDl) (aC (vv 2) aB))) aH)))) (aG (aN (vv 1))))),?_⟩;refine⟨_,rfl,_,rfl,aNl (x:=x) (λi σ H'=>H'=H/\∃l,σ=[some (.str x),some (.int (num x i)),l]) ⟨rfl,_,rfl⟩ ?_ ?_⟩
 ·rintro i σ H' hi ⟨rfl,l,rfl⟩;obtain⟨h1,h2⟩:=hx.at hi;refine⟨_,rfl,_,_,rfl,rfl,.inr ⟨by decide,by decide⟩,rfl,_,rfl,_,_,_,_,rfl,rfl,occ h1 h2,_,_,rfl,rfl,_,_,rfl,rfl,rfl,some (.str (sgn x i)),?_⟩;have e:num x i * 27+((x.cps.getD i 0 - 97:Nat):Int)+1=num x (i+1):=by show num x i * 27+((x.cps.getD i 0 - 97:Nat):Int)+1=num x i * 27+((x.cps.getD i 0:Int) - 96);lia
  exact congrArg (λn=>[some (V.str x),some (V.int n),some (V.str (sgn x i))]) e
 ·rintro σ H' ⟨rfl,l,rfl⟩;exact⟨_,rfl,q⟩
theorem aV1 (T:Txt w K mg)(dX:Ok P w K mg base 1 "is_whole" ["thing"] (nQ K))(aCk:Ok P w K mg base 1 "word_number" ["word"] aNx):Ok P w K mg base 2 "home" ["value","houses"] aN1:=by
 refine Ok.ofV T.aYf aN4 (λvs H Q E h=>?_) (λf cdv A outer s H vs Q E hr h=>?_)
 ·obtain⟨v,h,rfl,_⟩:=h;rfl
 obtain⟨v,h,rfl,hv,h0,q⟩:=h;refine⟨_,(aD (aX (i:=2) aN4.nd rfl (by trivial) (aHk (cA (aQ (dX.mono (by decide)) hr (by rfl) (aC (vv 0) aB))) (vv 0) (aQ (aCk.mono (by decide)) hr (by rfl) (aC (vv 0) aB)))) (aG (aN (bM oR (vv 2) (vv 1))))),?_⟩;have ht:=hv.th (K:=K) (H:=H);rcases hv with⟨i,rfl⟩|⟨x,rfl,hx,h8⟩
 ·exact⟨_,rfl,_,rfl,ht,_,rfl,dI ⟨_,rfl,_,rfl,_,rfl,_,_,rfl,rfl,h0,q⟩⟩
 ·exact⟨_,rfl,_,rfl,ht,_,rfl,bV ⟨_,rfl,_,rfl,hx,_,rfl,_,rfl,_,_,rfl,rfl,h0,q⟩⟩
def aAt:Sp:=λvs H Q _=>∃i m:Int,vs=[.int i,.int m]/\Q (.bl (decide (0<=i) && decide (i<m))) H
theorem tR (T:Txt w K mg)(dX:Ok P w K mg base 1 "is_whole" ["thing"] (nQ K)):Ok P w K mg base 2 "is_number_below" ["thing","many"] aAt:=by
 refine Ok.ofV T.vR uF (λvs H Q E h=>?_) (λf cdv A outer s H vs Q E hr h=>?_)
 ·obtain⟨i,m,rfl,_⟩:=h;rfl
 obtain⟨i,m,rfl,q⟩:=h;refine⟨_,(aG (aN (iW (aQ (dX.mono (by decide)) hr (by rfl) (aC (vv 0) aB)) (jE (aSl zU aS8 aH (vv 0) (vv 1)))))),?_⟩;refine⟨_,rfl,_,rfl,.inr (.inl ⟨i,rfl⟩),_,rfl,dI ?_⟩;refine⟨_,rfl,_,_,rfl,rfl,_,rfl,?_⟩;cases h0:decide (0<=i) with
 |false=>rw[h0] at q;exact bV q
 |true=>rw[h0] at q;exact dI ⟨_,rfl,_,_,rfl,rfl,q⟩
end
end My
namespace PySem.W
open PySem PySem.Calls PyProof.Rows
def KasT.ev {α:Type}(f:Nat->Nat->Bool):KasT α->α
 |.ret a=>a
 |.ask i j k=>(k (f i j)).ev f
inductive KasT.Low {α:Type}(n:Nat)(P:α->Prop):KasT α->Prop
 |ret {a}:P a->KasT.Low n P (.ret a)
 |ask {i j k}:i<n->j<n->(∀b,KasT.Low n P (k b))->KasT.Low n P (.ask i j k)
theorem KasT.Low.bind {α β:Type}{n:Nat}{P:α->Prop}{R:β->Prop}{t:KasT α}{f:α->KasT β}(h:t.Low n P)(hf:∀a,P a->(f a).Low n R):(t.bind f).Low n R:=by
 induction h with
 |ret h=>exact hf _ h
 |ask a b _ ih=>exact .ask a b ih
theorem KasT.Low.of {α:Type}{n:Nat}{P:α->Prop}{t:KasT α}(h:t.Low n P)(f:Nat->Nat->Bool):P (t.ev f):=by
 induction h with
 |ret h=>exact h
 |@ask i j k a b _ ih=>exact ih (f i j)
theorem aY1 {α:Type}{n:Nat}{P:α->Prop}{f:Nat->Nat->Bool}{cmp:Nat->Nat->(Bool->Shared->Prop)->Shared->Prop}{s:Shared}(hc:∀i j C,i<n->j<n->C (f i j) s->cmp i j C s){t:KasT α}(h:t.Low n P){Q:α->Shared->Prop}(q:Q (t.ev f) s):t.kasWp cmp Q s:=by
 induction h with
 |ret h=>exact q
 |@ask i j k a b _ ih=>exact hc i j _ a b (ih (f i j) q)
def Pl (n:Nat)(p:Array Nat):Prop:=p.size=n/\∀k,p.getD k 0<n
theorem Pl.perm {n:Nat}{p q:Array Nat}(h:Pl n p)(e:q.Perm p)(h0:0<n):Pl n q:=by
 refine⟨e.size_eq.trans h.1,λk=>?_⟩;by_cases hk:k<q.size
 ·have hm:q[k]∈p.toList:=(Array.perm_iff_toList_perm.mp e).mem_iff.mp (by simp);obtain⟨j,hj,ej⟩:=bCB hm;have hj':j<p.size:=by simpa using hj
  have:=h.2 j;rw[v7,t8 hj',bCR] at this;rw[v7,t8 hk,bCR,<-ej];simpa using this
 ·rw[v7,bB9 (by lia)];exact h0
theorem aEv {n:Nat}{p:Array Nat}(h:Pl n p):∀f m,(kas_asc p f m).Low n (λr=>m<=r/\r<=m+f)
 |0,m=>.ret ⟨j6 _,j6 _⟩
 |f+1,m=>by
  refine .ask (h.2 _) (h.2 _) λc=>?_;by_cases e:c=true
  ·rw[if_pos e];exact .ret ⟨j6 _,by lia⟩
  ·rw[if_neg e];have z:=aEv h f (m+1);generalize kas_asc p f (m+1)=t at z
   induction z with
   |ret q=>exact .ret ⟨by lia,by lia⟩
   |ask a b _ ih=>exact .ask a b ih
theorem uQ {n:Nat}(h0:0<n):∀(f:Nat) (p:Array Nat) (m q:Nat),Pl n p->(kas_desc f p m q).Low n (λr=>Pl n r.1)
 |0,p,m,q,h=>.ret h
 |f+1,p,m,q,h=>by
  refine .ask (h.2 _) (h.2 _) λc=>?_;by_cases e:c=true
  ·rw[if_pos e];by_cases e2:q > 0
   ·rw[if_pos e2];exact uQ h0 f _ _ _ (h.perm (mirror_perm _ _ _ _) h0)
   ·rw[if_neg e2];exact uQ h0 f _ _ _ h
  ·rw[if_neg e];refine .ask (h.2 _) (h.2 _) λd=>?_;by_cases e3:d=true
   ·rw[if_pos e3];exact .ret h
   ·rw[if_neg e3];exact uQ h0 f _ _ _ h
theorem aDx {n:Nat}(h0:0<n){p:Array Nat}(h:Pl n p)(m nrem:Nat):(kas_tail3 m nrem p).Low n (λr=>Pl n r.2):=by have h':Pl n (kas_rev p 0 m):=h.perm (mirror_perm _ _ _ _) h0;exact (aEv h' _ _).bind λ_ _=>.ret h'
theorem vM {n:Nat}(h0:0<n){p:Array Nat}(h:Pl n p)(m nrem:Nat):(kas_descPart m nrem p).Low n (λr=>Pl n r.2):=by
 refine (uQ h0 _ _ _ _ h).bind λr hr=>?_;by_cases e:r.2.2 > 0
 ·rw[if_pos e];exact aDx h0 (hr.perm (mirror_perm _ _ _ _) h0) _ _
 ·rw[if_neg e];exact aDx h0 hr _ _
theorem aP6 {n:Nat}(h0:0<n){p:Array Nat}(h:Pl n p)(nrem:Nat):(kas_count nrem p).Low n (λr=>Pl n r.2):=by
 refine (aEv h _ _).bind λm _=>?_;by_cases e:(m == nrem)=true
 ·rw[if_pos e];exact .ret h
 ·rw[if_neg e];by_cases e2:m > 1
  ·rw[if_pos e2];refine .ask (h.2 _) (h.2 _) λc=>?_;by_cases e3:c=true
   ·rw[if_pos e3];exact .ret h
   ·rw[if_neg e3];exact vM h0 (h.perm (mirror_perm _ _ _ _) h0) _ _
  ·rw[if_neg e2];exact vM h0 h _ _
theorem xP {n:Nat}{p:Array Nat}(h:Pl n p)(k:Nat):∀f l r,(kas_place p k f l r).Low n (λ_=>True)
 |0,l,r=>.ret trivial
 |f+1,l,r=>by
  unfold kas_place;by_cases e:l ≥ r
  ·rw[if_pos e];exact .ret trivial
  ·rw[if_neg e];refine .ask (h.2 _) (h.2 _) λc=>?_;by_cases e2:c=true
   ·rw[if_pos e2];exact xP h k f _ _
   ·rw[if_neg e2];exact xP h k f _ _
theorem aN3 {n:Nat}(h0:0<n):∀(f:Nat) (p:Array Nat) (k:Nat),Pl n p->(kas_bin f p k).Low n (Pl n)
 |0,p,k,h=>.ret h
 |f+1,p,k,h=>(xP h k k 0 k).bind λl _=>aN3 h0 f _ _ (h.perm (bubble_perm _ _ _) h0)
theorem aTh {n:Nat}(h0:0<n):Pl n (List.toArray (List.range n)):=by
 refine⟨by simp,λk=>?_⟩;rw[v7,bDC];by_cases h:k<n
 ·rw[bCA h];exact h
 ·rw[bAK (by simpa using h)];exact h0
theorem vX {n:Nat}(h0:0<n):(kas_sort n).Low n (Pl n):=by
 refine (aP6 h0 (aTh h0) n).bind λr hr=>?_;by_cases e:r.1<n
 ·rw[if_pos e];exact aN3 h0 _ _ _ hr
 ·rw[if_neg e];exact .ret hr
def dZ (n:Nat)(f:Nat->Nat->Bool):List Nat:=if n<2 then List.range n else ((kas_sort n).ev f).toList
theorem wI (n:Nat)(f:Nat->Nat->Bool):(dZ n f).length=n:=by
 unfold dZ;by_cases h:n<2
 ·rw[if_pos h,bAN]
 ·rw[if_neg h,bAA];exact ((vX (by lia)).of f).1
theorem rQ {n:Nat}{f:Nat->Nat->Bool}{i:Nat}(h:i∈dZ n f):i<n:=by
 unfold dZ at h;by_cases h2:n<2
 ·rw[if_pos h2] at h;exact List.mem_range.mp h
 ·rw[if_neg h2] at h;have z:=(vX (n:=n) (by lia)).of f;obtain⟨j,hj,e⟩:=bCB h;have hj':j<((kas_sort n).ev f).size:=by simpa using hj
  have:=z.2 j;rw[v7,t8 hj',bCR] at this;rw[<-e];simpa using this
section
variable {prog:Program}{w:World}{A:Around}{E:bEU}{s:Shared}{f:Nat->Nat->Bool}
theorem yM {a:Addr}{vs:List Value}{n:Nat}{P:PySem.Fin->Shared->Prop}(ho:s.heap.get? a=some (seqObj "list" vs.toArray n))(h64:vs.length<64)
  (hk:2<=vs.length->∀h',(∀b o,b≠a->s.heap.get? b=some o->h'.get? b=some o)->∃κ,(∀(Q:SortKind->Shared->Prop),Q κ { s with heap:=h' }->wpAny (model prog w) A (keyKind' vs.toArray) Q (λ_ _=>False) { s with heap:=h' })/\∀i j (C:Bool->Shared->Prop),i<vs.length->j<vs.length->C (f i j) { s with heap:=h' }->kas_ask prog w A κ vs i j C { s with heap:=h' })
  (h:P (.done (.ret .none)) { s with heap:=sortedHeap s.heap a vs (List.toArray ((dZ vs.length f).map λi=>vs.getD i Value.none)) }) :
  wpAny (model prog w) A (Builtin.«list.sort» ⟨[.ref a],[]⟩) P E s:=by
 rw[list_sort_plain];have ha:a<s.heap.objs.size:=m8 ho;refine c7 (listItems_at ho rfl ?_);refine c7 (listUpdate_at ho rfl ?_ (by rw[m7,sizeLine_eq];lia) (bAJ _));obtain⟨e1,ho1⟩:∃e1,(s.heap.update a (Obj.mapSeq λ_=>#[])).get? a=some (seqObj "list" #[] e1):=⟨_,get?_update_seq ho (λ_=>#[])⟩;refine c7 (seqEpoch_at ho1 rfl ?_);refine c7 (bDY ?_ (by show vs.length<=_;rw[sizeLine_eq];lia));refine c7 (wpAny_newList ?_ (bAJ _));refine bAV ?_;have ho6:(((s.heap.update a (Obj.mapSeq λ_=>#[])).push (seqObj "tuple" vs.toArray 0)).push (seqObj "list" #[] 0)).get? a=some (seqObj "list" #[] e1):=by rw[bD0 _ _ _ (by rw[size_push',Heap.size_update];exact t7 (bBH ha)),bD0 _ _ _ (by rw[Heap.size_update];exact t7 ha)];exact ho1
 have keep:∀b o,b≠a->s.heap.get? b=some o->(((s.heap.update a (Obj.mapSeq λ_=>(#[]:Array Value))).push (seqObj "tuple" vs.toArray 0)).push (seqObj "list" #[] 0)).get? b=some o:=λb o ne q=>by refine j0 _ (j0 _ ?_);rw[bDK _ _ _ _ ne];exact q
 show wpAny (model prog w) A _ P E { s with heap:=((s.heap.update a (Obj.mapSeq λ_=>#[])).push (seqObj "tuple" vs.toArray 0)).push (seqObj "list" #[] 0) };dsimp only;have hsz:vs.toArray.size=vs.length:=by simp
 by_cases h2:vs.toArray.size<2
 ·rw[if_pos h2,if_pos h2];refine c7 (j4 ?_);rw[StateT.run_pure];refine c7 (j4 ?_);dsimp only;refine c7 (seqEpoch_at ho6 rfl ?_);refine c7 (listUpdate_at ho6 rfl ?_ (hsz2:=by rw[Array.size_map];show (pairsOf vs).size<=_;rw[pairsOf_size,sizeLine_eq];lia));simp only[bne_self_eq_false,bBE,if_false];refine j4 ?_;have e:((arrOf (SortSt.mk' general' (vs.toArray.zip vs.toArray) #[] 7 none)).map (·.2))=List.toArray ((dZ vs.length f).map λi=>vs.getD i Value.none):=by
   show ((vs.toArray.zip vs.toArray).map (·.2))=_;unfold dZ;rw[if_pos (by lia)]
   match vs,hsz,h2 with
   |[],_,_=>simp
   |[x],_,_=>simp[List.range,List.range.loop]
   |_::_::_,hsz,h2=>rw[hsz,v5,v5] at h2;lia
  rw[e];exact h
 ·rw[if_neg h2,if_neg h2];have h2':2<=vs.length:=by lia
  obtain⟨κ,hk1,hk2⟩:=hk h2' _ keep;refine c7 (bBB (hk1 (fun κ' s'=>(kas_sort vs.length).kasWp (kas_ask prog w A κ' vs) (λp s'=>s'={ s with heap:=((s.heap.update a (Obj.mapSeq λ_=>#[])).push (seqObj "tuple" vs.toArray 0)).push (seqObj "list" #[] 0) }/\p=(kas_sort vs.length).ev f) s') (aY1 (n:=vs.length) (P:=Pl vs.length) (f:=f) (cmp:=kas_ask prog w A κ vs) (t:=kas_sort vs.length) hk2 (vX (by lia)) (Q:=λp s'=>s'={ s with heap:=((s.heap.update a (Obj.mapSeq λ_=>#[])).push (seqObj "tuple" vs.toArray 0)).push (seqObj "list" #[] 0) }/\p=(kas_sort vs.length).ev f) ⟨rfl,rfl⟩)) (fun κ' s0 hk=>?_) λ_ _ x=>x.elim);refine c7 (bBB (kat_run (Q:=λst' s'=>∃p:Array Nat,p.size=vs.length/\arrOf st'=p.map (kas_item (vs.toArray.zip vs.toArray))/\failedOf st'=none/\s'={ s with heap:=((s.heap.update a (Obj.mapSeq λ_=>#[])).push (seqObj "tuple" vs.toArray 0)).push (seqObj "list" #[] 0) }/\p=(kas_sort vs.length).ev f)
   rfl h2' h64 (λp' st' s' a1 a2 a3 a4=>⟨p',a1,a2,a3,a4⟩) hk) ?_ λ_ _ e=>e)
  rintro⟨⟨⟩,st'⟩ s' ⟨p,hp,har,hf,rfl,rfl⟩;dsimp only;have hout:=kat_snds rfl har;rw[hout];refine c7 (seqEpoch_at ho6 rfl ?_);refine c7 (listUpdate_at ho6 rfl ?_ (bAJ _) (by rw[m7,j9,bAA,hp,sizeLine_eq];lia));rw[hf];simp only[bne_self_eq_false,bBE,if_false];refine j4 ?_;have e:dZ vs.length f=((kas_sort vs.length).ev f).toList:=by unfold dZ;rw[if_neg (by lia)]
  rw[e] at h;exact h
theorem aGc {l:Addr}{vs:List Value}{Q:bEU}(hl:s.heap.IsList l vs.toArray)(h64:vs.length<64)
  (hk:2<=vs.length->∀h',(∀b o,s.heap.get? b=some o->h'.get? b=some o)->∃κ,(∀(Q:SortKind->Shared->Prop),Q κ { s with heap:=h' }->wpAny (model prog w) A.in1.in1 (keyKind' vs.toArray) Q (λ_ _=>False) { s with heap:=h' })/\∀i j (C:Bool->Shared->Prop),i<vs.length->j<vs.length->C (f i j) { s with heap:=h' }->kas_ask prog w A.in1.in1 κ vs i j C { s with heap:=h' })
  (h:Q (.ref (s.heap.objs.size+1)) { s with heap:=sortedAll s.heap vs (List.toArray ((dZ vs.length f).map λi=>vs.getD i Value.none)) }) :
  wpAny (model prog w) A (call (.builtin "sorted") [.ref l]) Q E s:=by
 refine Calls.call_function_entry kind_sorted plain_sorted entry_sorted (args_sorted1 _) ?_;unfold Builtin.«sorted»;refine c7 (m:=checkCount "sorted" 1 1 _) (j4 ?_);refine c7 (collect_list hl ?_ (by rw[sizeLine_eq];lia));refine c7 (wpAny_newList ?_ (by rw[sizeLine_eq];lia));have hsz:((s.heap.push (seqObj "list" #[] 0)).update s.heap.objs.size (Obj.mapSeq (·++vs.toArray))).objs.size=s.heap.objs.size+1:=by rw[Heap.size_update,size_push']
 have hoL:(((s.heap.push (seqObj "list" #[] 0)).update s.heap.objs.size (Obj.mapSeq (·++vs.toArray))).push (seqObj "list" vs.toArray 0)).get? (s.heap.objs.size+1)=some (seqObj "list" vs.toArray 0):=by rw[<-hsz];exact j5 _ rfl
 have keep:∀b o,s.heap.get? b=some o->(((s.heap.push (seqObj "list" #[] 0)).update s.heap.objs.size (Obj.mapSeq (·++vs.toArray))).push (seqObj "list" vs.toArray 0)).get? b=some o:=λb o q=>by have hlt:b<s.heap.objs.size:=m8 q;rw[bD0 _ _ _ (by rw[hsz];exact t7 (bBH hlt)),bDK _ _ _ _ (t7 hlt),bD0 _ _ _ (t7 hlt)];exact q
 show wpAny _ _ _ _ _ { s with heap:=((s.heap.push (seqObj "list" #[] 0)).update s.heap.objs.size (Obj.mapSeq (·++vs.toArray))).push (seqObj "list" vs.toArray 0) };rw[hsz];refine c7 (bAV (bAE slot_list_sort ⟨_,hoL,rfl⟩ entry_list_sort (yM (f:=f) (s:={ s with heap:=((s.heap.push (seqObj "list" #[] 0)).update s.heap.objs.size (Obj.mapSeq (·++vs.toArray))).push (seqObj "list" vs.toArray 0) }) hoL h64 (λh2 h' kp=>hk h2 h' λb o q=>kp b o (t7 (bBH (m8 q))) (keep b o q)) ⟨_,rfl,?_⟩) (args_list_sort _)));exact j4 ⟨_,rfl,h⟩
end
end PySem.W
namespace PySem.W
open PySem PySem.Calls PyProof.Rows
structure Swo (f:Nat->Nat->Bool):Prop where
 asym:∀{i j},f i j=true->f j i=false
 tr:∀{i j k},f j i=false->f k j=false->f k i=false
def Pre (f:Nat->Nat->Bool)(i j:Nat):Prop:=f j i=false/\(f i j=true\/i<j)
section
variable {f:Nat->Nat->Bool}
theorem Swo.lt1 (S:Swo f){i j k:Nat}(h1:f i j=true)(h2:f k j=false):f i k=true:=by
 cases e:f i k with
 |true=>rfl
 |false=>have:=S.tr (i:=j) (j:=k) (k:=i) h2 e;rw[h1] at this;cases this
theorem Swo.lt2 (S:Swo f){i j k:Nat}(h1:f j i=false)(h2:f j k=true):f i k=true:=by
 cases e:f i k with
 |true=>rfl
 |false=>have:=S.tr (i:=k) (j:=i) (k:=j) e h1;rw[h2] at this;cases this
theorem Pre.trans (S:Swo f){i j k:Nat}(h1:Pre f i j)(h2:Pre f j k):Pre f i k:=by
 refine⟨S.tr h1.1 h2.1,?_⟩;rcases h1.2 with a|a
 ·exact .inl (S.lt1 a h2.1)
 ·rcases h2.2 with b|b
  ·exact .inl (S.lt2 h1.1 b)
  ·exact .inr (by lia)
theorem Pre.of (S:Swo f){i j:Nat}(h:f i j=true):Pre f i j:=⟨S.asym h,.inl h⟩
theorem KasT.rG {α β:Type}{f:Nat->Nat->Bool}{g:α->KasT β}:∀t:KasT α,(t.bind g).ev f=(g (t.ev f)).ev f
 |.ret a=>rfl
 |.ask i j k=>KasT.rG (k (f i j))
theorem pY {p:Array Nat}{i j:Nat}(hj:j<=p.size)(k:Nat):(kas_rev p i j).getD k 0=if i<=k/\k<j then p.getD (i+j - 1 - k) 0 else p.getD k 0:=by
 unfold kas_rev;rw[v7,getElem?_mirror_all hj]
 split <;> rw[v7]
theorem aYt {p:Array Nat}{k d:Nat}(hs:k<p.size)(hd:d<=k)(x:Nat):(bubble p k d).getD x 0=if x=k - d then p.getD k 0 else if k - d<x/\x<=k then p.getD (x - 1) 0 else p.getD x 0:=by
 rw[v7,getElem?_bubble hs d hd,v7,v7,v7];by_cases a:x=k - d
 ·rw[if_pos a,if_pos a]
 ·rw[if_neg a,if_neg a];by_cases b:k - d<x/\x<=k
  ·rw[if_pos b,if_pos b]
  ·rw[if_neg b,if_neg b]
structure Ld (N:Nat)(p:Array Nat)(m:Nat):Prop where
 sz:p.size=N
 lo:∀k,k<m->p.getD k 0<m
 hi:∀k,m<=k->k<N->p.getD k 0=k
 pm:p.Perm (List.range N).toArray
def Asc (f:Nat->Nat->Bool)(p:Array Nat)(m:Nat):Prop:=∀i j,i<j->j<m->Pre f (p.getD i 0) (p.getD j 0)
def Fds (f:Nat->Nat->Bool)(p:Array Nat)(m:Nat):Prop:=∀i j,i<j->j<m->Pre f (p.getD j 0) (p.getD i 0)
theorem Ld.rev {N m i j:Nat}{p:Array Nat}(L:Ld N p m)(hij:i<=j)(hj:j<=m)(hm:m<=N):Ld N (kas_rev p i j) m:=by
 have hs:j<=p.size:=by rw[L.sz];lia
 refine⟨by unfold kas_rev;rw[mirror_size];exact L.sz,λk hk=>?_,λk h1 h2=>?_,(mirror_perm _ _ _ _).trans L.pm⟩
 ·rw[pY hs];split
  ·exact L.lo _ (by lia)
  ·exact L.lo _ hk
 ·rw[pY hs,if_neg (by lia)];exact L.hi k h1 h2
theorem aMc (p:Array Nat):∀fu m,m<=(kas_asc p fu m).ev f/\(kas_asc p fu m).ev f<=m+fu/\(∀k,m<=k->k<(kas_asc p fu m).ev f->f (p.getD k 0) (p.getD (k - 1) 0)=false)/\((kas_asc p fu m).ev f<m+fu->f (p.getD ((kas_asc p fu m).ev f) 0) (p.getD ((kas_asc p fu m).ev f - 1) 0)=true)
 |0,m=>⟨j6 _,j6 _,λk h1 h2=>absurd (show k<m from h2) (by lia),λh=>absurd (show m<m+0 from h) (by lia)⟩
 |fu+1,m=>by
  show m<=(if f (p.getD m 0) (p.getD (m - 1) 0)=true then KasT.ret m else kas_asc p fu (m+1)).ev f/\(if f (p.getD m 0) (p.getD (m - 1) 0)=true then KasT.ret m else kas_asc p fu (m+1)).ev f<=m+(fu+1)/\(∀k,m<=k->k<(if f (p.getD m 0) (p.getD (m - 1) 0)=true then KasT.ret m else kas_asc p fu (m+1)).ev f->f (p.getD k 0) (p.getD (k - 1) 0)=false)/\((if f (p.getD m 0) (p.getD (m - 1) 0)=true then KasT.ret m else kas_asc p fu (m+1)).ev f<m+(fu+1)->f (p.getD ((if f (p.getD m 0) (p.getD (m - 1) 0)=true then KasT.ret m else kas_asc p fu (m+1)).ev f) 0) (p.getD ((if f (p.getD m 0) (p.getD (m - 1) 0)=true then KasT.ret m else kas_asc p fu (m+1)).ev f - 1) 0)=true);by_cases e:f (p.getD m 0) (p.getD (m - 1) 0)=true
  ·simp only[if_pos e];exact⟨j6 _,bBS _ _,λk h1 h2=>absurd (show k<m from h2) (by lia),λ_=>e⟩
  ·simp only[if_neg e];obtain⟨h1,h2,h3,h4⟩:=aMc p fu (m+1);refine⟨by lia,by lia,λk hk hr=>?_,λh=>h4 (by lia)⟩;by_cases z:k=m
   ·subst z;simpa using e
   ·exact h3 k (by lia) hr
theorem aFk (S:Swo f){N m:Nat}{p:Array Nat}(L:Ld N p m)(hA:Asc f p m)(h1:1<=m):∀d,m+d<=N->(∀k,m<=k->k<m+d->f (p.getD k 0) (p.getD (k - 1) 0)=false)->Ld N p (m+d)/\Asc f p (m+d)
 |0,_,_=>⟨L,hA⟩
 |d+1,hN,h=>by
  obtain⟨L',A'⟩:=aFk S L hA h1 d (by lia) λk a b=>h k a (by lia);have e:p.getD (m+d) 0=m+d:=L.hi _ (by lia) (by lia);have hlt:=L'.lo (m+d - 1) (by lia);have hp:Pre f (p.getD (m+d - 1) 0) (p.getD (m+d) 0):=⟨h _ (by lia) (by lia),.inr (by lia)⟩;refine⟨⟨L.sz,λk hk=>?_,λk a b=>L.hi k (by lia) b,L.pm⟩,λi j hij hj=>?_⟩
  ·by_cases z:k=m+d
   ·subst z;lia
   ·have:=L'.lo k (by lia);lia
  ·by_cases z:j=m+d
   ·subst z;by_cases y:i=m+d - 1
    ·subst y;exact hp
    ·exact (A' i (m+d - 1) (by lia) (by lia)).trans S hp
   ·exact A' i j hij (by lia)
structure Dsc (f:Nat->Nat->Bool)(N:Nat)(p:Array Nat)(n q:Nat):Prop where
 ld:Ld N p n
 hq:q+1<=n
 hn:n<=N
 a1:∀i j,i<j->j<n - (q+1)->Pre f (p.getD j 0) (p.getD i 0)
 a2:∀i j,i<n - (q+1)->n - (q+1)<=j->j<n->f (p.getD j 0) (p.getD i 0)=true
 a3:∀i j,n - (q+1)<=i->i<j->j<n->f (p.getD i 0) (p.getD j 0)=false/\f (p.getD j 0) (p.getD i 0)=false/\p.getD i 0<p.getD j 0
def pW (p:Array Nat)(n q:Nat):Array Nat:=if q > 0 then kas_rev p (n - (q+1)) n else p
theorem Dsc.close (S:Swo f){N n q:Nat}{p:Array Nat}(D:Dsc f N p n q):Ld N (pW p n q) n/\Fds f (pW p n q) n/\∀k,k<n->∃k',k'<n/\(pW p n q).getD k 0=p.getD k' 0:=by
 have hq:=D.hq;have hs:n<=p.size:=by rw[D.ld.sz];exact D.hn
 by_cases h:q > 0
 ·unfold pW;rw[if_pos h];refine⟨D.ld.rev (by lia) (j6 _) D.hn,λi j hij hj=>?_,λk hk=>?_⟩
  ·rw[pY hs,pY hs];by_cases a:n - (q+1)<=i
   ·rw[if_pos ⟨by lia,hj⟩,if_pos ⟨a,by lia⟩];obtain⟨h1,h2,h3⟩:=D.a3 (n - (q+1)+n - 1 - j) (n - (q+1)+n - 1 - i) (by lia) (by lia) (by lia);exact⟨h2,.inr h3⟩
   ·rw[if_neg (show ¬ (n - (q+1)<=i/\i<n) by lia)];by_cases b:n - (q+1)<=j
    ·rw[if_pos ⟨b,hj⟩];exact .of S (D.a2 i _ (by lia) (by lia) (by lia))
    ·rw[if_neg (by lia)];exact D.a1 i j hij (by lia)
  ·rw[pY hs]
   split
   ·exact⟨_,by lia,rfl⟩
   ·exact⟨k,hk,rfl⟩
 ·have e:q=0:=by lia
  subst e;unfold pW;rw[if_neg h];refine⟨D.ld,λi j hij hj=>?_,λk hk=>⟨k,hk,rfl⟩⟩;by_cases b:n - 1<=j
  ·exact .of S (D.a2 i j (by lia) (by lia) hj)
  ·exact D.a1 i j hij (by lia)
theorem Dsc.down (S:Swo f){N n q:Nat}{p:Array Nat}(D:Dsc f N p n q)(hn:n<N)(h:f (p.getD n 0) (p.getD (n - 1) 0)=true):Dsc f N (pW p n q) (n+1) 0:=by
 obtain⟨L,F,R⟩:=D.close S;have hq:=D.hq;have e:=D.ld.hi n (j6 _) hn;have e':=L.hi n (j6 _) hn;rw[e] at h;have all:∀k,k<n->f n (p.getD k 0)=true:=λk hk=>by
  by_cases a:n - (q+1)<=k
  ·by_cases z:k=n - 1
   ·subst z;exact h
   ·exact S.lt1 h (D.a3 k (n - 1) a (by lia) (by lia)).1
  ·have:=D.a2 k (n - 1) (by lia) (by lia) (by lia);exact S.lt1 h (S.asym this)
 refine⟨⟨L.sz,λk hk=>?_,λk a b=>L.hi k (by lia) b,L.pm⟩,by lia,hn,λi j hij hj=>F i j hij (by lia),λi j hi hj hj2=>?_,λi j a b c=>by lia⟩
 ·by_cases z:k=n
  ·subst z;lia
  ·have:=L.lo k (by lia);lia
 ·have z:j=n:=by lia
  subst z;obtain⟨k',hk',ek⟩:=R i (by lia);rw[e',ek];exact all k' hk'
theorem Dsc.flat (S:Swo f){N n q:Nat}{p:Array Nat}(D:Dsc f N p n q)(hn:n<N)(h1:f (p.getD n 0) (p.getD (n - 1) 0)=false)(h2:f (p.getD (n - 1) 0) (p.getD n 0)=false):Dsc f N p (n+1) (q+1):=by
 have hq:=D.hq;have e:=D.ld.hi n (j6 _) hn;have es:n+1 - (q+1+1)=n - (q+1):=by lia
 rw[e] at h1 h2;refine⟨⟨D.ld.sz,λk hk=>?_,λk a b=>D.ld.hi k (by lia) b,D.ld.pm⟩,by lia,hn,λi j hij hj=>D.a1 i j hij (by lia),λi j hi hj hj2=>?_,λi j a b c=>?_⟩
 ·by_cases z:k=n
  ·subst z;lia
  ·have:=D.ld.lo k (by lia);lia
 ·rw[es] at hi hj;by_cases z:j=n
  ·subst z;rw[e];exact S.lt2 h2 (D.a2 i (j - 1) hi (by lia) (by lia))
  ·exact D.a2 i j hi hj (by lia)
 ·rw[es] at a;by_cases z:j=n
  ·subst z;rw[e];have hl:=D.ld.lo i b;by_cases y:i=j - 1
   ·subst y;exact⟨h2,h1,hl⟩
   ·obtain⟨g1,g2,_⟩:=D.a3 i (j - 1) a (by lia) (by lia);exact⟨S.tr h2 g1,S.tr g2 h1,hl⟩
  ·exact D.a3 i j a b (by lia)
theorem zF (S:Swo f){N:Nat}:∀(fu:Nat) (p:Array Nat) (n q:Nat),Dsc f N p n q->n+fu<=N->Dsc f N ((kas_desc fu p n q).ev f).1 ((kas_desc fu p n q).ev f).2.1 ((kas_desc fu p n q).ev f).2.2
 |0,p,n,q,D,_=>D
 |fu+1,p,n,q,D,h=>by
  show Dsc f N ((if f (p.getD n 0) (p.getD (n - 1) 0)=true then (if q > 0 then kas_desc fu (kas_rev p (n - (q+1)) n) (n+1) 0 else kas_desc fu p (n+1) 0) else .ask (p.getD (n - 1) 0) (p.getD n 0) λd=>if d=true then .ret (p,n,q) else kas_desc fu p (n+1) (q+1)).ev f).1 ((if f (p.getD n 0) (p.getD (n - 1) 0)=true then (if q > 0 then kas_desc fu (kas_rev p (n - (q+1)) n) (n+1) 0 else kas_desc fu p (n+1) 0) else .ask (p.getD (n - 1) 0) (p.getD n 0) λd=>if d=true then .ret (p,n,q) else kas_desc fu p (n+1) (q+1)).ev f).2.1 ((if f (p.getD n 0) (p.getD (n - 1) 0)=true then (if q > 0 then kas_desc fu (kas_rev p (n - (q+1)) n) (n+1) 0 else kas_desc fu p (n+1) 0) else .ask (p.getD (n - 1) 0) (p.getD n 0) λd=>if d=true then .ret (p,n,q) else kas_desc fu p (n+1) (q+1)).ev f).2.2;by_cases e:f (p.getD n 0) (p.getD (n - 1) 0)=true
  ·have D':=D.down S (by lia) e;unfold pW at D';simp only[if_pos e];by_cases hq:q > 0
   ·simp only[if_pos hq] at D' ⊢;exact zF S fu _ _ _ D' (by lia)
   ·simp only[if_neg hq] at D' ⊢;exact zF S fu _ _ _ D' (by lia)
  ·simp only[if_neg e];show Dsc f N ((if f (p.getD (n - 1) 0) (p.getD n 0)=true then KasT.ret (p,n,q) else kas_desc fu p (n+1) (q+1)).ev f).1 ((if f (p.getD (n - 1) 0) (p.getD n 0)=true then KasT.ret (p,n,q) else kas_desc fu p (n+1) (q+1)).ev f).2.1 ((if f (p.getD (n - 1) 0) (p.getD n 0)=true then KasT.ret (p,n,q) else kas_desc fu p (n+1) (q+1)).ev f).2.2;by_cases e2:f (p.getD (n - 1) 0) (p.getD n 0)=true
   ·simp only[if_pos e2];exact D
   ·simp only[if_neg e2];exact zF S fu _ _ _ (D.flat S (by lia) (by simpa using e) (by simpa using e2)) (by lia)
def aI8 (f:Nat->Nat->Bool)(N:Nat)(r:Nat × Array Nat):Prop:=1<=r.1/\r.1<=N/\Ld N r.2 r.1/\Asc f r.2 r.1
theorem aHr (S:Swo f){N n:Nat}{p:Array Nat}(L:Ld N p n)(F:Fds f p n)(h1:1<=n)(hN:n<=N):aI8 f N ((kas_tail3 n N p).ev f):=by
 unfold kas_tail3;rw[KasT.rG];have hs:n<=p.size:=by rw[L.sz];exact hN
 have L':Ld N (kas_rev p 0 n) n:=L.rev (bAJ _) (j6 _) hN;have A':Asc f (kas_rev p 0 n) n:=λi j hij hj=>by rw[pY hs,pY hs,if_pos ⟨bAJ _,by lia⟩,if_pos ⟨bAJ _,hj⟩];exact F _ _ (by lia) (by lia)
 obtain⟨g1,g2,g3,_⟩:=aMc (f:=f) (kas_rev p 0 n) (N - n) n;obtain⟨d,hd⟩:∃d,(kas_asc (kas_rev p 0 n) (N - n) n).ev f=n+d:=⟨(kas_asc (kas_rev p 0 n) (N - n) n).ev f - n,by lia⟩;show aI8 f N ((kas_asc (kas_rev p 0 n) (N - n) n).ev f,kas_rev p 0 n);rw[hd] at g2 g3 ⊢;obtain⟨k1,k2⟩:=aFk S L' A' h1 d (by lia) g3;exact⟨by show 1<=n+d;lia,by show n+d<=N;lia,k1,k2⟩
theorem xZ (S:Swo f){N n:Nat}{p:Array Nat}(D:Dsc f N p (n+1) 0):aI8 f N ((kas_descPart n N p).ev f):=by
 unfold kas_descPart;rw[KasT.rG];have D':=zF S (N - (n+1)) p (n+1) 0 D (by have:=D.hn;lia);generalize (kas_desc (N - (n+1)) p (n+1) 0).ev f=r at D';obtain⟨L,F,_⟩:=D'.close S;have hq:=D'.hq;unfold pW at L F;by_cases h:r.2.2 > 0
 ·simp only[if_pos h] at L F ⊢;exact aHr S L F (by lia) D'.hn
 ·simp only[if_neg h] at L F ⊢;exact aHr S L F (by lia) D'.hn
theorem gA {N k:Nat}(h:k<N):(List.range N).toArray.getD k 0=k:=by rw[v7,bDC,bCA h];rfl
theorem aRd (S:Swo f){N:Nat}(h1:1<=N):aI8 f N ((kas_count N (List.range N).toArray).ev f):=by
 unfold kas_count;rw[KasT.rG];have L1:Ld N (List.range N).toArray 1:=⟨by simp,λk hk=>by rw[gA (by lia)];exact hk,λk _ h=>gA h,.refl _⟩;obtain⟨g1,g2,g3,g4⟩:=aMc (f:=f) (List.range N).toArray (N - 1) 1;generalize em:(kas_asc (List.range N).toArray (N - 1) 1).ev f=m at g1 g2 g3 g4;obtain⟨d,rfl⟩:∃d,m=1+d:=⟨m - 1,by lia⟩;obtain⟨L,A⟩:=aFk S L1 (λi j hij hj=>by lia) (j6 _) d (by lia) g3;by_cases e:(1+d == N)=true
 ·simp only[if_pos e];exact⟨g1,by show 1+d<=N;lia,L,A⟩
 ·simp only[if_neg e];have hlt:1+d<N:=by
   have:1+d≠N:=by simpa using e
   lia
  have hd:=g4 (by lia);have e1:(List.range N).toArray.getD (1+d) 0=1+d:=gA hlt;have e2:(List.range N).toArray.getD (1+d - 1) 0=d:=by rw[gA (by lia)];lia
  rw[e1,e2] at hd;by_cases hm:1+d > 1
  ·simp only[if_pos hm];show aI8 f N ((if f ((List.range N).toArray.getD 0 0) ((List.range N).toArray.getD (1+d - 1) 0)=true then KasT.ret (1+d,(List.range N).toArray) else kas_descPart (1+d) N (kas_rev (List.range N).toArray 0 (1+d))).ev f);rw[e2,gA (show 0<N by lia)];by_cases e3:f 0 d=true
   ·simp only[if_pos e3];exact⟨g1,by show 1+d<=N;lia,L,A⟩
   ·simp only[if_neg e3];have e3:f 0 d=false:=by simpa using e3
    have L':Ld N (kas_rev (List.range N).toArray 0 (1+d)) (1+d):=L.rev (bAJ _) (j6 _) (by lia);have hs:1+d<=(List.range N).toArray.size:=by simp;lia
    have at':∀k,k<1+d->(kas_rev (List.range N).toArray 0 (1+d)).getD k 0=d - k:=λk hk=>by rw[pY hs,if_pos ⟨bAJ _,hk⟩,gA (by lia)];lia
    have up:∀i j,i<j->j<1+d->f j i=false:=λi j hij hj=>by have:=(A i j hij hj).1;rw[gA (by lia),gA (by lia)] at this;exact this
    have all:∀k,k<1+d->f (1+d) k=true:=λk hk=>by
     by_cases z:k=d
     ·subst z;exact hd
     ·refine S.lt1 hd ?_;by_cases y:k=0
      ·subst y;exact e3
      ·exact S.tr e3 (up 0 k (by lia) hk)
    refine xZ S ⟨⟨L'.sz,λk hk=>?_,λk a b=>L'.hi k (by lia) b,L'.pm⟩,by lia,by lia,λi j hij hj=>?_,λi j hi hj hj2=>?_,λi j a b c=>by lia⟩
    ·by_cases z:k=1+d
     ·subst z;rw[L'.hi _ (j6 _) hlt];lia
     ·have:=L'.lo k (by lia);lia
    ·rw[at' i (by lia),at' j (by lia)];exact⟨up _ _ (by lia) (by lia),.inr (by lia)⟩
    ·have z:j=1+d:=by lia
     subst z;rw[L'.hi _ (j6 _) hlt,at' i (by lia)];exact all _ (by lia)
  ·have z:d=0:=by lia
   subst z;simp only[if_neg hm];refine xZ S ⟨⟨L1.sz,λk hk=>by rw[gA (by lia)];exact hk,λk a b=>gA b,L1.pm⟩,by lia,by lia,λi j hij hj=>by lia,λi j hi hj hj2=>?_,λi j a b c=>by lia⟩;have z:j=1:=by lia
   have y:i=0:=by lia
   subst z y;rw[gA (by lia),gA (by lia)];exact hd
theorem aB5 (S:Swo f){p:Array Nat}{k:Nat}(A:Asc f p k):∀fu l r,l<=r->r<=k->r - l<=fu->(∀i,i<l->f (p.getD k 0) (p.getD i 0)=false)->(∀i,r<=i->i<k->f (p.getD k 0) (p.getD i 0)=true) ->
  (kas_place p k fu l r).ev f<=k/\(∀i,i<(kas_place p k fu l r).ev f->f (p.getD k 0) (p.getD i 0)=false)/\∀i,(kas_place p k fu l r).ev f<=i->i<k->f (p.getD k 0) (p.getD i 0)=true
 |0,l,r,h1,h2,h3,a,b=>by
  have z:l=r:=by lia
  subst z;exact⟨h2,a,b⟩
 |fu+1,l,r,h1,h2,h3,a,b=>by
  unfold kas_place;by_cases e:l ≥ r
  ·have z:l=r:=by lia
   subst z;simp only[if_pos e];exact⟨h2,a,b⟩
  ·simp only[if_neg e];show ((if f (p.getD k 0) (p.getD ((l+r) / 2) 0)=true then kas_place p k fu l ((l+r) / 2) else kas_place p k fu ((l+r) / 2+1) r).ev f<=k/\_);by_cases c:f (p.getD k 0) (p.getD ((l+r) / 2) 0)=true
   ·have hb:∀i,(l+r) / 2<=i->i<k->f (p.getD k 0) (p.getD i 0)=true:=λi h1 h2=>by
     by_cases z:i=(l+r) / 2
     ·subst z;exact c
     ·exact S.lt1 c (A _ i (by lia) h2).1
    have:=aB5 S A fu l ((l+r) / 2) (by lia) (by lia) (by lia) a hb;simpa only [KasT.ev,if_pos c] using this
   ·have c':f (p.getD k 0) (p.getD ((l+r) / 2) 0)=false:=by simpa using c
    have ha:∀i,i<(l+r) / 2+1->f (p.getD k 0) (p.getD i 0)=false:=λi h=>by
     by_cases z:i=(l+r) / 2
     ·subst z;exact c'
     ·exact S.tr (A i _ (by lia) (by lia)).1 c'
    have:=aB5 S A fu ((l+r) / 2+1) r (by lia) h2 (by lia) ha b;simpa only [KasT.ev,if_neg c] using this
theorem aQq (S:Swo f){N:Nat}:∀(fu:Nat) (p:Array Nat) (k:Nat),Ld N p k->Asc f p k->1<=k->k+fu=N->Ld N ((kas_bin fu p k).ev f) N/\Asc f ((kas_bin fu p k).ev f) N
 |0,p,k,L,A,_,e=>by
  have z:k=N:=by lia
  subst z;exact⟨L,A⟩
 |fu+1,p,k,L,A,h1,e=>by
  unfold kas_bin;rw[KasT.rG];obtain⟨g1,g2,g3⟩:=aB5 S A k 0 k (bAJ _) (j6 _) (by lia) (λi h=>by lia) (λi h h'=>by lia);generalize (kas_place p k k 0 k).ev f=l at g1 g2 g3;have hs:k<p.size:=by rw[L.sz];lia
  have ek:p.getD k 0=k:=L.hi k (j6 _) (by lia);have bt:=λx=>aYt (p:=p) (k:=k) (d:=k - l) hs (by lia) x;have ez:k - (k - l)=l:=by lia
  rw[ez] at bt;refine aQq S fu _ (k+1) ⟨by rw[bubble_size];exact L.sz,λx hx=>?_,λx a b=>?_,(bubble_perm _ _ _).trans L.pm⟩ (λi j hij hj=>?_) (by lia) (by lia)
  ·rw[bt];by_cases a:x=l
   ·rw[if_pos a];lia
   ·rw[if_neg a];by_cases b:l<x/\x<=k
    ·rw[if_pos b];have:=L.lo (x - 1) (by lia);lia
    ·rw[if_neg b];have:=L.lo x (by lia);lia
  ·rw[bt,if_neg (by lia),if_neg (by lia)];exact L.hi x (by lia) b
  ·rw[bt i,bt j];by_cases i1:i=l
   ·rw[if_pos i1,if_neg (by lia),if_pos (by lia)];exact .of S (g3 _ (by lia) (by lia))
   ·rw[if_neg i1];by_cases i2:l<i/\i<=k
    ·rw[if_pos i2,if_neg (by lia),if_pos (by lia)];exact A _ _ (by lia) (by lia)
    ·rw[if_neg i2];by_cases j1:j=l
     ·rw[if_pos j1];have:=L.lo i (by lia);exact⟨g2 i (by lia),.inr (by lia)⟩
     ·rw[if_neg j1];by_cases j2:l<j/\j<=k
      ·rw[if_pos j2];exact A _ _ (by lia) (by lia)
      ·rw[if_neg j2];exact A _ _ hij (by lia)
theorem aVw (S:Swo f){N:Nat}(h1:1<=N):Ld N ((kas_sort N).ev f) N/\Asc f ((kas_sort N).ev f) N:=by
 unfold kas_sort;rw[KasT.rG];have R:=aRd S h1;generalize (kas_count N (List.range N).toArray).ev f=r at R;obtain⟨r1,r2,L,A⟩:=R;by_cases e:r.1<N
 ·simp only[if_pos e];have z:max r.1 1=r.1:=by lia
  rw[z];exact aQq S _ _ _ L A r1 (by lia)
 ·simp only[if_neg e];have z:r.1=N:=by lia
  rw[z] at L A;exact⟨L,A⟩
end
theorem KasT.Low.same {α:Type}{n:Nat}{P:α->Prop}{t:KasT α}(h:t.Low n P){f g:Nat->Nat->Bool}(e:∀i j,i<n->j<n->f i j=g i j):t.ev f=t.ev g:=by
 induction h with
 |ret h=>rfl
 |@ask i j k a b _ ih=>show (k (f i j)).ev f=(k (g i j)).ev g;rw[e i j a b];exact ih (g i j)
theorem aLl {n:Nat}{f g:Nat->Nat->Bool}(e:∀i j,i<n->j<n->f i j=g i j):dZ n f=dZ n g:=by
 unfold dZ;by_cases h:n<2
 ·rw[if_pos h,if_pos h]
 ·rw[if_neg h,if_neg h,(vX (by lia)).same e]
theorem aJl {n:Nat}{f:Nat->Nat->Bool}(S:Swo f):(dZ n f).Perm (List.range n)/\(dZ n f).Pairwise (Pre f):=by
 unfold dZ;by_cases h:n<2
 ·rw[if_pos h];refine⟨.refl _,?_⟩
  match n,h with
  |0,_=>exact .nil
  |1,_=>exact List.pairwise_singleton _ _
 ·rw[if_neg h];obtain⟨L,A⟩:=aVw S (show 1<=n by lia);generalize (kas_sort n).ev f=p at L A;refine⟨?_,List.pairwise_iff_getElem.mpr λi j hi hj hij=>?_⟩
  ·have:=Array.perm_iff_toList_perm.mp L.pm;simpa using this
  ·have hi':i<p.size:=by simpa using hi
   have hj':j<p.size:=by simpa using hj
   have:=A i j hij (by rw[<-L.sz];exact hj');rw[v7,v7,t8 hi',t8 hj'] at this;simpa using this
end PySem.W
namespace PySem.W
open PySem PySem.Calls PyProof.Rows
section
variable {prog:Program}{w:World}{A:Around}{E:bEU}{s:Shared}{f:Nat->Nat->Bool}
end
end PySem.W
namespace PySem.W
open PySem PySem.Calls PyProof.Rows
theorem zW {pos:Pos}{a b:Int}{c cv:Value}(l:List Value)(h:TriplesOk l)(hf:codeAmong pos (l++[rawInt a,rawInt b,c])=some cv):codeAmong pos l=some cv\/cv=c:=by
 fun_induction TriplesOk l with
 |case1=>
  simp only[bEG,codeAmong,rawInt] at hf
  split at hf
  ·exact .inr (bAQ hf).symm
  ·cases hf
 |case2 a' t b' u x rest ih=>
  simp only[List.cons_append,codeAmong] at hf ⊢
  split at hf
  ·rename_i hc;rw[if_pos hc];exact .inl hf
  ·rename_i hc;rw[if_neg hc];exact ih h hf
 |case3 l h1 h2=>exact h.elim
section
variable {prog:Program}{w:World}{A:Around}{E:bEU}{s:Shared}
end
end PySem.W
namespace L2
open PySem PySem.Spec PyProof.Rows
def BM (mg:bEW)(base:Heap):Prop:=∃bm ob,mg "__builtins__"=some (.ref bm)/\bm≠builtinsNs/\base.get? bm=some ob/\ob.cls=.type "module"/\ob.dict=some builtinsNs/\ob.data=.plain
section
variable {X:Cx}{bEX:bEV}{σ:List (Option V)}{H:Hp}{s:Shared}
end
def ExO (a:Addr)(o:Obj):HO:=.ext λh=>h.get? a=some o
theorem aX3 {P:Program}{w:World}{H:Hp}{h:Heap}{a:Addr}{o:Obj}(e:h.get? a=some o):cU P w H h a (ExO a o):=⟨e,⟨o,e⟩,λ_ _ e1 k=>k o e1⟩
def bA8 (g x y:Str)(p0 p1 p2 p3:Pos):Expr:=.Call (.Name g p0) [.Name x p1,.Name y p2] [] p3
structure aZk (qual g x y:Str)(params:Arguments)(bd:Expr)(scope:Scope):Prop where
 body:∃p0 p1 p2 p3,bd=bA8 g x y p0 p1 p2 p3
 bind:∀(cp c':Addr) (pm ctv v:Value),bindArgs (PySem.W.kla_fn "<lambda>" qual params bd scope [(y,cp)] pm (.ref c') ctv) ⟨[v],[]⟩=pure [(x,v)]
 co:scope.isCoroutine=false
 gen:scope.isGenerator=false
 kind:scope.kind=.function
 cell:∀z∈scope.names,z.2≠.cell
 hx:scope.names.lookup x=some .local
 hy:scope.names.lookup y=some .free
 hg:scope.names.lookup g=some .globalImplicit
 dx:(x == ("__debug__":Str))=false
 dy:(y == ("__debug__":Str))=false
 dg:(g == ("__debug__":Str))=false
 cy:(y == ("__classdict__":Str))=false
 xy:(y == x)=false
def wC (H:Hp)(f:Addr)(qual g x y:Str)(v:V):Prop:=∃(params:Arguments) (body:Expr) (scope:Scope) (cp c':Addr) (pm ctv:Value) (oc ol:Obj) (u:Value) (vs:Array Value) (t:Tok),
 aZk qual g x y params body scope/\H f=some (ExO f (PySem.W.kla_obj "<lambda>" qual params body scope [(y,cp)] pm c' ctv))/\H cp=some (ExO cp ol)/\(∀h:Heap,h.get? cp=some ol->h.IsCell cp (some u))/\RelV v u/\H c'=some (ExO c' oc)/\oc.data=.fields vs/\vs[1]?=some (.str qual t)
theorem wC.same {H H':Hp}{f:Addr}{qual g x y:Str}{v:V}(L:wC H f qual g x y v)(s:Same H H'):wC H' f qual g x y v:=by obtain⟨pa,bo,sc,cp,c',pm,ctv,oc,ol,u,vs,t,S,h1,h2,h3,h4,h5,h6,h7⟩:=L;exact⟨pa,bo,sc,cp,c',pm,ctv,oc,ol,u,vs,t,S,s _ _ h1,s _ _ h2,h3,h4,s _ _ h5,h6,h7⟩
section
variable {X:Cx}
theorem aWb {bEX:bEV}{σ:St}{H:Hp}{s:Shared}{Q:VK}{f ga:Addr}{qual g x y:Str}{v a:V}{ua:Value}{k:Nat}{fd:FuncData}{ps:List Str}{sp:Sp}
  (L:wC H f qual g x y v) (hr:Room (k+1) X.A) (hm:X.mg g=some (.ref ga)) (hk:PySem.W.keepIn X.K (.ref ga)=true) (hb:Binds X.K fd ps []) (F:fQ X.prog X.w X.K X.mg X.base CX0 k ga fd ps sp)
  (I:Inv X bEX σ H s) (r:RelV a ua) (h:sp [a,v] H Q E0):wpAny (model X.prog X.w) X.A (call (.ref f) [ua]) (EP X bEX σ Q) X.xe s:=by
 obtain⟨pa,bo,sc,cp,c',pm,ctv,oc,ol,u,vs,t,S,h1,h2,h3,h4,h5,h6,h7⟩:=L;have e1:s.heap.get? f=some _:=(I.hok f _ h1).1;have e2:s.heap.get? cp=some ol:=(I.hok cp _ h2).1;have e5:s.heap.get? c'=some oc:=(I.hok c' _ h5).1;refine bCX (PySem.W.kla_callFunE hr.depth e1 rfl S.co S.gen rfl ⟨c',oc,vs,t,rfl,e5,h6,h7⟩ ?_);rw[S.bind];refine j4 (bEA S.cell (λz hz=>?_) (λh₁ hns hsb=>⟨I.nolimit.fresh _ hsb,?_⟩) S.kind)
 ·have e:z=(x,ua):=by simpa using hz
  rw[e];exact S.hx
 have kp:∀b o,s.heap.get? b=some o->h₁.get? b=some o:=λb o e=>hsb.extBut b o (t7 (m8 e)) (j0 _ e);have szz:s.heap.objs.size<=h₁.objs.size:=by have:=hsb.1;rw[bAW] at this;lia
 refine PySem.W.kla_codeExpr ?_;obtain⟨p0,p1,p2,p3,rfl⟩:=S.body;have hG:h₁.Ns mainGlobals X.mg:=(I.mod.glob.keeps I.bk).keeps kp;refine bBM (bDF S.kind S.hg (Calls.loadGlobal_global hG hm ?_) S.dg);refine PySem.W.callWith_K (h₀:=X.base) I.ok.mod.kin hk (bB1 (wpAny_Name (wpAny_loadName_local S.kind S.hx hns (v:=ua) (by simp) ?_) S.dx)) rfl rfl;refine bB1 (wpAny_Name (wpAny_loadName_free S.kind S.hy (c:=cp) (by simp[newEnv,PySem.W.kla_fn]) (v:=u) (h3 h₁ (kp _ _ e2)) ?_ S.cy) S.dy);have kin:X.K.In h₁:=I.kIn.keeps kp;refine bDW ⟨kin,?_⟩;generalize henv:newEnv _ s.heap.objs.size _ _ _ _ _ _ _=env;have hfr:env.frame=some s.heap.objs.size:=by rw[<-henv];rfl
 have hkd:env.scope.kind≠.module:=by rw[<-henv];show sc.kind≠_;rw[S.kind];decide
 have fresh:X.base.get? s.heap.objs.size=none:=bDE (bAP I.ok.bsz I.sz);have hfresh:H s.heap.objs.size=none:=I.hok.fresh (j6 _);have E1:aEq X.prog X.w X.K X.mg X.base (X.A.deeper env) (env::X.stack) { s with heap:=h₁,toks:=s.toks+1 } H:=by
  refine⟨Around.frames_deeper I.ok.frames,I.ok.mod,λb o e=>⟨kp _ _ (I.bs b o e).1,(I.bs b o e).2⟩,bAP (bAP I.ok.bsz I.sz) szz,.cons hkd hfr hns fresh ?_,?_,I.hok.kept kp,I.bare⟩
  ·exact I.stack.of_keeps λb o e _=>⟨o,kp _ _ e,rfl⟩
  ·intro b hb;unfold frs at hb;rw[bCZ,hfr] at hb;rcases List.mem_cons.mp hb with e|hb
   ·rw[e];exact hfresh
   ·exact I.rO b hb
 have r2:Vals [a,v] [ua,u]:=.cons r (.cons h4 .nil);have hl:([ua,u]++([]:List Value)).length=ps.length:=by rw[bBN,<-r2.length];exact F.len _ _ _ _ h
 refine bCX (bBR (F.run (X.A.deeper env) (env::X.stack) _ H ⟨[ua,u],[]⟩ [ua,u] [a,v] Q E0 (hr.deeper env) E1 (by simpa using hb { s with heap:=h₁,toks:=s.toks+1 } [ua,u] kin hl) r2 h) λrr s' hq=>?_);cases rr with
 |error e=>exact hq.elim
 |ok fl=>
  cases fl with
  |next=>exact False.elim hq
  |brk=>exact False.elim hq
  |cont=>exact False.elim hq
  |ret uu=>
   obtain⟨v',H',os,bare,un,hok,rel,q⟩:=hq;refine I.after (Q:=Q) (u:=uu) (s':=s') ⟨v',H',os,bare,?_,hok,rel,q⟩;have neL:∀b o,s.heap.get? b=some o->b≠s.heap.objs.size:=λb o e=>t7 (m8 e);have fe:frs (env::X.stack)=s.heap.objs.size::frs X.stack:=by unfold frs;rw[bCZ,hfr]
   rw[fe] at un;exact⟨λb o e n hb hx=>un.keep b o (kp b o e) n (λz=>(List.mem_cons.mp z).elim (neL b o e) hb) hx,λb o e n hb hx=>un.slot b o (kp b o e) n (j8 _ hb) hx,λb o e n hx=>un.free b o (kp b o e) n hx,λb o e hx=>un.there b o (kp b o e) hx,un.tups,un.frzs,un.tbls⟩
def aQ2 (P:Program)(w:World)(K:bET)(mg:bEW)(base:Heap)(k:Nat)(te:TE)(t:TA):TE:=fun σ H Q=>te σ H λv H1=>∃(f:Addr) (qual g x y:Str) (z:V) (ps:List Str) (sp:Sp),v=.ref f/\wC H1 f qual g x y z/\Ok P w K mg base k g ps sp /\
 t σ H1 λvs H2=>∃a,vs=[a]/\wC H2 f qual g x y z/\sp [a,z] H2 Q E0
theorem aS6 {n:Str}{p pos:Pos}{e:Expr}{es:List Expr}{te:TE}{t:TA}{k:Nat}(hr:Room (k+1) X.A)(hf:PE X (.Name n p) te)(ha:PA X (e::es) t)
  (he:starEach (e::es) X.env=(false,eval e X.env)::starEach es X.env:=by rfl) (hpl:(backTo pos (starEach es X.env)).any (·.1)=false:=by rfl) :
  PE X (.Call (.Name n p) (e::es) [] pos) (aQ2 X.prog X.w X.K X.mg X.base k te t):=by
 intro bEX s σ H Q I h;refine bBM (thn (hf bEX s σ H _ I h) λu s1 ⟨v,H1,I1,r1,q1⟩=>?_);obtain⟨f,qual,g,x,y,z,ps,sp,rfl,L,G,q⟩:=q1;obtain rfl:u=Value.ref f:=r1;obtain⟨ga,fd,hm,hk,hb,F⟩:=G;have hh:=ha pos bEX s1 σ H1 _ I1 q;rw[he] at hh ⊢;refine PySem.W.callWith_of (P:=λh=>∃pa bo sc cl pm c' ctv,h.get? f=some (PySem.W.kla_obj "<lambda>" qual pa bo sc cl pm c' ctv)) (by show ((false || (backTo pos (starEach es X.env)).any (·.1)) || false)=false;rw[hpl];rfl) (λh ⟨pa,bo,sc,cl,pm,c',ctv,eh⟩=>⟨.frame,.inl rfl,(PySem.W.Looks.ld (part:=none) eh).andThen .now⟩) (bD9 (thn hh λus s2 ⟨vs,H2,I2,r,q2⟩=>?_));obtain⟨a,rfl,L2,q3⟩:=q2;cases r with
 |cons r rn=>cases rn;refine⟨?_,aWb L2 hr hm hk hb F I2 r q3⟩;obtain⟨pa,bo,sc,cp,c',pm,ctv,oc,ol,u,vs,t,S,h1,_⟩:=L2;exact⟨pa,bo,sc,_,pm,c',ctv,(I2.hok f _ h1).1⟩
end
section
variable {X:Cx}{bEX:bEV}{σ:List (Option V)}{H:Hp}{s:Shared}
theorem aPf {params:Arguments}{body:Expr}{scope:Scope}{pos:Pos}{c P:Addr}{clos:List (Str × Addr)}{Q:bEU}{E:bEU}
  (I:Inv X bEX σ H s) (hcode:X.env.code=.ref c) (CH:PySem.W.CodeHd X.base c P) (hP:H P=some (.tab (X.env.qual++"<lambda>"))) (hbm:BM X.mg X.base) (hcl:closureFor scope X.env=pure clos) (hdef:defaultsOf params X.env=([],[]))
  (q:∀f c' pm ctv H' h' tk,Inv X bEX σ H' { s with heap:=h',toks:=tk }->Same H H'->s.heap.objs.size<=f->H' f=none->H' c'=some (.own P)->H' P=some (.tab (X.env.qual++"<lambda>"))->h'.get? f=some (PySem.W.kla_obj "<lambda>" (X.env.qual++"<lambda>") params body scope clos pm c' ctv)->h'.CodeRec (.ref c') (X.env.qual++"<lambda>")->Q (.ref f) { s with heap:=h',toks:=tk }) :
  wpAny (model X.prog X.w) X.A (eval (.Lambda params body scope pos) X.env) Q E s:=by
 obtain⟨ps,hp,ht,hcodes⟩:=I.hok P _ hP;have hg:s.heap.Ns mainGlobals X.mg:=I.mod.glob.keeps I.bk;obtain⟨bm,ob,b1,b2,b3,b4,b5,b6⟩:=hbm;have bG:bm≠mainGlobals:=λz=>by obtain⟨o,es,ep,e,d,_⟩:=I.mod.glob;rw[z,e] at b3;cases b3;rw[d] at b6;cases b6
 have bP:bm≠P:=λz=>by have:=(I.bs bm ob b3).2;rw[z,hP] at this;cases this
 have gP:mainGlobals≠P:=λz=>by obtain⟨o,es,ep,e,d,_⟩:=I.mod.glob;have:=(I.bs _ o e).2;rw[z,hP] at this;cases this
 have hB:s.heap.BuiltinsAt X.mg P:=⟨bm,ob,b1,b2,bG,bP,I.bk _ _ b3,b4,b5,b6⟩;refine PySem.W.kla_eval hdef ?_;cases hca:codeAmong pos ps.toList with
 |some cv=>obtain⟨c',oc,vs,t,rfl,a2,a3,a4,a5⟩:=hcodes pos cv hca;refine PySem.W.kla_makeFunctionHit (mg:=X.mg) hcl I.ok.glob hg hcode (CH.keeps I.bk) hp ht hca hB λctv h' tk hk hsz=>?_;exact q _ c' _ ctv H _ tk (I.kept (t':=tk) λb o e=>j0 _ (hk b o e)) (λ_ _ e=>e) hsz (I.hok.fresh hsz) a2 hP (j5 _ rfl) ⟨c',oc,vs,t,rfl,j0 _ (hk _ _ a3),a4,a5⟩
 |none=>
  refine PySem.W.kla_makeFunction (mg:=X.mg) hcl I.ok.glob hg hcode (CH.keeps I.bk) hp ht hca gP hB λc' ctv h' tk hx hge hlt hrec htb=>?_;obtain⟨c2,oc,vs,t,e2,hoc,hd,hv⟩:=hrec;cases e2;have nc:H c'=none:=I.hok.fresh hge;have neP:∀b u,b≠P->H b=some u->∀o,s.heap.get? b=some o->(h'.push (PySem.W.kla_obj "<lambda>" (X.env.qual++"<lambda>") params body scope clos ((X.mg "__name__").getD .none) c' ctv)).get? b=some o:=λb u hb _ o e=>j0 _ (hx b o hb e);have kp:∀b o,b≠P->s.heap.get? b=some o->(h'.push (PySem.W.kla_obj "<lambda>" (X.env.qual++"<lambda>") params body scope clos ((X.mg "__name__").getD .none) c' ctv)).get? b=some o:=λb o hb e=>j0 _ (hx b o hb e);have nPn:∀b,H b=none->b≠P:=λb e z=>by rw[z,hP] at e;cases e
  have upne:∀{b u},H b=some u->upd H c' (.own P) b=some u:=λ{b u} e=>by rw[aK (aL e nc)];exact e
  refine q _ c' _ ctv (upd H c' (.own P)) _ tk (I.step (g':=s.gens) (d':=s.drawn) (ch:=[]) (λ_ z=>nomatch z) (λb o _ _ _ e n=>kp b o (nPn b n) e) (λb o _ _ _ e n=>⟨o.slots,kp b o (nPn b n) e⟩) (λb o _ e n=>?_) (λb o _ e=>?_)
   (λb xs e=>upne e) (λb o u e=>upne e) (λb qs e=>⟨#[],by rw[upne e];simp⟩) (λm hm=>?_) (λb u e=>?_) I.bare) (λb o e=>upne e) (bC5 (bCF hge hlt)) (by rw[aK (bBY hlt)];exact I.hok.fresh (bC5 (bCF hge hlt))) aJ (upne hP) (j5 _ rfl) ⟨c',oc,vs,t,rfl,j0 _ hoc,hd,hv⟩
  ·rw[aK (t7 (bAB (m8 e) hge))];exact n
  ·by_cases z:b=P
   ·subst z;exact⟨_,j0 _ htb⟩
   ·exact⟨o,kp b o z e⟩
  ·obtain⟨o,es,ep,e,r⟩:=hm;exact⟨o,es,ep,kp _ o (nPn _ I.free) e,r⟩
  ·by_cases z:b=c'
   ·subst z;rw[aJ] at e;cases e;exact⟨oc,j0 _ hoc⟩
   ·rw[aK z] at e;by_cases y:b=P
    ·subst y;rw[hP] at e;cases e;refine⟨_,j0 _ htb,by rw[bC0];exact TriplesOk_snoc _ _ _ _ ht,λpos' cv' hf=>?_⟩;rw[bC0] at hf;rcases PySem.W.zW _ ht hf with hf|rfl
     ·obtain⟨c2,oc2,vs2,t2,rfl,a2,a3,a4,a5⟩:=hcodes pos' cv' hf;exact⟨c2,oc2,vs2,t2,rfl,upne a2,kp _ _ (λz=>by rw[z,hP] at a2;cases a2) a3,a4,a5⟩
     ·exact⟨c',oc,vs,t,rfl,aJ,j0 _ hoc,hd,hv⟩
    ·refine (I.hok b u e).stay (λd v hd' r=>kp d v ?_ r) (λd r=>upne r) λd xs r=>upne r;rcases hd' with rfl|r'
     ·exact y
     ·intro z;rw[z,hP] at r';cases r'
open Classical in
noncomputable def aCr (S:Addr->Prop) (h:Heap) (H:Hp):Hp:=λb=>if S b then (h.get? b).map (ExO b) else H b
open Classical in
noncomputable def aDw (S:Addr->Prop) (H Z:Hp):Hp:=λb=>if S b then H b else Z b
theorem oJ {S:Addr->Prop}{h:Heap}{b:Addr}{o:Obj}(hb:S b)(e:h.get? b=some o):aCr S h H b=some (ExO b o):=by unfold aCr;rw[if_pos hb,e];rfl
theorem dD {S:Addr->Prop}{h:Heap}{b:Addr}(hb:¬ S b):aCr S h H b=H b:=by unfold aCr;rw[if_neg hb]
theorem aBj {S:Addr->Prop}{Z:Hp}{b:Addr}(hb:S b):aDw S H Z b=H b:=by unfold aDw;rw[if_pos hb]
theorem gJ {S:Addr->Prop}{Z:Hp}{b:Addr}(hb:¬ S b):aDw S H Z b=Z b:=by unfold aDw;rw[if_neg hb]
structure zL (X:Cx)(H:Hp)(h:Heap)(S:Addr->Prop):Prop where
 there:∀b,S b->∃o,h.get? b=some o
 own:∀d a o,¬ S a->H a=some o->H d=some (.own a)->¬ S d
 own2:∀d a o,S a->H a=some o->(∃e,o=.own e)\/(H d=some (.own a)->S d)
 tup:∀d xs,H d=some (.tup xs)->¬ S d
 frz:∀d o u,H d=some (.frz o u)->¬ S d
 tbl:∀d ps,H d=some (.tbl ps)->¬ S d
 base:∀b o,X.base.get? b=some o->¬ S b
 frs:∀b∈frs X.stack,¬ S b
theorem zL.hok {S:Addr->Prop}(p:zL X H s.heap S)(I:Inv X bEX σ H s):HOk X.prog X.w (aCr S s.heap H) s.heap:=by
 intro b o e;by_cases hb:S b
 ·obtain⟨ob,eo⟩:=p.there b hb;rw[oJ hb eo] at e;cases e;exact aX3 eo
 ·rw[dD hb] at e;refine (I.hok b o e).stay (λ_ _ _ q=>q) (λd q=>?_) λd xs q=>?_
  ·rw[dD (p.own d b o hb e q)];exact q
  ·rw[dD (p.tup d xs q)];exact q
theorem zL.env0 {S:Addr->Prop}(p:zL X H s.heap S)(I:Inv X bEX σ H s):aEq X.prog X.w X.K X.mg X.base X.A X.stack s (aCr S s.heap H):=
 ⟨I.ok.frames,I.ok.mod,λb o e=>⟨(I.bs b o e).1,by rw[dD (p.base b o e)];exact (I.bs b o e).2⟩,bAP I.ok.bsz I.sz,I.stack,λb hb=>by rw[dD (p.frs b hb)];exact I.rO b hb,p.hok I,I.bare⟩
theorem zL.after {S:Addr->Prop}{Q:VK}{u:Value}{s':Shared}(p:zL X H s.heap S)(I:Inv X bEX σ H s)(h:CE X.stack X.prog X.w (aCr S s.heap H) s (λv Z=>Same (aCr S s.heap H) Z/\∀H4,Same H H4->Q v H4) u s'):EP X bEX σ Q u s':=by
 obtain⟨v,Z,os,bare,un,hok,rel,sm,q⟩:=h;have ex:∀b o,S b->s.heap.get? b=some o->s'.heap.get? b=some o:=λb o hb e=>(hok b _ (sm _ _ (oJ hb e))).1;have same:Same H (aDw S H Z):=λb o e=>by
  by_cases hb:S b
  ·rw[aBj hb];exact e
  ·rw[gJ hb];exact sm _ _ (by rw[dD hb];exact e)
 refine I.after (Q:=Q) ⟨v,aDw S H Z,os,bare,⟨λb o e n hb hx=>?_,λb o e n hb hx=>?_,λb o e n hx=>?_,un.there,λb xs e=>?_,λb o u e=>?_,λb ps e=>?_⟩,λb o e=>?_,rel,q _ same⟩
 ·by_cases hs:S b
  ·exact ex b o hs e
  ·exact un.keep b o e (by rw[dD hs];exact n) hb hx
 ·exact un.slot b o e (by rw[dD (p.frs b hb)];exact n) hb hx
 ·by_cases hs:S b
  ·rw[aBj hs];exact n
  ·rw[gJ hs];exact un.free b o e (by rw[dD hs];exact n) hx
 ·rw[gJ (p.tup b xs e)];exact un.tups b xs (by rw[dD (p.tup b xs e)];exact e)
 ·rw[gJ (p.frz b o u e)];exact un.frzs b o u (by rw[dD (p.frz b o u e)];exact e)
 ·rw[gJ (p.tbl b ps e)];exact un.tbls b ps (by rw[dD (p.tbl b ps e)];exact e)
 ·by_cases hs:S b
  ·rw[aBj hs] at e;rcases p.own2 b b o hs e with⟨x,rfl⟩|_
   ·obtain⟨ob,eo⟩:=p.there b hs;exact⟨ob,ex b ob hs eo⟩
   ·by_cases ho:∃x,o=.own x
    ·obtain⟨x,rfl⟩:=ho;obtain⟨ob,eo⟩:=p.there b hs;exact⟨ob,ex b ob hs eo⟩
    ·refine (I.hok b o e).stay (λc u hc eu=>?_) (λd q=>same _ _ q) λd xs q=>same _ _ q;rcases hc with rfl|hc
     ·exact ex _ _ hs eu
     ·rcases p.own2 c b o hs e with z|z
      ·exact absurd z ho
      ·exact ex _ _ (z hc) eu
  ·rw[gJ hs] at e;refine (hok b o e).stay (λ_ _ _ q=>q) (λd q=>?_) λd xs q=>?_
   ·by_cases hd:S d
    ·obtain⟨ob,eo⟩:=p.there d hd;rw[sm _ _ (oJ hd eo)] at q;cases q
    ·rw[gJ hd];exact q
   ·by_cases hd:S d
    ·obtain⟨ob,eo⟩:=p.there d hd;rw[sm _ _ (oJ hd eo)] at q;cases q
    ·rw[gJ hd];exact q
end
section
variable {X:Cx}
def aRf (X:Cx)(iy:Nat)(P:Addr)(g x y:Str)(sp:Sp)(t:TA):TE:=fun σ H Q=>t σ H λvs H1=>∃z,σ[iy]?=some (some z)/\H1 P=some (.tab (X.env.qual++"<lambda>")) /\
 ∀f H2,wC H2 f (X.env.qual++"<lambda>") g x y z->(∀a xs,SqT X.K H1 a xs->SqT X.K H2 a xs)->sp (vs++[.ref f]) H2 (λr H3=>Same H2 H3/\∀H4,Same H1 H4->Q r H4) E0
theorem aL0 {fn g x y:Str}{p pos lpos:Pos}{e1 e2 e3:Expr}{te1 te2 te3:TE}{params:Arguments}{body:Expr}{scope:Scope}{iy k:Nat}{c P cp fa:Addr}{fd:FuncData}{ps:List Str}{sp:Sp}
  (F:fQ X.prog X.w X.K X.mg X.base CX0 k fa fd ps sp) (hr:Room k X.A) (hgl:Gl X fn) (hm:X.mg fn=some (.ref fa)) (hk:PySem.W.keepIn X.K (.ref fa)=true) (hb:Binds X.K fd ps [])
  (h1:PE X e1 te1) (h2:PE X e2 te2) (h3:PE X e3 te3)
  (hcode:X.env.code=.ref c) (CH:PySem.W.CodeHd X.base c P) (hbm:BM X.mg X.base) (S:aZk (X.env.qual++"<lambda>") g x y params body scope) (hN:X.N[iy]?=some y) (hyc:X.env.kindOf y=some .cell) (hcp:X.env.cells.lookup y=some cp) (hfn:X.fn y=true) (hcl:closureFor scope X.env=pure [(y,cp)]) (hdef:defaultsOf params X.env=([],[]))
  (hdb:(fn == ("__debug__":Str))=false:=by decide)
  (he1:starEach [e1,e2,e3,.Lambda params body scope lpos] X.env=[(false,eval e1 X.env),(false,eval e2 X.env),(false,eval e3 X.env),(false,eval (.Lambda params body scope lpos) X.env)]:=by rfl)
  (he2:starEach [e2,e3,.Lambda params body scope lpos] X.env=[(false,eval e2 X.env),(false,eval e3 X.env),(false,eval (.Lambda params body scope lpos) X.env)]:=by rfl) :
  PE X (.Call (.Name fn p) [e1,e2,e3,.Lambda params body scope lpos] [] pos) (aRf X iy P g x y sp (dR te1 (dR te2 (dR te3 aAr)))):=by
 intro bEX s σ H Q I h;refine bBM (oV I hgl hm ?_ hdb);refine PySem.W.callWith_K (h₀:=X.base) I.ok.mod.kin hk ?_ (by rw[he1,he2]) (by rw[he2];rfl);rw[he1];refine bB1 (thn (h1 bEX s σ H _ I h) λu1 s1 ⟨v1,H1,I1,r1,q1⟩=>?_);refine bB1 (thn (h2 bEX s1 σ H1 _ I1 q1) λu2 s2 ⟨v2,H2,I2,r2,q2⟩=>?_);refine bB1 (thn (h3 bEX s2 σ H2 _ I2 q2) λu3 s3 ⟨v3,H3,I3,r3,q3⟩=>?_);obtain⟨z,hz,hP,q⟩:=q3;refine bB1 (aPf I3 hcode CH hP hbm hcl hdef λf c' pm ctv H' h' tk I4 s4 hsz hf hc' hP' ef ecd=>bDW ⟨I4.kIn,?_⟩);generalize hs4:({ s3 with heap:=h',toks:=tk }:Shared)=s4' at I4;have hh:s4'.heap=h':=by rw[<-hs4]
 rw[<-hh] at ef ecd;obtain⟨m,hn,hl⟩:=I4.loc;obtain⟨u,ru,lk⟩:=hl iy y z hN hz (.inr (.inl hyc));have hcell:s4'.heap.IsCell cp (some u):=by
  rcases lk with⟨k',_⟩|⟨_,c2,e,hc⟩
  ·rw[hyc] at k';cases k'
  ·rw[hcp] at e;cases e;exact hc
 obtain⟨ol,eol,dol⟩:=id hcell;obtain⟨c2,oc,vs,t,ec2,eoc,doc,hv⟩:=ecd;cases ec2;have hcpn:H' cp=none:=I4.freeC y cp hcp;obtain⟨v0,ov,eov,_⟩:=I3.cell y cp hcp;have ltf:cp<f:=bAB (m8 eov) hsz;have PO:zL X H' s4'.heap (λb=>b=f\/b=cp\/b=P\/H' b=some (.own P)):=by
  refine⟨λb hb=>?_,λd a o ha eo ed hd=>?_,λd a o ha eo=>?_,λd xs e hd=>?_,λd o u e hd=>?_,λd ps e hd=>?_,λb o e hd=>?_,λb hb hd=>?_⟩
  ·rcases hb with rfl|rfl|rfl|hb
   ·exact⟨_,ef⟩
   ·exact⟨_,eol⟩
   ·obtain⟨ps,e,_⟩:=I4.hok _ _ hP';exact⟨_,e⟩
   ·exact I4.hok _ _ hb
  ·rcases hd with rfl|rfl|rfl|hd
   ·rw[hf] at ed;cases ed
   ·rw[hcpn] at ed;cases ed
   ·rw[hP'] at ed;cases ed
   ·rw[hd] at ed;cases ed;exact ha (.inr (.inr (.inl rfl)))
  ·rcases ha with rfl|rfl|rfl|ha
   ·rw[hf] at eo;cases eo
   ·rw[hcpn] at eo;cases eo
   ·exact .inr λq=>.inr (.inr (.inr q))
   ·rw[ha] at eo;cases eo;exact .inl ⟨_,rfl⟩
  ·rcases hd with rfl|rfl|rfl|hd
   ·rw[hf] at e;cases e
   ·rw[hcpn] at e;cases e
   ·rw[hP'] at e;cases e
   ·rw[hd] at e;cases e
  ·rcases hd with rfl|rfl|rfl|hd
   ·rw[hf] at e;cases e
   ·rw[hcpn] at e;cases e
   ·rw[hP'] at e;cases e
   ·rw[hd] at e;cases e
  ·rcases hd with rfl|rfl|rfl|hd
   ·rw[hf] at e;cases e
   ·rw[hcpn] at e;cases e
   ·rw[hP'] at e;cases e
   ·rw[hd] at e;cases e
  ·have hbn:=(I4.bs b o e).2;have hlt:b<X.s₀.heap.objs.size:=bAB (m8 e) I.ok.bsz;rcases hd with rfl|rfl|rfl|hd
   ·exact absurd (bAB hlt (bAP I3.sz hsz)) (bBO _)
   ·exact absurd (bAB hlt (I.ok.cab y _ hfn hcp)) (bBO _)
   ·rw[hP'] at hbn;cases hbn
   ·rw[hd] at hbn;cases hbn
  ·have hbn:=I4.rO b hb;rcases hd with rfl|rfl|rfl|hd
   ·obtain⟨_,o,eo,_⟩:=I3.stack.mem hb;exact absurd (bAB (m8 eo) hsz) (bBO _)
   ·rcases List.mem_cons.mp (I4.aE9 _ hb) with e|hb'
    ·obtain⟨o,es,ep,eo,ed,_⟩:=hn;rw[<-e,eol] at eo;cases eo;rw[dol] at ed;cases ed
    ·obtain⟨_,o,eo,_⟩:=I.ok.funs.mem hb';exact absurd (bAB (m8 eo) (I.ok.cab y _ hfn hcp)) (bBO _)
   ·rw[hP'] at hbn;cases hbn
   ·rw[hd] at hbn;cases hbn
 have LA:wC (aCr (λb=>b=f\/b=cp\/b=P\/H' b=some (.own P)) s4'.heap H') f (X.env.qual++"<lambda>") g x y z:=
  ⟨params,body,scope,cp,c',pm,ctv,oc,ol,u,vs,t,S,oJ (.inl rfl) ef,oJ (.inr (.inl rfl)) eol,λh e=>⟨ol,e,dol⟩,ru,oJ (.inr (.inr (.inr hc'))) eoc,doc,hv⟩
 have hq:=q f _ LA λb xs e=>by
  rcases s4.aY e with (e|⟨ob,e⟩)|e
  ·exact .inl (.inl (by rw[dD (PO.tup b xs e)];exact e))
  ·exact .inl (.inr ⟨ob,by rw[dD (PO.frz b ob _ e)];exact e⟩)
  ·exact .inr e
 have r:Vals [v1,v2,v3,.ref f] [u1,u2,u3,.ref f]:=.cons r1 (.cons r2 (.cons r3 (.cons rfl .nil)));have hlen:([u1,u2,u3,Value.ref f]++([]:List Value)).length=ps.length:=by rw[bBN,<-r.length];exact F.len _ _ _ _ hq
 refine bCX (bBR (F.run X.A X.stack s4' (aCr (λb=>b=f\/b=cp\/b=P\/H' b=some (.own P)) s4'.heap H') ⟨[u1,u2,u3,.ref f],[]⟩ [u1,u2,u3,.ref f] [v1,v2,v3,.ref f] _ E0 hr (PO.env0 I4) (by simpa using hb s4' [u1,u2,u3,.ref f] I4.kIn hlen) r hq) λrr s' hq'=>?_);cases rr with
 |error e=>exact hq'.elim
 |ok fl=>
  cases fl with
  |next=>exact False.elim hq'
  |brk=>exact False.elim hq'
  |cont=>exact False.elim hq'
  |ret uu=>obtain⟨v',Z,os,bare,un,hok,rel,sm,qq⟩:=hq';exact PO.after I4 ⟨v',Z,os,bare,un,hok,rel,sm,λH4 s5=>qq H4 (s4.trans s5)⟩
theorem aO3 {n:Str}{p pos:Pos}{e:Expr}{es:List Expr}{te:TE}{t:TA}{P:Program}{w:World}{K:bET}{mg:bEW}{base:Heap}{k:Nat}(hr:Room (k+1) X.A)(hf:VE X (.Name n p) te)(ha:VA X (e::es) t)(hp:cP e=true:=by rfl)(hpl:(backTo pos (starEach es X.env)).any (·.1)=false:=by rfl)
  (h1:X.prog=P:=by rfl) (h2:X.w=w:=by rfl) (h3:X.K=K:=by rfl) (h4:X.mg=mg:=by rfl) (h5:X.base=base:=by rfl) :
  VE X (.Call (.Name n p) (e::es) [] pos) (aQ2 P w K mg base k te t):=by
 subst h1 h2 h3 h4 h5;exact⟨aS6 hr hf.1 ha.1 (aP hp) hpl⟩
theorem aJx {fn g x y:Str}{p pos lpos:Pos}{e1 e2 e3:Expr}{te1 te2 te3:TE}{params:Arguments}{body:Expr}{scope:Scope}{iy k:Nat}{c P cp:Addr}{ps:List Str}{sp:Sp}
  (G:Ok X.prog X.w X.K X.mg X.base k fn ps sp) (hr:Room k X.A) (hgl:Gl X fn) (h1:VE X e1 te1) (h2:VE X e2 te2) (h3:VE X e3 te3)
  (hcode:X.env.code=.ref c) (CH:PySem.W.CodeHd X.base c P) (hbm:BM X.mg X.base) (S:aZk (X.env.qual++"<lambda>") g x y params body scope) (hN:X.N[iy]?=some y) (hyc:X.env.kindOf y=some .cell) (hcp:X.env.cells.lookup y=some cp) (hfn:X.fn y=true) (hcl:closureFor scope X.env=pure [(y,cp)]) (hdef:defaultsOf params X.env=([],[]))
  (hp1:cP e1=true:=by rfl) (hp2:cP e2=true:=by rfl) (hp3:cP e3=true:=by rfl) (hdb:(fn == ("__debug__":Str))=false:=by decide)
  (hl:starEach [.Lambda params body scope lpos] X.env=[(false,eval (.Lambda params body scope lpos) X.env)]:=by rfl) :
  VE X (.Call (.Name fn p) [e1,e2,e3,.Lambda params body scope lpos] [] pos) (aRf X iy P g x y sp (dR te1 (dR te2 (dR te3 aAr)))):=by
 obtain⟨fa,fd,g1,g2,g3,g4⟩:=G;refine⟨aL0 g4 hr hgl g1 g2 g3 h1.1 h2.1 h3.1 hcode CH hbm S hN hyc hcp hfn hcl hdef hdb ?_ ?_⟩
 ·rw[aP hp1,aP hp2,aP hp3,hl]
 ·rw[aP hp2,aP hp3,hl]
end
end L2
namespace HT
open PySem PySem.Spec PyProof.Rows L2
section
variable {prog:Program}{w:World}{A:Around}{E:bEU}{s:Shared}
theorem sH {t sl:Addr}{items:Array Value}{vl vu:Value}{lo hi:Option Int}{Q:bEU}(ht:IsTup s.heap t items)(hs:s.heap.IsSliceOf sl vl vu .none)(pl:IsPart vl lo)(pu:IsPart vu hi)
  (hw:sIx items.size 0 lo=0/\sIx items.size items.size hi=items.size) (h:Q (.ref t) s):wpAny (model prog w) A (getItem (.ref t) (.ref sl)) Q E s:=by
 obtain⟨os,hos,hcs,hds⟩:=id hs;have hTs:s.TypeIs (.ref sl) "slice":=⟨os,hos,hcs⟩;obtain⟨⟨cls,dd,data,slt⟩,ho,hc,n,hd⟩:=id ht;simp only at hc hd;subst hc hd;unfold getItem
 try with_reducible refine bAV ?_
 first|refine c7 (j4 ?_)|skip
 refine c7 (wpAny_sequenceKey ht.typeIs (by decide) ?_);refine c7 (bAG (name:=Str.ofString "__getitem__") ht.typeIs bCD
  (bAE bCD ht.typeIs entry_tuple_getitem ?_ (args_tuple_getitem _ _)))
 show wpAny _ _ (Builtin.Tuple.tupleItemsOf (.ref t) >>= _) _ _ s;refine c7 (tupleItemsOf_ ht ?_);refine c7 (bEJ hTs ?_);rw[if_pos (by decide)];refine c7 (nO hs pl pu ?_);have hyes:((((sIx items.size 0 lo:Nat):Int) == 0 && (1:Int) == 1 && (sIx items.size items.size hi - sIx items.size 0 lo) == items.size)=true):=by rw[hw.1,hw.2];simp
 show wpAny _ _ (if (((sIx items.size 0 lo:Nat):Int) == 0 && (1:Int) == 1 && (sIx items.size items.size hi - sIx items.size 0 lo) == items.size)=true then _ else _) _ _ s;rw[if_pos hyes];obtain⟨hp,g,d,tk,os'⟩:=s;wp_walk using AutoSeq1.wpAny_loadPart' ho;exact⟨_,rfl,j4 h⟩
end
end HT
namespace L2
open PySem PySem.Spec PyProof.Rows
def bBg (K:bET):V->Option Int->Option Int->Hp->VK->Prop:=λx lo hi H Q=>∃a xs,x=.ref a/\SqT K H a xs/\∀p H',Same H H'->SqT K H' p (qI xs lo hi)->Q (.ref p) H'
theorem aNz {X:Cx}:SlR X (bBg X.K):=by
 intro bEX s σ H x v vl vu lo hi sl Q I rx hs pl pu h;obtain⟨a,xs,rfl,hx,q⟩:=h;by_cases hw:HT.sIx xs.length 0 lo=0/\HT.sIx xs.length xs.length hi=xs.length
 ·cases rx;obtain⟨its,r,ht,hz⟩:=I.tuple hx;have hlen:its.toArray.size=xs.length:=by rw[m7];exact r.length.symm
  refine⟨"tuple",_,PyProof.Rows.slot_tuple_getitem.lookup,ht.typeIs,?_⟩;refine HT.sH ht hs pl pu (by rw[hlen];exact hw) ⟨.ref a,H,I,rfl,q a H (Same.refl H) ?_⟩;have e:qI xs lo hi=xs:=by unfold qI;rw[hw.1,hw.2,List.drop_zero,Nat.sub_zero,bCG]
  rw[e];exact hx
 ·exact aMr bEX s σ H _ v vl vu lo hi sl Q I rx hs pl pu ⟨a,xs,rfl,hx,hw,λp H' s' g'=>q p H' s' (SqT.of g')⟩
end L2
namespace L2
open PySem PySem.Spec PyProof.Rows
section
variable {X:Cx}
end
inductive PH (P:Program)(w:World):List DictEntry->List (Str × Value)->Prop
 |nil:PH P w [] []
 |cons {e:DictEntry} {kv:Str × Value} {es:List DictEntry} {kvs:List (Str × Value)}:(strKind P w).is kv.1 e.key=true->e.hash=(strKind P w).hash kv.1->e.val=kv.2->PH P w es kvs->PH P w (e::es) (kv::kvs)
end L2
namespace PySem
theorem aA3:typeLookup (.type "list") "keys"=pure none:=am_miss_of_fast (by decide +kernel)
section
variable {prog:Program}{w:World}{A:Around}{E:bEU}{s:Shared}
end
end PySem
namespace PySem
theorem iH:entryFor table "dict.update.loop"=some Builtin.«dict.update.loop»:=entryFor_of_tree (by kernel_rfl)
theorem cR:plainId "dict.update.loop"=true:=by decide +kernel
section
variable {prog:Program}{w:World}{κ:Type}[DecidableEq κ]{knd:KeyKind prog w κ}
def tU (knd:KeyKind prog w κ)(h:Heap)(v:Value)(kv:κ × Value):Prop:=∃p key,v=.ref p/\PyProof.Rows.IsTup h p #[key,kv.2]/\knd.is kv.1 key=true
theorem tU.at {h h':Heap}{v:Value}{kv:κ × Value}(x:tU knd h v kv)(k:∀p,v=.ref p->∀o,h.get? p=some o->h'.get? p=some o):tU knd h' v kv:=by obtain⟨p,key,rfl,⟨o,ho,r⟩,hk⟩:=x;exact⟨p,key,rfl,⟨o,k p rfl o ho,r⟩,hk⟩
theorem yN {A:Around}{R:Result->Shared->Prop}{I:Addr}{fp wr:List Addr}{n:Nat}{P:Nat->Value->Prop}{St:Nat->Heap->Prop}(W:Walks prog w A.in1 I fp wr n P St)(D:Addr)(hD:D∉fp)
  (kvs:List (κ × Value)) (hlen:kvs.length=n) (hb:n<=1000) (hP:∀i v,P i v->∀p,v=.ref p->p∉D::wr) :
  ∀(k i:Nat) (s:Shared) (t:Tok),i+k=n->St i s.heap->s.heap.DictOf knd D (merged [] (kvs.take i))->(∀j v kv,P j v->kvs[j]?=some kv->tU knd s.heap v kv) ->
   (∀h' tk,(∀b o,b∉D::wr->s.heap.get? b=some o->h'.get? b=some o)->h'.DictOf knd D (merged [] kvs)->R (.ok (.ret .none)) { s with heap:=h',toks:=tk }) ->
   codeAny (model prog w) A (.builtin "dict.update.loop" ⟨[.ref D,.ref I,.int (i:Nat) t,.none],[]⟩) R s:=by
 have hDw:D∉wr:=λq=>hD (W.sub _ q);intro k
 induction k with
 |zero=>
  intro i s t hi st hd hp q;obtain rfl:i=n:=by lia
  refine bBF iH ?_;rw[bBC cR _];show wpAny _ A.in1 (pyNext (.ref I) >>= _) _ _ _;refine c7 (W.done s _ _ st λh' tk kp=>?_);show wpAny _ _ (Builtin.Dict.addKeywords D [] >>= _) _ _ _;refine c7 (j4 (j4 (q h' tk (λb o nb e=>kp b o (λz=>nb (j8 _ z)) e) ?_)));rw[bAY (bEI hlen)] at hd;exact hd.at λo e=>kp D o hDw e
 |succ k ih=>
  intro i s t hi st hd hp q;refine bBF iH ?_;rw[bBC cR _];show wpAny _ A.in1 (pyNext (.ref I) >>= _) _ _ _;refine c7 (W.item i s _ _ (by lia) st λv h1 tk1 hv st1 kp1=>?_);have hlt:i<kvs.length:=by lia
  have hkv:=d9 hlt;have hd1:h1.DictOf knd D (merged [] (kvs.take i)):=hd.at λo e=>kp1 D o hDw e;have hp1:∀j v kv,P j v->kvs[j]?=some kv->tU knd h1 v kv:=λj v kv pj e=>(hp j v kv pj e).at λp ev o eo=>kp1 p o (λz=>hP j v pj p ev (j8 _ z)) eo;obtain⟨p,key,rfl,⟨⟨oc,od,ox,osl⟩,ho,hc,m,hx⟩,hk⟩:=hp1 i v _ hv hkv;simp only at hc hx;subst hc hx;have hml:(merged [] (kvs.take i)).length<=i:=by have:=merged_length_le [] (kvs.take i);rw[bAL] at this;simp only[bBZ] at this;lia
  obtain⟨hp0,g,d,tk,os⟩:=s;have hT:(⟨h1,g,d,tk1,os⟩:Shared).TypeIs (.ref p) "tuple":=⟨_,ho,rfl⟩;have hpi:∀(Q:List Value->Shared->Prop) (E:bEU),Q [key,kvs[i].2] ⟨h1,g,d,tk1,os⟩->wpAny (model prog w) A.in1 (Builtin.Dict.pairItems (.ref p)) Q E ⟨h1,g,d,tk1,os⟩:=by intro Q E h;unfold Builtin.Dict.pairItems;wp_walk;exact h
  show wpAny _ A.in1 (holding [.ref p] _ >>= _) _ _ ⟨h1,g,d,tk1,os⟩;refine c7 (bAV (c7 (wpAny_tryCatch (hpi _ _ ?_))));show wpAny _ A.in1 (holding [key,kvs[i].2] (dictSet D key kvs[i].2)) _ _ ⟨h1,g,d,tk1,os⟩;refine bAV (wpAny_dictSet_pairs (s:=⟨h1,g,d,tk1,os⟩) hk hd1 (λh2 hd2 sb2=>?_) (bAP hml (bAP (by lia) (show 1000<=sizeLine by decide))));have e1:merged [] (kvs.take (i+1))=stored (merged [] (kvs.take i)) kvs[i].1 kvs[i].2:=merged_take_succ [] kvs i _ hkv;rw[<-e1] at hd2;refine j4 ⟨bCJ cR _,?_⟩;have kp2:∀b o,b∉D::wr->hp0.get? b=some o->h2.get? b=some o:=λb o nb e=>by rw[sb2.2 b (λz=>nb (by rw[z];exact m9))];exact kp1 b o (λz=>nb (j8 _ z)) e
  refine ih (i+1) _ _ (by lia) (W.frame _ _ _ st1 λb hb o e=>?_) hd2 (λj v kv pj e=>(hp1 j v kv pj e).at λp' ev o eo=>?_) λh' tk' kp hd'=>q h' tk' (λb o nb e=>kp b o nb (kp2 b o nb e)) hd'
  ·rw[sb2.2 b (λz=>hD (by rw[<-z];exact hb))];exact e
  ·rw[sb2.2 p' (λz=>hP j v pj p' ev (by rw[z];exact m9))];exact eo
end
end PySem
namespace PySem
section
variable {prog:Program}{w:World}{κ:Type}[DecidableEq κ]{knd:KeyKind prog w κ}{A:Around}{E:bEU}{s:Shared}
end
end PySem
namespace PySem
open PySem.Calls PyProof.Rows
section
variable {prog:Program}{w:World}{κ:Type}[DecidableEq κ]{knd:PySem.KeyKind prog w κ}{A:Around}{E:bEU}{s:Shared}
theorem aM4 (nm:κ->Str):∀(kvs:List (κ × Value)) (vs:List Value),vs.length=kvs.length->(∀(j:Nat) (v:Value),vs[j]?=some v->∃kv t,kvs[j]?=some kv/\v=.str (nm kv.1) t)->StrsAre vs (kvs.map λkv=>nm kv.1)
 |[],[],_,_=>.nil
 |kv::kvs,v::vs,hl,h=>by obtain⟨kv',t,e,rfl⟩:=h 0 v rfl;cases e;exact .cons _ t (aM4 nm kvs vs (by simpa using hl) λj v e=>h (j+1) v (by simpa using e))
theorem wJ {d:Addr}{kvs:List (κ × Value)}{Q:bEU}(nm:κ->Str)(hh:A.handled=none)(lo:(d == sysModules)=false)(hm:s.heap.DictOf knd d kvs)(htx:∀k v,knd.is k v=true->(∃x,(k,x)∈kvs)->∃t,v=Value.str (nm k) t)(h64:kvs.length<64)
  (q:∀(h1 h':Heap) (tk:Nat) (B:Addr) (vs:List Value) (ss:List Str) (e:Nat),StrsAre vs ss->ss.Perm (kvs.map λkv=>nm kv.1)->h'.get? B=some (seqObj "list" vs.toArray e)->(∀b o,s.heap.get? b=some o->h1.get? b=some o)->(∀b o,h1.get? b=some o->h'.get? b=some o)->h1.objs.size<=B->Q (.ref B) { s with heap:=h',toks:=tk }) :
  wpAny (model prog w) A (call (.builtin "sorted") [.ref d]) Q E s:=by
 obtain⟨ep,hat⟩:=hm.dictAt;refine call_function_entry kind_sorted plain_sorted entry_sorted (args_sorted1 _) ?_;unfold Builtin.«sorted»;refine c7 (m:=checkCount "sorted" 1 1 _) (j4 ?_);refine c7 (PySem.W.kdu_collect (A:=A.in1) (PySem.W.kdl_dict (knd:=knd) (kvs:=kvs) (ep:=ep) lo) hh hat (by rw[sizeLine_eq];lia) λh' tk acc hk hacc=>?_);have hl:acc.toList.length=kvs.length:=by rw[bAA];exact hacc.1
 have hS:StrsAre acc.toList (kvs.map λkv=>nm kv.1):=aM4 nm kvs _ hl λj v e=>by obtain⟨k,x,hx,hi⟩:=hacc.2 j v (by rw[<-bBI];exact e);obtain⟨t,rfl⟩:=htx k v hi ⟨x,p7 hx⟩;exact⟨(k,x),t,hx,rfl⟩
 refine c7 (wpAny_newList ?_ (by rw[sizeLine_eq];lia));have hoL:(h'.push (seqObj "list" acc.toList.toArray 0)).get? h'.objs.size=some (seqObj "list" acc.toList.toArray 0):=j5 _ rfl;refine c7 (bAV (bAE slot_list_sort ⟨_,hoL,rfl⟩ entry_list_sort (list_sort_treeK strKind_oneLt hoL hS.keysOf (λv₁ v₂ rest e=>keyKind_strs (by rw[<-e];exact hS)) (by rw[hl];exact h64) λst' a1 a2=>⟨_,rfl,?_⟩) (args_list_sort _)));obtain⟨ss',b1,b2,b3⟩:=sorted_out_str hS a1 a2;obtain⟨e,he⟩:=sortedHeap_at (out:=(arrOf st').map (·.2)) hoL;refine j4 ⟨_,rfl,q h' _ tk h'.objs.size ((arrOf st').map (·.2)).toList ss' e b1 b2 (by rw[bEC];exact he) hk (λb o hb=>?_) (j6 _)⟩;have hlt:=m8 hb;show (sortedHeap (h'.push (seqObj "list" acc.toList.toArray 0)) h'.objs.size acc.toList ((arrOf st').map (·.2))).get? b=some o;rw[sortedHeap_old (t7 hlt) (by rw[size_push'];exact bBH hlt)];exact j0 _ hb
end
end PySem
namespace L2
open PySem PySem.Spec PyProof.Rows
section
variable {X:Cx}
abbrev aR7 (K:bET)(H:Hp):List V->List (Key × V)->Prop:=Paired λu kv=>∃p,u=.ref p/\SqT K H p [kV kv.1,kv.2]
theorem aYc {bEX:bEV}{σ:L2.St}{H:Hp}{s:Shared}(I:Inv X bEX σ H s){us:List V}{kvs:List (Key × V)}(h:aR7 X.K H us kvs):∀{its:List Value},Vals us its ->
  ∃vs:List (Key × Value),KV kvs vs/\vs.length=its.length/\∀(j:Nat) (v:Value) (kv:Key × Value),its[j]?=some v->vs[j]?=some kv->tU (bB X.prog X.w) s.heap v kv:=by
 induction h with
 |nil=>intro its hv;cases hv;exact⟨[],.nil,rfl,λj v kv e _=>by simp at e⟩
 |@cons u kv us kvs r t ih=>
  intro its hv;cases hv with
  |cons q z=>
   obtain⟨p,rfl,hp⟩:=r;cases q;obtain⟨ks,rv,pl,hz⟩:=I.tuple hp;obtain⟨vs,h1,h2,h3⟩:=ih z;obtain⟨key,val,rfl,rk,rx⟩:=vals2 rv;refine⟨(kv.1,val)::vs,.cons ⟨rfl,rx⟩ h1,by rw[v5,v5,h2],λj v kv' e e'=>?_⟩;cases j with
   |zero=>cases e;cases e';exact⟨p,key,rfl,pl,aBr rk⟩
   |succ j=>exact h3 j v kv' (by simpa using e) (by simpa using e')
theorem zZ:∀(kvs acc:List (Key × V)),((acc++kvs).map (·.1)).Nodup->qK acc kvs=acc++kvs
 |[],acc,_=>by simp[qK]
 |kv::r,acc,h=>by
  have hn:lV acc kv.1=none:=by
   cases e:lV acc kv.1 with
   |none=>rfl
   |some v=>exfalso;have:=aVt e;rw[bAO,List.nodup_append] at h;exact h.2.2 _ this _ (by rw[bAM];exact m9 ..) rfl
  show qK (putK acc kv.1 kv.2) r=_;rw[wB _ hn,zZ r _ (by rw[bDD];exact h),bDD];rfl
def aW8:List V->Hp->VK->Prop:=λxs H Q=>∃(d:Addr) (kvs:List (Key × V)) (ns:List Str),xs=[.ref d]/\H d=some (.dK kvs)/\kvs.map (·.1)=(ns.map λn=>(Sum.inr n:Key))/\kvs.length<64/\∀(p:Addr) (H':Hp) (ss:List Str),H p=none->Same H H'->ss.Perm ns->H' p=some (.lst (ss.map V.str))->Q (.ref p) H'
theorem aD3:∀{vs:List Value} {ss:List Str},StrsAre vs ss->Vals (ss.map V.str) vs
 |_,_,.nil=>.nil
 |_,_,.cons x t h=>.cons ⟨t,rfl⟩ (aD3 h)
theorem uE (hc:X.calm=true):cD X (.builtin "sorted") aW8:=by
 intro bEX s σ H xs us Q I r h;obtain⟨d,kvs,ns,rfl,hd,hk,h64,q⟩:=h;obtain⟨u,rfl,ru⟩:=vals1 r;cases ru;obtain⟨z,hm,vs,rel,dd⟩:=aA9 I.hok hd;have lk:=KV.length rel;have ek:=KV.keys rel
 let nm:Key->Str:=λk=>match k with|.inr n=>n|.inl _=>⟨#[]⟩
 have enm:(vs.map λkv=>nm kv.1)=ns:=by
  have:(vs.map λkv=>nm kv.1)=(vs.map (·.1)).map nm:=by rw[bB0];rfl
  rw[this,<-ek,hk,bB0];exact List.map_id _
 refine wJ (knd:=bB X.prog X.w) nm (I.ok.hd hc) hm dd (λk v hi hx=>?_) (by lia) λh1 h' tk B vs' ss e hS hp hB kp1 kp2 hle=>?_
 ·obtain⟨x,hx⟩:=hx;have hkm:k∈kvs.map (·.1):=by rw[ek];exact List.mem_map.mpr ⟨_,hx,rfl⟩
  rw[hk] at hkm;obtain⟨n,_,rfl⟩:=List.mem_map.mp hkm;cases v with
  |str x t=>
   have e:x=n:=by simpa [bB,mY,Value.isStrOf] using hi
   exact⟨t,by rw[e]⟩
  |_=>exact absurd (show false=true from hi) t6
 ·rw[enm] at hp;have I1:Inv X bEX σ H { s with heap:=h1,toks:=tk }:=I.kept (t':=tk) kp1;have hf:H B=none:=I1.hok.fresh hle;refine⟨.ref B,_,I1.laid (t':=tk) (o:=.lst (ss.map V.str)) kp2 hle ?_,rfl,q B _ ss hf (aV hf _) hp aJ⟩;have hv:=aD3 hS;have l1:=hp.length_eq;have l2:ns.length=kvs.length:=by have:=congrArg List.length hk;simpa using this.symm
  exact⟨small (by rw[j9];lia),vs',e,hv,hB⟩
end
section
variable {X:Cx}{e st:Expr}{te ts:TE}{pos p2:Pos}
end
section
variable {X:Cx}{o i value:Expr}{td ty tv:TE}{pos pos':Pos}
theorem zH (hu:X.A.units+1<cLine)(ho:VE X o td)(hi:VE X i ty)(hv:VE X value tv)(hs:swapsWith value (some (.Subscript o i pos')) pos.line X.env=pure false:=by rfl):VS X (.Assign [.Subscript o i pos'] value pos) (aWz td ty tv):=⟨aU1 hu ho.1 hi.1 hv.1 hs⟩
end
theorem aW3 {X:Cx}{pos:Pos}{o i:Expr}{to ti:TE}{t:aVa}(ho:VE X o to)(hi:VE X i ti)(hs:aW4 X t)
  (ha:∀v,assign (.Subscript o i pos) X.env v=(do
   let ov <-holding [v] (eval o X.env)
   let iv <-holding [v,ov] (eval i X.env)
   standAt pos
   holding [v,ov,iv] (setItem ov iv v)
   release [v,ov,iv] []):=by intro _;rfl):VG X (.Subscript o i pos) (bAy to ti t):=⟨aYn ho.1 hi.1 hs ha⟩
theorem aGm {X:Cx}:MtR X "list.reverse" aH0:=aKs
end L2
namespace PySem
abbrev pL (t:Addr)(i:Nat):Obj:={ cls:=.type "list_iterator",data:=.fields #[.ref t,.int (i:Int) 0] }
section
variable {prog:Program}{w:World}{A:Around}{E:bEU}{s:Shared}
theorem tG {it t:Addr}{i:Nat}{its:Array Value}{x:Value}{Q:bEU}(ho:s.heap.get? it=some (pL t i))(ht:s.heap.IsList t its)(hx:its[i]?=some x)
  (q:∀h',h'.get? it=some (pL t (i+1))->Heap.SameBut it s.heap h'->Q x { s with heap:=h' }):wpAny (model prog w) A (Builtin.SmallTypes.nextOf (.ref it)) Q E s:=by
 have hT:s.TypeIs (.ref it) "list_iterator":=⟨_,ho,rfl⟩;obtain⟨ol,hol,_,nl,hdl⟩:=ht;unfold Builtin.SmallTypes.nextOf;refine c7 (bAG (name:=Str.ofString "__next__") hT slot_listiter_next (bAE slot_listiter_next hT entry_listiter_next ?_ (args_listiter_next _)));refine c7 (m:=field (.ref it) 0) (bAF ho rfl (x:=.ref t) rfl ?_);refine (if_neg (show ¬ ((Value.ref t == Value.none)=true) from t6)).symm ▸ ?_;refine c7 (m:=field (.ref it) 1) (bAF ho rfl (x:=.int i 0) rfl ?_);refine c7 (m:=seqItems? (.ref t)) (bAZ hol hdl ?_);simp only[bAT,hx];refine c7 (bBV ho rfl (by simp) (j4 ⟨x,rfl,j4 (q _ ?_ (bBP ..))⟩));exact bAX _ ho rfl
end
section
variable {prog:Program}{w:World}{κ:Type}[DecidableEq κ]{knd:KeyKind prog w κ}
end
end PySem
namespace PySem
section
variable {prog:Program}{w:World}{A:Around}{E:bEU}{s:Shared}
end
section
variable {prog:Program}{w:World}{κ:Type}[DecidableEq κ]{knd:KeyKind prog w κ}{A:Around}{E:bEU}{s:Shared}
end
end PySem
namespace L2
open PySem PySem.Spec PyProof.Rows
section
variable {X:Cx}{a b:Expr}{ta:TA}{pos p pos2 p2:Pos}
end
end L2
namespace PySem
section
variable {prog:Program}{w:World}{A:Around}{E:bEU}{s:Shared}
theorem pN {it t:Addr}{i:Nat}{its:Array Value}{Q:bEU}(hh:A.handled=none)(ho:s.heap.get? it=some (pL t i))(ht:s.heap.IsList t its)(hx:its[i]?=none)
  (q:∀h' e,Heap.ExtBut it s.heap h'->(∃o,h'.get? e=some o/\o.cls=.type "StopIteration")->E (.ref e) { s with heap:=h' }):wpAny (model prog w) A (Builtin.SmallTypes.nextOf (.ref it)) Q E s:=by
 have hT:s.TypeIs (.ref it) "list_iterator":=⟨_,ho,rfl⟩;obtain⟨ol,hol,_,nl,hdl⟩:=ht;unfold Builtin.SmallTypes.nextOf;refine c7 (bAG (name:=Str.ofString "__next__") hT slot_listiter_next (bAE slot_listiter_next hT entry_listiter_next ?_ (args_listiter_next _)));refine c7 (m:=field (.ref it) 0) (bAF ho rfl (x:=.ref t) rfl ?_);refine (if_neg (show ¬ ((Value.ref t == Value.none)=true) from t6)).symm ▸ ?_;refine c7 (m:=field (.ref it) 1) (bAF ho rfl (x:=.int i 0) rfl ?_);refine c7 (m:=seqItems? (.ref t)) (bAZ hol hdl ?_);simp only[bAT,hx];refine c7 (bCY (c7 (bBV ho rfl (by simp) ?_)));unfold Builtin.SmallTypes.stopIteration;refine c7 ?_;simp only[newExc,newTuple];refine c7 (bAH ?_ (by size_fits));refine c7 (m:=firstArgMember _ _) (bEB (a:=Value.none) (by first|rfl|(simp only[firstArgMember];rfl)) ?_);refine bAH ?_ (by size_fits);simp only[raiseNew];refine c7 (bD8 ?_);first|rw[show A.in1.handled=none from hh]|rw[hh]
 refine c7 (j4 (bEQ ?_));exact q _ _ (((bBP ..).extBut.push _).push _) ⟨_,j5 _ rfl,rfl⟩
theorem aK6 {z TI TO i1 i2 t u:Addr}{k:Nat}{xs ys:Array Value}{x y a b:Value}{Q:Option Value->Shared->Prop}(D:oO z TI TO i1 i2)
  (hz:s.heap.get? z=some (iK .none TI TO)) (hTI:s.heap.get? TI=some (dO (.ref i1) (.ref i2))) (hTO:s.heap.get? TO=some (dO a b))
  (g1:s.heap.get? i1=some (pL t k)) (g2:s.heap.get? i2=some (pL u k)) (ht:s.heap.IsList t xs) (hu:s.heap.IsList u ys) (hx:xs[k]?=some x) (hy:ys[k]?=some y)
  (t1:t≠z) (t2:t≠TO) (t3:t≠i1) (t4:t≠i2) (u1:u≠z) (u2:u≠TO) (u3:u≠i1) (u4:u≠i2)
  (q:∀h',h'.get? z=some (iK (rawInt s.heap.objs.size) TI TO)->h'.get? TO=some (dO x y)->h'.get? i1=some (pL t (k+1))->h'.get? i2=some (pL u (k+1))->h'.get? s.heap.objs.size=some (dO x y) ->
   (∀c o,c≠z->c≠TO->c≠i1->c≠i2->s.heap.get? c=some o->h'.get? c=some o)->Q (some (.ref s.heap.objs.size)) { s with heap:=h' }) :
  wpAny (model prog w) A (pyNext (.ref z)) Q E s:=by
 have hT:s.TypeIs (.ref z) "zip":=⟨_,hz,rfl⟩;unfold pyNext;refine c7 (bB4 (bAG (name:=Str.ofString "__next__") hT F.slot_zip_next (bAE F.slot_zip_next hT F.entry_zip_next ?_ (F.args_zip_next_1 _))));refine c7 (m:=field (.ref z) 2) (bAF hz rfl (x:=.bool false) rfl ?_);refine c7 (m:=field (.ref z) 3) (bAF hz rfl (x:=.ref TI) rfl (c7 (bAZ hTI rfl ?_)));refine c7 (m:=Builtin.SmallTypes.ownedTupleIsFree (.ref z)) ?_;unfold Builtin.SmallTypes.ownedTupleIsFree;refine c7 (bAF hz rfl (x:=.none) rfl (j4 ?_));simp only[if_true];refine c7 (bCY (c7 (bAF hz rfl (x:=.ref TO) rfl (c7 (bAI hz (by simp) λh1 z1 s1=>?_)))));replace z1:h1.get? z=some (iK .ellipsis TI TO):=z1;refine c7 ?_;simp only[bDI,bDP,bCM,bDG];refine c7 (c7 (bCN ?_));refine c7 (m:=Builtin.SmallTypes.nextOf (.ref i1)) (tG (s:={ s with heap:=h1 }) (s1.extBut _ _ D.h3 g1) (ht.extBut s1.extBut t1) hx λh2 g12 s2=>j4 ?_);have TO2:h2.get? TO=some (dO a b):=s2.extBut _ _ D.h8 (s1.extBut _ _ D.h2 hTO);refine c7 (bAZ TO2 rfl (c7 (vY (s:={ s with heap:=h2 }) TO2 λh3 TO3 s3=>c7 (bDT (j4 ?_)))));replace TO3:h3.get? TO=some (dO x b):=TO3;refine c7 (c7 (bCN ?_));refine c7 (m:=Builtin.SmallTypes.nextOf (.ref i2)) (tG (s:={ s with heap:=h3 }) (s3.extBut _ _ D.h9.symm (s2.extBut _ _ D.h10.symm (s1.extBut _ _ D.h4 g2))) (((hu.extBut s1.extBut u1).extBut s2.extBut u3).extBut s3.extBut u2) hy λh4 g24 s4=>j4 ?_);have TO4:h4.get? TO=some (dO x b):=s4.extBut _ _ D.h9 TO3;refine c7 (bAZ TO4 rfl (c7 (vY (s:={ s with heap:=h4 }) TO4 λh5 TO5 s5=>c7 (bDT (j4 (j4 ?_))))));replace TO5:h5.get? TO=some (dO x y):=TO5;refine c7 (bAZ TO5 rfl (c7 (bDY ?_)));have hsz:h5.objs.size=s.heap.objs.size:=by rw[s5.1,s4.1,s3.1,s2.1,s1.1]
 have z5:h5.get? z=some (iK .ellipsis TI TO):=s5.extBut _ _ D.h2.symm (s4.extBut _ _ D.h4.symm (s3.extBut _ _ D.h2.symm (s2.extBut _ _ D.h3.symm z1)));have kp:∀c o,c≠z->c≠TO->c≠i1->c≠i2->s.heap.get? c=some o->h5.get? c=some o:=λc o c1 c2 c3 c4 e=>s5.extBut _ _ c2 (s4.extBut _ _ c4 (s3.extBut _ _ c2 (s2.extBut _ _ c3 (s1.extBut _ _ c1 e))));have g15:h5.get? i1=some (pL t (k+1)):=s5.extBut _ _ D.h8.symm (s4.extBut _ _ D.h10 (s3.extBut _ _ D.h8.symm g12));have g25:h5.get? i2=some (pL u (k+1)):=s5.extBut _ _ D.h9.symm g24;refine c7 (m:=Builtin.SmallTypes.ownedTupleHandOut (.ref z) (.ref h5.objs.size)) ?_;unfold Builtin.SmallTypes.ownedTupleHandOut;have z6:(h5.push (dO x y)).get? z=some (iK .ellipsis TI TO):=j0 _ z5;refine c7 (bAI z6 (by simp) λh7 z7 s7=>?_);replace z7:h7.get? z=some (iK (rawInt h5.objs.size) TI TO):=z7;refine bAI z7 (by simp) λh8 z8 s8=>?_;replace z8:h8.get? z=some (iK (rawInt h5.objs.size) TI TO):=z8;have up:∀c o,c≠z->h5.get? c=some o->h8.get? c=some o:=λc o c1 e=>s8.extBut _ _ c1 (s7.extBut _ _ c1 (j0 _ e));have nz:h5.objs.size≠z:=bBY (m8 z5);have T8:h8.get? h5.objs.size=some (dO x y):=s8.extBut _ _ nz (s7.extBut _ _ nz (j5 _ rfl));rw[hsz] at z8 T8;refine j4 ⟨_,rfl,j4 ?_⟩;show Q (some (.ref h5.objs.size)) _;rw[hsz];exact q h8 z8 (up _ _ D.h2 TO5) (up _ _ D.h3 g15) (up _ _ D.h4 g25) T8 λc o c1 c2 c3 c4 e=>up c o c1 (kp c o c1 c2 c3 c4 e)
theorem aO8 {z TI TO i1 i2 t u:Addr}{k:Nat}{xs ys:Array Value}{x a b:Value}{Q:Option Value->Shared->Prop}(hh:A.handled=none)(D:oO z TI TO i1 i2)
  (hz:s.heap.get? z=some (iK .none TI TO)) (hTI:s.heap.get? TI=some (dO (.ref i1) (.ref i2))) (hTO:s.heap.get? TO=some (dO a b))
  (g1:s.heap.get? i1=some (pL t k)) (g2:s.heap.get? i2=some (pL u k)) (ht:s.heap.IsList t xs) (hu:s.heap.IsList u ys) (hx:xs[k]?=some x) (hy:ys[k]?=none) (t1:t≠z) (u1:u≠z) (u2:u≠TO) (u3:u≠i1)
  (q:∀h',(∀c o,c≠z->c≠TO->c≠i1->c≠i2->s.heap.get? c=some o->h'.get? c=some o)->Q none { s with heap:=h' }) :
  wpAny (model prog w) A (pyNext (.ref z)) Q E s:=by
 have hT:s.TypeIs (.ref z) "zip":=⟨_,hz,rfl⟩;unfold pyNext;refine c7 (bB4 (bAG (name:=Str.ofString "__next__") hT F.slot_zip_next (bAE F.slot_zip_next hT F.entry_zip_next ?_ (F.args_zip_next_1 _))));refine c7 (m:=field (.ref z) 2) (bAF hz rfl (x:=.bool false) rfl ?_);refine c7 (m:=field (.ref z) 3) (bAF hz rfl (x:=.ref TI) rfl (c7 (bAZ hTI rfl ?_)));refine c7 (m:=Builtin.SmallTypes.ownedTupleIsFree (.ref z)) ?_;unfold Builtin.SmallTypes.ownedTupleIsFree;refine c7 (bAF hz rfl (x:=.none) rfl (j4 ?_));simp only[if_true];refine c7 (bCY (c7 (bAF hz rfl (x:=.ref TO) rfl (c7 (bAI hz (by simp) λh1 z1 s1=>?_)))));replace z1:h1.get? z=some (iK .ellipsis TI TO):=z1;refine c7 ?_;simp only[bDI,bDP,bCM,bDG];refine c7 (c7 (bCN ?_));refine c7 (m:=Builtin.SmallTypes.nextOf (.ref i1)) (tG (s:={ s with heap:=h1 }) (s1.extBut _ _ D.h3 g1) (ht.extBut s1.extBut t1) hx λh2 g12 s2=>j4 ?_);have TO2:h2.get? TO=some (dO a b):=s2.extBut _ _ D.h8 (s1.extBut _ _ D.h2 hTO);refine c7 (bAZ TO2 rfl (c7 (vY (s:={ s with heap:=h2 }) TO2 λh3 TO3 s3=>c7 (bDT (j4 ?_)))));replace TO3:h3.get? TO=some (dO x b):=TO3;refine c7 (c7 (bCN ?_));refine c7 (m:=Builtin.SmallTypes.nextOf (.ref i2)) (pN (s:={ s with heap:=h3 }) hh (s3.extBut _ _ D.h9.symm (s2.extBut _ _ D.h10.symm (s1.extBut _ _ D.h4 g2))) (((hu.extBut s1.extBut u1).extBut s2.extBut u3).extBut s3.extBut u2) hy λh4 e s4 he=>?_);obtain⟨oe,hoe,hce⟩:=he;have z4:h4.get? z=some (iK .ellipsis TI TO):=s4 _ _ D.h4.symm (s3.extBut _ _ D.h2.symm (s2.extBut _ _ D.h3.symm z1));have hez:e≠z:=λx=>by subst x;rw[z4] at hoe;cases hoe;simp at hce
 refine bAI z4 (by simp) λh5 _ s5=>?_;refine c7 (bCQ (T:="StopIteration") (b:=true) ⟨oe,s5.extBut _ _ hez hoe,hce⟩ isSubtype_stop ?_);exact j4 (q _ λc o c1 c2 c3 c4 x=>s5.extBut _ _ c1 (s4 _ _ c4 (s3.extBut _ _ c2 (s2.extBut _ _ c3 (s1.extBut _ _ c1 x)))))
theorem aLk {z TI TO i1 i2 t:Addr}{k:Nat}{xs:Array Value}{a b:Value}{Q:Option Value->Shared->Prop}(hh:A.handled=none)(D:oO z TI TO i1 i2)
  (hz:s.heap.get? z=some (iK .none TI TO)) (hTI:s.heap.get? TI=some (dO (.ref i1) (.ref i2))) (hTO:s.heap.get? TO=some (dO a b))
  (g1:s.heap.get? i1=some (pL t k)) (ht:s.heap.IsList t xs) (hx:xs[k]?=none) (t1:t≠z)
  (q:∀h',(∀c o,c≠z->c≠TO->c≠i1->c≠i2->s.heap.get? c=some o->h'.get? c=some o)->Q none { s with heap:=h' }) :
  wpAny (model prog w) A (pyNext (.ref z)) Q E s:=by
 have hT:s.TypeIs (.ref z) "zip":=⟨_,hz,rfl⟩;unfold pyNext;refine c7 (bB4 (bAG (name:=Str.ofString "__next__") hT F.slot_zip_next (bAE F.slot_zip_next hT F.entry_zip_next ?_ (F.args_zip_next_1 _))));refine c7 (m:=field (.ref z) 2) (bAF hz rfl (x:=.bool false) rfl ?_);refine c7 (m:=field (.ref z) 3) (bAF hz rfl (x:=.ref TI) rfl (c7 (bAZ hTI rfl ?_)));refine c7 (m:=Builtin.SmallTypes.ownedTupleIsFree (.ref z)) ?_;unfold Builtin.SmallTypes.ownedTupleIsFree;refine c7 (bAF hz rfl (x:=.none) rfl (j4 ?_));simp only[if_true];refine c7 (bCY (c7 (bAF hz rfl (x:=.ref TO) rfl (c7 (bAI hz (by simp) λh1 z1 s1=>?_)))));replace z1:h1.get? z=some (iK .ellipsis TI TO):=z1;refine c7 ?_;simp only[bDI,bDP,bCM,bDG];refine c7 (c7 (bCN ?_));refine c7 (m:=Builtin.SmallTypes.nextOf (.ref i1)) (pN (s:={ s with heap:=h1 }) hh (s1.extBut _ _ D.h3 g1) (ht.extBut s1.extBut t1) hx λh2 e s2 he=>?_);obtain⟨oe,hoe,hce⟩:=he;have z2:h2.get? z=some (iK .ellipsis TI TO):=s2 _ _ D.h3.symm z1;have hez:e≠z:=λx=>by subst x;rw[z2] at hoe;cases hoe;simp at hce
 refine bAI z2 (by simp) λh3 _ s3=>?_;refine c7 (bCQ (T:="StopIteration") (b:=true) ⟨oe,s3.extBut _ _ hez hoe,hce⟩ isSubtype_stop ?_);exact j4 (q _ λc o c1 _ c3 _ x=>s3.extBut _ _ c1 (s2 _ _ c3 (s1.extBut _ _ c1 x)))
abbrev zM1 (h:Heap)(t:Addr):Heap:=h.push (pL t 0)
abbrev zM2 (h:Heap)(t u:Addr):Heap:=(zM1 h t).push (pL u 0)
abbrev zM3 (h:Heap)(t u:Addr):Heap:=(zM2 h t u).push (dO (.ref h.objs.size) (.ref (zM1 h t).objs.size))
abbrev zM4 (h:Heap)(t u:Addr):Heap:=(zM3 h t u).push (dO .none .none)
abbrev zM5 (h:Heap)(t u:Addr):Heap:=(zM4 h t u).push (iK .none (zM2 h t u).objs.size (zM3 h t u).objs.size)
theorem aGo (t u:Addr)(xs ys:Array Value):Meets (Builtin.«zip.__new__» ⟨[.type "zip",.ref t,.ref u],[]⟩)
  (λ_ R s=>s.heap.IsList t xs/\s.heap.IsList u ys/\R (.ok (.ret (.ref (zM4 s.heap t u).objs.size))) { s with heap:=zM5 s.heap t u }):=
 .of_wp λprog w A R s h=>by
  obtain⟨hp,g,d,tk,os⟩:=s;obtain⟨a1,a2,h⟩:=h;have hsub:=sub_zip;have b1:Heap.IsList (Shared.heap ⟨hp,g,d,tk,os⟩) t xs:=a1;have b2:Heap.IsList (Shared.heap ⟨hp.push { cls:=.type "list_iterator",data:=.fields #[.ref t,.int 0 0] },g,d,tk,os⟩) u ys:=by obtain⟨o,ho,r⟩:=a2;exact⟨o,j0 _ ho,r⟩
  wp_walk using bB5 b1,bB5 b2;exact⟨_,rfl,h⟩
theorem aKc {t u:Addr}{xs ys:Array Value}{Q:bEU}(ht:s.heap.IsList t xs)(hu:s.heap.IsList u ys)(q:Q (.ref (zM4 s.heap t u).objs.size) { s with heap:=zM5 s.heap t u }) :
  wpAny (model prog w) A (call (.type "zip") [.ref t,.ref u]) Q E s:=by
 refine callType_new F.called_zip (by decide) (F.typeCall_zip_2 _ _) (F.newCall_zip_2 _ _) (λobj=>F.args_object_init_3 obj _ _) F.entry_zip_new (aGo t u xs ys) ⟨ht,hu,?_⟩;exact⟨⟨_,j5 _ rfl,rfl⟩,q⟩
end
end PySem
namespace L2
open PySem PySem.Spec PyProof.Rows
section
variable {X:Cx}{bEX:bEV}{σ:St}{H:Hp}{s:Shared}
end
def Itw (K:bET)(t u:Addr)(xs ys:List V):It:=
 ⟨λi H=>SqL K H t xs/\SqL K H u ys/\i<xs.length/\i<ys.length,λi H v H'=>∃T a b,H T=none/\v=.ref T/\H'=upd H T (.tup [a,b])/\xs[i]?=some a/\ys[i]?=some b,λi H=>SqL K H t xs/\SqL K H u ys/\i=ys.length/\ys.length<=xs.length⟩
def wtn (z TI TO i1 i2 t u:Addr)(i:Nat)(h:Heap):Prop:=
 h.get? z=some (iK .none TI TO)/\h.get? TI=some (dO (.ref i1) (.ref i2))/\(∃a b,h.get? TO=some (dO a b))/\h.get? i1=some (pL t i)/\h.get? i2=some (pL u i)
theorem aJ9 {P:Program}{w:World}{K:bET}{elts:List Expr}{kt:Nat}{pos:Pos}{z TI TO i1 i2 t u:Addr}{xs ys:List V}(D:oO z TI TO i1 i2) :
  Turn P w K (.Tuple elts kt pos) (Itw K t u xs ys) [z,TI,TO,i1,i2] z (wtn z TI TO i1 i2 t u) where
 mem:=by simp
 obj:=λi h st b hb=>by
  obtain⟨e1,e2,⟨a,c,e3⟩,e4,e5⟩:=st;simp only[bAD,v9,or_false] at hb;rcases hb with rfl|rfl|rfl|rfl|rfl
  ·exact⟨_,e1,λv z=>by cases (show Data.fields _=Data.cell v from z)⟩
  ·exact⟨_,e2,λv z=>by cases (show Data.seq _ _=Data.cell v from z)⟩
  ·exact⟨_,e3,λv z=>by cases (show Data.seq _ _=Data.cell v from z)⟩
  ·exact⟨_,e4,λv z=>by cases (show Data.fields _=Data.cell v from z)⟩
  ·exact⟨_,e5,λv z=>by cases (show Data.fields _=Data.cell v from z)⟩
 keep:=λi h h' st k=>by obtain⟨e1,e2,⟨a,c,e3⟩,e4,e5⟩:=st;exact⟨k z (by simp) _ e1,k TI (by simp) _ e2,⟨a,c,k TO (by simp) _ e3⟩,k i1 (by simp) _ e4,k i2 (by simp) _ e5⟩
 item:=by
  intro X hP hw hK hc i bEX s σ H E I hf st hg;subst hP hw hK;obtain⟨e1,e2,⟨a0,c0,e3⟩,e4,e5⟩:=st;obtain⟨ht,hu,l1,l2⟩:=hg;obtain⟨its,rv,pt,hz⟩:=I.list ht;obtain⟨jts,rw',pu,hz'⟩:=I.list hu;obtain⟨x,hx,rx⟩:=rv.get (d9 l1);obtain⟨y,hy,ry⟩:=rw'.get (d9 l2);have fz:=hf z (by simp);have fO:=hf TO (by simp);have f1:=hf i1 (by simp);have f2:=hf i2 (by simp);refine aK6 D e1 e2 e3 e4 e5 pt.isList pu.isList (by simpa using hx) (by simpa using hy) (I.jK ht fz) (I.jK ht fO) (I.jK ht f1) (I.jK ht f2)
   (I.jK hu fz) (I.jK hu fO) (I.jK hu f1) (I.jK hu f2) λh' a1 a2 a3 a4 a5 kp=>?_
  refine⟨_,rfl,?_⟩;have fT:H s.heap.objs.size=none:=I.hok.fresh (j6 _);have I1:Inv X bEX σ (upd H s.heap.objs.size (.tup [xs[i],ys[i]])) { s with heap:=h' }:=by
   refine I.drawn (ch:=[z,TO,i1,i2]) (its:=[x,y]) (λb hb=>?_) (λb o hb e=>?_) (j6 _) (.cons rx (.cons ry .nil)) (small (by simp)) (.of a5 rfl ⟨_,a5,rfl,_,rfl⟩) (λb hb=>?_)
   ·refine hf b ?_;simp only[bAD,v9,or_false] at hb ⊢;rcases hb with h|h|h|h <;> simp[h]
   ·simp only[bAD,v9,or_false,not_or] at hb;exact kp b o hb.1 hb.2.1 hb.2.2.1 hb.2.2.2 e
   ·simp only[bAD,v9,or_false] at hb;rcases hb with rfl|rfl|rfl|rfl
    ·exact⟨_,a1⟩
    ·exact⟨_,a2⟩
    ·exact⟨_,a3⟩
    ·exact⟨_,a4⟩
  have nT:∀b∈[z,TI,TO,i1,i2],b≠s.heap.objs.size:=λb hb=>by
   have e:∃o,s.heap.get? b=some o:=by
    simp only[bAD,v9,or_false] at hb;rcases hb with rfl|rfl|rfl|rfl|rfl
    ·exact⟨_,e1⟩
    ·exact⟨_,e2⟩
    ·exact⟨_,e3⟩
    ·exact⟨_,e4⟩
    ·exact⟨_,e5⟩
   obtain⟨o,e⟩:=e;exact t7 (m8 e)
  refine bEP (s:={ s with heap:=h' }) a1 λh2 z2 s2=>?_;obtain⟨g0,g1,g2,g3,g4,g5⟩:=fz;have I2:Inv X bEX σ (upd H s.heap.objs.size (.tup [xs[i],ys[i]])) { s with heap:=h2 }:=Inv.turned (s:={ s with heap:=h' }) I1 (t':=s.toks) (it:=z) (λb o hb e=>(s2.2 b hb).trans e) (by rw[aK (nT z (by simp))];exact g0) g1 g3 g4 g5;refine⟨.ref s.heap.objs.size,_,I2,rfl,⟨_,_,_,fT,rfl,rfl,d9 l1,d9 l2⟩,?_,λb hb=>by rw[aK (nT b hb)];exact (hf b hb).1⟩;exact⟨z2,s2.extBut _ _ D.h1 (kp TI _ D.h1 D.h5 D.h6 D.h7 e2),⟨_,_,s2.extBut _ _ D.h2 a2⟩,s2.extBut _ _ D.h3 a3,s2.extBut _ _ D.h4 a4⟩
 done:=by
  intro X hP hw hK hc i bEX s σ H E I hf st hg;subst hP hw hK;obtain⟨e1,e2,⟨a0,c0,e3⟩,e4,e5⟩:=st;obtain⟨ht,hu,hl,hle⟩:=hg;obtain⟨its,rv,pt,hz⟩:=I.list ht;obtain⟨jts,rw',pu,hz'⟩:=I.list hu;have hlen:=rv.length;have hlen':=rw'.length;have fz:=hf z (by simp);have fO:=hf TO (by simp);have f1:=hf i1 (by simp);refine (λ(go:∀h',(∀c o,c≠z->c≠TO->c≠i1->c≠i2->s.heap.get? c=some o->h'.get? c=some o)->_)=>?_:_->_) (λh' kp=>(⟨rfl,?_⟩:(none:Option Value)=none/\Inv X bEX σ H { s with heap:=h' }))
  ·cases hx:its[i]? with
   |none=>exact aLk (I.ok.hd hc) D e1 e2 e3 e4 pt.isList (by simpa using hx) (I.jK ht fz) λh' kp=>go h' kp
   |some x=>exact aO8 (I.ok.hd hc) D e1 e2 e3 e4 e5 pt.isList pu.isList (by simpa using hx) (by simp;lia) (I.jK ht fz) (I.jK hu fz) (I.jK hu fO) (I.jK hu f1) λh' kp=>go h' kp
  refine Inv.aFh (ch:=[z,TO,i1,i2]) I (λb hb=>hf b ?_) λb o hb e=>?_
  ·simp only[bAD,v9,or_false] at hb ⊢;rcases hb with h|h|h|h <;> simp[h]
  ·simp only[bAD,v9,or_false,not_or] at hb;exact kp b o hb.1 hb.2.1 hb.2.2.1 hb.2.2.2 e
 self:=λ_ _ _ _ _ st h=>bD6 st.1 h
section
variable {X:Cx}
def aK2 (K:bET)(ta:TA):TI:=fun σ H R=>ta σ H λvs H1=>∃t u xs ys,vs=[.ref t,.ref u]/\SqL K H1 t xs/\SqL K H1 u ys/\R (Itw K t u xs ys) H1
theorem aTd {elts:List Expr}{kt:Nat}{tp:Pos}{a b:Expr}{ta:TA}{p pos:Pos}(hg:Gl X "zip")(hm:X.mg "zip"=none)(ha:PA X [a,b] ta)(hs:starEach [a,b] X.env=(false,eval a X.env)::starEach [b] X.env:=by rfl)
  (hs2:starEach [b] X.env=[(false,eval b X.env)]:=by rfl):PI X (.Tuple elts kt tp) (.Call (.Name "zip" p) [a,b] [] pos) (aK2 X.K ta):=by
 intro bEX s σ H R I h;refine Call_ (nU I hg hm aTj (bBQ (thn (ha pos bEX s σ H _ I h) λus s1 ⟨vs,H1,I1,r1,q1⟩=>?_) hs (by rw[hs2];rfl)));obtain⟨t,u,xs,ys,e,ht,hu,q⟩:=q1;subst e;obtain⟨its,rv,pt,hz⟩:=I1.list ht;obtain⟨jts,rw',pu,hz'⟩:=I1.list hu;cases r1 with
 |cons r rr=>
  cases rr with
  |cons r' rr'=>
   cases rr';cases r;cases r';refine aKc pt.isList pu.isList ?_;have z1:(zM1 s1.heap t).objs.size=s1.heap.objs.size+1:=bAW ..;have z2:(zM2 s1.heap t u).objs.size=s1.heap.objs.size+2:=by rw[bAW,z1]
   have z3:(zM3 s1.heap t u).objs.size=s1.heap.objs.size+3:=by rw[bAW,z2]
   have z4:(zM4 s1.heap t u).objs.size=s1.heap.objs.size+4:=by rw[bAW,z3]
   have D:oO (zM4 s1.heap t u).objs.size (zM2 s1.heap t u).objs.size (zM3 s1.heap t u).objs.size s1.heap.objs.size (zM1 s1.heap t).objs.size:=by constructor <;> (show (_:Nat)≠(_:Nat);rw[Ne];intro h;simp only[z1,z2,z3,z4] at h;lia)
   have g5:(zM5 s1.heap t u).get? (zM4 s1.heap t u).objs.size=some (iK .none (zM2 s1.heap t u).objs.size (zM3 s1.heap t u).objs.size):=j5 _ rfl;have g4:(zM5 s1.heap t u).get? (zM3 s1.heap t u).objs.size=some (dO .none .none):=j0 _ (j5 _ rfl);have g3:(zM5 s1.heap t u).get? (zM2 s1.heap t u).objs.size=some (dO (.ref s1.heap.objs.size) (.ref (zM1 s1.heap t).objs.size)):=j0 _ (j0 _ (j5 _ rfl));have g2:(zM5 s1.heap t u).get? (zM1 s1.heap t).objs.size=some (pL u 0):=j0 _ (j0 _ (j0 _ (j5 _ rfl)));have g1:(zM5 s1.heap t u).get? s1.heap.objs.size=some (pL t 0):=j0 _ (j0 _ (j0 _ (j0 _ (j5 _ rfl))));have I2:Inv X bEX σ H1 { s1 with heap:=zM5 s1.heap t u }:=I1.kept (t':=s1.toks) λb o e=>j0 _ (j0 _ (j0 _ (j0 _ (j0 _ e))));refine bD6 (s:={ s1 with heap:=zM5 s1.heap t u }) g5 ⟨_,_,_,_,H1,rfl,I2,aJ9 (xs:=xs) (ys:=ys) D,⟨g5,g3,⟨_,_,g4⟩,g1,g2⟩,λb hb=>?_,q⟩;have hb':s1.heap.objs.size<=b:=by
    simp only[bAD,v9,or_false] at hb;rcases hb with rfl|rfl|rfl|rfl|rfl
    ·rw[z4];exact bBS ..
    ·rw[z2];exact bBS ..
    ·rw[z3];exact bBS ..
    ·exact j6 _
    ·rw[z1];exact bBS ..
   exact I1.aCa hb' (I1.hok.fresh hb')
theorem aRl {elts:List Expr}{kt:Nat}{tp:Pos}{a b:Expr}{t:TA}{p pos:Pos}(hg:Gl X "zip")(hm:X.mg "zip"=none)(ha:VA X [a,b] t)(hp:cP a=true:=by rfl)(hp2:cP b=true:=by rfl) :
  VI X (.Tuple elts kt tp) (.Call (.Name "zip" p) [a,b] [] pos) (aK2 X.K t):=⟨aTd hg hm ha.1 (aP hp) (aP (es:=[]) hp2)⟩
end
theorem aI7 {K:bET}{t u:Addr}{xs ys:List V}{H:Hp}{σ0:L2.St}{te:TE}{Q:VK}(ht:SqL K H t xs)(hu:SqL K H u ys)(hle:ys.length<=xs.length)(h2:Ps2 σ0 σ0)(hsz:ys.length<=1000)(zs:List V)(hzl:zs.length=ys.length)
  (he:∀(i:Nat) (x y z:V),xs[i]?=some x->ys[i]?=some y->zs[i]?=some z->∀H' R,Same H H'->(∀H2,Same H' H2->R z H2)->te ((σ0.set 0 (some x)).set 1 (some y)) H' R)
  (q:∀D H',Same H H'->H' D=some (.lst zs)->Q (.ref D) H'):vA (Itw K t u xs ys) H σ0 (aL6 K 2 (sV (cO 0) (sV (cO 1) aPz))) nJ te Q:=by
 intro D hD;refine⟨λi m σ' H' vs=>m=ys.length - i/\i<=ys.length/\Same H H'/\H' D=some (.lst vs)/\vs=zs.take i/\Ps2 σ0 σ',⟨ys.length,by simp,bAJ _,aV hD _,aJ,rfl,h2⟩,?_⟩;rintro i m σ' H' vs ⟨rfl,hi,sm,gD,rfl,hps⟩;refine⟨gD,?_⟩;by_cases hlt:i<ys.length
 ·right;refine⟨⟨sm.seq ht,sm.seq hu,by lia,hlt⟩,?_⟩;rintro v H2 ⟨T,a,b,hT,rfl,rfl,ha,hb⟩;have s2:Same H' (L2.upd H' T (.tup [a,b])):=aV hT _;refine hg2 (SqT.of aJ) hps fun σ2 hps2 hat=>?_;have hat':σ2=_:=hat;subst hat';dsimp only[nJ];rw[if_pos rfl];have hiz:i<zs.length:=by lia
  refine he i a b zs[i] ha hb (d9 hiz) _ _ (sm.trans s2) λH3 s3=>?_;have gD3:H3 D=some (.lst (zs.take i)):=s3 _ _ (s2 _ _ gD);refine⟨gD3,bCF (show (zs.take i).length<=1000 by rw[bAL];lia) (by decide),ys.length - (i+1),by lia,rfl,by lia,iQ hD (sm.trans (s2.trans s3)),aJ,?_,hps2⟩;rw[bBD,d9 hiz];rfl
 ·left;have e:i=ys.length:=by lia
  subst e;rw[bAY (by lia)] at gD;exact⟨⟨sm.seq ht,sm.seq hu,rfl,hle⟩,q D H' sm gD⟩
theorem aLi {J:It}{H:Hp}{xs:List V}{σ0:L2.St}{te:TE}{Q:VK}(go:∀H' i x,Same H H'->xs[i]?=some x->J.go i H'/\∀y H2,J.yld i H' y H2->H2=H'/\y=x)(stop:∀H',Same H H'->J.stop xs.length H')(h1:Ps1 σ0 σ0)(hsz:xs.length<=1000)
  (zs:List V) (hzl:zs.length=xs.length) (he:∀(i:Nat) (x z:V),xs[i]?=some x->zs[i]?=some z->∀H' R l,Same H H'->(∀H2,Same H' H2->R z H2)->te ((σ0.set 0 l).set 0 (some x)) H' R)
  (q:∀D H',Same H H'->H D=none->H' D=some (.lst zs)->Q (.ref D) H'):vA J H σ0 (cO 0) nJ te Q:=by
 intro D hD;refine⟨λi m σ' H' vs=>m=xs.length - i/\i<=xs.length/\Same H H'/\H' D=some (.lst vs)/\vs=zs.take i/\Ps1 σ0 σ',⟨xs.length,by simp,bAJ _,aV hD _,aJ,rfl,h1⟩,?_⟩;rintro i m σ' H' vs ⟨rfl,hi,sm,gD,rfl,hps⟩;refine⟨gD,?_⟩;by_cases hlt:i<xs.length
 ·right;obtain⟨g1,g2⟩:=go H' i xs[i] sm (d9 hlt);refine⟨g1,λv H2 hy=>?_⟩;obtain⟨rfl,rfl⟩:=g2 v H2 hy;refine hg1 (i:=i) hps fun σ2 hps2 hat=>?_;obtain⟨l,rfl⟩:=hat;dsimp only[nJ];rw[if_pos rfl];have hiz:i<zs.length:=by lia
  refine he i _ zs[i] (d9 hlt) (d9 hiz) _ _ l sm λH3 s3=>?_;refine⟨s3 _ _ gD,bCF (show (zs.take i).length<=1000 by rw[bAL];lia) (by decide),xs.length - (i+1),by lia,rfl,by lia,iQ hD (sm.trans s3),aJ,?_,hps2⟩;rw[bBD,d9 hiz];rfl
 ·left;have e:i=xs.length:=by lia
  subst e;rw[bAY (by lia)] at gD;exact⟨stop H' sm,q D H' sm hD gD⟩
theorem aQd {X:Cx}{K:bET}{scope:Scope}{N:List Str}{tl:TA}{te:TE}{tt:TT}{g:TG}{σ:L2.St}{H:Hp}{Q:VK}(σ0:L2.St)(cap:Cap X scope N σ σ0)(h:tl σ H λvs H1=>∃t u xs ys,vs=[.ref t,.ref u]/\SqL K H1 t xs/\SqL K H1 u ys/\vA (Itw K t u xs ys) H1 σ0 g tt te Q):jU X scope N (aK2 K tl) g tt te σ H Q:=⟨σ0,cap,h⟩
def sJ (ts:List (Addr × Str))(H:Hp):Prop:=∀p∈ts,H p.1=some (.tab p.2)
def lU:List (Addr × Str)->Addr->Option Str
 |[],_=>none
 |p::r,b=>if b=p.1 then some p.2 else lU r b
theorem aDe {b:Addr}:∀{ts:List (Addr × Str)},(∀p∈ts,b≠p.1)->lU ts b=none
 |[],_=>rfl
 |p::r,h=>by unfold lU;rw[if_neg (h p m9)];exact aDe λq hq=>h q (j8 _ hq)
theorem pU {b:Addr}{q:Str}:∀{ts:List (Addr × Str)},lU ts b=some q->∃p∈ts,p.1=b/\p.2=q
 |p::r,h=>by
  unfold lU at h;by_cases e:b=p.1
  ·rw[if_pos e] at h;exact⟨p,m9,e.symm,bAQ h⟩
  ·rw[if_neg e] at h;obtain⟨p',h1,h2⟩:=pU h;exact⟨p',j8 _ h1,h2⟩
theorem aNg:∀{ts:List (Addr × Str)},(ts.map (·.1)).Nodup->∀{p:Addr × Str},p∈ts->lU ts p.1=some p.2
 |p::r,nd,q,hq=>by
  rw[bAM,bDQ] at nd;unfold lU;rcases List.mem_cons.mp hq with rfl|hq
  ·rw[if_pos rfl]
  ·rw[if_neg λz=>nd.1 (by rw[<-z];exact List.mem_map.mpr ⟨q,hq,rfl⟩)];exact aNg nd.2 hq
theorem aOi {P:Program}{w:World}{K:bET}{mg mb:bEW}{CX:CXT}{k:Nat}{fa a:Addr}{fd:FuncData}{x:Str}{sp:Sp}{s₁:Shared}{vs:List Value}{ns:List Int}
  (KX:K.In s₁.heap) (hns:s₁.heap.Ns mainGlobals mg) (hb:s₁.heap.Ns builtinsNs mb) (hbb:∀x:Str,x≠"__name__"->mb x=bootBuiltins x) (hlim:s₁.heap.NoLimit) (hg:s₁.gens=#[])
  (ha:s₁.heap.get? a=some { cls:=.type "list",data:=.seq vs.toArray }) (hi:IntsAre vs ns) (hl:ns.length<=sizeLine) (hr:Room k callerA)
  (ts:List (Addr × Str)) (hts:∀p∈ts,s₁.heap.get? p.1=some { cls:=.none,data:=.fields #[] }/\isCodeTable s₁.heap p.1/\K.lookup p.1=none) (hnd:(ts.map (·.1)).Nodup) (hbm:BM mg s₁.heap)
  (F:∀base:Heap,K.In base->base.Ns mainGlobals mg->BM mg base->fQ P w K mg base CX k fa fd [x] sp) (hbind:∀(s:Shared) (u:Value),BindsTo s fd ⟨[u],[]⟩ [(x,u)])
  (hsp:∀H:Hp,sJ ts H->SqL K H a (ns.map V.int)->sp [.ref a] H (λv H'=>v=.bl true/\sJ ts H') λ_ _ _=>False)
  (hCX:∀H e s',CX [] H s₁ (λ_ _ _=>False) e s'->False) :
  codeAny (model P w) callerA (.call (.ref fa) ⟨[.ref a],[]⟩) (λr s'=>r=.ok (.ret (.bool true))/\OldK s₁.heap s'.heap/\s'.os=s₁.os/\AllBare s'.gens) s₁:=by
 have rv:=aDv hi;have lenV:=hi.length;have core:∀H:Hp,sJ ts H->(∀b,(∀p∈ts,b≠p.1)->H b=none\/∃o xs,H b=some (.frz o (.lst xs)))->SqL K H a (ns.map V.int)->HOk P w H s₁.heap->(∀b,H b≠none->b=a\/∃p∈ts,b=p.1)->(H a≠none->K.lookup a=none) ->
   codeAny (model P w) callerA (.call (.ref fa) ⟨[.ref a],[]⟩) (λr s'=>r=.ok (.ret (.bool true))/\OldK s₁.heap s'.heap/\s'.os=s₁.os/\AllBare s'.gens) s₁:=by
  intro H hT hO hS hok hA hK;have base_of:∀{b:Addr} {o:Obj},s₁.heap.get? b=some o->H b=none->(aCj s₁.heap H).get? b=some o:=λe n=>aQ5 e n;have noA:∀{b:Addr} {o:Obj} {es:Array DictEntry} {ep:Nat},s₁.heap.get? b=some o->o.data=.dict es ep->H b=none:=λ{b o es ep} e d=>by
   cases q:H b with
   |none=>rfl
   |some u=>
    rcases hA b (by rw[q];simp) with e'|⟨p,hp,e'⟩
    ·subst e';rw[ha] at e;cases e;have d':Data.seq vs.toArray _=Data.dict es ep:=d;cases d'
    ·subst e';rw[(hts p hp).1] at e;cases e;have d':Data.fields _=Data.dict es ep:=d;cases d'
  have nsK:∀{b:Addr} {m:bEW},s₁.heap.Ns b m->(aCj s₁.heap H).Ns b m:=λ{b m} ⟨o,es,ep,e,d,r⟩=>⟨o,es,ep,base_of e (noA e d),d,r⟩;have hKb:K.In (aCj s₁.heap H):=λb o e=>base_of (KX b o e) (by
   cases q:H b with
   |none=>rfl
   |some u=>
    rcases hA b (by rw[q];simp) with e'|⟨p,hp,e'⟩
    ·subst e';rw[hK (by rw[q];simp)] at e;cases e
    ·subst e';rw[(hts p hp).2.2] at e;cases e)
  have hbm':BM mg (aCj s₁.heap H):=by
   obtain⟨bm,ob,b1,b2,b3,b4,b5,b6⟩:=hbm;refine⟨bm,ob,b1,b2,base_of b3 ?_,b4,b5,b6⟩;cases q:H bm with
   |none=>rfl
   |some u=>
    rcases hA bm (by rw[q];simp) with e'|⟨p,hp,e'⟩
    ·rw[e',ha] at b3;cases b3;cases (show Data.seq vs.toArray _=Data.plain from b6)
    ·rw[e',(hts p hp).1] at b3;cases b3;cases (show Data.fields _=Data.plain from b6)
  have hM:Mod K mg (aCj s₁.heap H):=⟨hKb,nsK hns,⟨mb,nsK hb,hbb⟩,let ⟨mc,h1,h2⟩:=hlim;⟨mc,nsK h1,h2⟩⟩;have e0:aEq P w K mg (aCj s₁.heap H) callerA [] s₁ H:=⟨rfl,hM,λb o e=>aTt e,bEI (aN6 _ _),trivial,λb hb=>absurd (show b∈([]:List Addr) from hb) (by simp),hok,.of_eq hg⟩;refine bBR ((F _ hKb (nsK hns) hbm').run callerA [] s₁ H ⟨[.ref a],[]⟩ [.ref a] [.ref a] _ _ hr e0 (hbind s₁ (.ref a)) (.cons rfl .nil) (hsp H hT hS)) λr s' h=>?_;cases r with
  |error e=>exact (hCX H e s' h).elim
  |ok fl=>
   cases fl with
   |next=>exact False.elim h
   |brk=>exact False.elim h
   |cont=>exact False.elim h
   |ret u=>
    obtain⟨v,H',os,bare,un,hok',r',q⟩:=h;obtain⟨q',qT⟩:=(show v=.bl true/\sJ ts H' from q);subst q';obtain rfl:u=Value.bool true:=r';have kp:∀b o,s₁.heap.get? b=some o->(∀p∈ts,b≠p.1)->s'.heap.get? b=some o:=λb o e hb=>by
     cases q:H b with
     |none=>exact un.keep b o e q (by intro z;exact absurd (show b∈([]:List Addr) from z) (by simp)) (by simp)
     |some u=>
      rcases hO b hb with z|⟨ob,xs,z⟩
      ·rw[q] at z;cases z
      ·have z2:=un.frzs b ob _ z;obtain⟨e1,_⟩:=hok b _ z;obtain⟨e2,_⟩:=hok' b _ z2;rw[e] at e1;cases e1;exact e2
    refine⟨rfl,⟨λb o e=>?_,λb o e=>?_⟩,os,bare⟩
    ·by_cases hb:∃p∈ts,b=p.1
     ·obtain⟨p,hp,rfl⟩:=hb;obtain⟨ps,e1,_⟩:=hok' p.1 _ (qT p hp);rw[(hts p hp).1] at e;cases e;exact .inr (.inl ⟨(hts p hp).2.1,rfl,#[],ps,rfl,by rw[e1];simp⟩)
     ·exact .inl (kp b o e λp hp z=>hb ⟨p,hp,z⟩)
    ·by_cases hb:∃p∈ts,b=p.1
     ·obtain⟨p,hp,rfl⟩:=hb;obtain⟨ps,e1,_⟩:=hok' p.1 _ (qT p hp);exact⟨_,e1⟩
     ·exact⟨o,kp b o e λp hp z=>hb ⟨p,hp,z⟩⟩
 have aT:∀p∈ts,p.1≠a:=λp hp z=>by have:=(hts p hp).1;rw[z,ha] at this;cases this
 have tlk:∀p∈ts,lU ts p.1=some p.2:=λp hp=>aNg hnd hp;have tno:∀b,(∀p∈ts,b≠p.1)->lU ts b=none:=λb hb=>aDe hb;have tok:∀(H:Hp) (p:Addr × Str),p∈ts->cU P w H s₁.heap p.1 (.tab p.2):=λH p hp=>⟨#[],(hts p hp).1,trivial,λpos cv z=>by cases z⟩;cases hk:K.lookup a with
 |some o=>
  have e:=KX a o hk;rw[ha] at e;cases e;refine core (λb=>(lU ts b).map .tab) (λp hp=>by show (lU ts p.1).map _=_;rw[tlk p hp];rfl) (λb hb=>.inl (by show (lU ts b).map _=_;rw[tno b hb];rfl)) (.inr ⟨_,vs.toArray,_,hk,rfl,rfl,rfl,by rw[m7,lenV];exact hl,by simpa using rv⟩) (λb u z=>?_) (λb z=>?_) λz=>?_
  ·obtain⟨qn,hq,rfl⟩:=Option.map_eq_some_iff.mp (show (lU ts b).map .tab=some u from z);obtain⟨p,hp,e1,e2⟩:=pU hq;subst e1 e2;exact tok _ p hp
  ·refine .inr ?_;cases hq:lU ts b with
   |none=>exact absurd (show (lU ts b).map HO.tab=none by rw[hq];rfl) z
   |some qn=>obtain⟨p,hp,e1,_⟩:=pU hq;exact⟨p,hp,e1.symm⟩
  ·exact absurd (show (lU ts a).map HO.tab=none by rw[tno a λp hp z=>aT p hp z.symm];rfl) z
 |none=>
  refine core (λb=>if b=a then some (.frz { cls:=.type "list",data:=.seq vs.toArray } (.lst (ns.map V.int))) else (lU ts b).map .tab) (λp hp=>by show (if p.1=a then _ else (lU ts p.1).map HO.tab)=_;rw[if_neg (aT p hp),tlk p hp];rfl) (λb hb=>?_) (.inl (.inr ⟨{ cls:=.type "list",data:=.seq vs.toArray },if_pos rfl⟩)) (λb u z=>?_) (λb z=>?_) λ_=>hk
  ·by_cases h:b=a
   ·exact .inr ⟨_,_,if_pos h⟩
   ·exact .inl (by show (if b=a then _ else (lU ts b).map HO.tab)=_;rw[if_neg h,tno b hb];rfl)
  ·by_cases hb:b=a
   ·have z':=(if_pos hb).symm.trans z;cases z';subst hb;exact⟨ha,by rw[j9];exact hl,vs,_,rv,ha⟩
   ·have z':(lU ts b).map HO.tab=some u:=(if_neg hb).symm.trans z;obtain⟨qn,hq,rfl⟩:=Option.map_eq_some_iff.mp z';obtain⟨p,hp,e1,e2⟩:=pU hq;subst e1 e2;exact tok _ p hp
  ·by_cases hb:b=a
   ·exact .inl hb
   ·refine .inr ?_;cases hq:lU ts b with
    |none=>exact absurd (show (if b=a then _ else (lU ts b).map HO.tab)=none by rw[if_neg hb,hq];rfl) z
    |some qn=>obtain⟨p,hp,e1,_⟩:=pU hq;exact⟨p,hp,e1.symm⟩
theorem aSy {l:PySem.W.OpenLaw}{n k:Nat}{q:Program}{loose:List Str}{XP:(bEW)->Heap->Prop}{YP:World->Heap->Prop}{d:DefRec}{K:Params->bET}{CX:World->CXT}{sp:World->Sp}{x:Str}
  (hn:l.most=some n) (hn2:n<=sizeLine) (hdf:d.params.defaults=[]) (hr:Room k callerA)
  (ts:List (Addr × Str)) (hnd:(ts.map (·.1)).Nodup)
  (hY:∀(w:World) (h:Heap),YP w h->(K w.params).In h/\∀p∈ts,h.get? p.1=some { cls:=.none,data:=.fields #[] })
  (hC:∀(w:World),∀p∈ts,(∃c,PySem.W.codeHdIn (K w.params) c p.1=true)/\(K w.params).lookup p.1=none)
  (F:∀(w:World) (mg:bEW) (fa:Addr) (h:Heap),(K w.params).In h->h.Ns mainGlobals mg->mg d.name=some (.ref fa) ->
   ∃fd:FuncData,(∀(s:Shared) (u:Value),BindsTo s fd ⟨[u],[]⟩ [(x,u)]) /\
    ∀base:Heap,(K w.params).In base->base.Ns mainGlobals mg->BM mg base->fQ l.prog w (K w.params) mg base (CX w) k fa fd [x] (sp w))
  (hsp:∀(w:World) (H:Hp) (a:Addr) (ns:List Int),ns.length<=n->sJ ts H->SqL (K w.params) H a (ns.map V.int)->sp w [.ref a] H (λv H'=>v=.bl true/\sJ ts H') λ_ _ _=>False)
  (hCX:∀(w:World) (H:Hp) (s:Shared) (e:Value) (s':Shared),CX w [] H s (λ_ _ _=>False) e s'->False) :
  PySem.W.WalkO q loose XP YP l.row.toRowW d [] (λf vs=>PySem.call f vs):=by
 refine Att.aJj hn hdf λw s₀ s₁ mg mb fa o pm cd doc a vs ns G Y ho hd hcd hmg hobj hints hlen hg=>?_;obtain⟨KX,hTab⟩:=hY w _ Y;obtain⟨fd,hb,hF⟩:=F w mg fa _ KX G.T.g hmg;refine aOi KX G.T.g G.T.b G.T.builtins G.T.nolimit hg hobj hints (bAP hlen hn2) hr ts (λp hp=>⟨hTab p hp,?_,(hC w p hp).2⟩) hnd G.T.bmain hF hb (λH hO hS=>hsp w H a ns hlen hO hS) λH e s'=>hCX w H s₁ e s';obtain⟨c,hc⟩:=(hC w p hp).1;exact Heap.TableAt.isCodeTable ((PySem.W.codeHd_of_K KX hc).tab (hTab p hp))
def dM (K:bET)(H:Hp)(u:V)(r:List V):Prop:=∃a,u=.ref a/\SqT K H a r
theorem dM.same {K:bET}{H H':Hp}{u:V}{r:List V}(e:Same H H')(h:dM K H u r):dM K H' u r:=by obtain⟨a,rfl,ha⟩:=h;exact⟨a,rfl,e.aY ha⟩
def KdV:Bool->V->Prop
 |true,x=>∃i,x=.int i
 |false,x=>∃z,x=.str z
def KdR (ks:List Bool)(r:List V):Prop:=Al2 KdV ks r
def rlt:List V->List V->Bool
 |.int a::xs,.int b::ys=>if (a == b)=true then rlt xs ys else decide (a<b)
 |.str a::xs,.str b::ys=>if (a == b)=true then rlt xs ys else decide (a.cps.toList<b.cps.toList)
 |_,_=>false
def srt (rs:List (List V)):List (List V):=(PySem.W.dZ rs.length λi j=>rlt (rs.getD i []) (rs.getD j [])).map λi=>rs.getD i []
theorem vQ (rs:List (List V)):(srt rs).length=rs.length:=by unfold srt;rw[j9,PySem.W.wI]
theorem rM {rs:List (List V)}{r:List V}(h:r∈srt rs):r∈rs:=by
 obtain⟨i,hi,rfl⟩:=List.mem_map.mp h;have:=PySem.W.rQ hi;have e:rs.getD i []=rs[i]:=by simp[this]
 rw[e];exact bAR this
theorem Al2.get {α β:Type}{R:α->β->Prop}{as:List α}{bs:List β}(h:Al2 R as bs){i:Nat}{a:α}{b:β}(h1:as[i]?=some a)(h2:bs[i]?=some b):R a b:=by obtain⟨b',e,r⟩:=h.at h1;rw[h2] at e;cases e;exact r
theorem Al2.of {α β:Type}{R:α->β->Prop}:∀{as:List α} {bs:List β},as.length=bs.length->(∀(i:Nat) (a:α) (b:β),as[i]?=some a->bs[i]?=some b->R a b)->Al2 R as bs
 |[],[],_,_=>.nil
 |a::as,b::bs,hl,h=>.cons (h 0 a b rfl rfl) (Al2.of (by simpa using hl) λi x y h1 h2=>h (i+1) x y (by simpa using h1) (by simpa using h2))
section
variable {prog:Program}{w:World}{A:Around}{s:Shared}{b:Bool}{Q:Bool->Shared->Prop}
theorem aU9 (ks:List Bool):∀{r1 r2:List V} {i1 i2:List Value},KdR ks r1->KdR ks r2->Vals r1 i1->Vals r2 i2->∀i:Nat,Q (rlt r1 r2) s->PySem.W.KatLex prog w A b false Q (i1.zip i2) i s:=by
 induction ks with
 |nil=>intro r1 r2 i1 i2 h1 h2 v1 v2 i q;cases h1;cases h2;cases v1;cases v2;exact q
 |cons k ks ih=>
  intro r1 r2 i1 i2 h1 h2 v1 v2 i q;cases h1 with
  |cons a1 t1=>
   cases h2 with
   |cons a2 t2=>
    cases v1 with
    |cons p1 w1=>
     cases v2 with
     |cons p2 w2=>
      cases k with
      |true=>
       obtain⟨x,rfl⟩:=a1;obtain⟨y,rfl⟩:=a2;obtain⟨t,rfl⟩:=p1;obtain⟨u,rfl⟩:=p2;refine (bEM x t y u) prog w _ _ ?_;unfold rlt at q;by_cases e:(x == y)=true
       ·rw[e,if_pos rfl];rw[if_pos e] at q;exact ih t1 t2 w1 w2 (i+1) q
       ·rw[if_neg e] at q;rw[Bool.not_eq_true] at e;rw[e,if_neg (by decide)];cases hb:(b && i == 0) with
        |true=>exact oneLt_int q
        |false=>exact PySem.W.kat_one _ _ (lt_int q)
      |false=>
       obtain⟨x,rfl⟩:=a1;obtain⟨y,rfl⟩:=a2;obtain⟨t,rfl⟩:=p1;obtain⟨u,rfl⟩:=p2;refine (bDR x t y u) prog w _ _ ?_;unfold rlt at q;by_cases e:(x == y)=true
       ·rw[e,if_pos rfl];rw[if_pos e] at q;exact ih t1 t2 w1 w2 (i+1) q
       ·rw[if_neg e] at q;rw[Bool.not_eq_true] at e;rw[e,if_neg (by decide)];cases hb:(b && i == 0) with
        |true=>exact oneLt_str q
        |false=>exact PySem.W.kat_one _ _ (lt_str q)
end
section
variable {X:Cx}
def aSg (K:bET):List V->Hp->VK->Prop:=λxs H Q=>∃(l:Addr) (us:List V) (rs:List (List V)) (ks:List Bool),xs=[.ref l]/\SqL K H l us/\Al2 (dM K H) us rs/\us.length<64/\ks≠[]/\(∀r∈rs,KdR ks r) /\
 ∀D H' us',H D=none->Same H H'->H' D=some (.lst us')->Al2 (dM K H) us' (srt rs)->Q (.ref D) H'
theorem aNh {bEX:bEV}{σ:L2.St}{H:Hp}{s:Shared}{h':Heap}{k:Bool}{ks:List Bool}(I:Inv X bEX σ H s)(kp:∀b o,s.heap.get? b=some o->h'.get? b=some o):∀{us:List V} {rs:List (List V)} {its:List Value},Al2 (dM X.K H) us rs->Vals us its->(∀r∈rs,KdR (k::ks) r) ->
  ∃fs,PySem.W.KatTups h' its fs/\fs.length=its.length/\∀f∈fs,∀M:Model,PySem.W.Looks M h' (typeOf f) (.type (if k=true then "int" else "str"))
 |_,_,_,.nil,.nil,_=>⟨[],.nil,rfl,λf h=>by cases h⟩
 |_,_,_,.cons (b:=r) hr t,.cons q z,hk=>by
  obtain⟨fs,h1,h2,h3⟩:=aNh I kp t z λr m=>hk r (j8 _ m);obtain⟨a,rfl,ha⟩:=hr;cases q;obtain⟨ks',rv,⟨o,ho,hc,n,hd⟩,_⟩:=I.tuple ha;have hkr:=hk r (m9 ..);cases hkr with
  |cons hx _=>
   cases rv with
   |@cons _ f _ fr rx _=>
    refine⟨f::fs,.cons (kp _ _ ho) hc hd (by simp) h1,by rw[v5,v5,h2],λg hg M=>?_⟩;rcases List.mem_cons.mp hg with rfl|hg
    ·cases k with
     |true=>obtain⟨i,rfl⟩:=hx;obtain⟨tk,rfl⟩:=rx;exact .now
     |false=>obtain⟨i,rfl⟩:=hx;obtain⟨tk,rfl⟩:=rx;exact .now
    ·exact h3 g hg M
theorem gF:cD X (.builtin "sorted") (aSg X.K):=by
 intro bEX s σ H xs us0 Q I r h;obtain⟨l,us,rs,ks,rfl,hl,hr,h64,hne,hk,q⟩:=h;obtain⟨u,rfl,ru⟩:=vals1 r;cases ru;obtain⟨its,rv,pl,hz⟩:=I.list hl;have e1:=rv.length;have e2:=hr.len;obtain⟨k,ks',rfl⟩:∃k ks',ks=k::ks':=by
  cases ks with
  |nil=>exact absurd rfl hne
  |cons k ks'=>exact⟨k,ks',rfl⟩
 refine PySem.W.aGc (f:=λi j=>rlt (rs.getD i []) (rs.getD j [])) pl.isList (by lia) (λh2 h' kp=>?_) ?_
 ·obtain⟨fs,t1,t2,t3⟩:=aNh I kp hr rv hk;refine⟨_,λQ hq=>PySem.W.kat_kind (s:={ s with heap:=h' }) (T:=.type (if k=true then "int" else "str")) t1 (by lia) (λv hv=>t3 v hv _) (by simp) hq,λi j C hi hj hC=>?_⟩;have row:∀{i:Nat},i<its.length->∃a o r xs n,its.getD i Value.none=.ref a/\h'.get? a=some o/\o.data=.seq (List.toArray xs) n/\Vals r xs/\rs.getD i []=r/\KdR (k::ks') r:=λ{i} hi=>by
   have hiu:i<us.length:=by lia
   have hir:i<rs.length:=by lia
   obtain⟨a,ea,ha⟩:=hr.get (d9 hiu) (d9 hir);obtain⟨v,hv,rx⟩:=rv.get (d9 hiu);rw[ea] at rx;cases rx;obtain⟨xs,rr,⟨o,ho,hc,n,hd⟩,_⟩:=I.tuple ha;refine⟨a,o,rs[i],xs,n,?_,kp _ _ ho,hd,rr,by simp[hir],hk _ (bAR hir)⟩;rw[j7,hv];rfl
  obtain⟨a,o,r1,x1,n1,g1,g2,g3,g4,g5,g6⟩:=row hi;obtain⟨b,o',r2,x2,n2,g1',g2',g3',g4',g5',g6'⟩:=row hj;show wpAny _ _ (keyLt' _ (its.getD i Value.none) (its.getD j Value.none)) C _ _;rw[g1,g1'];refine PySem.W.kat_lt (s:={ s with heap:=h' }) g2 g3 g2' g3' ?_;have hsz:decide ((List.toArray x1).size<(List.toArray x2).size)=false:=by rw[m7,m7];have:=g4.length;have:=g4'.length;have:=Al2.len g6;have:=Al2.len g6';exact w6 (by lia)
  rw[hsz];refine aU9 (k::ks') g6 g6' g4 g4' 0 ?_;have hC:C (rlt (rs.getD i []) (rs.getD j [])) { s with heap:=h' }:=hC;rw[g5,g5'] at hC;exact hC
 ·obtain⟨e,he⟩:=sortedAll_at s.heap its (List.toArray ((PySem.W.dZ its.length λi j=>rlt (rs.getD i []) (rs.getD j [])).map λi=>its.getD i Value.none));have hf:H (s.heap.objs.size+1)=none:=I.hok.fresh (bCU _);have el:its.length=rs.length:=by lia
  refine⟨.ref (s.heap.objs.size+1),_,I.laid (t':=s.toks) (o:=.lst ((PySem.W.dZ rs.length λi j=>rlt (rs.getD i []) (rs.getD j [])).map λi=>us.getD i .non)) (λb o q=>sortedAll_old q) (bCU _) ?_,rfl,q _ _ _ hf (aV hf _) aJ ?_⟩
  ·refine⟨small (by rw[j9,PySem.W.wI];lia),_,e,?_,he⟩;rw[el];have aux:∀L:List Nat,(∀i∈L,i<us.length)->Vals (L.map λi=>us.getD i .non) (L.map λi=>its.getD i Value.none):=by
    intro L
    induction L with
    |nil=>intro _;exact .nil
    |cons i L ih=>intro hL;have hi:=hL i (m9 ..);obtain⟨v,hv,rx⟩:=rv.get (d9 hi);refine .cons ?_ (ih λj hj=>hL j (j8 _ hj));show RelV (us.getD i .non) (its.getD i Value.none);rw[j7,d9 hi,j7,hv];exact rx
   exact aux _ λi hi=>by have:=PySem.W.rQ hi;lia
  ·unfold srt;have aux:∀L:List Nat,(∀i∈L,i<us.length)->Al2 (dM X.K H) (L.map λi=>us.getD i .non) (L.map λi=>rs.getD i []):=by
    intro L
    induction L with
    |nil=>intro _;exact .nil
    |cons i L ih=>
     intro hL;have hi:=hL i (m9 ..);have hir:i<rs.length:=by lia
     refine .cons ?_ (ih λj hj=>hL j (j8 _ hj));show dM X.K H (us.getD i .non) (rs.getD i []);rw[j7,d9 hi,j7,d9 hir];exact hr.get (d9 hi) (d9 hir)
   exact aux _ λi hi=>by have:=PySem.W.rQ hi;lia
end
def kvlt:V->V->Bool
 |.int a,.int b=>decide (a<b)
 |.str a,.str b=>decide (a.cps.toList<b.cps.toList)
 |_,_=>false
section
variable {X:Cx}{bEX:bEV}{σ:List (Option V)}{H:Hp}{s:Shared}
end
section
variable {X:Cx}
end
section
variable {P:Program}{w:World}{K:bET}{mg:bEW}{base:Heap}
def aQe (K:bET)(mg:bEW)(x:Str)(Pt:Addr):Prop:=∃f o fd c,mg x=some (.ref f)/\K.lookup f=some o/\o.data=.func fd/\fd.code=.ref c/\PySem.W.codeHdIn K c Pt=true
theorem Ok.bBe {x:Str}{st:Stmt}{N ps:List Str}{k:Nat}{sp:Sp}{Pt:Addr}(D:Dn K mg x st ps)(C:aQe K mg x Pt)(hK:K.In base)(S:aM N ps (aF st))(len:∀vs H Q E,sp vs H Q E->vs.length=ps.length)
  (hbody:∀(f c:Addr) (A:Around) (outer:List Env) (s:Shared) (H:Hp) (vs:List V) (Q:VK) (E:XK),PySem.W.CodeHd base c Pt->Room k (A.deeper (envOfC x (aF st) s.heap.objs.size f (.ref c)))->sp vs H Q E ->
   ∃t,VSs (vW CX0 P w K mg base N x (aF st) f (.ref c) A outer s H E).nox (cX st) t/\t { nx:=λ_ H'=>Q .non H',rt:=Q } (start N vs) H):Ok P w K mg base (k+1) x ps sp:=by
 obtain⟨f,fd,F,B,m⟩:=D;obtain⟨f',o',fd',c,m',lk',hd',hc',hh⟩:=C;rw[m] at m';cases m';refine⟨f,fd,m,F.kp,B,?_⟩;obtain⟨oc,od,kV,doc,pm,an,cdv,ct,osl,rfl,lk,hcd⟩:=F.ex;rw[lk] at lk';cases lk';cases hd';have e:cdv=.ref c:=hc';subst e;refine aRh lk hcd S len λA outer s H vs Q E hr hsp=>?_;obtain⟨t,h,q⟩:=hbody f c A outer s H vs Q E (PySem.W.codeHd_of_K hK hh) hr hsp;exact⟨t,h.1.nox,q⟩
end
section
variable {X:Cx}
end
end L2
namespace My
open PySem PySem.Spec PyProof.Rows L2
section
variable {P:Program}{w:World}{K:bET}{mg:bEW}{base:Heap}
def vlt:V->V->Bool
 |.int a,.int b=>decide (a<b)
 |.str a,.str b=>decide (a.cps.toList<b.cps.toList)
 |_,_=>false
def aPs (k:Str):Prop:=k = "number"\/k = "word"
def qC:Str:="are_cuts.<locals>.<lambda>"
def aNt (P:Program)(w:World)(K:bET)(mg:bEW)(base:Heap)(k:Nat):Sp:=λvs H Q _=>∃(a:Addr) (lo hi:Nat) (f:Addr) (xs:List V) (qual g x y:Str) (z:V) (ps:List Str) (sp:Sp),vs=[.ref a,.int (lo:Nat),.int (hi:Nat),.ref f]/\SqT K H a xs/\lo<=xs.length/\xs.length<=hi/\hi<=1000/\wC H f qual g x y z/\Ok P w K mg base k g ps sp /\
 (∀v∈xs,∀(H':Hp) (R:VK),Same H H'->(∀H2,Same H' H2->R (.bl true) H2)->sp [v,z] H' R E0)/\∀H',Same H H'->Q (.bl true) H'
theorem yR {k:Nat}(T:Txt w K mg):Ok P w K mg base (k+2) "is_tuple_of" ["thing","least","most","is_part"] (aNt P w K mg base k):=by
 refine Ok.ofV T.sO rA (λvs H Q E h=>?_) (λf cdv A outer s H vs Q E hr h=>?_)
 ·obtain⟨a,lo,hi,f,xs,qual,g,x,y,z,ps,sp,rfl,_⟩:=h;rfl
 obtain⟨a,lo,hi,g,xs,qual,gn,x,y,z,ps,sp,rfl,ha,h1,h2,h1000,hL,hG,hsp,q⟩:=h;refine⟨_,(aD (bZ (VW.pt (iM (cI (cA (aO jB (by rfl) T.bN bJ (aC (vv 0) (aC (dY (v:=.ty "tuple") (by rfl) T.jO fP rfl) aB))))) (gC (cI (aAa zU zU (vv 1) (aO bI (by rfl) T.fM dF (aC (vv 0) aB)) (vv 2)))))) (aG (aN gK)) aZ) (aG (aN (aO (lJ rfl) (by rfl) T.aAc tV (aC (dB (N:=["part","is_part"]) (by trivial) (jC (aF fK) rfl (by decide +kernel)) rfl (qG (vv 0)) (λcl s' H' fp=>⟨(aU (i:=0) (show (["part","is_part"]:List Str).Nodup from by decide +kernel) rfl (Or.inl rfl)),gH,(aO3 (P:=P) (w:=w) (K:=K) (mg:=mg) (base:=base) hr (vv 1) (aC (vv 0) aB))⟩)) aB))))),?_⟩;refine⟨_,rfl,_,_,rfl,.tup ha,_,rfl,bV ?_⟩;refine⟨_,rfl,_,rfl,_,_,rfl,.inr ha,_,_,rfl,rfl,_,rfl,?_⟩;have e1:decide ((lo:Int)<=(xs.length:Int))=true:=v6 (by lia);have e2:decide ((xs.length:Int)<=(hi:Int))=true:=v6 (by lia);rw[e1];refine dI ⟨_,rfl,_,_,rfl,rfl,_,rfl,?_⟩;rw[e2];refine bV ?_;dsimp only[pO,uX,tCB,dR];refine aDm xs (λ_=>.bl true) [none,some (.ref g)] ?_ (small (by lia)) (λR r=>aL3 ha (λR' r'=>⟨_,rfl,r'⟩) R r) (λv hv H' R l sm r=>?_) rfl λD H' sm hD=>?_
 ·exact uM 3 (by decide +kernel) rfl rfl (by trivial)
 ·exact⟨_,rfl,g,qual,gn,x,y,z,ps,sp,rfl,hL.same sm,hG,_,rfl,v,rfl,hL.same sm,hsp v hv H' R sm r⟩
 ·refine⟨D,xs.map λ_=>true,rfl,SqL.of (by rw[hD,bB0];rfl),?_⟩;rw[show (xs.map λ_=>true).all id=true by rw[List.all_map];exact List.all_eq_true.mpr λ_ _=>rfl];exact q H' sm
def aP8 (K:bET):Sp:=λvs H Q _=>∃(p:Addr) (v:V) (h m:Int),vs=[.ref p,.int m]/\SqT K H p [v,.int h]/\0<=h/\h<m/\∀H',Same H H'->Q (.bl true) H'
theorem aPx (T:Txt w K mg)(gY:Ok P w K mg base 2 "is_number_below" ["thing","many"] aAt):Ok P w K mg base 3 "is_cut" ["thing","houses"] (aP8 K):=by
 refine Ok.ofV T.aSv aPm (λvs H Q E h=>?_) (λf cdv A outer s H vs Q E hr h=>?_)
 ·obtain⟨p,v,h,m,rfl,_⟩:=h;rfl
 obtain⟨p,v,h,m,rfl,hp,h0,h1,q⟩:=h;refine⟨_,(aG (aN (iW (aO jB (by rfl) T.bN bJ (aC (vv 0) (aC (dY (v:=.ty "tuple") (by rfl) T.jO fP rfl) aB))) (iW (dC eU (aO bI (by rfl) T.fM dF (aC (vv 0) aB)) aH (bF _)) (jE (aQ (gY.mono (by decide)) hr (by rfl) (aC (aW bK (vv 0) aH (λ_ _=>rfl)) (aC (vv 1) aB)))))))),?_⟩;refine⟨_,rfl,_,_,rfl,.tup hp,_,rfl,dI ⟨_,rfl,_,_,rfl,.inr hp,rfl,_,rfl,?_⟩⟩;refine dI ⟨_,rfl,p,_,1,_,rfl,rfl,hp,at1 _ _ _,_,rfl,h,m,rfl,?_⟩;rw[v6 h0,v6 h1];exact q H (Same.refl H)
theorem aQ8 {x g y:Str}{env:Env}{cp:Addr}(h:env.cells.lookup y=some cp):closureFor { kind:=.function,names:=[(x,.local),(y,.free),(g,.globalImplicit)],isGenerator:=false,isCoroutine:=false,more:=[] } env=pure [(y,cp)]:=by
 have e0:cellOf env y=pure cp:=by unfold cellOf;rw[h]
 simp[closureFor,e0]
def lG (K:bET)(H:Hp)(v:V)(c:V × Int):Prop:=∃p,v=.ref p/\SqT K H p [c.1,.int c.2]
theorem lG.same {K:bET}{H H':Hp}{v:V}{c:V × Int}(e:Same H H')(h:lG K H v c):lG K H' v c:=by obtain⟨p,rfl,hp⟩:=h;exact⟨p,rfl,e.aY hp⟩
structure aLy (kd:Str)(m:Int)(h0:Int)(cs:List (V × Int)):Prop where
 first:0<=h0/\h0<m
 each:∀c∈cs,cG kd c.1/\0<=c.2/\c.2<m
 up:(cs.map (·.1)).Pairwise λa b=>vlt a b=true
 few:cs.length<=7
theorem aA7 {kd:Str}{v:V}(h:cG kd v):aKd v=true/\kindS v=kd:=by
 cases h with
 |num=>exact⟨rfl,rfl⟩
 |@wrd x hx h8=>refine⟨?_,rfl⟩;show (false || (decide (0<=x.length) && (decide (x.length<=8) && allIn x)))=true;rw[allIn_of hx,v6 h8];rfl
theorem rJ {kd:Str}{v:V}(h:cG kd v):Vl v:=by
 cases h with
 |num=>exact .inl ⟨_,rfl⟩
 |wrd hx h8=>exact .inr ⟨_,rfl,hx,h8⟩
theorem aYg {a b:V}{H:Hp}{Q:VK}(h:vlt a b=true)(q:Q (.bl true) H):aZp a b H Q:=by
 unfold vlt at h
 split at h
 ·exact .inl ⟨_,_,rfl,rfl,by rw[h];exact q⟩
 ·exact .inr ⟨_,_,rfl,rfl,by rw[h];exact q⟩
 ·cases h
def aM8 (K:bET)(Pt:Addr):Sp:=λvs H Q _=>∃(v:V) (kd:Str) (m h0:Int) (cs:List (V × Int)),vs=[v,.str kd,.int m]/\uD K H (lG K H) v ((.non,h0)::cs)/\aPs kd/\aLy kd m h0 cs/\H Pt=some (.tab qC)/\∀H',Same H H'->Q (.bl true) H'
theorem aG8 (T:Txt w K mg){Pt:Addr}(C:aQe K mg "are_cuts" Pt)(hK:K.In base)(hbm:BM mg base)(mL:Ok P w K mg base 5 "is_tuple_of" ["thing","least","most","is_part"] (aNt P w K mg base 3))(aSx:Ok P w K mg base 3 "is_cut" ["thing","houses"] (aP8 K))
  (mK:Ok P w K mg base 3 "is_value_of" ["thing","kind"] (aK5 K)):Ok P w K mg base 6 "are_cuts" ["thing","kind","houses"] (aM8 K Pt):=by
 refine Ok.bBe T.aK9 C hK yD (λvs H Q E h=>?_) (λf c A outer s H vs Q E CH hr h=>?_)
 ·obtain⟨v,kd,m,h0,cs,rfl,_⟩:=h;rfl
 obtain⟨v,kd,m,h0,cs,rfl,⟨a,us,rfl,ha,hu⟩,hkd,ok,hP,q⟩:=h;have hu':=wD hr;refine⟨_,(aD (bZ (VW.pt (iM (cI (cA (aJx (iy:=2) mL hr (by rfl) (vv 0) aH (sX (by rfl) T.aI9) rfl CH hbm ⟨⟨_,_,_,_,rfl⟩,λ_ _ _ _ _=>rfl,rfl,rfl,rfl,by decide +kernel,rfl,rfl,rfl,by decide +kernel,by decide +kernel,by decide +kernel,by decide +kernel,by decide +kernel⟩ rfl rfl rfl rfl (aQ8 rfl) rfl))) (gC (bH aEb (aW bK (aW bK (vv 0) aH (λ_ _=>rfl)) aH (λ_ _=>rfl)) pA (bF _))))) (aG (aN gK)) aZ) (aD (aFq (i0:=3) yD.nd rfl (by trivial) (N:=["cut"]) (by trivial) (lC (by decide +kernel)) rfl (qG (jP aNz (vv 0) (kI aH) oH)) (λcl s' H' fp=>⟨(aU (i:=0) (show (["cut"]:List Str).Nodup from by decide +kernel) rfl (Or.inl rfl)),gH,(aW (cT (K:=K)) (vv 0) aH (λ_ _=>rfl))⟩)) (aD (bZ (cI (cA (aO (lJ rfl) (by rfl) T.aAc tV (aC (dB (N:=["low","kind"]) (by trivial) (jC (aF nZ) rfl (by decide +kernel)) rfl (iG (vv 3)) (λcl s' H' fp=>⟨(aU (i:=0) (show (["low","kind"]:List Str).Nodup from by decide +kernel) rfl (Or.inl rfl)),gH,(aQ (mK.mono (by decide)) hr (by rfl) (aC (vv 0) (aC (vv 1) aB)))⟩)) aB)))) (aG (aN gK)) aZ) (aG (aN (aO (lJ rfl) (by rfl) T.aAc tV (aC (dB (N:=["low","after"]) (by trivial) (lC (by decide +kernel)) rfl (aRl (by rfl) T.aWw (aC (vv 3) (aC (jP aIb (vv 3) (kI aH) oH) aB))) (λcl s' H' fp=>⟨(rK (K:=K) (n:=2) rfl (bL (aU (i:=0) (show (["low","after"]:List Str).Nodup from by decide +kernel) rfl (Or.inl rfl)) (bL (aU (i:=1) (show (["low","after"]:List Str).Nodup from by decide +kernel) rfl (Or.inl rfl)) fY))),gH,(dC aXs (vv 0) (vv 1) (bF _))⟩)) aB))))))),?_⟩;have lu:=hu.len;have few:=ok.few;rw[v5] at lu;refine⟨_,rfl,.int m,rfl,hP,λlf H2 hL hT=>⟨a,1,8,lf,us,_,_,_,_,_,_,_,rfl,hT _ _ ha,by lia,by lia,by decide,hL,aSx,λv hv H' R sm r=>?_,λH3 s3=>⟨s3,λH4 s4=>?_⟩⟩⟩
 ·obtain⟨c,hc,p,rfl,hp⟩:=hu.mem hv;have hb:0<=c.2/\c.2<m:=by
   rcases List.mem_cons.mp hc with rfl|hc
   ·exact ok.first
   ·exact (ok.each c hc).2
  exact⟨p,c.1,c.2,m,rfl,sm.aY (hT _ _ hp),hb.1,hb.2,λH2 s2=>r H2 s2⟩
 obtain⟨u0,ut,rfl,⟨p0,rfl,hp0⟩,hut⟩:∃u0 ut,us=u0::ut/\lG K H u0 (.non,h0)/\cH (lG K H) ut cs:=by
  cases hu with
  |cons r t=>exact⟨_,_,rfl,r,t⟩
 refine⟨_,rfl,bV ?_⟩;refine⟨_,rfl,a,_,0,_,rfl,rfl,s4.aY ha,at0 _ _,p0,_,0,_,rfl,rfl,s4.aY hp0,at0 _ _,rfl,_,rfl,bV ?_⟩;dsimp only[pO,cO,aBx,aA8];have lt:=hut.len;refine uZ [none] xB ⟨_,rfl,_,rfl,a,_,rfl,s4.aY ha,λts H5 s5 g5=>?_⟩;rw[show (1:Int)=((1:Nat):Int) from rfl,wM,List.drop_one,List.tail_cons] at g5;refine⟨ts,rfl,⟨_,g5⟩,aLi (aEw λH' s'=>s'.aY g5) (vJ λH' s'=>s'.aY g5) ⟨none,rfl⟩ (by lia) (cs.map (·.1)) (by rw[j9];lia) (λi x z ex ez H' R l sm r=>?_) λL H6 s6 nL gL=>?_⟩
 ·obtain⟨c',hc',p',rfl,hp'⟩:=cB hut ex;rw[v4,hc'] at ez;cases ez;exact⟨_,rfl,p',_,0,_,rfl,rfl,(s4.trans (s5.trans sm)).aY hp',at0 _ _,r H' (Same.refl _)⟩
 have allT:∀n:Nat,(List.replicate n true).all id=true:=λn=>List.all_eq_true.mpr λb hb=>(bBW hb);dsimp only[aPh,aXy,tB,tCB,dR,List.set];refine aGi [none,some (.str kd)] (uM 1 (by decide +kernel) rfl rfl (by trivial)) ⟨_,rfl,L,rfl,⟨_,SqL.of gL⟩,aLi (aJv λH' s'=>SqL.of (s' _ _ gL)) (aBy λH' s'=>SqL.of (s' _ _ gL)) ⟨none,rfl⟩ (by rw[j9];lia) (List.replicate cs.length (.bl true)) (by rw[bC9,j9]) (λi x z ex ez H' R l sm r=>?_) λD H7 s7 _ g7=>?_⟩
 ·rw[v4] at ex;obtain⟨c',hc',rfl⟩:=Option.map_eq_some_iff.mp ex;have ez':=bBW (p7 ez);subst ez';have hk:=(ok.each c' (p7 hc')).1;obtain⟨v1,v2⟩:=aA7 hk;refine⟨_,rfl,_,rfl,c'.1,kd,rfl,(rJ hk).th,λH2 s2=>?_⟩;rw[v1,v2,v6 rfl];exact r H2 s2
 refine⟨D,List.replicate cs.length true,rfl,SqL.of (by rw[g7,bDS]),?_⟩;rw[allT];refine⟨_,rfl,bV ?_⟩;dsimp only[pO,uX,tCB,dR];have gL7:=s7 _ _ gL;refine aQd [none,none] rN ⟨_,rfl,_,rfl,_,rfl,L,_,rfl,SqL.of gL7,λL2' H8 _ s8 g8=>?_⟩;rw[show (1:Int)=((1:Nat):Int) from rfl,wM] at g8;refine⟨L,L2',_,_,rfl,SqL.of (s8 _ _ gL7),SqL.of g8,aI7 (SqL.of (s8 _ _ gL7)) (SqL.of g8) (by rw[bB2];lia) ⟨none,none,rfl⟩ (by rw[bB2,j9];lia) (List.replicate ((cs.map (·.1)).drop 1).length (.bl true)) (by rw[bC9]) (λi x y z ex ey ez H' R sm r=>?_) λD2 H9 s9 g9=>?_⟩
 ·have ez':=bBW (p7 ez);subst ez';rw[List.getElem?_drop] at ey;obtain⟨hi,rfl⟩:=List.getElem?_eq_some_iff.mp ex;obtain⟨hj,rfl⟩:=List.getElem?_eq_some_iff.mp ey;exact⟨_,rfl,_,rfl,aYg ((List.pairwise_iff_getElem.mp ok.up) i (1+i) hi hj (by lia)) (r H' (Same.refl _))⟩
 ·refine⟨D2,List.replicate ((cs.map (·.1)).drop 1).length true,rfl,SqL.of (by rw[g9,bDS]),?_⟩;rw[allT];exact q H9 (s4.trans (s5.trans (s6.trans (s7.trans (s8.trans s9)))))
def aJw (hd:Hdr):Prop:=Good hd/\∀c∈hd,Nm c.1/\aPs c.2
def aH7 (K:bET):Sp:=λvs H Q _=>∃(v:V) (hd:Hdr),vs=[v]/\lA K H v hd/\aJw hd/\∀H',Same H H'->Q (.bl true) H'
def bY (K:bET)(H:Hp)(D:Addr)(rs:List (List V)):Prop:=∃us,H D=some (.lst us)/\cH (dM K H) us rs
theorem bY.same {H H':Hp}{D:Addr}{rs:List (List V)}(e:Same H H')(h:bY K H D rs):bY K H' D rs:=by obtain⟨us,h1,h2⟩:=h;exact⟨us,e _ _ h1,h2.imp λ_ _ r=>r.same e⟩
theorem aGq (T:Txt w K mg)(aJp:Ok P w K mg base 3 "is_column" ["thing"] (aYb (aF5 K)))(mL:Ok P w K mg base 4 "is_tuple_of" ["thing","least","most","is_part"] (aGp P w K mg base 3))
  (aFw:Ok P w K mg base 1 "are_unlike" ["names"] (aDa K)) (lK:Ok P w K mg base 1 "names_of" ["head"] (aFg K)):Ok P w K mg base 5 "is_head" ["thing"] (aH7 K):=by
 refine Ok.ofV T.aOb aL9 (λvs H Q E h=>?_) (λf cdv A outer s H vs Q E hr h=>?_)
 ·obtain⟨v,hd,rfl,_⟩:=h;rfl
 obtain⟨v,hd,rfl,⟨a,us,rfl,ha,hu⟩,hok,q⟩:=h;obtain⟨fa,mf,hf⟩:=aJp.held;have yK:∃u,mg "is_column"=some u/\RelV (.ref fa) u:=⟨_,mf,rfl⟩;refine⟨_,(aG (aN (iW (aQ (mL.mono (by decide)) hr (by rfl) (aC (vv 0) (aC aH (aC (sX (by rfl) T.zY) (aC (sX (by rfl) yK) aB))))) (jE (aQ (aFw.mono (by decide)) hr (by rfl) (aC (aQ (lK.mono (by decide)) hr (by rfl) (aC (vv 0) aB)) aB)))))),?_⟩;have lu:=hu.len;have l1:=hok.1.2.1;have l2:=hok.1.2.2;have hall:us.all (λ_=>true)=true:=List.all_eq_true.mpr λ_ _=>rfl;have ht:aDk K (aF5 K) 1 8 H (.ref a) true:=by
  have:=aDk.yes (K:=K) (R:=aF5 K) (lo:=1) (hi:=8) (H:=H) (λ_=>true) ha (by lia) (by lia) (λx hx=>by
   obtain⟨c,hc,p,rfl,hp⟩:=hu.mem hx;obtain⟨hn,hk⟩:=hok.2 c hc;have hth:Th K H (.str c.2):=aKb (by rcases hk with e|e <;> rw[e] <;> decide +kernel);have z:=aF5.two (K:=K) (H:=H) hp hn.th hth;have e:(nameB (.str c.1) && (isS (.str c.2) && inV (.str c.2) kinds))=true:=by rw[show nameB (.str c.1)=true from hn];rcases hk with e|e <;> rw[e] <;> decide +kernel
   rw[e] at z;exact z)
  rw[hall] at this;exact this
 refine⟨_,rfl,_,1,8,fa,_,_,_,rfl,by decide,hf,aOp K,ht,λH1 s1=>⟨_,rfl,dI ?_⟩⟩;refine⟨_,rfl,.ref a,hd,rfl,lA.same s1 ⟨a,us,rfl,ha,hu⟩,by lia,λD H2 s2 hD=>?_⟩;refine⟨D,hd.map (·.1),rfl,SqL.of hD,by rw[j9];lia,λH3 s3=>?_⟩;rw[v6 ((aPl _).mpr hok.1.1)];exact q H3 ((s1.trans s2).trans s3)
def qY (hd:Hdr)(r:List V):Prop:=cH (λc v=>cG c.2 v) hd r
def zJ (K:bET):Sp:=λvs H Q _=>∃(vh v:V) (hd:Hdr) (r:List V),vs=[vh,v]/\lA K H vh hd/\hd.length<=1000/\dM K H v r/\qY hd r/\∀H',Same H H'->Q (.bl true) H'
theorem aKl (T:Txt w K mg)(mK:Ok P w K mg base 3 "is_value_of" ["thing","kind"] (aK5 K)):Ok P w K mg base 4 "is_row" ["head","thing"] (zJ K):=by
 refine Ok.ofV T.aSc aOt (λvs H Q E h=>?_) (λf cdv A outer s H vs Q E hr h=>?_)
 ·obtain⟨vh,v,hd,r,rfl,_⟩:=h;rfl
 obtain⟨vh,v,hd,r,rfl,⟨b,cs,rfl,hb,hc⟩,hl,⟨a,rfl,ha⟩,hr',q⟩:=h;have lc:=hc.len;have lr:=hr'.len;refine⟨_,(aD (bZ (VW.pt (iM (cI (cA (aO jB (by rfl) T.bN bJ (aC (vv 1) (aC (dY (v:=.ty "tuple") (by rfl) T.jO fP rfl) aB))))) (gC (bH aDh (aO bI (by rfl) T.fM dF (aC (vv 1) aB)) (aO bI (by rfl) T.fM dF (aC (vv 0) aB)) (bF _))))) (aG (aN gK)) aZ) (aG (aN (aO (lJ rfl) (by rfl) T.aAc tV (aC (dB (N:=["value","column"]) (by trivial) (lC (by decide +kernel)) rfl (aVr (by rfl) T.aWw (aC (vv 1) (aC (vv 0) aB))) (λcl s' H' fp=>⟨(rK (K:=K) (n:=2) rfl (bL (aU (i:=0) (show (["value","column"]:List Str).Nodup from by decide +kernel) rfl (Or.inl rfl)) (bL (aU (i:=1) (show (["value","column"]:List Str).Nodup from by decide +kernel) rfl (Or.inl rfl)) fY))),gH,(aQ (mK.mono (by decide)) hr (by rfl) (aC (vv 0) (aC (aW (cT (K:=K)) (vv 1) aH (λ_ _=>rfl)) aB)))⟩)) aB))))),?_⟩;refine⟨_,rfl,_,_,rfl,.tup ha,_,rfl,bV ?_⟩;refine⟨_,rfl,_,_,rfl,.inr ha,_,rfl,_,_,rfl,.inr hb,rfl,_,rfl,?_⟩;have e:(!decide (V.int (r.length:Nat)=V.int (cs.length:Nat)))=false:=by rw[show r.length=cs.length by lia];simp
 rw[e];refine bV ?_;dsimp only[pO,uX,tCB,dR];refine aR6 r cs (λ_ _=>.bl true) [none,none] rN (small (by lia)) (by lia) ha hb (λR r=>⟨_,rfl,_,rfl,r⟩) (λi x c ex ec H' R l1 l2 sm r'=>?_) rfl rfl λD H' sm hD=>?_
 ·obtain⟨c',hc',p,rfl,hp⟩:=cB hc ec;obtain⟨x',hx',hk⟩:=cB hr' hc';rw[ex] at hx';cases hx';obtain⟨v1,v2⟩:=aA7 hk;refine⟨_,rfl,_,rfl,p,_,1,_,rfl,rfl,sm.aY hp,at1 _ _ _,x,c'.2,rfl,(rJ hk).th,λH1 s1=>?_⟩;rw[v1,v2,v6 rfl];exact r' H1 s1
 ·have ez:List.zipWith (λ_ _:V=>V.bl true) r cs=(List.replicate r.length true).map V.bl:=by rw[bDS];refine List.eq_replicate_iff.mpr ⟨by rw[bEH];lia,λb hb'=>?_⟩;obtain⟨i,hi,rfl⟩:=bCB hb';rw[List.getElem_zipWith]
  refine⟨D,List.replicate r.length true,rfl,SqL.of (by rw[hD,ez]),?_⟩;rw[show (List.replicate r.length true).all id=true from List.all_eq_true.mpr λb hb'=>bBW hb'];exact q H' sm
def aIa (K:bET):Sp:=λvs H Q _=>∃(vh:V) (hd:Hdr) (n:Str),vs=[vh,.str n]/\lA K H vh hd/\hd.length<=1000/\Nm n/\n∈hd.map (·.1)/\∀H',Same H H'->Q (.bl true) H'
theorem zA (T:Txt w K mg)(jL:Ok P w K mg base 2 "is_name" ["thing"] (aCx K nameB))(lK:Ok P w K mg base 1 "names_of" ["head"] (aFg K)):Ok P w K mg base 3 "is_column_in" ["head","thing"] (aIa K):=by
 refine Ok.ofV T.aBi yU (λvs H Q E h=>?_) (λf cdv A outer s H vs Q E hr h=>?_)
 ·obtain⟨vh,hd,n,rfl,_⟩:=h;rfl
 obtain⟨vh,hd,n,rfl,hI,hl,hn,hm,q⟩:=h;refine⟨_,(aG (aN (iW (aQ (jL.mono (by decide)) hr (by rfl) (aC (vv 1) aB)) (jE (dC xO (vv 1) (aQ (lK.mono (by decide)) hr (by rfl) (aC (vv 0) aB)) (by with_unfolding_all rfl)))))),?_⟩;refine⟨_,rfl,_,rfl,hn.th,λH1 s1=>⟨_,rfl,?_⟩⟩;rw[show nameB (.str n)=true from hn];refine dI ⟨_,rfl,_,rfl,vh,hd,rfl,hI.same s1,hl,λD H2 s2 hD=>?_⟩;refine⟨D,_,rfl,.inl (SqL.of hD),rfl,aGh,?_⟩;show Q (.bl (inV (.str n) _)) H2;rw[aMv,v6 hm];exact q H2 (s1.trans s2)
inductive Plc where
 |copies
 |keys (n:Str)
 |spans (n:Str) (h0:Int) (cs:List (V × Int))
def xW (K:bET)(H:Hp)(v:V):Plc->Prop
 |.copies=>∃a,v=.ref a/\SqT K H a [.str "copies"]
 |.keys n=>∃a,v=.ref a/\SqT K H a [.str "keys",.str n]
 |.spans n h0 cs=>∃a vc,v=.ref a/\SqT K H a [.str "spans",.str n,vc]/\uD K H (lG K H) vc ((.non,h0)::cs)
theorem xW.same {K:bET}{H H':Hp}{v:V}{pl:Plc}(e:Same H H')(h:xW K H v pl):xW K H' v pl:=by
 cases pl with
 |copies=>obtain⟨a,rfl,ha⟩:=h;exact⟨a,rfl,e.aY ha⟩
 |keys n=>obtain⟨a,rfl,ha⟩:=h;exact⟨a,rfl,e.aY ha⟩
 |spans n h0 cs=>obtain⟨a,vc,rfl,ha,hc⟩:=h;exact⟨a,vc,rfl,e.aY ha,uD.same e (λ_ _ q=>q.same e) hc⟩
def aV0 (hd:Hdr)(m:Int):Plc->Prop
 |.copies=>True
 |.keys n=>Nm n/\∃k,look hd n=some k
 |.spans n h0 cs=>Nm n/\∃k,look hd n=some k/\aPs k/\aLy k m h0 cs
theorem aB4 {hd:Hdr}{n k:Str}(h:look hd n=some k):n∈hd.map (·.1):=by obtain⟨i,h1,_⟩:=aE5 h;exact List.mem_map.mpr ⟨_,p7 h1,rfl⟩
theorem aIq {c:Bool}{p q:Prop}(h:c=true)(hp:p):if c=true then p else q:=by rw[if_pos h];exact hp
theorem sY {c:Bool}{p q:Prop}(h:c=false)(hq:q):if c=true then p else q:=by rw[if_neg (by rw[h];exact t6)];exact hq
def aWk (K:bET)(Pt:Addr):Sp:=λvs H Q _=>∃(v vh:V) (m:Int) (hd:Hdr) (pl:Plc),vs=[v,vh,.int m]/\xW K H v pl/\lA K H vh hd/\hd.length<=1000/\aV0 hd m pl/\H Pt=some (.tab qC)/\∀H',Same H H'->Q (.bl true) H'
theorem th8 {K:bET}{H:Hp}{x:Str}(h:x.length<=8):Th K H (.str x):=aKb h
theorem aCb (T:Txt w K mg){Pt:Addr}(jQ:Ok P w K mg base 1 "is_one_of" ["thing","texts"] (aLo K))(pR:Ok P w K mg base 3 "is_column_in" ["head","thing"] (aIa K))(aPp:Ok P w K mg base 1 "kind_in" ["head","name"] (aSk K))(aLw:Ok P w K mg base 6 "are_cuts" ["thing","kind","houses"] (aM8 K Pt)):Ok P w K mg base 7 "is_placing" ["thing","head","houses"] (aWk K Pt):=by
 refine Ok.ofV T.aE0 aCh (λvs H Q E h=>?_) (λf cdv A outer s H vs Q E hr h=>?_)
 ·obtain⟨v,vh,m,hd,pl,rfl,_⟩:=h;rfl
 obtain⟨v,vh,m,hd,pl,rfl,hpl,hI,hl,hok,hP,q⟩:=h;refine⟨_,(aD (bZ (VW.pt (iM (cI (cA (aO jB (by rfl) T.bN bJ (aC (vv 0) (aC (dY (v:=.ty "tuple") (by rfl) T.jO fP rfl) aB))))) (gC (bH eU (aO bI (by rfl) T.fM dF (aC (vv 0) aB)) aH (bF _))))) (aG (aN gK)) aZ) (aD (bZ (cA (aQ (jQ.mono (by decide)) hr (by rfl) (aC (aW bK (vv 0) aH (λ_ _=>rfl)) (aC (dW (aC bC aB)) aB)))) (aG (aN (dC eU (aO bI (by rfl) T.fM dF (aC (vv 0) aB)) aH (bF _)))) aZ) (aD (bZ (cA (aQ (jQ.mono (by decide)) hr (by rfl) (aC (aW bK (vv 0) aH (λ_ _=>rfl)) (aC (dW (aC bC aB)) aB)))) (aG (aN (iW (dC eU (aO bI (by rfl) T.fM dF (aC (vv 0) aB)) aH (bF _)) (jE (aQ (pR.mono (by decide)) hr (by rfl) (aC (vv 1) (aC (aW bK (vv 0) aH (λ_ _=>rfl)) aB))))))) aZ) (aD (bZ (VW.pt (iM (cI (cA (aQ (jQ.mono (by decide)) hr (by rfl) (aC (aW bK (vv 0) aH (λ_ _=>rfl)) (aC (dW (aC bC aB)) aB))))) (iM (bH aDh (aO bI (by rfl) T.fM dF (aC (vv 0) aB)) aH (bF _)) (gC (cI (cA (aQ (pR.mono (by decide)) hr (by rfl) (aC (vv 1) (aC (aW bK (vv 0) aH (λ_ _=>rfl)) aB))))))))) (aG (aN gK)) aZ) (aG (aN (aQ (aLw.mono (by decide)) hr (by rfl) (aC (aW bK (vv 0) aH (λ_ _=>rfl)) (aC (aQ (aPp.mono (by decide)) hr (by rfl) (aC (vv 1) (aC (aW bK (vv 0) aH (λ_ _=>rfl)) aB))) (aC (vv 2) aB)))))))))),?_⟩;cases pl with
 |copies=>obtain⟨a,rfl,ha⟩:=hpl;refine⟨_,rfl,_,_,rfl,.tup ha,_,rfl,bV ⟨_,rfl,_,_,rfl,.inr ha,rfl,_,rfl,bV ?_⟩⟩;refine⟨_,rfl,a,_,0,_,rfl,rfl,ha,at0 _ _,by show 1<=sizeLine;decide,λt1 H1 _ s1 g1=>⟨_,t1,_,rfl,th8 (by decide +kernel),SqT.of g1,rfl,_,rfl,aIq (by decide +kernel) ?_⟩⟩;refine⟨_,rfl,_,_,rfl,.inr (s1.aY ha),rfl,?_⟩;exact q H1 s1
 |keys n=>obtain⟨a,rfl,ha⟩:=hpl;obtain⟨hn,k,hk⟩:=hok;refine⟨_,rfl,_,_,rfl,.tup ha,_,rfl,bV ⟨_,rfl,_,_,rfl,.inr ha,rfl,_,rfl,bV ?_⟩⟩;refine⟨_,rfl,a,_,0,_,rfl,rfl,ha,at0 _ _,by show 1<=sizeLine;decide,λt1 H1 _ s1 g1=>⟨_,t1,_,rfl,th8 (by decide +kernel),SqT.of g1,rfl,_,rfl,sY (by decide +kernel) ?_⟩⟩;refine⟨_,rfl,a,_,0,_,rfl,rfl,s1.aY ha,at0 _ _,by show 1<=sizeLine;decide,λt2 H2 _ s2 g2=>⟨_,t2,_,rfl,th8 (by decide +kernel),SqT.of g2,rfl,_,rfl,aIq (by decide +kernel) ?_⟩⟩;have s12:=s1.trans s2;refine⟨_,rfl,_,_,rfl,.inr (s12.aY ha),rfl,_,rfl,dI ?_⟩;exact⟨_,rfl,_,rfl,a,_,1,_,rfl,rfl,s12.aY ha,at1 _ _ _,vh,hd,n,rfl,hI.same s12,hl,hn,aB4 hk,λH' s'=>q H' (s12.trans s')⟩
 |spans n h0 cs=>obtain⟨a,vc,rfl,ha,hc⟩:=hpl;obtain⟨hn,k,hk,hkd,hcs⟩:=hok;refine⟨_,rfl,_,_,rfl,.tup ha,_,rfl,bV ⟨_,rfl,_,_,rfl,.inr ha,rfl,_,rfl,bV ?_⟩⟩;refine⟨_,rfl,a,_,0,_,rfl,rfl,ha,at0 _ _,by show 1<=sizeLine;decide,λt1 H1 _ s1 g1=>⟨_,t1,_,rfl,th8 (by decide +kernel),SqT.of g1,rfl,_,rfl,sY (by decide +kernel) ?_⟩⟩;refine⟨_,rfl,a,_,0,_,rfl,rfl,s1.aY ha,at0 _ _,by show 1<=sizeLine;decide,λt2 H2 _ s2 g2=>⟨_,t2,_,rfl,th8 (by decide +kernel),SqT.of g2,rfl,_,rfl,sY (by decide +kernel) ?_⟩⟩;have s12:=s1.trans s2;refine⟨_,rfl,a,_,0,_,rfl,rfl,s12.aY ha,at0 _ _,by show 1<=sizeLine;decide,λt3 H3 _ s3 g3=>⟨_,t3,_,rfl,th8 (by decide +kernel),SqT.of g3,rfl,_,rfl,sY (by decide +kernel) ?_⟩⟩;have s13:=s12.trans s3;refine⟨_,rfl,_,_,rfl,.inr (s13.aY ha),rfl,_,rfl,bV ?_⟩;refine⟨_,rfl,_,rfl,a,_,1,_,rfl,rfl,s13.aY ha,at1 _ _ _,vh,hd,n,rfl,hI.same s13,hl,hn,aB4 hk,λH4 s4=>⟨_,rfl,bV ?_⟩⟩;have s14:=s13.trans s4;refine⟨_,rfl,a,_,2,_,rfl,rfl,s14.aY ha,at2 _ _ _ _,_,rfl,_,rfl,a,_,1,_,rfl,rfl,s14.aY ha,at1 _ _ _,vh,n,hd,k,rfl,hI.same s14,hk,_,rfl,?_⟩;exact⟨vc,k,m,h0,cs,rfl,uD.same s14 (λ_ _ z=>z.same s14) hc,hkd,hcs,s14 _ _ hP,λH' s'=>q H' (s14.trans s')⟩
def aI6 (K:bET):Sp:=λvs H Q _=>∃(L:Addr) (vh:V) (hd:Hdr) (rows:List (List V)),vs=[.ref L,vh]/\lA K H vh hd/\hd.length<=1000/\bY K H L rows/\rows.length<=1000/\(∀r∈rows,qY hd r)/\∀H',Same H H'->Q (.bl true) H'
theorem aGd (T:Txt w K mg)(qN:Ok P w K mg base 4 "is_row" ["head","thing"] (zJ K)):Ok P w K mg base 5 "are_rows" ["thing","head"] (aI6 K):=by
 refine Ok.ofV T.aKt aIr (λvs H Q E h=>?_) (λf cdv A outer s H vs Q E hr h=>?_)
 ·obtain⟨L,vh,hd,rows,rfl,_⟩:=h;rfl
 obtain⟨L,vh,hd,rows,rfl,hI,hl,⟨us,gL,hu⟩,hn,hok,q⟩:=h;refine⟨_,(aG (aN (iW (aO aDt (by rfl) T.bN bJ (aC (vv 0) (aC (dY (v:=.ty "list") (by rfl) T.uG oY rfl) aB))) (jE (aO (lJ rfl) (by rfl) T.aAc tV (aC (dB (N:=["row","head"]) (by trivial) (jC (aF pB) rfl (by decide +kernel)) rfl (iG (vv 0)) (λcl s' H' fp=>⟨(aU (i:=0) (show (["row","head"]:List Str).Nodup from by decide +kernel) rfl (Or.inl rfl)),gH,(aQ (qN.mono (by decide)) hr (by rfl) (aC (vv 1) (aC (vv 0) aB)))⟩)) aB)))))),?_⟩;have lu:=hu.len;refine⟨_,rfl,L,us,rfl,SqL.of gL,_,rfl,dI ?_⟩;dsimp only[uX,tCB,dR];refine aGi [none,some vh] (uM 1 (by decide +kernel) rfl rfl (by trivial)) ⟨_,rfl,L,rfl,⟨_,SqL.of gL⟩,aLi (aJv λH' s'=>SqL.of (s' _ _ gL)) (aBy λH' s'=>SqL.of (s' _ _ gL)) ⟨none,rfl⟩ (by lia) (List.replicate us.length (.bl true)) (by rw[bC9]) (λi x z ex ez H' R l sm r=>?_) λD H7 s7 _ g7=>?_⟩
 ·have ez':=bBW (p7 ez);subst ez';obtain⟨r',hr',hx⟩:=cB hu ex;exact⟨_,rfl,_,rfl,vh,x,hd,r',rfl,hI.same sm,hl,hx.same sm,hok r' (p7 hr'),λH2 s2=>r H2 s2⟩
 ·refine⟨D,List.replicate us.length true,rfl,SqL.of (by rw[g7,bDS]),?_⟩;rw[show (List.replicate us.length true).all id=true from List.all_eq_true.mpr λb hb'=>bBW hb'];exact q H7 s7
structure Tb where
 hd:Hdr
 pl:Plc
 rows:List (List V)
def mX (K:bET)(H:Hp)(v:V)(vh vp:V)(L:Addr)(t:Tb):Prop:=∃a,v=.ref a/\SqT K H a [vh,vp,.ref L]/\lA K H vh t.hd/\xW K H vp t.pl/\bY K H L t.rows
structure nF (m:Int)(t:Tb):Prop where
 hd:aJw t.hd
 pl:aV0 t.hd m t.pl
 few:t.rows.length<=60
 rows:∀r∈t.rows,qY t.hd r
def aWu (K:bET)(Pt:Addr):Sp:=λvs H Q _=>∃(v vh vp:V) (L:Addr) (m:Int) (t:Tb),vs=[v,.int m]/\mX K H v vh vp L t/\nF m t/\H Pt=some (.tab qC)/\∀H',Same H H'->Q (.bl true) H'
theorem aJd (T:Txt w K mg){Pt:Addr}(aPo:Ok P w K mg base 5 "is_head" ["thing"] (aH7 K))(aFd:Ok P w K mg base 7 "is_placing" ["thing","head","houses"] (aWk K Pt))(aJ1:Ok P w K mg base 5 "are_rows" ["thing","head"] (aI6 K)):Ok P w K mg base 8 "is_table" ["thing","houses"] (aWu K Pt):=by
 refine Ok.ofV T.aLh aGk (λvs H Q E h=>?_) (λf cdv A outer s H vs Q E hr h=>?_)
 ·obtain⟨v,vh,vp,L,m,t,rfl,_⟩:=h;rfl
 obtain⟨v,vh,vp,L,m,t,rfl,⟨a,rfl,ha,hI,hpl,hR⟩,ok,hP,q⟩:=h;have l8:=ok.hd.1.2.2;have few:=ok.few;refine⟨_,(aD (bZ (VW.pt (iM (cI (cA (aO jB (by rfl) T.bN bJ (aC (vv 0) (aC (dY (v:=.ty "tuple") (by rfl) T.jO fP rfl) aB))))) (iM (bH aDh (aO bI (by rfl) T.fM dF (aC (vv 0) aB)) aH (bF _)) (gC (cI (cA (aQ (aPo.mono (by decide)) hr (by rfl) (aC (aW bK (vv 0) aH (λ_ _=>rfl)) aB)))))))) (aG (aN gK)) aZ) (aG (aN (iW (aQ (aFd.mono (by decide)) hr (by rfl) (aC (aW bK (vv 0) aH (λ_ _=>rfl)) (aC (aW bK (vv 0) aH (λ_ _=>rfl)) (aC (vv 1) aB)))) (jE (aQ (aJ1.mono (by decide)) hr (by rfl) (aC (aW bK (vv 0) aH (λ_ _=>rfl)) (aC (aW bK (vv 0) aH (λ_ _=>rfl)) aB)))))))),?_⟩;refine⟨_,rfl,_,_,rfl,.tup ha,_,rfl,bV ⟨_,rfl,_,_,rfl,.inr ha,rfl,_,rfl,bV ?_⟩⟩;refine⟨_,rfl,a,_,0,_,rfl,rfl,ha,at0 _ _,vh,t.hd,rfl,hI,ok.hd,λH1 s1=>⟨_,rfl,bV ?_⟩⟩;refine⟨_,rfl,a,_,1,_,rfl,rfl,s1.aY ha,at1 _ _ _,_,rfl,a,_,0,_,rfl,rfl,s1.aY ha,at0 _ _,_,rfl,vp,vh,m,t.hd,t.pl,rfl,hpl.same s1,hI.same s1,by lia,ok.pl,s1 _ _ hP,λH2 s2=>⟨_,rfl,dI ?_⟩⟩;have s12:=s1.trans s2;exact⟨_,rfl,a,_,2,_,rfl,rfl,s12.aY ha,at2 _ _ _ _,_,rfl,a,_,0,_,rfl,rfl,s12.aY ha,at0 _ _,L,vh,t.hd,t.rows,rfl,hI.same s12,by lia,hR.same s12,by lia,ok.rows,λH3 s3=>q H3 (s12.trans s3)⟩
end
end My
namespace L2
open PySem PySem.Spec PyProof.Rows
section
variable {X:Cx}{bEX:bEV}{σ:L2.St}{H:Hp}{s:Shared}{d:Addr}{o:Obj}{kvs:List (Key × V)}
theorem aV2 {u u':HO}(ok:HOk X.prog X.w H s.heap)(hd:H d=some u)(nt:∀xs,u≠.tup xs)(no:∀a,u≠.own a)(h:cU X.prog X.w H s.heap d u'):HOk X.prog X.w (upd H d u') s.heap:=by
 have st:∀{b v},cU X.prog X.w H s.heap b v->cU X.prog X.w (upd H d u') s.heap b v:=λ{b v} z=>z.stay (λ_ _ _ q=>q) (λc q=>by
  rw[aK (λe=>by subst e;rw[hd] at q;exact no _ (bAQ q))];exact q) λc xs q=>by
  rw[aK (λe=>by subst e;rw[hd] at q;exact nt _ (bAQ q))];exact q
 intro b v e;by_cases hb:b=d
 ·subst hb;rw[aJ] at e;cases e;exact st h
 ·rw[aK hb] at e;exact st (ok b v e)
theorem Inv.setd {u u':HO}(I:Inv X bEX σ H s)(hd:H d=some u)(nt:∀xs,u≠.tup xs)(no:∀a,u≠.own a)(nb:∀ps,u≠.tbl ps)(nf:∀ob v,X.H₀ d≠some (.frz ob v))(h:cU X.prog X.w H s.heap d u'):Inv X bEX σ (upd H d u') s:=by
 have ne:∀{b},H b=none->upd H d u' b=none:=λ{b} e=>by rw[aK (λz=>by subst z;rw[hd] at e;cases e)];exact e
 refine⟨I.ok,I.os,I.bare,⟨I.base.keep,I.base.slot,λb ob e n hx=>ne (I.base.free b ob e n hx),I.base.there,λb xs e=>?_,λb ob v e=>?_,λb ps e=>?_⟩,I.loc,I.cell,ne I.free,λx c e=>ne (I.freeC x c e),λp hp=>?_,aV2 I.hok hd nt no h,I.len⟩
 ·have q:=I.base.tups b xs e;rw[aK (λz=>by subst z;rw[hd] at q;exact nt _ (bAQ q))];exact q
 ·have q:=I.base.frzs b ob v e;rw[aK (λz=>by subst z;exact nf _ _ e)];exact q
 ·obtain⟨more,q⟩:=I.base.tbls b ps e;refine⟨more,?_⟩;rw[aK (λz=>by subst z;rw[hd] at q;exact nb _ (bAQ q))];exact q
 ·obtain⟨h1,h2,h3⟩:=I.pin p hp;exact⟨h1,ne h2,h3⟩
end
def Itd (d:Addr)(o:Obj)(kvs:List (Key × V)):It:=
 ⟨λi H=>H d=some (.frz o (.dK kvs))/\i<kvs.length,λi H x H'=>H'=H/\∀kv,kvs[i]?=some kv->x=kV kv.1,λi H=>H d=some (.frz o (.dK kvs))/\i=kvs.length⟩
theorem zG {P:Program}{w:World}{H:Hp}{h:Heap}{d:Addr}{o:Obj}{kvs:List (Key × V)}{es:Array DictEntry}{ep:Nat}(hep:o.data=.dict es ep)(ok:cU P w H h d (.frz o (.dK kvs))):∃vs,KV kvs vs/\h.DictAt (bB P w) d vs ep:=by obtain⟨ho,_,_,vs,rel,⟨o',es',ep',h1,h2,h3,h4⟩⟩:=ok;rw[ho] at h1;cases h1;rw[hep] at h3;cases h3;exact⟨vs,rel,o,es,ho,h2,hep,h4⟩
theorem aRx {P:Program}{w:World}{K:bET}{tg:Expr}(d it:Addr)(o:Obj)(kvs:List (Key × V))(es:Array DictEntry)(ep:Nat)(hep:o.data=.dict es ep)(hk:∀kv∈kvs,∃n,kv.1=Sum.inr n):Turn P w K tg (Itd d o kvs) [it] it (λi h=>h.IsKeyIter it d i kvs.length ep) where
 mem:=by simp
 obj:=λi h st b hb=>by
  have e:b=it:=by simpa using hb
  subst e;obtain⟨ob,h1,h2,h3⟩:=st;exact⟨ob,h1,λv z=>by rw[h3] at z;cases z⟩
 keep:=λi h h' st k=>st.at λob e=>k it (by simp) ob e
 item:=by
  intro X hP hw hK hc i bEX s σ H E I hf st hg;subst hP hw hK;obtain⟨hd,hi⟩:=hg;obtain⟨vs,rel,da⟩:=zG hep (I.hok d _ hd);have lk:=KV.length rel;obtain⟨f0,f1,f2,f3,f4,f5⟩:=hf it (by simp);have hkv:kvs[i]?=some kvs[i]:=d9 hi;have hiv:i<vs.length:=by lia
  have hvs:vs[i]?=some (vs[i].1,vs[i].2):=d9 hiv;have ek:kvs[i].1=vs[i].1:=by have:=congrArg (λl=>l[i]?) (KV.keys rel);simp only[v4,hkv,hvs,Option.map_some] at this;exact bAQ this
  rw[lk] at st;refine wpAny_pyNext_dict_item st da hvs λkey h' hkey hit' hs'=>?_;obtain⟨n,en⟩:=hk _ (bAR hi);have I1:Inv X bEX σ H { s with heap:=h',toks:=s.toks }:=I.turned (λb ob hb e=>(hs'.2 b hb).trans e) f0 f1 f3 f4 f5;rw[<-ek,en] at hkey;obtain⟨t,rfl⟩:∃t,key=.str n t:=by
   cases key with
   |str x t=>
    have e:x=n:=by simpa [bB,mY,Value.isStrOf] using hkey
    exact⟨t,by rw[e]⟩
   |_=>exact absurd (show false=true from hkey) t6
  obtain⟨oi,hoi,ci,di⟩:=hit';refine⟨_,rfl,aDq (s:={ s with heap:=h' }) (n:="dict_keyiterator") hoi ci di (by decide) ⟨.str n,H,I1,⟨t,rfl⟩,⟨rfl,λkv e=>?_⟩,?_,λb hb=>(hf b hb).1⟩⟩
  ·rw[hkv] at e;cases e;rw[en];rfl
  ·rw[lk];exact⟨oi,hoi,ci,di⟩
 done:=by intro X hP hw hK hc i bEX s σ H E I hf st hg;subst hP hw hK;obtain⟨f0,f1,f2,f3,f4,f5⟩:=hf it (by simp);obtain⟨hd,hi⟩:=hg;obtain⟨vs,rel,da⟩:=zG hep (I.hok d _ hd);have lk:=KV.length rel;rw[lk] at st;exact wpAny_pyNext_dict_end (I.ok.hd hc) st da (bAK (by lia)) λh' eb=>⟨rfl,I.turned (t':=s.toks) (λb o hb e=>eb b o hb e) f0 f1 f3 f4 f5⟩
 self:=λ_ _ _ _ _ st h=>wpAny_pyIter_keyiter st h
section
variable {X:Cx}{tg:Expr}
def bBa (te:TE):TI:=fun σ H R=>te σ H λv H1=>∃d kvs,v=.ref d/\H1 d=some (.dK kvs)/\(∀kv∈kvs,∃n,kv.1=Sum.inr n)/\(∀ob u,X.H₀ d≠some (.frz ob u))/\∀o,R (Itd d o kvs) (upd H1 d (.frz o (.dK kvs)))
theorem aXm {e:Expr}{te:TE}(h:VE X e te):VI X tg e (bBa (X:=X) te):=⟨by
 intro bEX s σ H R I hh;refine thn (h.1 bEX s σ H _ I hh) λv s1 ⟨x,H1,I1,r1,q1⟩=>?_;obtain⟨d,kvs,e,hd,hk,nf,q⟩:=q1;subst e;cases r1;obtain⟨z,hm,vs,rel,⟨o,es,ep,h1,h2,h3,h4⟩⟩:=aA9 I1.hok hd;have lk:=KV.length rel;have da:s1.heap.DictAt (bB X.prog X.w) d vs ep:=⟨o,es,h1,h2,h3,h4⟩;have I2:Inv X bEX σ (upd H1 d (.frz o (.dK kvs))) s1:=I1.setd hd (λ_ z=>by cases z) (λ_ z=>by cases z) (λ_ z=>by cases z) nf ⟨h1,I1.hok d _ hd⟩;refine wpAny_pyIter_dict hm da ?_;refine⟨s1.heap.objs.size,[s1.heap.objs.size],_,_,_,rfl,I2.kept (t':=s1.toks) λb o e=>j0 _ e,aRx d _ o kvs es ep h3 hk,?_,λb hb=>?_,q o⟩
 ·rw[lk];exact⟨_,j5 _ rfl,rfl,rfl⟩
 ·have e:b=s1.heap.objs.size:=by simpa using hb
  subst e;exact I2.aCa (j6 _) (I2.hok.fresh (j6 _))⟩
def aZ7 (d:Addr)(kvs:List (Key × V))(D:Ends):Ends:={ nx:=fun σ H=>(∃o,H d=some (.frz o (.dK kvs)))/\D.nx σ (upd H d (.dK kvs)),rt:=λv H=>(∃o,H d=some (.frz o (.dK kvs)))/\D.rt v (upd H d (.dK kvs)) }
def bA2 (X:Cx)(t:TS):TS:=λD σ H=>∃d kvs,H d=some (.dK kvs)/\((∀ob u,X.H₀ d≠some (.frz ob u))->t (aZ7 d kvs D) σ H)
theorem aM0 {st:Stmt}{t:TS}(h:VS X st t):VS X st (bA2 X t):=⟨by
 intro bEX s σ H D I ⟨d,kvs,hd,q⟩;have nf:∀ob u,X.H₀ d≠some (.frz ob u):=λob u e=>by have:=I.base.frzs d ob u e;rw[hd] at this;cases this
 have thaw:∀{σ' H' s' o},Inv X bEX σ' H' s'->H' d=some (.frz o (.dK kvs))->Inv X bEX σ' (upd H' d (.dK kvs)) s':=λ{σ' H' s' o} I' ho=>I'.setd ho (λ_ z=>by cases z) (λ_ z=>by cases z) (λ_ z=>by cases z) nf (I'.hok d _ ho).2;refine thn (h.1 bEX s σ H _ I (q nf)) λf s' hf=>?_;cases f with
 |next=>obtain⟨σ',H',I',⟨o,ho⟩,q'⟩:=hf;exact⟨σ',_,thaw I' ho,q'⟩
 |brk=>obtain⟨_,_,_,z⟩:=hf;exact z.elim
 |cont=>obtain⟨_,_,_,z⟩:=hf;exact z.elim
 |ret u=>obtain⟨v,σ',H',I',r,⟨o,ho⟩,q'⟩:=hf;exact⟨v,σ',_,thaw I' ho,r,q'⟩⟩
end
theorem aUf {d:Addr}{o:Obj}{kvs:List (Key × V)}{g:TG}{tb:TS}{D:Ends}{σ:L2.St}{H:Hp}(Pv:Nat->L2.St->Hp->Prop)(h0:Pv 0 σ H)(hl:∀i σ H,i<=kvs.length->Pv i σ H->H d=some (.frz o (.dK kvs)))
  (hs:∀i kv σ H,kvs[i]?=some kv->Pv i σ H->g (kV kv.1) σ H fun σ2 H2=>tb { D with nx:=Pv (i+1),ct:=Pv (i+1),bk:=D.nx } σ2 H2) (hd:∀σ H,Pv kvs.length σ H->D.nx σ H) :
  ∃W:Nat->Nat->L2.St->Hp->Prop,(∃m,W 0 m σ H)/\∀i m σ H,W i m σ H ->
   ((Itd d o kvs).stop i H/\D.nx σ H)\/((Itd d o kvs).go i H/\∃N:L2.St->Hp->Prop,(∀σ' H',N σ' H'->∃m',m'<m/\W (i+1) m' σ' H')/\∀x H',(Itd d o kvs).yld i H x H'->g x σ H' fun σ2 H2=>tb { D with nx:=N,ct:=N,bk:=D.nx } σ2 H2):=by
 refine⟨λi m σ H=>m=kvs.length - i/\i<=kvs.length/\Pv i σ H,⟨kvs.length,by simp,bAJ _,h0⟩,?_⟩;rintro i m σ H ⟨rfl,hi,p⟩;have q:=hl i σ H hi p;by_cases hlt:i<kvs.length
 ·right;refine⟨⟨q,hlt⟩,Pv (i+1),fun σ' H' h=>⟨kvs.length - (i+1),by lia,rfl,by lia,h⟩,?_⟩;rintro x H' ⟨rfl,hy⟩;have e:=hy _ (d9 hlt);subst e;exact hs i _ σ H' (d9 hlt) p
 ·left;have e:i=kvs.length:=by lia
  subst e;exact⟨⟨q,rfl⟩,hd σ H p⟩
end L2
namespace PySem
section
variable {prog:Program}{w:World}{K:Type}[DecidableEq K]{knd:HeapKind prog w K}{A:Around}{E:bEU}{s:Shared}
end
end PySem
namespace L2
open PySem PySem.Spec PyProof.Rows
section
variable {X:Cx}
end
end L2
namespace PySem
section
variable {prog:Program}{w:World}{A:Around}{E:bEU}{s:Shared}
end
end PySem
namespace L2
open PySem PySem.Spec PyProof.Rows
section
variable {X:Cx}{tg:Expr}
end
end L2
namespace PySem
section
variable {prog:Program}{w:World}{A:Around}{E:bEU}{s:Shared}
theorem aT0 {it d:Addr}{i ep:Nat}{od:Obj}{es:Array DictEntry}{k0 v0:Value}{Q:Option Value->Shared->Prop}(ki:IsItemIter s.heap it d i es.size ep k0 v0)(gd:s.heap.get? d=some od)(dd:od.data=.dict es ep)(lt:i<es.size)
  (q:∀h',IsItemIterOut h' it d (i+1) es.size ep es[i].key es[i].val s.heap.objs.size->h'.get? s.heap.objs.size=some { cls:=.type "tuple",data:=.seq #[es[i].key,es[i].val] }->h'.objs.size=s.heap.objs.size+1 ->
   (∀b o,b≠it->s.heap.get? b=some o->h'.get? b=some o)->Q (some (.ref s.heap.objs.size)) { s with heap:=h' }):wpAny (model prog w) A (pyNext (.ref it)) Q E s:=by
 have ty:s.TypeIs (.ref it) "dict_itemiterator":=⟨_,ki,rfl⟩;have li:it<s.heap.objs.size:=m8 ki;unfold pyNext;refine c7 (bB4 (bAG (name:="__next__") ty F.slot_dict_itemiterator_next (bAE F.slot_dict_itemiterator_next ty F.entry_dict_itemiterator_next (c7 (j4 (c7 (c7 ?_)))) (F.args_dict_itemiterator_next_1 _))));refine c7 (bCI ty (j4 (c7 (bDH ki rfl ?_))));rw[show Builtin.Dict_items.ownsTuple "dict_itemiterator"=true from by decide];simp only[if_true];have nz:¬ ((Value.ref d == Value.none)=true):=t6;show wpAny _ _ (ite ((Value.ref d == Value.none)=true) _ _) _ _ _;rw[if_neg nz];refine c7 (j4 (c7 (bER gd dd ?_)));rw[if_neg (by simp)];refine c7 (j4 (c7 (wpAny_dictEpoch gd dd ?_)));rw[if_neg (by simp)];have ni:¬ ((i:Int)<0):=by lia
 refine j4 ?_;simp only[ni,if_false,bAT,t8 lt];refine c7 (c7 (bCI ty (j4 (c7 (bD1 ty ?_)))));show wpAny _ _ (setField (.ref it) 3 (rawInt ((i:Int)+1)) >>= _) _ _ s;refine c7 (bAI ki (by simp) λh1 e1 s1=>?_);have f1:IsItemIter h1 it d (i+1) es.size ep k0 v0:=by
  have z:((i+1:Nat):Int)=(i:Int)+1:=by lia
  unfold IsItemIter;rw[z];simpa [rawInt] using e1
 have ty1:Shared.TypeIs { s with heap:=h1 } (.ref it) "dict_itemiterator":=⟨_,f1,rfl⟩;refine c7 (bAV (c7 (bD1 ty1 (c7 (bD1 ty1 ?_)))));have sz1:h1.objs.size=s.heap.objs.size:=s1.1;show wpAny _ _ (Builtin.Dict_items.pairFromOwner (.ref it) 6 es[i].key es[i].val) _ _ { s with heap:=h1 };unfold Builtin.Dict_items.pairFromOwner;refine c7 (bDY ?_);have f2:IsItemIter (h1.push { cls:=.type "tuple",data:=.seq #[es[i].key,es[i].val] }) it d (i+1) es.size ep k0 v0:=j0 _ f1;have t2:(h1.push { cls:=.type "tuple",data:=.seq #[es[i].key,es[i].val] }).get? s.heap.objs.size=some { cls:=.type "tuple",data:=.seq #[es[i].key,es[i].val] }:=by rw[<-sz1];exact j5 _ rfl
 have sz2:(h1.push { cls:=.type "tuple",data:=.seq #[es[i].key,es[i].val] }).objs.size=s.heap.objs.size+1:=by rw[bAW,sz1]
 have k2:∀b o,b≠it->s.heap.get? b=some o->(h1.push { cls:=.type "tuple",data:=.seq #[es[i].key,es[i].val] }).get? b=some o:=λb o hb e=>j0 _ (s1.extBut b o hb e);rw[show ({ s with heap:=h1 }:Shared).heap.objs.size=s.heap.objs.size from sz1];show wpAny _ _ (Builtin.Dict_items.ownedTupleIsFree (.ref it) >>= _) _ _ { s with heap:=h1.push { cls:=.type "tuple",data:=.seq #[es[i].key,es[i].val] } };generalize h1.push { cls:=.type "tuple",data:=.seq #[es[i].key,es[i].val] }=h2 at f2 t2 sz2 k2 ⊢;unfold Builtin.Dict_items.ownedTupleIsFree;refine c7 (c7 (bAF f2 rfl (x:=.none) rfl (j4 ?_)));simp only[if_true];refine c7 (bAF f2 rfl (x:=k0) rfl (c7 (bAF f2 rfl (x:=v0) rfl (c7 (bAI f2 (by simp) λh3 e3 s3=>?_)))));have f3:IsItemIter h3 it d (i+1) es.size ep es[i].key v0:=e3;refine c7 (bAI f3 (by simp) λh4 e4 s4=>?_);have f4:IsItemIter h4 it d (i+1) es.size ep es[i].key es[i].val:=e4;refine c7 (bAI f4 (by simp) λh5 e5 s5=>?_);have f5:IsItemIterOut h5 it d (i+1) es.size ep es[i].key es[i].val s.heap.objs.size:=e5;refine c7 (bAI f5 (by simp) λh6 e6 s6=>?_);have f6:IsItemIterOut h6 it d (i+1) es.size ep es[i].key es[i].val s.heap.objs.size:=e6;have go:∀b o,b≠it->h2.get? b=some o->h6.get? b=some o:=λb o hb e=>s6.extBut b o hb (s5.extBut b o hb (s4.extBut b o hb (s3.extBut b o hb e)));have sz6:h6.objs.size=s.heap.objs.size+1:=by have a3:h3.objs.size=h2.objs.size:=s3.1;have a4:h4.objs.size=h3.objs.size:=s4.1;have a5:h5.objs.size=h4.objs.size:=s5.1;have a6:h6.objs.size=h5.objs.size:=s6.1;lia
 exact c7 (bDT (j4 (j4 ⟨_,rfl,j4 (q h6 f6 (go _ _ (bBY li) t2) sz6 λb o hb e=>go b o hb (k2 b o hb e))⟩)))
theorem aKn {it d:Addr}{ep:Nat}{od:Obj}{es:Array DictEntry}{k0 v0:Value}{Q:Option Value->Shared->Prop}(hh:A.handled=none)(ki:IsItemIter s.heap it d es.size es.size ep k0 v0)(gd:s.heap.get? d=some od)(dd:od.data=.dict es ep)
  (q:∀h',Heap.ExtBut it s.heap h'->Q none { s with heap:=h' }):wpAny (model prog w) A (pyNext (.ref it)) Q E s:=by
 have ty:s.TypeIs (.ref it) "dict_itemiterator":=⟨_,ki,rfl⟩;unfold pyNext;refine c7 (bB4 (bAG (name:="__next__") ty F.slot_dict_itemiterator_next (bAE F.slot_dict_itemiterator_next ty F.entry_dict_itemiterator_next (c7 (j4 (c7 (c7 ?_)))) (F.args_dict_itemiterator_next_1 _))));refine c7 (bCI ty (j4 (c7 (bDH ki rfl ?_))));rw[show Builtin.Dict_items.ownsTuple "dict_itemiterator"=true from by decide];simp only[if_true];have nz:¬ ((Value.ref d == Value.none)=true):=t6;show wpAny _ _ (ite ((Value.ref d == Value.none)=true) _ _) _ _ _;rw[if_neg nz];refine c7 (j4 (c7 (bER gd dd ?_)));rw[if_neg (by simp)];refine c7 (j4 (c7 (wpAny_dictEpoch gd dd ?_)));rw[if_neg (by simp)];have ni:¬ ((es.size:Int)<0):=by lia
 refine j4 ?_;simp only[ni,if_false,bAT,bB9 (j6 es.size)];refine c7 (c7 (bCI ty (j4 ?_)));show wpAny _ _ (setField (.ref it) 2 .none >>= _) _ _ s;refine c7 (bBV ki rfl (by simp) ?_);show wpAny _ _ (newExc (.type "StopIteration") [] >>= _) _ _ _;refine c7 ?_;simp only[newExc,newTuple,raiseNew];refine c7 (bAH ?_ (by size_fits));refine c7 (m:=firstArgMember _ _) (bEB (a:=Value.none) (by simp only[firstArgMember];rfl) ?_);refine bAH (c7 (bD8 ?_)) (by size_fits);rw[show A.in1.handled=none from hh];refine c7 (j4 (bEQ ?_));refine c7 (bCQ (T:="StopIteration") (b:=true) ⟨_,j5 _ rfl,rfl⟩ isSubtype_stop ?_);exact j4 (q _ (((bBP ..).extBut.push _).push _))
theorem aQs {d:Addr}{Q:bEU}(nd:(d == sysModules)=false)(ty:s.TypeIs (.ref d) "dict")
  (q:Q (.ref s.heap.objs.size) { s with heap:=s.heap.push { cls:=.type "dict_items",data:=.fields #[.ref d] } }):wpAny (model prog w) A (call (.builtin "dict.items") [.ref d]) Q E s:=by
 refine bAE F.slot_dict_items ty F.entry_dict_items ?_ (F.args_dict_items_1 _);unfold Builtin.«dict.items» Builtin.Dict.noArgs;refine c7 (c7 (wpAny_notOrdered_dict ty ?_));show wpAny _ _ (pure d) _ _ s;refine j4 ?_;show wpAny _ _ (Builtin.Dict.showsAll d >>= _) _ _ _;unfold Builtin.Dict.showsAll;rw[if_neg (show ¬ (d == sysModules)=true by rw[nd];exact t6)];exact c7 (j4 (c7 (bAH (j4 ⟨_,rfl,q⟩))))
theorem aH9 {v d:Addr}{ep:Nat}{od:Obj}{es:Array DictEntry}{Q:bEU}(hv:s.heap.IsItemsView v d)(gd:s.heap.get? d=some od)(dd:od.data=.dict es ep)
  (q:Q (.ref s.heap.objs.size) { s with heap:=s.heap.push { cls:=.type "dict_itemiterator",data:=.fields #[.none,.bool false,.ref d,.int 0 0,.int es.size 0,.int ep 0,.none,.none] } }):wpAny (model prog w) A (pyIter (.ref v)) Q E s:=by
 obtain⟨ov,g1,g2,g3⟩:=id hv;refine bD2 hv.typeIs F.slot_dict_items_iter (bAE F.slot_dict_items_iter hv.typeIs F.entry_dict_items_iter ?_ (F.args_dict_items_iter_1 _));unfold Builtin.«dict_items.__iter__» Builtin.Dict_items.dictOf;refine c7 (j4 (c7 (c7 (bAF g1 g3 (x:=.ref d) rfl (j4 ?_)))));refine c7 ?_;unfold Builtin.Dict_items.newIterator;refine c7 (bER gd dd (c7 (wpAny_dictEpoch gd dd ?_)));rw[show Builtin.Dict_items.ownsTuple "dict_itemiterator"=true from by decide];simp only[if_true];refine bAH (j4 ⟨_,rfl,"dict_itemiterator",_,⟨_,j5 _ rfl,rfl⟩,F.slot_dict_itemiterator_next.lookup,?_⟩) (by simp only[sizeOk,Builtin.Dict_items.ownedTupleFields,m7,bAC,v5,bBZ,sizeLine_eq];lia);simpa [rawInt,Builtin.Dict_items.ownedTupleFields] using q
end
end PySem
namespace PySem
open Builtin in
theorem aAu:entryFor table "dict_itemiterator.__iter__"=some Builtin.«dict_keyiterator.__iter__»:=entryFor_alias (id':="dict_keyiterator.__iter__") (by kernel_rfl) rfl (by decide +kernel) (by kernel_rfl)
end PySem
namespace L2
open PySem PySem.Spec PyProof.Rows
section
variable {X:Cx}
end
def aJ2 (d:Addr)(o:Obj)(kvs:List (Key × V)):It:=
 ⟨λi H=>H d=some (.frz o (.dK kvs))/\i<kvs.length,λi H x H'=>∃T kv,H T=none/\x=.ref T/\kvs[i]?=some kv/\H'=upd H T (.tup [kV kv.1,kv.2]),λi H=>H d=some (.frz o (.dK kvs))/\i=kvs.length⟩
theorem bAx {kvs:List (Key × V)}{vs:List (Key × Value)}(r:KV kvs vs):∀{i:Nat} {kv:Key × V},kvs[i]?=some kv->∃q,vs[i]?=some q/\kv.1=q.1/\RelV kv.2 q.2:=by
 unfold KV at r
 induction r with
 |nil=>intro i kv h;cases h
 |cons a _ ih=>
  intro i kv h;cases i with
  |zero=>cases h;exact⟨_,rfl,a⟩
  |succ i=>exact ih h
theorem aUh {P:Program}{w:World}{n:Str}{key:Value}(h:(bB P w).is (Sum.inr n) key=true):∃t,key=.str n t:=by
 cases key with
 |str x t=>
  have e:x=n:=by simpa [bB,mY,Value.isStrOf] using h
  exact⟨t,by rw[e]⟩
 |_=>exact absurd (show false=true from h) t6
theorem aG6 {P:Program}{w:World}{K:bET}{elts:List Expr}{kt:Nat}{pos:Pos}(d it:Addr)(o:Obj)(kvs:List (Key × V))(es:Array DictEntry)(ep:Nat)(hep:o.data=.dict es ep)(hk:∀kv∈kvs,∃n,kv.1=Sum.inr n) :
  Turn P w K (.Tuple elts kt pos) (aJ2 d o kvs) [it] it (λi h=>∃k0 v0,IsItemIter h it d i kvs.length ep k0 v0) where
 mem:=by simp
 obj:=λi h st b hb=>by
  have e:b=it:=by simpa using hb
  subst e;obtain⟨k0,v0,h1⟩:=st;exact⟨_,h1,λv z=>by cases (show Data.fields _=Data.cell v from z)⟩
 keep:=λi h h' st k=>by obtain⟨k0,v0,h1⟩:=st;exact⟨k0,v0,k it (by simp) _ h1⟩
 item:=by
  intro X hP hw hK hc i bEX s σ H E I hf st hg;subst hP hw hK;obtain⟨k0,v0,st⟩:=st;obtain⟨hd,hi⟩:=hg;obtain⟨vs,rel,od,es',gd,_,hep',_,hpr,_⟩:=zG hep (I.hok d _ hd);have go:s.heap.get? d=some o:=(I.hok d _ hd).1;rw[go] at gd;cases gd;rw[hep] at hep';cases hep';have lk:es.size=kvs.length:=by rw[KV.length rel,<-hpr.length,bAA]
  have hkv:kvs[i]?=some kvs[i]:=d9 hi;obtain⟨x,hx,e1,e3⟩:=bAx rel hkv;have hie:i<es.size:=by lia
  obtain⟨ek1,ek2⟩:=hpr.get? (i:=i) (e:=es[i]) (k:=x.1) (v:=x.2) (by rw[bBI];exact t8 hie) hx;obtain⟨n,en⟩:=hk _ (bAR hi);rw[<-e1,en] at ek1;obtain⟨t,ek1⟩:=aUh ek1;have fit:=hf it (by simp);rw[<-lk] at st;refine aT0 st go hep hie λh' a1 a2 a3 kp=>?_;rw[ek1,ek2] at a1 a2;refine⟨_,rfl,?_⟩;have fT:H s.heap.objs.size=none:=I.hok.fresh (j6 _);have nit:it≠s.heap.objs.size:=t7 (m8 st);have ekv:kV kvs[i].1=.str n:=by rw[en];rfl
  have I1:Inv X bEX σ (upd H s.heap.objs.size (.tup [kV kvs[i].1,kvs[i].2])) { s with heap:=h' }:=by
   rw[ekv];refine I.drawn (ch:=[it]) (its:=[.str n t,x.2]) (λb hb=>?_) (λb o hb e=>kp b o (by simpa using hb) e) (j6 _) (.cons ⟨t,rfl⟩ (.cons e3 .nil)) (small (by simp)) (.of a2 rfl ⟨_,a2,rfl,_,rfl⟩) (λb hb=>?_)
   ·have:b=it:=by simpa using hb
    rw[this];exact fit
   ·have:b=it:=by simpa using hb
    rw[this];exact⟨_,a1⟩
  refine wpAny_letOwnedTupleGo_items (s:={ s with heap:=h' }) a1 λh2 z2 s2=>?_;obtain⟨g0,g1,g2,g3,g4,g5⟩:=fit;have I2:Inv X bEX σ (upd H s.heap.objs.size (.tup [kV kvs[i].1,kvs[i].2])) { s with heap:=h2 }:=Inv.turned (s:={ s with heap:=h' }) I1 (t':=s.toks) (it:=it) (λb o hb e=>(s2.2 b hb).trans e) (by rw[aK nit];exact g0) g1 g3 g4 g5;refine⟨.ref s.heap.objs.size,_,I2,rfl,⟨_,kvs[i],fT,rfl,hkv,rfl⟩,⟨_,_,by rw[<-lk];exact z2⟩,λb hb=>?_⟩;have:b=it:=by simpa using hb
  rw[this,aK nit];exact g0
 done:=by
  intro X hP hw hK hc i bEX s σ H E I hf st hg;subst hP hw hK;obtain⟨k0,v0,st⟩:=st;obtain⟨f0,f1,f2,f3,f4,f5⟩:=hf it (by simp);obtain⟨hd,hi⟩:=hg;obtain⟨vs,rel,od,es',gd,_,hep',_,hpr,_⟩:=zG hep (I.hok d _ hd);have go:s.heap.get? d=some o:=(I.hok d _ hd).1;rw[go] at gd;cases gd;rw[hep] at hep';cases hep';have lk:es.size=kvs.length:=by rw[KV.length rel,<-hpr.length,bAA]
  rw[hi,<-lk] at st;exact aKn (I.ok.hd hc) st go hep λh' eb=>⟨rfl,I.turned (t':=s.toks) (λb o hb e=>eb b o hb e) f0 f1 f3 f4 f5⟩
 self:=λA i s Q E st h=>by obtain⟨k0,v0,st⟩:=st;have ty:s.TypeIs (.ref it) "dict_itemiterator":=⟨_,st,rfl⟩;refine bD2 ty PySem.F.slot_dict_itemiterator_iter (bAE PySem.F.slot_dict_itemiterator_iter ty PySem.aAu ?_ (PySem.F.args_dict_itemiterator_iter_1 _));show wpAny _ _ (ret (.ref it)) _ _ s;exact j4 ⟨_,rfl,"dict_itemiterator",_,ty,PySem.F.slot_dict_itemiterator_next.lookup,h⟩
section
variable {X:Cx}
def aMq (te:TE):TI:=fun σ H R=>te σ H λv H1=>∃d kvs,v=.ref d/\H1 d=some (.dK kvs)/\(∀kv∈kvs,∃n,kv.1=Sum.inr n)/\(∀ob u,X.H₀ d≠some (.frz ob u))/\∀o,R (aJ2 d o kvs) (upd H1 d (.frz o (.dK kvs)))
theorem aDf {elts:List Expr}{kt:Nat}{tp apos cpos:Pos}{e:Expr}{te:TE}(h:VE X e te)(hbase:attributeBase e "items" X.env (eval e X.env)=eval e X.env:=by rfl)(hline:(apos.endLine == cpos.line)=true:=by rfl) :
  VI X (.Tuple elts kt tp) (.Call (.Attribute e "items" apos) [] [] cpos) (aMq (X:=X) te):=⟨by
 intro bEX s σ H R I hh;refine wpAny_Call_method0_late hbase hline (thn (h.1 bEX s σ H _ I hh) λv s1 ⟨x,H1,I1,r1,q1⟩=>?_);obtain⟨d,kvs,e,hd,hk,nf,q⟩:=q1;subst e;cases r1;obtain⟨z,hm,vs,rel,⟨o,es,ep,h1,h2,h3,h4,hpr,h6⟩⟩:=aA9 I1.hok hd;have lk:es.size=kvs.length:=by rw[KV.length rel,<-hpr.length,bAA]
 have ty:s1.TypeIs (.ref d) "dict":=(show s1.heap.DictOf (bB X.prog X.w) d vs from ⟨o,es,ep,h1,h2,h3,h4,hpr,h6⟩).typeIs;obtain⟨y1,y2⟩:=aJ3 (T:="dict") I1 (show RelV (.ref d) (.ref d) from rfl) (.inr (.inr (.inl ⟨rfl,.inl ⟨kvs,hd⟩⟩)));refine⟨"dict","dict.items",PySem.F.plainAttrs_dict,PySem.F.slot_dict_items,PySem.F.type_dict_items,y1,y2,bC6 rfl (PySem.evalArgs_none ?_)⟩;refine aQs hm ty ?_;have I2:Inv X bEX σ (upd H1 d (.frz o (.dK kvs))) s1:=I1.setd hd (λ_ z=>by cases z) (λ_ z=>by cases z) (λ_ z=>by cases z) nf ⟨h1,I1.hok d _ hd⟩;have I3:Inv X bEX σ (upd H1 d (.frz o (.dK kvs))) { s1 with heap:=s1.heap.push { cls:=.type "dict_items",data:=.fields #[.ref d] } }:=I2.kept (t':=s1.toks) λb o e=>j0 _ e;have gv:(s1.heap.push { cls:=.type "dict_items",data:=.fields #[.ref d] }).IsItemsView s1.heap.objs.size d:=⟨_,j5 _ rfl,rfl,rfl⟩;have gd:(s1.heap.push { cls:=.type "dict_items",data:=.fields #[.ref d] }).get? d=some o:=j0 _ h1;generalize s1.heap.push { cls:=.type "dict_items",data:=.fields #[.ref d] }=hp at I3 gv gd ⊢;refine aH9 (s:={ s1 with heap:=hp }) gv gd h3 ?_;refine⟨hp.objs.size,[hp.objs.size],_,_,_,rfl,I3.kept (t':=s1.toks) λb o e=>j0 _ e,aG6 d _ o kvs es ep h3 hk,?_,λb hb=>?_,q o⟩
 ·rw[<-lk];exact⟨_,_,j5 _ rfl⟩
 ·have e:b=hp.objs.size:=by simpa using hb
  subst e;exact I3.aCa (j6 _) (I3.hok.fresh (j6 _))⟩
end
theorem aL7 {d:Addr}{o:Obj}{kvs:List (Key × V)}{g:TG}{tb:TS}{D:Ends}{σ:L2.St}{H:Hp}(Pv:Nat->L2.St->Hp->Prop)(h0:Pv 0 σ H)(hl:∀i σ H,i<=kvs.length->Pv i σ H->H d=some (.frz o (.dK kvs)))
  (hs:∀i kv T σ H,kvs[i]?=some kv->Pv i σ H->H T=none->g (.ref T) σ (upd H T (.tup [kV kv.1,kv.2])) fun σ2 H2=>tb { D with nx:=Pv (i+1),ct:=Pv (i+1),bk:=D.nx } σ2 H2) (hd:∀σ H,Pv kvs.length σ H->D.nx σ H) :
  ∃W:Nat->Nat->L2.St->Hp->Prop,(∃m,W 0 m σ H)/\∀i m σ H,W i m σ H ->
   ((aJ2 d o kvs).stop i H/\D.nx σ H)\/((aJ2 d o kvs).go i H/\∃N:L2.St->Hp->Prop,(∀σ' H',N σ' H'->∃m',m'<m/\W (i+1) m' σ' H')/\∀x H',(aJ2 d o kvs).yld i H x H'->g x σ H' fun σ2 H2=>tb { D with nx:=N,ct:=N,bk:=D.nx } σ2 H2):=by
 refine⟨λi m σ H=>m=kvs.length - i/\i<=kvs.length/\Pv i σ H,⟨kvs.length,by simp,bAJ _,h0⟩,?_⟩;rintro i m σ H ⟨rfl,hi,p⟩;have q:=hl i σ H hi p;by_cases hlt:i<kvs.length
 ·right;refine⟨⟨q,hlt⟩,Pv (i+1),fun σ' H' h=>⟨kvs.length - (i+1),by lia,rfl,by lia,h⟩,?_⟩;rintro x H' ⟨T,kv,hT,rfl,hkv,rfl⟩;exact hs i kv T σ H hkv p hT
 ·left;have e:i=kvs.length:=by lia
  subst e;exact⟨⟨q,rfl⟩,hd σ H p⟩
section
variable {X:Cx}
def aX1 (X:Cx)(t:TE):TE:=fun σ H Q=>∃d kvs,H d=some (.dK kvs)/\((∀ob u,X.H₀ d≠some (.frz ob u))->t σ H λv H'=>(∃o,H' d=some (.frz o (.dK kvs)))/\Q v (upd H' d (.dK kvs)))
theorem aVj {e:Expr}{t:TE}(h:VE X e t):VE X e (aX1 X t):=⟨by
 intro bEX s σ H Q I ⟨d,kvs,hd,q⟩;have nf:∀ob u,X.H₀ d≠some (.frz ob u):=λob u e=>by have:=I.base.frzs d ob u e;rw[hd] at this;cases this
 refine thn (h.1 bEX s σ H _ I (q nf)) λu s' ⟨v,H',I',r,⟨o,ho⟩,q'⟩=>?_;exact⟨v,_,I'.setd ho (λ_ z=>by cases z) (λ_ z=>by cases z) (λ_ z=>by cases z) nf (I'.hok d _ ho).2,r,q'⟩⟩
end
theorem aIe {K:bET}{d:Addr}{o:Obj}{kvs:List (Key × V)}{H:Hp}{σ0:L2.St}{te:TE}{Q:VK}(hd:H d=some (.frz o (.dK kvs)))(h2:Ps2 σ0 σ0)(hsz:kvs.length<=1000)
  (Rel:Addr->Nat->Hp->V->Prop) (st:∀{D i H1 H2 y},Same H1 H2->Rel D i H1 y->Rel D i H2 y) (su:∀{D i H1 ys zs y},H1 D=some (.lst ys)->Rel D i H1 y->Rel D i (L2.upd H1 D (.lst zs)) y)
  (he:∀(i:Nat) (kv:Key × V),kvs[i]?=some kv->∀H' R D ys,Same H H'->H D=none->H' D=some (.lst ys)->(∀y H2,Same H' H2->Rel D i H2 y->R y H2)->te ((σ0.set 0 (some (kV kv.1))).set 1 (some kv.2)) H' R)
  (q:∀D H' ys,Same H H'->H D=none->H' D=some (.lst ys)->ys.length=kvs.length->(∀i y,ys[i]?=some y->Rel D i H' y)->Q (.ref D) H'):vA (aJ2 d o kvs) H σ0 (aL6 K 2 (sV (cO 0) (sV (cO 1) aPz))) nJ te Q:=by
 intro D hD;refine⟨λi m σ' H' ys=>m=kvs.length - i/\i<=kvs.length/\Same H H'/\H' D=some (.lst ys)/\ys.length=i/\Ps2 σ0 σ'/\∀j y,ys[j]?=some y->Rel D j H' y,⟨kvs.length,by simp,bAJ _,aV hD _,aJ,rfl,h2,λj y e=>by cases e⟩,?_⟩;rintro i m σ' H' ys ⟨rfl,hi,sm,gD,ly,hps,hr⟩;refine⟨gD,?_⟩;by_cases hlt:i<kvs.length
 ·right;refine⟨⟨sm _ _ hd,hlt⟩,?_⟩;rintro x H2 ⟨T,kv,hT,rfl,hkv,rfl⟩;have s2:Same H' (L2.upd H' T (.tup [kV kv.1,kv.2])):=aV hT _;refine hg2 (SqT.of aJ) hps fun σ2 hps2 hat=>?_;have hat':σ2=_:=hat;subst hat';dsimp only[nJ];rw[if_pos rfl];refine he i kv hkv _ _ D ys (sm.trans s2) hD (s2 _ _ gD) λy H3 s3 hy=>?_;have gD3:H3 D=some (.lst ys):=s3 _ _ (s2 _ _ gD);have s03:=sm.trans (s2.trans s3);refine⟨gD3,bCF (show ys.length<=1000 by lia) (by decide),kvs.length - (i+1),by lia,rfl,by lia,iQ hD s03,aJ,by rw[bAC,ly];rfl,hps2,λj z e=>?_⟩;by_cases hj:j<ys.length
  ·rw[bCE hj] at e;exact su gD3 (st (s2.trans s3) (hr j z e))
  ·rw[bB6 (by lia)] at e;have ej:j - ys.length=0:=by have:=(List.getElem?_eq_some_iff.mp e).1;simpa using this
   rw[ej] at e;cases e;have:j=i:=by lia
   rw[this];exact su gD3 hy
 ·left;have e:i=kvs.length:=by lia
  subst e;exact⟨⟨sm _ _ hd,rfl⟩,q D H' ys sm hD gD ly hr⟩
theorem aRj {X:Cx}{scope:Scope}{N:List Str}{tl:TE}{te:TE}{tt:TT}{g:TG}{σ:L2.St}{H:Hp}{Q:VK}(σ0:L2.St)(cap:Cap X scope N σ σ0)(h:tl σ H λv H1=>∃d kvs,v=.ref d/\H1 d=some (.dK kvs)/\(∀kv∈kvs,∃n,kv.1=Sum.inr n)/\(∀ob u,X.H₀ d≠some (.frz ob u))/\∀o,vA (aJ2 d o kvs) (upd H1 d (.frz o (.dK kvs))) σ0 g tt te Q):jU X scope N (aMq (X:=X) tl) g tt te σ H Q:=⟨σ0,cap,h⟩
section
variable {X:Cx}
def aWa:List V->Hp->VK->Prop:=λxs H Q=>∃(d:Addr) (kvs:List (Key × V)),xs=[.ref d,.ty "dict"]/\H d=some (.dK kvs)/\Q (.bl true) H
theorem aH1:cD X (.builtin "isinstance") aWa:=by intro bEX s σ H xs us Q I r h;obtain⟨d,kvs,rfl,hd,q⟩:=h;obtain⟨u,v,rfl,rx,rT⟩:=r.two;obtain rfl:v=Value.type "dict":=rT;obtain rfl:u=Value.ref d:=rx;obtain⟨z,hm,vs,rel,dof⟩:=aA9 I.hok hd;obtain⟨o,ho,hc⟩:=(show s.TypeIs (.ref d) "dict" from dof.typeIs);exact call_isinstance (isinstance_true F.isi_meta_dict F.isi_self_dict) ⟨⟨o,ho,hc⟩,⟨.bl true,H,I,rfl,q⟩⟩
end
end L2
namespace PySem
section
variable {prog:Program}{w:World}{A:Around}{E:bEU}{s:Shared}
theorem aHj {a:Addr}{o:Obj}{xs:Array Value}{k:Nat}{Q:Option Value->Shared->Prop}(hx:s.heap.get? a=some o)(hc:o.cls=.type "list")(hdat:o.data=.seq xs k)(hd:o.dict=none)(hA:A.handled=none)
  (h:∀h' tk,(∀b u,s.heap.get? b=some u->h'.get? b=some u)->Q none { s with heap:=h',toks:=tk }):wpAny (model prog w) A (getAttr? (.ref a) "keys") Q E s:=by
 obtain⟨c,dct,dat,sl⟩:=o;simp only at hc hdat hd;subst hc hdat hd;obtain⟨hp,g,d,tk,os⟩:=s;have hT:∀tk',(⟨hp,g,d,tk',os⟩:Shared).TypeIs (.ref a) "list":=λ_=>⟨_,hx,rfl⟩;have f1:=sub_AttributeError;have f3:=F.slot_list_getattribute.lookup;have f4:=F.slot_list_getattribute.bind (.ref a);have f5:=am_list_getattr_none;unfold getAttr? getAttrBy? getAttrBy
 repeat (any_goals (first|assumption|exact hT _|((with_reducible show wpAny _ _ (call (Value.builtin "list.__getattribute__") _ _) _ _ _);refine call_meets F.slot_list_getattribute (hT _) am_entry_list_getattribute (F.args_list_getattribute_2 _ _) (meets_getattribute_miss_list a xs k sl "keys" _ aA3 (by decide +kernel) (by size_fits)) ⟨hx,hA,λh' tk' e hx'=>?_⟩)|wp_step))
 obtain⟨t',u',he⟩:=hx'.there;show wpAny _ _ (getattributeRaised _ _ _ _ _ _ _) _ _ _;unfold getattributeRaised
 repeat (any_goals (first|assumption|wp_step))
 exact h _ _ hx'.keeps
end
section
variable {prog:Program}{w:World}{κ:Type}[DecidableEq κ]{knd:KeyKind prog w κ}{A:Around}{E:bEU}{s:Shared}
theorem wU {t:Addr}{its:Array Value}{kvs:List (κ × Value)}{Q:bEU}(hh:A.handled=none){o:Obj}{n:Nat}(ho:s.heap.get? t=some o)(hc:o.cls=.type "list")(hx:o.data=.seq its n)(hod:o.dict=none)(hlen:kvs.length=its.size)(hb:its.size<=1000)
  (hp:∀(j:Nat) (v:Value) (kv:κ × Value),its[j]?=some v->kvs[j]?=some kv->tU knd s.heap v kv)
  (q:∀h' tk,h'.DictOf knd s.heap.objs.size (merged [] kvs)->(∀b o,s.heap.get? b=some o->h'.get? b=some o)->Q (.ref s.heap.objs.size) { s with heap:=h',toks:=tk }) :
  wpAny (model prog w) A (call (.type "dict") [.ref t]) Q E s:=by
 refine callType_codes (Q₁:=λobj s₁=>obj=.ref s.heap.objs.size/\s₁={ s with heap:=s.heap.push { cls:=.type "dict",data:=.dict #[] } }) F.kt_called_dict (F.kt_typeCall_dict_1 _) F.entry_dict_init (kt_code_dict_new _ ⟨rfl,rfl⟩) ?_;rintro obj s₁ ⟨rfl,rfl⟩;have hnew:(s.heap.push { cls:=.type "dict",data:=.dict #[] }).DictOf knd s.heap.objs.size []:=Heap.DictOf.new s.heap;have ho1:(s.heap.push { cls:=.type "dict",data:=.dict #[] }).get? t=some o:=j0 _ ho;have hT:Shared.TypeIs { s with heap:=s.heap.push { cls:=.type "dict",data:=.dict #[] } } (.ref t) "list":=⟨o,ho1,hc⟩;have hlt:t<s.heap.objs.size:=m8 ho;refine⟨hnew.typeIs,F.args_dict_init_2 _ _,?_⟩;unfold Builtin.«dict.__init__»;refine c7 ?_;unfold Builtin.Dict.selfAndRest;refine c7 (wpAny_notOrdered_dict hnew.typeIs ?_);show wpAny _ _ (pure (s.heap.objs.size,[Value.ref t])) _ _ _;refine j4 ?_;show wpAny _ _ (Builtin.Dict.updateFrom "dict.__init__" s.heap.objs.size (.ref t) [] .none) _ _ _;unfold Builtin.Dict.updateFrom;refine c7 (bEJ hT ?_);rw[if_pos (by decide)];refine c7 (aHj ho1 hc hx hod (by first|exact hh|simp[hh]) λh2 tk2 kp2=>?_);rw[if_pos (show (none:Option Value).isNone=true from rfl)];have ho2:h2.get? t=some o:=kp2 _ _ ho1;have ht2:h2.IsList t its:=⟨o,ho2,hc,n,hx⟩;refine c7 (bCY (c7 (bB5 ht2 ?_)));have hs1:(s.heap.push { cls:=.type "dict",data:=.dict #[] }).objs.size=s.heap.objs.size+1:=bAW ..;have hs2:s.heap.objs.size<h2.objs.size:=by obtain⟨od,_,_,hg,_⟩:=id hnew;exact m8 (kp2 _ _ hg)
 refine j4 ⟨bCJ cR _,?_⟩;have hne:t≠h2.objs.size:=t7 (bDZ hlt hs2);refine yN (knd:=knd) (Walks.list (by first|exact hh|simp[hh]) _ t hne its) s.heap.objs.size ?_ kvs hlen hb ?_ its.size 0 _ _ (by lia) ⟨⟨_,j5 _ rfl,rfl,rfl⟩,ht2.push _⟩ ?_ ?_ λh' tk kp hd'=>?_
 ·simp only[bAD,v9,or_false,not_or];exact⟨t7 hs2,bBY hlt⟩
 ·intro j v e p ev;have hj:j<kvs.length:=by rw[hlen];exact (Array.getElem?_eq_some_iff.mp e).1
  obtain⟨p',key,ev',⟨o',ho',_⟩,_⟩:=hp j v _ e (d9 hj);rw[ev] at ev';cases ev';have:=m8 ho';simp only[bAD,v9,or_false,not_or];exact⟨t7 this,t7 (bDZ this hs2)⟩
 ·exact (hnew.at λo e=>kp2 _ _ e).at λo e=>j0 _ e
 ·intro j v kv e ek;exact (hp j v kv e ek).at λp _ o eo=>j0 _ (kp2 _ _ (j0 _ eo))
 ·refine⟨rfl,q h' tk hd' λb o e=>kp b o ?_ (j0 _ (kp2 _ _ (j0 _ e)))⟩;have:=m8 e;simp only[bAD,v9,or_false,not_or];exact⟨t7 this,t7 (bDZ this hs2)⟩
end
end PySem
namespace L2
open PySem PySem.Spec PyProof.Rows
section
variable {X:Cx}
def aW6 (K:bET):List V->Hp->VK->Prop:=λxs H Q=>∃t us kvs,xs=[.ref t]/\H t=some (.lst us)/\aR7 K H us kvs/\us.length<=1000/\∀p H',H p=none->Same H H'->H' p=some (.dK (qK [] kvs))->Q (.ref p) H'
theorem aLd (hc:X.calm=true):cD X (.type "dict") (aW6 X.K):=by intro bEX s σ H xs us Q I r h;obtain⟨t,us,kvs,rfl,ht,hp,hl,q⟩:=h;obtain⟨u,rfl,ru⟩:=vals1 r;cases ru;obtain⟨hz,its,n,rv,ho⟩:=I.hok t _ ht;have e1:=rv.length;obtain⟨vs,h1,h2,h3⟩:=aYc I hp rv;have lk:=KV.length h1;refine wU (knd:=bB X.prog X.w) (kvs:=vs) (I.ok.hd hc) ho rfl rfl rfl (by rw[m7];exact h2) (by rw[m7];lia) (λj v kv e e'=>h3 j v kv (by simpa using e) e') λh' tk hd kp=>?_;have hf:H s.heap.objs.size=none:=I.hok.fresh (j6 _);refine⟨.ref s.heap.objs.size,_,I.laid (t':=tk) (o:=.dK (qK [] kvs)) kp (j6 _) ?_,rfl,q _ _ hf (aV hf _) aJ⟩;have lm:=sW kvs [];simp only[bBZ] at lm;exact⟨small (by lia),beq_eq_false_iff_ne.mpr (Ne.symm (t7 I.big)),_,KV.merge h1 .nil,hd⟩
end
end L2
namespace My
open PySem PySem.Spec PyProof.Rows L2
section
variable {P:Program}{w:World}{K:bET}{mg:bEW}{base:Heap}
def aWm (k:Str):Bool:=decide (k = "number")
def knds (hd:Hdr):List Bool:=hd.map λc=>aWm c.2
theorem aGs {X:Cx}{K:bET}(h:X.K=K:=by rfl):cD X (.builtin "sorted") (aSg K):=by subst h;exact gF
theorem aG7 {X:Cx}{K:bET}(h:X.K=K:=by rfl):cD X (.type "list") (aS0 K):=by subst h;exact tW
theorem none_of {H H':Hp}{D:Addr}(e:Same H H')(h:H' D=none):H D=none:=by
 cases g:H D with
 |none=>rfl
 |some o=>rw[e _ _ g] at h;cases h
def But (d:Addr)(H H':Hp):Prop:=∀b o,b≠d->H b=some o->H' b=some o
section
variable {K:bET}{H H':Hp}{d:Addr}{kvs:List (Key × V)}
def cY (H:Hp)(d:Addr):Prop:=(∀xs,H d≠some (.tup xs))/\(∀ob xs,H d≠some (.frz ob (.tup xs)))/\∀xs,H d≠some (.lst xs)
theorem cY.dK (h:H d=some (.dK kvs)):cY H d:=⟨λ_ z=>(by rw[h] at z;cases z),λ_ _ z=>(by rw[h] at z;cases z),λ_ z=>(by rw[h] at z;cases z)⟩
theorem cY.fz {o:Obj}(h:H d=some (.frz o (.dK kvs))):cY H d:=⟨λ_ z=>(by rw[h] at z;cases z),λ_ _ z=>(by rw[h] at z;cases z),λ_ z=>(by rw[h] at z;cases z)⟩
theorem But.aY {a:Addr}{xs:List V}(b:But d H H')(hd:cY H d)(h:SqT K H a xs):SqT K H' a xs:=by
 rcases h with (h|⟨o,h⟩)|h
 ·exact .inl (.inl (b _ _ (λz=>hd.1 _ (z ▸ h)) h))
 ·exact .inl (.inr ⟨o,b _ _ (λz=>hd.2.1 _ _ (z ▸ h)) h⟩)
 ·exact .inr h
theorem But.lst {a:Addr}{xs:List V}(b:But d H H')(hd:cY H d)(h:H a=some (.lst xs)):H' a=some (.lst xs):=b _ _ (λz=>hd.2.2 _ (z ▸ h)) h
theorem But.hdr {v:V}{hr:Hdr}(b:But d H H')(hd:cY H d)(h:lA K H v hr):lA K H' v hr:=by obtain⟨a,us,rfl,ha,hu⟩:=h;exact⟨a,us,rfl,b.aY hd ha,hu.imp λ_ _ ⟨p,e,hp⟩=>⟨p,e,b.aY hd hp⟩⟩
theorem But.pl {v:V}{pl:Plc}(b:But d H H')(hd:cY H d)(h:xW K H v pl):xW K H' v pl:=by
 cases pl with
 |copies=>obtain⟨a,rfl,ha⟩:=h;exact⟨a,rfl,b.aY hd ha⟩
 |keys n=>obtain⟨a,rfl,ha⟩:=h;exact⟨a,rfl,b.aY hd ha⟩
 |spans n h0 cs=>obtain⟨a,vc,rfl,ha,⟨c,us,rfl,hc,hu⟩⟩:=h;exact⟨a,_,rfl,b.aY hd ha,c,us,rfl,b.aY hd hc,hu.imp λ_ _ ⟨p,e,hp⟩=>⟨p,e,b.aY hd hp⟩⟩
theorem But.rows {L:Addr}{rs:List (List V)}(b:But d H H')(hd:cY H d)(h:bY K H L rs):bY K H' L rs:=by obtain⟨us,h1,h2⟩:=h;exact⟨us,b.lst hd h1,h2.imp λ_ _ ⟨p,e,hp⟩=>⟨p,e,b.aY hd hp⟩⟩
theorem But.tb {v vh vp:V}{L:Addr}{t:Tb}(b:But d H H')(hd:cY H d)(h:mX K H v vh vp L t):mX K H' v vh vp L t:=by obtain⟨a,rfl,ha,h1,h2,h3⟩:=h;exact⟨a,rfl,b.aY hd ha,b.hdr hd h1,b.pl hd h2,b.rows hd h3⟩
theorem But.upd {u:HO}:But d H (L2.upd H d u):=λb o hb h=>by rw[aK hb];exact h
theorem But.same {H2:Hp}(b:But d H H')(s:Same H' H2):But d H H2:=λc o hc h=>s _ _ (b c o hc h)
theorem But.thaw {H2:Hp}(b:But d H H2)(hd:H d=some (.dK kvs)):Same H (L2.upd H2 d (.dK kvs)):=λc o h=>by
 by_cases e:c=d
 ·rw[e,aJ,<-hd,<-e];exact h
 ·rw[aK e];exact b c o e h
end
structure En where
 n:Str
 v:V
 vh:V
 vp:V
 L:Addr
 t:Tb
def enK (es:List En):List (Key × V):=es.map λe=>(Sum.inr e.n,e.v)
structure fJ (K:bET)(H:Hp)(d:Addr)(es:List En):Prop where
 at_:H d=some (.dK (enK es))
 nd:(es.map (·.n)).Nodup
 few:es.length<=60
 nm:∀e∈es,Nm e.n
 tb:∀e∈es,mX K H e.v e.vh e.vp e.L e.t
theorem mX.same {K:bET}{H H':Hp}{v vh vp:V}{L:Addr}{t:Tb}(s:Same H H')(h:mX K H v vh vp L t):mX K H' v vh vp L t:=by obtain⟨a,rfl,ha,h1,h2,h3⟩:=h;exact⟨a,rfl,s.aY ha,h1.same s,h2.same s,h3.same s⟩
theorem fJ.same {K:bET}{H H':Hp}{d:Addr}{es:List En}(s:Same H H')(h:fJ K H d es):fJ K H' d es:=⟨s _ _ h.at_,h.nd,h.few,h.nm,λe he=>(h.tb e he).same s⟩
theorem aJz {es:List En}{i:Nat}{kv:Key × V}(h:(enK es)[i]?=some kv):∃e,es[i]?=some e/\kv=(Sum.inr e.n,e.v):=by unfold enK at h;rw[v4] at h;obtain⟨e,he,rfl⟩:=Option.map_eq_some_iff.mp h;exact⟨e,he,rfl⟩
theorem aEz {es:List En}:∀kv∈enK es,∃n,kv.1=Sum.inr n:=λkv h=>by unfold enK at h;obtain⟨e,_,rfl⟩:=List.mem_map.mp h;exact⟨_,rfl⟩
theorem mJ {es:List En}:(enK es).length=es.length:=j9 _
def aNo (K:bET)(Pt:Addr):Sp:=λvs H Q _=>∃(d:Addr) (m:Int) (es:List En),vs=[.int m,.ref d]/\1<=m/\m<=6/\fJ K H d es/\(∀e∈es,nF m e.t)/\H Pt=some (.tab qC)/\∀H',Same H H'->Q .non H'
theorem aFt (T:Txt w K mg){Pt:Addr}(dX:Ok P w K mg base 1 "is_whole" ["thing"] (nQ K))(jL:Ok P w K mg base 2 "is_name" ["thing"] (aCx K nameB))(aMa:Ok P w K mg base 8 "is_table" ["thing","houses"] (aWu K Pt)):Ok P w K mg base 9 "need_town" ["houses","tables"] (aNo K Pt):=by
 refine Ok.ofV T.aJh oN (λvs H Q E h=>?_) (λf cdv A outer s H vs Q E hr h=>?_)
 ·obtain⟨d,m,es,rfl,_⟩:=h;rfl
 obtain⟨d,m,es,rfl,m1,m6,hE,hok,hP,q⟩:=h;refine⟨_,(aD (bZ (VW.pt (iM (cI (cA (aQ (dX.mono (by decide)) hr (by rfl) (aC (vv 0) aB)))) (iM (cI (aAa zU zU aH (vv 0) (sX (by rfl) T.aCy))) (gC (cI (cA (aO aH1 (by rfl) T.bN bJ (aC (vv 1) (aC (dY (v:=.ty "dict") (by rfl) T.aRw aNb rfl) aB))))))))) (aG nH) aZ) (aG (aM0 (eN PassesOwn.never rfl (aDf (vv 1)) (wK rfl (bL (aU (i:=2) oN.nd rfl (by trivial)) (bL (aU (i:=3) oN.nd rfl (by trivial)) fY))) (aG (bZ (VW.pt (iM (cI (cA (aQ (jL.mono (by decide)) hr (by rfl) (aC (vv 2) aB)))) (gC (cI (cA (aQ (aMa.mono (by decide)) hr (by rfl) (aC (vv 3) (aC (vv 0) aB)))))))) (aG nH) aZ)))))),?_⟩;refine⟨_,rfl,_,rfl,.inr (.inl ⟨m,rfl⟩),_,rfl,bV ?_⟩;refine⟨_,rfl,_,_,rfl,rfl,_,rfl,?_⟩;rw[v6 m1];refine dI ⟨_,_,rfl,rfl,_,rfl,?_⟩;rw[v6 m6];refine bV ⟨_,rfl,d,_,rfl,hE.at_,_,rfl,bV ?_⟩;refine⟨d,enK es,hE.at_,λnf=>⟨_,rfl,d,_,rfl,hE.at_,aEz,nf,λo=>?_⟩⟩;have hPd:Pt≠d:=λz=>by rw[z,hE.at_] at hP;cases hP
 have b0:But d H (L2.upd H d (.frz o (.dK (enK es)))):=But.upd;have g0:L2.upd H d (.frz o (.dK (enK es))) d=some (.frz o (.dK (enK es))):=aJ;generalize L2.upd H d (.frz o (.dK (enK es)))=B at b0 g0 ⊢;refine aL7 (λi σ H'=>Same B H'/\∃l1 l2,σ=[some (.int m),some (.ref d),l1,l2]) ⟨Same.refl B,_,_,rfl⟩ (λi σ H' _ p=>p.1 _ _ g0) (λi kv Tp σ H' ek p hT=>?_) fun σ H' p=>?_
 ·obtain⟨sm,l1,l2,rfl⟩:=p;obtain⟨en,he,rfl⟩:=aJz ek;have hm:=p7 he;have sT:Same H' (L2.upd H' Tp (.tup [kV (Sum.inr en.n),en.v])):=aV hT _;have bT:But d H (L2.upd H' Tp (.tup [kV (Sum.inr en.n),en.v])):=(b0.same sm).same sT;refine⟨Tp,_,rfl,SqT.of aJ,rfl,_,_,rfl,_,_,rfl,rfl,?_⟩;refine⟨_,rfl,_,rfl,(hE.nm en hm).th,λH2 s2=>⟨_,rfl,?_⟩⟩;rw[show nameB (kV (Sum.inr en.n,en.v).fst)=true from hE.nm en hm];refine bV ?_;have b2:=bT.same s2;refine⟨_,rfl,_,rfl,en.v,en.vh,en.vp,en.L,m,en.t,rfl,b2.tb (cY.dK hE.at_) (hE.tb en hm),hok en hm,b2 _ _ hPd hP,λH3 s3=>⟨_,rfl,bV ?_⟩⟩;exact⟨sm.trans (sT.trans (s2.trans s3)),_,_,rfl⟩
 ·obtain⟨sm,l1,l2,rfl⟩:=p;exact⟨⟨o,sm _ _ g0⟩,q _ ((b0.same sm).thaw hE.at_)⟩
def aKe (e:En)(v:V)(L:Addr):En:={ e with v:=v,L:=L,t:={ e.t with rows:=srt e.t.rows } }
def wN (K:bET)(Pt:Addr):Sp:=λvs H Q _=>∃(d:Addr) (m:Int) (es:List En),vs=[.int m,.ref d]/\1<=m/\m<=6/\fJ K H d es/\(∀e∈es,nF m e.t)/\H Pt=some (.tab qC) /\
 ∀d' H' es',H d'=none->Same H H'->fJ K H' d' es'->cH (λe e'=>∃v L,e'=aKe e v L/\H L=none) es es'->Q (.ref d') H'
theorem bAj {kd:Str}{v:V}(h:cG kd v):KdV (aWm kd) v:=by
 cases h with
 |num=>exact⟨_,rfl⟩
 |wrd _ _=>exact⟨_,rfl⟩
theorem yH {hd:Hdr}{r:List V}(h:qY hd r):KdR (knds hd) r:=by
 unfold qY at h;unfold KdR knds
 induction h with
 |nil=>exact .nil
 |cons a _ ih=>exact .cons (bAj a) ih
theorem rR {hd:Hdr}(h:Good hd):knds hd≠[]:=λz=>by have e:=congrArg List.length z;unfold knds at e;rw[j9] at e;have:=h.2.1;rw[e] at this;exact absurd this (by decide)
theorem cM {α β:Type}{R:α->β->Prop}{as:List α}{bs:List β}(h:cH R as bs):Al2 R as bs:=by
 induction h with
 |nil=>exact .nil
 |cons r _ ih=>exact .cons r ih
theorem nA {α β:Type}{R:α->β->Prop}{as:List α}{bs:List β}(h:Al2 R as bs):cH R as bs:=by
 induction h with
 |nil=>exact .nil
 |cons r _ ih=>exact .cons r ih
def PlR (K:bET)(H0:Hp)(es:List En)(D:Addr)(i:Nat)(H:Hp)(y:V):Prop:=∃e v L tp,es[i]?=some e/\y=.ref tp/\SqT K H tp [.str e.n,v]/\mX K H v e.vh e.vp L { e.t with rows:=srt e.t.rows }/\L≠D/\H0 L=none
theorem mX.nM {K:bET}{H:Hp}{D L:Addr}{ys zs:List V}{v vh vp:V}{t:Tb}(gD:H D=some (.lst ys))(hne:L≠D)(h:mX K H v vh vp L t):mX K (L2.upd H D (.lst zs)) v vh vp L t:=by
 obtain⟨a,rfl,ha,⟨b,us,rfl,hb,hu⟩,h2,⟨ws,h3,h4⟩⟩:=h;refine⟨a,rfl,SqT.nM gD ha,⟨b,us,rfl,SqT.nM gD hb,hu.imp λ_ _ ⟨p,e,hp⟩=>⟨p,e,SqT.nM gD hp⟩⟩,?_,⟨ws,by rw[aK hne];exact h3,h4.imp λ_ _ ⟨p,e,hp⟩=>⟨p,e,SqT.nM gD hp⟩⟩⟩;cases hpl:t.pl with
 |copies=>rw[hpl] at h2;obtain⟨a2,rfl,ha2⟩:=h2;exact⟨a2,rfl,SqT.nM gD ha2⟩
 |keys n=>rw[hpl] at h2;obtain⟨a2,rfl,ha2⟩:=h2;exact⟨a2,rfl,SqT.nM gD ha2⟩
 |spans n h0 cs=>rw[hpl] at h2;obtain⟨a2,vc,rfl,ha2,⟨c,us,rfl,hc,hu⟩⟩:=h2;exact⟨a2,_,rfl,SqT.nM gD ha2,c,us,rfl,SqT.nM gD hc,hu.imp λ_ _ ⟨p,e,hp⟩=>⟨p,e,SqT.nM gD hp⟩⟩
theorem aMp {K:bET}{H0 H:Hp}{D:Addr}:∀{es:List En} {ys:List V},ys.length=es.length->(∀(i:Nat) (y:V),ys[i]?=some y->PlR K H0 es D i H y) ->
  ∃es',cH (λe e'=>∃v L,e'=aKe e v L/\H0 L=none) es es'/\cH (λy (e':En)=>∃tp,y=.ref tp/\SqT K H tp [.str e'.n,e'.v]) ys es'/\∀e'∈es',mX K H e'.v e'.vh e'.vp e'.L e'.t
 |[],[],_,_=>⟨[],.nil,.nil,λe h=>by cases h⟩
 |en::es,y::ys,hl,h=>by
  obtain⟨es',a1,a2,a3⟩:=aMp (es:=es) (ys:=ys) (Nat.succ.inj hl) λi y hy=>by obtain⟨e,v,L,tp,he,r⟩:=h (i+1) y (by simpa using hy);exact⟨e,v,L,tp,by simpa using he,r⟩
  obtain⟨e,v,L,tp,he,rfl,ht,hb,_,hL⟩:=h 0 y rfl;cases he;refine⟨aKe en v L::es',.cons ⟨v,L,rfl,hL⟩ a1,.cons ⟨tp,rfl,ht⟩ a2,λe' h'=>?_⟩;rcases List.mem_cons.mp h' with rfl|h'
  ·exact hb
  ·exact a3 e' h'
theorem aX2 {K:bET}{H:Hp}{ys:List V}{es':List En}(h:cH (λy (e':En)=>∃tp,y=.ref tp/\SqT K H tp [.str e'.n,e'.v]) ys es'):aR7 K H ys (enK es'):=by
 unfold enK
 induction h with
 |nil=>exact .nil
 |cons r _ ih=>exact .cons r ih
theorem aHn {H0:Hp}{es es':List En}(h:cH (λe e'=>∃v L,e'=aKe e v L/\H0 L=none) es es'):es'.map (·.n)=es.map (·.n):=by
 induction h with
 |nil=>rfl
 |cons r _ ih=>obtain⟨v,L,rfl,_⟩:=r;rw[bAM,bAM,ih];rfl
theorem wW (T:Txt w K mg){Pt:Addr}(aGz:Ok P w K mg base 9 "need_town" ["houses","tables"] (aNo K Pt)):Ok P w K mg base 10 "placed_tables" ["houses","tables"] (wN K Pt):=by
 refine Ok.ofV T.yQ wQ (λvs H Q E h=>?_) (λf cdv A outer s H vs Q E hr h=>?_)
 ·obtain⟨d,m,es,rfl,_⟩:=h;rfl
 obtain⟨d,m,es,rfl,m1,m6,hE,hok,hP,q⟩:=h;refine⟨_,(aD (fW (aQ (aGz.mono (by decide)) hr (by rfl) (aC (vv 0) (aC (vv 1) aB)))) (aG (aN (cV (aLd rfl) (by rfl) T.aRw aNb (aC (aVj (dB (N:=["name","table"]) (by trivial) (lC (by decide +kernel)) rfl (aDf (vv 1)) (λcl s' H' fp=>⟨(rK (K:=K) (n:=2) rfl (bL (aU (i:=0) (show (["name","table"]:List Str).Nodup from by decide +kernel) rfl (Or.inl rfl)) (bL (aU (i:=1) (show (["name","table"]:List Str).Nodup from by decide +kernel) rfl (Or.inl rfl)) fY))),gH,(dW (aC (vv 0) (aC (dW (aC (aW (cT (K:=K)) (vv 1) aH (λ_ _=>rfl)) (aC (aW (cT (K:=K)) (vv 1) aH (λ_ _=>rfl)) (aC (aO (aGs (K:=K)) (by rfl) T.eX dN (aC (aW (cT (K:=K)) (vv 1) aH (λ_ _=>rfl)) aB)) aB)))) aB)))⟩))) aB))))),?_⟩;refine⟨_,rfl,_,rfl,d,m,es,rfl,m1,m6,hE,hok,hP,λH1 s1=>?_⟩;have hE1:=hE.same s1;dsimp only[uX,tCB,dR];refine⟨d,enK es,hE1.at_,λnf=>aRj [none,none] rN ⟨_,rfl,d,_,rfl,hE1.at_,aEz,nf,λo=>?_⟩⟩;have b0:But d H1 (L2.upd H1 d (.frz o (.dK (enK es)))):=But.upd;have g0:L2.upd H1 d (.frz o (.dK (enK es))) d=some (.frz o (.dK (enK es))):=aJ;have n0:∀b,L2.upd H1 d (.frz o (.dK (enK es))) b=none->H1 b=none:=λb h=>by
  by_cases e:b=d
  ·rw[e,aJ] at h;cases h
  ·rw[aK e] at h;exact h
 generalize L2.upd H1 d (.frz o (.dK (enK es)))=B at b0 g0 n0 ⊢;refine aIe g0 ⟨none,none,rfl⟩ (by rw[mJ];have:=hE.few;lia) (PlR K H es) ?_ ?_ (λi kv ek H' R D ys sm hD gD r=>?_) λD H' ys sm hD gD ly hy=>?_
 ·rintro D i H2 H3 y s2 ⟨e,v,L,tp,he,rfl,ht,hb,hne⟩;exact⟨e,v,L,tp,he,rfl,s2.aY ht,hb.same s2,hne⟩
 ·rintro D i H2 ys zs y gD ⟨e,v,L,tp,he,rfl,ht,hb,hne,h0⟩;exact⟨e,v,L,tp,he,rfl,SqT.nM gD ht,hb.nM gD hne,hne,h0⟩
 ·obtain⟨en,he,rfl⟩:=aJz ek;have hm:=p7 he;have hok1:=hok en hm;obtain⟨a,ev,ha,h1,h2,⟨us,h3,h4⟩⟩:=(b0.same sm).tb (cY.dK hE1.at_) (hE1.tb en hm);have lu:=h4.len;have few:=hok1.few;refine⟨_,rfl,_,rfl,a,_,0,_,ev,rfl,ha,at0 _ _,_,rfl,a,_,1,_,ev,rfl,ha,at1 _ _ _,_,rfl,a,_,2,_,ev,rfl,ha,at2 _ _ _ _,en.L,us,en.t.rows,knds en.t.hd,rfl,SqL.of h3,cM h4,by lia,rR hok1.hd.1,λr hr'=>yH (hok1.rows r hr'),λL' H2 us' hN s2 g2 h5=>?_⟩;refine⟨by show 3<=sizeLine;decide,λt1 H3 _ s3 g3=>⟨by show 2<=sizeLine;decide,λt2 H4 _ s4 g4=>r _ H4 (s2.trans (s3.trans s4)) ?_⟩⟩;have s24:=s2.trans (s3.trans s4);refine⟨en,.ref t1,L',t2,he,rfl,SqT.of g4,⟨t1,rfl,s4.aY (SqT.of g3),h1.same s24,h2.same s24,⟨us',(s3.trans s4) _ _ g2,(nA h5).imp λ_ _ z=>z.same s24⟩⟩,λz=>?_,none_of s1 (n0 _ (none_of sm hN))⟩;rw[z,gD] at hN;cases hN
 ·rw[mJ] at ly;obtain⟨es',a1,a2,a3⟩:=aMp ly hy;have bD:=b0.same sm;refine⟨⟨o,sm _ _ g0⟩,?_⟩;have nz:cY H' d:=cY.fz (sm _ _ g0);have bz:But d H' (L2.upd H' d (.dK (enK es))):=But.upd;have s05:Same H1 (L2.upd H' d (.dK (enK es))):=bD.thaw hE1.at_;have gD5:=bz.lst nz gD;have a2':cH (λy (e':En)=>∃tp,y=.ref tp/\SqT K (L2.upd H' d (.dK (enK es))) tp [.str e'.n,e'.v]) ys es':=a2.imp λy e' ⟨tp,ey,ht⟩=>⟨tp,ey,bz.aY nz ht⟩;have hdn:H D=none:=none_of s1 (n0 _ hD);generalize L2.upd H' d (.dK (enK es))=H5 at bz s05 gD5 a2';have le:=a2.len;have la:=a1.len;have fw:=hE.few;refine⟨D,ys,enK es',rfl,gD5,aX2 a2',by lia,λp H6 hN s6 g6=>?_⟩;have ndn:(es'.map (·.n)).Nodup:=by rw[aHn a1];exact hE.nd
  have ndk:((enK es').map (·.1)).Nodup:=by unfold enK;rw[bB0];exact List.pairwise_map.mpr ((List.pairwise_map.mp ndn).imp λ{a b} hab z=>hab (Sum.inr.inj z))
  rw[zZ _ [] (by rw[bEG];exact ndk),bEG] at g6;refine q p H6 es' (none_of s1 (none_of s05 hN)) (s1.trans (s05.trans s6)) ⟨g6,ndn,by lia,λe' h'=>?_,λe' h'=>(bz.tb nz (a3 e' h')).same s6⟩ a1;have:e'.n∈es.map (·.n):=by rw[<-aHn a1];exact bBJ h'
  obtain⟨e0,h0,e1⟩:=List.mem_map.mp this;rw[<-e1];exact hE.nm e0 h0
end
end My
namespace L2
open PySem PySem.Spec PyProof.Rows
section
variable {X:Cx}{scope:Scope}{N:List Str}{wi:TI}{te:TE}{σ:L2.St}{H:Hp}{Q:VK}
theorem xV {tt:TT}(xs:List V)(p:Nat->Bool)(σ0:L2.St)(cap:Cap X scope N σ σ0)(hsz:xs.length<=sizeLine)
  (hw:∀R:It->Hp->Prop,(∀J:It,(∀H' i x,Same H H'->xs[i]?=some x->J.go i H'/\∀y H2,J.yld i H' y H2->H2=H'/\y=x)->(∀H',Same H H'->J.stop xs.length H')->R J H)->wi σ H R)
  (ht:∀(i:Nat) (x:V),xs[i]?=some x->∀H' R l,Same H H'->(∀H2,Same H' H2->R (p i) H2)->tt ((σ0.set 0 l).set 0 (some x)) H' R) (h0:σ0[0]?=some none)
  (q:∀D H',H D=none->Same H H'->H' D=some (.lst (sel p 0 xs))->Q (.ref D) H') :
  jU X scope N wi (cO 0) tt (vZ 0) σ H Q:=by
 refine⟨σ0,cap,hw _ λJ go stop D hD=>?_⟩;refine⟨λi m σ' H' ys=>i<=xs.length/\m=xs.length - i/\(∃l,σ'=σ0.set 0 l)/\Same H H'/\H' D=some (.lst ys)/\ys=sel p 0 (xs.take i),⟨xs.length,bAJ _,rfl,⟨none,kY h0⟩,aV hD _,aJ,rfl⟩,?_⟩;rintro i m σ' H' ys ⟨hi,rfl,⟨l,rfl⟩,sm,hL,rfl⟩;refine⟨hL,?_⟩;by_cases hlt:i<xs.length
 ·right;obtain⟨g1,g2⟩:=go H' i xs[i] sm (d9 hlt);refine⟨g1,λx H2 hy=>?_⟩;obtain⟨rfl,rfl⟩:=g2 x H2 hy;unfold cO;dsimp only;have hj:0<σ0.length:=by
   by_cases z:0<σ0.length
   ·exact z
   ·rw[bAK (by lia)] at h0;cases h0
  have tk:sel p 0 (xs.take (i+1))=sel p 0 (xs.take i)++(if p i then [xs[i]] else []):=by rw[bBD,d9 hlt];show sel p 0 (xs.take i++[xs[i]])=_;rw[aBm,bAL,bC7,Nat.min_eq_left (bC5 hlt)]
  refine ht i xs[i] (d9 hlt) _ _ l sm λH3 s3=>?_;cases hp:p i with
  |true=>
   rw[if_pos rfl];refine⟨xs[i],by rw[bB8,bDV hj],s3 _ _ hL,?_,xs.length - (i+1),by lia,hlt,rfl,⟨some xs[i],by rw[bB8]⟩,?_,aJ,?_⟩
   ·have:=aF7 p 0 (xs.take i);rw[bAL] at this;lia
   ·intro b o e;rw[aK (aL e hD)];exact s3 _ _ (sm _ _ e)
   ·rw[tk,hp];rfl
  |false=>rw[if_neg (by simp)];refine⟨s3 _ _ hL,xs.length - (i+1),by lia,hlt,rfl,⟨some xs[i],by rw[bB8]⟩,sm.trans s3,s3 _ _ hL,?_⟩;rw[tk,hp];simp
 ·left;have e:i=xs.length:=by lia
  subst e;refine⟨stop _ sm,?_⟩;rw[bCG] at hL;exact q D _ hD sm hL
end
end L2
namespace My
open PySem PySem.Spec PyProof.Rows L2
section
variable {P:Program}{w:World}{K:bET}{mg:bEW}{base:Heap}
section
variable {X:Cx}
def aY7:R2:=λx y H Q=>(∃a b,x=.int a/\y=.int b/\Q (.bl (!decide (b<a))) H)\/∃a b:Str,x=.str a/\y=.str b/\Q (.bl (!decide (b.cps.toList<a.cps.toList))) H
theorem aQi:OpR X (compareOp .LtE) aY7:=by
 intro bEX s σ H x y v u Q I rx ry h;rcases h with⟨a,b,rfl,rfl,q⟩|⟨a,b,rfl,rfl,q⟩
 ·obtain⟨t,rfl⟩:=rx;obtain⟨t',rfl⟩:=ry;refine PyProof.Rows.le_int ?_;rw[show decide (a<=b)=!decide (b<a) by by_cases h:b<a <;> simp[h] <;> lia];exact⟨.bl _,H,I,rfl,q⟩
 ·obtain⟨t,rfl⟩:=rx;obtain⟨t',rfl⟩:=ry;exact P.le_str ⟨.bl _,H,I,rfl,q⟩
end
theorem aO4 {X:Cx}{tg a b:Expr}{t:TA}{p pos:Pos}(hg:Gl X "range")(hm:X.mg "range"=none)(ha:VA X [a,b] t)(hp:cP a=true:=by rfl)(hp2:cP b=true:=by rfl):VI X tg (.Call (.Name "range" p) [a,b] [] pos) (aWj t):=⟨aOy hg hm ha.1 (by rw[aP hp,aP (es:=[]) hp2];rfl) (by rw[aP (es:=[]) hp2];rfl)⟩
def uB (K:bET):Sp:=λvs H Q _=>∃(d:Addr) (es:List En) (e:En),vs=[.ref d,.str e.n]/\fJ K H d es/\e∈es/\∀H',Same H H'->Q e.v H'
theorem vL:∀{es:List En} {e:En},(es.map (·.n)).Nodup->e∈es->lV (enK es) (Sum.inr e.n)=some e.v
 |[],e,nd,h=>by cases h
 |a::es,e,nd,h=>by
  rw[bAM,bDQ] at nd;rcases List.mem_cons.mp h with rfl|h
  ·exact mZ rfl
  ·have:a.n≠e.n:=λz=>nd.1 (z ▸ bBJ h);show lV ((Sum.inr a.n,a.v)::enK es) (Sum.inr e.n)=_;rw[qM (λz=>this (Sum.inr.inj z))];exact vL nd.2 h
theorem aIk (T:Txt w K mg)(jL:Ok P w K mg base 2 "is_name" ["thing"] (aCx K nameB)):Ok P w K mg base 3 "table_in" ["placed","name"] (uB K):=by
 refine Ok.ofV T.aKo aIv (λvs H Q E h=>?_) (λf cdv A outer s H vs Q E hr h=>?_)
 ·obtain⟨d,es,e,rfl,_⟩:=h;rfl
 obtain⟨d,es,e,rfl,hE,he,q⟩:=h;have hu:=wD hr;refine⟨_,(aD (bZ (VW.pt (iM (cI (cA (aQ (jL.mono (by decide)) hr (by rfl) (aC (vv 1) aB)))) (gC (aO0 hu (vv 1) (vv 0))))) (aG nH) aZ) (aG (aN (jZ hu (vv 0) (vv 1) (λ_ _=>rfl))))),?_⟩;refine⟨_,rfl,_,rfl,(hE.nm e he).th,λH1 s1=>⟨_,rfl,?_⟩⟩;rw[show nameB (.str e.n)=true from hE.nm e he];refine bV ?_;have hv:=vL hE.nd he;refine⟨_,rfl,_,rfl,d,_,rfl,.inl ⟨_,Sum.inr e.n,.inl (s1 _ _ hE.at_),rfl,rfl⟩,_,rfl,?_⟩;rw[hv];refine bV ?_;exact⟨_,rfl,_,rfl,d,e.v,rfl,.inl ⟨_,Sum.inr e.n,.inl (s1 _ _ hE.at_),rfl,hv.symm⟩,q H1 s1⟩
theorem aY8 {kd:Str}{a b:V}{H:Hp}{Q:VK}(ha:cG kd a)(hb:cG kd b)(q:Q (.bl (!vlt b a)) H):aY7 a b H Q:=by
 cases ha with
 |num=>cases hb;exact .inl ⟨_,_,rfl,rfl,q⟩
 |wrd _ _=>cases hb;exact .inr ⟨_,_,rfl,rfl,q⟩
def kW (v:V):List (V × Int)->Nat->Nat->Nat
 |[],_,n=>n
 |c::t,p,n=>kW v t (p+1) (if vlt v c.1=true then n else p)
theorem xN (v:V):∀(l:List (V × Int)) (c:V × Int) (p n:Nat),kW v (l++[c]) p n=if vlt v c.1=true then kW v l p n else p+l.length
 |[],c,p,n=>by show (if _ then _ else _)=_;rfl
 |a::l,c,p,n=>by
  show kW v (l++[c]) (p+1) _=_;rw[xN v l c];show (if _ then kW v l (p+1) _ else p+1+l.length)=if _ then kW v l (p+1) _ else p+(l.length+1)
  rw[show p+1+l.length=p+(l.length+1) by lia]
theorem aNm (v:V)(l:List (V × Int)):kW v l 1 0<=l.length:=by
 suffices ∀(l:List (V × Int)) (p n:Nat),n<=p+l.length - 1\/n=0->kW v l p n<=p+l.length - 1\/kW v l p n=0 by rcases this l 1 0 (.inr rfl) with h|h <;> lia
 intro l
 induction l with
 |nil=>intro p n h;exact h
 |cons c t ih=>
  intro p n h;have:=ih (p+1) (if vlt v c.1=true then n else p) (by
   rw[v5] at h
   split
   ·rcases h with h|h
    ·left;lia
    ·right;exact h
   ·left;lia)
  rw[v5];rcases this with h|h
  ·left;show kW v t (p+1) _<=_;lia
  ·right;exact h
def aHy (K:bET):Sp:=λvs H Q _=>∃(vc v:V) (kd:Str) (h0:Int) (cs:List (V × Int)),vs=[vc,v]/\uD K H (lG K H) vc ((.non,h0)::cs)/\cs.length<=7/\cG kd v/\(∀c∈cs,cG kd c.1)/\Q (.int (kW v cs 1 0:Nat)) H
theorem aOv (T:Txt w K mg):Ok P w K mg base 1 "cut_of" ["cuts","value"] (aHy K):=by
 refine Ok.ofV T.aQ1 rW (λvs H Q E h=>?_) (λf cdv A outer s H vs Q E hr h=>?_)
 ·obtain⟨vc,v,kd,h0,cs,rfl,_⟩:=h;rfl
 obtain⟨vc,v,kd,h0,cs,rfl,⟨a,us,rfl,ha,hu⟩,l7,hk,hks,q⟩:=h;refine⟨_,(aD (aX (i:=2) rW.nd rfl (by trivial) aH) (aD (eN PassesOwn.never rfl (aO4 (by rfl) T.jN (aC aH (aC (aO bI (by rfl) T.fM dF (aC (vv 0) aB)) aB))) (aU (i:=3) rW.nd rfl (by trivial)) (aG (bZ (bH aQi (aW bK (aW bK (vv 0) (vv 3) (λ_ _=>rfl)) aH (λ_ _=>rfl)) (vv 1) (bF _)) (aG (aX (i:=2) rW.nd rfl (by trivial) (vv 3))) aZ))) (aG (aN (vv 2))))),?_⟩;have lu:=hu.len;rw[v5] at lu;have lt:us.length<=8:=by lia
 refine⟨_,rfl,_,_,rfl,.inr ha,1,us.length,rfl,⟨by decide,by decide,by lia,by lia⟩,?_⟩;rw[show ((us.length:Int) - 1).toNat=cs.length by lia];refine gO (λi σ H'=>H'=H/\∃l,σ=[some (.ref a),some v,some (.int (kW v (cs.take i) 1 0:Nat)),l]) ⟨rfl,_,rfl⟩ (λi σ H' hi p=>?_) fun σ H' p=>?_
 ·obtain⟨rfl,l,rfl⟩:=p;have hi1:i+1<us.length:=by lia
  obtain⟨c,hc,pc,epc,hpc⟩:=cB hu (d9 hi1);rw[List.getElem?_cons_succ] at hc;have e:atI us (1+(i:Int))=some (.ref pc):=by rw[show (1+(i:Int))=((i+1:Nat):Int) by lia,<-epc];exact eQ (d9 hi1)
  have hck:=hks c (p7 hc);have tk:cs.take (i+1)=cs.take i++[c]:=by rw[bBD,hc];rfl
  have hlt:(cs.take i).length=i:=by rw[bAL];lia
  refine⟨_,rfl,_,rfl,a,us,_,_,rfl,rfl,ha,e,pc,_,0,_,rfl,rfl,hpc,at0 _ _,_,rfl,aY8 hck hk ⟨_,rfl,?_⟩⟩;have sn:=xN v (cs.take i) c 1 0;rw[<-tk,hlt] at sn;cases hv:vlt v c.1 with
  |true=>rw[hv,if_pos rfl] at sn;exact bV ⟨rfl,some (.int (1+(i:Int))),by rw[sn];rfl⟩
  |false=>rw[hv,if_neg t6] at sn;refine dI ⟨_,rfl,rfl,some (.int (1+(i:Int))),?_⟩;rw[sn,show (((1+i:Nat)):Int)=1+(i:Int) by lia];rfl
 ·obtain⟨rfl,l,rfl⟩:=p;rw[bAY (j6 _)];exact⟨_,rfl,q⟩
def bO (hd:Hdr)(m:Int)(r:List V)(house:Int):Plc->Bool
 |.copies=>true
 |.keys n=>decide (nm (r.getD (plc hd n) .non) % m=house)
 |.spans n h0 cs=>decide ((((.non,h0)::cs).map (·.2)).getD (kW (r.getD (plc hd n) .non) cs 1 0) 0=house)
def aDr (K:bET):Sp:=λvs H Q _=>∃(vh vp vr:V) (house m:Int) (hd:Hdr) (pl:Plc) (r:List V),vs=[vh,vp,vr,.int house,.int m]/\lA K H vh hd/\aJw hd/\xW K H vp pl/\aV0 hd m pl/\dM K H vr r/\qY hd r/\0<m/\∀H',Same H H'->Q (.bl (bO hd m r house pl)) H'
theorem aNq {hd:Hdr}{r:List V}(h:qY hd r){n k:Str}(hk:look hd n=some k):∃v,r[plc hd n]?=some v/\r.getD (plc hd n) .non=v/\cG k v:=by obtain⟨h1,_⟩:=aD7 hk;obtain⟨v,hv,ok⟩:=cB h h1;exact⟨v,hv,by rw[j7,hv];rfl,ok⟩
theorem aFu (T:Txt w K mg)(aJ4:Ok P w K mg base 2 "place_of" ["head","name"] (uV K))(aY6:Ok P w K mg base 2 "home" ["value","houses"] aN1)(aRi:Ok P w K mg base 1 "cut_of" ["cuts","value"] (aHy K)):Ok P w K mg base 3 "stands_at" ["head","placing","row","house","houses"] (aDr K):=by
 refine Ok.ofV T.aI4 oG (λvs H Q E h=>?_) (λf cdv A outer s H vs Q E hr h=>?_)
 ·obtain⟨vh,vp,vr,house,m,hd,pl,r,rfl,_⟩:=h;rfl
 obtain⟨vh,vp,vr,house,m,hd,pl,r,rfl,hI,hok,hpl,plok,⟨ra,rfl,hra⟩,hr',m0,q⟩:=h;have l8:=hok.1.2.2;refine⟨_,(aD (bZ (bH eU (aW bK (vv 1) aH (λ_ _=>rfl)) bC (bF _)) (aG (aN gK)) aZ) (aD (aX (i:=5) oG.nd rfl (by trivial) (aW bK (vv 2) (aQ (aJ4.mono (by decide)) hr (by rfl) (aC (vv 0) (aC (aW bK (vv 1) aH (λ_ _=>rfl)) aB))) (λ_ _=>rfl))) (aD (bZ (bH eU (aW bK (vv 1) aH (λ_ _=>rfl)) bC (bF _)) (aG (aN (dC eU (aQ (aY6.mono (by decide)) hr (by rfl) (aC (vv 5) (aC (vv 4) aB))) (vv 3) (bF _)))) aZ) (aD (aX (i:=6) oG.nd rfl (by trivial) (aW bK (vv 1) aH (λ_ _=>rfl))) (aG (aN (dC eU (aW bK (aW bK (vv 6) (aQ (aRi.mono (by decide)) hr (by rfl) (aC (vv 6) (aC (vv 5) aB))) (λ_ _=>rfl)) aH (λ_ _=>rfl)) (vv 3) (bF _)))))))),?_⟩;cases pl with
 |copies=>obtain⟨a,rfl,ha⟩:=hpl;exact⟨_,rfl,a,_,0,_,rfl,rfl,ha,at0 _ _,rfl,_,rfl,dI (q H (Same.refl H))⟩
 |keys n=>
  obtain⟨a,rfl,ha⟩:=hpl;obtain⟨hn,k,hk⟩:=plok;obtain⟨v,hv,hg,okv⟩:=aNq hr' hk;refine⟨_,rfl,a,_,0,_,rfl,rfl,ha,at0 _ _,rfl,_,rfl,sY (by decide +kernel) ?_⟩;refine⟨_,rfl,_,rfl,_,rfl,a,_,1,_,rfl,rfl,ha,at1 _ _ _,vh,n,hd,k,rfl,hI,by lia,hk,λH1 s1=>?_⟩;refine⟨ra,r,_,v,rfl,rfl,s1.aY hra,eQ hv,?_⟩;refine⟨_,rfl,a,_,0,_,rfl,rfl,s1.aY ha,at0 _ _,rfl,_,rfl,aIq (by decide +kernel) ?_⟩;refine⟨_,rfl,_,rfl,v,m,rfl,rJ okv,m0,_,rfl,rfl,?_⟩;have e:decide (V.int (nm v % m)=V.int house)=bO hd m r house (.keys n):=by show _=decide (nm (r.getD (plc hd n) .non) % m=house);rw[hg];exact decide_eq_decide.mpr ⟨λz=>V.int.inj z,λz=>congrArg V.int z⟩
  rw[e];exact q H1 s1
 |spans n h0 cs=>
  obtain⟨a,vc,rfl,ha,hc⟩:=hpl;obtain⟨hn,k,hk,hkd,hcs⟩:=plok;obtain⟨v,hv,hg,okv⟩:=aNq hr' hk;refine⟨_,rfl,a,_,0,_,rfl,rfl,ha,at0 _ _,rfl,_,rfl,sY (by decide +kernel) ?_⟩;refine⟨_,rfl,_,rfl,_,rfl,a,_,1,_,rfl,rfl,ha,at1 _ _ _,vh,n,hd,k,rfl,hI,by lia,hk,λH1 s1=>?_⟩;refine⟨ra,r,_,v,rfl,rfl,s1.aY hra,eQ hv,?_⟩;refine⟨_,rfl,a,_,0,_,rfl,rfl,s1.aY ha,at0 _ _,rfl,_,rfl,sY (by decide +kernel) ?_⟩;refine⟨_,rfl,a,_,2,_,rfl,rfl,s1.aY ha,at2 _ _ _ _,?_⟩;have hc1:=uD.same s1 (λ_ _ z=>z.same s1) hc;obtain⟨ca,us,ec,hca,hus⟩:=id hc1;subst ec;have lu:=hus.len;rw[v5] at lu;have nle:=aNm v cs;obtain⟨c,hcc,pc,epc,hpc⟩:=cB hus (d9 (show kW v cs 1 0<us.length by lia));refine⟨_,rfl,_,rfl,_,rfl,.ref ca,v,k,h0,cs,rfl,hc1,hcs.few,okv,λc hc=>(hcs.each c hc).1,ca,us,_,.ref pc,rfl,rfl,hca,eQ (by rw[d9 (show kW v cs 1 0<us.length by lia),epc]),pc,_,1,_,rfl,rfl,hpc,at1 _ _ _,_,rfl,rfl,?_⟩;have e:decide (V.int c.2=V.int house)=bO hd m r house (.spans n h0 cs):=by show _=decide ((((.non,h0)::cs).map (·.2)).getD (kW (r.getD (plc hd n) .non) cs 1 0) 0=house);rw[hg,j7,v4,hcc];exact decide_eq_decide.mpr ⟨λz=>V.int.inj z,λz=>congrArg V.int z⟩
  rw[e];exact q H1 s1
theorem lQ {α:Type}{p:Nat->Bool}{p':α->Bool}:∀{k:Nat} {xs:List α},(∀(i:Nat) (x:α),xs[i]?=some x->p (k+i)=p' x)->sel p k xs=xs.filter p'
 |_,[],_=>rfl
 |k,x::r,h=>by have h0:=h 0 x rfl;rw[Nat.add_zero] at h0;show (if p k then x::sel p (k+1) r else sel p (k+1) r)=_;rw[bC3,h0,lQ (k:=k+1) (xs:=r) λi y e=>by rw[show k+1+i=k+(i+1) by lia];exact h (i+1) y (by simpa using e)]
theorem aBa {α β:Type}{R:α->β->Prop}{p:Nat->Bool}{as:List α}{bs:List β}(h:cH R as bs):∀k,cH R (sel p k as) (sel p k bs):=by
 induction h with
 |nil=>exact λ_=>.nil
 |@cons a b as bs r _ ih=>
  intro k;show cH R (if p k then a::sel p (k+1) as else sel p (k+1) as) (if p k then b::sel p (k+1) bs else sel p (k+1) bs)
  split
  ·exact .cons r (ih _)
  ·exact ih _
theorem aFz {X:Cx}{scope:Scope}{x y z y3:Str}{σ:L2.St}{u v u3:V}(i j k:Nat)(hf:(y,NameKind.free)∈scope.names)(hg:(z,NameKind.free)∈scope.names)(hf3:(y3,NameKind.free)∈scope.names)(hi:X.N[i]?=some y)(hj:X.N[j]?=some z)(hk:X.N[k]?=some y3)(hs:σ[i]?=some (some u))(ht:σ[j]?=some (some v))(hs3:σ[k]?=some (some u3))(hv:Vis X.env.scope y)(hw:Vis X.env.scope z)(hv3:Vis X.env.scope y3):Cap X scope [x,y,z,y3] σ [none,some u,some v,some u3]:=
 ⟨rfl,λn q r h1 h2=>by
  match n,h1,h2 with
  |0,_,h2=>cases h2
  |1,h1,h2=>cases h1;cases h2;exact⟨hf,i,hi,hs,hv⟩
  |2,h1,h2=>cases h1;cases h2;exact⟨hg,j,hj,ht,hw⟩
  |3,h1,h2=>cases h1;cases h2;exact⟨hf3,k,hk,hs3,hv3⟩
  |n+4,h1,_=>cases h1⟩
def wL (K:bET):Sp:=λvs H Q _=>∃(v vh vp:V) (L:Addr) (t:Tb) (house m:Int),vs=[v,.int house,.int m]/\mX K H v vh vp L t/\nF m t/\0<=house/\house<m /\
 ∀D' H',H D'=none->Same H H'->bY K H' D' (t.rows.filter λr=>bO t.hd m r house t.pl)->Q (.ref D') H'
theorem aLa (T:Txt w K mg)(gY:Ok P w K mg base 2 "is_number_below" ["thing","many"] aAt)(aJe:Ok P w K mg base 3 "stands_at" ["head","placing","row","house","houses"] (aDr K)):Ok P w K mg base 4 "rows_at" ["table","house","houses"] (wL K):=by
 refine Ok.ofV T.aP7 aLc (λvs H Q E h=>?_) (λf cdv A outer s H vs Q E hr h=>?_)
 ·obtain⟨v,vh,vp,L,t,house,m,rfl,_⟩:=h;rfl
 obtain⟨v,vh,vp,L,t,house,m,rfl,hT,ok,h0,hm,q⟩:=h;refine⟨_,(aD (bZ (cI (cA (aQ (gY.mono (by decide)) hr (by rfl) (aC (vv 1) (aC (vv 2) aB))))) (aG nH) aZ) (aG (aN (dB (N:=["row","house","houses","table"]) (by trivial) (jC (aF rU) rfl (by decide +kernel)) rfl (iG (aW (cT (K:=K)) (vv 0) aH (λ_ _=>rfl))) (λcl s' H' fp=>⟨(aU (i:=0) (show (["row","house","houses","table"]:List Str).Nodup from by decide +kernel) rfl (Or.inl rfl)),(aBb (cA (aQ (aJe.mono (by decide)) hr (by rfl) (aC (aW (cT (K:=K)) (vv 3) aH (λ_ _=>rfl)) (aC (aW (cT (K:=K)) (vv 3) aH (λ_ _=>rfl)) (aC (vv 0) (aC (vv 1) (aC (vv 2) aB)))))))),(vv 0)⟩))))),?_⟩;refine⟨_,rfl,_,rfl,house,m,rfl,_,rfl,?_⟩;rw[v6 h0,v6 hm];refine bV ?_;obtain⟨a,rfl,ha,hI,hpl,⟨us,hL,hu⟩⟩:=hT;have lu:=hu.len;have fw:=ok.few;have m0:0<m:=by lia
 refine xV us (λi=>bO t.hd m (t.rows.getD i []) house t.pl) [none,some (.int house),some (.int m),some (.ref a)] ?_ (small (by lia)) (λR r=>aF2 (λH' sm=>SqL.of (sm _ _ hL)) (λR' r'=>⟨_,rfl,a,_,2,_,rfl,rfl,ha,at2 _ _ _ _,r'⟩) R r) (λi u ex H' R l sm rr=>?_) rfl λD' H' hN sm hD'=>?_
 ·exact aFz 1 2 0 (by decide +kernel) (by decide +kernel) (by decide +kernel) rfl rfl rfl rfl rfl rfl (by trivial) (by trivial) (by trivial)
 ·obtain⟨r,er,hr'⟩:=cB hu ex;have hkr:=ok.rows r (p7 er);have eg:t.rows.getD i []=r:=by rw[j7,er];rfl
  rw[eg] at rr;refine⟨_,rfl,a,_,0,_,rfl,rfl,sm.aY ha,at0 _ _,_,rfl,a,_,1,_,rfl,rfl,sm.aY ha,at1 _ _ _,_,rfl,_,rfl,_,rfl,vh,vp,u,house,m,t.hd,t.pl,r,rfl,hI.same sm,ok.hd,hpl.same sm,ok.pl,hr'.same sm,hkr,m0,λH2 s2=>⟨_,rfl,rr H2 s2⟩⟩
 ·refine q D' H' hN sm ⟨_,hD',?_⟩;have e:(t.rows.filter λr=>bO t.hd m r house t.pl)=sel (λi=>bO t.hd m (t.rows.getD i []) house t.pl) 0 t.rows:=(lQ λi r er=>by rw[bC7,j7,er];rfl).symm;rw[e];exact (aBa hu 0).imp λ_ _ r=>r.same sm
def uA (K:bET)(H:Hp)(C x:Addr)(m:Int)(d:Addr)(es:List En):Prop:=(∃dx,H x=some (.ins C dx [("placed",.ref d),("house_count",.int m)]))/\fJ K H d es/\∀e∈es,nF m e.t
theorem uA.same {H H':Hp}{C x d:Addr}{m:Int}{es:List En}(s:Same H H')(h:uA K H C x m d es):uA K H' C x m d es:=by obtain⟨⟨dx,h1⟩,h2,h3⟩:=h;exact⟨⟨dx,s _ _ h1⟩,h2.same s,h3⟩
theorem cY.ins {H:Hp}{x C dx:Addr}{fs:List (Str × V)}(h:H x=some (.ins C dx fs)):cY H x:=⟨λ_ z=>(by rw[h] at z;cases z),λ_ _ z=>(by rw[h] at z;cases z),λ_ z=>(by rw[h] at z;cases z)⟩
theorem xG {α β:Type}{R:α->β->Prop}{as:List α}{bs:List β}(h:cH R as bs){b:β}(hb:b∈bs):∃a∈as,R a b:=by
 induction h with
 |nil=>cases hb
 |cons r _ ih=>
  rcases List.mem_cons.mp hb with rfl|hb
  ·exact⟨_,m9,r⟩
  ·obtain⟨a,h1,h2⟩:=ih hb;exact⟨a,j8 _ h1,h2⟩
theorem nF.sorted {m:Int}{t:Tb}(h:nF m t):nF m { t with rows:=srt t.rows }:=⟨h.hd,h.pl,by show (srt t.rows).length<=60;rw[vQ];exact h.few,λr hr=>h.rows r (rM hr)⟩
def aNr (K:bET)(C Pt:Addr):Sp:=λvs H Q _=>∃(H0:Hp) (x dx d:Addr) (m:Int) (es:List En),vs=[.ref x,.int m,.ref d]/\H x=some (.ins C dx [])/\H0 x=none/\Same H0 H/\1<=m/\m<=6/\fJ K H0 d es/\(∀e∈es,nF m e.t)/\H0 Pt=some (.tab qC) /\
 ∀d' H' es',H0 d'=none->Same H0 H'->uA K H' C x m d' es'->cH (λe e'=>∃v L,e'=aKe e v L/\H0 L=none) es es'->Q .non H'
theorem aS9 (T:Txt w K mg){C Pt:Addr}(c:Cls K C)(D:kO K C "__init__" "Town.__init__" fZ ["self","houses","tables"])(n1:bR K C "placed")(n2:bR K C "house_count")(jT:Ok P w K mg base 10 "placed_tables" ["houses","tables"] (wN K Pt)):OkM P w K mg base C 11 "__init__" ["self","houses","tables"] (aNr K C Pt):=by
 refine OkM.ofV c D wF (λvs H Q E h=>?_) (λf cdv A outer s H vs Q E hr h=>?_)
 ·obtain⟨_,x,dx,d,m,es,rfl,_⟩:=h;rfl
 obtain⟨H0,x,dx,d,m,es,rfl,hx,hN,s0,m1,m6,hE,ok,hP,q⟩:=h;refine⟨_,(aD (aBf (K:=K) (vv 0) (aQ (jT.mono (by decide)) hr (by rfl) (aC (vv 1) (aC (vv 2) aB)))) (aG (aBf (K:=K) (vv 0) (vv 1)))),?_⟩;refine⟨_,rfl,_,rfl,d,m,es,rfl,m1,m6,hE.same s0,ok,s0 _ _ hP,λd' H1 es' hd' s1 hE' a1=>?_⟩;have hx1:=s1 _ _ hx;refine⟨_,rfl,x,C,dx,[],rfl,hx1,c,n1,by decide,?_⟩;refine⟨_,rfl,_,rfl,x,C,dx,_,rfl,aJ,c,n2,by show 1<1000;decide,?_⟩;have nx:cY H1 x:=cY.ins hx1;have dne:d'≠x:=λz=>by rw[z,hx] at hd';cases hd'
 have b1:But x H1 (L2.upd (L2.upd H1 x (.ins C dx [("placed",.ref d')])) x (.ins C dx [("placed",.ref d'),("house_count",.int m)])):=λb o hb h=>by rw[aK hb,aK hb];exact h
 have s2:Same H0 (L2.upd (L2.upd H1 x (.ins C dx [("placed",.ref d')])) x (.ins C dx [("placed",.ref d'),("house_count",.int m)])):=λb o h=>b1 _ _ (λz=>by rw[z,hN] at h;cases h) (s1 _ _ (s0 _ _ h));refine q d' _ es' (none_of s0 hd') s2 ⟨⟨dx,aJ⟩,⟨b1 _ _ dne hE'.at_,hE'.nd,hE'.few,hE'.nm,λe he=>b1.tb nx (hE'.tb e he)⟩,λe he=>?_⟩ (a1.imp λe e' ⟨v,L,e1,e2⟩=>⟨v,L,e1,none_of s0 e2⟩);obtain⟨e0,h0,v,L,rfl,_⟩:=xG a1 he;exact (ok e0 h0).sorted
def vI (K:bET)(C:Addr):Sp:=λvs H Q _=>∃(x d:Addr) (m:Int) (es:List En) (e:En),vs=[.ref x,.str e.n]/\uA K H C x m d es/\e∈es/\∀L H',H L=none->Same H H'->bY K H' L e.t.rows->Q (.ref L) H'
theorem aPg (T:Txt w K mg){C:Addr}(c:Cls K C)(D:kO K C "whole" "Town.whole" jW ["self","name"])(n1:bR K C "placed")(cW:Ok P w K mg base 3 "table_in" ["placed","name"] (uB K)):OkM P w K mg base C 4 "whole" ["self","name"] (vI K C):=by
 refine OkM.ofV c D aCs (λvs H Q E h=>?_) (λf cdv A outer s H vs Q E hr h=>?_)
 ·obtain⟨x,d,m,es,e,rfl,_⟩:=h;rfl
 obtain⟨x,d,m,es,e,rfl,⟨⟨dx,hx⟩,hE,ok⟩,he,q⟩:=h;refine⟨_,(aG (aN (cV (aG7 (K:=K)) (by rfl) T.uG oY (aC (aW (cT (K:=K)) (aQ (cW.mono (by decide)) hr (by rfl) (aC (jJ (K:=K) (vv 0)) (aC (vv 1) aB))) aH (λ_ _=>rfl)) aB)))),?_⟩;obtain⟨a,ev,ha,h1,h2,⟨us,h3,h4⟩⟩:=hE.tb e he;have lu:=h4.len;have fw:=(ok e he).few;refine⟨_,rfl,x,C,dx,_,_,rfl,hx,c,n1,rfl,_,rfl,d,es,e,rfl,hE,he,λH1 s1=>⟨a,_,2,_,ev,rfl,s1.aY ha,at2 _ _ _ _,e.L,us,rfl,.inl (SqL.of (s1 _ _ h3)),λL H2 hN s2 g2=>q L H2 (none_of s1 hN) (s1.trans s2) ⟨us,g2,h4.imp λ_ _ r=>r.same (s1.trans s2)⟩⟩⟩
def aM3 (K:bET)(C:Addr):Sp:=λvs H Q _=>∃(x d:Addr) (m house:Int) (es:List En) (e:En),vs=[.ref x,.str e.n,.int house]/\uA K H C x m d es/\e∈es/\0<=house/\house<m/\∀L H',H L=none->Same H H'->bY K H' L (e.t.rows.filter λr=>bO e.t.hd m r house e.t.pl)->Q (.ref L) H'
theorem aSq (T:Txt w K mg){C:Addr}(c:Cls K C)(D:kO K C "part" "Town.part" lX ["self","name","house"])(n1:bR K C "placed")(n2:bR K C "house_count")(cW:Ok P w K mg base 3 "table_in" ["placed","name"] (uB K))(wY:Ok P w K mg base 4 "rows_at" ["table","house","houses"] (wL K)):OkM P w K mg base C 5 "part" ["self","name","house"] (aM3 K C):=by
 refine OkM.ofV c D aEj (λvs H Q E h=>?_) (λf cdv A outer s H vs Q E hr h=>?_)
 ·obtain⟨x,d,m,house,es,e,rfl,_⟩:=h;rfl
 obtain⟨x,d,m,house,es,e,rfl,⟨⟨dx,hx⟩,hE,ok⟩,he,h0,hm,q⟩:=h;refine⟨_,(aG (aN (aQ (wY.mono (by decide)) hr (by rfl) (aC (aQ (cW.mono (by decide)) hr (by rfl) (aC (jJ (K:=K) (vv 0)) (aC (vv 1) aB))) (aC (vv 2) (aC (jJ (K:=K) (vv 0)) aB)))))),?_⟩;refine⟨_,rfl,x,C,dx,_,_,rfl,hx,c,n1,rfl,_,rfl,d,es,e,rfl,hE,he,λH1 s1=>?_⟩;refine⟨_,rfl,_,rfl,x,C,dx,_,_,rfl,s1 _ _ hx,c,n2,rfl,e.v,e.vh,e.vp,e.L,e.t,house,m,rfl,(hE.tb e he).same s1,ok e he,h0,hm,λL H2 hN s2 hR=>q L H2 (none_of s1 hN) (s1.trans s2) hR⟩
end
end My
namespace L2
open PySem PySem.Spec PyProof.Rows
abbrev M61:Int:=2305843009213693951
def gQ (H:Hp)(a:Addr):Prop:=∃s:Int,H a=some (.lst [.int s])/\True
structure Fx (a:Addr)(H H':Hp):Prop where
 same:∀b o,b≠a->H b=some o->H' b=some o
 st:gQ H' a
theorem Fx.trans {a:Addr}{H H1 H2:Hp}(f:Fx a H H1)(g:Fx a H1 H2):Fx a H H2:=⟨λb o n e=>g.same b o n (f.same b o n e),g.st⟩
theorem gQ.same {a:Addr}{H H':Hp}(h:gQ H a)(e:Same H H'):gQ H' a:=by obtain⟨s,h1,h2⟩:=h;exact⟨s,e _ _ h1,h2⟩
theorem Fx.of {a:Addr}{H H':Hp}(h:gQ H a)(e:Same H H'):Fx a H H':=⟨λb o _ q=>e b o q,h.same e⟩
theorem Fx.refl {a:Addr}{H:Hp}(h:gQ H a):Fx a H H:=.of h (Same.refl H)
theorem Fx.sm {a:Addr}{H H1 H2:Hp}(f:Fx a H H1)(e:Same H1 H2):Fx a H H2:=f.trans (.of f.st e)
theorem gQ.ne {a p:Addr}{H:Hp}(h:gQ H a)(f:H p=none):p≠a:=by obtain⟨s,h1,_⟩:=h;exact (aL h1 f).symm
theorem Fx.aY {K:bET}{a p:Addr}{H H':Hp}{xs:List V}(f:Fx a H H')(h:gQ H a)(e:SqT K H p xs):SqT K H' p xs:=by
 obtain⟨s,h1,_⟩:=h;rcases e with (e|⟨o,e⟩)|e
 ·exact .inl (.inl (f.same p _ (aIs e h1 (by intro z;cases z)) e))
 ·exact .inl (.inr ⟨o,f.same p _ (aIs e h1 (by intro z;cases z)) e⟩)
 ·exact .inr e
theorem Fx.upd {a D:Addr}{H H':Hp}{o:HO}(f:Fx a H H')(hD:H D=none)(ne:D≠a):Fx a H (L2.upd H' D o):=⟨λb u n e=>by rw[aK (aL e hD)];exact f.same b u n e,by obtain⟨s,h1,h2⟩:=f.st;exact⟨s,by rw[aK ne.symm];exact h1,h2⟩⟩
theorem Fx.free {a p:Addr}{H H':Hp}(f:Fx a H H')(h:H' p=none):H p=none:=by
 cases e:H p with
 |none=>rfl
 |some o=>
  by_cases z:p=a
  ·subst z;obtain⟨s,hs,_⟩:=f.st;rw[hs] at h;cases h
  ·rw[f.same p o z e] at h;cases h
theorem aQ3 {a:Addr}{H:Hp}(h:gQ H a):aYm (Fx a) H:=⟨λD o hD=>.of h (aV hD o),λa b=>a.trans b,λD o H' hD f=>f.upd hD (h.ne hD),λD H1 H2 xs hD _ e f=>f.same _ _ (h.ne hD) e⟩
end L2
namespace My
open PySem PySem.Spec PyProof.Rows L2
section
variable {P:Program}{w:World}{K:bET}{mg:bEW}{base:Heap}
def aMj (K:bET):Sp:=λvs H Q _=>∃(a:Addr) (ns:List Int),vs=[.ref a]/\SqL K H a (ns.map V.int)/\ns.length<=63/\∀c H',Same H H'->0<=c->c<M61->Q (.int c) H'
theorem aD6 (T:Txt w K mg):Ok P w K mg base 1 "_law_seed" ["_law_script"] (aMj K):=by
 refine Ok.ofV T.aJq iT (λvs H Q E h=>?_) (λf cdv A outer s H vs Q E hr h=>?_)
 ·obtain⟨a,ns,rfl,_⟩:=h;rfl
 obtain⟨a,ns,rfl,ha,h63,q⟩:=h;refine⟨_,(aD (aX (i:=1) iT.nd rfl (by trivial) aH) (aD (eN PassesOwn.never rfl (aTx (by rfl) T.aHa (aC (vv 0) aB)) (wK rfl (bL (aU (i:=2) iT.nd rfl (by trivial)) (bL (aU (i:=3) iT.nd rfl (by trivial)) fY))) (aG (aX (i:=1) iT.nd rfl (by trivial) (bM oR (bM dG (bM dG (bM dG (bM uH (vv 1) aH) (bM oR (vv 3) (bM aEy aH aH))) (bM uH aH (vv 2))) aH) aH)))) (aG (aN (vv 1))))),?_⟩;refine⟨_,rfl,a,ns.map V.int,rfl,ha,aSz (λi σ H'=>Same H H'/\∃(c:Int) (l2 l3:Option V),0<=c/\c<M61/\σ=[some (.ref a),some (.int c),l2,l3]) ⟨Same.refl H,7,_,_,by decide,by decide,rfl⟩ (λi σ H' _ ⟨e,_⟩=>e.seq ha) ?_ ?_⟩
 ·rintro i σ H' x Tp H'' ex ⟨sm,c,l2,l3,c0,c1,rfl⟩ hT rfl;obtain⟨z,hz,rfl⟩:=aRm ex;refine⟨Tp,_,rfl,SqT.of aJ,rfl,_,_,rfl,_,_,rfl,rfl,?_⟩;refine⟨_,rfl,_,_,rfl,rfl,.inr ⟨by decide,by decide⟩,_,rfl,_,_,rfl,rfl,⟨by decide,by decide,by decide⟩,_,_,rfl,rfl,(by show (0:Int)<10 ^ 30;decide),_,_,rfl,rfl,_,rfl,_,_,rfl,rfl,.inl ⟨by decide,by decide⟩,_,_,rfl,rfl,_,_,rfl,rfl,_,_,rfl,rfl,(by show (0:Int)<2305843009213693951;decide),?_⟩;exact⟨sm.trans (aV hT _),_,_,_,Int.emod_nonneg _ (by decide),Int.emod_lt_of_pos _ (by decide),rfl⟩
 ·rintro σ H' ⟨sm,c,l2,l3,c0,c1,rfl⟩;exact⟨_,rfl,q c H' sm c0 c1⟩
def mD:Sp:=λvs H Q _=>∃(a:Addr) (m:Int),vs=[.ref a,.int m]/\gQ H a/\(0<m/\m<2 ^ 64)/\∀c H',Fx a H H'->0<=c->c<m->Q (.int c) H'
theorem aEh (T:Txt w K mg):Ok P w K mg base 1 "_law_next" ["_law_state","_law_many"] mD:=by
 refine Ok.ofV T.aHf aE3 (λvs H Q E h=>?_) (λf cdv A outer s H vs Q E hr h=>?_)
 ·obtain⟨a,m,rfl,_⟩:=h;rfl
 obtain⟨a,m,rfl,⟨st,hs,s0⟩,⟨hm,hm2⟩,q⟩:=h;refine⟨_,(aD (zV (bM oR (bM dG (bM uH (aW fH (vv 0) aH (λ_ _=>rfl)) aH) aH) aH) (aW3 (vv 0) aH set_list)) (aG (aN (bM oR (bM aUa (aW fH (vv 0) aH (λ_ _=>rfl)) aH) (vv 1))))),?_⟩;refine⟨_,rfl,a,_,0,_,rfl,rfl,SqL.of hs,at0 _ _,_,_,rfl,rfl,.inr ⟨by decide,by decide⟩,_,_,rfl,rfl,_,_,rfl,rfl,(by show (0:Int)<2305843009213693951;decide),?_⟩;refine⟨_,rfl,a,_,0,0,rfl,rfl,hs,rfl,?_⟩;refine⟨_,rfl,a,[.int ((st * 1181783497276652981+12345678910987) % 2305843009213693951)],0,_,rfl,rfl,SqL.of aJ,at0 _ _,_,_,rfl,rfl,⟨by decide,by decide⟩,_,rfl,_,_,rfl,rfl,hm,?_⟩;exact q _ _ ⟨λb o n h=>by rw[aK n];exact h,(st * 1181783497276652981+12345678910987) % 2305843009213693951,aJ,trivial⟩ (Int.emod_nonneg _ (by lia)) (Int.emod_lt_of_pos _ hm)
def aH2:Sp:=λvs H Q _=>∃a:Addr,vs=[.ref a]/\gQ H a/\∀i H',Fx a H H'->Q (.int i) H'
theorem aCq (T:Txt w K mg)(aR:Ok P w K mg base 1 "_law_next" ["_law_state","_law_many"] mD):Ok P w K mg base 2 "_law_great" ["_law_state"] aH2:=by
 refine Ok.ofV T.aE7 jM (λvs H Q E h=>?_) (λf cdv A outer s H vs Q E hr h=>?_)
 ·obtain⟨a,rfl,_⟩:=h;rfl
 obtain⟨a,rfl,hs,q⟩:=h;refine⟨_,(aD (aX (i:=1) jM.nd rfl (by trivial) aH) (aD (eN PassesOwn.never rfl (fC (by rfl) T.jN (aC aH aB)) (aU (i:=2) jM.nd rfl (by trivial)) (aG (aX (i:=1) jM.nd rfl (by trivial) (bM dG (bM uH (vv 1) (bM aEy aH aH)) (aQ (aR.mono (by decide)) hr (by rfl) (aC (vv 0) (aC (bM aEy aH aH) aB))))))) (aG (aN (aW fH (dJ (aC (vv 1) (aC (bM aKm aH (vv 1)) aB))) (aQ (aR.mono (by decide)) hr (by rfl) (aC (vv 0) (aC aH aB))) (λ_ _=>rfl)))))),?_⟩;refine⟨_,rfl,by decide,by decide,gO (n:=4) (λi σ H'=>Fx a H H'/\∃(c:Int) (l2:Option V),σ=[some (.ref a),some (.int c),l2]) ⟨.refl hs,0,_,rfl⟩ ?_ ?_⟩
 ·rintro i σ H' hi ⟨fx,c,l2,rfl⟩;refine⟨_,rfl,_,_,rfl,rfl,⟨by decide,by decide,by decide⟩,_,_,rfl,rfl,.inr ⟨by decide,by decide⟩,_,rfl,_,_,rfl,rfl,⟨by decide,by decide,by decide⟩,a,_,rfl,fx.st,(by show (0:Int)<10 ^ 15/\(10:Int) ^ 15<2 ^ 64;decide),λd H1 f1 _ _=>?_⟩;exact⟨_,_,rfl,rfl,fx.trans f1,_,_,rfl⟩
 ·rintro σ H' ⟨fx,c,l2,rfl⟩;refine⟨_,rfl,_,rfl,_,_,rfl,rfl,(by show 2<=sizeLine;decide),λp H1 fp s1 g1=>?_⟩;refine⟨_,rfl,a,2,rfl,fx.st.same s1,by decide,λd H2 f2 d0 d1=>?_⟩;obtain⟨v,hv,mv⟩:=at_of (xs:=[.int c,.int (0 - c)]) d0 (by show d<2;lia);refine⟨p,_,_,v,rfl,rfl,SqL.of (f2.same _ _ (fx.st.ne fp) g1),hv,?_⟩;simp only[bAD,v9,or_false] at mv;rcases mv with rfl|rfl
  ·exact q _ _ ((fx.sm s1).trans f2)
  ·exact q _ _ ((fx.sm s1).trans f2)
abbrev aJy:List V:=[.str "",.str "a",.str "b",.str "ab"]
def aF1:Sp:=λvs H Q _=>∃(a:Addr) (kd:Str),vs=[.ref a,.str kd]/\gQ H a/\aPs kd/\∀v H',Fx a H H'->cG kd v->Q v H'
theorem aLm {v:V}(h:v∈aJy):cG "word" v:=by
 simp only[aJy,bAD,v9,or_false] at h;have le:∀x:Str,(x.cps.all λc=>decide (97<=c) && decide (c<=122))=true->Lets x:=λx hx c hc=>by have:=(Array.all_eq_true_iff_forall_mem.mp hx) c hc;rw[bAU] at this;exact⟨of_decide_eq_true this.1,of_decide_eq_true this.2⟩
 rcases h with rfl|rfl|rfl|rfl
 ·exact .wrd (le _ (by decide +kernel)) (by decide +kernel)
 ·exact .wrd (le _ (by decide +kernel)) (by decide +kernel)
 ·exact .wrd (le _ (by decide +kernel)) (by decide +kernel)
 ·exact .wrd (le _ (by decide +kernel)) (by decide +kernel)
theorem aCl (T:Txt w K mg)(aR:Ok P w K mg base 1 "_law_next" ["_law_state","_law_many"] mD)(aFv:Ok P w K mg base 2 "_law_great" ["_law_state"] aH2):Ok P w K mg base 3 "_law_value" ["_law_state","_law_kind"] aF1:=by
 refine Ok.ofV T.aFn fU (λvs H Q E h=>?_) (λf cdv A outer s H vs Q E hr h=>?_)
 ·obtain⟨a,kd,rfl,_⟩:=h;rfl
 obtain⟨a,kd,rfl,hs,hk,q⟩:=h;refine⟨_,(aD (aX (i:=2) fU.nd rfl (by trivial) (aQ (aR.mono (by decide)) hr (by rfl) (aC (vv 0) (aC aH aB)))) (aD (bZ (bH eU (vv 1) bC (bF _)) (aG (aN (aW fH (dJ (aC (bM aKm (aQ (aR.mono (by decide)) hr (by rfl) (aC (vv 0) (aC aH aB))) aH) (aC (aQ (aFv.mono (by decide)) hr (by rfl) (aC (vv 0) aB)) aB))) (cV aD0 (by rfl) T.aTe aLz (aC (dC eU (vv 2) aH (bF _)) aB)) (λ_ _=>rfl)))) aZ) (aD (bZ (bH aS8 (vv 2) aH (bF _)) (aG (aN (aW fH (dJ (aC bC (aC bC (aC bC (aC bC aB))))) (bM oR (vv 2) aH) (λ_ _=>rfl)))) aZ) (aD (aX (i:=3) fU.nd rfl (by trivial) bC) (aD (eN PassesOwn.never rfl (fC (by rfl) T.jN (aC (aQ (aR.mono (by decide)) hr (by rfl) (aC (vv 0) (aC aH aB))) aB)) (aU (i:=4) fU.nd rfl (by trivial)) (aG (aX (i:=3) fU.nd rfl (by trivial) (bM oX (vv 3) (qL bC (aQ (aR.mono (by decide)) hr (by rfl) (aC (vv 0) (aC aH aB))) (λ_ _=>rfl)))))) (aG (aN (vv 3)))))))),?_⟩;refine⟨_,rfl,a,10,rfl,hs,by decide,λway H1 f1 w0 w1=>?_⟩;rcases hk with rfl|rfl
 ·refine⟨_,rfl,rfl,_,rfl,dI ?_⟩;refine⟨_,rfl,a,4,rfl,f1.st,by decide,λd H2 f2 d0 d1=>?_⟩;refine⟨_,_,rfl,rfl,_,rfl,a,rfl,f2.st,λg H3 f3=>?_⟩;refine⟨(by show 2<=sizeLine;decide),λp H4 _ s4 g4=>?_⟩;have fx:=(f1.trans (f2.trans f3)).sm s4;refine⟨_,rfl,rfl,.inr ⟨_,rfl,?_⟩⟩;by_cases e:way=9
  ·rw[v6 (congrArg V.int e)];exact⟨p,_,_,_,rfl,rfl,SqL.of g4,eQ (j:=1) rfl,q _ _ fx .num⟩
  ·rw[w6 (by intro z;exact e (V.int.inj z))];exact⟨p,_,_,_,rfl,rfl,SqL.of g4,eQ (j:=0) rfl,q _ _ fx .num⟩
 ·refine⟨_,rfl,rfl,_,rfl,bV ?_⟩;refine⟨_,rfl,_,_,rfl,rfl,_,rfl,aK8 (λ_=>?_) (λ_=>?_)⟩
  ·refine⟨(by show 4<=sizeLine;decide),λp H4 _ s4 g4=>?_⟩;obtain⟨v,hv,mv⟩:=at_of (xs:=aJy) (j:=way % 4) (by lia) (by show way % 4<4;lia);exact⟨_,rfl,_,_,rfl,rfl,(by show (0:Int)<4;decide),p,_,_,v,rfl,rfl,SqL.of g4,hv,q _ _ (f1.sm s4) (aLm mv)⟩
  ·refine⟨_,rfl,a,9,rfl,f1.st,by decide,λn H2 f2 n0 n1=>?_⟩;refine⟨_,rfl,by lia,by lia,gO (n:=n.toNat) (λi σ H'=>Fx a H H'/\∃(x:Str) (l4:Option V),σ=[some (.ref a),some (.str "word"),some (.int way),some (.str x),l4]/\x.length<=i/\Lets x) ⟨f1.trans f2,_,_,rfl,by decide +kernel,λd hd=>by simp[show (("":Str).cps)=#[] from rfl] at hd⟩ ?_ ?_⟩
   ·rintro i σ H' hi ⟨fx,x,l4,rfl,hl,hx⟩;have al:abc.length=26:=by decide +kernel
    refine⟨_,rfl,_,rfl,a,26,rfl,fx.st,by decide,λd H3 f3 d0 d1=>?_⟩;obtain⟨ch,hch⟩:=aN2 (z:=abc) d0 (by rw[al];exact d1);refine⟨_,_,_,rfl,rfl,d0,(by lia),(by rw[al];exact d1),hch,_,_,rfl,rfl,?_,fx.trans f3,_,_,rfl,?_,hx.add (aIu.one hch)⟩
    ·show x.length+1<=sizeLine;exact small (by lia)
    ·rw[aFy];show x.length+1<=i+1;lia
   ·rintro σ H' ⟨fx,x,l4,rfl,hl,hx⟩;exact⟨_,rfl,q _ _ fx (.wrd hx (by lia))⟩
def aDy:Sp:=λvs H Q _=>vs=[]/\∀p H',H p=none->Same H H'->H' p=some (.lst words)->Q (.ref p) H'
theorem aCf (T:Txt w K mg):Ok P w K mg base 1 "_law_words" [] aDy:=by
 refine Ok.ofV T.aFs sZ (λvs H Q E h=>?_) (λf cdv A outer s H vs Q E hr h=>?_)
 ·obtain⟨rfl,_⟩:=h;rfl
 obtain⟨rfl,q⟩:=h;refine⟨_,(aD (aX (i:=0) sZ.nd rfl (by trivial) (dJ (aC bC (aC bC (aC bC (aC bC (aC bC (aC bC (aC bC (aC bC (aC bC aB))))))))))) (aG (aN (bM aBq (vv 0) (dJ (aC bC (aC bC (aC bC (aC bC (aC bC (aC bC (aC bC (aC bC aB))))))))))))),?_⟩;refine⟨(by show 9<=sizeLine;decide),λp1 H1 _ s1 g1=>?_⟩;refine⟨_,rfl,(by show 8<=sizeLine;decide),λp2 H2 _ s2 g2=>?_⟩;exact⟨p1,p2,_,_,rfl,rfl,s2 _ _ g1,g2,(by show 9+8<=sizeLine;decide),λp H3 f3 s3 g3=>q p H3 ((s1.trans s2).free f3) (s1.trans (s2.trans s3)) g3⟩
def sU (ns:List Str):Prop:=ns.length=17/\(∀n∈ns,Nm n)/\ns.Nodup
theorem sU.rev {ns:List Str}(h:sU ns):sU ns.reverse:=⟨by rw[List.length_reverse];exact h.1,λn hn=>h.2.1 n (List.mem_reverse.mp hn),List.pairwise_reverse.mpr (h.2.2.imp λq=>Ne.symm q)⟩
theorem aXb:∀j:_root_.Fin 26,abc.cps[j.val]?=some (97+j.val):=by decide +kernel
theorem aTv {j:Nat}(h:j<26):abc.cps[j]?=some (97+j):=aXb ⟨j,h⟩
def sgl (o:Nat):List Str:=(List.range 17).map λk=>⟨#[97+(o+k)]⟩
theorem aM5:∀o:_root_.Fin 10,((sgl o.val).all λn=>nameB (.str n))=true/\(Txt.slice abc (some (o.val:Int)) (some ((o.val:Int)+17))).cps.size=17/\((List.range 17).all λi=>decide (sgn (Txt.slice abc (some (o.val:Int)) (some ((o.val:Int)+17))) i=⟨#[97+(o.val+i)]⟩))=true:=by decide +kernel
theorem aSa {a b:Nat}(h:(⟨#[a]⟩:Str)=⟨#[b]⟩):a=b:=by have:=congrArg (λx:Str=>x.cps.toList) h;simpa using this
theorem aTo {o:Nat}(h:o<10):sU (sgl o):=by
 refine⟨by simp[sgl],λn hn=>?_,?_⟩
 ·have:=(aM5 ⟨o,h⟩).1;rw[bB3] at this;exact this n hn
 ·refine List.pairwise_map.mpr (bDM ?_ List.nodup_range);intro k l _ _ ne e;have:=aSa e;exact ne (by lia)
theorem aU2 {o:Nat}(h:o<10):((List.range (Txt.slice abc (some (o:Int)) (some ((o:Int)+17))).cps.size).map λi=>V.str (sgn (Txt.slice abc (some (o:Int)) (some ((o:Int)+17))) i))=(sgl o).map V.str:=by obtain⟨_,h2,h3⟩:=aM5 ⟨o,h⟩;have h2:(Txt.slice abc (some (o:Int)) (some ((o:Int)+17))).cps.size=17:=h2;rw[h2];unfold sgl;rw[bB0];refine List.map_congr_left λi hi=>?_;rw[bB3] at h3;have:=of_decide_eq_true (h3 i hi);show V.str _=V.str _;exact congrArg V.str this
def stm (b:Str)(a o:Nat):Nat->List Str:=λi=>(List.range i).map λk=>put b a (97+(o+k))
theorem aYz {b:Str}{a o:Nat}(hb:Lets b)(hl:b.length<=7)(ha:a<=b.length)(ho:o<10)(hw:∀w∈words,inV w ((stm b a o 17).map V.str)=false):sU (stm b a o 17):=by
 refine⟨by simp[stm],λn hn=>?_,?_⟩
 ·obtain⟨k,hk,rfl⟩:=List.mem_map.mp hn;have hk:=List.mem_range.mp hk;have hin:inV (.str (put b a (97+(o+k)))) words=false:=by
   cases e:inV (.str (put b a (97+(o+k)))) words with
   |false=>rfl
   |true=>
    exfalso;unfold inV at e;rw[bDJ] at e;obtain⟨v,hv,ev⟩:=e;have hvs:∃z:Str,v=.str z:=by simp only[words,bAD,v9,or_false] at hv;rcases hv with rfl|rfl|rfl|rfl|rfl|rfl|rfl|rfl|rfl|rfl|rfl|rfl|rfl|rfl|rfl|rfl|rfl <;> exact⟨_,rfl⟩
    obtain⟨z,rfl⟩:=hvs;have e2:(z == put b a (97+(o+k)))=true:=ev;have e3:z=put b a (97+(o+k)):=by simpa using e2
    have:=hw _ hv;rw[aMv,decide_eq_false_iff_not] at this;exact this (by rw[e3];exact hn)
  show ((decide (1<=(put b a (97+(o+k))).length) && (decide ((put b a (97+(o+k))).length<=8) && allIn (put b a (97+(o+k))))) && !inV (.str (put b a (97+(o+k)))) words)=true;have hL:Lets (put b a (97+(o+k))):=λc hc=>by
   rcases aVh ha hc with rfl|z
   ·lia
   ·exact hb c z
  rw[aUx ha,v6 (p:=1<=b.length+1) (by lia),v6 (p:=b.length+1<=8) (by lia),allIn_of hL,hin];rfl
 ·refine List.pairwise_map.mpr (bDM ?_ List.nodup_range);intro k l _ _ ne e;have:=aWc ha e;exact ne (by lia)
def aSw:Sp:=λvs H Q _=>∃a:Addr,vs=[.ref a,.int 17]/\gQ H a/\∀p H' ns,Fx a H H'->H p=none->H' p=some (.lst (ns.map V.str))->sU ns->Q (.ref p) H'
theorem aCi (T:Txt w K mg)(aR:Ok P w K mg base 1 "_law_next" ["_law_state","_law_many"] mD)(aEe:Ok P w K mg base 1 "_law_words" [] aDy):Ok P w K mg base 2 "_law_names" ["_law_state","_law_many"] aSw:=by
 refine Ok.ofV T.aFm cC (λvs H Q E h=>?_) (λf cdv A outer s H vs Q E hr h=>?_)
 ·obtain⟨a,rfl,_⟩:=h;rfl
 obtain⟨a,rfl,hs,q⟩:=h;refine⟨_,(aD (aX (i:=2) cC.nd rfl (by trivial) bC) (aD (aX (i:=3) cC.nd rfl (by trivial) (aQ (aR.mono (by decide)) hr (by rfl) (aC (vv 0) (aC (bM aKm aH (vv 1)) aB)))) (aD (aX (i:=4) cC.nd rfl (by trivial) bC) (aD (eN PassesOwn.never rfl (fC (by rfl) T.jN (aC (aQ (aR.mono (by decide)) hr (by rfl) (aC (vv 0) (aC aH aB))) aB)) (aU (i:=5) cC.nd rfl (by trivial)) (aG (aX (i:=4) cC.nd rfl (by trivial) (bM oX (vv 4) (qL (vv 2) (aQ (aR.mono (by decide)) hr (by rfl) (aC (vv 0) (aC aH aB))) (λ_ _=>rfl)))))) (aD (aX (i:=6) cC.nd rfl (by trivial) (aQ (aR.mono (by decide)) hr (by rfl) (aC (vv 0) (aC (bM dG (aO vB (by rfl) T.fM dF (aC (vv 4) aB)) aH) aB)))) (aD (aX (i:=7) cC.nd rfl (by trivial) (dJ aB)) (aD (eN PassesOwn.never rfl (fC (by rfl) T.jN (aC (vv 1) aB)) (aU (i:=5) cC.nd rfl (by trivial)) (aG (fW (nP PySem.F.plainAttrs_list PySem.F.slot_list_append PySem.F.type_list_append jD (vv 7) (aC (bM oX (bM oX (jP aFx (vv 4) oH (kI (vv 6))) (qL (vv 2) (bM dG (vv 3) (vv 5)) (λ_ _=>rfl))) (jP aFx (vv 4) (kI (vv 6)) oH)) aB))))) (aD (bZ (cA (aO (aQt rfl) (by rfl) T.bAi aY2 (aC (dB (N:=["_law_word","_law_names_here"]) (by trivial) (jC (aF jV) rfl (by decide +kernel)) rfl (iG (aW1 (aEe.mono (by decide)) hr (by rfl))) (λcl s' H' fp=>⟨(aU (i:=0) (show (["_law_word","_law_names_here"]:List Str).Nodup from by decide +kernel) rfl (Or.inl rfl)),gH,(dC (aKr (K:=K)) (vv 0) (vv 1) (by with_unfolding_all rfl))⟩)) aB))) (aG (aX (i:=7) cC.nd rfl (by trivial) (cV (aKa rfl) (by rfl) T.uG oY (aC (jP aFx (vv 2) (kI (vv 3)) (kI (bM dG (vv 3) (vv 1)))) aB)))) aZ) (aD (bZ (bH eU (aQ (aR.mono (by decide)) hr (by rfl) (aC (vv 0) (aC aH aB))) aH (bF _)) (aG (fW (aZc PySem.F.plainAttrs_list PySem.F.slot_list_reverse PySem.F.type_list_reverse aGm (vv 7)))) aZ) (aG (aN (vv 7)))))))))))),?_⟩;have al:abc.length=26:=by decide +kernel
 refine⟨_,rfl,_,rfl,_,_,rfl,rfl,a,10,rfl,hs,by decide,λod H1 f1 o0 o1=>?_⟩;obtain⟨o,rfl⟩:∃o:Nat,od=o:=⟨od.toNat,by lia⟩;have ho:o<10:=by lia
 refine⟨_,rfl,a,8,rfl,f1.st,by decide,λn H2 f2 n0 n1=>?_⟩;refine⟨_,rfl,by lia,by lia,gO (n:=n.toNat) (λi σ H'=>Fx a H H'/\∃(x:Str) (l5:Option V),σ=[some (.ref a),some (.int 17),some (.str abc),some (.int (o:Nat)),some (.str x),l5,none,none]/\x.length<=i/\Lets x) ⟨f1.trans f2,_,_,rfl,by decide +kernel,λd hd=>by simp[show (("":Str).cps)=#[] from rfl] at hd⟩ ?_ ?_⟩
 ·rintro i σ H' hi ⟨fx,x,l5,rfl,hl,hx⟩;refine⟨_,rfl,_,rfl,_,rfl,a,26,rfl,fx.st,by decide,λd H3 f3 d0 d1=>?_⟩;obtain⟨ch,hch⟩:=aN2 (z:=abc) d0 (by rw[al];exact d1);refine⟨_,_,_,rfl,rfl,d0,(by lia),(by rw[al];exact d1),hch,_,_,rfl,rfl,?_,fx.trans f3,_,_,rfl,?_,hx.add (aIu.one hch)⟩
  ·show x.length+1<=sizeLine;exact small (by lia)
  ·rw[aFy];show x.length+1<=i+1;lia
 rintro σ H3 ⟨f3,b,l5,rfl,hl,hb⟩;have hb7:b.length<=7:=by lia
 refine⟨_,rfl,_,rfl,_,rfl,small (by lia),_,_,rfl,rfl,a,_,rfl,f3.st,(by show (0:Int)<(b.length:Int)+1/\(b.length:Int)+1<2 ^ 64;lia),λai H4 f4 a0 a1=>?_⟩;obtain⟨at',rfl⟩:∃at':Nat,ai=at':=⟨ai.toNat,by lia⟩;have ha:at'<=b.length:=by have:(at':Int)<(b.length:Int)+1:=a1;lia
 have fx4:=f3.trans f4;refine⟨(by show 0<=sizeLine;decide),λp H5 fp s5 g5=>?_⟩;have fp0:H p=none:=fx4.free fp;have npa:p≠a:=hs.ne fp0;refine⟨_,rfl,_,rfl,by decide,by decide,gO (n:=17) (λi σ H'=>Fx a H H'/\H' p=some (.lst ((stm b at' o i).map V.str))/\∃l5,σ=[some (.ref a),some (.int 17),some (.str abc),some (.int (o:Nat)),some (.str b),l5,some (.int (at':Nat)),some (.ref p)]) ⟨fx4.sm s5,g5,_,rfl⟩ ?_ ?_⟩
 ·rintro i σ H' hi ⟨fx,gp,l5,rfl⟩;have s1:=Txt.slice_le b none (some ((at':Nat):Int));have s2:=Txt.slice_le b (some ((at':Nat):Int)) none;have ej:((o:Int)+(0+(i:Int))).toNat=o+i:=by lia
  have hch:abc.cps[((o:Int)+(0+(i:Int))).toNat]?=some (97+(o+i)):=by rw[ej];exact aTv (by lia)
  refine⟨_,rfl,.inl ⟨rfl,_,SqL.of gp⟩,_,rfl,_,rfl,_,rfl,_,rfl,small (by lia),_,rfl,_,rfl,_,rfl,_,_,rfl,rfl,_,_,_,rfl,rfl,(by show 0<=(o:Int)+(0+(i:Int));lia),(by show (o:Int)+(0+(i:Int))<2 ^ 63;lia),(by rw[al];show (o:Int)+(0+(i:Int))<26;lia),hch,_,_,rfl,rfl,?_,_,rfl,_,rfl,_,rfl,_,rfl,small (by lia),_,_,rfl,rfl,?_,?_⟩
  ·show (Txt.slice b none (some ((at':Nat):Int))).length+1<=sizeLine;exact small (by lia)
  ·rw[aFy];show (Txt.slice b none (some ((at':Nat):Int))).length+1+_<=sizeLine;exact small (by lia)
  refine⟨p,_,_,rfl,rfl,gp,?_,fx.upd fp0 npa,?_,_,rfl⟩
  ·rw[j9];exact jH (by simp[stm];lia)
  ·rw[aJ];unfold stm;rw[List.range_succ,bAO,bAO];rfl
 rintro σ H6 ⟨f6,g6,l5',rfl⟩;dsimp only[aBx,aPh,tB,tCB,dR];refine aPk (K:=K) (λus=>us=words) (λi _ y=>∃w',words[i]?=some w'/\y=.bl (inV w' ((stm b at' o 17).map V.str))) (λ_ h=>h) (λ_ h=>h) [none,some (.ref p)] ?_ rfl (λR r=>⟨rfl,λW H7 _ s7 g7=>r W H7 _ s7 g7 rfl⟩) (λus e=>by subst e;exact small (by decide)) (λus e i x ex H' R l sm r=>?_) λus e D H7 ys s7 g7 hly hR=>?_
 ·exact uM 7 (by decide +kernel) rfl rfl (by trivial)
 ·subst e;have fl:lM x=true:=by have:=zQ;rw[bB3] at this;exact this x (p7 ex)
  exact⟨_,rfl,_,rfl,p,_,rfl,.inl (SqL.of (sm _ _ g6)),fl,aGh,r _ _ (Same.refl _) ⟨x,ex,rfl⟩⟩
 subst e;have ey:ys=(words.map λw'=>inV w' ((stm b at' o 17).map V.str)).map V.bl:=by
  rw[bB0];refine bB7 λi=>?_;by_cases hi:i<ys.length
  ·obtain⟨w',h1,h2⟩:=hR i ys[i] (d9 hi);rw[d9 hi,v4,h1,h2];rfl
  ·rw[bAK (by lia),bAK (by rw[j9];lia)]
 rw[ey] at g7;refine⟨D,_,rfl,SqL.of g7,_,rfl,?_⟩;have f7:=f6.sm s7;refine aK8 (λc=>?_) (λc=>?_)
 ·refine⟨_,rfl,_,rfl,_,rfl,_,rfl,_,rfl,_,_,rfl,rfl,_,rfl,abc,rfl,small (by rw[al];decide),?_⟩;refine⟨_,rfl,?_,λp2 H8 fp2 s8 g8=>?_⟩
  ·have:=Txt.slice_le abc (some (o:Int)) (some ((o:Int)+17));rw[al] at this;exact bAP this (by decide)
  have g8':H8 p2=some (.lst ((sgl o).map V.str)):=by rw[g8];exact congrArg (λz=>some (HO.lst z)) (aU2 ho)
  have f8:=f7.sm s8;have fp20:H p2=none:=f7.free fp2;refine⟨_,rfl,a,2,rfl,f8.st,by decide,λd H9 f9 d0 d1=>?_⟩;have g9:=f9.same _ _ (hs.ne fp20) g8';refine⟨rfl,_,rfl,aK8 (λ_=>?_) (λ_=>?_)⟩
  ·refine⟨_,rfl,.inl ⟨rfl,_,SqL.of g9⟩,p2,_,rfl,rfl,g9,?_⟩;refine⟨_,rfl,q p2 _ (sgl o).reverse ((f8.trans f9).upd fp20 (hs.ne fp20)) fp20 ?_ (aTo ho).rev⟩;rw[aJ,List.map_reverse]
  ·exact⟨_,rfl,q p2 _ (sgl o) (f8.trans f9) fp20 g9 (aTo ho)⟩
 ·have hw:∀w'∈words,inV w' ((stm b at' o 17).map V.str)=false:=λw' hw'=>by
   cases e:inV w' ((stm b at' o 17).map V.str) with
   |false=>rfl
   |true=>exfalso;apply c;rw[bDJ];exact⟨true,List.mem_map.mpr ⟨w',hw',e⟩,rfl⟩
  have hn:=aYz hb hb7 ha ho hw;refine⟨_,rfl,a,2,rfl,f7.st,by decide,λd H9 f9 d0 d1=>?_⟩;have g9:=f9.same _ _ npa (s7 _ _ g6);refine⟨rfl,_,rfl,aK8 (λ_=>?_) (λ_=>?_)⟩
  ·refine⟨_,rfl,.inl ⟨rfl,_,SqL.of g9⟩,p,_,rfl,rfl,g9,?_⟩;refine⟨_,rfl,q p _ (stm b at' o 17).reverse ((f7.trans f9).upd fp0 npa) fp0 ?_ hn.rev⟩;rw[aJ,List.map_reverse]
  ·exact⟨_,rfl,q p _ (stm b at' o 17) (f7.trans f9) fp0 g9 hn⟩
def aIi (K:bET):Sp:=λvs H Q _=>∃(a N:Addr) (ns:List Str),vs=[.ref a,.ref N]/\gQ H a/\H N=some (.lst (ns.map V.str))/\N≠a/\sU ns/\∀v H' hd,Fx a H H'->lA K H' v hd->aJw hd->hd.length<=7->Q v H'
theorem aY0 {α:Type}{l:List α}(h:l.Nodup){i j:Nat}{x:α}(h1:l[i]?=some x)(h2:l[j]?=some x):i=j:=by
 have hp:=List.pairwise_iff_getElem.mp h;obtain⟨hi,e1⟩:=List.getElem?_eq_some_iff.mp h1;obtain⟨hj,e2⟩:=List.getElem?_eq_some_iff.mp h2;rcases Nat.lt_trichotomy i j with q|q|q
 ·exact absurd (e1.trans e2.symm) (hp i j hi hj q)
 ·exact q
 ·exact absurd (e2.trans e1.symm) (hp j i hj hi q)
theorem aZ8 {α:Type}{l:List α}(h:∀(i j:Nat) (x:α),l[i]?=some x->l[j]?=some x->i=j):l.Nodup:=by refine List.pairwise_iff_getElem.mpr λi j hi hj hij e=>?_;have:=h i j l[i] (d9 hi) (by rw[d9 hj,e]);lia
theorem aQu {ns:List Str}(hn:sU ns){st:Nat}{hd:Hdr}(hl:hd.length<=8)(h:∀(j:Nat) (c:Str × Str),hd[j]?=some c->ns[3+(st+j) % 8]?=some c.1):(hd.map (·.1)).Nodup:=by
 refine aZ8 λi j x h1 h2=>?_;have g:∀k,(hd.map (·.1))[k]?=some x->k<hd.length/\ns[3+(st+k) % 8]?=some x:=λk hk=>by
  rw[v4] at hk;cases e:hd[k]? with
  |none=>rw[e] at hk;cases hk
  |some c=>rw[e] at hk;cases hk;exact⟨(List.getElem?_eq_some_iff.mp e).1,h k c e⟩
 obtain⟨l1,g1⟩:=g i h1;obtain⟨l2,g2⟩:=g j h2;have:=aY0 hn.2.2 g1 g2;lia
theorem aFr (T:Txt w K mg)(aR:Ok P w K mg base 1 "_law_next" ["_law_state","_law_many"] mD):Ok P w K mg base 2 "_law_head" ["_law_state","_law_names_here"] (aIi K):=by
 refine Ok.ofV T.aJo iR (λvs H Q E h=>?_) (λf cdv A outer s H vs Q E hr h=>?_)
 ·obtain⟨a,N,ns,rfl,_⟩:=h;rfl
 obtain⟨a,N,ns,rfl,hs,hN,nN,hn,q⟩:=h;refine⟨_,(aD (aX (i:=2) iR.nd rfl (by trivial) (aQ (aR.mono (by decide)) hr (by rfl) (aC (vv 0) (aC aH aB)))) (aD (aX (i:=3) iR.nd rfl (by trivial) (dJ aB)) (aD (eN PassesOwn.never rfl (fC (by rfl) T.jN (aC (bM dG aH (bM uH (aQ (aR.mono (by decide)) hr (by rfl) (aC (vv 0) (aC aH aB))) (bM dG aH (cV aD0 (by rfl) T.aTe aLz (aC (dC eU (aQ (aR.mono (by decide)) hr (by rfl) (aC (vv 0) (aC aH aB))) aH (bF _)) aB))))) aB)) (aU (i:=4) iR.nd rfl (by trivial)) (aD (aX (i:=5) iR.nd rfl (by trivial) (aW fH (dJ (aC bC (aC bC (aC bC aB)))) (aQ (aR.mono (by decide)) hr (by rfl) (aC (vv 0) (aC aH aB))) (λ_ _=>rfl))) (aG (fW (nP PySem.F.plainAttrs_list PySem.F.slot_list_append PySem.F.type_list_append jD (vv 3) (aC (dW (aC (aW fH (vv 1) (bM dG aH (bM oR (bM dG (vv 2) (vv 4)) aH)) (λ_ _=>rfl)) (aC (vv 5) aB))) aB)))))) (aG (aN (cV qJ (by rfl) T.jO fP (aC (vv 3) aB))))))),?_⟩;have l17:=hn.1;refine⟨_,rfl,a,8,rfl,hs,by decide,λst0 H1 f1 st00 st01=>?_⟩;obtain⟨st,rfl⟩:∃st:Nat,st0=st:=⟨st0.toNat,by lia⟩;refine⟨(by show 0<=sizeLine;decide),λp H2 fp s2 g2=>?_⟩;have f2:=f1.sm s2;have fp0:H p=none:=f1.free fp;have npa:p≠a:=hs.ne fp0;refine⟨_,rfl,a,4,rfl,f2.st,by decide,λm H3 f3 m0 m1=>?_⟩;refine⟨_,rfl,a,8,rfl,f3.st,by decide,λe H4 f4 e0 e1=>?_⟩;have f4':=f2.trans (f3.trans f4);have g4:=f4.same _ _ npa (f3.same _ _ npa g2);refine⟨rfl,.inr ⟨_,rfl,?_⟩⟩;have bnd:∃z:Nat,1+m * (1+(if decide (V.int e=V.int 0) then 1 else 0))=(z:Int)/\1<=z/\z<=7:=by
  cases decide (V.int e=V.int 0)
  ·exact⟨(1+m).toNat,by simp;lia,by lia,by lia⟩
  ·exact⟨(1+m * 2).toNat,by simp;lia,by lia,by lia⟩
 obtain⟨z,ez,z1,z7⟩:=bnd;refine⟨_,_,rfl,rfl,_,_,rfl,rfl,.inl ⟨by lia,by lia⟩,_,_,rfl,rfl,?_⟩;refine⟨(z:Int),?_,by lia,by lia,?_⟩
 ·show [V.int (1+m * (1+(if decide (V.int e=V.int 0) then 1 else 0)))]=_;rw[ez]
 rw[bAT];refine gO (n:=z) (λi σ H'=>Fx a H H'/\∃(us:List V) (hd:Hdr) (l4 l5:Option V),H' p=some (.lst us)/\hd.length=i/\cH (IsC K H') us hd/\(∀(j:Nat) (c:Str × Str),hd[j]?=some c->ns[3+(st+j) % 8]?=some c.1/\aPs c.2)/\σ=[some (.ref a),some (.ref N),some (.int (st:Nat)),some (.ref p),l4,l5]) ⟨f4',[],[],_,_,g4,rfl,.nil,λj c h=>by simp at h,rfl⟩ ?_ ?_
 ·rintro i σ H' hi ⟨fx,us,hd,l4,l5,gp,hl,hu,hc,rfl⟩;have lu:=hu.len;refine⟨(by show 3<=sizeLine;decide),λp1 H5 fp1 s5 g5=>?_⟩;refine⟨_,rfl,a,3,rfl,fx.st.same s5,by decide,λd H6 f6 d0 d1=>?_⟩;obtain⟨kv,hkv,mkv⟩:=at_of (xs:=[.str "number",.str "number",.str "word"]) d0 (by show d<3;lia);obtain⟨kd,rfl,hkd⟩:∃kd:Str,kv=.str kd/\aPs kd:=by
   simp only[bAD,v9,or_false] at mkv;rcases mkv with rfl|rfl|rfl
   ·exact⟨_,rfl,.inl rfl⟩
   ·exact⟨_,rfl,.inl rfl⟩
   ·exact⟨_,rfl,.inr rfl⟩
  have f6':=(fx.sm s5).trans f6;refine⟨p1,_,_,_,rfl,rfl,SqL.of (f6.same _ _ (fx.st.ne fp1) g5),hkv,?_⟩;have gp6:=f6.same _ _ npa (s5 _ _ gp);have hN6:=f6'.same _ _ nN hN;have hu6:cH (IsC K H6) us hd:=hu.imp λ_ _ ⟨p',ep,hp⟩=>⟨p',ep,f6.aY (fx.st.same s5) (s5.aY hp)⟩;have hix:3+(st+i) % 8<ns.length:=by lia
  refine⟨_,rfl,.inl ⟨rfl,_,SqL.of gp6⟩,?_⟩;refine⟨_,rfl,_,rfl,_,rfl,_,_,rfl,rfl,_,_,rfl,rfl,(by show (0:Int)<8;decide),_,_,rfl,rfl,N,_,_,.str ns[3+(st+i) % 8],rfl,rfl,SqL.of hN6,?_,_,rfl,(by show 2<=sizeLine;decide),λt H7 ft s7 g7=>?_⟩
  ·have e8:(3:Int)+((st:Int)+(0+(i:Int))) % 8=((3+(st+i) % 8:Nat):Int):=by lia
   show atI (ns.map V.str) ((3:Int)+((st:Int)+(0+(i:Int))) % 8)=_;rw[e8];exact eQ (by rw[v4,d9 hix];rfl)
  refine⟨p,_,_,rfl,rfl,s7 _ _ gp6,jH (by lia),?_⟩;have ntp:t≠p:=(aL gp6 ft).symm;refine⟨(f6'.sm s7).upd fp0 npa,us++[.ref t],hd++[(ns[3+(st+i) % 8],kd)],_,_,aJ,by rw[bAC,hl];rfl,?_,λj c h=>?_,rfl⟩
  ·refine (hu6.imp λ_ _ ⟨p',ep,hp⟩=>⟨p',ep,(s7.aY hp).nM (s7 _ _ gp6)⟩).app (.cons ⟨t,rfl,SqT.of (by rw[aK ntp];exact g7)⟩ .nil)
  ·by_cases hj:j<hd.length
   ·rw[bCE hj] at h;exact hc j c h
   ·rw[bB6 (by lia)] at h;have hj0:j - hd.length=0:=by
     by_cases z0:j - hd.length=0
     ·exact z0
     ·rw[bAK (by simp;lia)] at h;cases h
    rw[hj0] at h;cases h;have:j=i:=by lia
    subst this;exact⟨d9 hix,hkd⟩
 ·rintro σ H' ⟨fx,us,hd,l4,l5,gp,hl,hu,hc,rfl⟩;refine⟨_,rfl,p,us,rfl,SqL.of gp,λt H5 _ s5 g5=>q _ _ hd (fx.sm s5) ⟨t,us,rfl,SqT.of g5,hu.imp λ_ _ h=>h.same s5⟩ ⟨⟨aQu hn (by lia) λj c h=>(hc j c h).1,by lia,by lia⟩,λc hcm=>?_⟩ (by lia)⟩;obtain⟨j,hj,e⟩:=bCB hcm;have h2:=hc j c (by rw[d9 hj,e]);exact⟨hn.2.1 _ (p7 h2.1),h2.2⟩
def TK (K:bET)(H H':Hp):Prop:=∀p xs,SqT K H p xs->SqT K H' p xs
theorem _root_.L2.Fx.tk {K:bET}{a:Addr}{H H':Hp}(f:Fx a H H')(h:gQ H a):TK K H H':=λ_ _ e=>f.aY h e
theorem TK.of {K:bET}{H H':Hp}(s:Same H H'):TK K H H':=λ_ _ e=>s.aY e
theorem IsC.tk {K:bET}{H H':Hp}{v:V}{c:Str × Str}(e:TK K H H')(h:IsC K H v c):IsC K H' v c:=by obtain⟨p,rfl,hp⟩:=h;exact⟨p,rfl,e _ _ hp⟩
theorem aNa {α:Type}{K:bET}{H H':Hp}{R S:V->α->Prop}{v:V}{xs:List α}(e:TK K H H')(k:∀a b,R a b->S a b)(h:uD K H R v xs):uD K H' S v xs:=by obtain⟨a,vs,rfl,ha,hr⟩:=h;exact⟨a,vs,rfl,e _ _ ha,hr.imp k⟩
theorem lA.tk {K:bET}{H H':Hp}{v:V}{hd:Hdr}(e:TK K H H')(h:lA K H v hd):lA K H' v hd:=aNa e (λ_ _ q=>q.tk e) h
theorem aR3 {hd:Hdr}(nd:(hd.map (·.1)).Nodup){c:Str × Str}(h:c∈hd):look hd c.1=some c.2:=by
 induction hd with
 |nil=>cases h
 |cons x r ih=>
  rw[bAM,bDQ] at nd;unfold look;rw[bCC];rcases List.mem_cons.mp h with rfl|h
  ·rw[v6 rfl];rfl
  ·have ne:¬ x.1=c.1:=λz=>nd.1 (by rw[z];exact List.mem_map.mpr ⟨c,h,rfl⟩);rw[w6 ne];exact ih nd.2 h
theorem zP {α β:Type}{R:α->β->Prop}:∀{as:List α} {bs:List β},as.length=bs.length->(∀(i:Nat) (a:α) (b:β),as[i]?=some a->bs[i]?=some b->R a b)->cH R as bs
 |[],[],_,_=>.nil
 |[],_::_,h,_=>by cases h
 |_::_,[],h,_=>by cases h
 |a::as,b::bs,h,k=>.cons (k 0 a b rfl rfl) (zP (by simpa using h) λi x y e1 e2=>k (i+1) x y (by simpa using e1) (by simpa using e2))
theorem qW {α:Type}:∀(k:Nat) (xs:List α),sel (λ_=>true) k xs=xs
 |_,[]=>rfl
 |k,x::r=>by show (if true=true then x::sel (λ_=>true) (k+1) r else _)=_;rw[if_pos rfl,qW (k+1) r]
theorem pI {R:Nat->V->Prop}{n:Nat}{ys:List V}(h:rZ R (List.range n) ys):ys.length=n/\∀(i:Nat) (y:V),ys[i]?=some y->R i y:=by
 have aux:∀{is:List Nat} {ys:List V},rZ R is ys->∀(i:Nat) (y:V),ys[i]?=some y->∃j,is[i]?=some j/\R j y:=by
  intro is ys h
  induction h with
  |nil=>intro i y e;simp at e
  |cons r _ ih=>
   intro i y e;cases i with
   |zero=>cases e;exact⟨_,rfl,r⟩
   |succ i=>obtain⟨j,h1,h2⟩:=ih i y (by simpa using e);exact⟨j,by simpa using h1,h2⟩
 have l:=h.len;rw[bAN] at l;refine⟨l.symm,λi y e=>?_⟩;obtain⟨j,h1,h2⟩:=aux h i y e;have hi:i<n:=by have:=(List.getElem?_eq_some_iff.mp e).1;lia
 rw[bCA hi] at h1;cases h1;exact h2
theorem aWi {ks:List Bool}{r:List V}(h:KdR ks r):∀x∈r,(∃i,x=.int i)\/∃z,x=.str z:=by
 unfold KdR at h
 induction h with
 |nil=>intro x hx;cases hx
 |@cons b y _ _ h _ ih=>
  intro x hx;rcases List.mem_cons.mp hx with rfl|hx
  ·cases b with
   |true=>exact .inl h
   |false=>exact .inr h
  ·exact ih x hx
def aFf (K:bET):Sp:=λvs H Q _=>∃(a:Addr) (vh:V) (hd:Hdr),vs=[.ref a,vh]/\gQ H a/\lA K H vh hd/\aJw hd/\∀t H' r,Fx a H H'->H' t=some (.tup r)->qY hd r->Q (.ref t) H'
theorem aHl (T:Txt w K mg)(oU:Ok P w K mg base 3 "_law_value" ["_law_state","_law_kind"] aF1):Ok P w K mg base 4 "_law_row" ["_law_state","_law_head_here"] (aFf K):=by
 refine Ok.ofV T.aMb aJn (λvs H Q E h=>?_) (λf cdv A outer s H vs Q E hr h=>?_)
 ·obtain⟨a,vh,hd,rfl,_⟩:=h;rfl
 obtain⟨a,vh,hd,rfl,hs,⟨b,us,rfl,hb,hu⟩,⟨hgd,hok⟩,q⟩:=h;refine⟨_,(aG (aN (cV qJ (by rfl) T.jO fP (aC (dB (N:=["_law_name","_law_kind","_law_state"]) (by trivial) (jC (aF oK) rfl (by decide +kernel)) rfl (qG (vv 1)) (λcl s' H' fp=>⟨(rK (K:=K) (n:=2) rfl (bL (aU (i:=0) (show (["_law_name","_law_kind","_law_state"]:List Str).Nodup from by decide +kernel) rfl (Or.inl rfl)) (bL (aU (i:=1) (show (["_law_name","_law_kind","_law_state"]:List Str).Nodup from by decide +kernel) rfl (Or.inl rfl)) fY))),gH,(aQ (oU.mono (by decide)) hr (by rfl) (aC (vv 2) (aC (vv 1) aB)))⟩)) aB)))),?_⟩;have lu:=hu.len;have l8:=hgd.2.2;dsimp only[uX,tCB,dR];refine uZ [none,none,some (.ref a)] ?_ ⟨_,rfl,b,rfl,⟨_,hb⟩,aHq (Fx a) (aQ3 hs) us (λ_=>true) (λi _ y=>∃c',hd[i]?=some c'/\cG c'.2 y) (λ_ _ h=>h) (λ_ _ _ h=>h) (λi σ=>∃c',hd[i]?=some c'/\At2 [none,none,some (.ref a)] (.str c'.1) (.str c'.2) σ) (Ps2 [none,none,some (.ref a)]) ⟨none,none,rfl⟩ (small (by lia)) _ (aEw λH' f'=>f'.aY hs hb) (vJ λH' f'=>f'.aY hs hb) (λi x σ' H' Q' ex hps f' qq=>?_) (λi x σ2 ex hA H' R f' r=>r H' (Fx.refl f'.st)) (λi x σ2 ex hA hp H' R f' r=>?_) λD H6 ys f6 fD g6 hys=>?_⟩
 ·refine⟨rfl,λi y v h1 h2=>?_⟩
  match i,h1,h2 with
  |0,_,h2=>cases h2
  |1,_,h2=>cases h2
  |2,h1,h2=>cases h1;cases h2;exact⟨by decide +kernel,0,rfl,rfl,by trivial⟩
  |i+3,h1,_=>cases h1
 ·obtain⟨c',hc',p',rfl,hp'⟩:=cB hu ex;exact hg2 (f'.aY hs hp') hps fun σ2 h1 h2=>qq σ2 h1 ⟨c',hc',h2⟩
 ·obtain⟨c',hc',rfl⟩:=hA;exact⟨_,rfl,_,rfl,a,c'.2,rfl,f'.st,(hok c' (p7 hc')).2,λv H2 f2 hv=>r v H2 f2 ⟨c',hc',hv⟩⟩
 ·rw[qW] at hys;obtain⟨l1,l2⟩:=pI hys;refine⟨D,_,rfl,SqL.of g6,λt H3 _ s3 g3=>q t H3 ys (f6.sm s3) g3 (zP (by lia) λi k y ek ey=>?_)⟩;obtain⟨c',hc',hv⟩:=l2 i y ey;rw[hc'] at ek;cases ek;exact hv
theorem aRa {X:Cx}{o e:Expr}{apos cpos:Pos}{td ty:TE}(hu:X.A.units+1<cLine)(ho:VE X o td)(he:VE X e ty)(m:M1 X o "get" apos e cpos:=by exact⟨rfl,rfl,rfl,rfl⟩):VE X (.Call (.Attribute o "get" apos) [e] [] cpos) (aQl td ty):=⟨aQz hu ho.1 he.1 m⟩
def aM9:Sp:=λ_ _ _ _=>False
structure cJ (K:bET)(H:Hp)(C x:Addr)(m:Int)(d dm:Addr)(es:List En):Prop where
 at_:∃dx,H x=some (.ins C dx [("placed",.ref d),("house_count",.int m),("moves",.ref dm)])
 ens:fJ K H d es
 ok:∀e∈es,nF m e.t
 mv:H dm=some (.dK [])
theorem cJ.same {H H':Hp}{C x d dm:Addr}{m:Int}{es:List En}(s:Same H H')(h:cJ K H C x m d dm es):cJ K H' C x m d dm es:=
 ⟨let ⟨dx,h1⟩:=h.at_;⟨dx,s _ _ h1⟩,h.ens.same s,h.ok,s _ _ h.mv⟩
def aJg (K:bET)(C Pt:Addr):Sp:=λvs H Q _=>∃(H0:Hp) (x dx d:Addr) (m:Int) (es:List En),vs=[.ref x,.int m,.ref d]/\H x=some (.ins C dx [])/\H0 x=none/\Same H0 H/\1<=m/\m<=6/\fJ K H0 d es/\(∀e∈es,nF m e.t)/\H0 Pt=some (.tab qC) /\
 ∀d' dm H' es',H0 d'=none->H0 dm=none->Same H0 H'->cJ K H' C x m d' dm es'->cH (λe e'=>∃v L,e'=aKe e v L/\H0 L=none) es es'->Q .non H'
theorem aP4 (T:Txt w K mg){C Pt:Addr}(c:Cls K C)(D:kO K C "__init__" "Store.__init__" eZ ["self","houses","tables"])(n1:bR K C "placed")(n2:bR K C "house_count")(n3:bR K C "moves")(jT:Ok P w K mg base 10 "placed_tables" ["houses","tables"] (wN K Pt)):OkM P w K mg base C 11 "__init__" ["self","houses","tables"] (aJg K C Pt):=by
 refine OkM.ofV c D uR (λvs H Q E h=>?_) (λf cdv A outer s H vs Q E hr h=>?_)
 ·obtain⟨_,x,dx,d,m,es,rfl,_⟩:=h;rfl
 obtain⟨H0,x,dx,d,m,es,rfl,hx,hN,s0,m1,m6,hE,ok,hP,q⟩:=h;refine⟨_,(aD (aBf (K:=K) (vv 0) (aQ (jT.mono (by decide)) hr (by rfl) (aC (vv 1) (aC (vv 2) aB)))) (aD (aBf (K:=K) (vv 0) (vv 1)) (aG (aBf (K:=K) (vv 0) aBv)))),?_⟩;refine⟨_,rfl,_,rfl,d,m,es,rfl,m1,m6,hE.same s0,ok,s0 _ _ hP,λd' H1 es' hd' s1 hE' a1=>?_⟩;have hx1:=s1 _ _ hx;refine⟨_,rfl,x,C,dx,[],rfl,hx1,c,n1,by decide,?_⟩;refine⟨_,rfl,_,rfl,x,C,dx,_,rfl,aJ,c,n2,by show 1<1000;decide,?_⟩;have nx:cY H1 x:=cY.ins hx1;have dne:d'≠x:=λz=>by rw[z,hx] at hd';cases hd'
 have b1:But x H1 (L2.upd (L2.upd H1 x (.ins C dx (iZ "placed" (.ref d') []))) x (.ins C dx (iZ "house_count" (.int m) (iZ "placed" (.ref d') [])))):=λb o hb h=>by rw[aK hb,aK hb];exact h
 have g1:L2.upd (L2.upd H1 x (.ins C dx (iZ "placed" (.ref d') []))) x (.ins C dx (iZ "house_count" (.int m) (iZ "placed" (.ref d') []))) x=some (.ins C dx [("placed",.ref d'),("house_count",.int m)]):=aJ;have fr:∀{b},L2.upd (L2.upd H1 x (.ins C dx (iZ "placed" (.ref d') []))) x (.ins C dx (iZ "house_count" (.int m) (iZ "placed" (.ref d') []))) b=none->H1 b=none:=λ{b} h=>by
  by_cases z:b=x
  ·rw[z,aJ] at h;cases h
  ·rw[aK z,aK z] at h;exact h
 generalize L2.upd (L2.upd H1 x (.ins C dx (iZ "placed" (.ref d') []))) x (.ins C dx (iZ "house_count" (.int m) (iZ "placed" (.ref d') [])))=H2 at b1 g1 fr ⊢;refine λdm H3 hdm s3 g3=>?_;refine⟨_,rfl,x,C,dx,_,rfl,s3 _ _ g1,c,n3,by show 2<1000;decide,?_⟩;have b3:But x H1 (L2.upd H3 x (.ins C dx [("placed",.ref d'),("house_count",.int m),("moves",.ref dm)])):=λb o hb h=>by rw[aK hb];exact s3 _ _ (b1 _ _ hb h)
 have ndm:dm≠x:=λz=>by rw[z,g1] at hdm;cases hdm
 have s2:Same H0 (L2.upd H3 x (.ins C dx [("placed",.ref d'),("house_count",.int m),("moves",.ref dm)])):=λb o h=>b3 _ _ (λz=>by rw[z,hN] at h;cases h) (s1 _ _ (s0 _ _ h));refine q d' dm _ es' (none_of s0 hd') (none_of (s0.trans s1) (fr hdm)) s2 ⟨⟨dx,aJ⟩,⟨b3 _ _ dne hE'.at_,hE'.nd,hE'.few,hE'.nm,λe he=>b3.tb nx (hE'.tb e he)⟩,λe he=>?_,by rw[aK ndm];exact g3⟩ (a1.imp λe e' ⟨v,L,e1,e2⟩=>⟨v,L,e1,none_of s0 e2⟩);obtain⟨e0,h0,v,L,rfl,_⟩:=xG a1 he;exact (ok e0 h0).sorted
def aMw (K:bET)(C Ct Pt:Addr):Sp:=λvs H Q _=>∃(x d dm:Addr) (m:Int) (es:List En),vs=[.ref x]/\cJ K H C x m d dm es/\1<=m/\m<=6/\H Pt=some (.tab qC)/\∀y d' H' es',H y=none->H d'=none->Same H H'->uA K H' Ct y m d' es'->cH (λe e'=>∃v L,e'=aKe e v L/\H L=none) es es'->Q (.ref y) H'
theorem aSe (T:Txt w K mg){C Ct Pt:Addr}(c:Cls K C)(D:kO K C "town" "Store.town" kJ ["self"])(n1:bR K C "placed")(n2:bR K C "house_count")(GC_Town:OkC P w K mg base Ct 11 "Town" ["self","houses","tables"] (aNr K Ct Pt)):OkM P w K mg base C 13 "town" ["self"] (aMw K C Ct Pt):=by
 refine OkM.ofV c D aCe (λvs H Q E h=>?_) (λf cdv A outer s H vs Q E hr h=>?_)
 ·obtain⟨x,d,dm,m,es,rfl,_⟩:=h;rfl
 obtain⟨x,d,dm,m,es,rfl,hS,m1,m6,hP,q⟩:=h;refine⟨_,(aG (aN (aMi (GC_Town.mono (by decide)) hr (by rfl) (aC (jJ (K:=K) (vv 0)) (aC (jJ (K:=K) (vv 0)) aB))))),?_⟩;obtain⟨dx,hx⟩:=hS.at_;refine⟨_,rfl,x,C,dx,_,_,rfl,hx,c,n2,rfl,_,rfl,x,C,dx,_,_,rfl,hx,c,n1,rfl,λy dy hy hdy hne=>?_⟩;refine⟨H,y,dy,d,m,es,rfl,aJ,hy,iQ hy (aV hdy _),m1,m6,hS.ens,hS.ok,hP,λd' H1 es' hd' s1 hT a1=>⟨rfl,?_⟩⟩;exact q y d' H1 es' hy hd' s1 hT a1
def aDj (K:bET)(C:Addr):Sp:=λvs H Q _=>∃(x d dm:Addr) (m:Int) (es:List En) (e:En),vs=[.ref x,.str e.n]/\cJ K H C x m d dm es/\e∈es/\∀H',Same H H'->Q .non H'
theorem aLb (T:Txt w K mg){C:Addr}(c:Cls K C)(D:kO K C "moving" "Store.moving" iV ["self","name"])(n1:bR K C "placed")(n3:bR K C "moves")(cW:Ok P w K mg base 3 "table_in" ["placed","name"] (uB K)):OkM P w K mg base C 4 "moving" ["self","name"] (aDj K C):=by
 refine OkM.ofV c D yP (λvs H Q E h=>?_) (λf cdv A outer s H vs Q E hr h=>?_)
 ·obtain⟨x,d,dm,m,es,e,rfl,_⟩:=h;rfl
 obtain⟨x,d,dm,m,es,e,rfl,hS,he,q⟩:=h;have hu:=wD hr;refine⟨_,(aD (fW (aQ (cW.mono (by decide)) hr (by rfl) (aC (jJ (K:=K) (vv 0)) (aC (vv 1) aB)))) (aG (aN (aRa hu (jJ (K:=K) (vv 0)) (vv 1))))),?_⟩;obtain⟨dx,hx⟩:=hS.at_;refine⟨_,rfl,x,C,dx,_,_,rfl,hx,c,n1,rfl,_,rfl,d,es,e,rfl,hS.ens,he,λH1 s1=>?_⟩;exact⟨_,rfl,x,C,dx,_,_,rfl,s1 _ _ hx,c,n3,rfl,dm,rfl,.inl ⟨_,.inl (s1 _ _ hS.mv)⟩,_,rfl,none,.inl ⟨_,Sum.inr e.n,.inl (s1 _ _ hS.mv),rfl,rfl⟩,q H1 s1⟩
def aA0 (K:bET)(C:Addr):Sp:=λvs H Q _=>∃(x d dm:Addr) (m house:Int) (es:List En) (e:En),vs=[.ref x,.str e.n,.int house]/\cJ K H C x m d dm es/\e∈es/\0<=house/\house<m/\∀L H',H L=none->Same H H'->bY K H' L (e.t.rows.filter λr=>bO e.t.hd m r house e.t.pl)->Q (.ref L) H'
theorem aI5 (T:Txt w K mg){C:Addr}(c:Cls K C)(D:kO K C "stands" "Store.stands" eV ["self","name","house"])(n1:bR K C "placed")(n2:bR K C "house_count")(cW:Ok P w K mg base 3 "table_in" ["placed","name"] (uB K))(wY:Ok P w K mg base 4 "rows_at" ["table","house","houses"] (wL K))(GM_Store_moving:OkM P w K mg base C 4 "moving" ["self","name"] (aDj K C))(aHo:Ok P w K mg base 1 "span_rows" ["table","number"] aM9)(aJ0:Ok P w K mg base 1 "is_above" ["row","mark"] aM9):OkM P w K mg base C 5 "stands" ["self","name","house"] (aA0 K C):=by
 refine OkM.ofV c D fX (λvs H Q E h=>?_) (λf cdv A outer s H vs Q E hr h=>?_)
 ·obtain⟨x,d,dm,m,house,es,e,rfl,_⟩:=h;rfl
 obtain⟨x,d,dm,m,house,es,e,rfl,hS,he,h0,hm,q⟩:=h;refine⟨_,(aD (aX (i:=3) fX.nd rfl (by trivial) (aQ (cW.mono (by decide)) hr (by rfl) (aC (jJ (K:=K) (vv 0)) (aC (vv 1) aB)))) (aD (aX (i:=4) fX.nd rfl (by trivial) (aQ (wY.mono (by decide)) hr (by rfl) (aC (vv 3) (aC (vv 2) (aC (jJ (K:=K) (vv 0)) aB))))) (aD (aX (i:=5) fX.nd rfl (by trivial) (oM (GM_Store_moving.mono (by decide)) hr (vv 0) (aC (vv 1) aB))) (aD (bZ (VW.pt (iM (bH aXg (vv 5) pA (bF _)) (gC (bH aDh (aW bK (vv 5) aH (λ_ _=>rfl)) (vv 2) (bF _))))) (aG (aN (vv 4))) aZ) (aG (aN (aO gF (by rfl) T.eX dN (aC (bM dG (vv 4) (dB (N:=["row","move"]) (by trivial) (jC (aF eV) rfl (by decide +kernel)) rfl (iG (aQ (aHo.mono (by decide)) hr (by rfl) (aC (vv 3) (aC (aW bK (vv 5) aH (λ_ _=>rfl)) aB)))) (λcl s' H' fp=>⟨(aU (i:=0) (show (["row","move"]:List Str).Nodup from by decide +kernel) rfl (Or.inl rfl)),(aBb (cI (cA (aQ (aJ0.mono (by decide)) hr (by rfl) (aC (vv 0) (aC (aW (cT (K:=K)) (vv 1) aH (λ_ _=>rfl)) aB)))))),(vv 0)⟩))) aB)))))))),?_⟩;obtain⟨dx,hx⟩:=hS.at_;refine⟨_,rfl,x,C,dx,_,_,rfl,hx,c,n1,rfl,_,rfl,d,es,e,rfl,hS.ens,he,λH1 s1=>?_⟩;refine⟨_,rfl,_,rfl,_,rfl,x,C,dx,_,_,rfl,s1 _ _ hx,c,n2,rfl,e.v,e.vh,e.vp,e.L,e.t,house,m,rfl,(hS.ens.tb e he).same s1,hS.ok e he,h0,hm,λL H2 hN s2 hR=>?_⟩;refine⟨_,rfl,x,dx,_,rfl,s2 _ _ (s1 _ _ hx),rfl,_,rfl,x,d,dm,m,es,e,rfl,hS.same (s1.trans s2),he,λH3 s3=>?_⟩;refine⟨_,rfl,rfl,_,rfl,dI ?_⟩;exact⟨_,rfl,q L H3 (none_of s1 hN) (s1.trans (s2.trans s3)) (hR.same s3)⟩
theorem lG.tk {H H':Hp}{v:V}{c:V × Int}(e:TK K H H')(h:lG K H v c):lG K H' v c:=by obtain⟨p,rfl,hp⟩:=h;exact⟨p,rfl,e _ _ hp⟩
theorem xW.tk {H H':Hp}{v:V}{pl:Plc}(e:TK K H H')(h:xW K H v pl):xW K H' v pl:=by
 cases pl with
 |copies=>obtain⟨a,rfl,ha⟩:=h;exact⟨a,rfl,e _ _ ha⟩
 |keys n=>obtain⟨a,rfl,ha⟩:=h;exact⟨a,rfl,e _ _ ha⟩
 |spans n h0 cs=>obtain⟨a,vc,rfl,ha,hc⟩:=h;exact⟨a,vc,rfl,e _ _ ha,aNa e (λ_ _ z=>z.tk e) hc⟩
structure KP (K:bET)(S:Addr->Prop)(H H':Hp):Prop where
 st:∀b o,S b->H b=some o->H' b=some o
 tk:TK K H H'
section
variable {S:Addr->Prop}{H H':Hp}
theorem KP.same (s:Same H H'):KP K S H H':=⟨λb o _ h=>s b o h,.of s⟩
theorem KP.trans {H2:Hp}(k:KP K S H H')(l:KP K S H' H2):KP K S H H2:=⟨λb o h e=>l.st b o h (k.st b o h e),λp xs e=>l.tk p xs (k.tk p xs e)⟩
theorem KP.nM {D:Addr}{ys zs:List V}(hD:H D=some (.lst ys))(n:¬ S D):KP K S H (L2.upd H D (.lst zs)):=⟨λb o h e=>by have hb:b≠D:=λz=>n (z ▸ h);rw[aK hb];exact e,λp xs e=>SqT.nM hD e⟩
theorem KP.aTr {D:Addr}{u:HO}(hD:cY H D)(n:¬ S D):KP K S H (L2.upd H D u):=⟨λb o h e=>by have hb:b≠D:=λz=>n (z ▸ h);rw[aK hb];exact e,λp xs e=>But.aY But.upd hD e⟩
theorem KP.fx {a:Addr}(f:Fx a H H')(h:gQ H a)(n:¬ S a):KP K S H H':=⟨λb o hb e=>f.same b o (λz=>n (z ▸ hb)) e,f.tk h⟩
theorem KP.mono {S':Addr->Prop}(k:KP K S H H')(h:∀b,S' b->S b):KP K S' H H':=⟨λb o s e=>k.st b o (h b s) e,k.tk⟩
theorem bY.kp {L:Addr}{rs:List (List V)}(k:KP K S H H')(s:S L)(h:bY K H L rs):bY K H' L rs:=by obtain⟨us,h1,h2⟩:=h;exact⟨us,k.st _ _ s h1,h2.imp λ_ _ ⟨p,e,hp⟩=>⟨p,e,k.tk _ _ hp⟩⟩
end
theorem mX.kp {S:Addr->Prop}{H H':Hp}{v vh vp:V}{L:Addr}{t:Tb}(k:KP K S H H')(s:S L)(h:mX K H v vh vp L t):mX K H' v vh vp L t:=by obtain⟨a,ev,ha,c1,c2,c3⟩:=h;exact⟨a,ev,k.tk _ _ ha,c1.tk k.tk,c2.tk k.tk,c3.kp k s⟩
theorem fJ.kp {S:Addr->Prop}{H H':Hp}{d:Addr}{es:List En}(k:KP K S H H')(sd:S d)(sL:∀e∈es,S e.L)(h:fJ K H d es):fJ K H' d es:=⟨k.st _ _ sd h.at_,h.nd,h.few,h.nm,λe he=>(h.tb e he).kp k (sL e he)⟩
theorem wB {κ:Type}[DecidableEq κ]{kvs:List (κ × V)}{k:κ}{v:V}(h:∀kv∈kvs,kv.1≠k):putK kvs k v=kvs++[(k,v)]:=by unfold putK;rw[if_neg];intro z;obtain⟨kv,h1,h2⟩:=List.any_eq_true.mp z;exact h kv h1 (of_decide_eq_true h2)
theorem pC {n:Nat}(h:n<1000):n<sizeLine:=bAB h (by decide)
theorem aT4 {κ:Type}[DecidableEq κ]{A B:List (κ × V)}{k:κ}{v v':V}(hA:∀kv∈A,kv.1≠k)(hB:∀kv∈B,kv.1≠k):putK (A++(k,v)::B) k v'=A++(k,v')::B:=by
 have hm:∀{L:List (κ × V)},(∀kv∈L,kv.1≠k)->L.map (λkv=>if kv.1=k then (kv.1,v') else kv)=L:=λ{L} h=>by
  conv=>rhs;rw[<-List.map_id L]
  exact List.map_congr_left λkv hkv=>by rw[if_neg (h kv hkv)];rfl
 unfold putK;rw[if_pos (List.any_eq_true.mpr ⟨(k,v),v8 _ m9,v6 rfl⟩),bAO,bAM,hm hA,hm hB,if_pos rfl]
theorem aMm {l1 l2:List En}{e e':En}(nd:((l1++e::l2).map (·.n)).Nodup)(hn:e'.n=e.n):putK (enK (l1++e::l2)) (Sum.inr e.n) e'.v=enK (l1++e'::l2):=by
 rw[bAO,bAM] at nd;obtain⟨_,n2,n3⟩:=List.nodup_append.mp nd;have n4:=(List.nodup_cons.mp n2).1;unfold enK;rw[bAO,bAM,bAO,bAM,hn];refine aT4 (λkv hkv z=>?_) λkv hkv z=>?_
 ·obtain⟨x,hx,rfl⟩:=List.mem_map.mp hkv;exact n3 _ (bBJ hx) _ m9 (Sum.inr.inj z)
 ·obtain⟨x,hx,rfl⟩:=List.mem_map.mp hkv;exact n4 (by rw[<-Sum.inr.inj z];exact bBJ hx)
theorem cJ.put {H:Hp}{C x d dm:Addr}{m:Int}{l1 l2:List En}{e e':En}(h:cJ K H C x m d dm (l1++e::l2))(hn:e'.n=e.n)(tb:mX K H e'.v e'.vh e'.vp e'.L e'.t)(ok:nF m e'.t):KP K (λb=>b≠d) H (L2.upd H d (.dK (enK (l1++e'::l2))))/\cJ K (L2.upd H d (.dK (enK (l1++e'::l2)))) C x m d dm (l1++e'::l2):=by
 have nz:=cY.dK h.ens.at_;have b:But d H (L2.upd H d (.dK (enK (l1++e'::l2)))):=But.upd;have sub:∀y∈l1++e'::l2,y=e'\/y∈l1++e::l2:=λy hy=>by
  rcases List.mem_append.mp hy with h|h
  ·exact .inr (bBL _ h)
  ·rcases List.mem_cons.mp h with h|h
   ·exact .inl h
   ·exact .inr (v8 _ (j8 _ h))
 have ens:=h.ens;have enm:(l1++e'::l2).map (·.n)=(l1++e::l2).map (·.n):=by rw[bAO,bAO,bAM,bAM,hn]
 obtain⟨dx,hx⟩:=h.at_;have n1:x≠d:=λz=>by rw[z,ens.at_] at hx;cases hx
 refine⟨.aTr nz λz=>z rfl,⟨dx,b _ _ n1 hx⟩,⟨aJ,by rw[enm];exact ens.nd,?_,λy hy=>?_,λy hy=>?_⟩,λy hy=>?_,?_⟩
 ·have:=congrArg List.length enm;rw[j9,j9] at this;rw[this];exact ens.few
 ·rcases sub y hy with rfl|hy
  ·rw[hn];exact ens.nm e (v8 _ m9)
  ·exact ens.nm y hy
 ·rcases sub y hy with rfl|hy
  ·exact b.tb nz tb
  ·exact b.tb nz (ens.tb y hy)
 ·rcases sub y hy with rfl|hy
  ·exact ok
  ·exact h.ok y hy
 ·have n2:dm≠d:=λz=>by have e1:=h.mv;rw[z,ens.at_] at e1;injection e1 with e1;injection e1 with e2;have e3:=congrArg List.length e2;rw[mJ,bAC,v5] at e3;simp at e3
  exact b _ _ n2 h.mv
def xJ (K:bET):Sp:=λvs H Q _=>∃(v vh vp:V) (L R:Addr) (t:Tb) (rows:List (List V)),vs=[v,.ref R]/\mX K H v vh vp L t/\aJw t.hd/\bY K H R rows/\rows.length<=60/\(∀r∈rows,qY t.hd r)/\∀v' L' H',H L'=none->Same H H'->mX K H' v' vh vp L' { t with rows:=srt rows }->Q v' H'
theorem uO (T:Txt w K mg):Ok P w K mg base 1 "with_rows" ["table","rows"] (xJ K):=by
 refine Ok.ofV T.aI0 aFj (λvs H Q E h=>?_) (λf cdv A outer s H vs Q E hr h=>?_)
 ·obtain⟨v,vh,vp,L,R,t,rows,rfl,_⟩:=h;rfl
 obtain⟨v,vh,vp,L,R,t,rows,rfl,⟨a,rfl,ha,h1,h2,h3⟩,hd,hR,few,okr,q⟩:=h;refine⟨_,(aG (aN (bM aUw (jP aMr (vv 0) oH (kI aH)) (dW (aC (aO gF (by rfl) T.eX dN (aC (vv 1) aB)) aB))))),?_⟩;obtain⟨us,gR,hus⟩:=hR;have lu:=hus.len;refine⟨_,rfl,_,rfl,a,_,rfl,ha,by show ¬ (HT.sIx 3 0 none=0/\HT.sIx 3 3 (some 2)=3);decide,λp H1 s1 g1=>?_⟩;rw[show qI [vh,vp,.ref L] none (some 2)=[vh,vp] from aM7 _ 2] at g1;refine⟨_,rfl,R,us,rows,knds t.hd,rfl,SqL.of (s1 _ _ gR),cM (hus.imp λ_ _ z=>z.same s1),by lia,rR hd.1,λr hr'=>yH (okr r hr'),λL' H2 us2 hL' s2 g2 h5=>?_⟩;refine⟨by show 1<=sizeLine;decide,λp2 H3 _ s3 g3=>?_⟩;refine⟨p,p2,_,_,rfl,rfl,SqT.of (s3 _ _ (s2 _ _ g1)),SqT.of g3,by show 3<=sizeLine;decide,λr H4 s4 g4=>?_⟩;have s04:=s1.trans (s2.trans (s3.trans s4));exact q _ L' H4 (none_of s1 hL') s04 ⟨r,rfl,g4,h1.same s04,h2.same s04,us2,s4 _ _ (s3 _ _ g2),(nA h5).imp λ_ _ z=>z.same (s2.trans (s3.trans s4))⟩
def aTl (K:bET)(C:Addr):Sp:=λvs H Q _=>∃(x d dm:Addr) (m:Int) (l1 l2:List En) (e:En) (vr:V) (r:List V),vs=[.ref x,.str e.n,vr]/\cJ K H C x m d dm (l1++e::l2)/\dM K H vr r/\qY e.t.hd r/\e.t.rows.length<60/\∀v L H',KP K (λb=>b≠d) H H'->H L=none->cJ K H' C x m d dm (l1++{ e with v:=v,L:=L,t:={ e.t with rows:=srt (e.t.rows++[r]) } }::l2)->Q .non H'
theorem aV6 (T:Txt w K mg){C:Addr}(c:Cls K C)(D:kO K C "put" "Store.put" lW ["self","name","row"])(n1:bR K C "placed")(cW:Ok P w K mg base 3 "table_in" ["placed","name"] (uB K))(qN:Ok P w K mg base 4 "is_row" ["head","thing"] (zJ K))(qR:Ok P w K mg base 1 "with_rows" ["table","rows"] (xJ K)):OkM P w K mg base C 5 "put" ["self","name","row"] (aTl K C):=by
 refine OkM.ofV c D vK (λvs H Q E h=>?_) (λf cdv A outer s H vs Q E hr h=>?_)
 ·obtain⟨x,d,dm,m,l1,l2,e,vr,r,rfl,_⟩:=h;rfl
 obtain⟨x,d,dm,m,l1,l2,e,vr,r,rfl,hS,hr',okr,few,q⟩:=h;have hu:=wD hr;refine⟨_,(aD (aX (i:=3) vK.nd rfl (by trivial) (aQ (cW.mono (by decide)) hr (by rfl) (aC (jJ (K:=K) (vv 0)) (aC (vv 1) aB)))) (aD (bZ (cI (cA (aQ (qN.mono (by decide)) hr (by rfl) (aC (aW bK (vv 3) aH (λ_ _=>rfl)) (aC (vv 2) aB))))) (aG nH) aZ) (aG (zH hu (jJ (K:=K) (vv 0)) (vv 1) (aQ (qR.mono (by decide)) hr (by rfl) (aC (vv 3) (aC (bM aBq (aW bK (vv 3) aH (λ_ _=>rfl)) (dJ (aC (vv 2) aB))) aB))))))),?_⟩;obtain⟨dx,hx⟩:=hS.at_;have he:e∈l1++e::l2:=v8 _ m9;have ok:=hS.ok e he;have l8:=ok.hd.1.2.2;refine⟨_,rfl,x,C,dx,_,_,rfl,hx,c,n1,rfl,_,rfl,d,_,e,rfl,hS.ens,he,λH1 s1=>?_⟩;obtain⟨a,ev,ha,h1,h2,⟨us,h3,h4⟩⟩:=(hS.ens.tb e he).same s1;have lu:=h4.len;refine⟨_,rfl,a,_,0,_,ev,rfl,ha,at0 _ _,_,rfl,e.vh,vr,e.t.hd,r,rfl,h1,by lia,hr'.same s1,okr,λH2 s2=>⟨_,rfl,bV ?_⟩⟩;have s02:=s1.trans s2;refine⟨_,rfl,_,rfl,a,_,2,_,ev,rfl,s2.aY ha,at2 _ _ _ _,_,rfl,by show 1<=sizeLine;decide,λp H3 hp s3 g3=>?_⟩;refine⟨e.L,p,us,_,rfl,rfl,s3 _ _ (s2 _ _ h3),g3,small (by show _+1<=1000;lia),λR H4 hR s4 g4=>?_⟩;have s04:=s02.trans (s3.trans s4);have hRows:bY K H4 R (e.t.rows++[r]):=⟨_,g4,cH.app (h4.imp λ_ _ z=>z.same (s2.trans (s3.trans s4))) (.cons (hr'.same s04) .nil)⟩;refine⟨e.v,e.vh,e.vp,e.L,R,e.t,_,rfl,(hS.ens.tb e he).same s04,ok.hd,hRows,by rw[bAC];show _+1<=60;lia,λy hy=>?_,λv' L' H5 hL' s5 hT=>?_⟩
 ·rcases List.mem_append.mp hy with hy|hy
  ·exact ok.rows y hy
  ·rw[List.mem_singleton.mp hy];exact okr
 have s05:=s04.trans s5;have hS5:=hS.same s05;have tbo:nF m { e.t with rows:=srt (e.t.rows++[r]) }:=⟨ok.hd,ok.pl,by show (srt _).length<=60;rw[vQ,bAC];show _+1<=60;lia,λy hy=>by
  rcases List.mem_append.mp (rM hy) with hy|hy
  ·exact ok.rows y hy
  ·rw[List.mem_singleton.mp hy];exact okr⟩
 obtain⟨e',ee⟩:∃e':En,e'={ e with v:=v',L:=L',t:={ e.t with rows:=srt (e.t.rows++[r]) } }:=⟨_,rfl⟩;obtain⟨k1,k2⟩:=hS5.put (e':=e') (by rw[ee]) (by rw[ee];exact hT) (by rw[ee];exact tbo);have few5:=hS5.ens.few;refine⟨_,rfl,x,C,dx,_,_,rfl,s05 _ _ hx,c,n1,rfl,_,rfl,d,_,rfl,aG2.k (k:=Sum.inr e.n) hS5.ens.at_ (by rw[mJ];exact pC (by lia)),?_⟩;have ek:putK (enK (l1++e::l2)) (Sum.inr e.n) v'=enK (l1++e'::l2):=by have:=aMm (e':=e') hS.ens.nd (by rw[ee]);rw[ee] at this ⊢;exact this
 rw[ek];rw[ee] at k1 k2 ⊢;exact q v' L' _ ((KP.same s05).trans k1) (none_of s04 hL') k2
end
end My
namespace L2
open PySem PySem.Spec PyProof.Rows
end L2
namespace PySem
open PySem.Spec
theorem iU:entryFor table "list.remove.loop"=some Builtin.«list.remove.loop»:=entryFor_of_tree (by kernel_rfl)
section
variable {prog:Program}{w:World}{A:Around}{R:Result->Shared->Prop}{s:Shared}{l:Addr}{items:Array Value}{n:Nat}{dd:Option Addr}{sl:Array (Option Value)}{x:Value}{j:Nat}
theorem aCg (hs:s.heap.get? l=some { cls:=Value.type "list",dict:=dd,data:=Data.seq items n,slots:=sl })(hj:j<items.size)
  (ht:SeqAt.EqAt A.in1 s items[j] x true) (hf:∀(m:Nat) (hm:m<items.size),m<j->SeqAt.EqAt A.in1 s items[m] x false) (hsz:items.size<=sizeLine)
  (q:R (.ok (.ret .none)) { s with heap:=s.heap.update l (Obj.mapSeq λxs=>xs.eraseIdxIfInBounds j) }) :
  ∀(k i:Nat),i+k=j->codeAny (model prog w) A (.builtin "list.remove.loop" ⟨[.ref l,x,rawInt (i:Nat)],[]⟩) R s:=by
 intro k
 induction k with
 |zero=>
  intro i hi;obtain rfl:i=j:=by lia
  refine bBF iU ?_;rw[bBC MeetsSeq.plain_remove_loop _];show wpAny _ A.in1 (Builtin.List.listItems (.ref l) >>= _) _ _ _;refine c7 (wpAny_listItems hs rfl ?_);have hx:items[Int.toNat (i:Nat)]?=some items[i]:=by rw[bAT];exact t8 hj
  simp only[hx];refine c7 (ht _ _ _ _ ?_);simp only[if_true];refine c7 (PyProof.Rows.listUpdate_at hs rfl ?_ hsz ?_)
  ·rw[bAT];exact j4 q
  ·unfold Array.eraseIdxIfInBounds
   split
   ·rw[Array.size_eraseIdx];lia
   ·lia
 |succ k ih=>
  intro i hi;refine bBF iU ?_;rw[bBC MeetsSeq.plain_remove_loop _];show wpAny _ A.in1 (Builtin.List.listItems (.ref l) >>= _) _ _ _;have hi':i<items.size:=by lia
  refine c7 (wpAny_listItems hs rfl ?_);have hx:items[Int.toNat (i:Nat)]?=some items[i]:=by rw[bAT];exact t8 hi'
  simp only[hx];refine c7 (hf i hi' (by lia) _ _ _ _ ?_);refine j4 ⟨bCJ MeetsSeq.plain_remove_loop _,?_⟩;exact ih (i+1) (by lia)
theorem aCd (l:Addr)(items:Array Value)(n:Nat)(dd:Option Addr)(sl:Array (Option Value))(x:Value)(j:Nat)(hj:j<items.size)(hsz:items.size<=sizeLine) :
  Meets (Builtin.«list.remove» ⟨[.ref l,x],[]⟩) λA R s=>s.heap.get? l=some { cls:=Value.type "list",dict:=dd,data:=Data.seq items n,slots:=sl } /\
   SeqAt.EqAt A.in1 s items[j] x true/\(∀(m:Nat) (hm:m<items.size),m<j->SeqAt.EqAt A.in1 s items[m] x false) /\
   R (.ok (.ret .none)) { s with heap:=s.heap.update l (Obj.mapSeq λxs=>xs.eraseIdxIfInBounds j) }:=by
 intro prog w A R s ⟨hs,ht,hf,q⟩;refine j4 ⟨bCJ MeetsSeq.plain_remove_loop _,?_⟩;exact aCg hs hj ht hf hsz q j 0 (by lia)
end
end PySem
namespace L2
open PySem PySem.Spec PyProof.Rows
theorem aBo:∀{xs:List V} {its:List Value},Vals xs its->∀j,Vals (xs.eraseIdx j) (its.eraseIdx j)
 |_,_,.nil,j=>by cases j <;> exact .nil
 |_,_,.cons r t,0=>t
 |_,_,.cons r t,j+1=>.cons r (aBo t j)
def rY (r:List V):Prop:=∀x∈r,(∃i,x=.int i)\/∃z,x=.str z
theorem aNn {x y:V}(hx:(∃i,x=.int i)\/∃z,x=.str z)(hy:(∃i,y=.int i)\/∃z,y=.str z):eqV x y=decide (x=y):=by
 rcases hx with⟨i,rfl⟩|⟨z,rfl⟩ <;> rcases hy with⟨j,rfl⟩|⟨w,rfl⟩
 ·by_cases e:i=j
  ·subst e;rw[v6 rfl];exact beq_self_eq_true _
  ·rw[w6 λq=>e (V.int.inj q)];exact beq_eq_false_iff_ne.mpr e
 ·rw[w6 λq=>by cases q];rfl
 ·rw[w6 λq=>by cases q];rfl
 ·by_cases e:z=w
  ·subst e;rw[v6 rfl];exact beq_self_eq_true _
  ·rw[w6 λq=>e (V.str.inj q)];exact beq_eq_false_iff_ne.mpr e
theorem aT2:∀{r q:List V},rY r->rY q->((List.range (min r.length q.length)).all (λj=>eqV (r.getD j .non) (q.getD j .non)) && r.length == q.length)=decide (r=q):=by
 intro r q hr hq;by_cases e:r=q
 ·subst e;rw[v6 rfl,beq_self_eq_true,Bool.and_true,bB3];intro j hj;rw[List.mem_range,Nat.min_self] at hj;rw[j7,d9 hj,bCR,aNn (hr _ (bAR hj)) (hr _ (bAR hj)),v6 rfl]
 ·rw[w6 e];by_cases l:r.length=q.length
  ·cases h:(List.range (min r.length q.length)).all (λj=>eqV (r.getD j .non) (q.getD j .non)) with
   |false=>rfl
   |true=>refine absurd (List.ext_getElem l λj h1 h2=>?_) e;have:=List.all_eq_true.mp h j (List.mem_range.mpr (by lia));rw[j7,d9 h1,bCR,j7,d9 h2,bCR,aNn (hr _ (bAR h1)) (hq _ (bAR h2))] at this;exact of_decide_eq_true this
  ·rw[show (r.length == q.length)=false from beq_eq_false_iff_ne.mpr l,Bool.and_false]
theorem aIl:∀{r q:List V} {its:List Value},Vals r its->Vals q its->rY r->rY q->r=q
 |_,_,_,.nil,.nil,_,_=>rfl
 |x::r,y::q,_,.cons a t,.cons b u,hr,hq=>by
  have e:x=y:=by rcases hr x m9 with⟨i,rfl⟩|⟨z,rfl⟩ <;> rcases hq y m9 with⟨j,rfl⟩|⟨w,rfl⟩ <;> obtain⟨_,a⟩:=a <;> obtain⟨_,b⟩:=b <;> rw[a] at b <;> cases b <;> rfl
  rw[e,aIl t u (λz hz=>hr z (j8 _ hz)) λz hz=>hq z (j8 _ hz)]
section
variable {X:Cx}{bEX:bEV}{σ:L2.St}{H:Hp}{s:Shared}
theorem aBe (I:Inv X bEX σ H s){a:Addr}{r q:List V}(ha:SqT X.K H a r)(hb:SqT X.K H a q)(fr:rY r)(fq:rY q):r=q:=by
 obtain⟨its,r1,pl,_⟩:=I.tuple ha;obtain⟨jts,r2,pm,_⟩:=I.tuple hb;have ej:its=jts:=by obtain⟨o,ho,c1,n1,d1⟩:=pl;obtain⟨o',ho',c2,n2,d2⟩:=pm;rw[ho] at ho';cases ho';rw[d1] at d2;have:=Data.seq.inj d2;simpa using congrArg Array.toList this.1
 subst ej;exact aIl r1 r2 fr fq
theorem aC3 (I:Inv X bEX σ H s){A:Around}(hA:A.units+2<cLine){x y:V}{v u:Value}{r q:List V}(hx:dM X.K H x r)(hy:dM X.K H y q)(fr:rY r)(fq:rY q)(rv:RelV x v)(ru:RelV y u):SeqAt.EqAt A s v u (decide (r=q)):=by
 obtain⟨a,rfl,ha⟩:=hx;obtain⟨b,rfl,hb⟩:=hy;cases rv;cases ru;obtain⟨its,r1,pl,_⟩:=I.tuple ha;obtain⟨jts,r2,pm,_⟩:=I.tuple hb;by_cases e:a=b
 ·subst e;rw[aBe I ha hb fr fq,v6 rfl];exact bDO _
 have l1:=r1.length;have l2:=r2.length;refine SeqAt.EqAt.of_refs e ?_;have z:=SeqAt.RcAt.tuples (A:=A) (e:=λj=>eqV (r.getD j .non) (q.getD j .non)) (show s.heap.IsTuple a its.toArray from pl) (show s.heap.IsTuple b jts.toArray from pm) (by lia) λj h1 h2=>by
  rw[m7] at h1 h2;have g1:r[j]?=some r[j]:=d9 (by lia);have g2:q[j]?=some q[j]:=d9 (by lia);obtain⟨u1,hu1,w1⟩:=r1.get g1;obtain⟨u2,hu2,w2⟩:=r2.get g2;have k1:its.toArray[j]=u1:=by rw[bCV];exact (List.getElem?_eq_some_iff.mp hu1).2
  have k2:jts.toArray[j]=u2:=by rw[bCV];exact (List.getElem?_eq_some_iff.mp hu2).2
  rw[k1,k2,j7,g1,j7,g2];have f1:=fr r[j] (bAR _);have f2:=fq q[j] (bAR _);refine aTf w1 w2 ?_ ?_
  ·rcases f1 with⟨i,e⟩|⟨i,e⟩ <;> rw[show (Option.some r[j]).getD V.non=r[j] from rfl,e] <;> rfl
  ·rcases f2 with⟨i,e⟩|⟨i,e⟩ <;> rw[show (Option.some q[j]).getD V.non=q[j] from rfl,e] <;> rfl
 rw[m7,m7,<-l1,<-l2,aT2 fr fq] at z;exact z
theorem aTw (I:Inv X bEX σ H s){A:Around}(hA:A.units+2<cLine){us:List V}{its:List Value}{rs:List (List V)}(rv:Vals us its)(h:Al2 (dM X.K H) us rs)(fl:∀r∈rs,rY r){y:V}{u:Value}{q:List V}(hy:dM X.K H y q)(fq:rY q)(ru:RelV y u):∃e:Value->Bool,(∀v∈its,SeqAt.EqAt A s v u (e v))/\its.any e=decide (q∈rs):=by
 have at_:∀v∈its,∃(i:Nat) (x:V) (r:List V),us[i]?=some x/\rs[i]?=some r/\dM X.K H x r/\RelV x v:=λv hv=>by
  obtain⟨i,hi⟩:=List.mem_iff_getElem?.mp hv;have hl:i<us.length:=by rw[rv.length];exact (List.getElem?_eq_some_iff.mp hi).1
  obtain⟨r,hr,rr⟩:=h.at (d9 hl);obtain⟨v',hv',rel⟩:=rv.get (d9 hl);rw[hi] at hv';cases hv';exact⟨i,_,r,d9 hl,hr,rr,rel⟩
 refine⟨λv=>@decide (∃x,dM X.K H x q/\RelV x v) (Classical.propDecidable _),λv hv=>?_,?_⟩
 ·obtain⟨i,x,r,_,er,hx,rx⟩:=at_ v hv;have fr:=fl r (p7 er);have e:@decide (∃x,dM X.K H x q/\RelV x v) (Classical.propDecidable _)=decide (r=q):=by
   by_cases z:r=q
   ·subst z;rw[v6 rfl];exact @decide_eq_true _ (Classical.propDecidable _) ⟨x,hx,rx⟩
   ·rw[w6 z];refine @decide_eq_false _ (Classical.propDecidable _) λ⟨x',hx',rx'⟩=>z ?_;obtain⟨a,rfl,ha⟩:=hx;obtain⟨b,rfl,hb⟩:=hx';have e1:v=.ref a:=rx;have e2:v=.ref b:=rx';rw[e1] at e2;cases e2;exact aBe I ha hb fr fq
  show SeqAt.EqAt A s v u (@decide (∃x,dM X.K H x q/\RelV x v) (Classical.propDecidable _));rw[e];exact aC3 I hA hx hy fr fq rx ru
 ·by_cases z:q∈rs
  ·rw[v6 z];obtain⟨i,hi⟩:=List.mem_iff_getElem?.mp z;have hl:i<us.length:=by rw[h.len];exact (List.getElem?_eq_some_iff.mp hi).1
   obtain⟨r,hr,rr⟩:=h.at (d9 hl);rw[hi] at hr;cases hr;obtain⟨v,hv,rel⟩:=rv.get (d9 hl);exact List.any_eq_true.mpr ⟨v,p7 hv,@decide_eq_true _ (Classical.propDecidable _) ⟨_,rr,rel⟩⟩
  ·rw[w6 z];refine List.any_eq_false.mpr λv hv hd=>z ?_;obtain⟨x',hx',rx'⟩:=@of_decide_eq_true _ (Classical.propDecidable _) hd;obtain⟨i,x,r,_,er,hx,rx⟩:=at_ v hv;obtain⟨a,rfl,ha⟩:=hx;obtain⟨b,rfl,hb⟩:=hx';have e1:v=.ref a:=rx;have e2:v=.ref b:=rx';rw[e1] at e2;cases e2;rw[<-aBe I ha hb (fl r (p7 er)) fq];exact p7 er
end
def aSp (K:bET):R2:=λx y H Q=>∃(l:Addr) (us:List V) (rs:List (List V)) (q:List V),y=.ref l/\SqL K H l us/\Al2 (dM K H) us rs/\(∀r∈rs,rY r)/\dM K H x q/\rY q/\Q (.bl (!decide (q∈rs))) H
theorem aA4 {X:Cx}(hu:X.A.units+64<cLine):OpR X (compareOp .NotIn) (aSp X.K):=by
 intro bEX s σ H x y v u Q I rx ry h;obtain⟨l,us,rs,q,rfl,hl,h1,hf,hx,fq,k⟩:=h;cases ry;obtain⟨its,r1,pl,_⟩:=I.list hl;obtain⟨e,he,ha⟩:=aTw I (A:=X.A.in1) (show X.A.units+1+2<cLine by lia) r1 h1 hf hx fq rx;refine SeqAt.notIn_listAt e pl.isList (λy hy=>he y (by simpa using hy)) ?_;have z:its.toArray.any e=decide (q∈rs):=by rw[<-ha];simp
 rw[z];exact⟨.bl _,H,I,rfl,k⟩
def aZ3 (K:bET):V->List V->Hp->VK->Prop:=λx vs H Q=>∃l us y rs q j,x=.ref l/\vs=[y]/\H l=some (.lst us)/\Al2 (dM K H) us rs/\(∀r∈rs,rY r)/\dM K H y q/\rY q/\rs[j]?=some q/\(∀m r,m<j->rs[m]?=some r->r≠q)/\Q .non (upd H l (.lst (us.eraseIdx j)))
theorem aTz {X:Cx}(hu:X.A.units+64<cLine):MtR X "list.remove" (aZ3 X.K):=by
 intro bEX s σ H x vs v us' Q I rx rv h;obtain⟨l,xs,y,rs,q,j,rfl,rfl,hH,h1,hf,hy,fq,hj,hn,k⟩:=h;cases rx;obtain⟨u,rfl,ru⟩:=rv.one;obtain⟨z,its,n,r,hl,e⟩:=I.aPt hH;have lx:=h1.len;have hj':j<its.toArray.size:=by rw[m7];have:=(List.getElem?_eq_some_iff.mp hj).1;lia
 have eqm:∀(m:Nat) (hm:m<its.toArray.size) (rr:List V),rs[m]?=some rr->SeqAt.EqAt X.A.in1 s its.toArray[m] u (decide (rr=q)):=λm hm rr er=>by
  have hm':m<xs.length:=by rw[m7] at hm;lia
  obtain⟨r',hr',rel⟩:=h1.at (d9 hm');rw[er] at hr';cases hr';obtain⟨u1,hu1,w1⟩:=r.get (d9 hm');have g1:its.toArray[m]=u1:=by rw[bCV];exact (List.getElem?_eq_some_iff.mp hu1).2
  rw[g1];exact aC3 I (show X.A.units+1+2<cLine by lia) rel hy (hf rr (p7 er)) fq w1 ru
 refine call_meets F.slot_list_remove ⟨_,e,rfl⟩ F.entry_list_remove (F.args_list_remove_2 _ _) (aCd l its.toArray n none #[] u j hj' (by rw[m7];lia)) ⟨e,?_,λm hm hlt=>?_,?_⟩
 ·have:=eqm j hj' q hj;rw[v6 rfl] at this;exact this
 ·obtain⟨rr,er⟩:∃rr,rs[m]?=some rr:=⟨_,d9 (by have:=(List.getElem?_eq_some_iff.mp hj).1;lia)⟩;have:=eqm m hm rr er;rw[w6 (hn m rr hlt er)] at this;exact this
 ·refine⟨.non,_,I.lset (its':=its.eraseIdx j) hH e ?_ ?_ ?_,rfl,k⟩
  ·show its.toArray.eraseIdxIfInBounds j=(its.eraseIdx j).toArray;rw[bD3]
  ·exact aBo r j
  ·have:=bDU xs j;lia
theorem aPa {X:Cx}:MtR X "list.pop" aQj:=aQ4
end L2
namespace My
open PySem PySem.Spec PyProof.Rows L2
section
variable {P:Program}{w:World}{K:bET}{mg:bEW}{base:Heap}
theorem hinit (T:Txt w K mg)(fI:Addr):∀(X:Cx),X.N=(["self","act"]:List Str)->X.env.scope=aF mV->X.mg=mg->VSs X (cX mV) (aBx (aMn (tVI X.K fI (dR (vZ 0) (dR (vZ 1) aAr)))) (aQh X.K fI (vZ 0) (vZ 1))):=by
 intro X hN hs hm;have v0:∀{pos:Pos},VE X (.Name "self" pos) (vZ 0):=λ{pos}=>vv 0 (by rw[hN];rfl) (by left;rw[hs];rfl);have v1:∀{pos:Pos},VE X (.Name "act" pos) (vZ 1):=λ{pos}=>vv 1 (by rw[hN];rfl) (by left;rw[hs];rfl);have g:Gl X "ValueError":=by show X.env.scope.names.lookup _=_;rw[hs];rfl
 exact aD ⟨aM6 (aS1 (fI:=fI) g (by rw[hm];exact T.aFl) (aYs v0.1 (aYs v1.1 aRu)))⟩ (aG ⟨aYd v0.1 v1.1⟩)
theorem aGg {r:List V}:∀{rs:List (List V)},r∈rs->∃j,rs[j]?=some r/\∀(m:Nat) q,m<j->rs[m]?=some q->q≠r
 |[],h=>by cases h
 |a::rs,h=>by
  by_cases e:a=r
  ·exact⟨0,by rw[e];rfl,λm q hm=>absurd hm (bCT _)⟩
  ·rcases List.mem_cons.mp h with h|h
   ·exact absurd h.symm e
   ·obtain⟨j,h1,h2⟩:=aGg h;refine⟨j+1,by simpa using h1,λm q hm hq=>?_⟩;cases m with
    |zero=>cases hq;exact e
    |succ m=>exact h2 m q (by lia) (by simpa using hq)
theorem aAn {α β:Type}{R:α->β->Prop}{as:List α}{bs:List β}(h:cH R as bs):∀n,cH R (as.eraseIdx n) (bs.eraseIdx n):=by
 induction h with
 |nil=>intro n;exact .nil
 |cons r t ih=>
  intro n;cases n with
  |zero=>exact t
  |succ n=>exact .cons r (ih n)
theorem vH {hd:Hdr}{r:List V}(h:qY hd r):rY r:=λx hx=>aWi (yH h) x hx
theorem tZ {α:Type}{r:α}:∀{rs:List α} {j:Nat},rs[j]?=some r->(r::rs.eraseIdx j).Perm rs
 |[],_,h=>by cases h
 |a::rs,0,h=>by cases h;exact .refl _
 |a::rs,j+1,h=>(List.Perm.swap a r _).trans ((tZ (rs:=rs) (j:=j) (by simpa using h)).cons a)
def zE (K:bET)(C CN:Addr):Sp:=λvs H Q E=>∃(x d dm:Addr) (m:Int) (l1 l2:List En) (e:En) (vr:V) (r:List V),vs=[.ref x,.str e.n,vr]/\cJ K H C x m d dm (l1++e::l2)/\dM K H vr r/\qY e.t.hd r /\
 (r∈e.t.rows->∀v L rows' H',(r::rows').Perm e.t.rows->KP K (λb=>b≠d) H H'->H L=none->cJ K H' C x m d dm (l1++{ e with v:=v,L:=L,t:={ e.t with rows:=srt rows' } }::l2)->Q .non H') /\
 (r∉e.t.rows->∀a H',Same H H'->E (.ref CN) (some a) H')
theorem aQo (T:Txt w K mg){C CN S:Addr}(hx_NoRow:ExT K mg mV "NoRow" "ShardError.__init__" CN S)(c:Cls K C)(D:kO K C "drop" "Store.drop" jY ["self","name","row"])(n1:bR K C "placed")(cW:Ok P w K mg base 3 "table_in" ["placed","name"] (uB K))(qN:Ok P w K mg base 4 "is_row" ["head","thing"] (zJ K))(qR:Ok P w K mg base 1 "with_rows" ["table","rows"] (xJ K)):yV P w K mg base C 5 "drop" ["self","name","row"] (zE K C CN):=by
 refine yV.ofV c D mR (λvs H Q E h=>?_) (λf cdv A outer s H vs Q E hr h=>?_)
 ·obtain⟨x,d,dm,m,l1,l2,e,vr,r,rfl,_⟩:=h;rfl
 obtain⟨x,d,dm,m,l1,l2,e,vr,r,rfl,hS,hr',okr,qT,qF⟩:=h;have hu:=wD hr;have hU:=hr.units;have hinit:=λ{fI:Addr}=>hinit T fI;refine⟨_,(aD (aX (i:=3) mR.nd rfl (by trivial) (aQ (cW.mono (by decide)) hr (by rfl) (aC (jJ (K:=K) (vv 0)) (aC (vv 1) aB)))) (aD (bZ (VW.pt (iM (cI (cA (aQ (qN.mono (by decide)) hr (by rfl) (aC (aW bK (vv 3) aH (λ_ _=>rfl)) (aC (vv 2) aB))))) (gC (bH (aA4 hU) (vv 2) (aW bK (vv 3) aH (λ_ _=>rfl)) (by with_unfolding_all rfl))))) (aG (aQk hx_NoRow (λfI fd F=>aTy (k:=0) F aVb hinit) (hr.mono (by decide)) aN5 rfl (by rfl) (aC pA aB))) aZ) (aD (aX (i:=4) mR.nd rfl (by trivial) (cV tW (by rfl) T.uG oY (aC (aW bK (vv 3) aH (λ_ _=>rfl)) aB))) (aD (fW (nP PySem.F.plainAttrs_list PySem.F.slot_list_remove PySem.F.type_list_remove (aTz hU) (vv 4) (aC (vv 2) aB))) (aG (zH hu (jJ (K:=K) (vv 0)) (vv 1) (aQ (qR.mono (by decide)) hr (by rfl) (aC (vv 3) (aC (vv 4) aB))))))))),?_⟩;obtain⟨dx,hx⟩:=hS.at_;have he:e∈l1++e::l2:=v8 _ m9;have ok:=hS.ok e he;have l8:=ok.hd.1.2.2;have few:=ok.few;refine⟨_,rfl,x,C,dx,_,_,rfl,hx,c,n1,rfl,_,rfl,d,_,e,rfl,hS.ens,he,λH1 s1=>?_⟩;obtain⟨a,ev,ha,h1,h2,⟨us,h3,h4⟩⟩:=(hS.ens.tb e he).same s1;have lu:=h4.len;refine⟨_,rfl,a,_,0,_,ev,rfl,ha,at0 _ _,_,rfl,e.vh,vr,e.t.hd,r,rfl,h1,by lia,hr'.same s1,okr,λH2 s2=>⟨_,rfl,bV ?_⟩⟩;have s02:=s1.trans s2;have flr:∀r∈e.t.rows,rY r:=λr hr=>vH (ok.rows r hr);refine⟨_,rfl,_,rfl,a,_,2,_,ev,rfl,s2.aY ha,at2 _ _ _ _,e.L,us,e.t.rows,r,rfl,SqL.of (s2 _ _ h3),cM (h4.imp λ_ _ z=>z.same s2),flr,hr'.same s02,vH okr,_,rfl,?_⟩;by_cases hm:r∈e.t.rows
 ·rw[v6 hm];refine bV ?_;obtain⟨j,hj,hjn⟩:=aGg hm;refine⟨_,rfl,a,_,2,_,ev,rfl,s2.aY ha,at2 _ _ _ _,e.L,us,rfl,.inl (SqL.of (s2 _ _ h3)),λR H3 hR s3 g3=>?_⟩;have s03:=s02.trans s3;refine⟨_,rfl,.inl ⟨rfl,_,SqL.of g3⟩,_,rfl,R,us,vr,e.t.rows,r,j,rfl,rfl,g3,cM (h4.imp λ_ _ z=>z.same (s2.trans s3)),flr,hr'.same s03,vH okr,hj,hjn,?_⟩;have s14:Same H1 (L2.upd H3 R (.lst (us.eraseIdx j))):=s2.trans (iQ hR s3);have s04:=s1.trans s14;have g4:L2.upd H3 R (.lst (us.eraseIdx j)) R=some (.lst (us.eraseIdx j)):=aJ;generalize L2.upd H3 R (.lst (us.eraseIdx j))=H4 at s14 s04 g4 ⊢;obtain⟨hlt,ej⟩:=List.getElem?_eq_some_iff.mp hj;have pm:(r::e.t.rows.eraseIdx j).Perm e.t.rows:=tZ hj;have sub:∀y∈e.t.rows.eraseIdx j,y∈e.t.rows:=λy hy=>List.mem_of_mem_eraseIdx hy;have hRows:bY K H4 R (e.t.rows.eraseIdx j):=⟨_,g4,aAn (h4.imp λ_ _ z=>z.same s14) j⟩;have l1':=bDU e.t.rows j;refine⟨_,rfl,_,rfl,e.v,e.vh,e.vp,e.L,R,e.t,e.t.rows.eraseIdx j,rfl,(hS.ens.tb e he).same s04,ok.hd,hRows,by lia,λy hy=>ok.rows y (sub y hy),λv' L' H5 hL' s5 hT=>?_⟩;have s05:=s04.trans s5;have hS5:=hS.same s05;have tbo:nF m { e.t with rows:=srt (e.t.rows.eraseIdx j) }:=⟨ok.hd,ok.pl,by show (srt _).length<=60;rw[vQ];lia,λy hy=>ok.rows y (sub y (rM hy))⟩;obtain⟨e',ee⟩:∃e':En,e'={ e with v:=v',L:=L',t:={ e.t with rows:=srt (e.t.rows.eraseIdx j) } }:=⟨_,rfl⟩;obtain⟨k1,k2⟩:=hS5.put (e':=e') (by rw[ee]) (by rw[ee];exact hT) (by rw[ee];exact tbo);have few5:=hS5.ens.few;refine⟨_,rfl,x,C,dx,_,_,rfl,s05 _ _ hx,c,n1,rfl,_,rfl,d,_,rfl,aG2.k (k:=Sum.inr e.n) hS5.ens.at_ (by rw[mJ];exact pC (by lia)),?_⟩;have ek:putK (enK (l1++e::l2)) (Sum.inr e.n) v'=enK (l1++e'::l2):=by have:=aMm (e':=e') hS.ens.nd (by rw[ee]);rw[ee] at this ⊢;exact this
  rw[ek];rw[ee] at k1 k2 ⊢;exact qT hm v' L' _ _ pm ((KP.same s05).trans k1) (none_of s04 hL') k2
 ·rw[w6 hm];exact dI ⟨rfl,λa dx' n1 n2 ne=>qF hm a _ (s02.trans (aV n2 _))⟩
end
end My
namespace PySem
def Ris (xs:Array Nat):Prop:=∀a b (ha:a<xs.size) (hb:b<xs.size),a<b->xs[a]<xs[b]
theorem zT {xs:Array Nat}{j:Nat}(hp:Ris xs):∀(fuel lo hi:Nat),hi - lo<=fuel->lo<=hi->hi<=xs.size->(∀k (h:k<xs.size),k<lo->xs[k]<j)->(∀k (h:k<xs.size),hi<=k->j<=xs[k]) ->
  SetTable.below.go xs j fuel lo hi<=xs.size/\(∀k (h:k<xs.size),k<SetTable.below.go xs j fuel lo hi->xs[k]<j)/\∀k (h:k<xs.size),SetTable.below.go xs j fuel lo hi<=k->j<=xs[k]
 |0,lo,hi,hf,h1,h2,h3,h4=>by
  have e:lo=hi:=by lia
  subst e;exact⟨h2,h3,h4⟩
 |fuel+1,lo,hi,hf,h1,h2,h3,h4=>by
  unfold SetTable.below.go
  split
  ·rename_i hlt;have hm:(lo+hi) / 2<hi:=by lia
   have hm':lo<=(lo+hi) / 2:=by lia
   have hms:(lo+hi) / 2<xs.size:=by lia
   dsimp only;rw[v7,t8 hms,bCR]
   split
   ·rename_i hc;refine zT hp fuel _ _ (by lia) (by lia) h2 (λk hk hlo=>?_) h4;by_cases e:k=(lo+hi) / 2
    ·subst e;exact hc
    ·exact bDZ (hp k _ hk hms (by lia)) hc
   ·rename_i hc;refine zT hp fuel _ _ (by lia) (by lia) (by lia) h3 λk hk hhi=>?_;by_cases e:k=(lo+hi) / 2
    ·subst e;lia
    ·exact bAP (Nat.le_of_not_lt hc) (bC5 (hp _ k hms hk (by lia)))
  ·have e:lo=hi:=by lia
   subst e;exact⟨h2,h3,h4⟩
theorem uU {xs:Array Nat}(hp:Ris xs)(j:Nat):SetTable.below xs j<=xs.size/\(∀k (h:k<xs.size),k<SetTable.below xs j->xs[k]<j)/\∀k (h:k<xs.size),SetTable.below xs j<=k->j<=xs[k]:=
 zT hp xs.size 0 xs.size (by lia) (bAJ _) (j6 _) (λk _ h=>absurd h (bCT _)) (λk h1 h2=>absurd h1 (by lia))
theorem aCw {α:Type}(xs:Array α)(p:Nat)(x:α)(hp:p<=xs.size):(SetTable.insertAt xs p x).toList=xs.toList.take p++x::xs.toList.drop p:=by unfold SetTable.insertAt;rw[bC0,bES,Array.toList_extract,Array.toList_extract];simp only[List.extract_eq_drop_take,List.drop_zero,Nat.sub_zero,bDD,List.singleton_append];have e:(xs.toList.drop p).take (xs.size - p)=xs.toList.drop p:=bAY (by rw[bB2,bAA];exact j6 _);rw[e]
theorem aIy {xs:Array Nat}:Ris xs↔xs.toList.Pairwise (·<·):=by
 rw[List.pairwise_iff_getElem];unfold Ris;constructor
 ·intro h i j hi hj hij;exact h i j (by simpa using hi) (by simpa using hj) hij
 ·intro h a b ha hb hab;exact h a b (by simpa using ha) (by simpa using hb) hab
theorem aBc {xs:Array Nat}{j:Nat}(hp:Ris xs)(hn:xs[SetTable.below xs j]?≠some j):Ris (SetTable.insertAt xs (SetTable.below xs j) j):=by
 obtain⟨b1,b2,b3⟩:=uU hp j;rw[aIy,aCw _ _ _ b1,List.pairwise_append,List.pairwise_cons];have pw:=aIy.mp hp;have below:∀a∈xs.toList.take (SetTable.below xs j),a<j:=λa ha=>by
  obtain⟨i,hi,rfl⟩:=bCB ha;rw[List.getElem_take];rw[bAL] at hi;have hi':i<xs.toList.length:=by lia
  exact b2 i (by simpa using hi') (by lia)
 have above:∀a∈xs.toList.drop (SetTable.below xs j),j<a:=λa ha=>by
  obtain⟨i,hi,rfl⟩:=bCB ha;rw[List.getElem_drop];rw[bB2] at hi;have hs':SetTable.below xs j+i<xs.toList.length:=by lia
  have hs:SetTable.below xs j+i<xs.size:=by simpa using hs'
  have h1:=b3 _ hs (bBS _ _);rw[Array.getElem_toList];rcases Nat.lt_or_eq_of_le h1 with h|h
  ·exact h
  ·exfalso;cases i with
   |zero=>exact hn ((t8 hs).trans (congrArg some h.symm))
   |succ i=>
    have hb:SetTable.below xs j<xs.size:=by lia
    have h2:=b3 _ hb (j6 _);have h3:=hp _ _ hb hs (by lia);lia
 refine⟨pw.sublist (bDX _ _),⟨above,pw.sublist (List.drop_sublist _ _)⟩,λa ha b hb=>?_⟩;rcases List.mem_cons.mp hb with rfl|hb
 ·exact below a ha
 ·exact bDZ (below a ha) (above b hb)
theorem aKi {t:SetTable}{j:Nat}(h:t.slot j=.empty):t.place[SetTable.below t.place j]?≠some j:=by unfold SetTable.slot at h;intro e;simp[e] at h
theorem aFc {t:SetTable}(hd:t.dummies=#[])(j:Nat):t.slot j≠.dummy:=by
 unfold SetTable.slot;rw[hd];dsimp only
 split
 ·intro z;cases z
 ·have:SetTable.has #[] j=false:=by unfold SetTable.has;simp
  rw[this];intro z;cases z
theorem aGr {t:SetTable}{g:Nat->Int}{h:Int}(hd:t.dummies=#[]):∀(fuel:Nat) (p:SetTable.Probe) (j:Nat) (dm:Option Nat),p.dummy=none->SetTable.probe.go t g h fuel p=some (.empty j dm)->dm=none/\t.slot j=.empty
 |0,p,j,dm,_,e=>by cases e
 |fuel+1,p,j,dm,hp,e=>by
  unfold SetTable.probe.go at e;have adv:∀q:SetTable.Probe,q.dummy=none->(t.advance q).dummy=none:=λq hq=>by
   unfold SetTable.advance
   split
   ·exact hq
   ·exact hq
  split at e
  ·rename_i hs;cases e;exact⟨hp,hs⟩
  ·rename_i hs;exact absurd hs (aFc hd _)
  ·split at e
   ·cases e
   ·exact aGr hd fuel _ j dm (adv p hp) e
theorem aHc {t:SetTable}{h:Int}{j:Nat}{b:Bool}(hd:t.dummies=#[])(e:t.freeSlot h=some (j,b)):t.place[SetTable.below t.place j]?≠some j:=by
 unfold SetTable.freeSlot at e
 split at e
 ·rename_i j' dm hq;unfold SetTable.probe at hq;obtain⟨rfl,hs⟩:=aGr hd _ _ _ _ rfl hq;cases e;exact aKi hs
 ·cases e
def TabOk (b:Bool)(t:SetTable):Prop:=(b=false->t.led=true)/\t.dummies=#[]/\7<=t.mask/\(t.plain=true->Ris t.place)
theorem TabOk.stand {b:Bool}{t:SetTable}{n:Nat}(h:TabOk b t)(hn:1<=n):TabOk b (t.standIn n):=⟨h.1,rfl,by show 7<=4 * n+4;lia,λz=>by cases z⟩
theorem TabOk.off {b:Bool}{t:SetTable}(h:TabOk b t):TabOk b { t with plain:=false }:=⟨h.1,h.2.1,h.2.2.1,λz=>by cases z⟩
theorem TabOk.new {b:Bool}{t:SetTable}{es:Array (Int × Value)}{h:Int}{x:Value}(ok:TabOk b t):TabOk b (layNew t es h x).2.1:=by
 unfold layNew
 split
 ·rename_i slot wd e;have hs:=aHc ok.2.1 e;dsimp only[SetTable.put];have hdm:(if SetTable.has t.dummies slot=true then SetTable.eraseAt t.dummies (SetTable.below t.dummies slot) else t.dummies)=#[]:=by
   rw[ok.2.1];have:SetTable.has #[] slot=false:=by unfold SetTable.has;simp
   rw[this];rfl
  rw[hdm];unfold SetTable.orStandIn
  split
  ·exact⟨ok.1,rfl,ok.2.2.1,λz=>aBc (ok.2.2.2 z) hs⟩
  ·refine TabOk.stand (t:={ t with place:=_,dummies:=#[] }) ⟨ok.1,rfl,ok.2.2.1,λz=>aBc (ok.2.2.2 z) hs⟩ ?_;unfold SetTable.insertAt;simp only[Array.size_append,Array.size_push,Array.size_extract];lia
 ·exact ok.stand (Nat.succ_le_succ (bAJ _))
theorem TabOk.room {b:Bool}{t:SetTable}{n:Nat}(ok:TabOk b t)(hf:t.fits n=true)(hn:n<=4):t.tooFull=false:=by unfold SetTable.fits at hf;rw[bAU,beq_iff_eq] at hf;unfold SetTable.tooFull SetTable.fill;rw[hf.1,ok.2.1];have:=ok.2.2.1;simp only[Array.size_empty,Nat.add_zero,decide_eq_false_iff_not];lia
theorem yI {α β:Type}{R:α->β->Prop}{bs' bs:List β}(p:bs'.Perm bs):∀{as:List α},Paired R as bs->∃as',Paired R as' bs'/\as'.Perm as:=by
 induction p with
 |nil=>intro as h;exact⟨as,h,.refl _⟩
 |cons x _ ih=>
  intro as h;cases h with
  |cons r t=>obtain⟨as',h1,h2⟩:=ih t;exact⟨_,.cons r h1,h2.cons _⟩
 |swap x y l=>
  intro as h;cases h with
  |cons r t=>
   cases t with
   |cons r2 t2=>exact⟨_,.cons r2 (.cons r t2),.swap ..⟩
 |trans _ _ ih1 ih2=>intro as h;obtain⟨a1,h1,h2⟩:=ih2 h;obtain⟨a2,h3,h4⟩:=ih1 h1;exact⟨a2,h3,h4.trans h2⟩
theorem aHp {α β:Type}{R:α->β->Prop}{as:List α}{bs:List β}{a:α}{b:β}(h:Paired R as bs)(r:R a b):Paired R (as++[a]) (bs++[b]):=by
 induction h with
 |nil=>exact .cons r .nil
 |cons q _ ih=>exact .cons q ih
theorem aIx {α β:Type}{R:α->β->Prop}{as:List α}{bs:List β}(h:Paired R as bs):∀a∈as,∃b∈bs,R a b:=by
 induction h with
 |nil=>intro a ha;cases ha
 |cons q _ ih=>
  intro a ha;rcases List.mem_cons.mp ha with rfl|ha
  ·exact⟨_,m9,q⟩
  ·obtain⟨b,hb,r⟩:=ih a ha;exact⟨b,j8 _ hb,r⟩
theorem yJ {α β:Type}{R:α->β->Prop}{as:List α}{bs:List β}(h:Paired R as bs):∀b∈bs,∃a∈as,R a b:=by
 induction h with
 |nil=>intro a ha;cases ha
 |cons q _ ih=>
  intro b hb;rcases List.mem_cons.mp hb with rfl|hb
  ·exact⟨_,m9,q⟩
  ·obtain⟨a,ha,r⟩:=ih b hb;exact⟨a,j8 _ ha,r⟩
section
variable {prog:Program}{w:World}{κ:Type}[DecidableEq κ]{knd:KeyKind prog w κ}{A:Around}{E:bEU}{s:Shared}
def byT (w:World):Bool:=w.params.followText "set-order"
abbrev ElK (knd:KeyKind prog w κ):κ->Int × Value->Prop:=λk e=>knd.is k e.2=true/\e.1=knd.hash k/\e.2.scannable=true
def oA (knd:KeyKind prog w κ)(h:Heap)(D:Addr)(kl:List κ):Prop:=∃o es ep t,h.get? D=some o/\o.ExactSet/\o.data=.set es ep t/\t.fits es.size=true/\TabOk (byT w) t/\Paired (ElK knd) kl es.toList
theorem oA.at {h h':Heap}{D:Addr}{kl:List κ}(x:oA knd h D kl)(e:∀o,h.get? D=some o->h'.get? D=some o):oA knd h' D kl:=by obtain⟨o,es,ep,t,ho,r⟩:=x;exact⟨o,es,ep,t,e o ho,r⟩
theorem aP9 {D:Addr}{kl:List κ}{k:κ}{x:Value}{Q:Bool->Shared->Prop}(hkey:knd.is k x=true)(hsc:x.scannable=true)(hS:oA knd s.heap D kl)(hroom:kl.length<4)
  (h:∀h' kl' b,Heap.SameBut D s.heap h'->oA knd h' D kl'->kl'.Perm (if k∈kl then kl else kl++[k])->Q b { s with heap:=h' }):wpAny (model prog w) A (setAddHashed D x (knd.hash k)) Q E s:=by
 obtain⟨o,es,ep,t,ho,hex,hd,hf,tab,pr⟩:=hS;have hn:kl.length=es.size:=by rw[Paired.length pr,bAA]
 have hel:ElemsOf knd es.toList:=λe he=>by obtain⟨k',_,r1,r2,r3⟩:=yJ pr e he;exact⟨⟨k',r1,r2⟩,r3⟩
 have hb:es.size<scanBound:=by unfold scanBound;lia
 unfold setAddHashed setAddHashedIn;refine bAV (c7 (bCW ho hd hf ?_));dsimp only;rw[byScan_of hsc hb hel];simp only[↓reduceIte];unfold setAddByScan;refine c7 (c7 (bCY (c7 (wpAny_setScan_of hkey ho hd hf hel ?_))));cases hr:List.findIdx? (λe=>knd.is k e.2) es.toList with
 |some j=>
  dsimp only;obtain⟨hj,hpj,_⟩:=List.findIdx?_eq_some_iff_getElem.mp hr;obtain⟨k',hk',r1,_⟩:=yJ pr _ (bAR hj);have hin:k∈kl:=by rw[knd.inj _ k k' hpj r1];exact hk'
  refine j4 (j4 ?_);have e:s={ s with heap:=s.heap }:=by cases s;rfl
  rw[e];exact h s.heap kl _ (Heap.SameBut.refl D s.heap) ⟨o,es,ep,t,ho,hex,hd,hf,tab,pr⟩ (by rw[if_pos hin])
 |none=>
  dsimp only;have hout:k∉kl:=λz=>by obtain⟨e,he,r1,_⟩:=aIx pr k z;have:=List.findIdx?_eq_none_iff.mp hr e he;rw[r1] at this;cases this
  have hgw:∀(b:Bool) {s₁:Shared} {Q':Unit->Shared->Prop},Q' () s₁->wpAny (model prog w) A (match b with|true=>rule "set.scan.the-table-gave-way"|false=>pure ()) Q' E s₁:=λb s₁ Q' hq=>match b with
   |true=>bCY hq
   |false=>j4 hq
  have hperm:=layNew_perm t es (knd.hash k) x;have hfits:=layNew_fits t es (knd.hash k) x;have htab:TabOk (byT w) (layNew t es (knd.hash k) x).2.1:=tab.new;generalize hL:layNew t es (knd.hash k) x=L at hperm hfits htab ⊢;obtain⟨es1,t1,wasDummy,gave⟩:=L;dsimp only at hperm hfits htab ⊢;rw[bES] at hperm;obtain⟨kl',pr',pm⟩:=yI hperm (aHp pr (show ElK knd k (knd.hash k,x) from ⟨hkey,rfl,hsc⟩));have hsz:es1.size=es.size+1:=by rw[<-bAA,hperm.length_eq,bAC,bAA];rfl
  refine c7 (hgw _ ?_);have fin:∀t2:SetTable,TabOk (byT w) t2->t2.fits es1.size=true->∀(R:Option Bool->Shared->Prop),(∀h',Heap.SameBut D s.heap h'->oA knd h' D kl'->R (some true) { s with heap:=h' }) ->
    wpAny (model prog w) A (storeSet D es1 t2) (λ_ s₁=>t2.tooFull=false/\R (some true) s₁) E s:=λt2 h2 f2 R hR=>by
   refine wpAny_storeSet_of ho hd ⟨h2.room f2 (by lia),?_⟩ (fits_of_scanBound (by unfold scanBound;lia));have hg:=bAX (Obj.putSet es1 t2) ho (by rw[putSet_of es1 t2 hd];rfl);rw[putSet_of es1 t2 hd] at hg;exact hR _ (bBP s.heap D (Obj.putSet es1 t2)) ⟨_,es1,ep+1,t2,hg,hex,rfl,f2,h2,pr'⟩
  have hend:∀h',Heap.SameBut D s.heap h'->oA knd h' D kl'->Q true { s with heap:=h' }:=λh' sb q=>h h' kl' true sb q (by rw[if_neg hout];exact pm)
  split
  ·refine c7 ?_;rw[hashByValue_scannable 8 hsc];refine j4 ?_;refine c7 (bBB (fin (if plainKind x=true then t1 else { t1 with plain:=false }) (by split;exact htab;exact htab.off) (by split;exact hfits;exact SetTable.fits_plain_off hfits) (λr s₁=>wpAny (model prog w) A (match r with|some b=>pure b|none=>unsupported "x") Q E s₁) λh' sb q=>j4 (hend h' sb q)) (λ_ s₁ ⟨tf,q⟩=>?_) λ_ _ z=>z);rw[tf];simp only[Bool.and_false,bBE,↓reduceIte];exact j4 q
  ·refine c7 (j4 ?_);simp only[↓reduceIte];refine c7 (bBB (fin t1 htab hfits (λr s₁=>wpAny (model prog w) A (match r with|some b=>pure b|none=>unsupported "x") Q E s₁) λh' sb q=>j4 (hend h' sb q)) (λ_ s₁ ⟨tf,q⟩=>?_) λ_ _ z=>z);rw[tf];simp only[Bool.and_false,bBE,↓reduceIte];exact j4 q
def Ded (kl xs:List κ):Prop:=kl.Nodup/\(∀k,k∈kl↔k∈xs)/\kl.length<=xs.length
theorem Ded.more {kl kl' xs:List κ}{k:κ}(h:Ded kl xs)(p:kl'.Perm (if k∈kl then kl else kl++[k])):Ded kl' (xs++[k]):=by
 obtain⟨h1,h2,h3⟩:=h;by_cases hk:k∈kl
 ·rw[if_pos hk] at p;refine⟨p.nodup_iff.mpr h1,λy=>?_,by rw[p.length_eq,bAC];lia⟩;rw[p.mem_iff,h2,List.mem_append,bCS];exact⟨.inl,λz=>z.elim id λe=>e ▸ (h2 k).mp hk⟩
 ·rw[if_neg hk] at p;refine⟨p.nodup_iff.mpr (List.nodup_append.mpr ⟨h1,by simp,λa ha b hb e=>?_⟩),λy=>?_,by rw[p.length_eq,bAC,bAC];exact Nat.add_le_add_right h3 _⟩
  ·rw[bCS] at hb;exact hk (hb ▸ e ▸ ha)
  ·rw[p.mem_iff,List.mem_append,List.mem_append,h2]
theorem aPv {A:Around}{R:Result->Shared->Prop}{I:Addr}{fp wr:List Addr}{n:Nat}{P:Nat->Value->Prop}{St:Nat->Heap->Prop}(W:Walks prog w A.in1 I fp wr n P St)(D:Addr)(hD:D∉fp)
  (ks:List κ) (hks:ks.length=n) (hval:∀i v,P i v->∃k,ks[i]?=some k/\knd.is k v=true/\v.scannable=true) (hb:n<=4) :
  ∀(k i:Nat) (s:Shared) (kl:List κ),i+k=n->St i s.heap->oA knd s.heap D kl->Ded kl (ks.take i) ->
   (∀h' tk kl',(∀b o,b∉D::wr->s.heap.get? b=some o->h'.get? b=some o)->oA knd h' D kl'->Ded kl' ks->R (.ok (.ret .none)) { s with heap:=h',toks:=tk }) ->
   codeAny (model prog w) A (.builtin "set.update.loop" ⟨[.ref D,.ref I],[]⟩) R s:=by
 have hDw:D∉wr:=λq=>hD (W.sub _ q);intro k
 induction k with
 |zero=>
  intro i s kl hi st hS dd q;obtain rfl:i=n:=by lia
  refine bBF bBT ?_;rw[bBC bBA _];show wpAny _ A.in1 (pyNext (.ref I) >>= _) _ _ _;refine c7 (W.done s _ _ st λh' tk kp=>?_);rw[bAY (bEI hks)] at dd;exact j4 (q h' tk kl (λb o nb e=>kp b o (λz=>nb (j8 _ z)) e) (hS.at λo e=>kp D o hDw e) dd)
 |succ k ih=>
  intro i s kl hi st hS dd q;refine bBF bBT ?_;rw[bBC bBA _];show wpAny _ A.in1 (pyNext (.ref I) >>= _) _ _ _;refine c7 (W.item i s _ _ (by lia) st λv h1 tk1 hP st1 kp1=>?_);obtain⟨kk,ek,hkv,hsc⟩:=hval i v hP;have hS1:oA knd h1 D kl:=hS.at λo e=>kp1 D o hDw e;show wpAny _ A.in1 (holding [v] (setAdd D v) >>= _) _ _ _;refine c7 (bAV ?_);unfold setAdd;refine bAV (c7 (knd.pyHash hkv ?_));have lt:(ks.take i).length=i:=by rw[bAL];lia
  refine aP9 hkv hsc hS1 (by have:=dd.2.2;lia) λh2 kl2 b2 sb2 hS2 pm=>?_;have et:ks.take (i+1)=ks.take i++[kk]:=by rw[bBD,ek];rfl
  have kp2:∀b o,b∉D::wr->s.heap.get? b=some o->h2.get? b=some o:=λb o nb e=>by rw[sb2.2 b (λz=>nb (by rw[z];exact m9))];exact kp1 b o (λz=>nb (j8 _ z)) e
  refine j4 ⟨bCJ bBA _,ih (i+1) _ kl2 (by lia) (W.frame _ _ _ st1 λb hb o e=>?_) hS2 (by rw[et];exact dd.more pm) λh' tk kl' kp hS' d'=>q h' tk kl' (λb o nb e=>kp b o nb (kp2 b o nb e)) hS' d'⟩;rw[sb2.2 b (λz=>hD (by rw[<-z];exact hb))];exact e
theorem aTa {h:Heap}{D:Addr}(hg:h.get? D=some (bA (!byT w))):oA knd h D []:=by refine⟨_,#[],0,_,hg,⟨rfl,rfl,rfl⟩,rfl,rfl,⟨λe=>?_,rfl,j6 _,λ_=>λa b ha=>absurd ha (by show ¬ (a<0);lia)⟩,.nil⟩;show (!byT w)=true;rw[e];rfl
theorem aGy (a:Value){Q₁:bEU}(h:Q₁ (.ref s.heap.objs.size) { s with heap:=s.heap.push (bA (!byT w)) }):codeAny (model prog w) A (.call (.builtin "set.__new__") ⟨[.type "set",a],[]⟩) (wants Q₁ E) s:=by have hsub:=sub_set_self;refine bEF (show wpAny _ A.in1 (do checkBuiltinCall "set.__new__" ⟨[.type "set",a],[]⟩;again (.builtin "set.__new__" ⟨[.type "set",a],[]⟩)) _ _ s from c7 (bEB (F.newCall_set_1 a) (j4 ⟨bCJ F.plain_set_new _,bBF F.entry_set_new ?_⟩)));rw[bBC F.plain_set_new _];unfold Builtin.«set.__new__» Builtin.Frozenset.newClass;obtain⟨hp,g,d,tk,os⟩:=s;dsimp only;wp_walk;refine bC4 (j4 ?_);dsimp only;simp only[newObj];exact c7 (wpAny_alloc (j4 (j4 h)))
theorem aP3 {A:Around}{R:Fin->Shared->Prop}{E:bEU}{s:Shared}{l:Addr}{its:Array Value}{ks:List κ}(hh:A.handled=none)(hl:s.heap.IsList l its)(hlen:ks.length=its.size)
  (hval:∀(i:Nat) (v:Value),its[i]?=some v->∃k,ks[i]?=some k/\knd.is k v=true/\v.scannable=true) (hb:its.size<=4)
  (q:∀h' tk kl,oA knd h' s.heap.objs.size kl->Ded kl ks->(∀b o,b<s.heap.objs.size->s.heap.get? b=some o->h'.get? b=some o)->R (.done (.ret .none)) { s with heap:=h',toks:=tk }) :
  wpAny (model prog w) A (Builtin.«set.__init__» ⟨[.ref s.heap.objs.size,.ref l],[]⟩) R E { s with heap:=s.heap.push (bA (!byT w)) }:=by
 obtain⟨⟨oc,od,ox,osl⟩,hol,hcl,nl,hdl⟩:=id hl;simp only at hcl hdl;subst hcl hdl;have hS:(s.heap.push (bA (!byT w))).get? s.heap.objs.size=some (bA (!byT w)):=j5 _ rfl;have hT:Shared.TypeIs { s with heap:=s.heap.push (bA (!byT w)) } (.ref s.heap.objs.size) "set":=⟨_,hS,rfl⟩;have hol':(s.heap.push (bA (!byT w))).get? l=some { cls:=.type "list",dict:=od,data:=.seq its nl,slots:=osl }:=j0 _ hol;have f1:=F.sub_list_set;have f2:=F.sub_list_frozenset;have f3:(Value.type "list" == Value.type "dict")=false:=by decide
 have hl1:(s.heap.push (bA (!byT w))).IsList l its:=⟨_,hol',rfl,nl,rfl⟩;have hlt:l<s.heap.objs.size:=m8 hol;unfold Builtin.«set.__init__» noKeywords Builtin.Frozenset.updateFrom;generalize hPI:pyIter=PI;wp_walk;subst hPI;refine bB5 hl1 ?_;refine c7 (wpAny_runValue ?_);have hz:(s.heap.push (bA (!byT w))).objs.size=s.heap.objs.size+1:=bAW ..;have hne:l≠(s.heap.push (bA (!byT w))).objs.size:=by rw[hz];exact t7 (bBH hlt)
 have hSf:s.heap.objs.size∉[(s.heap.push (bA (!byT w))).objs.size,l]:=by rw[hz];simp only[bAD,v9,or_false,not_or];exact⟨t7 (bCO _),bBY hlt⟩
 refine aPv (Walks.list (by first|exact hh|simp[hh]) _ l hne its) s.heap.objs.size hSf ks hlen hval hb its.size 0 _ [] (by lia) ⟨⟨_,j5 _ rfl,rfl,rfl⟩,hl1.push _⟩ ?_ ⟨bEN,λk=>by simp,bAJ _⟩ λh' tk kl kp hS' dd=>?_
 ·have hg:((s.heap.push (bA (!byT w))).push { cls:=.type "list_iterator",data:=.fields #[.ref l,.int 0 0] }).get? s.heap.objs.size=some (bA (!byT w)):=j0 _ hS;exact aTa hg
 ·refine j4 (j4 (q h' tk kl hS' dd λb o hb' e=>kp b o ?_ (j0 _ (j0 _ e))));rw[hz];simp only[bAD,v9,or_false,not_or];exact⟨t7 hb',t7 (bBH hb')⟩
theorem aOa {l:Addr}{its:Array Value}{ks:List κ}{Q:bEU}(hh:A.handled=none)(hl:s.heap.IsList l its)(hlen:ks.length=its.size)
  (hval:∀(i:Nat) (v:Value),its[i]?=some v->∃k,ks[i]?=some k/\knd.is k v=true/\v.scannable=true) (hb:its.size<=4)
  (q:∀h' tk kl,oA knd h' s.heap.objs.size kl->Ded kl ks->(∀b o,b<s.heap.objs.size->s.heap.get? b=some o->h'.get? b=some o)->Q (.ref s.heap.objs.size) { s with heap:=h',toks:=tk }) :
  wpAny (model prog w) A (call (.type "set") [.ref l]) Q E s:=by
 have ft:=F.called_set;obtain⟨c,tl,hmro⟩:=ft.mro;have g1:=ft.made;have g2:=ft.sub;have g3:=ft.notType;have g4:=ft.canCreate;have g5:=F.typeCall_set_1 (.ref l);refine bCX (bEF (show wpAny _ _ (callAny (.type "set") _) _ _ _ from j4 ⟨Code.quiet_builtin _ (by decide +kernel),bBF F.entry_type_call ?_⟩));rw[Around.under_plain (weight_type_call_type "set" [.ref l] []) (by rfl)]
 repeat (any_goals (first|assumption|wp_step))
 refine bBR (aGy (.ref l) (Q₁:=λobj s1=>obj=.ref s.heap.objs.size/\s1={ s with heap:=s.heap.push (bA (!byT w)) }) (E:=E) ⟨rfl,rfl⟩) λr s1 hr=>?_;rcases r with e|fl
 ·exact hr
 rcases fl with _|_|_|obj
 ·exact hr.elim
 ·exact hr.elim
 ·exact hr.elim
 obtain⟨rfl,rfl⟩:=hr;have hT:Shared.TypeIs { s with heap:=s.heap.push (bA (!byT w)) } (.ref s.heap.objs.size) "set":=⟨_,j5 _ rfl,rfl⟩;have g6:=ft.init.lookup;have g7:=ft.init.bind (.ref s.heap.objs.size)
 repeat (any_goals (first|assumption|wp_step))
 refine bBR (bCK (R:=wants (λr s2=>r=.none/\∃h' tk kl,s2={ s with heap:=h',toks:=tk }/\oA knd h' s.heap.objs.size kl/\Ded kl ks/\∀b o,b<s.heap.objs.size->s.heap.get? b=some o->h'.get? b=some o) E)
  ft.init.plain F.entry_set_init (check_set_init_1 hT (aP3 (by first|exact hh|simp[hh]) hl hlen hval hb λh' tk kl x dd kp=>⟨rfl,h',tk,kl,rfl,x,dd,kp⟩))) λr2 s2 hr2=>?_
 rcases r2 with e|fl
 ·exact hr2
 rcases fl with _|_|_|v
 ·exact hr2.elim
 ·exact hr2.elim
 ·exact hr2.elim
 obtain⟨rfl,h',tk,kl,rfl,x,dd,kp⟩:=hr2
 repeat (any_goals (first|assumption|wp_step))
 exact q h' tk kl x dd kp
end
end PySem
namespace PySem
section
variable {prog:Program}{w:World}{A:Around}{E:bEU}{s:Shared}
theorem uJ {α:Type}:∀(l:List α) (i:Nat) (h:i<l.length),(l[i]::l.eraseIdx i).Perm l
 |x::l,0,_=>.refl _
 |x::l,i+1,h=>by have ih:=uJ l i (Nat.lt_of_succ_lt_succ h);exact (List.Perm.swap x _ (l.eraseIdx i)).trans (ih.cons x)
theorem aE1 {src:Source}{n:Nat}{Q:Nat->Shared->Prop}(hn:n≠0)(h:∀i dr,i<n->Q i { s with drawn:=dr }):wpAny (model prog w) A (choose src n) Q E s:=
 λ_ _ _=>⟨hn,h _ _ (Nat.mod_lt _ (Nat.pos_of_ne_zero hn))⟩
theorem pJ {α:Type}:∀(n:Nat) (xs:List α) (s:Shared) (Q:List α->Shared->Prop),xs.length=n->(∀ys dr,ys.Perm xs->Q ys { s with drawn:=dr })->wpAny (model prog w) A (drawOrder n xs) Q E s
 |0,xs,s,Q,hl,h=>by have e:xs=[]:=bED hl;subst e;unfold drawOrder;exact j4 (h [] s.drawn (.refl _))
 |n+1,xs,s,Q,hl,h=>by
  cases xs with
  |nil=>cases hl
  |cons x xs=>unfold drawOrder;refine c7 (aE1 (by rw[hl];lia) λi dr hi=>?_);rw[d9 hi];dsimp only;refine c7 (pJ n _ _ _ (by rw[bEO hi,hl];rfl) λys dr' p=>j4 ?_);refine h _ dr' ?_;have e:=uJ _ _ hi;exact (p.cons _).trans e
theorem aNw {α:Type}(next:Nat->Nat):∀(fuel k:Nat) (left:List α) (out:Array α),left.length=fuel->(pickOrder.go next fuel k left out).toList.Perm (out.toList++left)
 |0,k,left,out,h=>by have e:left=[]:=bED h;subst e;unfold pickOrder.go;rw[bBN]
 |fuel+1,k,left,out,h=>by have hlt:next k % left.length<left.length:=Nat.mod_lt _ (by lia);unfold pickOrder.go;rw[d9 hlt];dsimp only;refine (aNw next fuel (k+1) _ _ (by rw[bEO hlt,h];rfl)).trans ?_;rw[bES,bDD];exact List.Perm.append_left _ (uJ _ _ hlt)
theorem xE {α:Type}(next:Nat->Nat)(xs:Array α):(pickOrder next xs).toList.Perm xs.toList:=by unfold pickOrder;exact aNw next xs.size 0 xs.toList #[] (by rw[bAA])
end
theorem bU:Slot "set_iterator" "__next__" "set_iterator.__next__":=.of (owner:="set_iterator") (n:="__next__") (by rw[typeLookup_type,builtinLookup_eq_fast];kernel_rfl) (by decide +kernel) (by decide +kernel) (by decide +kernel) (by first|exact .inl (by decide +kernel)|exact .inr (by decide +kernel)) (by rw[isSubtype_type];kernel_rfl)
theorem rB:Slot "set_iterator" "__iter__" "set_iterator.__iter__":=.of (owner:="set_iterator") (n:="__iter__") (by rw[typeLookup_type,builtinLookup_eq_fast];kernel_rfl) (by decide +kernel) (by decide +kernel) (by decide +kernel) (by first|exact .inl (by decide +kernel)|exact .inr (by decide +kernel)) (by rw[isSubtype_type];kernel_rfl)
theorem fV:entryFor table "set_iterator.__next__"=some Builtin.«set_iterator.__next__»:=entryFor_of_tree (by kernel_rfl)
theorem yX:entryFor table "set_iterator.__iter__"=some Builtin.«dict_keyiterator.__iter__»:=entryFor_alias (id':="dict_keyiterator.__iter__") (by kernel_rfl) rfl (by decide +kernel) (by kernel_rfl)
theorem aBz:entryFor table "set.__iter__"=some Builtin.«frozenset.__iter__»:=entryFor_alias (id':="frozenset.__iter__") (by kernel_rfl) rfl (by decide +kernel) (by kernel_rfl)
theorem zN:Manifest.owners.lookup (String.ofList ['r','o','t','a','r','e','t','i','_','t','e','s'].reverse)=some Manifest.sig_set_iterator:=by kernel_rfl
theorem iY (a:Value):argsOk "set_iterator.__next__" ⟨[a],[]⟩:=by unfold argsOk;rw[signature?_of (id:="set_iterator.__next__") (n:=['_','_','t','x','e','n','_','_']) (o:=['r','o','t','a','r','e','t','i','_','t','e','s']) (by kernel_rfl) zN];kernel_rfl
theorem aAm (a:Value):argsOk "set_iterator.__iter__" ⟨[a],[]⟩:=by unfold argsOk;rw[signature?_of (id:="set_iterator.__iter__") (n:=['_','_','r','e','t','i','_','_']) (o:=['r','o','t','a','r','e','t','i','_','t','e','s']) (by kernel_rfl) zN];kernel_rfl
section
variable {prog:Program}{w:World}{A:Around}{E:bEU}{s:Shared}
def eY (h:Heap)(I:Addr)(first:Value)(i:Nat)(D:Addr)(n ep:Nat):Prop:=h.get? I=some { cls:=.type "set_iterator",data:=.fields #[first,.int i 0,.ref D,.int n 0,.int ep 0] }
def vP (h:Heap)(D:Addr)(es:Array (Int × Value))(ep:Nat)(t:SetTable):Prop:=∃o,h.get? D=some o/\o.ExactSet/\o.data=.set es ep t/\t.fits es.size=true
def aEu (prog:Program)(w:World)(D:Addr)(es:Array (Int × Value))(ep:Nat)(t:SetTable)(slot i:Nat)(r:Option (Value × Nat)):Prop:=
 ∀(A:Around) (E:bEU) (s:Shared) (Q:Option (Value × Nat)->Shared->Prop),vP s.heap D es ep t->Q r s->wpAny (model prog w) A (setNext D slot i ep) Q E s
theorem aDi {I D:Addr}{es:Array (Int × Value)}{ep slot i next:Nat}{t:SetTable}{x:Value}{Q:Option Value->Shared->Prop}(ki:eY s.heap I (.int slot 0) i D es.size ep)(so:vP s.heap D es ep t)(hne:D≠I)
  (nx:aEu prog w D es ep t slot i (some (x,next)))
  (q:∀h',eY h' I (.int next 0) (i+1) D es.size ep->(∀b o,b≠I->s.heap.get? b=some o->h'.get? b=some o)->Q (some x) { s with heap:=h' }):wpAny (model prog w) A (pyNext (.ref I)) Q E s:=by
 have ty:s.TypeIs (.ref I) "set_iterator":=⟨_,ki,rfl⟩;obtain⟨o,ho,hex,hd,hf⟩:=id so;unfold pyNext;refine c7 (bB4 (bAG (name:="__next__") ty bU (bAE bU ty fV (c7 (j4 (c7 (bDH ki rfl ?_)))) (iY _))));show wpAny _ _ (setEntries D >>= _) _ _ s;refine c7 (bC2 ho hd hf ?_);dsimp only;rw[if_neg (by simp)];simp only[bAT];refine c7 (nx _ _ _ _ so ?_);dsimp only;refine c7 (bAI ki (by simp) λh1 e1 s1=>?_);have f1:eY h1 I (.int next 0) i D es.size ep:=by simpa [rawInt,eY] using e1
 refine c7 (bAI f1 (by simp) λh2 e2 s2=>?_);have f2:eY h2 I (.int next 0) (i+1) D es.size ep:=by
  have z:((i+1:Nat):Int)=(i:Int)+1:=by lia
  unfold eY;rw[z];simpa [rawInt] using e2
 exact j4 ⟨_,rfl,j4 (q h2 f2 λb o hb e=>s2.extBut b o hb (s1.extBut b o hb e))⟩
theorem aDb {I D:Addr}{es:Array (Int × Value)}{ep slot i:Nat}{t:SetTable}{Q:Option Value->Shared->Prop}(hh:A.handled=none)(ki:eY s.heap I (.int slot 0) i D es.size ep)(so:vP s.heap D es ep t)
  (nx:aEu prog w D es ep t slot i none) (q:∀h',(∀b o,b≠I->s.heap.get? b=some o->h'.get? b=some o)->Q none { s with heap:=h' }):wpAny (model prog w) A (pyNext (.ref I)) Q E s:=by
 have ty:s.TypeIs (.ref I) "set_iterator":=⟨_,ki,rfl⟩;obtain⟨o,ho,hex,hd,hf⟩:=id so;unfold pyNext;refine c7 (bB4 (bAG (name:="__next__") ty bU (bAE bU ty fV (c7 (j4 (c7 (bDH ki rfl ?_)))) (iY _))));show wpAny _ _ (setEntries D >>= _) _ _ s;refine c7 (bC2 ho hd hf ?_);dsimp only;rw[if_neg (by simp)];simp only[bAT];refine c7 (nx _ _ _ _ so ?_);dsimp only;refine c7 (bBV ki rfl (by simp) ?_);refine c7 ?_;simp only[newExc,newTuple,raiseNew];refine c7 (bAH ?_ (by size_fits));refine c7 (m:=firstArgMember _ _) (bEB (a:=Value.none) (by simp only[firstArgMember];rfl) ?_);refine bAH (c7 (bD8 ?_)) (by size_fits);rw[show A.in1.handled=none from hh];refine c7 (j4 (bEQ ?_));refine c7 (bCQ (T:="StopIteration") (b:=true) ⟨_,j5 _ rfl,rfl⟩ isSubtype_stop ?_);exact j4 (q _ (((bBP ..).extBut.push _).push _))
theorem aLg {I D T:Addr}{es:Array (Int × Value)}{ep i j:Nat}{t:SetTable}{pl:Array Value}{e:Int × Value}{Q:Option Value->Shared->Prop}(ki:eY s.heap I (.ref T) i D es.size ep)(so:vP s.heap D es ep t)(tp:s.heap.get? T=some { cls:=.type "tuple",data:=.seq pl })
  (hj:pl[i]?=some (.int j 0)) (he:es[j]?=some e)
  (q:∀h',eY h' I (.ref T) (i+1) D es.size ep->(∀b o,b≠I->s.heap.get? b=some o->h'.get? b=some o)->Q (some e.2) { s with heap:=h' }):wpAny (model prog w) A (pyNext (.ref I)) Q E s:=by
 have ty:s.TypeIs (.ref I) "set_iterator":=⟨_,ki,rfl⟩;obtain⟨o,ho,hex,hd,hf⟩:=id so;unfold pyNext;refine c7 (bB4 (bAG (name:="__next__") ty bU (bAE bU ty fV (c7 (j4 (c7 (bDH ki rfl ?_)))) (iY _))));show wpAny _ _ (setEntries D >>= _) _ _ s;refine c7 (bC2 ho hd hf ?_);dsimp only;rw[if_neg (by simp)];simp only[bAT];refine c7 (bAZ tp rfl ?_);dsimp only;rw[hj];dsimp only;unfold setNextDrawn;refine c7 (c7 (bCW ho hd hf ?_));dsimp only;rw[if_neg (by simp)];refine c7 (j4 ?_);simp only[bAT,he];refine j4 (c7 (bAI ki (by simp) λh2 e2 s2=>?_));have f2:eY h2 I (.ref T) (i+1) D es.size ep:=by
  have z:((i+1:Nat):Int)=(i:Int)+1:=by lia
  unfold eY;rw[z];simpa [rawInt] using e2
 exact j4 ⟨_,rfl,j4 (q h2 f2 λb o hb e=>s2.extBut b o hb e)⟩
theorem aL5 {I D T:Addr}{es:Array (Int × Value)}{ep i:Nat}{t:SetTable}{pl:Array Value}{Q:Option Value->Shared->Prop}(hh:A.handled=none)(ki:eY s.heap I (.ref T) i D es.size ep)(so:vP s.heap D es ep t)(tp:s.heap.get? T=some { cls:=.type "tuple",data:=.seq pl })
  (hj:pl[i]?=none) (q:∀h',(∀b o,b≠I->s.heap.get? b=some o->h'.get? b=some o)->Q none { s with heap:=h' }):wpAny (model prog w) A (pyNext (.ref I)) Q E s:=by
 have ty:s.TypeIs (.ref I) "set_iterator":=⟨_,ki,rfl⟩;obtain⟨o,ho,hex,hd,hf⟩:=id so;unfold pyNext;refine c7 (bB4 (bAG (name:="__next__") ty bU (bAE bU ty fV (c7 (j4 (c7 (bDH ki rfl ?_)))) (iY _))));show wpAny _ _ (setEntries D >>= _) _ _ s;refine c7 (bC2 ho hd hf ?_);dsimp only;rw[if_neg (by simp)];simp only[bAT];refine c7 (bAZ tp rfl ?_);dsimp only;rw[hj];dsimp only;refine c7 (bAI ki (by simp) λh2 e2 s2=>?_);refine c7 (bBV e2 rfl (by simp) ?_);refine c7 ?_;simp only[newExc,newTuple,raiseNew];refine c7 (bAH ?_ (by size_fits));refine c7 (m:=firstArgMember _ _) (bEB (a:=Value.none) (by simp only[firstArgMember];rfl) ?_);refine bAH (c7 (bD8 ?_)) (by size_fits);rw[show A.in1.handled=none from hh];refine c7 (j4 (bEQ ?_));refine c7 (bCQ (T:="StopIteration") (b:=true) ⟨_,j5 _ rfl,rfl⟩ isSubtype_stop ?_);refine j4 (q _ λb o hb e=>((((bBP ..).extBut.push _).push _)) b o hb (s2.extBut b o hb e))
theorem aC2 {D:Addr}{es:Array (Int × Value)}{ep slot i:Nat}{t:SetTable}(hb:byT w=true):aEu prog w D es ep t slot i (((pickOrder (w.params.setOrder D ep) es)[i]?).map λe=>(e.2,slot)):=by intro A E s Q so q;obtain⟨o,ho,hex,hd,hf⟩:=so;have hb':(⟨(model prog w).prog,(model prog w).w.params⟩:Setting).params.followText "set-order"=true:=hb;unfold setNext setsByText setWalk;refine c7 (bCW ho hd hf ?_);dsimp only;refine c7 (c7 (bC4 (j4 ?_)));rw[if_pos hb',if_neg (by simp)];refine c7 (c7 (bCW ho hd hf ?_));dsimp only;unfold setsByText;refine c7 (c7 (bC4 (j4 ?_)));rw[if_pos hb'];exact c7 (bC4 (j4 (j4 q)))
theorem aBg {D:Addr}{es:Array (Int × Value)}{ep slot i:Nat}{t:SetTable}(hb:byT w=false)(hl:t.led=true)(hp:t.plain=true\/es.size<=1) :
  aEu prog w D es ep t slot i (match es[SetTable.below t.place slot]?,t.place[SetTable.below t.place slot]? with|some (_,x),some j=>some (x,j+1)|_,_=>none):=by
 intro A E s Q so q;obtain⟨o,ho,hex,hd,hf⟩:=so;have hb':(⟨(model prog w).prog,(model prog w).w.params⟩:Setting).params.followText "set-order"=false:=hb;unfold setNext setsByText;refine c7 (bCW ho hd hf ?_);dsimp only;refine c7 (c7 (bC4 (j4 ?_)));rw[if_neg (by rw[hb'];exact t6)]
 split
 ·rename_i hd';have z:(!t.plain && decide (es.size > 1))=true:=hd';rw[bAU,decide_eq_true_eq] at z;rcases hp with h|h
  ·rw[h] at z;cases z.1
  ·lia
 ·refine c7 (show wpAny _ _ (if (!t.led && !es.isEmpty)=true then unsupported "set:maker-not-led" else pure ()) _ _ _ from ?_);rw[if_neg (by rw[hl];exact t6)];exact j4 (j4 q)
theorem wR {I D:Addr}{first:Value}{n ep i:Nat}{Q:bEU}(ki:eY s.heap I first i D n ep)(h:Q (.ref I) s):wpAny (model prog w) A (pyIter (.ref I)) Q E s:=by have ty:s.TypeIs (.ref I) "set_iterator":=⟨_,ki,rfl⟩;refine bD2 ty rB (bAE rB ty yX ?_ (aAm _));show wpAny _ _ (ret (.ref I)) _ _ s;exact j4 ⟨_,rfl,"set_iterator",_,ty,bU.lookup,h⟩
theorem vP.at {h h':Heap}{D:Addr}{es:Array (Int × Value)}{ep:Nat}{t:SetTable}(x:vP h D es ep t)(e:∀o,h.get? D=some o->h'.get? D=some o):vP h' D es ep t:=by obtain⟨o,ho,r⟩:=x;exact⟨o,e o ho,r⟩
theorem aKj {I D:Addr}{es:Array (Int × Value)}{ep:Nat}{t:SetTable}(hb:byT w=true)(hh:A.handled=none)(hne:D≠I) :
  Walks prog w A I [I,D] [I] es.size (λi v=>((pickOrder (w.params.setOrder D ep) es).toList.map (·.2))[i]?=some v) (λi h=>eY h I (.int (0:Nat) 0) i D es.size ep/\vP h D es ep t) where
 sub:=λb hb=>by simp at hb;simp[hb]
 frame:=λ_ _ _ st hk=>⟨hk I (by simp) _ st.1,st.2.at λo e=>hk D (by simp) o e⟩
 item:=λi s Q E hi st hQ=>by
  have hl:(pickOrder (w.params.setOrder D ep) es).size=es.size:=by rw[<-bAA,(xE _ es).length_eq,bAA]
  have hi':i<(pickOrder (w.params.setOrder D ep) es).size:=by lia
  have nx:=aC2 (prog:=prog) (D:=D) (es:=es) (ep:=ep) (slot:=0) (i:=i) (t:=t) hb;rw[t8 hi'] at nx;refine aDi st.1 st.2 hne nx λh' k' kp=>?_;exact hQ _ h' s.toks (by rw[v4,bBI,t8 hi'];rfl) ⟨k',st.2.at λo e=>kp D o hne e⟩ λb o hb e=>kp b o (λz=>hb (by simp[z])) e
 done:=λs Q E st hQ=>by
  have hl:(pickOrder (w.params.setOrder D ep) es).size=es.size:=by rw[<-bAA,(xE _ es).length_eq,bAA]
  have nx:=aC2 (prog:=prog) (D:=D) (es:=es) (ep:=ep) (slot:=0) (i:=es.size) (t:=t) hb;rw[bB9 (by lia)] at nx;exact aDb hh st.1 st.2 nx λh' kp=>hQ h' s.toks λb o hb e=>kp b o (λz=>hb (by simp[z])) e
 self:=λ_ _ _ _ st hQ=>wR st.1 hQ
theorem aGt {I D:Addr}{es:Array (Int × Value)}{ep:Nat}{t:SetTable}(hb:byT w=false)(hl:t.led=true)(hp:t.plain=true\/es.size<=1)(hr:Ris t.place)(hsz:t.place.size=es.size)(hh:A.handled=none)(hne:D≠I) :
  Walks prog w A I [I,D] [I] es.size (λi v=>(es.toList.map (·.2))[i]?=some v) (λi h=>∃slot,eY h I (.int (slot:Nat) 0) i D es.size ep/\vP h D es ep t/\SetTable.below t.place slot=i) where
 sub:=λb hb=>by simp at hb;simp[hb]
 frame:=λ_ _ _ ⟨sl,s1,s2,s3⟩ hk=>⟨sl,hk I (by simp) _ s1,s2.at λo e=>hk D (by simp) o e,s3⟩
 item:=λi s Q E hi ⟨sl,s1,s2,s3⟩ hQ=>by
  have nx:=aBg (prog:=prog) (D:=D) (es:=es) (ep:=ep) (slot:=sl) (i:=i) (t:=t) hb hl hp;have hi':i<t.place.size:=by lia
  rw[s3,t8 hi,t8 hi'] at nx;refine aDi s1 s2 hne nx λh' k' kp=>?_;refine hQ _ h' s.toks (by rw[v4,bBI,t8 hi];rfl) ⟨_,k',s2.at λo e=>kp D o hne e,?_⟩ λb o hb e=>kp b o (λz=>hb (by simp[z])) e;obtain⟨b1,b2,b3⟩:=uU hr (t.place[i]+1);have h1:i<SetTable.below t.place (t.place[i]+1):=Nat.lt_of_not_le λz=>by have:=b3 i hi' z;lia
  rcases Nat.lt_or_eq_of_le (Nat.succ_le_of_lt h1) with h2|h2
  ·exfalso;have hk:i+1<t.place.size:=by lia
   have h3:=b2 (i+1) hk h2;have h4:=hr i (i+1) hi' hk (bCO _);lia
  ·exact h2.symm
 done:=λs Q E ⟨sl,s1,s2,s3⟩ hQ=>by have nx:=aBg (prog:=prog) (D:=D) (es:=es) (ep:=ep) (slot:=sl) (i:=es.size) (t:=t) hb hl hp;rw[s3,bB9 (j6 _)] at nx;exact aDb hh s1 s2 nx λh' kp=>hQ h' s.toks λb o hb e=>kp b o (λz=>hb (by simp[z])) e
 self:=λ_ _ _ _ ⟨_,s1,_⟩ hQ=>wR s1 hQ
theorem aG3 {I D T:Addr}{es:Array (Int × Value)}{ep:Nat}{t:SetTable}{ys:List Nat}(hy:ys.Perm (List.range es.size))(hh:A.handled=none)(hne:D≠I)(hnT:T≠I) :
  Walks prog w A I [I,D,T] [I] es.size (λi v=>((ys.map λj=>es.getD j (0,.none)).map (·.2))[i]?=some v) (λi h=>eY h I (.ref T) i D es.size ep/\vP h D es ep t/\h.get? T=some { cls:=.type "tuple",data:=.seq (ys.map λj=>rawInt (j:Nat)).toArray }) where
 sub:=λb hb=>by simp at hb;simp[hb]
 frame:=λ_ _ _ st hk=>⟨hk I (by simp) _ st.1,st.2.1.at λo e=>hk D (by simp) o e,hk T (by simp) _ st.2.2⟩
 item:=λi s Q E hi st hQ=>by
  have hyl:ys.length=es.size:=by rw[hy.length_eq,bAN]
  have hi':i<ys.length:=by lia
  have hj:ys[i]<es.size:=List.mem_range.mp (hy.mem_iff.mp (bAR hi'));refine aLg (j:=ys[i]) st.1 st.2.1 st.2.2 (by rw[bDC,v4,d9 hi'];rfl) (t8 hj) λh' k' kp=>?_;refine hQ _ h' s.toks ?_ ⟨k',st.2.1.at λo e=>kp D o hne e,kp T _ hnT st.2.2⟩ λb o hb e=>kp b o (λz=>hb (by simp[z])) e;rw[v4,v4,d9 hi'];show some (es.getD ys[i] (0,.none)).2=some es[ys[i]].2;rw[v7,t8 hj];rfl
 done:=λs Q E st hQ=>by
  have hyl:ys.length=es.size:=by rw[hy.length_eq,bAN]
  exact aL5 hh st.1 st.2.1 st.2.2 (by rw[bDC,v4,bAK (by lia)];rfl) λh' kp=>hQ h' s.toks λb o hb e=>kp b o (λz=>hb (by simp[z])) e
 self:=λ_ _ _ _ st hQ=>wR st.1 hQ
theorem aTn {D:Addr}{es:Array (Int × Value)}{ep:Nat}{t:SetTable}{Q:bEU}(hh:A.handled=none)(so:vP s.heap D es ep t)(tab:TabOk (byT w) t)(hn:es.size<=1000)
  (h:∀I fp (order:List (Int × Value)) St h1 dr,(∀b o,s.heap.get? b=some o->h1.get? b=some o)->Walks prog w A I fp [I] es.size (λi v=>(order.map (·.2))[i]?=some v) St->St 0 h1->(∀b∈fp,b=D\/s.heap.objs.size<=b)->s.heap.objs.size<=I->order.Perm es.toList ->
   Q (.ref I) { s with heap:=h1,drawn:=dr }):wpAny (model prog w) A (pyIter (.ref D)) Q E s:=by
 obtain⟨o,ho,hex,hd,hf⟩:=id so;have ty:s.TypeIs (.ref D) "set":=⟨o,ho,hex.1⟩;refine bD2 ty F.slot_set_iter (bAE F.slot_set_iter ty aBz ?_ (F.args_set_iter_1 _));unfold Builtin.«frozenset.__iter__» Builtin.Frozenset.slot0 slotArgs;simp only[List.isEmpty_nil,Bool.not_true,bBE,↓reduceIte,bind_assoc,bBZ,bne_self_eq_false];unfold Builtin.Frozenset.addrOf Builtin.Frozenset.sizeOf setDrawn setsByText;refine c7 (j4 ?_)
 try dsimp only
 refine c7 (j4 ?_);refine c7 (c7 (bC2 ho hd hf (j4 ?_)));refine c7 (c7 (bCW ho hd hf ?_));dsimp only;refine c7 (c7 (bC4 (j4 (j4 ?_))));have hlt:D<s.heap.objs.size:=m8 ho;have zr:((0:Nat):Int)=0:=rfl
 split
 ·rename_i hc;refine c7 (pJ _ _ _ _ (bAN ..) λys dr hy=>?_);refine c7 (bDY ?_ (by rw[j9,hy.length_eq,bAN];exact bAP hn (by decide)));have ho2:({ s with drawn:=dr,heap:=s.heap.push { cls:=.type "tuple",data:=.seq (ys.map λi=>rawInt (i:Nat)).toArray } }:Shared).heap.get? D=some o:=j0 _ ho;refine c7 (wpAny_setEpoch_of ho2 hd hf ?_);refine c7 ?_;unfold newFields;refine bAH (j4 ⟨_,rfl,"set_iterator",_,⟨_,j5 _ rfl,rfl⟩,bU.lookup,?_⟩);have hz:(s.heap.push { cls:=.type "tuple",data:=.seq (ys.map λi=>rawInt (i:Nat)).toArray }).objs.size=s.heap.objs.size+1:=bAW ..;refine h _ [_,D,s.heap.objs.size] (ys.map λj=>es.getD j (0,.none)) _ _ dr (λb o e=>j0 _ (j0 _ e)) (aG3 (t:=t) (ep:=ep) hy hh ?_ ?_) ⟨?_,?_,?_⟩ (λb hb=>?_) ?_ ?_
  ·show D≠Array.size _;rw[hz];exact t7 (bBH hlt)
  ·show s.heap.objs.size≠Array.size _;rw[hz];exact t7 (bCO _)
  ·exact j5 _ rfl
  ·exact⟨o,j0 _ ho2,hex,hd,hf⟩
  ·exact j0 _ (j5 _ rfl)
  ·simp only[bAD,v9,or_false] at hb;rcases hb with rfl|rfl|rfl
   ·right;rw[hz];exact bCU _
   ·left;rfl
   ·right;exact j6 _
  ·rw[hz];exact bCU _
  ·have e:(List.range es.size).map (λj=>es.getD j (0,.none))=es.toList:=by
    refine bB7 λj=>?_;rw[v4,show es.toList[j]?=es[j]? from bBI];by_cases hj:j<es.size
    ·rw[bCA hj,t8 hj];show some (es.getD j (0,.none))=_;rw[v7,t8 hj];rfl
    ·rw[bAK (by rw[bAN];lia),bB9 (by lia)];rfl
   exact (hy.map _).trans (by rw[e])
 ·rename_i hc;refine c7 (j4 (c7 (wpAny_setEpoch_of ho hd hf (c7 ?_))));unfold newFields;refine bAH (j4 ⟨_,rfl,"set_iterator",_,⟨_,j5 _ rfl,rfl⟩,bU.lookup,?_⟩);have ki:eY (s.heap.push { cls:=.type "set_iterator",data:=.fields [rawInt 0,rawInt 0,Value.ref D,rawInt (es.size:Nat),rawInt (ep:Nat)].toArray }) s.heap.objs.size (.int (0:Nat) 0) 0 D es.size ep:=j5 _ rfl;have so2:vP (s.heap.push { cls:=.type "set_iterator",data:=.fields [rawInt 0,rawInt 0,Value.ref D,rawInt (es.size:Nat),rawInt (ep:Nat)].toArray }) D es ep t:=so.at λo e=>j0 _ e;have fpk:∀b∈[s.heap.objs.size,D],b=D\/s.heap.objs.size<=b:=λb hb=>by
   simp only[bAD,v9,or_false] at hb;rcases hb with rfl|rfl
   ·right;exact j6 _
   ·left;rfl
  cases hb:byT w with
  |true=>exact h _ [s.heap.objs.size,D] _ _ _ s.drawn (λb o e=>j0 _ e) (aKj (t:=t) (ep:=ep) hb hh (t7 hlt)) ⟨ki,so2⟩ fpk (j6 _) (xE _ es)
  |false=>
   have hl:t.led=true:=tab.1 hb;have hsz:t.place.size=es.size:=by unfold SetTable.fits at hf;rw[bAU,beq_iff_eq] at hf;exact hf.1
   have hp:t.plain=true\/es.size<=1:=by
    have z:¬ (!byT w && (!t.plain && decide (es.size > 1)))=true:=hc;rw[hb] at z;cases hpl:t.plain with
    |true=>exact .inl rfl
    |false=>rw[hpl] at z;right;simpa using z
   have hr:Ris t.place:=by
    rcases hp with z|z
    ·exact tab.2.2.2 z
    ·intro a b ha hb' hab;lia
   refine h _ [s.heap.objs.size,D] es.toList _ _ s.drawn (λb o e=>j0 _ e) (aGt (t:=t) (ep:=ep) hb hl hp hr hsz hh (t7 hlt)) ⟨0,ki,so2,?_⟩ fpk (j6 _) (.refl _);obtain⟨_,b2,_⟩:=uU hr 0;rcases Nat.eq_zero_or_pos (SetTable.below t.place 0) with z|z
   ·exact z
   ·by_cases h0:0<t.place.size
    ·exact absurd (b2 0 h0 z) (bCT _)
    ·have:=(uU hr 0).1;lia
theorem aRb {D:Addr}{Q:Bool->Shared->Prop}(hT:s.TypeIs (.ref D) "set")(h:Q false s):wpAny (model prog w) A (Builtin.List.listLengthHint (.ref D)) Q E s:=by unfold Builtin.List.listLengthHint;refine c7 (wpAny_specialOf hT F.slot_set_len.lookup ?_);generalize hid:("set.__len__":String)=id0;wp_delta;rw[show splitId id0=some ("set","__len__") from by subst hid;decide +kernel];subst hid;refine c7 (bCQ (T:="set") (b:=true) hT sub_set_self (wpAny_ite_split (λhab=>absurd hab (by decide)) (λ_=>wpAny_ite_split (λ_=>?_) (λhab=>absurd (by decide +kernel) hab))));exact c7 (bEJ hT (j4 h))
theorem aKq {D:Addr}{es:Array (Int × Value)}{ep:Nat}{t:SetTable}{R:Result->Shared->Prop}(hh:A.handled=none)(so:vP s.heap D es ep t)(tab:TabOk (byT w) t)(hn:es.size<=1000)(S:Addr)(hSD:S≠D)(res:Value)(hS:s.heap.get? S=some { cls:=.type "list",data:=.seq #[] })
  (hR:∀h' tk dr acc c (order:List (Int × Value)),(∀b o,b≠S->s.heap.get? b=some o->h'.get? b=some o)->h'.get? S=some { cls:=.type "list",dict:=none,data:=.seq acc c,slots:=#[] }->order.Perm es.toList->acc.toList=order.map (·.2)->R (.ok (.ret res)) { s with heap:=h',toks:=tk,drawn:=dr }) :
  wpAny (model prog w) A.in1 (Builtin.List.listExtendWith (.ref S) (.ref D) res) (λfin s'=>match fin with|.done f=>R (.ok f) s'|.again c'=>c'.quiet=true/\codeAny (model prog w) A c' R s') (λe s'=>R (.error e) s') s:=by
 obtain⟨o,ho,hex,hd,hf⟩:=id so;have ty:s.TypeIs (.ref D) "set":=⟨o,ho,hex.1⟩;have hSlt:=m8 hS;unfold Builtin.List.listExtendWith;refine c7 (bEJ (T:="set") ty ?_);have h1:Builtin.List.listSameRef (.ref S) (.ref D)=false:=by simp[Builtin.List.listSameRef,hSD]
 simp only[h1,show (Value.type "set" == Value.type "list")=false by decide,show (Value.type "set" == Value.type "tuple")=false by decide,Bool.or_false,bBE,if_false];refine c7 (aTn (A:=A.in1) hh so tab hn λI fp order St hI dr kpI W st hfp hI1 hperm=>?_);have hSf:S∉fp:=λz=>(hfp S z).elim hSD λz=>absurd hSlt (Nat.not_lt.mpr z);have hSI:hI.get? S=some { cls:=.type "list",data:=.seq #[] }:=kpI _ _ hS;have key:∀(h:Heap) (c₁ tk:Nat),St 0 h->(∀b o,b≠S->s.heap.get? b=some o->h.get? b=some o)->h.get? S=some { cls:=.type "list",data:=.seq #[] c₁ } ->
   codeAny (model prog w) A (.builtin "list.extend.loop" ⟨[.ref S,.ref I,res],[]⟩) R { s with heap:=h,toks:=tk,drawn:=dr }:=λh c₁ tk hst hk hS₁=>by
  refine codeAny_extend_loopS W.toS (bAP hn (by decide)) S hSf res es.size 0 _ #[] c₁ rfl (bAJ _) hst hS₁ (ItemsOf.nil _) λs' acc' c' hm hS' hacc=>?_;rw[Moved.eq_with hm];refine hR s'.heap s'.toks dr acc' c' order (λb o hb e=>hm.heap b o (λhmem=>?_) (hk b o hb e)) hS' hperm ?_
  ·rcases List.mem_cons.mp hmem with e'|hmem
   ·exact hb e'
   ·rw[List.mem_singleton.mp hmem] at e;exact absurd (m8 e) (Nat.not_lt.mpr hI1)
  ·have ol:order.length=es.size:=by rw[hperm.length_eq,bAA]
   refine bB7 λj=>?_;rw[bBI];by_cases hj:j<acc'.size
   ·rw[t8 hj];exact (hacc.2 j _ (t8 hj)).symm
   ·rw[bB9 (by lia),bAK (by rw[j9,ol,<-hacc.1];lia)]
 refine c7 (bAV (aRb (s:={ s with heap:=hI,drawn:=dr }) ⟨o,kpI _ _ ho,hex.1⟩ ?_));refine wpAny_ite_split (λ_=>?_) (λ_=>j4 ⟨bCJ F.plain_extend_loop _,key hI _ _ st (λb o _ e=>kpI b o e) hSI⟩);refine c7 (bCY (c7 ?_));show wpAny _ _ (updateSeq S (·.push .none) >>= λ_=>updateSeq S (·.pop)) _ _ _;refine c7 (wpAny_updateSeq hSI rfl ?_);have hS₂:=bAX (Obj.mapSeq (·.push Value.none)) hSI rfl;refine wpAny_updateSeq (hz:=by seq_fits) hS₂ rfl ?_;have hS₃:=bAX (Obj.mapSeq (·.pop)) hS₂ rfl;have oth:∀b o,b≠S->hI.get? b=some o->((hI.update S (Obj.mapSeq (·.push Value.none))).update S (Obj.mapSeq (·.pop))).get? b=some o:=λb o hb e=>(bBG _ _ (Ne.symm hb)).trans ((bBG _ _ (Ne.symm hb)).trans e);exact j4 ⟨bCJ F.plain_extend_loop _,key _ _ _ (W.frame 0 _ _ st λb hb o e=>oth b o (λz=>hSf (z ▸ hb)) e) (λb o hb e=>oth b o hb (kpI b o e)) hS₃⟩
end
end PySem
namespace PySem
open PySem.Calls PyProof.Rows
section
variable {prog:Program}{w:World}{κ:Type}[DecidableEq κ]{knd:PySem.KeyKind prog w κ}{A:Around}{E:bEU}{s:Shared}
theorem aGu {D:Addr}{kl:List κ}{R:List Value->Shared->Prop}(hh:A.handled=none)(hS:oA knd s.heap D kl)(hn:kl.length<=1000)
  (h:∀h' tk dr acc kl',(∀b o,s.heap.get? b=some o->h'.get? b=some o)->kl'.Perm kl->Paired (λk v=>knd.is k v=true) kl' acc->R acc { s with heap:=h',toks:=tk,drawn:=dr }):wpAny (model prog w) A (collect (.ref D)) R E s:=by
 obtain⟨o,es,ep,t,ho,hex,hd,hf,tab,pr⟩:=hS;have hlt:=m8 ho;have hsz:es.size<=1000:=by rw[<-bAA,<-Paired.length pr];exact hn
 unfold collect;refine c7 (wpAny_runValue (bBF entry_proto_collect' ?_));rw[bBC PySem.F.plain_proto_collect _];show wpAny _ A.in1 (newList [] >>= λl=>again (.builtin "list.__iadd__" ⟨[l,.ref D],[]⟩)) _ _ s;refine c7 (bAH (j4 ⟨bCJ PySem.F.plain_list_iadd _,bBF entry_list_iadd' ?_⟩));rw[bBC PySem.F.plain_list_iadd _];have hS₁:(s.heap.push { cls:=.type "list",data:=.seq ([]:List Value).toArray }).get? s.heap.objs.size=some { cls:=.type "list",data:=.seq #[] }:=j5 _ rfl;show wpAny _ A.in1 (Builtin.List.listExtendWith (.ref s.heap.objs.size) (.ref D) (.ref s.heap.objs.size)) _ _ _;have key:=aKq (prog:=prog) (w:=w) (A:=A) (s:={ s with heap:=s.heap.push { cls:=.type "list",data:=.seq ([]:List Value).toArray } })
  (R:=λ(q:Result) (s':Shared)=>∃(h':Heap) (tk:Nat) (dr:Drawn) (acc:Array Value) (c:Nat) (order:List (Int × Value)),q=.ok (.ret (.ref s.heap.objs.size))/\s'={ s with heap:=h',toks:=tk,drawn:=dr }/\(∀b o,s.heap.get? b=some o->h'.get? b=some o)/\h'.get? s.heap.objs.size=some { cls:=.type "list",dict:=none,data:=.seq acc c,slots:=#[] }/\order.Perm es.toList/\acc.toList=order.map (·.2))
  hh ⟨o,j0 _ ho,hex,hd,hf⟩ tab hsz s.heap.objs.size (bBY hlt) (.ref s.heap.objs.size) hS₁
  (λh' tk dr acc c order hk hS' hp ha=>⟨h',tk,dr,acc,c,order,rfl,rfl,λb o e=>hk b o (t7 (m8 e)) (j0 _ e),hS',hp,ha⟩)
 have fin:∀(h':Heap) (tk:Nat) (dr:Drawn) (acc:Array Value) (c:Nat) (order:List (Int × Value)),(∀b o,s.heap.get? b=some o->h'.get? b=some o)->h'.get? s.heap.objs.size=some { cls:=.type "list",dict:=none,data:=.seq acc c,slots:=#[] }->order.Perm es.toList->acc.toList=order.map (·.2) ->
   wpAny (model prog w) A (load s.heap.objs.size >>= λo=>match o.data with|.seq xs _=>pure xs.toList|_=>unsupported "internal:collect") R E { s with heap:=h',toks:=tk,drawn:=dr }:=λh' tk dr acc c order hk hS' hp ha=>by
  refine c7 (wpAny_load hS' (j4 ?_));obtain⟨kl',pr',pm⟩:=yI hp pr;refine h h' tk dr acc.toList kl' hk pm ?_;rw[ha];clear hp ha pm
  induction pr' with
  |nil=>exact .nil
  |cons r _ ih=>exact .cons r.1 ih
 refine bBB key (λfn s' x=>?_) λe s' x=>?_
 ·cases fn with
  |done f=>obtain⟨h',tk,dr,acc,c,order,e,rfl,hk,hS',hp,ha⟩:=x;cases e;exact fin h' tk dr acc c order hk hS' hp ha
  |again c₁=>refine⟨x.1,bBR x.2 λq s₂ y=>?_⟩;obtain⟨h',tk,dr,acc,c,order,rfl,rfl,hk,hS',hp,ha⟩:=y;exact fin h' tk dr acc c order hk hS' hp ha
 ·obtain⟨_,_,_,_,_,_,e',_⟩:=x;cases e'
end
end PySem
namespace L2
open PySem PySem.Spec PyProof.Rows PySem.Calls
section
variable {prog:Program}{w:World}{A:Around}{E:bEU}{s:Shared}
theorem aO1 {kl:List Key}{acc:List Value}(h:Paired (λk v=>(bB prog w).is k v=true) kl acc)(hi:∀k∈kl,∃n,k=Sum.inl n):∃ns:List Int,kl=ns.map Sum.inl/\IntsAre acc ns:=by
 induction h with
 |nil=>exact⟨[],rfl,.nil⟩
 |@cons k v kl acc r _ ih=>
  obtain⟨ns,rfl,h2⟩:=ih λk hk=>hi k (j8 _ hk);obtain⟨n,rfl⟩:=hi k m9;rcases cL (show mY (Sum.inl n) v=true from r) with⟨i,t,e,rfl⟩|⟨x,t,e,_⟩
  ·cases e;exact⟨n::ns,rfl,.cons n t h2⟩
  ·cases e
theorem aPe {kl:List Key}{acc:List Value}(h:Paired (λk v=>(bB prog w).is k v=true) kl acc)(hi:∀k∈kl,∃n,k=Sum.inr n):∃ns:List Str,kl=ns.map Sum.inr/\StrsAre acc ns:=by
 induction h with
 |nil=>exact⟨[],rfl,.nil⟩
 |@cons k v kl acc r _ ih=>
  obtain⟨ns,rfl,h2⟩:=ih λk hk=>hi k (j8 _ hk);obtain⟨n,rfl⟩:=hi k m9;rcases cL (show mY (Sum.inr n) v=true from r) with⟨i,t,e,_⟩|⟨x,t,e,rfl⟩
  ·cases e
  ·cases e;exact⟨n::ns,rfl,.cons n t h2⟩
def ltK:Key->Key->Prop
 |.inl a,.inl b=>a<b
 |.inr a,.inr b=>a.cps.toList<b.cps.toList
 |_,_=>False
theorem aDo:∀(l:List Str) (p:Str),risingS p l=true->∀x∈l,¬ x.cps.toList<p.cps.toList
 |[],_,_,x,hx=>by cases hx
 |y::r,p,h,x,hx=>by
  unfold risingS at h;rw[bAU,ltCps_eq,Bool.not_eq_true',decide_eq_false_iff_not] at h;rcases List.mem_cons.mp hx with rfl|hx
  ·exact h.1
  ·intro z;have h2:=aDo r y h.2 x hx;exact h.1 (List.lt_of_le_of_lt (show y.cps.toList<=x.cps.toList from h2) z)
theorem uW:∀(l:List Str) (p:Str),risingS p l=true->l.Nodup->l.Pairwise λa b=>a.cps.toList<b.cps.toList
 |[],_,_,_=>.nil
 |y::r,p,h,nd=>by
  unfold risingS at h;rw[bAU] at h;rw[bDQ] at nd;refine .cons (λx hx=>?_) (uW r y h.2 nd.2);have h1:=aDo r y h.2 x hx;rcases Classical.em (y.cps.toList<x.cps.toList) with z|z
  ·exact z
  ·exfalso;have e:y.cps.toList=x.cps.toList:=List.le_antisymm h1 z;have:y=x:=by cases y;cases x;exact congrArg Str.mk (Array.toList_inj.mp e)
   exact nd.1 (this ▸ hx)
theorem zO {vs:List Value}{ns:List Int}(h:IntsAre vs ns):Vals ((ns.map Sum.inl).map kV) vs:=by
 induction h with
 |nil=>exact .nil
 |cons n t _ ih=>exact .cons ⟨t,rfl⟩ ih
theorem aAq {vs:List Value}{ns:List Str}(h:StrsAre vs ns):Vals ((ns.map Sum.inr).map kV) vs:=by
 induction h with
 |nil=>exact .nil
 |cons n t _ ih=>exact .cons ⟨t,rfl⟩ ih
theorem vN {α β:Type}{f:α->β}{l:List α}(h:(l.map f).Nodup):l.Nodup:=List.Pairwise.imp (λhab e=>hab (congrArg f e)) (List.pairwise_map.mp h)
theorem aLe {D:Addr}{kl:List Key}{Q:bEU}(hh:A.handled=none)(hS:oA (bB prog w) s.heap D kl)(hn:kl.length<=60)(nd:kl.Nodup)(hi:(∀k∈kl,∃n,k=Sum.inl n)\/∀k∈kl,∃n,k=Sum.inr n)
  (q:∀(h1 h':Heap) (tk:Nat) (dr:Drawn) (B:Addr) (vs:List Value) (ks:List Key) (e:Nat),Vals (ks.map kV) vs->ks.Perm kl->ks.Pairwise ltK->h'.get? B=some (seqObj "list" vs.toArray e)->(∀b o,s.heap.get? b=some o->h1.get? b=some o)->(∀b o,h1.get? b=some o->h'.get? b=some o)->h1.objs.size<=B->Q (.ref B) { s with heap:=h',toks:=tk,drawn:=dr }) :
  wpAny (model prog w) A (call (.builtin "sorted") [.ref D]) Q E s:=by
 refine call_function_entry kind_sorted plain_sorted entry_sorted (args_sorted1 _) ?_;unfold Builtin.«sorted»;refine c7 (m:=checkCount "sorted" 1 1 _) (j4 (c7 (aGu (A:=A.in1) hh hS (by lia) λh' tk dr acc kl' hk pm hp=>?_)));have hl:acc.length=kl.length:=by rw[<-Paired.length hp,pm.length_eq]
 have nd':kl'.Nodup:=pm.nodup_iff.mpr nd;have h64:acc.length<64:=by lia
 refine c7 (wpAny_newList ?_ (by rw[sizeLine_eq];lia));have hoL:(h'.push (seqObj "list" acc.toArray 0)).get? h'.objs.size=some (seqObj "list" acc.toArray 0):=j5 _ rfl;have fin:∀(out:Array Value) (ks:List Key),Vals (ks.map kV) out.toList->ks.Perm kl'->ks.Pairwise ltK->Q (.ref h'.objs.size) { s with heap:=sortedHeap (h'.push (seqObj "list" acc.toArray 0)) h'.objs.size acc out,toks:=tk,drawn:=dr }:=λout ks hv pk pw=>by obtain⟨e,he⟩:=sortedHeap_at (out:=out) hoL;refine q h' _ tk dr h'.objs.size out.toList ks e hv (pk.trans pm) pw (by rw[bEC];exact he) hk (λb o hb'=>?_) (j6 _);have hlt:=m8 hb';rw[sortedHeap_old (t7 hlt) (by rw[size_push'];exact bBH hlt)];exact j0 _ hb'
 rcases hi with hi|hi
 ·obtain⟨ns,rfl,hI⟩:=aO1 hp λk hk=>hi k (pm.mem_iff.mp hk);refine c7 (bAV (bAE slot_list_sort ⟨_,hoL,rfl⟩ entry_list_sort (list_sort_tree hoL hI h64 λout ns' a1 a2 a3=>⟨_,rfl,j4 ⟨_,rfl,fin out (ns'.map Sum.inl) (zO a1) (a2.map _) ?_⟩⟩) (args_list_sort _)));rw[List.pairwise_map];have n2:ns'.Nodup:=a2.nodup_iff.mpr (vN nd');refine (List.pairwise_and_iff.mpr ⟨a3,n2⟩).imp λ{a b} ⟨h1,h2⟩=>?_;show a<b;lia
 ·obtain⟨ns,rfl,hI⟩:=aPe hp λk hk=>hi k (pm.mem_iff.mp hk);refine c7 (bAV (bAE slot_list_sort ⟨_,hoL,rfl⟩ entry_list_sort (list_sort_treeK strKind_oneLt hoL hI.keysOf (λv₁ v₂ rest e=>keyKind_strs (by rw[<-e];exact hI)) h64 λst' a1 a2=>⟨_,rfl,j4 ⟨_,rfl,?_⟩⟩) (args_list_sort _)));obtain⟨ss',b1,b2,b3⟩:=sorted_out_str hI a1 a2;refine fin _ (ss'.map Sum.inr) (aAq b1) (b2.map _) ?_;rw[List.pairwise_map];have n2:ss'.Nodup:=b2.nodup_iff.mpr (vN nd');cases ss' with
  |nil=>exact .nil
  |cons y r=>have:=uW (y::r) y (by unfold risingS;rw[bAU,ltCps_eq];exact⟨by simpa using List.lt_irrefl _,b3⟩) n2;exact this
end
def aSm (P:Program)(w:World)(D:Addr)(kl:List Key):HO:=.ext λh=>oA (bB P w) h D kl
section
variable {X:Cx}{bEX:bEV}{σ:L2.St}{H:Hp}{s:Shared}
theorem Inv.drew (I:Inv X bEX σ H s)(dr:Drawn):Inv X bEX σ H { s with drawn:=dr }:=⟨I.ok,I.os,I.bare,I.base,I.loc,I.cell,I.free,I.freeC,I.pin,I.hok,I.len⟩
def aZt (P:Program)(w:World)(K:bET):List V->Hp->VK->Prop:=λxs H Q=>∃(p:Addr) (ks:List Key),xs=[.ref p]/\SqL K H p (ks.map kV)/\ks.length<=4/\∀D H' kl,H D=none->Same H H'->H' D=some (aSm P w D kl)->Ded kl ks->Q (.ref D) H'
theorem aTp {k:Key}{v:Value}(h:RelV (kV k) v):(bB X.prog X.w).is k v=true/\v.scannable=true:=by
 cases k with
 |inl n=>obtain⟨t,rfl⟩:=h;exact⟨aDp n t,rfl⟩
 |inr n=>obtain⟨t,rfl⟩:=h;exact⟨aDc n t,rfl⟩
theorem aPb (hc:X.calm=true):cD X (.type "set") (aZt X.prog X.w X.K):=by
 intro bEX s σ H xs us Q I r h;obtain⟨p,ks,rfl,hq,hl,q⟩:=h;obtain⟨u,rfl,rx⟩:=r.one;cases rx;obtain⟨its,rv,pl,hz⟩:=I.list hq;have hlen:=rv.length;rw[j9] at hlen;refine aOa (knd:=bB X.prog X.w) (ks:=ks) (I.ok.hd hc) pl.isList (by rw[m7];exact hlen) (λi v hv=>?_) (by rw[m7,<-hlen];exact hl) λh' tk kl x dd kp=>?_
 ·have hv':its[i]?=some v:=by simpa using hv
  have hi:i<ks.length:=by rw[hlen];exact (List.getElem?_eq_some_iff.mp hv').1
  obtain⟨u,hu,ru⟩:=rv.get (i:=i) (x:=kV ks[i]) (by rw[v4,d9 hi];rfl);rw[hv'] at hu;cases hu;exact⟨ks[i],d9 hi,aTp ru⟩
 ·have e:∃o,h'.get? s.heap.objs.size=some o:=by obtain⟨o,_,_,_,ho,_⟩:=x;exact⟨o,ho⟩
  have hf:H s.heap.objs.size=none:=I.hok.fresh (j6 _);exact⟨.ref s.heap.objs.size,_,I.laid (t':=tk) (o:=aSm X.prog X.w s.heap.objs.size kl) (λb o eo=>kp b o (m8 eo) eo) (j6 _) (show oA (bB X.prog X.w) h' s.heap.objs.size kl/\_/\_ from ⟨x,e,λh1 h2 y k=>y.at k⟩),rfl,q _ _ kl hf (aV hf _) aJ dd⟩
def aRz (P:Program)(w:World):List V->Hp->VK->Prop:=λxs H Q=>∃(D:Addr) (kl:List Key),xs=[.ref D]/\H D=some (aSm P w D kl)/\kl.length<=60/\kl.Nodup/\((∀k∈kl,∃n,k=Sum.inl n)\/∀k∈kl,∃n,k=Sum.inr n) /\
 ∀(B:Addr) (H':Hp) (ks:List Key),H B=none->Same H H'->H' B=some (.lst (ks.map kV))->ks.Perm kl->ks.Pairwise ltK->Q (.ref B) H'
theorem aD4 (hc:X.calm=true):cD X (.builtin "sorted") (aRz X.prog X.w):=by
 intro bEX s σ H xs us Q I r h;obtain⟨D,kl,rfl,hD,hl,nd,hi,q⟩:=h;obtain⟨u,rfl,rx⟩:=r.one;cases rx;have x:oA (bB X.prog X.w) s.heap D kl:=(I.hok D _ hD).1;refine aLe (I.ok.hd hc) x hl nd hi λh1 h' tk dr B vs ks e hv pm pw ho k1 k2 hB=>?_;have I1:Inv X bEX σ H { s with heap:=h1,toks:=tk }:=I.kept (t':=tk) k1;have I2:=I1.drew dr;have hf:H B=none:=I2.hok.fresh hB;have lk:ks.length<=60:=by rw[pm.length_eq];exact hl
 exact⟨.ref B,_,I2.laid (t':=tk) (o:=.lst (ks.map kV)) k2 hB ⟨small (by rw[j9];lia),vs,e,hv,ho⟩,rfl,q B _ ks hf (aV hf _) aJ pm pw⟩
end
end L2
namespace My
open PySem PySem.Spec PyProof.Rows L2
section
variable {P:Program}{w:World}{K:bET}{mg:bEW}{base:Heap}
theorem aMz {X:Cx}{scope:Scope}{x y z:Str}{σ:L2.St}{u v:V}(i j:Nat)(hf:(y,NameKind.free)∈scope.names)(hg:(z,NameKind.free)∈scope.names)(hi:X.N[i]?=some y)(hj:X.N[j]?=some z)(hs:σ[i]?=some (some u))(ht:σ[j]?=some (some v))(hv:Vis X.env.scope y)(hw:Vis X.env.scope z):Cap X scope [x,y,z] σ [none,some u,some v]:=
 ⟨rfl,λn q r h1 h2=>by
  match n,h1,h2 with
  |0,_,h2=>cases h2
  |1,h1,h2=>cases h1;cases h2;exact⟨hf,i,hi,hs,hv⟩
  |2,h1,h2=>cases h1;cases h2;exact⟨hg,j,hj,ht,hw⟩
  |n+3,h1,_=>cases h1⟩
theorem bY.fx {a:Addr}{H H':Hp}{D:Addr}{rs:List (List V)}(f:Fx a H H')(h:gQ H a)(hD:D≠a)(r:bY K H D rs):bY K H' D rs:=by obtain⟨us,h1,h2⟩:=r;exact⟨us,f.same _ _ hD h1,h2.imp λ_ _ ⟨p,e,hp⟩=>⟨p,e,f.aY h hp⟩⟩
theorem aR5 {n i:Nat}{x:V}(e:((List.range n).map λi:Nat=>V.int (0+(i:Int)))[i]?=some x):i<n/\x=.int (0+(i:Int)):=by
 have hi:i<n:=by have:=(List.getElem?_eq_some_iff.mp e).1;rw[j9,bAN] at this;exact this
 rw[v4,bCA hi] at e;exact⟨hi,(bAQ e).symm⟩
theorem aHh {X:Cx}{scope:Scope}{N:List Str}{ta:TA}{te:TE}{tt:TT}{g:TG}{σ:L2.St}{H:Hp}{Q:VK}(σ0:L2.St)(cap:Cap X scope N σ σ0)(h:ta σ H λvs H1=>∃j:Int,vs=[.int j]/\-(2 ^ 62)<=j/\j<2 ^ 62/\vA (Itr 0 j.toNat) H1 σ0 g tt te Q):jU X scope N (aRr ta) g tt te σ H Q:=⟨σ0,cap,h⟩
theorem aNv {K:bET}{H:Hp}{Pr:List V->Prop}:∀{ys:List V},(∀y∈ys,∃r,dM K H y r/\Pr r)->∃rs,cH (dM K H) ys rs/\∀r∈rs,Pr r
 |[],_=>⟨[],.nil,λr h=>by cases h⟩
 |y::ys,h=>by
  obtain⟨r,h1,h2⟩:=h y m9;obtain⟨rs,h3,h4⟩:=aNv (ys:=ys) λz hz=>h z (j8 _ hz);refine⟨r::rs,.cons h1 h3,λx hx=>?_⟩;rcases List.mem_cons.mp hx with rfl|hx
  ·exact h2
  ·exact h4 x hx
theorem aNe {k:Str}:∀{ys:List V},(∀y∈ys,cG k y)->∃ks:List Key,ys=ks.map kV/\∀x∈ks,cG k (kV x)
 |[],_=>⟨[],rfl,λx h=>by cases h⟩
 |y::ys,h=>by
  obtain⟨ks,e,hk⟩:=aNe (ys:=ys) λz hz=>h z (j8 _ hz);have hy:=h y m9;obtain⟨x,rfl⟩:∃x,y=kV x:=by
   cases hy with
   |num=>exact⟨.inl _,rfl⟩
   |wrd _ _=>exact⟨.inr _,rfl⟩
  refine⟨x::ks,by rw[e];rfl,λz hz=>?_⟩;rcases List.mem_cons.mp hz with rfl|hz
  ·exact hy
  ·exact hk z hz
theorem aOo {k:Str}{ks:List Key}(h:∀x∈ks,cG k (kV x)):(∀x∈ks,∃n,x=Sum.inl n)\/∀x∈ks,∃n,x=Sum.inr n:=by
 by_cases hk:k = "number"
 ·refine .inl λx hx=>?_;cases x with
  |inl n=>exact⟨n,rfl⟩
  |inr n=>
   have:=h _ hx;rw[hk] at this;generalize hv:kV (Sum.inr n)=v at this;generalize hkk:("number":Str)=k0 at this;cases this with
   |num=>cases hv
   |wrd _ _=>exact absurd hkk (by decide)
 ·refine .inr λx hx=>?_;cases x with
  |inr n=>exact⟨n,rfl⟩
  |inl n=>
   have:=h _ hx;generalize hv:kV (Sum.inl n)=v at this;cases this with
   |num=>exact absurd rfl hk
   |wrd _ _=>cases hv
theorem aY5 {a b:Key}(h:ltK a b):vlt (kV a) (kV b)=true:=by cases a <;> cases b <;> first|exact v6 h|exact absurd h id
def xY (K:bET):Sp:=λvs H Q _=>∃(a:Addr) (vh:V) (hd:Hdr) (m:Int),vs=[.ref a,vh,.int m]/\gQ H a/\lA K H vh hd/\aJw hd/\1<=m/\m<=6/\∀vp H' pl,Fx a H H'->xW K H' vp pl->aV0 hd m pl->Q vp H'
theorem zB (T:Txt w K mg)(aR:Ok P w K mg base 1 "_law_next" ["_law_state","_law_many"] mD)(oU:Ok P w K mg base 3 "_law_value" ["_law_state","_law_kind"] aF1):Ok P w K mg base 4 "_law_placing" ["_law_state","_law_head_here","_law_houses"] (xY K):=by
 refine Ok.ofV T.aAf cQ (λvs H Q E h=>?_) (λf cdv A outer s H vs Q E hr h=>?_)
 ·obtain⟨a,vh,hd,m,rfl,_⟩:=h;rfl
 obtain⟨a,vh,hd,m,rfl,hs,hI,hok,m1,m6,q⟩:=h;have l8:=hok.1.2.2;refine⟨_,(aD (aX (i:=3) cQ.nd rfl (by trivial) (aQ (aR.mono (by decide)) hr (by rfl) (aC (vv 0) (aC aH aB)))) (aD (bZ (bH eU (vv 3) aH (bF _)) (aG (aN (dW (aC bC aB)))) aZ) (aD (zV (aW bK (vv 1) (aQ (aR.mono (by decide)) hr (by rfl) (aC (vv 0) (aC (aO bI (by rfl) T.fM dF (aC (vv 1) aB)) aB))) (λ_ _=>rfl)) (wK rfl (bL (aU (i:=4) cQ.nd rfl (by trivial)) (bL (aU (i:=5) cQ.nd rfl (by trivial)) fY)))) (aD (bZ (bH eU (vv 3) aH (bF _)) (aG (aN (dW (aC bC (aC (vv 4) aB))))) aZ) (aD (aFq (i0:=6) cQ.nd rfl (by trivial) (N:=["_law_k","_law_state","_law_kind"]) (by trivial) (jC (aF iD) rfl (by decide +kernel)) rfl (fC (by rfl) T.jN (aC (aQ (aR.mono (by decide)) hr (by rfl) (aC (vv 0) (aC aH aB))) aB)) (λcl s' H' fp=>⟨(aU (i:=0) (show (["_law_k","_law_state","_law_kind"]:List Str).Nodup from by decide +kernel) rfl (Or.inl rfl)),gH,(aQ (oU.mono (by decide)) hr (by rfl) (aC (vv 1) (aC (vv 2) aB)))⟩)) (aD (aX (i:=7) cQ.nd rfl (by trivial) (dJ (aC (dW (aC pA (aC (aQ (aR.mono (by decide)) hr (by rfl) (aC (vv 0) (aC (vv 2) aB))) aB))) aB))) (aD (eN PassesOwn.never rfl (iG (aO (aD4 rfl) (by rfl) T.eX dN (aC (cV (aPb rfl) (by rfl) T.aWq aSb (aC (vv 6) aB)) aB))) (aU (i:=8) cQ.nd rfl (by trivial)) (aG (fW (nP PySem.F.plainAttrs_list PySem.F.slot_list_append PySem.F.type_list_append jD (vv 7) (aC (dW (aC (vv 8) (aC (aQ (aR.mono (by decide)) hr (by rfl) (aC (vv 0) (aC (vv 2) aB))) aB))) aB))))) (aG (aN (dW (aC bC (aC (vv 4) (aC (cV qJ (by rfl) T.jO fP (aC (vv 7) aB)) aB))))))))))))),?_⟩;refine⟨_,rfl,a,3,rfl,hs,by decide,λway H1 f1 w0 w1=>?_⟩;refine⟨_,rfl,rfl,_,rfl,?_⟩;cases decide (V.int way=V.int 0) with
 |true=>exact dI ⟨by show 1<=sizeLine;decide,λt H2 _ s2 g2=>q _ H2 .copies (f1.sm s2) ⟨t,rfl,SqT.of g2⟩ trivial⟩
 |false=>
 refine bV ?_;have hI1:=hI.tk (f1.tk (K:=K) hs);obtain⟨b,us,rfl,hb,hu⟩:=id hI1;have lu:=hu.len;have l1:=hok.1.2.1;refine⟨_,rfl,_,rfl,_,rfl,b,us,rfl,.inr hb,a,_,rfl,f1.st,⟨by lia,by lia⟩,λz H2 f2 z0 z1=>?_⟩;have f12:=f1.trans f2;obtain⟨zi,rfl⟩:∃zi:Nat,z=zi:=⟨z.toNat,by lia⟩;have hz:zi<us.length:=by lia
 obtain⟨c,hc,pc,epc,hpc⟩:=cB hu (d9 hz);refine⟨b,us,_,.ref pc,rfl,rfl,f2.aY f1.st hb,eQ (by rw[d9 hz,epc]),?_⟩;have hcm:=p7 hc;have lk:=aR3 hok.1.1 hcm;obtain⟨nmc,kdc⟩:=hok.2 c hcm;refine⟨pc,_,rfl,f2.aY f1.st hpc,rfl,_,_,rfl,_,_,rfl,rfl,?_⟩;refine⟨_,rfl,rfl,_,rfl,?_⟩;cases decide (V.int way=V.int 1) with
 |true=>exact dI ⟨_,rfl,by show 2<=sizeLine;decide,λt H3 _ s3 g3=>q _ H3 (.keys c.1) (f12.sm s3) ⟨t,rfl,SqT.of g3⟩ ⟨nmc,c.2,lk⟩⟩
 |false=>
 refine bV ?_;dsimp only[pO,aBx,aA8];refine aHh [none,some (.ref a),some (.str c.2)] (aMz 0 5 (by decide +kernel) (by decide +kernel) rfl rfl rfl rfl (by trivial) (by trivial)) ?_;refine⟨_,rfl,a,5,rfl,f2.st,by decide,λz H5 f5 z0 z1=>?_⟩;refine⟨z,rfl,by lia,by lia,?_⟩;refine aHq (Fx a) (aQ3 f5.st) ((List.range z.toNat).map λi:Nat=>V.int (0+(i:Int))) (λ_=>true) (λ_ _ y=>cG c.2 y) (λ_ _ h=>h) (λ_ _ _ h=>h) (λi σ=>∃x,σ=[some x,some (.ref a),some (.str c.2)]) (fun σ=>∃l,σ=[l,some (.ref a),some (.str c.2)]) ⟨none,rfl⟩ (small (by rw[j9,bAN];lia)) (Itr 0 z.toNat) (λH' i x _ ex=>?_) (λH' _=>?_) (λi x σ' H' Q' ex ps f' r=>?_) (λi x σ2 ex at2 H' R f' r=>r H' (Fx.refl f'.st)) (λi x σ2 ex at2 _ H' R f' r=>?_) λL H6 ys f6 fL gL hys=>?_
 ·obtain⟨hi,rfl⟩:=aR5 ex;exact⟨hi,λy H2 hy=>hy⟩
 ·show z.toNat<=_;rw[j9,bAN];exact j6 _
 ·obtain⟨l,rfl⟩:=ps;exact r _ ⟨some x,rfl⟩ ⟨x,rfl⟩
 ·obtain⟨x',rfl⟩:=at2;exact⟨_,rfl,_,rfl,a,c.2,rfl,f'.st,kdc,λv H2 f2 hv=>r v H2 f2 hv⟩
 rw[qW,j9,bAN] at hys;obtain⟨ly,hy⟩:=pI hys;have f16:=f12.trans (f5.trans f6);obtain⟨ks,rfl,hks⟩:=aNe (k:=c.2) (ys:=ys) λy hm=>by obtain⟨i,hi⟩:=List.mem_iff_getElem?.mp hm;exact hy i y hi
 rw[j9] at ly;have nLa:L≠a:=f5.st.ne fL;refine⟨_,rfl,_,rfl,a,m,rfl,f6.st,⟨by lia,by lia⟩,λh0 H7 f7 h00 h01=>?_⟩;refine⟨by show 2<=sizeLine;decide,λt1 H8 _ s8 g8=>⟨by show 1<=sizeLine;decide,λC H9 hC s9 g9=>?_⟩⟩;have f17:=f16.trans f7;have f19:=(f17.sm s8).sm s9;have gL9:=s9 _ _ (s8 _ _ (f7.same _ _ nLa gL));refine⟨_,rfl,L,ks,rfl,SqL.of gL9,by lia,λD H10 kl hND s10 gD ded=>?_⟩;have hkl:∀x∈kl,cG c.2 (kV x):=λx hx=>hks x ((ded.2.1 x).mp hx);have lkl:=ded.2.2;refine⟨D,kl,rfl,gD,by lia,ded.1,aOo hkl,λB H11 ks' hNB s11 gB perm pw=>?_⟩;have lks:=perm.length_eq;have hC0:H C=none:=f17.free (none_of s8 hC);have nCa:C≠a:=hs.ne hC0;have f111:=(f19.sm s10).sm s11;have gC11:=s11 _ _ (s10 _ _ g9);have hB0:H B=none:=f19.free (none_of s10 hNB);have nBa:B≠a:=hs.ne hB0;have nBC:B≠C:=λz=>by rw[z,s10 _ _ g9] at hNB;cases hNB
 have ht1:SqT K H11 t1 [.non,.int h0]:=s11.aY (s10.aY (s9.aY (SqT.of g8)));refine⟨B,rfl,⟨_,SqL.of gB⟩,vV (xs:=ks'.map kV) (λi σ H'=>Fx a H H'/\H' B=some (.lst (ks'.map kV))/\∃us' cs l,H' C=some (.lst us')/\cH (lG K H') us' ((.non,h0)::cs)/\cs.map (·.1)=(ks'.take i).map kV/\(∀x∈cs,0<=x.2/\x.2<m)/\σ=[some (.ref a),some (.ref b),some (.int m),some (.int way),some (.str c.1),some (.str c.2),some (.ref L),some (.ref C),l]) ⟨f111,gB,_,[],none,gC11,.cons ⟨t1,rfl,ht1⟩ .nil,rfl,λx hx=>(by cases hx),rfl⟩ (λi σ H' _ p=>SqL.of p.2.1) (λi x σ H' ex p=>?_) fun σ H' p=>?_⟩
 ·obtain⟨fx,gB',us',cs,l,gC',hcu,ecs,hcb,rfl⟩:=p;rw[v4] at ex;obtain⟨key,hkey,rfl⟩:=Option.map_eq_some_iff.mp ex;have lcu:=hcu.len;have lcs:cs.length<=4:=by have:=congrArg List.length ecs;rw[j9,j9,bAL] at this;lia
  rw[v5] at lcu;refine⟨_,rfl,.inl ⟨rfl,_,SqL.of gC'⟩,_,rfl,_,rfl,_,rfl,a,m,rfl,fx.st,⟨by lia,by lia⟩,λhh H12 f12' hh0 hh1=>?_⟩;refine⟨by show 2<=sizeLine;decide,λt2 H13 hN13 s13 g13=>?_⟩;have gC13:=s13 _ _ (f12'.same _ _ nCa gC');have gB13:=s13 _ _ (f12'.same _ _ nBa gB');have ntC:t2≠C:=λz=>by rw[z,f12'.same _ _ nCa gC'] at hN13;cases hN13
  refine⟨C,_,_,rfl,rfl,gC13,jH (by lia),?_⟩;refine⟨((fx.trans f12').sm s13).upd hC0 nCa,by rw[aK nBC];exact gB13,us'++[.ref t2],cs++[(kV key,hh)],some (kV key),aJ,?_,?_,λx hx=>?_,rfl⟩
  ·rw[<-List.cons_append];exact (hcu.imp λ_ _ ⟨p',ep,hp⟩=>⟨p',ep,(s13.aY (f12'.aY fx.st hp)).nM gC13⟩).app (.cons ⟨t2,rfl,SqT.of (by rw[aK ntC];exact g13)⟩ .nil)
  ·rw[bAO,ecs,bBD,hkey,bAO];rfl
  ·rcases List.mem_append.mp hx with hx|hx
   ·exact hcb x hx
   ·rw[bCS] at hx;subst hx;exact⟨hh0,hh1⟩
 ·obtain⟨fx,gB',us',cs,l,gC',hcu,ecs,hcb,rfl⟩:=p;rw[j9,bCG] at ecs;have lcs:cs.length=ks'.length:=by have:=congrArg List.length ecs;rw[j9,j9] at this;exact this
  refine⟨_,rfl,_,rfl,C,us',rfl,SqL.of gC',λt3 H12 _ s12 g12=>⟨by show 3<=sizeLine;decide,λt4 H13 _ s13 g13=>?_⟩⟩;refine q _ H13 (.spans c.1 h0 cs) ((fx.sm s12).sm s13) ⟨t4,.ref t3,rfl,SqT.of g13,t3,us',rfl,s13.aY (SqT.of g12),hcu.imp λ_ _ z=>z.same (s12.trans s13)⟩ ⟨nmc,c.2,lk,kdc,⟨h00,h01⟩,λx hx=>⟨?_,hcb x hx⟩,?_,by lia⟩
  ·have:x.1∈cs.map (·.1):=bBJ hx;rw[ecs] at this;obtain⟨key,hk1,hk2⟩:=List.mem_map.mp this;rw[<-hk2];exact hkl key (perm.mem_iff.mp hk1)
  ·rw[ecs];exact List.pairwise_map.mpr (pw.imp λh=>aY5 h)
theorem fJ.fx {a:Addr}{H H':Hp}{d:Addr}{es:List En}(f:Fx a H H')(h:gQ H a)(hd:d≠a)(hL:∀e∈es,e.L≠a)(hE:fJ K H d es):fJ K H' d es:=by refine⟨f.same _ _ hd hE.at_,hE.nd,hE.few,hE.nm,λe he=>?_⟩;obtain⟨t,ev,ht,h1,h2,h3⟩:=hE.tb e he;exact⟨t,ev,f.aY h ht,h1.tk (f.tk h),h2.tk (f.tk h),h3.fx f h (hL e he)⟩
def aHu (K:bET):Sp:=λvs H Q _=>∃(a N:Addr) (ns:List Str),vs=[.ref a,.ref N,.int 4]/\gQ H a/\H N=some (.lst (ns.map V.str))/\N≠a/\sU ns/\∀t d (m:Int) es H',Fx a H H'->SqT K H' t [.int m,.ref d]->H d=none->1<=m->m<=6->fJ K H' d es->(∀e∈es,nF m e.t/\e.t.rows.length<=4/\H e.L=none)->2<=es.length->es.length<=3->Q (.ref t) H'
theorem aEt (T:Txt w K mg)(aR:Ok P w K mg base 1 "_law_next" ["_law_state","_law_many"] mD)(aH4:Ok P w K mg base 2 "_law_head" ["_law_state","_law_names_here"] (aIi K))(aA1:Ok P w K mg base 4 "_law_placing" ["_law_state","_law_head_here","_law_houses"] (xY K))(tQ:Ok P w K mg base 4 "_law_row" ["_law_state","_law_head_here"] (aFf K)):Ok P w K mg base 5 "_law_town" ["_law_state","_law_names_here","_law_most"] (aHu K):=by
 refine Ok.ofV T.aJi dU (λvs H Q E h=>?_) (λf cdv A outer s H vs Q E hr h=>?_)
 ·obtain⟨a,N,ns,rfl,_⟩:=h;rfl
 obtain⟨a,N,ns,rfl,hs,hN,nN,hn,q⟩:=h;have hu:=wD hr;refine⟨_,(aD (aX (i:=3) dU.nd rfl (by trivial) (bM dG aH (aQ (aR.mono (by decide)) hr (by rfl) (aC (vv 0) (aC aH aB))))) (aD (aX (i:=4) dU.nd rfl (by trivial) aBv) (aD (eN PassesOwn.never rfl (fC (by rfl) T.jN (aC (bM dG aH (aQ (aR.mono (by decide)) hr (by rfl) (aC (vv 0) (aC aH aB)))) aB)) (aU (i:=5) dU.nd rfl (by trivial)) (aD (aX (i:=6) dU.nd rfl (by trivial) (aQ (aH4.mono (by decide)) hr (by rfl) (aC (vv 0) (aC (vv 1) aB)))) (aD (aX (i:=7) dU.nd rfl (by trivial) (aQ (aA1.mono (by decide)) hr (by rfl) (aC (vv 0) (aC (vv 6) (aC (vv 3) aB))))) (aD (aFq (i0:=8) dU.nd rfl (by trivial) (N:=["_law_j","_law_state","_law_head_here"]) (by trivial) (jC (aF lZ) rfl (by decide +kernel)) rfl (fC (by rfl) T.jN (aC (aQ (aR.mono (by decide)) hr (by rfl) (aC (vv 0) (aC (bM dG (vv 2) aH) aB))) aB)) (λcl s' H' fp=>⟨(aU (i:=0) (show (["_law_j","_law_state","_law_head_here"]:List Str).Nodup from by decide +kernel) rfl (Or.inl rfl)),gH,(aQ (tQ.mono (by decide)) hr (by rfl) (aC (vv 1) (aC (vv 2) aB)))⟩)) (aG (zH hu (vv 4) (aW fH (vv 1) (vv 5) (λ_ _=>rfl)) (dW (aC (vv 6) (aC (vv 7) (aC (vv 8) aB)))))))))) (aG (aN (dW (aC (vv 3) (aC (vv 4) aB)))))))),?_⟩;have l17:=hn.1;refine⟨_,rfl,a,6,rfl,hs,by decide,λz H1 f1 z0 z1=>⟨_,_,rfl,rfl,λd H2 hd0 s2 g2=>?_⟩⟩;have f2:=f1.sm s2;have hd0':H d=none:=f1.free hd0;have nda:d≠a:=hs.ne hd0';refine⟨_,rfl,a,2,rfl,f2.st,by decide,λz2 H3 f3 z20 z21=>⟨_,_,rfl,rfl,?_⟩⟩;have f03:=f2.trans f3;have g3:=f3.same _ _ nda g2;have m1:1<=1+z:=by lia
 have m6:1+z<=6:=by lia
 refine⟨2+z2,rfl,by lia,by lia,?_⟩;obtain⟨n,en⟩:∃n:Nat,(2+z2).toNat=n:=⟨_,rfl⟩;rw[en];refine gO (n:=n) (λi σ H'=>Fx a H H'/\∃es l5 l6 l7 l8,fJ K H' d es/\(∀e∈es,nF (1+z) e.t/\e.t.rows.length<=4/\H e.L=none)/\es.map (·.n)=ns.take i/\σ=[some (.ref a),some (.ref N),some (.int 4),some (.int (1+z)),some (.ref d),l5,l6,l7,l8]) ⟨f03,[],none,none,none,none,⟨g3,bEN,bAJ _,λe h=>(by cases h),λe h=>(by cases h)⟩,λe h=>(by cases h),rfl,rfl⟩ (λi σ H' hi p=>?_) fun σ H' p=>?_
 ·obtain⟨fx,es,l5,l6,l7,l8,hE,hes,enm,rfl⟩:=p;have hN':=fx.same _ _ nN hN;refine⟨_,rfl,_,rfl,a,N,ns,rfl,fx.st,hN',nN,hn,λvh H5 hd f5 hI hok _=>?_⟩;refine⟨_,rfl,_,rfl,_,rfl,a,vh,hd,1+z,rfl,f5.st,hI,hok,m1,m6,λvp H6 pl f6 hpl plok=>?_⟩;have hI6:=hI.tk (f6.tk (K:=K) f5.st);dsimp only[cO,aBx,aA8];refine aHh [none,some (.ref a),some vh] (aMz 0 6 (by decide +kernel) (by decide +kernel) rfl rfl rfl rfl (by trivial) (by trivial)) ?_;refine⟨_,rfl,_,rfl,_,_,rfl,rfl,a,_,rfl,f6.st,(by show (0:Int)<4+1/\(4:Int)+1<2 ^ 64;decide),λy H7 f7 y0 y1=>?_⟩;have y1:y<4+1:=y1;refine⟨y,rfl,by lia,by lia,?_⟩;have hI7:=hI6.tk (f7.tk (K:=K) f6.st);refine aHq (Fx a) (aQ3 f7.st) ((List.range y.toNat).map λi:Nat=>V.int (0+(i:Int))) (λ_=>true) (λ_ H' y=>∃r,dM K H' y r/\qY hd r) (λf1 f2 ⟨r,⟨p,e,hp⟩,h⟩=>⟨r,⟨p,e,f2.aY f1.st hp⟩,h⟩) (λ_ _ gD ⟨r,⟨p,e,hp⟩,h⟩=>⟨r,⟨p,e,SqT.nM gD hp⟩,h⟩) (λi σ=>∃x,σ=[some x,some (.ref a),some vh]) (fun σ=>∃l,σ=[l,some (.ref a),some vh]) ⟨none,rfl⟩ (small (by rw[j9,bAN];lia)) (Itr 0 y.toNat) (λH' i x _ ex=>?_) (λH' _=>?_) (λi x σ' H' Q' ex ps f' r=>?_) (λi x σ2 ex at2 H' R f' r=>r H' (Fx.refl f'.st)) (λi x σ2 ex at2 _ H' R f' r=>?_) λL H8 ys f8 fL gL hys=>?_
  ·obtain⟨hi,rfl⟩:=aR5 ex;exact⟨hi,λy H2 hy=>hy⟩
  ·show y.toNat<=_;rw[j9,bAN];exact j6 _
  ·obtain⟨l,rfl⟩:=ps;exact r _ ⟨some x,rfl⟩ ⟨x,rfl⟩
  ·obtain⟨x',rfl⟩:=at2;exact⟨_,rfl,_,rfl,a,vh,hd,rfl,f'.st,hI7.tk (f'.tk f7.st),hok,λt H2 r' f2 g2 hk=>r _ H2 f2 ⟨r',⟨t,rfl,SqT.of g2⟩,hk⟩⟩
  rw[qW,j9,bAN] at hys;obtain⟨ly,hy⟩:=pI hys;obtain⟨rows,hrow,hkd⟩:=aNv (ys:=ys) λy hm=>by obtain⟨i,hi⟩:=List.mem_iff_getElem?.mp hm;exact hy i y hi
  have lrow:=hrow.len;have f68:=f7.trans f8;have fx8:=(fx.trans f5).trans (f6.trans f68);have hL0:H L=none:=(fx.trans f5).free (f6.free (f7.free fL));refine⟨_,rfl,_,rfl,_,rfl,by show 3<=sizeLine;decide,λt H9 ht0 s9 g9=>?_⟩;have hix:i<ns.length:=by lia
  have hN9:=s9 _ _ (fx8.same _ _ nN hN);have hE8:fJ K H8 d es:=hE.fx ((f5.trans f6).trans f68) fx.st nda λe he=>hs.ne (hes e he).2.2;have hE9:=hE8.same s9;have lE:es.length=i:=by have:=congrArg List.length enm;rw[j9,bAL] at this;lia
  refine⟨_,rfl,_,rfl,_,rfl,N,_,_,.str ns[i],rfl,rfl,SqL.of hN9,?_,d,_,rfl,aG2.k (k:=Sum.inr ns[i]) hE9.at_ (by rw[mJ];exact pC (by lia)),?_⟩
  ·rw[Int.zero_add];exact eQ (by rw[v4,d9 hix];rfl)
  have tk:ns.take (i+1)=ns.take i++[ns[i]]:=by rw[bBD,d9 hix];rfl
  have nd1:(ns.take (i+1)).Nodup:=hn.2.2.sublist (bDX _ _);have nin:∀e∈es,e.n≠ns[i]:=λe he z=>by rw[tk,<-enm] at nd1;exact (List.nodup_append.mp nd1).2.2 _ (bBJ he) _ m9 z
  obtain⟨en1,een⟩:∃en1:En,(⟨ns[i],.ref t,vh,vp,L,⟨hd,pl,rows⟩⟩:En)=en1:=⟨_,rfl⟩;have ek:putK (enK es) (Sum.inr ns[i]) (.ref t)=enK (es++[en1]):=by
   rw[wB λkv hkv=>by unfold enK at hkv;obtain⟨e,he,rfl⟩:=List.mem_map.mp hkv;exact λz=>nin e he (Sum.inr.inj z)]
   unfold enK;rw[bAO,<-een];rfl
  rw[ek];have nz:cY H9 d:=cY.dK hE9.at_;have bz:But d H9 (L2.upd H9 d (.dK (enK (es++[en1])))):=But.upd;have tb1:mX K H9 en1.v en1.vh en1.vp en1.L en1.t:=by rw[<-een];exact⟨t,rfl,SqT.of g9,(hI6.tk (f68.tk f6.st)).same s9,(hpl.tk (f68.tk f6.st)).same s9,ys,s9 _ _ gL,hrow.imp λ_ _ z=>z.same s9⟩
  refine⟨(fx8.sm s9).upd hd0' nda,es++[en1],_,_,_,_,⟨aJ,?_,?_,λe he=>?_,λe he=>?_⟩,λe he=>?_,?_,rfl⟩
  ·rw[bAO,enm,<-een];show (ns.take i++[ns[i]]).Nodup;rw[<-tk];exact nd1
  ·rw[bAC];show es.length+1<=60;lia
  ·rcases List.mem_append.mp he with he|he
   ·exact hE9.nm e he
   ·rw[bCS] at he;rw[he,<-een];exact hn.2.1 _ (bAR hix)
  ·rcases List.mem_append.mp he with he|he
   ·exact bz.tb nz (hE9.tb e he)
   ·rw[bCS] at he;rw[he];exact bz.tb nz tb1
  ·rcases List.mem_append.mp he with he|he
   ·exact hes e he
   ·rw[bCS] at he;rw[he,<-een];exact⟨⟨hok,plok,by show rows.length<=60;lia,hkd⟩,by show rows.length<=4;lia,hL0⟩
  ·rw[bAO,enm,tk,<-een];rfl
 ·obtain⟨fx,es,l5,l6,l7,l8,hE,hes,enm,rfl⟩:=p;have lE:es.length=n:=by have:=congrArg List.length enm;rw[j9,bAL] at this;lia
  exact⟨_,rfl,_,rfl,by show 2<=sizeLine;decide,λt H5 _ s5 g5=>q t d (1+z) es H5 (fx.sm s5) (SqT.of g5) hd0' m1 m6 (hE.same s5) hes (by lia) (by lia)⟩
end
end My
namespace L2
open PySem PySem.Spec PyProof.Rows
def aWg (K:bET)(n:Nat)(t:TGs):TG:=λv σ H Q=>∃a xs,v=.ref a/\SqL K H a xs/\xs.length=n/\t xs σ H Q
theorem aVu {X:Cx}{pos:Pos}{es:List Expr}{k:Nat}{t:TGs}{n:Nat}(hc:X.calm=true)(h:PGs X es t)
  (hn:(assignEach es X.env).length=n:=by rfl) (hst:(assignEach es X.env).findIdx? (·.1)=none:=by rfl):PG X (.Tuple es k pos) (aWg X.K n t):=by
 intro bEX s σ H v u Q I r hw;obtain⟨a,xs,e1,hq,hl,hw⟩:=hw;subst e1;cases r;obtain⟨its,rv,ht,hz⟩:=I.list hq;have hsz:(assignEach es X.env).length=its.toArray.size:=by rw[hn,<-hl,rv.length,m7]
 rw[arm_assign_Tuple];refine c7 (bDL ?_);unfold unpack;rw[hsz,hst];refine c7 (bAV (PySem.W.kun_itemsOf (I.ok.hd hc) ht.isList λh' hx=>?_));have I1:Inv X bEX σ H { s with heap:=h' }:=I.kept (t':=s.toks) λb o e=>hx b o (t7 (m8 e)) e;exact h bEX _ σ H xs _ Q I1 (by simpa using rv) hw
theorem aTs {X:Cx}{pos:Pos}{es:List Expr}{k:Nat}{t:TGs}{n:Nat}(hc:X.calm=true)(h:VGs X es t)(hn:(assignEach es X.env).length=n:=by rfl)(hst:(assignEach es X.env).findIdx? (·.1)=none:=by rfl):VG X (.Tuple es k pos) (aWg X.K n t):=⟨aVu hc h.1 hn hst⟩
theorem aQc {k:Bool}{a b:V}(ha:KdV k a)(hb:KdV k b)(h:kvlt a b=true):kvlt b a=false:=by
 cases k with
 |true=>obtain⟨x,rfl⟩:=ha;obtain⟨y,rfl⟩:=hb;have:=of_decide_eq_true (show decide (x<y)=true from h);exact w6 (by lia)
 |false=>obtain⟨x,rfl⟩:=ha;obtain⟨y,rfl⟩:=hb;have:=of_decide_eq_true (show decide (x.cps.toList<y.cps.toList)=true from h);exact w6 (List.lt_asymm this)
theorem aXl {k:Bool}{a b c:V}(ha:KdV k a)(hb:KdV k b)(hc:KdV k c)(h1:kvlt b a=false)(h2:kvlt c b=false):kvlt c a=false:=by
 cases k with
 |true=>obtain⟨x,rfl⟩:=ha;obtain⟨y,rfl⟩:=hb;obtain⟨z,rfl⟩:=hc;have:=of_decide_eq_false (show decide (y<x)=false from h1);have:=of_decide_eq_false (show decide (z<y)=false from h2);exact w6 (by lia)
 |false=>obtain⟨x,rfl⟩:=ha;obtain⟨y,rfl⟩:=hb;obtain⟨z,rfl⟩:=hc;have e1:=of_decide_eq_false (show decide (y.cps.toList<x.cps.toList)=false from h1);have e2:=of_decide_eq_false (show decide (z.cps.toList<y.cps.toList)=false from h2);exact w6 (List.not_lt.mpr (List.le_trans (List.not_lt.mp e1) (List.not_lt.mp e2)))
theorem aTm {k:Bool}{a b:V}(ha:KdV k a)(hb:KdV k b)(h1:kvlt a b=false)(h2:kvlt b a=false):a=b:=by
 cases k with
 |true=>obtain⟨x,rfl⟩:=ha;obtain⟨y,rfl⟩:=hb;have:=of_decide_eq_false (show decide (x<y)=false from h1);have:=of_decide_eq_false (show decide (y<x)=false from h2);rw[show x=y by lia]
 |false=>obtain⟨x,rfl⟩:=ha;obtain⟨y,rfl⟩:=hb;have e1:=of_decide_eq_false (show decide (x.cps.toList<y.cps.toList)=false from h1);have e2:=of_decide_eq_false (show decide (y.cps.toList<x.cps.toList)=false from h2);have e:x.cps.toList=y.cps.toList:=List.le_antisymm (List.not_lt.mp e2) (List.not_lt.mp e1);obtain⟨⟨xs⟩⟩:=x;obtain⟨⟨ys⟩⟩:=y;have:xs=ys:=e;rw[this]
theorem lB {k:Bool}{ks:List Bool}{a b:V}{r q:List V}(ha:KdV k a)(hb:KdV k b):rlt (a::r) (b::q)=if a=b then rlt r q else kvlt a b:=by
 cases k with
 |true=>
  obtain⟨x,rfl⟩:=ha;obtain⟨y,rfl⟩:=hb;show (if (x == y)=true then rlt r q else decide (x<y))=_;by_cases e:x=y
  ·subst e;rw[if_pos (by simp),if_pos rfl]
  ·rw[if_neg (by simpa using e),if_neg (by intro z;exact e (V.int.inj z))];rfl
 |false=>
  obtain⟨x,rfl⟩:=ha;obtain⟨y,rfl⟩:=hb;show (if (x == y)=true then rlt r q else decide (x.cps.toList<y.cps.toList))=_;by_cases e:x=y
  ·subst e;rw[if_pos (by simp),if_pos rfl]
  ·rw[if_neg (by simpa using e),if_neg (by intro z;exact e (V.str.inj z))];rfl
theorem aJc:∀{ks:List Bool} {a b:List V},KdR ks a->KdR ks b->rlt a b=true->rlt b a=false
 |_,_,_,.nil,.nil,h=>by cases (show false=true from h)
 |_,x::a,y::b,.cons (as:=ks) ha ta,.cons hb tb,h=>by
  rw[lB (ks:=ks) ha hb] at h;rw[lB (ks:=ks) hb ha];by_cases e:x=y
  ·rw[if_pos e] at h;rw[if_pos e.symm];exact aJc ta tb h
  ·rw[if_neg e] at h;rw[if_neg (Ne.symm e)];exact aQc ha hb h
theorem aR1:∀{ks:List Bool} {a b c:List V},KdR ks a->KdR ks b->KdR ks c->rlt b a=false->rlt c b=false->rlt c a=false
 |_,_,_,_,.nil,.nil,.nil,_,_=>rfl
 |_,x::a,y::b,z::c,.cons (as:=ks) ha ta,.cons hb tb,.cons hc tc,h1,h2=>by
  rw[lB (ks:=ks) hb ha] at h1;rw[lB (ks:=ks) hc hb] at h2;rw[lB (ks:=ks) hc ha];by_cases e1:y=x
  ·subst e1;rw[if_pos rfl] at h1;by_cases e2:z=y
   ·subst e2;rw[if_pos rfl] at h2 ⊢;exact aR1 ta tb tc h1 h2
   ·rw[if_neg e2] at h2 ⊢;exact h2
  ·rw[if_neg e1] at h1;by_cases e2:z=y
   ·subst e2;rw[if_neg e1];exact h1
   ·rw[if_neg e2] at h2;by_cases e3:z=x
    ·subst e3;exact absurd (aTm hc hb h2 h1) e2
    ·rw[if_neg e3];exact aXl ha hb hc h1 h2
theorem aLu:∀{ks:List Bool} {a b:List V},KdR ks a->KdR ks b->rlt a b=false->rlt b a=false->a=b
 |_,_,_,.nil,.nil,_,_=>rfl
 |_,x::a,y::b,.cons (as:=ks) ha ta,.cons hb tb,h1,h2=>by
  rw[lB (ks:=ks) ha hb] at h1;rw[lB (ks:=ks) hb ha] at h2;by_cases e:x=y
  ·subst e;rw[if_pos rfl] at h1 h2;rw[aLu ta tb h1 h2]
  ·rw[if_neg e] at h1;rw[if_neg (Ne.symm e)] at h2;exact absurd (aTm ha hb h1 h2) e
theorem getD_mem {α:Type}{l:List α}{d:α}(hd:d∈l)(i:Nat):l.getD i d∈l:=by
 by_cases h:i<l.length
 ·rw[j7,d9 h];exact bAR h
 ·rw[j7,bAK (by lia)];exact hd
theorem range_getD {α:Type}(l:List α)(d:α):(List.range l.length).map (λi=>l.getD i d)=l:=by
 refine bB7 λi=>?_;by_cases h:i<l.length
 ·rw[v4,bCA h,d9 h,Option.map_some,j7,d9 h];rfl
 ·rw[bAK (by simpa using h),bAK (by lia)]
theorem aZ1 {α:Type}{lt:α->α->Bool}(l:List α)(d:α){n:Nat}(hn:n=l.length)(asym:∀a∈l,∀b∈l,lt a b=true->lt b a=false)(tr:∀a∈l,∀b∈l,∀c∈l,lt b a=false->lt c b=false->lt c a=false)(R:α->α->Prop)(hR:l.Pairwise R) :
  ((PySem.W.dZ n λi j=>lt (l.getD i d) (l.getD j d)).map λi=>l.getD i d).Perm l/\((PySem.W.dZ n λi j=>lt (l.getD i d) (l.getD j d)).map λi=>l.getD i d).Pairwise λa b=>lt b a=false/\(lt a b=true\/R a b):=by
 subst hn;cases l with
 |nil=>
  have e:PySem.W.dZ ([]:List α).length (λi j=>lt (([]:List α).getD i d) (([]:List α).getD j d))=[]:=by have:=PySem.W.wI ([]:List α).length (λi j=>lt (([]:List α).getD i d) (([]:List α).getD j d));exact List.length_eq_zero_iff.mp this
  rw[e];exact⟨.nil,.nil⟩
 |cons x0 l0=>
  generalize hl:x0::l0=l at asym tr hR;have hx:x0∈l:=by rw[<-hl];exact m9
  have same:PySem.W.dZ l.length (λi j=>lt (l.getD i d) (l.getD j d))=PySem.W.dZ l.length (λi j=>lt (l.getD i x0) (l.getD j x0)):=PySem.W.aLl λi j hi hj=>by rw[j7,j7,j7,j7,d9 hi,d9 hj];rfl
  have S:PySem.W.Swo λi j=>lt (l.getD i x0) (l.getD j x0):=⟨λ{i j} h=>asym _ (getD_mem hx i) _ (getD_mem hx j) h,λ{i j k} h1 h2=>tr _ (getD_mem hx i) _ (getD_mem hx j) _ (getD_mem hx k) h1 h2⟩;obtain⟨p1,p2⟩:=PySem.W.aJl (n:=l.length) S;rw[<-same] at p1 p2;have low:∀i∈PySem.W.dZ l.length (λi j=>lt (l.getD i d) (l.getD j d)),i<l.length:=λi hi=>PySem.W.rQ hi;refine⟨?_,?_⟩
  ·have:=p1.map λi=>l.getD i d;rw[range_getD] at this;exact this
  ·refine List.pairwise_map.mpr (bDM ?_ p2);rintro i j hi hj ⟨h1,h2⟩;have li:=low i hi;have lj:=low j hj;have ei:l.getD i x0=l.getD i d:=by rw[j7,j7,d9 li];rfl
   have ej:l.getD j x0=l.getD j d:=by rw[j7,j7,d9 lj];rfl
   dsimp only at h1 h2;rw[ei,ej] at h1 h2;refine⟨h1,?_⟩;rcases h2 with h2|h2
   ·exact .inl h2
   ·right;have:=List.pairwise_iff_getElem.mp hR i j li lj h2;rw[j7,j7,d9 li,d9 lj];exact this
theorem aV8 {α:Type}(l:List α):l.Pairwise λ_ _=>True:=List.pairwise_of_forall λ_ _=>trivial
theorem kZ {ks:List Bool}{rs:List (List V)}(h:∀r∈rs,KdR ks r):(srt rs).Perm rs/\(srt rs).Pairwise λa b=>rlt b a=false:=by obtain⟨h1,h2⟩:=aZ1 (lt:=rlt) rs [] rfl (λa ha b hb=>aJc (h a ha) (h b hb)) (λa ha b hb c hc=>aR1 (h a ha) (h b hb) (h c hc)) (λ_ _=>True) (aV8 _);exact⟨h1,h2.imp λz=>z.1⟩
theorem xU {α:Type}{lt:α->α->Bool}:∀{l m:List α},l.Perm m->(∀a∈l,∀b∈l,lt a b=false->lt b a=false->a=b)->l.Pairwise (λa b=>lt b a=false)->m.Pairwise (λa b=>lt b a=false)->l=m
 |[],m,p,_,_,_=>(List.perm_nil.mp p.symm).symm
 |a::l,[],p,_,_,_=>absurd (List.perm_nil.mp p) (by simp)
 |a::l,b::m,p,anti,hl,hm=>by
  rw[List.pairwise_cons] at hl hm;have ma:a∈b::m:=p.subset m9;have mb:b∈a::l:=p.symm.subset m9;have e:a=b:=by
   rcases List.mem_cons.mp ma with z|z
   ·exact z
   ·rcases List.mem_cons.mp mb with y|y
    ·exact y.symm
    ·exact anti a m9 b mb (hm.1 a z) (hl.1 b y)
  subst e;rw[xU (List.Perm.cons_inv p) (λx hx y hy=>anti x (j8 _ hx) y (j8 _ hy)) hl.2 hm.2]
theorem aA6 {ks:List Bool}{rs qs:List (List V)}(h:∀r∈rs,KdR ks r)(p:rs.Perm qs):srt rs=srt qs:=by have hq:∀r∈qs,KdR ks r:=λr hr=>h r (p.symm.subset hr);obtain⟨a1,a2⟩:=kZ h;obtain⟨b1,b2⟩:=kZ hq;have hm:∀r∈srt rs,KdR ks r:=λr hr=>h r (a1.subset hr);exact xU (lt:=rlt) (a1.trans (p.trans b1.symm)) (λa ha b hb=>aLu (hm a ha) (hm b hb)) a2 b2
end L2
namespace My
open PySem PySem.Spec PyProof.Rows L2
section
variable {P:Program}{w:World}{K:bET}{mg:bEW}{base:Heap}
theorem aAz {ks:List Bool}{rs:List (List V)}(h:∀r∈rs,KdR ks r)(p:List V->Bool):srt (rs.filter p)=(srt rs).filter p:=by obtain⟨p1,s1⟩:=kZ h;obtain⟨p2,s2⟩:=kZ (rs:=rs.filter p) λr hr=>h r (List.mem_filter.mp hr).1;refine xU (lt:=rlt) (p2.trans (p1.filter p).symm) (λa ha b hb h1 h2=>?_) s2 (s1.filter p);exact aLu (h a (List.mem_filter.mp (rM ha)).1) (h b (List.mem_filter.mp (rM hb)).1) h1 h2
theorem aF4 (T:Txt w K mg):Ok P w K mg base 1 "_law_spot" ["_law_head_here","_law_name"] (uV K):=by
 refine Ok.ofV T.aG4 aFe (λvs H Q E h=>?_) (λf cdv A outer s H vs Q E hr h=>?_)
 ·obtain⟨vh,n,hd,k,rfl,_⟩:=h;rfl
 obtain⟨vh,n,hd,k,rfl,⟨b,us,rfl,hb,hu⟩,hl,hk,q⟩:=h;obtain⟨h1,h2⟩:=aD7 hk;refine⟨_,(aG (aN (nP PySem.F.plainAttrs_list PySem.F.slot_list_index PySem.F.type_list_index aC1 (dB (N:=["_law_column","_law_kind"]) (by trivial) (lC (by decide +kernel)) rfl (qG (vv 0)) (λcl s' H' fp=>⟨(rK (K:=K) (n:=2) rfl (bL (aU (i:=0) (show (["_law_column","_law_kind"]:List Str).Nodup from by decide +kernel) rfl (Or.inl rfl)) (bL (aU (i:=1) (show (["_law_column","_law_kind"]:List Str).Nodup from by decide +kernel) rfl (Or.inl rfl)) fY))),gH,(vv 0)⟩)) (aC (vv 1) aB)))),?_⟩;have lu:=hu.len;dsimp only[uX,tBM];refine uZ [none,none] rN ⟨_,rfl,b,rfl,⟨_,hb⟩,aHq Same (aN0 H) us (λ_=>true) (λi _ y=>∃c',hd[i]?=some c'/\y=.str c'.1) (λ_ _ h=>h) (λ_ _ _ h=>h) (λi σ=>∃c',hd[i]?=some c'/\At2 [none,none] (.str c'.1) (.str c'.2) σ) (Ps2 [none,none]) ⟨none,none,rfl⟩ (small (by lia)) _ (aEw λH' s'=>s'.aY hb) (vJ λH' s'=>s'.aY hb) (λi x σ' H' Q' ex hps s' qq=>?_) (λi x σ2 ex hA H' R s' r=>r H' (Same.refl _)) (λi x σ2 ex hA hp H' R s' r=>?_) λD H6 ys s6 fD g6 hys=>?_⟩
 ·obtain⟨c',hc',p',rfl,hp'⟩:=cB hu ex;exact hg2 (s'.aY hp') hps fun σ2 h1 h2=>qq σ2 h1 ⟨c',hc',h2⟩
 ·obtain⟨c',hc',rfl⟩:=hA;exact⟨_,rfl,r _ _ (Same.refl H') ⟨c',hc',rfl⟩⟩
 ·rw[qW] at hys;obtain⟨l1,l2⟩:=pI hys;have ey:ys=(hd.map (·.1)).map V.str:=bB7 λi=>by
   cases ez:ys[i]? with
   |some z=>obtain⟨c',hc',rfl⟩:=l2 i z ez;rw[v4,v4,hc'];rfl
   |none=>have:=List.getElem?_eq_none_iff.mp ez;exact (bAK (by rw[j9,j9];lia)).symm
  subst ey;refine⟨.inl ⟨rfl,_,SqL.of g6⟩,_,rfl,D,hd.map (·.1),n,plc hd n,rfl,rfl,SqL.of g6,by rw[j9];exact hl,by rw[v4,h1];rfl,λj m hj hm=>?_,q H6 s6⟩;rw[v4] at hm;obtain⟨c,hc,rfl⟩:=Option.map_eq_some_iff.mp hm;exact h2 j c hj hc
theorem aRo {X:Cx}{scope:Scope}{x x2 y:Str}{σ:L2.St}{u:V}(i:Nat)(hf:(y,NameKind.free)∈scope.names)(hi:X.N[i]?=some y)(hs:σ[i]?=some (some u))(hv:Vis X.env.scope y):Cap X scope [x,x2,y] σ [none,none,some u]:=
 ⟨rfl,λn q r h1 h2=>by
  match n,h1,h2 with
  |0,_,h2=>cases h2
  |1,_,h2=>cases h2
  |2,h1,h2=>cases h1;cases h2;exact⟨hf,i,hi,hs,hv⟩
  |n+3,h1,_=>cases h1⟩
theorem aOd {kd:Str}{a b c:V}(ha:cG kd a)(hb:cG kd b)(hc:cG kd c)(h1:vlt a b=true)(h2:vlt b c=true):vlt a c=true:=by
 cases ha with
 |num=>cases hb;cases hc;exact v6 (Int.lt_trans (of_decide_eq_true h1) (of_decide_eq_true h2))
 |wrd _ _=>cases hb;cases hc;exact v6 (List.lt_trans (of_decide_eq_true h1) (of_decide_eq_true h2))
theorem aGw {kd:Str}{v:V}{cs:List (V × Int)}(hv:cG kd v)(hk:∀c∈cs,cG kd c.1)(up:(cs.map (·.1)).Pairwise λa b=>vlt a b=true):∀k,k<=cs.length->kW v (cs.take k) 1 0<=k/\∀(i:Nat) (c:V × Int),i<k->cs[i]?=some c->(i<kW v (cs.take k) 1 0↔vlt v c.1=false)
 |0,_=>⟨j6 _,λi c h=>absurd h (bCT _)⟩
 |k+1,h=>by
  obtain⟨h1,h2⟩:=aGw hv hk up k (by lia);have hc:cs[k]?=some cs[k]:=d9 (by lia);have tk:cs.take (k+1)=cs.take k++[cs[k]]:=by rw[bBD,hc];rfl
  have lk:(cs.take k).length=k:=by rw[bAL];lia
  rw[tk,xN,lk];have hck:=hk _ (p7 hc);cases hq:vlt v cs[k].1 with
  |true=>
   rw[if_pos rfl];refine⟨by lia,λi c hi ei=>?_⟩;by_cases e:i=k
   ·subst e;rw[hc] at ei;cases ei;rw[hq];exact⟨λz=>absurd z (by lia),λz=>by cases z⟩
   ·exact h2 i c (by lia) ei
  |false=>
   rw[if_neg t6];refine⟨by lia,λi c hi ei=>⟨λ_=>?_,λ_=>by lia⟩⟩;by_cases e:i=k
   ·subst e;rw[hc] at ei;cases ei;exact hq
   ·cases hz:vlt v c.1 with
    |false=>rfl
    |true=>
     have hci:=hk c (p7 ei);have li:i<(cs.map (·.1)).length:=by rw[j9];lia
     have lk':k<(cs.map (·.1)).length:=by rw[j9];lia
     have hp:=List.pairwise_iff_getElem.mp up i k li lk' (by lia);rw[List.getElem_map,List.getElem_map] at hp;have ec:cs[i]=c:=(List.getElem?_eq_some_iff.mp ei).2;rw[ec] at hp;rw[aOd hv hci hck hz hp] at hq;cases hq
theorem yC {α:Type}{p:α->Bool}:∀{l:List α} {N:Nat},N<=l.length->(∀(i:Nat) (c:α),l[i]?=some c->(i<N↔p c=true))->l.filter p=l.take N
 |[],N,_,_=>by rw[List.take_nil];rfl
 |a::l,0,h,hp=>by rw[List.take_zero];refine List.filter_eq_nil_iff.mpr λc hc=>?_;obtain⟨i,hi⟩:=List.mem_iff_getElem?.mp hc;exact λz=>absurd ((hp i c hi).mpr z) (bCT _)
 |a::l,N+1,h,hp=>by rw[bC3,if_pos ((hp 0 a rfl).mp (Nat.succ_pos _)),List.take_succ_cons];exact congrArg _ (yC (by simpa using h) λi c e=>⟨λz=>(hp (i+1) c (by simpa using e)).mp (by lia),λz=>by have:=(hp (i+1) c (by simpa using e)).mpr z;lia⟩)
theorem aAo {α β:Type}(p:Nat->Bool):∀(k:Nat) (l:List α) (m:List β),l.length=m.length->(sel p k l).length=(sel p k m).length
 |_,[],[],_=>rfl
 |k,a::l,b::m,h=>by
  have ih:=aAo p (k+1) l m (by simpa using h);unfold sel;cases p k with
  |true=>simpa using ih
  |false=>simpa using ih
theorem aZl {kd:Str}{a b:V}{H:Hp}{Q:VK}(ha:cG kd a)(hb:cG kd b)(q:Q (.bl (!vlt b a)) H):aY7 a b H Q:=by
 cases ha with
 |num=>cases hb;exact .inl ⟨_,_,rfl,rfl,q⟩
 |wrd _ _=>cases hb;exact .inr ⟨_,_,rfl,rfl,q⟩
def aG1 (K:bET):Sp:=λvs H Q _=>∃(vc v:V) (kd:Str) (m h0:Int) (cs:List (V × Int)),vs=[vc,v]/\uD K H (lG K H) vc ((.non,h0)::cs)/\aLy kd m h0 cs/\cG kd v/\∀H',Same H H'->Q (.int (kW v cs 1 0:Nat)) H'
theorem aEc (T:Txt w K mg):Ok P w K mg base 1 "_law_span" ["_law_cuts","_law_value_here"] (aG1 K):=by
 refine Ok.ofV T.aH6 aEo (λvs H Q E h=>?_) (λf cdv A outer s H vs Q E hr h=>?_)
 ·obtain⟨vc,v,kd,m,h0,cs,rfl,_⟩:=h;rfl
 obtain⟨vc,v,kd,m,h0,cs,rfl,⟨a,us,rfl,ha,hu⟩,ok,hv,q⟩:=h;have hk:∀c∈cs,cG kd c.1:=λc hc=>(ok.each c hc).1;have few:=ok.few;refine⟨_,(aG (aN (aO bI (by rfl) T.fM dF (aC (dB (N:=["_law_low","_law_house","_law_value_here"]) (by trivial) (jC (aF mG) rfl (by decide +kernel)) rfl (qG (jP aNz (vv 0) (kI aH) oH)) (λcl s' H' fp=>⟨(rK (K:=K) (n:=2) rfl (bL (aU (i:=0) (show (["_law_low","_law_house","_law_value_here"]:List Str).Nodup from by decide +kernel) rfl (Or.inl rfl)) (bL (aU (i:=1) (show (["_law_low","_law_house","_law_value_here"]:List Str).Nodup from by decide +kernel) rfl (Or.inl rfl)) fY))),(aBb (bH aQi (vv 0) (vv 2) (bF _))),(vv 0)⟩)) aB)))),?_⟩;obtain⟨u0,ut,rfl,_,hut⟩:∃u0 ut,us=u0::ut/\lG K H u0 (.non,h0)/\cH (lG K H) ut cs:=by
  cases hu with
  |cons r t=>exact⟨_,_,rfl,r,t⟩
 have lt:=hut.len;dsimp only[uX,tCB,dR];refine uZ [none,none,some v] (aRo 1 (by decide +kernel) rfl rfl (by trivial)) ⟨_,rfl,_,rfl,a,_,rfl,ha,λts H5 s5 g5=>?_⟩;rw[show (1:Int)=((1:Nat):Int) from rfl,wM,List.drop_one,List.tail_cons] at g5;refine⟨ts,rfl,⟨_,g5⟩,aHq Same (aN0 H5) ut (λi=>!vlt v (cs.getD i (.non,0)).1) (λ_ _ _=>True) (λ_ _ h=>h) (λ_ _ _ h=>h) (λi σ=>∃c,cs[i]?=some c/\At2 [none,none,some v] c.1 (.int c.2) σ) (Ps2 [none,none,some v]) ⟨none,none,rfl⟩ (small (by lia)) _ (aEw λH' s'=>s'.aY g5) (vJ λH' s'=>s'.aY g5) (λi x σ' H' Q' ex hps s' qq=>?_) (λi x σ2 ex hA H' R s' rr=>?_) (λi x σ2 ex hA hp H' R s' rr=>?_) λD H6 ys s6 fD g6 hys=>?_⟩
 ·obtain⟨c,hc,p,rfl,hp⟩:=cB hut ex;exact hg2 ((s5.trans s').aY hp) hps fun σ2 h1 h2=>qq σ2 h1 ⟨c,hc,h2⟩
 ·obtain⟨c,hc,rfl⟩:=hA;refine⟨_,rfl,_,rfl,aZl (hk c (p7 hc)) hv ⟨_,rfl,?_⟩⟩;have e:(!vlt v (cs.getD i (.non,0)).1)=!vlt v c.1:=by rw[j7,hc];rfl
  rw[e] at rr;exact rr H' (Same.refl _)
 ·obtain⟨c,hc,rfl⟩:=hA;exact⟨_,rfl,rr _ H' (Same.refl _) trivial⟩
 ·have l1:=hys.len;rw[aAo _ 0 (List.range ut.length) cs (by rw[bAN];lia),lQ (p':=λc=>!vlt v c.1) λi c e=>by rw[bC7,j7,e];rfl] at l1;obtain⟨hN,hS⟩:=aGw hv hk ok.up cs.length (j6 _);rw[bCG] at hN hS;rw[yC (N:=kW v cs 1 0) hN λi c e=>⟨λz=>by rw[(hS i c (List.getElem?_eq_some_iff.mp e).1 e).mp z];rfl,λz=>(hS i c (List.getElem?_eq_some_iff.mp e).1 e).mpr (by simpa using z)⟩,bAL] at l1;refine⟨D,_,rfl,.inl (SqL.of g6),?_⟩;rw[show ys.length=kW v cs 1 0 by lia];exact q H6 (s5.trans s6)
def aHz:Sp:=λvs H Q _=>∃v m,vs=[v,.int m]/\Vl v/\0<m/\m<=6/\Q (.int (nm v % m)) H
theorem aEn (T:Txt w K mg):Ok P w K mg base 1 "_law_home" ["_law_value_here","_law_houses"] aHz:=by
 refine Ok.ofV T.aHi gU (λvs H Q E h=>?_) (λf cdv A outer s H vs Q E hr h=>?_)
 ·obtain⟨v,h,rfl,_⟩:=h;rfl
 obtain⟨v,m,rfl,hv,h0,m6,q⟩:=h;refine⟨_,(aD (aX (i:=2) gU.nd rfl (by trivial) (vv 0)) (aD (bZ (cA (aO qX (by rfl) T.bN bJ (aC (vv 0) (aC (dY (v:=.ty "str") (by rfl) T.aR4 aJr rfl) aB)))) (aD (aX (i:=2) gU.nd rfl (by trivial) aH) (aG (eN PassesOwn.never rfl (aLs (vv 0)) (aU (i:=3) gU.nd rfl (by trivial)) (aG (aX (i:=2) gU.nd rfl (by trivial) (bM dG (bM dG (bM uH (vv 2) aH) (nP PySem.F.plainAttrs_str PySem.F.slot_str_index PySem.F.type_str_index aJa bC (aC (vv 3) aB))) aH)))))) aZ) (aG (aN (bM oR (vv 2) (vv 1)))))),?_⟩;rcases hv with⟨i,rfl⟩|⟨x,rfl,hx,h8⟩
 ·exact⟨_,rfl,_,rfl,_,"str",false,rfl,rfl,_,rfl,bV ⟨_,rfl,_,rfl,_,_,rfl,rfl,h0,q⟩⟩
 ·refine⟨_,rfl,_,rfl,_,"str",true,rfl,rfl,_,rfl,dI ⟨_,rfl,_,rfl,aNl (x:=x) (λi σ H'=>H'=H/\∃l,σ=[some (.str x),some (.int m),some (.int (num x i)),l]) ⟨rfl,none,rfl⟩ ?_ ?_⟩⟩
  ·rintro i σ H' hi ⟨rfl,l,rfl⟩;obtain⟨h1,h2⟩:=hx.at hi;refine⟨_,rfl,_,_,rfl,rfl,.inr ⟨by decide,by decide⟩,rfl,_,rfl,_,_,_,_,rfl,rfl,occ h1 h2,_,_,rfl,rfl,_,_,rfl,rfl,rfl,some (.str (sgn x i)),?_⟩;have e:num x i * 27+((x.cps.getD i 0 - 97:Nat):Int)+1=num x (i+1):=by show num x i * 27+((x.cps.getD i 0 - 97:Nat):Int)+1=num x i * 27+((x.cps.getD i 0:Int) - 96);lia
   exact congrArg (λn=>[some (V.str x),some (V.int m),some (V.int n),some (V.str (sgn x i))]) e
  ·rintro σ H' ⟨rfl,l,rfl⟩;exact⟨_,rfl,_,rfl,_,_,rfl,rfl,h0,q⟩
def nC (K:bET)(H:Hp)(M:Addr)(vh vp:V)(R:Addr)(t:Tb):Prop:=H M=some (.lst [vh,vp,.ref R,.non])/\lA K H vh t.hd/\xW K H vp t.pl/\bY K H R t.rows
theorem nC.same {H H':Hp}{M R:Addr}{vh vp:V}{t:Tb}(s:Same H H')(h:nC K H M vh vp R t):nC K H' M vh vp R t:=⟨s _ _ h.1,h.2.1.same s,h.2.2.1.same s,h.2.2.2.same s⟩
def aC9 (K:bET):Sp:=λvs H Q _=>∃(M R:Addr) (vh vp:V) (t:Tb) (m house:Int),vs=[.ref M,.int m,.int house]/\nC K H M vh vp R t/\nF m t/\0<m/\m<=6/\∀L H',H L=none->Same H H'->bY K H' L ((srt t.rows).filter λr=>bO t.hd m r house t.pl)->Q (.ref L) H'
theorem aCn (T:Txt w K mg)(aJf:Ok P w K mg base 1 "_law_spot" ["_law_head_here","_law_name"] (uV K))(aI3:Ok P w K mg base 1 "_law_home" ["_law_value_here","_law_houses"] aHz)(aHv:Ok P w K mg base 1 "_law_span" ["_law_cuts","_law_value_here"] (aG1 K)):Ok P w K mg base 2 "_law_stood" ["_law_table","_law_houses","_law_house"] (aC9 K):=by
 refine Ok.ofV T.aGb eG (λvs H Q E h=>?_) (λf cdv A outer s H vs Q E hr h=>?_)
 ·obtain⟨M,R,vh,vp,t,m,house,rfl,_⟩:=h;rfl
 obtain⟨M,R,vh,vp,t,m,house,rfl,⟨gM,hI,hpl,⟨us,gR,hus⟩⟩,ok,m0,m6,q⟩:=h;have okp:=ok.pl;have l8:=ok.hd.1.2.2;have lu:=hus.len;have few:=ok.few;have hkd':∀r∈t.rows,KdR (knds t.hd) r:=λr hr'=>yH (ok.rows r hr');refine⟨_,(aD (zV (vv 0) (aTs rfl (bL (aU (i:=3) eG.nd rfl (by trivial)) (bL (aU (i:=4) eG.nd rfl (by trivial)) (bL (aU (i:=5) eG.nd rfl (by trivial)) (bL (aU (i:=6) eG.nd rfl (by trivial)) fY)))))) (aD (bZ (bH eU (aW bK (vv 4) aH (λ_ _=>rfl)) bC (bF _)) (aG (aN (aO gF (by rfl) T.eX dN (aC (vv 5) aB)))) aZ) (aD (aX (i:=7) eG.nd rfl (by trivial) (aQ (aJf.mono (by decide)) hr (by rfl) (aC (vv 3) (aC (aW bK (vv 4) aH (λ_ _=>rfl)) aB)))) (aD (bZ (bH eU (aW bK (vv 4) aH (λ_ _=>rfl)) bC (bF _)) (aG (aN (aO gF (by rfl) T.eX dN (aC (dB (N:=["_law_row_here","_law_house","_law_houses","_law_spot_here"]) (by trivial) (jC (aF iJ) rfl (by decide +kernel)) rfl (iG (vv 5)) (λcl s' H' fp=>⟨(aU (i:=0) (show (["_law_row_here","_law_house","_law_houses","_law_spot_here"]:List Str).Nodup from by decide +kernel) rfl (Or.inl rfl)),(aBb (bH eU (aQ (aI3.mono (by decide)) hr (by rfl) (aC (aW (cT (K:=K)) (vv 0) (vv 3) (λ_ _=>rfl)) (aC (vv 2) aB))) (vv 1) (bF _))),(vv 0)⟩)) aB)))) aZ) (aG (aN (aO gF (by rfl) T.eX dN (aC (dB (N:=["_law_row_here","_law_house","_law_placing_here","_law_spot_here"]) (by trivial) (jC (aF iJ) rfl (by decide +kernel)) rfl (iG (vv 5)) (λcl s' H' fp=>⟨(aU (i:=0) (show (["_law_row_here","_law_house","_law_placing_here","_law_spot_here"]:List Str).Nodup from by decide +kernel) rfl (Or.inl rfl)),(aBb (bH eU (aW (cT (K:=K)) (aW (cT (K:=K)) (aW (cT (K:=K)) (vv 2) aH (λ_ _=>rfl)) (aQ (aHv.mono (by decide)) hr (by rfl) (aC (aW (cT (K:=K)) (vv 2) aH (λ_ _=>rfl)) (aC (aW (cT (K:=K)) (vv 0) (vv 3) (λ_ _=>rfl)) aB))) (λ_ _=>rfl)) aH (λ_ _=>rfl)) (vv 1) (bF _))),(vv 0)⟩)) aB)))))))),?_⟩;refine⟨_,rfl,M,_,rfl,SqL.of gM,rfl,_,_,rfl,_,_,rfl,_,_,rfl,_,_,rfl,rfl,?_⟩;cases epl:t.pl with
 |copies=>rw[epl] at hpl q;obtain⟨b,rfl,hb⟩:=hpl;refine⟨_,rfl,b,_,0,_,rfl,rfl,hb,at0 _ _,rfl,_,rfl,aIq (by decide) ?_⟩;refine⟨_,rfl,R,us,t.rows,knds t.hd,rfl,SqL.of gR,cM hus,by lia,rR ok.hd.1,hkd',λL8 H8 us8 hL8 s8 g8 h8=>?_⟩;have e:((srt t.rows).filter λr=>bO t.hd m r house .copies)=srt t.rows:=List.filter_eq_self.mpr λ_ _=>rfl;rw[e] at q;exact q L8 H8 hL8 s8 ⟨us8,g8,(nA h8).imp λ_ _ z=>z.same s8⟩
 |keys n=>
  have hpl':=hpl;rw[epl] at hpl' okp;obtain⟨b,rfl,hb⟩:=hpl';obtain⟨hnn,kd,hk⟩:=okp;refine⟨_,rfl,b,_,0,_,rfl,rfl,hb,at0 _ _,rfl,_,rfl,sY (by decide) ?_⟩;refine⟨_,rfl,_,rfl,b,_,1,_,rfl,rfl,hb,at1 _ _ _,vh,n,t.hd,kd,rfl,hI,by lia,hk,λH1 s1=>?_⟩;refine⟨_,rfl,b,_,0,_,rfl,rfl,s1.aY hb,at0 _ _,rfl,_,rfl,aIq (by decide) ?_⟩;dsimp only[cO,aBx,aA8,uX,tCB,dR,List.set,pO];refine xV us (λi=>bO t.hd m (t.rows.getD i []) house t.pl) [none,some (.int house),some (.int m),some (.int (plc t.hd n:Nat))] (aFz 2 1 7 (by decide +kernel) (by decide +kernel) (by decide +kernel) rfl rfl rfl rfl rfl rfl (by trivial) (by trivial) (by trivial)) (small (by lia)) (λR' r'=>aF2 (λH' sm=>SqL.of (sm _ _ (s1 _ _ gR))) (λR'' r''=>⟨_,rfl,r''⟩) R' r') (λi u ex H' R' l sm rr=>?_) rfl λD7 H7 hN7 s7 g7=>?_
  ·obtain⟨r,er,ru,rfl,hru⟩:=cB hus ex;have okr:=ok.rows r (p7 er);obtain⟨v,hv,hg,okv⟩:=aNq okr hk;have eg:t.rows.getD i []=r:=by rw[j7,er];rfl
   rw[eg,epl] at rr;have s':=s1.trans sm;refine⟨_,rfl,_,rfl,ru,r,_,v,rfl,rfl,s'.aY hru,eQ hv,_,rfl,v,m,rfl,rJ okv,m0,m6,_,rfl,rfl,_,rfl,?_⟩;have e:decide (V.int (nm v % m)=V.int house)=bO t.hd m r house (.keys n):=by show _=decide (nm (r.getD (plc t.hd n) .non) % m=house);rw[hg];exact decide_eq_decide.mpr ⟨λz=>V.int.inj z,λz=>congrArg V.int z⟩
   rw[e];exact rr H' (Same.refl _)
  have hF7:cH (dM K H7) (sel (λi=>bO t.hd m (t.rows.getD i []) house t.pl) 0 us) (t.rows.filter λr=>bO t.hd m r house t.pl):=by have eF:(t.rows.filter λr=>bO t.hd m r house t.pl)=sel (λi=>bO t.hd m (t.rows.getD i []) house t.pl) 0 t.rows:=(lQ λi r er=>by rw[bC7,j7,er];rfl).symm;rw[eF];exact (aBa hus 0).imp λ_ _ r=>r.same (s1.trans s7)
  have lF:=hF7.len;have lf:(t.rows.filter λr=>bO t.hd m r house t.pl).length<=t.rows.length:=bDA _ _;refine⟨D7,_,_,knds t.hd,rfl,SqL.of g7,cM hF7,by lia,rR ok.hd.1,λr hr'=>hkd' r (List.mem_filter.mp hr').1,λL8 H8 us8 hL8 s8 g8 h8=>?_⟩;rw[aAz hkd'] at h8;exact q L8 H8 (none_of (s1.trans s7) hL8) (s1.trans (s7.trans s8)) ⟨us8,g8,(nA h8).imp λ_ _ z=>z.same s8⟩
 |spans n h0 cs=>
  have hpl':=hpl;rw[epl] at hpl' okp;obtain⟨b,vo,rfl,hb,hcc⟩:=hpl';obtain⟨cc,cu,rfl,hcu,hcs⟩:=id hcc;obtain⟨hnn,kd,hk,hkd,okc⟩:=okp;refine⟨_,rfl,b,_,0,_,rfl,rfl,hb,at0 _ _,rfl,_,rfl,sY (by decide) ?_⟩;refine⟨_,rfl,_,rfl,b,_,1,_,rfl,rfl,hb,at1 _ _ _,vh,n,t.hd,kd,rfl,hI,by lia,hk,λH1 s1=>?_⟩;refine⟨_,rfl,b,_,0,_,rfl,rfl,s1.aY hb,at0 _ _,rfl,_,rfl,sY (by decide) ?_⟩;dsimp only[cO,aBx,aA8,uX,tCB,dR,List.set,pO];refine xV us (λi=>bO t.hd m (t.rows.getD i []) house t.pl) [none,some (.int house),some (.ref b),some (.int (plc t.hd n:Nat))] (aFz 2 4 7 (by decide +kernel) (by decide +kernel) (by decide +kernel) rfl rfl rfl rfl rfl rfl (by trivial) (by trivial) (by trivial)) (small (by lia)) (λR' r'=>aF2 (λH' sm=>SqL.of (sm _ _ (s1 _ _ gR))) (λR'' r''=>⟨_,rfl,r''⟩) R' r') (λi u ex H' R' l sm rr=>?_) rfl λD7 H7 hN7 s7 g7=>?_
  ·obtain⟨r,er,ru,rfl,hru⟩:=cB hus ex;have okr:=ok.rows r (p7 er);obtain⟨v,hv,hg,okv⟩:=aNq okr hk;have eg:t.rows.getD i []=r:=by rw[j7,er];rfl
   rw[eg,epl] at rr;have s':=s1.trans sm;refine⟨_,rfl,b,_,2,_,rfl,rfl,s'.aY hb,at2 _ _ _ _,_,rfl,b,_,2,_,rfl,rfl,s'.aY hb,at2 _ _ _ _,_,rfl,_,rfl,ru,r,_,v,rfl,rfl,s'.aY hru,eQ hv,.ref cc,v,kd,m,h0,cs,rfl,uD.same s' (λ_ _ z=>z.same s') hcc,okc,okv,λH2 s2=>?_⟩;have hN:=aNm v cs;have lc:=hcs.len;rw[v5] at lc;have hlt:kW v cs 1 0<cu.length:=by lia
   obtain⟨c0,hc0,pc,epc,hpc⟩:=cB hcs (d9 hlt);refine⟨cc,cu,_,cu[kW v cs 1 0],rfl,rfl,(s'.trans s2).aY hcu,eQ (d9 hlt),pc,_,1,_,epc,rfl,(s'.trans s2).aY hpc,at1 _ _ _,_,rfl,rfl,_,rfl,?_⟩;have e:decide (V.int c0.2=V.int house)=bO t.hd m r house (.spans n h0 cs):=by show _=decide ((((.non,h0)::cs).map (·.2)).getD (kW (r.getD (plc t.hd n) .non) cs 1 0) 0=house);rw[hg,j7,v4,hc0];exact decide_eq_decide.mpr ⟨λz=>V.int.inj z,λz=>congrArg V.int z⟩
   rw[e];exact rr H2 s2
  have hF7:cH (dM K H7) (sel (λi=>bO t.hd m (t.rows.getD i []) house t.pl) 0 us) (t.rows.filter λr=>bO t.hd m r house t.pl):=by have eF:(t.rows.filter λr=>bO t.hd m r house t.pl)=sel (λi=>bO t.hd m (t.rows.getD i []) house t.pl) 0 t.rows:=(lQ λi r er=>by rw[bC7,j7,er];rfl).symm;rw[eF];exact (aBa hus 0).imp λ_ _ r=>r.same (s1.trans s7)
  have lF:=hF7.len;have lf:(t.rows.filter λr=>bO t.hd m r house t.pl).length<=t.rows.length:=bDA _ _;refine⟨D7,_,_,knds t.hd,rfl,SqL.of g7,cM hF7,by lia,rR ok.hd.1,λr hr'=>hkd' r (List.mem_filter.mp hr').1,λL8 H8 us8 hL8 s8 g8 h8=>?_⟩;rw[aAz hkd'] at h8;exact q L8 H8 (none_of (s1.trans s7) hL8) (s1.trans (s7.trans s8)) ⟨us8,g8,(nA h8).imp λ_ _ z=>z.same s8⟩
end
end My
namespace PySem.SeqAt
open PySem PySem.Spec
end PySem.SeqAt
namespace L2
open PySem PySem.Spec PyProof.Rows
section
variable {X:Cx}
theorem aMk {K:bET}{H:Hp}:∀{r:List V},(∀x∈r,(∃i,x=.int i)\/∃z,x=.str z)->∀n,Al2 (DEq K H n) r r
 |[],_,_=>.nil
 |x::r,h,n=>.cons (by rcases h x m9 with⟨i,rfl⟩|⟨z,rfl⟩ <;> cases n <;> first|exact⟨rfl,rfl⟩|exact .inl ⟨rfl,rfl⟩) (aMk (λy hy=>h y (j8 _ hy)) n)
theorem aRg {K:bET}{H:Hp}{us ws:List V}{rs:List (List V)}(h1:Al2 (dM K H) us rs)(h2:Al2 (dM K H) ws rs)(hf:∀r∈rs,∀x∈r,(∃i,x=.int i)\/∃z,x=.str z):Al2 (DEq K H 40) us ws:=by refine Al2.of (h1.len.trans h2.len.symm) λi u w e1 e2=>?_;obtain⟨r,er,a,rfl,ha⟩:=h1.at e1;obtain⟨r',er',b,rfl,hb⟩:=h2.at e2;rw[er] at er';cases er';exact .inr ⟨a,b,r,r,rfl,rfl,ha,hb,aMk (hf r (p7 er)) 39⟩
def aVv (K:bET):R2:=λx y H Q=>∃(a b:Addr) (us ws:List V) (rs:List (List V)),x=.ref a/\y=.ref b/\SqL K H a us/\SqL K H b ws/\Al2 (dM K H) us rs/\Al2 (dM K H) ws rs/\(∀r∈rs,∀x∈r,(∃i,x=.int i)\/∃z,x=.str z)/\Q (.bl false) H
theorem rP (hu:X.A.units+64<cLine):OpR X (compareOp .NotEq) (aVv X.K):=by
 intro bEX s σ H x y v u Q I rx ry h;obtain⟨a,b,us,ws,rs,rfl,rfl,ha,hb,h1,h2,hf,q⟩:=h;cases rx;cases ry;obtain⟨its,r1,pl,hz⟩:=I.list ha;obtain⟨jts,r2,pm,hw⟩:=I.list hb;have d:=aRg h1 h2 hf;have l:=d.len;have l1:=r1.length;have l2:=r2.length;refine SeqAt.RcNeAt.lists (e:=λ_=>true) pl.isList pm.isList (by rw[m7,m7];lia) (by lia) (aAv I r1 r2 d λd q1 q2=>aD2 I 40 d q1 q2 (by show X.A.units+1+40<cLine;lia)) _ _ _ _ ?_;first
  |(rw[aBt];exact⟨.bl _,H,I,rfl,q⟩)
  |(simp only[aBt];exact⟨.bl _,H,I,rfl,q⟩)
end
end L2
namespace PySem
section
variable {prog:Program}{w:World}{κ:Type}[DecidableEq κ]{knd:KeyKind prog w κ}{A:Around}{E:bEU}{s:Shared}
open PySem.Spec PySem.Calls PyProof.Rows L2
end
end PySem
namespace L2
open PySem PySem.Spec PyProof.Rows
section
variable {X:Cx}
end
section
variable {P:Program}{w:World}
open AutoSeq1 (wpAny_loadPart')
open MeetsSeq MeetsSeq2 MeetsSeq3
end
section
variable {X:Cx}{bEX:bEV}{σ:L2.St}{H:Hp}{s:Shared}
end
end L2
namespace PySem
namespace LR
end LR
section
variable {prog:Program}{w:World}{A:Around}{E:bEU}{s:Shared}
open PySem.Calls PyProof.Rows
end
end PySem
namespace L2
open PySem PySem.Spec PyProof.Rows
section
variable {X:Cx}
theorem zX:∀{us:List V} {vs:List Value},us.length=vs.length->(∀(i:Nat) (u:V) (v:Value),us[i]?=some u->vs[i]?=some v->RelV u v)->Vals us vs
 |[],[],_,_=>.nil
 |u::us,v::vs,hl,h=>.cons (h 0 u v rfl rfl) (zX (Nat.succ.inj hl) λi u v e1 e2=>h (i+1) u v (by simpa using e1) (by simpa using e2))
def aZi:List V->Hp->VK->Prop:=λxs H Q=>∃(d:Addr) (kvs:List (Key × V)),xs=[.ref d]/\H d=some (.dK kvs)/\kvs.length<=1000/\∀(p:Addr) (H':Hp),H p=none->Same H H'->H' p=some (.lst (kvs.map λkv=>kV kv.1))->Q (.ref p) H'
theorem aJ5 (hc:X.calm=true):cD X (.type "list") aZi:=by
 intro bEX s σ H xs us Q I r h;obtain⟨d,kvs,rfl,hd,hb,q⟩:=h;obtain⟨u,rfl,ru⟩:=vals1 r;cases ru;obtain⟨z,hm,vs,rel,dd⟩:=aA9 I.hok hd;obtain⟨ep,hat⟩:=dd.dictAt;have lk:=KV.length rel;refine PySem.W.kdl_call (PySem.W.kdl_dict (knd:=bB X.prog X.w) (kvs:=vs) (ep:=ep) hm) (I.ok.hd hc) hat (small (by lia)) λh' tk acc c kp g ha'=>?_;have hf:H s.heap.objs.size=none:=I.hok.fresh (j6 _);refine⟨.ref _,_,I.laid (t':=tk) (o:=.lst (kvs.map λkv=>kV kv.1)) kp (j6 _) ?_,rfl,q _ _ hf (aV hf _) aJ⟩;have la:acc.toList.length=vs.length:=Array.length_toList.trans ha'.1;refine⟨small (by rw[j9];lia),acc.toList,c,zX (by rw[j9,la];lia) λi u v e1 e2=>?_,by rw[bEC];exact g⟩;obtain⟨k,x,e3,hi⟩:=ha'.2 i v (by rw[<-bBI];exact e2);rw[v4] at e1;obtain⟨kv,ek,rfl⟩:=Option.map_eq_some_iff.mp e1;have ek':(kvs.map (·.1))[i]?=some kv.1:=by rw[v4,ek];rfl
 rw[KV.keys rel,v4,e3] at ek';cases ek';obtain⟨k0,y0⟩:=kv;cases k0 with
 |inl n=>
  cases v with
  |int m t=>
   have e:m=n:=by simpa [bB,mY,Value.isInt] using hi
   exact⟨t,by rw[e]⟩
  |_=>exact absurd (show false=true from hi) t6
 |inr n=>
  cases v with
  |str m t=>
   have e:m=n:=by simpa [bB,mY,Value.isStrOf] using hi
   exact⟨t,by rw[e]⟩
  |_=>exact absurd (show false=true from hi) t6
def aYu (K:bET):R2:=λx y H Q=>∃(a b:Addr) (us:List V),x=.ref a/\y=.ref b/\SqL K H a us/\SqL K H b []/\Q (.bl (!us.isEmpty)) H
theorem aQf (hu':X.A.units+64<cLine):OpR X (compareOp .NotEq) (aYu X.K):=by
 intro bEX s σ H x y v u Q I rx ry h;have hu:X.A.units<cLine:=by lia
 obtain⟨a,b,us,rfl,rfl,ha,hb,q⟩:=h;cases rx;cases ry;obtain⟨its,r1,pl,hz⟩:=I.list ha;obtain⟨jts,r2,pm,hw⟩:=I.list hb;cases r2;cases r1 with
 |nil=>refine SeqAt.RcNeAt.lists (e:=λ_=>true) pl.isList pm.isList rfl hu (λj h1 h2=>by simp at h1) _ _ _ _ ?_;exact⟨.bl _,H,I,rfl,q⟩
 |cons r t=>exact SeqAt.RcNeAt.lists_lengths pl.isList pm.isList (by simp) hu _ _ _ _ ⟨.bl _,H,I,rfl,q⟩
def bAr:V->List V->Hp->VK->Prop:=λx vs H Q=>∃d kvs k v,x=.ref d/\vs=[kV k]/\H d=some (.dK kvs)/\lV kvs k=some v/\Q v (upd H d (.dK (mF kvs k)))
theorem aVc:MtR X "dict.pop" bAr:=by intro bEX s σ H x vs v us Q I rx rv h;obtain⟨d,kvs,k,y,rfl,rfl,hd,hv,q⟩:=h;cases rx;obtain⟨u,rfl,ru⟩:=vals1 rv;exact bAd I hd ru hv (.inl rfl) λw' s' I' rw'=>⟨y,_,I',rw',q⟩
end
end L2
namespace My
open PySem PySem.Spec PyProof.Rows L2
section
variable {P:Program}{w:World}{K:bET}{mg:bEW}{base:Heap}
theorem aOl (es:List En):((enK es).map λkv=>kV kv.1)=es.map λe=>V.str e.n:=by unfold enK;rw[bB0];rfl
theorem aR2 {H H':Hp}{a:Addr}(h:gQ H a)(k:∀o,H a=some o->H' a=some o):gQ H' a:=by obtain⟨s,e,r⟩:=h;exact⟨s,k _ e,r⟩
structure Mo where
 n:Str
 M:Addr
 vh:V
 vp:V
 R:Addr
 t:Tb
def moK (os:List Mo):List (Key × V):=os.map λo=>(Sum.inr o.n,.ref o.M)
theorem cJ.kp {S:Addr->Prop}{H H':Hp}{C x d dm:Addr}{m:Int}{es:List En}(k:KP K S H H')(sx:S x)(sd:S d)(sm:S dm)(sL:∀e∈es,S e.L)(h:cJ K H C x m d dm es):cJ K H' C x m d dm es:=
 ⟨let ⟨dx,h1⟩:=h.at_;⟨dx,k.st _ _ sx h1⟩,h.ens.kp k sd sL,h.ok,k.st _ _ sm h.mv⟩
theorem nC.kp {S:Addr->Prop}{H H':Hp}{M R:Addr}{vh vp:V}{t:Tb}(k:KP K S H H')(sM:S M)(sR:S R)(h:nC K H M vh vp R t):nC K H' M vh vp R t:=⟨k.st _ _ sM h.1,h.2.1.tk k.tk,h.2.2.1.tk k.tk,h.2.2.2.kp k sR⟩
structure Sy (K:bET)(H:Hp)(C x:Addr)(m:Int)(d dm D:Addr)(es:List En)(os:List Mo):Prop where
 st:cJ K H C x m d dm es
 md:H D=some (.dK (moK os))
 mo:∀o∈os,nC K H o.M o.vh o.vp o.R o.t/\nF m o.t
 al:cH (λ(o:Mo) (e:En)=>e.n=o.n/\e.t={ o.t with rows:=srt o.t.rows }) os es
 rn:(os.map (·.R)).Nodup
 nl:∀o∈os,∀e∈es,e.L≠o.R
 dd:D≠d
theorem Sy.same {H H':Hp}{C x d dm D:Addr}{m:Int}{es:List En}{os:List Mo}(s:Same H H')(h:Sy K H C x m d dm D es os):Sy K H' C x m d dm D es os:=⟨h.st.same s,s _ _ h.md,λo ho=>⟨(h.mo o ho).1.same s,(h.mo o ho).2⟩,h.al,h.rn,h.nl,h.dd⟩
theorem Sy.kp {S:Addr->Prop}{H H':Hp}{C x d dm D:Addr}{m:Int}{es:List En}{os:List Mo}(k:KP K S H H')(sx:S x)(sd:S d)(sm:S dm)(sD:S D)(sL:∀e∈es,S e.L)(sM:∀o∈os,S o.M/\S o.R)(h:Sy K H C x m d dm D es os):Sy K H' C x m d dm D es os:=⟨h.st.kp k sx sd sm sL,k.st _ _ sD h.md,λo ho=>⟨(h.mo o ho).1.kp k (sM o ho).1 (sM o ho).2,(h.mo o ho).2⟩,h.al,h.rn,h.nl,h.dd⟩
theorem aO2 {α β γ:Type}{R:α->β->Prop}{Q:β->γ->Prop}{P:α->γ->Prop}(hh:∀a b c,R a b->Q b c->P a c){as:List α}{bs:List β}(h:cH R as bs):∀{cs:List γ},cH Q bs cs->cH P as cs:=by
 induction h with
 |nil=>intro cs h';cases h';exact .nil
 |cons r _ ih=>intro cs h';cases h' with|cons r' t'=>exact .cons (hh _ _ _ r r') (ih t')
theorem aTu {e:En}{es:List En}(nd:((e::es).map (·.n)).Nodup):mF (enK (e::es)) (Sum.inr e.n)=enK es:=by have h:=(List.nodup_cons.mp nd).1;show mF ((Sum.inr e.n,e.v)::enK es) _=_;rw[aOg rfl];refine aI1 λz=>h ?_;unfold enK at z;rw[bB0] at z;obtain⟨y,hy,ey⟩:=List.mem_map.mp z;exact List.mem_map.mpr ⟨y,hy,Sum.inr.inj ey⟩
def aGx (K:bET)(C Pt:Addr):Sp:=λvs H Q _=>∃(a N:Addr) (ns:List Str),vs=[.ref N,.ref a,.int 4]/\gQ H a/\H N=some (.lst (ns.map V.str))/\N≠a/\sU ns/\H Pt=some (.tab qC) /\
 ∀(t x d dm D:Addr) (m:Int) (es:List En) (os:List Mo) H',Fx a H H'->SqT K H' t [.ref x,.ref D,.int m]->Sy K H' C x m d dm D es os->1<=m->m<=6->2<=os.length->os.length<=3->(∀o∈os,o.t.rows.length<=4)->Q (.ref t) H'
theorem aCv (T:Txt w K mg){C Pt:Addr}(aHb:Ok P w K mg base 5 "_law_town" ["_law_state","_law_names_here","_law_most"] (aHu K))(GC_Store:OkC P w K mg base C 11 "Store" ["self","houses","tables"] (aJg K C Pt)):Ok P w K mg base 13 "_law_begun" ["_law_names_here","_law_state","_law_most"] (aGx K C Pt):=by
 refine Ok.ofV T.aFi dH (λvs H Q E h=>?_) (λf cdv A outer s H vs Q E hr h=>?_)
 ·obtain⟨a,N,ns,rfl,_⟩:=h;rfl
 obtain⟨a,N,ns,rfl,hs,hN,nN,hn,hPt,q⟩:=h;have hu:=wD hr;have nPa:Pt≠a:=λz=>by obtain⟨_,e,_⟩:=hs;rw[z,e] at hPt;cases hPt
 refine⟨_,(aD (zV (aQ (aHb.mono (by decide)) hr (by rfl) (aC (vv 1) (aC (vv 0) (aC (vv 2) aB)))) (wK rfl (bL (aU (i:=3) dH.nd rfl (by trivial)) (bL (aU (i:=4) dH.nd rfl (by trivial)) fY)))) (aD (aX (i:=5) dH.nd rfl (by trivial) aBv) (aD (aM0 (eN PassesOwn.never rfl (aXm (vv 4)) (aU (i:=6) dH.nd rfl (by trivial)) (aG (zH hu (vv 5) (vv 6) (dJ (aC (aW bK (jZ hu (vv 4) (vv 6) (λ_ _=>rfl)) aH (λ_ _=>rfl)) (aC (aW bK (jZ hu (vv 4) (vv 6) (λ_ _=>rfl)) aH (λ_ _=>rfl)) (aC (cV tW (by rfl) T.uG oY (aC (aW bK (jZ hu (vv 4) (vv 6) (λ_ _=>rfl)) aH (λ_ _=>rfl)) aB)) (aC pA aB))))))))) (aD (aX (i:=7) dH.nd rfl (by trivial) (aMi (GC_Store.mono (by decide)) hr (by rfl) (aC (vv 3) (aC (vv 4) aB)))) (aD (eN PassesOwn.never rfl (iG (cV (aJ5 rfl) (by rfl) T.uG oY (aC (vv 4) aB))) (aU (i:=6) dH.nd rfl (by trivial)) (aD (fW (nP PySem.F.plainAttrs_list PySem.F.slot_list_append PySem.F.type_list_append jD (aW bK (jZ hu (vv 4) (vv 6) (λ_ _=>rfl)) aH (λ_ _=>rfl)) (aC pA aB))) (aG (fW (nP PySem.F.plainAttrs_dict PySem.F.slot_dict_pop PySem.F.type_dict_pop aVc (vv 4) (aC (vv 6) aB)))))) (aG (aN (dW (aC (vv 7) (aC (vv 5) (aC (vv 3) aB))))))))))),?_⟩;refine⟨_,rfl,_,rfl,_,rfl,a,N,ns,rfl,hs,hN,nN,hn,λt d m es0 H1 f1 ht hd0 m1 m6 hE hes l2 l3=>?_⟩;refine⟨t,_,rfl,ht,rfl,_,_,rfl,_,_,rfl,rfl,?_⟩;refine λD H2 hD0 s2 gD=>?_;have hE2:=hE.same s2;have nda:d≠a:=hs.ne hd0;have nD:∀{b o},H1 b=some o->b≠D:=λh=>aL h hD0;have hD00:H D=none:=f1.free hD0;have nDa:D≠a:=hs.ne hD00;have ndD:d≠D:=nD hE.at_;have lst1:∀e∈es0,∃us,H1 e.L=some (.lst us)/\us.length=e.t.rows.length:=λe he=>by obtain⟨_,_,_,_,_,⟨us,h3,h4⟩⟩:=hE.tb e he;exact⟨us,h3,h4.len⟩
 have nLD:∀e∈es0,e.L≠D:=λe he=>nD (lst1 e he).choose_spec.1;have nLd:∀e∈es0,e.L≠d:=λe he z=>by obtain⟨us,h,_⟩:=lst1 e he;rw[z,hE.at_] at h;cases h
 refine⟨d,enK es0,hE2.at_,λnf=>⟨_,rfl,d,_,rfl,hE2.at_,aEz,nf,λo=>?_⟩⟩;have b0:But d H2 (L2.upd H2 d (.frz o (.dK (enK es0)))):=But.upd;have g0:L2.upd H2 d (.frz o (.dK (enK es0))) d=some (.frz o (.dK (enK es0))):=aJ;have fB:Fx a H (L2.upd H2 d (.frz o (.dK (enK es0)))):=(f1.sm s2).upd hd0 nda;generalize L2.upd H2 d (.frz o (.dK (enK es0)))=B at b0 g0 fB ⊢;have nz:=cY.dK hE2.at_;have tbB:∀e∈es0,mX K B e.v e.vh e.vp e.L e.t:=λe he=>b0.tb nz (hE2.tb e he);have gDB:B D=some (.dK []):=b0 _ _ ndD.symm gD;refine aUf (λi σ H'=>KP K (λb=>b≠D) B H'/\∃os:List Mo,H' D=some (.dK (moK os))/\(∀o∈os,nC K H' o.M o.vh o.vp o.R o.t/\B o.M=none/\B o.R=none)/\cH (λ(o:Mo) (e:En)=>o.n=e.n/\o.t=e.t) os (es0.take i)/\(os.map (·.R)).Nodup/\∃l6,σ=[some (.ref N),some (.ref a),some (.int 4),some (.int m),some (.ref d),some (.ref D),l6,none]) ⟨.same (Same.refl _),[],gDB,λo h=>(by cases h),.nil,bEN,none,rfl⟩ (λi σ H' _ p=>p.1.st _ _ ndD g0) (λi kv σ H' ek p=>?_) fun σ H' p=>?_
 ·obtain⟨kp,os,gD',hos,al,rn,l6,rfl⟩:=p;obtain⟨e0,he0,rfl⟩:=aJz ek;have hm0:=p7 he0;have gd:=kp.st _ _ ndD g0;have lt:=(List.getElem?_eq_some_iff.mp he0).1;obtain⟨a',ev,ha',h1,h2,⟨us,h3,h4⟩⟩:=(tbB e0 hm0).kp kp (nLD e0 hm0);refine⟨_,rfl,_,rfl,d,e0.v,rfl,.inl ⟨_,Sum.inr e0.n,.inr ⟨o,gd⟩,rfl,(vL hE.nd hm0).symm⟩,a',_,0,_,ev,rfl,ha',at0 _ _,?_⟩;refine⟨_,rfl,_,rfl,d,e0.v,rfl,.inl ⟨_,Sum.inr e0.n,.inr ⟨o,gd⟩,rfl,(vL hE.nd hm0).symm⟩,a',_,1,_,ev,rfl,ha',at1 _ _ _,?_⟩;refine⟨_,rfl,_,rfl,d,e0.v,rfl,.inl ⟨_,Sum.inr e0.n,.inr ⟨o,gd⟩,rfl,(vL hE.nd hm0).symm⟩,a',_,2,_,ev,rfl,ha',at2 _ _ _ _,e0.L,us,rfl,.inl (SqL.of h3),λR H3 hR s3 gR=>?_⟩;refine⟨by show 4<=sizeLine;decide,λM H4 hM s4 gM=>?_⟩;have s34:=s3.trans s4;have la:=al.len;rw[bAL] at la;refine⟨_,rfl,_,rfl,D,_,rfl,aG2.k (k:=Sum.inr e0.n) (s34 _ _ gD') (by unfold moK;rw[j9];exact pC (by lia)),?_⟩;have tk1:es0.take (i+1)=es0.take i++[e0]:=by rw[bBD,he0];rfl
  have nin:∀o∈os,o.n≠e0.n:=λy hy z=>by obtain⟨j,hj⟩:=List.mem_iff_getElem?.mp hy;obtain⟨e,he,en,_⟩:=cB al hj;have hm:e∈es0.take i:=p7 he;have nd1:=hE.nd.sublist ((bDX (i+1) es0).map (·.n));rw[tk1,bAO] at nd1;exact (List.nodup_append.mp nd1).2.2 _ (bBJ hm) _ m9 (by rw[<-en];exact z)
  obtain⟨o1,eo⟩:∃o1:Mo,(⟨e0.n,M,e0.vh,e0.vp,R,e0.t⟩:Mo)=o1:=⟨_,rfl⟩;have ek2:putK (moK os) (Sum.inr e0.n) (.ref M)=moK (os++[o1]):=by
   rw[wB λkv hkv=>by unfold moK at hkv;obtain⟨y,hy,rfl⟩:=List.mem_map.mp hkv;exact λz=>nin y hy (Sum.inr.inj z)]
   unfold moK;rw[bAO,<-eo];rfl
  rw[ek2];have gD4:=s34 _ _ gD';have kz:KP K (λb=>b≠D) H4 (L2.upd H4 D (.dK (moK (os++[o1])))):=.aTr (cY.dK gD4) λz=>z rfl;have gZ:L2.upd H4 D (.dK (moK (os++[o1]))) D=some (.dK (moK (os++[o1]))):=aJ;generalize L2.upd H4 D (.dK (moK (os++[o1])))=H5 at kz gZ ⊢;have k5:KP K (λb=>b≠D) H' H5:=(KP.same s34).trans kz;have nMD:M≠D:=(aL (s3 _ _ gD') hM).symm;have nRD:R≠D:=(aL gD' hR).symm;have fr:∀{b},b≠D->H' b=none->B b=none:=λ{b} hb h=>by
   cases e3:B b with
   |none=>rfl
   |some o=>rw[kp.st _ _ hb e3] at h;cases h
  have md1:nC K H5 M e0.vh e0.vp R e0.t:=nC.kp kz nMD nRD ⟨gM,h1.same s34,h2.same s34,us,s4 _ _ gR,h4.imp λ_ _ z=>z.same s34⟩;refine⟨kp.trans k5,os++[o1],gZ,λy hy=>?_,?_,?_,_,rfl⟩
  ·rcases List.mem_append.mp hy with hy|hy
   ·obtain⟨c1,c2,c3⟩:=hos y hy;exact⟨c1.kp k5 (aL gDB c2).symm (aL gDB c3).symm,c2,c3⟩
   ·rw[List.mem_singleton.mp hy,<-eo];exact⟨md1,fr nMD (none_of s3 hM),fr nRD hR⟩
  ·rw[tk1];exact al.app (.cons (by rw[<-eo];exact⟨rfl,rfl⟩) .nil)
  ·rw[bAO];refine List.nodup_append.mpr ⟨rn,List.nodup_cons.mpr ⟨(λh=>by cases h),bEN⟩,λr hr r' hr' z=>?_⟩;obtain⟨y,hy,rfl⟩:=List.mem_map.mp hr;rw[<-eo] at hr';have e1:r'=R:=List.mem_singleton.mp hr';obtain⟨us',g',_⟩:=(hos y hy).1.2.2.2;exact aL g' hR (z.trans e1)
 ·obtain⟨kp,os,gD',hos,al,rn,l6,rfl⟩:=p;rw[mJ,bCG] at al;have gd:=kp.st _ _ ndD g0;refine⟨⟨o,gd⟩,?_⟩;have bG:But d H' (L2.upd H' d (.dK (enK es0))):=But.upd;have gG:L2.upd H' d (.dK (enK es0)) d=some (.dK (enK es0)):=aJ;have nzf:cY H' d:=cY.fz gd;have fH':Fx a H H':=⟨λb u hb h=>kp.st _ _ (aL h hD00) (fB.same b u hb h),aR2 fB.st λo h=>kp.st _ _ nDa.symm h⟩;have fG:Fx a H (L2.upd H' d (.dK (enK es0))):=fH'.upd hd0 nda;have kG:KP K (λb=>b≠d) H' (L2.upd H' d (.dK (enK es0))):=.aTr nzf λz=>z rfl;generalize L2.upd H' d (.dK (enK es0))=G at bG gG fG kG ⊢;have hEG:fJ K G d es0:=⟨gG,hE.nd,hE.few,hE.nm,λe he=>bG.tb nzf ((tbB e he).kp kp (nLD e he))⟩;have hPG:G Pt=some (.tab qC):=fG.same _ _ nPa hPt;have gDG:=bG _ _ ndD.symm gD';have nBd:∀{b},B b=none->b≠d:=λh=>(aL g0 h).symm;have hosG:∀o∈os,nC K G o.M o.vh o.vp o.R o.t/\nF m o.t:=λy hy=>by obtain⟨c1,c2,c3⟩:=hos y hy;obtain⟨j,hj⟩:=List.mem_iff_getElem?.mp hy;obtain⟨e,he,_,et⟩:=cB al hj;exact⟨c1.kp kG (nBd c2) (nBd c3),by rw[et];exact (hes e (p7 he)).1⟩
  have lstG:∀e∈es0,∃us,G e.L=some (.lst us)/\us.length<=60:=λe he=>by obtain⟨_,_,_,_,_,⟨us,h3,h4⟩⟩:=hEG.tb e he;exact⟨us,h3,by have:=h4.len;have:=(hes e he).1.few;lia⟩
  refine⟨_,rfl,_,rfl,λx dx hx0 hdx0 hne=>?_⟩;refine⟨G,x,dx,d,m,es0,rfl,aJ,hx0,iQ hx0 (aV hdx0 _),m1,m6,hEG,λe he=>(hes e he).1,hPG,λdA dmA H6 esA hdA hdmA s6 hSA aA=>⟨rfl,?_⟩⟩;have hE6:=hEG.same s6;refine⟨_,rfl,d,enK es0,rfl,hE6.at_,by rw[mJ];lia,λN2 H7 hN2 s7 gN2=>?_⟩;rw[aOl] at gN2;have sG7:=s6.trans s7;have frS:∀{b},G b=none->b≠d/\∀e∈es0,b≠e.L:=λh=>⟨(aL gG h).symm,λe he=>(aL (lstG e he).choose_spec.1 h).symm⟩;have hLA:∀e∈esA,G e.L=none:=λe he=>by obtain⟨_,_,v,L,rfl,h⟩:=xG aA he;exact h
  have hMS:∀o∈os,(o.M≠d/\∀e∈es0,o.M≠e.L)/\(o.R≠d/\∀e∈es0,o.R≠e.L):=λy hy=>by
   obtain⟨_,c2,c3⟩:=hos y hy;have hB:∀e∈es0,∃us,B e.L=some (.lst us):=λe he=>by obtain⟨_,_,_,_,_,⟨us,h3,_⟩⟩:=tbB e he;exact⟨us,h3⟩
   exact⟨⟨nBd c2,λe he=>(aL (hB e he).choose_spec c2).symm⟩,nBd c3,λe he=>(aL (hB e he).choose_spec c3).symm⟩
  have sy7:Sy K H7 C x m dA dmA D esA os:=⟨hSA.same s7,sG7 _ _ gDG,λy hy=>⟨(hosG y hy).1.same sG7,(hosG y hy).2⟩,aO2 (λo e e' h1 h2=>by
    obtain⟨v,L,rfl,_⟩:=h2;exact⟨h1.1.symm,by rw[h1.2];rfl⟩) al aA,rn,λy hy e he=>by
    obtain⟨us,g',_⟩:=(hosG y hy).1.2.2.2;exact (aL g' (hLA e he)).symm,aL gDG hdA⟩
  have nN2:=frS (none_of s6 hN2);refine⟨N2,rfl,⟨_,SqL.of gN2⟩,vV (xs:=es0.map λe=>V.str e.n) (λi σ H'=>KP K (λb=>b≠d/\∀e∈es0,b≠e.L) H7 H'/\H' d=some (.dK (enK (es0.drop i)))/\(∀e∈es0,∃us,H' e.L=some (.lst us)/\us.length<=60+i)/\∃l6,σ=[some (.ref N),some (.ref a),some (.int 4),some (.int m),some (.ref d),some (.ref D),l6,some (.ref x)]) ⟨.same (Same.refl _),s7 _ _ hE6.at_,λe he=>let ⟨us,h1,h2⟩:=lstG e he;⟨us,sG7 _ _ h1,h2⟩,_,rfl⟩ (λi σ H' _ p=>SqL.of (p.1.st _ _ nN2 gN2)) (λi z σ H' ez p=>?_) fun σ H' p=>?_⟩
  ·obtain⟨kq,gd,hLs,l6,rfl⟩:=p;rw[v4] at ez;obtain⟨e,he,rfl⟩:=Option.map_eq_some_iff.mp ez;have hm:=p7 he;have hlt:=(List.getElem?_eq_some_iff.mp he).1;have ed:es0.drop i=e::es0.drop (i+1):=by rw[List.drop_eq_getElem_cons hlt,(List.getElem?_eq_some_iff.mp he).2]
   rw[ed] at gd;have vv':lV (enK (e::es0.drop (i+1))) (Sum.inr e.n)=some e.v:=mZ rfl;obtain⟨a',ev,ha',_,_,_⟩:=hEG.tb e hm;obtain⟨us,gL,lL⟩:=hLs e hm;refine⟨_,rfl,_,rfl,d,e.v,rfl,.inl ⟨_,Sum.inr e.n,.inl gd,rfl,vv'.symm⟩,a',_,2,_,ev,rfl,kq.tk _ _ (sG7.aY ha'),at2 _ _ _ _,.inl ⟨rfl,_,SqL.of gL⟩,e.L,_,_,rfl,rfl,gL,jH (by lia),?_⟩;have kA:KP K (λb=>b≠d/\∀e∈es0,b≠e.L) H' (L2.upd H' e.L (.lst (us++[.non]))):=.nM gL λz=>z.2 e hm rfl;have gdA:L2.upd H' e.L (.lst (us++[.non])) d=some (.dK (enK (e::es0.drop (i+1)))):=by rw[aK (nLd e hm).symm];exact gd
   have hLA':∀y∈es0,∃us',L2.upd H' e.L (.lst (us++[.non])) y.L=some (.lst us')/\us'.length<=60+(i+1):=λy hy=>by
    by_cases z:y.L=e.L
    ·rw[z];exact⟨_,aJ,by rw[bAC];show _+1<=_;lia⟩
    ·obtain⟨us',h1,h2⟩:=hLs y hy;exact⟨us',by rw[aK z];exact h1,by lia⟩
   generalize L2.upd H' e.L (.lst (us++[.non]))=HA at kA gdA hLA' ⊢;refine⟨_,rfl,.inr (.inr (.inl ⟨rfl,.inl ⟨_,gdA⟩⟩)),_,rfl,d,_,Sum.inr e.n,e.v,rfl,rfl,gdA,vv',?_⟩;have nd1:((e::es0.drop (i+1)).map (·.n)).Nodup:=by rw[<-ed];exact hE.nd.sublist ((List.drop_sublist i es0).map (·.n))
   rw[aTu nd1];refine⟨kq.trans (kA.trans (.aTr (cY.dK gdA) λz=>z.1 rfl)),aJ,λy hy=>?_,_,rfl⟩;rw[aK (nLd y hy)];exact hLA' y hy
  ·obtain⟨kq,gd,hLs,l6,rfl⟩:=p;refine⟨_,rfl,_,rfl,_,rfl,by show 3<=sizeLine;decide,λt9 H9 _ s9 g9=>?_⟩;have SH:∀b u,H b=some u->b≠d/\∀e∈es0,b≠e.L:=λb u h=>⟨aL h hd0,λe he=>aL h (hes e he).2.2⟩;have f7:=fG.sm sG7;have fE:Fx a H H':=⟨λb u hb h=>kq.st _ _ (SH b u h) (f7.same b u hb h),aR2 f7.st λo h=>kq.st _ _ (by obtain⟨_,e,_⟩:=hs;exact SH _ _ e) h⟩;have sD:D≠d/\∀e∈es0,D≠e.L:=⟨ndD.symm,λe he=>(nLD e he).symm⟩;have syE:=sy7.kp kq (frS hx0) (frS hdA) (frS hdmA) sD (λe he=>frS (hLA e he)) hMS;have lo:=al.len;refine q t9 x dA dmA D m esA os H9 (fE.sm s9) (SqT.of g9) (syE.same s9) m1 m6 (by lia) (by lia) λy hy=>?_;obtain⟨j,hj⟩:=List.mem_iff_getElem?.mp hy;obtain⟨e,he,_,et⟩:=cB al hj;rw[et];exact (hes e (p7 he)).2.1
theorem aS7 {H:Hp}{e T C dx:Addr}(n:H e=none)(nT:H T=none):Same H (up2 H e T C dx):=λb o h=>by unfold up2;rw[aK (aL h n),aK (aL h nT)];exact h
theorem aUm {S R:TS}{D:Ends}{σ:L2.St}{H:Hp}(J:L2.St->Hp->Prop)(h1:∀N:L2.St->Hp->Prop,(∀σ' H',J σ' H'->N σ' H')->S { D with nx:=N } σ H)(h2:∀σ' H',J σ' H'->R D σ' H'):aBx S R D σ H:=h1 _ h2
def aNi (K:bET)(C:Addr):Sp:=λvs H Q _=>∃(x d dm:Addr) (m:Int) (l1 l2:List En) (e:En) (vr:V) (r:List V),vs=[.ref x,.str e.n,vr]/\cJ K H C x m d dm (l1++e::l2)/\dM K H vr r/\qY e.t.hd r/\r∉e.t.rows/\∀H',Same H H'->Q (.bl true) H'
theorem vC (T:Txt w K mg){C CN S:Addr}(hx_NoRow:ExT K mg mV "NoRow" "ShardError.__init__" CN S)(f2:PySem.W.mroIn K CN (.ref CN)=some true)(GMX_Store_drop:yV P w K mg base C 5 "drop" ["self","name","row"] (zE K C CN)):Ok P w K mg base 6 "_law_not_there" ["_law_store","_law_name","_law_row_here"] (aNi K C):=by
 refine Ok.ofV T.xR iC (λvs H Q E h=>?_) (λf cdv A outer s H vs Q E hr h=>?_)
 ·obtain⟨x,d,dm,m,l1,l2,e,vr,r,rfl,_⟩:=h;rfl
 obtain⟨x,d,dm,m,l1,l2,e,vr,r,rfl,hS,hr',okr,hm,q⟩:=h;obtain⟨⟨fI,fd,xc,F,B⟩,m_NoRow,kp,h_NoRow,over⟩:=hx_NoRow;refine⟨_,(aD (aX (i:=3) iC.nd rfl (by trivial) bC) (aD (aVm rfl rfl (by rfl) m_NoRow h_NoRow (λbEX σ₀ E ok=>(aG (fW (aOu ok (GMX_Store_drop.mono (by decide)) hr (vv 0) (aC (vv 1) (aC (vv 2) aB)))))) (λe=>(aG (aX (i:=3) iC.nd rfl (by trivial) bC)))) (aG (aN (dC eU (vv 3) bC (bF _)))))),?_⟩;obtain⟨dx,hx⟩:=hS.at_;refine⟨rfl,_,rfl,x,dx,_,rfl,hx,rfl,_,rfl,_,rfl,x,d,dm,m,l1,l2,e,vr,r,rfl,hS,hr',okr,(λz=>absurd z hm),λ_ a H1 s1=>?_⟩;refine⟨CN,a,fI,rfl,rfl,xc,f2,λTb dx' n1 nT hTe hd=>?_⟩;exact⟨_,rfl,rfl,q _ (s1.trans (aS7 n1 nT))⟩
theorem aN9 {ks:List Bool}{rs:List (List V)}(h:∀r∈rs,KdR ks r):srt (srt rs)=srt rs:=(aA6 h (kZ h).1.symm).symm
theorem aMx:∀{os:List Mo} {o:Mo},(os.map (·.n)).Nodup->o∈os->lV (moK os) (Sum.inr o.n)=some (.ref o.M)
 |[],_,_,h=>by cases h
 |y::os,o,nd,h=>by
  have n1:=List.nodup_cons.mp nd;show lV ((Sum.inr y.n,.ref y.M)::moK os) (Sum.inr o.n)=_;rcases List.mem_cons.mp h with rfl|h
  ·exact mZ rfl
  ·rw[qM λz=>n1.1 (by show y.n∈_;rw[show y.n=o.n from Sum.inr.inj z];exact bBJ h)];exact aMx n1.2 h
theorem aTc {os:List Mo}{es:List En}(h:cH (λ(o:Mo) (e:En)=>e.n=o.n/\e.t={ o.t with rows:=srt o.t.rows }) os es):os.map (·.n)=es.map (·.n):=by
 induction h with
 |nil=>rfl
 |cons r _ ih=>rw[bAM,bAM,ih,r.1]
section
variable {H:Hp}{C x d dm D:Addr}{m:Int}{es:List En}{os:List Mo}
theorem Sy.nd (h:Sy K H C x m d dm D es os):(os.map (·.n)).Nodup:=by rw[aTc h.al];exact h.st.ens.nd
theorem Sy.get (h:Sy K H C x m d dm D es os){o:Mo}(ho:o∈os):lV (moK os) (Sum.inr o.n)=some (.ref o.M):=aMx h.nd ho
theorem Sy.en (h:Sy K H C x m d dm D es os){o:Mo}(ho:o∈os):∃(j:Nat) (e:En),os[j]?=some o/\es[j]?=some e/\e.n=o.n/\e.t={ o.t with rows:=srt o.t.rows }:=by obtain⟨j,hj⟩:=List.mem_iff_getElem?.mp ho;obtain⟨e,he,h1,h2⟩:=cB h.al hj;exact⟨j,e,hj,he,h1,h2⟩
end
def aHe (K:bET)(C Pt:Addr):Sp:=λvs H Q _=>∃(x d dm D Ns:Addr) (m:Int) (es:List En) (os:List Mo) (ns:List Str),vs=[.ref x,.ref D,.ref Ns,.int m]/\Sy K H C x m d dm D es os/\1<=m/\m<=6/\H Pt=some (.tab qC)/\H Ns=some (.lst (ns.map V.str))/\(∀n∈ns,∃o∈os,o.n=n)/\∀H',Same H H'->Q (.bl true) H'
theorem aB9 (T:Txt w K mg){C Ct Pt:Addr}(aF6:Ok P w K mg base 2 "_law_stood" ["_law_table","_law_houses","_law_house"] (aC9 K))(GM_Store_town:OkM P w K mg base C 13 "town" ["self"] (aMw K C Ct Pt))(GM_Store_stands:OkM P w K mg base C 5 "stands" ["self","name","house"] (aA0 K C))(GM_Town_whole:OkM P w K mg base Ct 4 "whole" ["self","name"] (vI K Ct))(GM_Town_part:OkM P w K mg base Ct 5 "part" ["self","name","house"] (aM3 K Ct)):Ok P w K mg base 14 "_law_right" ["_law_store","_law_model","_law_names_here","_law_houses"] (aHe K C Pt):=by
 refine Ok.ofV T.aFo eE (λvs H Q E h=>?_) (λf cdv A outer s H vs Q E hr h=>?_)
 ·obtain⟨x,d,dm,D,Ns,m,es,os,ns,rfl,_⟩:=h;rfl
 obtain⟨x,d,dm,D,Ns,m,es,os,ns,rfl,hY,m1,m6,hP,gN,hns,q⟩:=h;have hU:=hr.units;have hu:=wD hr;refine⟨_,(aD (aX (i:=4) eE.nd rfl (by trivial) (aTb (GM_Store_town.mono (by decide)) hr (vv 0))) (aD (eN PassesOwn.never rfl (iG (vv 2)) (aU (i:=5) eE.nd rfl (by trivial)) (aD (bZ (bH (rP hU) (oM (GM_Town_whole.mono (by decide)) hr (vv 4) (aC (vv 5) aB)) (aO gF (by rfl) T.eX dN (aC (aW fH (jZ hu (vv 1) (vv 5) (λ_ _=>rfl)) aH (λ_ _=>rfl)) aB)) (bF _)) (aG (aN gK)) aZ) (aG (eN PassesOwn.never rfl (fC (by rfl) T.jN (aC (vv 3) aB)) (aU (i:=6) eE.nd rfl (by trivial)) (aD (aX (i:=7) eE.nd rfl (by trivial) (aQ (aF6.mono (by decide)) hr (by rfl) (aC (jZ hu (vv 1) (vv 5) (λ_ _=>rfl)) (aC (vv 3) (aC (vv 6) aB))))) (aD (aX (i:=8) eE.nd rfl (by trivial) (oM (GM_Store_stands.mono (by decide)) hr (vv 0) (aC (vv 5) (aC (vv 6) aB)))) (aD (bZ (VW.pt (iM (bH (rP hU) (oM (GM_Town_part.mono (by decide)) hr (vv 4) (aC (vv 5) (aC (vv 6) aB))) (vv 7) (bF _)) (iM (cI (cA (aO aDt (by rfl) T.bN bJ (aC (vv 8) (aC (dY (v:=.ty "list") (by rfl) T.uG oY rfl) aB))))) (gC (bH (rP hU) (vv 8) (vv 7) (bF _)))))) (aG (aN gK)) aZ) (aD (fW (nP PySem.F.plainAttrs_list PySem.F.slot_list_append PySem.F.type_list_append jD (vv 8) (aC pA aB))) (aG (bZ (bH (rP hU) (oM (GM_Store_stands.mono (by decide)) hr (vv 0) (aC (vv 5) (aC (vv 6) aB))) (vv 7) (bF _)) (aG (aN gK)) aZ)))))))))) (aG (aN gK)))),?_⟩;obtain⟨dx,hx⟩:=hY.st.at_;refine⟨_,rfl,x,dx,_,rfl,hx,rfl,x,d,dm,m,es,rfl,hY.st,m1,m6,hP,λy d' H1 es' hy hd' s1 hT a1=>?_⟩;have hY1:=hY.same s1;have gN1:=s1 _ _ gN;refine⟨_,rfl,Ns,rfl,⟨_,SqL.of gN1⟩,vV (xs:=ns.map V.str) (λi σ H'=>Same H1 H'/\∃l5 l6 l7 l8,σ=[some (.ref x),some (.ref D),some (.ref Ns),some (.int m),some (.ref y),l5,l6,l7,l8]) ⟨Same.refl _,none,none,none,none,rfl⟩ (λi σ H' _ p=>SqL.of (p.1 _ _ gN1)) (λi z σ H2 ez p=>?_) fun σ H2 p=>?_⟩
 ·obtain⟨s2,l5,l6,l7,l8,rfl⟩:=p;rw[v4] at ez;obtain⟨nm,hnm,rfl⟩:=Option.map_eq_some_iff.mp ez;obtain⟨o,ho,rfl⟩:=hns nm (p7 hnm);obtain⟨j,e,hoj,hej,en,et⟩:=hY.en ho;have he:=p7 hej;have ok:=(hY.mo o ho).2;have hkd':∀r∈o.t.rows,KdR (knds o.t.hd) r:=λr hr'=>yH (ok.rows r hr');have flt:∀r∈srt o.t.rows,∀x∈r,(∃i,x=.int i)\/∃z,x=.str z:=λr hr' x hx=>aWi (hkd' r (rM hr')) x hx;have few:=ok.few;obtain⟨e',hm',en',et'⟩:∃e',e'∈es'/\e'.n=o.n/\e'.t={ o.t with rows:=srt o.t.rows }:=by obtain⟨e',he',v,L,rfl,_⟩:=cB a1 hej;refine⟨_,p7 he',en,?_⟩;show ({ e.t with rows:=srt e.t.rows }:Tb)=_;rw[et];show ({ o.t with rows:=srt (srt o.t.rows) }:Tb)=_;rw[aN9 hkd']
  have hT2:=hT.same s2;have hY2:=hY1.same s2;obtain⟨⟨dy,hy2⟩,_,_⟩:=id hT2;refine⟨_,rfl,y,dy,_,rfl,hy2,rfl,_,rfl,y,d',m,es',e',by rw[en'];rfl,hT2,hm',λLw H3 hLw s3 hRw=>?_⟩;rw[et'] at hRw;have hRw:bY K H3 Lw (srt o.t.rows):=hRw;have hY3:=hY2.same s3;obtain⟨gM,hI,hpl,⟨us,gR,hus⟩⟩:=id (hY3.mo o ho).1;have lus:=hus.len;refine⟨_,rfl,_,rfl,D,.ref o.M,rfl,.inl ⟨_,Sum.inr o.n,.inl hY3.md,rfl,(hY3.get ho).symm⟩,o.M,_,2,_,rfl,rfl,SqL.of gM,at2 _ _ _ _,o.R,us,o.t.rows,knds o.t.hd,rfl,SqL.of gR,cM hus,by lia,rR ok.hd.1,hkd',λLb H4 us4 hLb s4 g4 h4=>?_⟩;obtain⟨uw,gw,hw⟩:=hRw.same s4;refine⟨Lw,Lb,uw,us4,srt o.t.rows,rfl,rfl,SqL.of gw,SqL.of g4,cM hw,cM ((nA h4).imp λ_ _ z=>z.same s4),flt,_,rfl,bV ?_⟩;have s14:=s2.trans (s3.trans s4);refine⟨_,rfl,m,rfl,by lia,by lia,gO (n:=m.toNat) (λj σ H'=>Same H1 H'/\∃l6 l7 l8,σ=[some (.ref x),some (.ref D),some (.ref Ns),some (.int m),some (.ref y),some (.str o.n),l6,l7,l8]) ⟨s14,_,_,_,rfl⟩ (λj σ H5 hj p=>?_) fun σ H5 p=>?_⟩
  ·obtain⟨s5,l6,l7,l8,rfl⟩:=p;have hY5:=hY1.same s5;have hh0:0<=(0:Int)+(j:Int):=by lia
   have hhm:(0:Int)+(j:Int)<m:=by lia
   generalize (0:Int)+(j:Int)=house at hh0 hhm;have flF:∀r∈((srt o.t.rows).filter λr=>bO o.t.hd m r house o.t.pl),∀x∈r,(∃i,x=.int i)\/∃z,x=.str z:=λr hr'=>flt r (List.mem_filter.mp hr').1;refine⟨_,rfl,_,rfl,D,.ref o.M,rfl,.inl ⟨_,Sum.inr o.n,.inl hY5.md,rfl,(hY5.get ho).symm⟩,_,rfl,_,rfl,o.M,o.R,o.vh,o.vp,o.t,m,house,rfl,(hY5.mo o ho).1,ok,by lia,m6,λL6 H6 hL6 s6 hR6=>?_⟩;have hY6:=hY5.same s6;obtain⟨dx6,hx6⟩:=hY6.st.at_;refine⟨_,rfl,x,dx6,_,rfl,hx6,rfl,_,rfl,_,rfl,x,d,dm,m,house,es,e,by rw[en];rfl,hY6.st,he,hh0,hhm,λL7 H7 hL7 s7 hR7=>?_⟩;rw[et] at hR7;have hR7:bY K H7 L7 ((srt o.t.rows).filter λr=>bO o.t.hd m r house o.t.pl):=hR7;have s17:=s5.trans (s6.trans s7);have hT7:=hT.same s17;obtain⟨⟨dy7,hy7⟩,_,_⟩:=id hT7;refine⟨_,rfl,y,dy7,_,rfl,hy7,rfl,_,rfl,_,rfl,y,d',m,house,es',e',by rw[en'];rfl,hT7,hm',hh0,hhm,λL8 H8 hL8 s8 hR8=>?_⟩;rw[et'] at hR8;have hR8:bY K H8 L8 ((srt o.t.rows).filter λr=>bO o.t.hd m r house o.t.pl):=hR8;obtain⟨u6,g6,h6⟩:=hR6.same (s7.trans s8);obtain⟨u7,g7,h7⟩:=hR7.same s8;obtain⟨u8,g8,h8⟩:=hR8;have l7':=h7.len;have lf:((srt o.t.rows).filter λr=>bO o.t.hd m r house o.t.pl).length<=60:=by have:=bDA (λr=>bO o.t.hd m r house o.t.pl) (srt o.t.rows);rw[vQ] at this;lia
   refine⟨_,rfl,L8,L6,u8,u6,_,rfl,rfl,SqL.of g8,SqL.of g6,cM h8,cM h6,flF,_,rfl,bV ?_⟩;refine⟨_,rfl,L7,u7,rfl,SqL.of g7,_,rfl,bV ?_⟩;refine⟨_,rfl,_,rfl,L7,L6,u7,u6,_,rfl,rfl,SqL.of g7,SqL.of g6,cM h7,cM h6,flF,_,rfl,bV ?_⟩;refine⟨_,rfl,.inl ⟨rfl,_,SqL.of g7⟩,L7,_,_,rfl,rfl,g7,jH (by lia),?_⟩;have s19:Same H1 (L2.upd H8 L7 (.lst (u7++[.non]))):=iQ (none_of (s5.trans s6) hL7) (s17.trans s8);have s69:Same H6 (L2.upd H8 L7 (.lst (u7++[.non]))):=iQ hL7 (s7.trans s8);generalize L2.upd H8 L7 (.lst (u7++[.non]))=H9 at s19 s69 ⊢;have hY9:=hY1.same s19;obtain⟨dx9,hx9⟩:=hY9.st.at_;refine⟨_,rfl,x,dx9,_,rfl,hx9,rfl,_,rfl,_,rfl,x,d,dm,m,house,es,e,by rw[en];rfl,hY9.st,he,hh0,hhm,λL10 H10 hL10 s10 hR10=>?_⟩;rw[et] at hR10;have hR10:bY K H10 L10 ((srt o.t.rows).filter λr=>bO o.t.hd m r house o.t.pl):=hR10;obtain⟨u6,g6,h6⟩:=hR6.same (s69.trans s10);obtain⟨u10,g10,h10⟩:=hR10;exact⟨_,rfl,L10,L6,u10,u6,_,rfl,rfl,SqL.of g10,SqL.of g6,cM h10,cM h6,flF,_,rfl,bV ⟨s19.trans s10,_,_,_,rfl⟩⟩
  ·obtain⟨s5,l6,l7,l8,rfl⟩:=p;exact⟨s5,_,_,_,_,rfl⟩
 ·obtain⟨s2,l5,l6,l7,l8,rfl⟩:=p;exact q H2 (s1.trans s2)
theorem aWh {c:TT}{t u:TS}{D:Ends}{σ:L2.St}{H:Hp}(Y N:Hp->Prop)(hc:∀R:Bool->Hp->Prop,(∀H8,Y H8->R true H8)->(∀H8,N H8->R false H8)->c σ H R)(go:∀H8,Y H8->t D σ H8)(no:∀H8,N H8->u D σ H8):aPh c t u D σ H:=
 hc _ (λH8 y=>dI (go H8 y)) (λH8 y=>bV (no H8 y))
abbrev AlR:Mo->En->Prop:=λo e=>e.n=o.n/\e.t={ o.t with rows:=srt o.t.rows }
theorem aB1 {α β:Type}{R:α->β->Prop}{o:α}{k2:List α}:∀{k1:List α} {es:List β},cH R (k1++o::k2) es->∃l1 e l2,es=l1++e::l2/\cH R k1 l1/\R o e/\cH R k2 l2
 |[],_,h=>by
  cases h with
  |cons r t=>exact⟨[],_,_,rfl,.nil,r,t⟩
 |k::k1,_,h=>by
  cases h with
  |cons r t=>obtain⟨l1,e,l2,rfl,h1,h2,h3⟩:=aB1 (k1:=k1) t;exact⟨_::l1,e,l2,rfl,.cons r h1,h2,h3⟩
theorem aFa {H:Hp}{R a:Addr}{rows:List (List V)}{us:List V}{y:V}(h:bY K H R rows)(g:H a=some (.lst us))(hy:y∈us)(hn:∀b,y≠.ref b):a≠R:=by rintro rfl;obtain⟨us',g',h'⟩:=h;rw[g] at g';cases g';obtain⟨j,hj⟩:=List.mem_iff_getElem?.mp hy;obtain⟨_,_,p,e,_⟩:=cB h' hj;exact hn p e
theorem aEr {H:Hp}{R a:Addr}{rows:List (List V)}(h:bY K H R rows)(s:gQ H a):a≠R:=by obtain⟨c,g,_⟩:=s;exact aFa h g m9 λ_ z=>by cases z
theorem aSn {H:Hp}{R M R':Addr}{vh vp:V}{t:Tb}{rows:List (List V)}(h:bY K H R rows)(g:nC K H M vh vp R' t):M≠R:=aFa h g.1 (y:=.non) (j8 _ (j8 _ (j8 _ m9))) λ_ z=>by cases z
theorem aUc {H:Hp}{d:Addr}{es:List En}(h:fJ K H d es){e:En}(he:e∈es):bY K H e.L e.t.rows:=by obtain⟨_,_,_,_,_,h3⟩:=h.tb e he;exact h3
theorem Sy.upd {H H':Hp}{C x d dm D:Addr}{m:Int}{l1 l2:List En}{k1 k2:List Mo}{e e':En}{o:Mo}{rows':List (List V)}(h:Sy K H C x m d dm D (l1++e::l2) (k1++o::k2))(a1:cH AlR k1 l1)(a2:cH AlR k2 l2)(k:KP K (λb=>b≠d/\b≠o.R) H H')(hS:cJ K H' C x m d dm (l1++e'::l2))(hn:e'.n=o.n)(ht:e'.t={ o.t with rows:=srt rows' })(hL:H e'.L=none)(hR:bY K H' o.R rows')(ok:nF m { o.t with rows:=rows' }):Sy K H' C x m d dm D (l1++e'::l2) (k1++{ o with t:={ o.t with rows:=rows' } }::k2):=by
 have mo:o∈k1++o::k2:=v8 _ m9;have ro:=(h.mo o mo).1.2.2.2;have sub:∀y∈k1++{ o with t:={ o.t with rows:=rows' } }::k2,y={ o with t:={ o.t with rows:=rows' } }\/(y∈k1++o::k2/\y.R≠o.R):=λy hy=>by
  have rn:=h.rn;rw[bAO,bAM] at rn;obtain⟨_,n2,n3⟩:=List.nodup_append.mp rn;rcases List.mem_append.mp hy with hy|hy
  ·exact .inr ⟨bBL _ hy,n3 _ (bBJ hy) _ m9⟩
  ·rcases List.mem_cons.mp hy with hy|hy
   ·exact .inl hy
   ·exact .inr ⟨v8 _ (j8 _ hy),λz=>(List.nodup_cons.mp n2).1 (by rw[<-z];exact bBJ hy)⟩
 have nd:∀{b u},H b=some u->(∀kvs,u≠.dK kvs)->b≠d:=λh' hu z=>by rw[z,h.st.ens.at_] at h';cases h';exact hu _ rfl
 have lst:∀y∈k1++o::k2,y.M≠d/\y.R≠d:=λy hy=>by obtain⟨g1,_,_,⟨us,g2,_⟩⟩:=(h.mo y hy).1;exact⟨nd g1 λ_ z=>(by cases z),nd g2 λ_ z=>(by cases z)⟩
 have em:moK (k1++{ o with t:={ o.t with rows:=rows' } }::k2)=moK (k1++o::k2):=by unfold moK;rw[bAO,bAO];rfl
 refine⟨hS,?_,λy hy=>?_,a1.app (.cons ⟨hn,ht⟩ a2),?_,λy hy e1 he1=>?_,h.dd⟩
 ·rw[em];refine k.st _ _ ⟨h.dd,λz=>?_⟩ h.md;obtain⟨us,g2,_⟩:=ro;have:=h.md;rw[z,g2] at this;cases this
 ·rcases sub y hy with rfl|⟨hy,nr⟩
  ·obtain⟨g1,g2,g3,_⟩:=(h.mo o mo).1;exact⟨⟨k.st _ _ ⟨(lst o mo).1,aSn ro (h.mo o mo).1⟩ g1,g2.tk k.tk,g3.tk k.tk,hR⟩,ok⟩
  ·exact⟨(h.mo y hy).1.kp k ⟨(lst y hy).1,aSn ro (h.mo y hy).1⟩ ⟨(lst y hy).2,nr⟩,(h.mo y hy).2⟩
 ·have:=h.rn;rw[bAO,bAM] at this ⊢;exact this
 ·have oldR:∃us,H y.R=some (.lst us):=by
   rcases sub y hy with rfl|⟨hy,_⟩
   ·obtain⟨us,g,_⟩:=ro;exact⟨us,g⟩
   ·obtain⟨us,g,_⟩:=(h.mo y hy).1.2.2.2;exact⟨us,g⟩
  have oldY:∃y'∈k1++o::k2,y'.R=y.R:=by
   rcases sub y hy with rfl|⟨hy,_⟩
   ·exact⟨o,mo,rfl⟩
   ·exact⟨y,hy,rfl⟩
  obtain⟨us,g⟩:=oldR;obtain⟨y',hy',ey⟩:=oldY;rcases List.mem_append.mp he1 with he1|he1
  ·rw[<-ey];exact h.nl y' hy' e1 (bBL _ he1)
  ·rcases List.mem_cons.mp he1 with rfl|he1
   ·exact (aL g hL).symm
   ·rw[<-ey];exact h.nl y' hy' e1 (v8 _ (j8 _ he1))
structure LI (K:bET)(H:Hp)(C x:Addr)(m:Int)(d dm D W Pt st:Addr)(xs:List V)(es:List En)(os:List Mo):Prop where
 s:gQ H st
 y:Sy K H C x m d dm D es os
 fw:∀o∈os,o.t.rows.length<=12
 l2:2<=os.length
 l3:os.length<=3
 gW:H W=some (.lst (.int 0::xs))
 gP:H Pt=some (.tab qC)
 nW:W≠st
section
variable {H H':Hp}{C x d dm D W Pt st:Addr}{m:Int}{xs:List V}{es:List En}{os:List Mo}
theorem LI.same (s:Same H H')(h:LI K H C x m d dm D W Pt st xs es os):LI K H' C x m d dm D W Pt st xs es os:=⟨h.s.same s,h.y.same s,h.fw,h.l2,h.l3,s _ _ h.gW,s _ _ h.gP,h.nW⟩
theorem aG0 {u:HO}{b:Addr}(h:gQ H st)(g:H b=some u)(hu:∀ys,u≠.lst ys):b≠st:=λz=>by obtain⟨_,e,_⟩:=h;rw[z,e] at g;cases g;exact hu _ rfl
theorem Sy.fx (f:Fx st H H')(ha:gQ H st)(h:Sy K H C x m d dm D es os):Sy K H' C x m d dm D es os:=by obtain⟨dx,hx⟩:=h.st.at_;refine h.kp (S:=λb=>b≠st) (KP.fx f ha λz=>z rfl) (aG0 ha hx λ_ z=>by cases z) (aG0 ha h.st.ens.at_ λ_ z=>by cases z) (aG0 ha h.st.mv λ_ z=>by cases z) (aG0 ha h.md λ_ z=>by cases z) (λe he=>(aEr (aUc h.st.ens he) ha).symm) λo ho=>⟨λz=>?_,(aEr (h.mo o ho).1.2.2.2 ha).symm⟩;obtain⟨c,e,_⟩:=ha;have g:=(h.mo o ho).1.1;rw[z,e] at g;exact absurd (congrArg List.length (HO.lst.inj (bAQ g))) (by show ¬ 1=4;decide)
theorem LI.fx (f:Fx st H H')(h:LI K H C x m d dm D W Pt st xs es os):LI K H' C x m d dm D W Pt st xs es os:=⟨f.st,h.y.fx f h.s,h.fw,h.l2,h.l3,f.same _ _ h.nW h.gW,f.same _ _ (aG0 h.s h.gP λ_ z=>by cases z) h.gP,h.nW⟩
theorem LI.upd {l1 l2:List En}{k1 k2:List Mo}{e e':En}{o:Mo}{rows':List (List V)}(h:LI K H C x m d dm D W Pt st xs (l1++e::l2) (k1++o::k2))(a1:cH AlR k1 l1)(a2:cH AlR k2 l2)(k:KP K (λb=>b≠d/\b≠o.R) H H')(hS:cJ K H' C x m d dm (l1++e'::l2))(hn:e'.n=o.n)(ht:e'.t={ o.t with rows:=srt rows' })(hL:H e'.L=none)(hR:bY K H' o.R rows')(ok:∀r∈rows',qY o.t.hd r)(fw:rows'.length<=12):LI K H' C x m d dm D W Pt st xs (l1++e'::l2) (k1++{ o with t:={ o.t with rows:=rows' } }::k2):=by
 have mo:o∈k1++o::k2:=v8 _ m9;have ro:=(h.y.mo o mo).1.2.2.2;have oko:=(h.y.mo o mo).2;have nd:∀{b u},H b=some u->(∀kvs,u≠.dK kvs)->b≠d:=λh' hu z=>by rw[z,h.y.st.ens.at_] at h';cases h';exact hu _ rfl
 refine⟨aR2 h.s λu g=>k.st _ _ ⟨?_,aEr ro h.s⟩ g,h.y.upd a1 a2 k hS hn ht hL hR ⟨oko.hd,oko.pl,by show rows'.length<=60;lia,ok⟩,λy hy=>?_,?_,?_,k.st _ _ ⟨nd h.gW λ_ z=>(by cases z),aFa ro h.gW m9 λ_ z=>(by cases z)⟩ h.gW,k.st _ _ ⟨nd h.gP λ_ z=>(by cases z),λz=>?_⟩ h.gP,h.nW⟩
 ·obtain⟨c,g',_⟩:=h.s;exact nd g' λ_ z=>by cases z
 ·rcases List.mem_append.mp hy with hy|hy
  ·exact h.fw y (bBL _ hy)
  ·rcases List.mem_cons.mp hy with rfl|hy
   ·exact fw
   ·exact h.fw y (v8 _ (j8 _ hy))
 ·have:=h.l2;rw[bAC,v5] at this ⊢;exact this
 ·have:=h.l3;rw[bAC,v5] at this ⊢;exact this
 ·obtain⟨us,g,_⟩:=ro;have:=h.gP;rw[z,g] at this;cases this
theorem aBl:(moK os).map (·.1)=((os.map (·.n)).map λn=>(Sum.inr n:Key)):=by unfold moK;rw[bB0,bB0];rfl
theorem xM {ss:List Str}(p:ss.Perm (os.map (·.n))):∀n∈ss,∃o∈os,o.n=n:=λn hn=>by obtain⟨o,ho,e⟩:=List.mem_map.mp (p.mem_iff.mp hn);exact⟨o,ho,e⟩
end
theorem bAz {H0 H H':Hp}{a st:Addr}{xs:List V}(hn:H0 st=none)(s:Same H0 H)(f:Fx st H H')(h:SqL K H0 a xs):SqL K H' a xs:=by
 rcases h with (h|⟨o,h⟩)|h
 ·exact .inl (.inl (f.same _ _ (aL h hn) (s _ _ h)))
 ·exact .inl (.inr ⟨o,f.same _ _ (aL h hn) (s _ _ h)⟩)
 ·exact .inr h
def aMg (K:bET)(Pt:Addr):Sp:=λvs H Q _=>∃(a:Addr) (ns:List Int),vs=[.ref a]/\SqL K H a (ns.map V.int)/\ns.length<=63/\H Pt=some (.tab qC)/\∀H',H' Pt=some (.tab qC)->Q (.bl true) H'
theorem aW7 {f:Addr}{fd:FuncData}(F:Fun K "law" "law" aNu f fd)(T:Txt w K mg){C CN Pt:Addr}(aG5:Ok P w K mg base 1 "_law_seed" ["_law_script"] (aMj K))(aEm:Ok P w K mg base 2 "_law_names" ["_law_state","_law_many"] aSw)(aR:Ok P w K mg base 1 "_law_next" ["_law_state","_law_many"] mD)(tQ:Ok P w K mg base 4 "_law_row" ["_law_state","_law_head_here"] (aFf K))(aE4:Ok P w K mg base 13 "_law_begun" ["_law_names_here","_law_state","_law_most"] (aGx K C Pt))(oF:Ok P w K mg base 14 "_law_right" ["_law_store","_law_model","_law_names_here","_law_houses"] (aHe K C Pt))(wX:Ok P w K mg base 6 "_law_not_there" ["_law_store","_law_name","_law_row_here"] (aNi K C))(GM_Store_put:OkM P w K mg base C 5 "put" ["self","name","row"] (aTl K C))(GMX_Store_drop:yV P w K mg base C 5 "drop" ["self","name","row"] (zE K C CN)):fQ P w K mg base CX0 15 f fd ["_law_script"] (aMg K Pt):=by
 have GM_Store_drop:OkM P w K mg base C 5 "drop" ["self","name","row"] (λvs H Q _=>zE K C CN vs H Q E0):=GMX_Store_drop.calm λ_ _ _ _ h=>h;refine Fun.okV F lO (λvs H Q E h=>?_) (λcdv A outer s H vs Q E hr h=>?_)
 ·obtain⟨a,ns,rfl,_⟩:=h;rfl
 obtain⟨a,ns,rfl,ha,hn,hPt,q⟩:=h;have hU:=hr.units;have hu:=wD hr;refine⟨_,(aD (aX (i:=1) lO.nd rfl (by trivial) (dJ (aC (aQ (aG5.mono (by decide)) hr (by rfl) (aC (vv 0) aB)) aB))) (aD (zV (aQ (aE4.mono (by decide)) hr (by rfl) (aC (aQ (aEm.mono (by decide)) hr (by rfl) (aC (vv 1) (aC aH aB))) (aC (vv 1) (aC aH aB)))) (wK rfl (bL (aU (i:=2) lO.nd rfl (by trivial)) (bL (aU (i:=3) lO.nd rfl (by trivial)) (bL (aU (i:=4) lO.nd rfl (by trivial)) fY))))) (aD (bZ (cI (cA (aQ (oF.mono (by decide)) hr (by rfl) (aC (vv 2) (aC (vv 3) (aC (aO (uE rfl) (by rfl) T.eX dN (aC (vv 3) aB)) (aC (vv 4) aB))))))) (aG (aN gK)) aZ) (aD (eN PassesOwn.never rfl (iG (bM aBq (dJ (aC aH aB)) (jP aIb (vv 0) oH (kI aH)))) (aU (i:=5) lO.nd rfl (by trivial)) (aD (aX (i:=1) lO.nd rfl (by trivial) (dJ (aC (bM dG (aW fH (vv 1) aH (λ_ _=>rfl)) (bM oR (vv 5) (bM aEy aH aH))) aB))) (aD (aX (i:=6) lO.nd rfl (by trivial) (aW fH (aO (uE rfl) (by rfl) T.eX dN (aC (vv 3) aB)) (aQ (aR.mono (by decide)) hr (by rfl) (aC (vv 1) (aC (aO aP2 (by rfl) T.fM dF (aC (vv 3) aB)) aB))) (λ_ _=>rfl))) (aD (aX (i:=7) lO.nd rfl (by trivial) (aW fH (jZ hu (vv 3) (vv 6) (λ_ _=>rfl)) aH (λ_ _=>rfl))) (aD (aX (i:=8) lO.nd rfl (by trivial) (aQ (tQ.mono (by decide)) hr (by rfl) (aC (vv 1) (aC (aW fH (jZ hu (vv 3) (vv 6) (λ_ _=>rfl)) aH (λ_ _=>rfl)) aB)))) (aD (bZ (VW.pt (aRt (bH (aQf hU) (vv 7) (dJ aB) (bF _)) (aNc (bH eU (aQ (aR.mono (by decide)) hr (by rfl) (aC (vv 1) (aC aH aB))) aH (bF _))))) (aD (aX (i:=8) lO.nd rfl (by trivial) (nP PySem.F.plainAttrs_list PySem.F.slot_list_pop PySem.F.type_list_pop aPa (vv 7) (aC (aQ (aR.mono (by decide)) hr (by rfl) (aC (vv 1) (aC (aO bI (by rfl) T.fM dF (aC (vv 7) aB)) aB))) aB))) (aG (bZ (bH aEb (oM (GM_Store_drop.mono (by decide)) hr (vv 2) (aC (vv 6) (aC (vv 8) aB))) pA (bF _)) (aG (aN gK)) aZ))) (aG (bZ (VW.pt (aRt (bH (aA4 hU) (vv 8) (vv 7) (by with_unfolding_all rfl)) (aNc (bH eU (aQ (aR.mono (by decide)) hr (by rfl) (aC (vv 1) (aC aH aB))) aH (bF _))))) (aG (bZ (cI (cA (aQ (wX.mono (by decide)) hr (by rfl) (aC (vv 2) (aC (vv 6) (aC (vv 8) aB)))))) (aG (aN gK)) aZ)) (aG (bZ (bH aS8 (aO bI (by rfl) T.fM dF (aC (vv 7) aB)) aH (bF _)) (aD (bZ (bH aEb (oM (GM_Store_put.mono (by decide)) hr (vv 2) (aC (vv 6) (aC (vv 8) aB))) pA (bF _)) (aG (aN gK)) aZ) (aG (fW (nP PySem.F.plainAttrs_list PySem.F.slot_list_append PySem.F.type_list_append jD (vv 7) (aC (vv 8) aB))))) aZ))))) (aG (bZ (cI (cA (aQ (oF.mono (by decide)) hr (by rfl) (aC (vv 2) (aC (vv 3) (aC (dJ (aC (vv 6) aB)) (aC (vv 4) aB))))))) (aG (aN gK)) aZ)))))))) (aG (aN (aQ (oF.mono (by decide)) hr (by rfl) (aC (vv 2) (aC (vv 3) (aC (aO (uE rfl) (by rfl) T.eX dN (aC (vv 3) aB)) (aC (vv 4) aB))))))))))),?_⟩;refine⟨_,rfl,a,ns,rfl,ha,hn,λc0 H1 s1 _ _=>⟨by show 1<=sizeLine;decide,λst H2 hst s2 g2=>?_⟩⟩;have hSt:gQ H2 st:=⟨c0,g2,trivial⟩;refine⟨_,rfl,st,rfl,hSt,λN H3 nms f3 hN0 gN hnm=>?_⟩;have nNs:N≠st:=hSt.ne hN0;have hP2:=s2 _ _ (s1 _ _ hPt);have nPs:Pt≠st:=λz=>by rw[z,g2] at hP2;cases hP2
 have hP3:=f3.same _ _ nPs hP2;refine⟨_,rfl,st,N,nms,rfl,f3.st,gN,nNs,hnm,hP3,λt x d dm D m es os H4 f4 ht hY m1 m6 l2 l3 lr=>?_⟩;refine⟨t,_,rfl,ht,rfl,_,_,rfl,_,_,rfl,_,_,rfl,rfl,?_⟩;have f24:=f3.trans f4;have hP4:=f4.same _ _ nPs hP3;refine⟨_,rfl,_,rfl,_,rfl,D,moK os,os.map (·.n),rfl,hY.md,aBl,by unfold moK;rw[j9];lia,λS5 H5 ss hS5 s5 pm g5=>?_⟩;refine⟨_,rfl,x,d,dm,D,S5,m,es,os,ss,rfl,hY.same s5,m1,m6,s5 _ _ hP4,g5,xM pm,λH6 s6=>⟨_,rfl,bV ?_⟩⟩;have s46:=s5.trans s6;refine⟨by show 1<=sizeLine;decide,λz7 H7 hz7 s7 g7=>?_⟩;have ha7:SqL K H7 a (ns.map V.int):=(s46.trans s7).seq (bAz hst s2 f24 (s1.seq ha));refine⟨_,rfl,_,rfl,a,ns.map V.int,rfl,ha7,λp8 H8 hp8 s8 g8=>?_⟩;rw[show qI (ns.map V.int) none (some 63)=(ns.map V.int).take 63 from aM7 _ 63] at g8;have l63:((ns.map V.int).take 63).length<=63:=by rw[bAL];lia
 refine⟨z7,p8,_,_,rfl,rfl,s8 _ _ g7,g8,small (by show 1+_<=1000;lia),λW H9 hW s9 g9=>?_⟩;have s49:=s46.trans (s7.trans (s8.trans s9));obtain⟨xs,exs⟩:∃xs,xs=(ns.map V.int).take 63:=⟨_,rfl⟩;have g9:H9 W=some (.lst (.int 0::xs)):=by rw[exs];exact g9
 have hxi:∀y∈V.int 0::xs,∃c,y=.int c:=λy hy=>by
  rw[exs] at hy;rcases List.mem_cons.mp hy with hy|hy
  ·exact⟨0,hy⟩
  ·obtain⟨c,_,rfl⟩:=List.mem_map.mp (List.mem_of_mem_take hy);exact⟨c,rfl⟩
 have nWs:W≠st:=(((f4.st.same s46).same s7).same s8).ne hW;have li0:LI K H9 C x m d dm D W Pt st xs es os:=⟨f4.st.same s49,hY.same s49,λo ho=>bAP (lr o ho) (by decide),l2,l3,g9,s49 _ _ hP4,nWs⟩;refine⟨W,rfl,⟨_,SqL.of g9⟩,vV (xs:=V.int 0::xs) (λi σ H'=>∃(st:Addr) (es:List En) (os:List Mo) (l5 l6 l7 l8:Option V),LI K H' C x m d dm D W Pt st xs es os/\σ=[some (.ref a),some (.ref st),some (.ref x),some (.ref D),some (.int m),l5,l6,l7,l8]) ⟨st,es,os,none,none,none,none,li0,rfl⟩ (λi σ H' _ p=>by obtain⟨st,es,os,l5,l6,l7,l8,li,_⟩:=p;exact SqL.of li.gW) (λi y σ H8 ey p=>?_) fun σ H8 p=>?_⟩
 ·obtain⟨st,es,os,l5,l6,l7,l8,li,rfl⟩:=p;obtain⟨c,rfl⟩:=hxi y (p7 ey);obtain⟨sv,gst,_⟩:=li.s;refine⟨_,rfl,st,_,0,_,rfl,rfl,SqL.of gst,at0 _ _,_,rfl,_,_,rfl,rfl,⟨by decide,by decide,by decide⟩,_,_,rfl,rfl,(by show (0:Int)<10 ^ 18;decide),_,_,rfl,rfl,by show 1<=sizeLine;decide,λst2 H9 hst2 s9 g9=>?_⟩;have li9:LI K H9 C x m d dm D W Pt st2 xs es os:=by have l:=li.same s9;exact⟨⟨_,g9,trivial⟩,l.y,l.fw,l.l2,l.l3,l.gW,l.gP,aL li.gW hst2⟩
  clear li gst;dsimp only[cO,List.set];refine⟨_,rfl,D,moK os,os.map (·.n),rfl,li9.y.md,aBl,(by unfold moK;rw[j9];have:=li9.l3;lia),λS5 H10 ss hS5 s10 pm g5=>?_⟩;have li10:=li9.same s10;have lss:=pm.length_eq;rw[j9] at lss;have lmo:(moK os).length=os.length:=by unfold moK;rw[j9]
  have ll2:=li9.l2;have ll3:=li9.l3;refine⟨_,rfl,_,rfl,D,moK os,rfl,li10.y.md,st2,_,rfl,li10.s,⟨by lia,by lia⟩,λz H11 f11 z0 z1=>?_⟩;have li11:=li10.fx f11;obtain⟨zi,rfl⟩:∃zi:Nat,z=zi:=⟨z.toNat,by lia⟩;have hz:zi<ss.length:=by lia
  have nS5:S5≠st2:=li9.s.ne hS5;refine⟨S5,_,_,.str ss[zi],rfl,rfl,SqL.of (f11.same _ _ nS5 g5),eQ (by rw[v4,d9 hz];rfl),?_⟩;obtain⟨o,ho,eo⟩:=xM pm ss[zi] (bAR hz);rw[<-eo];clear eo pm lss hz g5 z0 z1;have gM:=(li11.y.mo o ho).1.1;refine⟨_,rfl,_,rfl,D,.ref o.M,rfl,.inl ⟨_,Sum.inr o.n,.inl li11.y.md,rfl,(li11.y.get ho).symm⟩,o.M,_,2,_,rfl,rfl,SqL.of gM,at2 _ _ _ _,?_⟩;refine⟨_,rfl,_,rfl,_,rfl,D,.ref o.M,rfl,.inl ⟨_,Sum.inr o.n,.inl li11.y.md,rfl,(li11.y.get ho).symm⟩,o.M,_,0,_,rfl,rfl,SqL.of gM,at0 _ _,st2,o.vh,o.t.hd,rfl,li11.s,(li11.y.mo o ho).1.2.1,(li11.y.mo o ho).2.hd,λtr H12 r f12 g12 hkr=>?_⟩;have li12:=li11.fx f12;have hr12:dM K H12 (.ref tr) r:=⟨tr,rfl,SqT.of g12⟩;clear li9 li10 li11 gM g12 f12 f11 g9 s9 s10 hS5 nS5;obtain⟨k1,k2,rfl⟩:=List.append_of_mem ho;obtain⟨l1,e,l2',rfl,a1,⟨en,et⟩,a2⟩:=aB1 li12.y.al;have ok:=(li12.y.mo o ho).2;have hkd':∀r∈o.t.rows,KdR (knds o.t.hd) r:=λr hr'=>yH (ok.rows r hr');have fwo:=li12.fw o ho;have psr:=(kZ hkd').1;dsimp only[cO,List.set];refine aUm (S:=aPh _ _ _) (fun σ H'=>∃(es:List En) (os:List Mo) (l8:Option V),LI K H' C x m d dm D W Pt st2 xs es os/\(∃o'∈os,o'.n=o.n)/\σ=[some (.ref a),some (.ref st2),some (.ref x),some (.ref D),some (.int m),some (.int c),some (.str o.n),some (.ref o.R),l8]) (λNX hN=>?_) fun σ' H' hJ=>?_
  ·refine aWh (λH'=>LI K H' C x m d dm D W Pt st2 xs (l1++e::l2') (k1++o::k2)/\o.t.rows≠[]) (λH'=>LI K H' C x m d dm D W Pt st2 xs (l1++e::l2') (k1++o::k2)/\dM K H' (.ref tr) r) (λR rT rF=>?_) (λH13 y=>?_) λH13 y=>?_
   ·obtain⟨us,gR,hus⟩:=(li12.y.mo o ho).1.2.2.2;have lus:=hus.len;refine⟨_,rfl,by show 0<=sizeLine;decide,λp9 H13 hp9 s13 g13=>⟨o.R,p9,us,rfl,rfl,SqL.of (s13 _ _ gR),SqL.of g13,_,rfl,?_⟩⟩;have li13:=li12.same s13;cases us with
    |nil=>exact bV (rF _ ⟨li13,hr12.same s13⟩)
    |cons u us=>
     refine dI ⟨_,rfl,st2,3,rfl,li13.s,by decide,λz3 H14 f14 _ _=>⟨rfl,_,rfl,?_⟩⟩;have li14:=li13.fx f14;cases decide (V.int z3=V.int 0) with
     |false=>exact rF _ ⟨li14,by obtain⟨p,e,hp⟩:=hr12.same s13;exact⟨p,e,f14.aY li13.s hp⟩⟩
     |true=>exact rT _ ⟨li14,λz=>by rw[z] at lus;cases lus⟩
   ·obtain⟨li,hne⟩:=y;obtain⟨us,gR,hus⟩:=(li.y.mo o ho).1.2.2.2;have lus:=hus.len;have hpos:0<o.t.rows.length:=List.length_pos_iff.mpr hne;refine⟨_,rfl,.inl ⟨rfl,_,SqL.of gR⟩,_,rfl,_,rfl,o.R,us,rfl,.inl (SqL.of gR),st2,_,rfl,li.s,⟨by lia,by lia⟩,λz H14 f14 z0 z1=>?_⟩;have li14:=li.fx f14;obtain⟨us,gR,hus⟩:=(li14.y.mo o ho).1.2.2.2;have lus':=hus.len;obtain⟨zi,rfl⟩:∃zi:Nat,z=zi:=⟨z.toNat,by lia⟩;have hz:zi<us.length:=by lia
    obtain⟨q0,eq0,qa,eqa,hqa⟩:=cB hus (d9 hz);refine⟨o.R,us,_,zi,us[zi],rfl,rfl,gR,by lia,by lia,PySem.StrLaws.seqIndex_nonneg (by lia) (by lia),d9 hz,?_⟩;have kR:KP K (λb=>b≠o.R) H14 (L2.upd H14 o.R (.lst (us.eraseIdx zi))):=.nM gR λz=>z rfl;have gR15:L2.upd H14 o.R (.lst (us.eraseIdx zi)) o.R=some (.lst (us.eraseIdx zi)):=aJ;have fr15:∀{b},L2.upd H14 o.R (.lst (us.eraseIdx zi)) b=none->H14 b=none:=λ{b} h=>by
     by_cases zz:b=o.R
     ·rw[zz,aJ] at h;cases h
     ·rw[aK zz] at h;exact h
    generalize L2.upd H14 o.R (.lst (us.eraseIdx zi))=H15 at kR gR15 fr15 ⊢;have hq15:dM K H15 us[zi] q0:=⟨qa,eqa,kR.tk _ _ hqa⟩;have hS14:=li14.y.st;obtain⟨dx,hx14⟩:=hS14.at_;have no:∀{b u},H14 b=some u->(∀ys,u≠.lst ys)->b≠o.R:=λh hu z=>by rw[z,gR] at h;cases h;exact hu _ rfl
    have ndR:d≠o.R:=no hS14.ens.at_ λ_ z=>by cases z
    have hS15:cJ K H15 C x m d dm (l1++e::l2'):=hS14.kp kR (no hx14 λ_ z=>by cases z) ndR (no hS14.mv λ_ z=>by cases z) λe1 he1=>li14.y.nl o ho e1 he1;obtain⟨dx15,hx15⟩:=hS15.at_;have okq:=ok.rows q0 (p7 eq0);have pe:=tZ eq0;refine⟨_,rfl,x,dx15,_,rfl,hx15,rfl,_,rfl,_,rfl,x,d,dm,m,l1,l2',e,us[zi],q0,by rw[en];rfl,hS15,hq15,by rw[et];exact okq,λhm v L rows' H16 pm k16 hL16 hS16=>?_,λhm=>absurd ?_ hm⟩
    ·refine⟨rfl,_,rfl,bV ?_⟩;rw[et] at pm;have pm:(q0::rows').Perm (srt o.t.rows):=pm;have pr:rows'.Perm (o.t.rows.eraseIdx zi):=(pm.trans (psr.trans pe.symm)).cons_inv;have okE:∀y∈o.t.rows.eraseIdx zi,qY o.t.hd y:=λy hy=>ok.rows y (List.mem_of_mem_eraseIdx hy);have es:srt rows'=srt (o.t.rows.eraseIdx zi):=(aA6 (λy hy=>yH (okE y hy)) pr.symm).symm;have kk:KP K (λb=>b≠d/\b≠o.R) H14 H16:=(kR.mono λb z=>z.2).trans (k16.mono λb z=>z.1);have tk:=λp xs (h:SqT K H14 p xs)=>kk.tk p xs h;refine hN _ _ ⟨_,_,_,li14.upd (e':={ e with v:=v,L:=L,t:={ e.t with rows:=srt rows' } }) (rows':=o.t.rows.eraseIdx zi) a1 a2 kk hS16 en (by show ({ e.t with rows:=srt rows' }:Tb)=_;rw[es,et]) (fr15 hL16) ⟨_,k16.st _ _ ndR.symm gR15,(aAn hus zi).imp λ_ _ ⟨p,e,hp⟩=>⟨p,e,tk _ _ hp⟩⟩ okE (by have:=bDU o.t.rows zi;lia),⟨_,v8 _ m9,rfl⟩,rfl⟩
    ·rw[et];exact psr.mem_iff.mpr (p7 eq0)
   ·obtain⟨li,hr13⟩:=y;refine aWh (λH'=>LI K H' C x m d dm D W Pt st2 xs (l1++e::l2') (k1++o::k2)/\dM K H' (.ref tr) r/\r∉o.t.rows) (λH'=>LI K H' C x m d dm D W Pt st2 xs (l1++e::l2') (k1++o::k2)/\dM K H' (.ref tr) r) (λR rT rF=>?_) (λH14 y=>?_) λH14 y=>?_
    ·obtain⟨us,gR,hus⟩:=(li.y.mo o ho).1.2.2.2;refine⟨_,rfl,_,rfl,o.R,us,o.t.rows,r,rfl,SqL.of gR,cM hus,λq hq=>vH (ok.rows q hq),hr13,vH hkr,_,rfl,?_⟩;by_cases hm:r∈o.t.rows
     ·rw[v6 hm];exact bV (rF _ ⟨li,hr13⟩)
     ·rw[w6 hm];refine dI ⟨_,rfl,st2,3,rfl,li.s,by decide,λz3 H14 f14 _ _=>⟨rfl,_,rfl,?_⟩⟩;have hr14:dM K H14 (.ref tr) r:=by obtain⟨p,e,hp⟩:=hr13;exact⟨p,e,f14.aY li.s hp⟩
      cases decide (V.int z3=V.int 0) with
      |false=>exact rF _ ⟨li.fx f14,hr14⟩
      |true=>exact rT _ ⟨li.fx f14,hr14,hm⟩
    ·obtain⟨li,hr14,hm⟩:=y;refine⟨_,rfl,_,rfl,_,rfl,x,d,dm,m,l1,l2',e,.ref tr,r,by rw[en];rfl,li.y.st,hr14,by rw[et];exact hkr,(by rw[et];exact λz=>hm (psr.mem_iff.mp z)),λH15 s15=>⟨_,rfl,bV ?_⟩⟩;exact hN _ _ ⟨_,_,_,li.same s15,⟨o,ho,rfl⟩,rfl⟩
    ·obtain⟨li,hr14⟩:=y;obtain⟨us,gR,hus⟩:=(li.y.mo o ho).1.2.2.2;have lus:=hus.len;refine⟨_,rfl,o.R,us,rfl,.inl (SqL.of gR),_,_,rfl,rfl,_,rfl,?_⟩;by_cases h12:us.length<12
     ·rw[show decide ((us.length:Int)<12)=true from v6 (by lia)];refine dI ?_;obtain⟨dx14,hx14⟩:=li.y.st.at_;refine⟨_,rfl,x,dx14,_,rfl,hx14,rfl,_,rfl,_,rfl,x,d,dm,m,l1,l2',e,.ref tr,r,by rw[en];rfl,li.y.st,hr14,by rw[et];exact hkr,by rw[et];show (srt o.t.rows).length<60;rw[vQ];lia,λv L H15 k15 hL15 hS15=>⟨rfl,_,rfl,bV ?_⟩⟩;have nRd:o.R≠d:=λz=>by have:=li.y.st.ens.at_;rw[<-z,gR] at this;cases this
      have gR15:=k15.st _ _ nRd gR;refine⟨_,rfl,.inl ⟨rfl,_,SqL.of gR15⟩,_,rfl,o.R,_,_,rfl,rfl,gR15,jH (by lia),?_⟩;have kR:KP K (λb=>b≠o.R) H15 (L2.upd H15 o.R (.lst (us++[.ref tr]))):=.nM gR15 λz=>z rfl;have gR16:L2.upd H15 o.R (.lst (us++[.ref tr])) o.R=some (.lst (us++[.ref tr])):=aJ;generalize L2.upd H15 o.R (.lst (us++[.ref tr]))=H16 at kR gR16 ⊢;have no:∀{b u},H15 b=some u->(∀ys,u≠.lst ys)->b≠o.R:=λh hu z=>by rw[z,gR15] at h;cases h;exact hu _ rfl
      obtain⟨dx15,hx15⟩:=hS15.at_;have hS16:=hS15.kp kR (no hx15 λ_ z=>by cases z) nRd.symm (no hS15.mv λ_ z=>by cases z) λe1 he1=>by
       rcases List.mem_append.mp he1 with he1|he1
       ·exact li.y.nl o ho e1 (bBL _ he1)
       ·rcases List.mem_cons.mp he1 with rfl|he1
        ·exact (aL gR hL15).symm
        ·exact li.y.nl o ho e1 (v8 _ (j8 _ he1))
      have okE:∀y∈o.t.rows++[r],qY o.t.hd y:=λy hy=>by
       rcases List.mem_append.mp hy with hy|hy
       ·exact ok.rows y hy
       ·rw[List.mem_singleton.mp hy];exact hkr
      have es:srt (e.t.rows++[r])=srt (o.t.rows++[r]):=by rw[et];exact (aA6 (λy hy=>yH (okE y hy)) (psr.symm.append_right [r])).symm
      have kk:KP K (λb=>b≠d/\b≠o.R) H14 H16:=(k15.mono λb z=>z.1).trans (kR.mono λb z=>z.2);obtain⟨pt,ept,hpt⟩:=hr14;refine hN _ _ ⟨_,_,_,li.upd (e':={ e with v:=v,L:=L,t:={ e.t with rows:=srt (e.t.rows++[r]) } }) (rows':=o.t.rows++[r]) a1 a2 kk hS16 en (by show ({ e.t with rows:=srt (e.t.rows++[r]) }:Tb)=_;rw[es,et]) hL15 ⟨_,gR16,cH.app (hus.imp λ_ _ ⟨p,e,hp⟩=>⟨p,e,kk.tk _ _ hp⟩) (.cons ⟨pt,ept,kk.tk _ _ hpt⟩ .nil)⟩ okE (by rw[bAC];show _+1<=12;lia),⟨_,v8 _ m9,rfl⟩,rfl⟩
     ·rw[show decide ((us.length:Int)<12)=false from w6 (by lia)];exact bV (hN _ _ ⟨_,_,_,li,⟨o,ho,rfl⟩,rfl⟩)
  ·obtain⟨es,os,l8,li,⟨o',ho',eo'⟩,rfl⟩:=hJ;refine⟨_,rfl,_,rfl,_,rfl,by show 1<=sizeLine;decide,λp9 H9 hp9 s9 g9=>?_⟩;have li9:=li.same s9;refine⟨_,rfl,x,d,dm,D,p9,m,es,os,[o.n],rfl,li9.y,m1,m6,li9.gP,g9,λn hn=>⟨o',ho',by rw[List.mem_singleton.mp hn];exact eo'⟩,λH10 s10=>⟨_,rfl,bV ?_⟩⟩;exact⟨st2,es,os,_,_,_,_,li9.same s10,rfl⟩
 ·obtain⟨st,es,os,l5,l6,l7,l8,li,rfl⟩:=p;have ll3:=li.l3;refine⟨_,rfl,_,rfl,_,rfl,D,moK os,os.map (·.n),rfl,li.y.md,aBl,by unfold moK;rw[j9];lia,λS5 H9 ss hS5 s9 pm g9=>?_⟩;have li9:=li.same s9;exact⟨_,rfl,x,d,dm,D,S5,m,es,os,ss,rfl,li9.y,m1,m6,li9.gP,g9,xM pm,λH10 s10=>q H10 (s10 _ _ li9.gP)⟩
theorem aYh {fa Pt:Addr}(T:Txt w K mg)(CT:aQe K mg "are_cuts" Pt)(hmg:mg "law"=some (.ref fa)) :
  ∃fd:FuncData,(∀(s:Shared) (u:Value),BindsTo s fd ⟨[u],[]⟩ [("_law_script",u)])/\∀base:Heap,K.In base->base.Ns mainGlobals mg->BM mg base->fQ P w K mg base CX0 15 fa fd ["_law_script"] (aMg K Pt):=by
 obtain⟨f,fd,F,B,m⟩:=T.aZx;have e:fa=f:=by rw[m] at hmg;injection hmg with e;injection e with e;exact e.symm
 subst e;refine⟨fd,?_,λbase hK _ hbm=>?_⟩
 ·obtain⟨⟨oc,od,kV,doc,pm,an,cdv,ct,osl,rfl,lk,hcd⟩,kp⟩:=F;exact λs u=>.of_eq rfl
 ·obtain⟨Tc,D,m0,m1,m3,m4,m5,m6,a1,a2⟩:=T.aX0;obtain⟨Sc,DS,q0,q3,q4,q5,q6,q7,b1,b2,b3⟩:=T.aUp;obtain⟨CN,S,hx,f2⟩:=T.bA9;have c:=D.cls;have cs:=DS.cls;have g1:=aIh (P:=P) (base:=base) T;have g2:=aL4 (P:=P) (base:=base) T;have g3:=aLf T g2;have g4:=aIt T g1 g2;have g5:=aKv T g1;have g6:=aEk (P:=P) (base:=base) T;have nb:=tR T g1;have nms:=aF0 (P:=P) (base:=base) T;have vo:=aAw T g4 g5;have kin:=aK1 (P:=P) (base:=base) T;have cof:=aOv (P:=P) (base:=base) T;have cuts:=aG8 T CT hK hbm (yR T) (aPx T nb) vo;have pl:=aCb T g6 (zA T g3 nms) kin cuts;have irow:=aKl T vo;have tb:=aJd T (aGq T (aEf T g3 g6) (aBp T) (aCc T) nms) pl (aGd T irow);have pt:=wW T (aFt T g1 g3 tb);have tin:=aIk T g3;have ra:=aLa T nb (aFu T (aHm T nms) (aV1 T g1 (zR T)) cof);have n1:=aEh (P:=P) (base:=base) T;have n2:=aCl T n1 (aCq T n1);have rw_:=aHl T n2;have spot:=aF4 (P:=P) (base:=base) T;have span:=aEc (P:=P) (base:=base) T;have mov:=aLb T cs q5 b1 b3 tin;have drp:=aQo T hx cs q4 b1 tin irow (uO T);have no1:Ok P w K mg base 1 "span_rows" ["table","number"] aM9:=Ok.ofV T.aJm aEs (λ_ _ _ _ h=>h.elim) λ_ _ _ _ _ _ _ _ _ _ h=>h.elim;have no2:Ok P w K mg base 1 "is_above" ["row","mark"] aM9:=Ok.ofV T.aKy aH5 (λ_ _ _ _ h=>h.elim) λ_ _ _ _ _ _ _ _ _ _ h=>h.elim;have ini:=OkM.make D (aS9 T c m0 a1 a2 pt);have tn:=aEt T n1 (aFr T n1) (zB T n1 n2) rw_;have std:=aCn T spot (aEn T) span;exact aW7 F T (aD6 T) (aCi T n1 (aCf T)) n1 rw_ (aCv T tn (OkM.make DS (aP4 T cs q0 b1 b2 b3 pt))) (aB9 T std (aSe T cs q7 b1 b2 ini) (aI5 T cs q6 b1 b2 tin ra mov no1 no2) (aPg T c m4 a1 tin) (aSq T c m6 a1 a2 tin ra)) (vC T hx f2 drp) (aV6 T cs q3 b1 tin irow (uO T)) drp
theorem aS2 {Pt:Addr}{H:Hp}{a:Addr}{ns:List Int}{E:XK}(hl:ns.length<=63)(hT:sJ [(Pt,qC)] H)(hS:SqL K H a (ns.map V.int)):aMg K Pt [.ref a] H (λv H'=>v=.bl true/\sJ [(Pt,qC)] H') E:=
 ⟨a,ns,rfl,hS,hl,hT _ (List.mem_singleton.mpr rfl),λH' h=>⟨rfl,λp hp=>by rcases List.mem_singleton.mp hp with rfl;exact h⟩⟩
theorem aXo {h:Heap}{Pt f c:Addr}{o:Obj}{fd:FuncData}(X:K.In h)(G:h.Ns mainGlobals mg)(a:PySem.W.nsIn K mainGlobals "are_cuts"=some (some (.ref f)))(l:K.lookup f=some o)(e1:o.data=.func fd)(e2:fd.code=.ref c)(hh:PySem.W.codeHdIn K c Pt=true):aQe K mg "are_cuts" Pt:=
 ⟨f,o,fd,c,bBX X G a,l,e1,e2,hh⟩
theorem aUs {Pt f c:Addr}{o:Obj}{fd:FuncData}(a:PySem.W.nsIn K mainGlobals "are_cuts"=some (some (.ref f)))(l:K.lookup f=some o)(e1:o.data=.func fd)(e2:fd.code=.ref c)(hh:PySem.W.codeHdIn K c Pt=true)(n:K.lookup Pt=none) :
  ∀p∈[(Pt,qC)],(∃c,PySem.W.codeHdIn K c p.1=true)/\K.lookup p.1=none:=λp hp=>by
 rcases List.mem_singleton.mp hp with rfl;exact⟨⟨c,hh⟩,n⟩
theorem aU6 {Pt:Addr}{h:Heap}(x:∀P∈[Pt],h.get? P=some (PySem.W.tabObj #[])):∀p∈[(Pt,qC)],h.get? p.1=some { cls:=.none,data:=.fields #[] }:=λp hp=>by rcases List.mem_singleton.mp hp with rfl;exact x _ (List.mem_singleton.mpr rfl)
theorem aOc {l:PySem.W.OpenLaw}{n k:Nat}{q:Program}{loose:List Str}{XP:(bEW)->Heap->Prop}{YP:World->Heap->Prop}{d:DefRec}{K:Params->bET}{CX:CXT}{sp:bET->Sp}{x:Str}
  (hn:l.most=some n) (hn2:n<=sizeLine) (hdf:d.params.defaults=[]) (hr:Room k callerA)
  (ts:List (Addr × Str)) (hnd:(ts.map (·.1)).Nodup)
  (hY:∀(w:World) (h:Heap),YP w h->(K w.params).In h/\∀p∈ts,h.get? p.1=some { cls:=.none,data:=.fields #[] })
  (hC:∀(w:World),∀p∈ts,(∃c,PySem.W.codeHdIn (K w.params) c p.1=true)/\(K w.params).lookup p.1=none)
  (F:∀(w:World) (mg:bEW) (fa:Addr) (h:Heap),(K w.params).In h->h.Ns mainGlobals mg->mg d.name=some (.ref fa) ->
   ∃fd:FuncData,(∀(s:Shared) (u:Value),BindsTo s fd ⟨[u],[]⟩ [(x,u)]) /\
    ∀base:Heap,(K w.params).In base->base.Ns mainGlobals mg->BM mg base->fQ l.prog w (K w.params) mg base CX k fa fd [x] (sp (K w.params)))
  (hsp:∀(K:bET) (H:Hp) (a:Addr) (ns:List Int),ns.length<=n->sJ ts H->SqL K H a (ns.map V.int)->sp K [.ref a] H (λv H'=>v=.bl true/\sJ ts H') λ_ _ _=>False)
  (hCX:∀(H:Hp) (s:Shared) (e:Value) (s':Shared),CX [] H s (λ_ _ _=>False) e s'->False) :
  PySem.W.WalkO q loose XP YP l.row.toRowW d [] (λf vs=>PySem.call f vs):=
 aSy (K:=K) (CX:=λ_=>CX) (sp:=λw=>sp (K w.params)) hn hn2 hdf hr ts hnd hY hC F (λw H a ns h1 h2 h3=>hsp (K w.params) H a ns h1 h2 h3) λ_ H s e s'=>hCX H s e s'
end
inductive FA (K:bET)(n:Str)(s:Stmt)(f:Addr):Prop
 |mk {od an:Option Addr} {sl:Array (Option Value)} {kV dc pm cd ct:Value}:PySem.W.nsIn K mainGlobals n=some (some (.ref f))->K.lookup f=some ⟨.type "function",od,.func (PySem.W.fnOf n n (jX s) (cX s) (aF s) .none kV dc pm an cd ct),sl⟩->PySem.W.codeIn K cd n=true->PySem.W.keepIn K (.ref f)=true->FA K n s f
section
variable {K:bET}{h:Heap}{mg:bEW}{n:Str}{s:Stmt}{f:Addr}{ps:List Str}
theorem aWx (X:K.In h)(G:h.Ns mainGlobals mg)(a:FA K n s f):mg n=some (.ref f):=by obtain⟨a,_,_,_⟩:=a;exact bBX X G a
theorem bQ (X:K.In h)(G:h.Ns mainGlobals mg)(a:FA K n s f)(b:∀(kV doc pm:Value) (an:Option Addr) (cdv ct:Value) (us:List Value),us.length=ps.length->bindArgs (PySem.W.fnOf n n (jX s) (cX s) (aF s) .none kV doc pm an cdv ct) ⟨us,[]⟩=pure (ps.zip us)):Dn K mg n s ps:=by have m:=aWx X G a;obtain⟨_,l,c,k⟩:=a;exact⟨f,_,xH l c k,(xH l c k).binds b,m⟩
theorem aZs (X:K.In h)(G:h.Ns mainGlobals mg)(a:FA K n s f):∃f o,(∃u,mg n=some u/\RelV (.ref f) u)/\K.lookup f=some o/\o.cls=.type "function":=by have m:=aWx X G a;obtain⟨_,l,c,k⟩:=a;exact⟨f,_,⟨_,m,rfl⟩,l,rfl⟩
end
inductive CA (K:bET)(x:Str)(C:Addr):Prop
 |mk:PySem.W.nsIn K mainGlobals x=some (some (.ref C))->PySem.W.plainGet K C Str.empty=true->PySem.W.hasDictIn K C=true->PySem.W.plainOver K C=true->PySem.W.findIn K (.ref C) "__setattr__"=some (some (.builtin "object.__setattr__"))->PySem.W.makesIn K C=true->PySem.W.keepIn K (.ref C)=true->CA K x C
theorem aWs {K:bET}{h:Heap}{mg:bEW}{x:Str}{C:Addr}(X:K.In h)(G:h.Ns mainGlobals mg)(a:CA K x C):aVd K mg x C:=by obtain⟨a,p1,p2,p3,p4,p5,p6⟩:=a;exact⟨bBX X G a,⟨p1,p2,p3,p4⟩,p5,p6⟩
inductive MA (K:bET)(C:Addr)(m qual:Str)(s:Stmt)(f:Addr):Prop
 |mk {od an:Option Addr} {sl:Array (Option Value)} {kV dc pm cd ct:Value}:PySem.W.findIn K (.ref C) m=some (some (.ref f))->PySem.W.isFn K (.ref f)=true->K.lookup f=some ⟨.type "function",od,.func (PySem.W.fnOf m qual (jX s) (cX s) (aF s) .none kV dc pm an cd ct),sl⟩->PySem.W.codeIn K cd qual=true->PySem.W.keepIn K (.ref f)=true->MA K C m qual s f
theorem pK {K:bET}{C:Addr}{m qual:Str}{s:Stmt}{f:Addr}{ps:List Str}(a:MA K C m qual s f)(b:∀(kV doc pm:Value) (an:Option Addr) (cdv ct:Value) (us:List Value),us.length=ps.length->bindArgs (PySem.W.fnOf m qual (jX s) (cX s) (aF s) .none kV doc pm an cdv ct) ⟨us,[]⟩=pure (ps.zip us)):kO K C m qual s ps:=by obtain⟨a,i,l,c,k⟩:=a;exact⟨f,_,⟨a,i,k⟩,xH l c k,(xH l c k).binds b⟩
theorem ln0 {P:List Value->Prop}(h:P []):∀us:List Value,us.length=0->P us
 |[],_=>h
theorem ln1 {P:List Value->Prop}(h:∀a0,P [a0]):∀us:List Value,us.length=1->P us
 |[a0],_=>h a0
theorem ln2 {P:List Value->Prop}(h:∀a0 a1,P [a0,a1]):∀us:List Value,us.length=2->P us
 |[a0,a1],_=>h a0 a1
theorem ln3 {P:List Value->Prop}(h:∀a0 a1 a2,P [a0,a1,a2]):∀us:List Value,us.length=3->P us
 |[a0,a1,a2],_=>h a0 a1 a2
theorem ln4 {P:List Value->Prop}(h:∀a0 a1 a2 a3,P [a0,a1,a2,a3]):∀us:List Value,us.length=4->P us
 |[a0,a1,a2,a3],_=>h a0 a1 a2 a3
theorem ln5 {P:List Value->Prop}(h:∀a0 a1 a2 a3 a4,P [a0,a1,a2,a3,a4]):∀us:List Value,us.length=5->P us
 |[a0,a1,a2,a3,a4],_=>h a0 a1 a2 a3 a4
theorem ln6 {P:List Value->Prop}(h:∀a0 a1 a2 a3 a4 a5,P [a0,a1,a2,a3,a4,a5]):∀us:List Value,us.length=6->P us
 |[a0,a1,a2,a3,a4,a5],_=>h a0 a1 a2 a3 a4 a5
local macro_rules
 |`(tactic| trivial)=>`(tactic| first|exact (λ_ _ _ _ _ _=>ln1 λ_=>rfl)|exact (λ_ _ _ _ _ _=>ln2 λ_ _=>rfl)|exact (λ_ _ _ _ _ _=>ln3 λ_ _ _=>rfl)|exact (λ_ _ _ _ _ _=>ln4 λ_ _ _ _=>rfl)|exact (λ_ _ _ _ _ _=>ln0 rfl)|exact (λ_ _ _ _ _ _=>ln5 λ_ _ _ _ _=>rfl)|exact (λ_ _ _ _ _ _=>ln6 λ_ _ _ _ _ _=>rfl))
inductive XA (K:bET)(x:Str)(C S fI:Addr):Prop
 |mk {nm q:Str} {N:Addr} {bs bm:List Value} {sn:List Str} {sub:List Value} {ab:Bool} {col:Option Bool} {dd:Option Addr} {k0 k1 k2 k3 k5:Option Value} {cd:ClassData} {od an:Option Addr} {sl:Array (Option Value)} {kV dc pm cdv ct:Value} :
  PySem.W.nsIn K mainGlobals x=some (some (.ref C))->PySem.W.nsIn K mainGlobals "ShardError"=some (some (.ref S)) ->
  K.lookup C=some (excClassObj nm q C N bs bm true sn sub ab col dd k0 k1 k2 k3 k5 "ValueError.__new__") ->
  bm.contains (.type "ValueError")=true->bm.contains (.type "AttributeError")=false->bm.contains (.type "NameError")=false->bm.contains (.type "BaseException")=true ->
  PySem.W.clsIn K C=some cd->(aIw cd.mro && cd.hasDict)=true ->
  PySem.W.findIn K (.ref C) "__init__"=some (some (.ref fI))->PySem.W.typeIn K (.ref fI)=some (.type "function") ->
  PySem.W.findIn K (.ref C) "__setattr__"=some (some (.builtin "object.__setattr__"))->PySem.W.findIn K (.ref C) "__getattribute__"=some (some (.builtin "BaseException.__getattribute__")) ->
  PySem.W.findIn K (.ref C) "__getattr__"=some none->PySem.W.findIn K (.ref C) "act"=some none->PySem.W.findIn K (.ref C) "__class__"=some (some (.builtin "object.__class__")) ->
  K.lookup fI=some ⟨.type "function",od,.func (PySem.W.fnOf "__init__" "ShardError.__init__" (jX mV) (cX mV) (aF mV) .none kV dc pm an cdv ct),sl⟩ ->
  PySem.W.codeIn K cdv "ShardError.__init__"=true->PySem.W.keepIn K (.ref fI)=true->PySem.W.keepIn K (.ref C)=true->PySem.W.typeIn K (.ref C)=some (.type "type") ->
  PySem.W.mroIn K C (.type "BaseException")=some true->PySem.W.mroIn K C (.ref S)=some true->PySem.W.mroIn K C (.ref C)=some true->XA K x C S fI
theorem bAo {K:bET}{h:Heap}{mg:bEW}{x:Str}{C S fI:Addr}(X:K.In h)(G:h.Ns mainGlobals mg)(a:XA K x C S fI):∃C S,ExT K mg mV x "ShardError.__init__" C S/\PySem.W.mroIn K C (.ref C)=some true:=by obtain⟨y0,y1,y3,r0,r1,r2,r3,y4,r4,y5,y6,y7,y8,y9,y10,y11,y12,y13,y14,y15,y16,y17,y18,y20⟩:=a;exact⟨C,S,⟨⟨fI,_,⟨⟨_,_,_,_,_,_,_,_,_,_,_,_,_,_,_,y3,r0,r1,r2,r3⟩,y5,y6,by rw[y4];exact r4,y7,y8,y9,y10,y11⟩,xH y12 y13 y14,(xH y12 y13 y14).binds λ_ _ _ _ _ _=>ln2 λ_ _=>rfl⟩,bBX X G y0,y15,⟨y16,by rw[y4];rfl,y17⟩,y18⟩,y20⟩
theorem aXe {K:bET}{h:Heap}{mg:bEW}(X:K.In h)(G:h.Ns mainGlobals mg){w:World}{f0 f1 f2 f3 f4 f5 f6 f7 f8 f9 f10 f11 f12 f13 f14 f15 f16 f17 f18 f19 f20 f21 f22 f23 f24 f25 f26 f27 f28 f29 f36 f37 f38 f45 f46 f47 f48 f49 f50 f51 f52 f53 f54 f55 f56 f57 f58 f59 f60 f61 f62:Addr}{mH:Addr}{eO:Obj}{mC:Array Value}{vG:Nat}{aKf:Tok}{aIz:Addr}{uP:Obj}{aHx:Array Value}{aRc:Nat}{yS:Tok}{yW:Tok}{aFp:Tok}{aB2:Tok}{aFb:Tok}{C_Town:Addr}{g0 g1 g2 g3 g4 g5:Addr}{C_Store:Addr}{g6 g7 g8 g9 g10 g11:Addr}{xC xS xI:Addr}
  (a0:FA K "is_whole" tM f0)
  (a1:FA K "is_number_below" iB f1)
  (a2:FA K "is_word" wO f2)
  (a3:FA K "is_one_of" qD f3)
  (a4:FA K "is_tuple_of" fK f4)
  (a5:FA K "are_unlike" pG f5)
  (a6:FA K "names_of" tX f6)
  (a7:FA K "is_name" xK f7)
  (a8:FA K "is_value" uC f8)
  (a9:FA K "kind_of" wV f9)
  (a10:FA K "is_value_of" mQ f10)
  (a11:FA K "is_column" pQ f11)
  (a12:FA K "is_head" wG f12)
  (a13:FA K "is_row" aAy f13)
  (a14:FA K "word_number" mU f14)
  (a15:FA K "home" aMd f15)
  (a16:FA K "kind_in" xF f16)
  (a17:FA K "place_of" tH f17)
  (a18:FA K "is_cut" aAh f18)
  (a19:FA K "are_cuts" nZ f19)
  (a20:FA K "is_column_in" lH f20)
  (a21:FA K "is_placing" pF f21)
  (a22:FA K "are_rows" pB f22)
  (a23:FA K "is_table" tY f23)
  (a24:FA K "need_town" qQ f24)
  (a25:FA K "placed_tables" jR f25)
  (a26:FA K "table_in" tO f26)
  (a27:FA K "cut_of" aB0 f27)
  (a28:FA K "stands_at" qP f28)
  (a29:FA K "rows_at" rU f29)
  (a36:FA K "with_rows" rE f36)
  (a37:FA K "span_rows" pM f37)
  (a38:FA K "is_above" tE f38)
  (a45:FA K "_law_seed" qU f45)
  (a46:FA K "_law_next" rC f46)
  (a47:FA K "_law_words" oZ f47)
  (a48:FA K "_law_names" jV f48)
  (a49:FA K "_law_great" nY f49)
  (a50:FA K "_law_value" nR f50)
  (a51:FA K "_law_head" pP f51)
  (a52:FA K "_law_placing" iD f52)
  (a53:FA K "_law_row" oK f53)
  (a54:FA K "_law_town" lZ f54)
  (a55:FA K "_law_home" rD f55)
  (a56:FA K "_law_span" mG f56)
  (a57:FA K "_law_spot" qH f57)
  (a58:FA K "_law_stood" iJ f58)
  (a59:FA K "_law_begun" oW f59)
  (a60:FA K "_law_not_there" jF f60)
  (a61:FA K "_law_right" pH f61)
  (a62:FA K "law" aNu f62)
  (q0:PySem.W.nsIn K mainGlobals "QUESTION_WORDS"=some (some (.ref mH))) (r0:K.lookup mH=some eO) (t0:eO.cls=.type "tuple") (y0:eO.dict=none) (u0:eO.data=.seq mC vG) (v0:Vals [.str "and",.str "by",.str "count",.str "down",.str "first",.str "group",.str "join",.str "keep",.str "least",.str "most",.str "named",.str "on",.str "sum",.str "table",.str "up",.str "where",.str "with"] mC.toList)
  (q1:PySem.W.nsIn K mainGlobals "LETTERS"=some (some (.str "abcdefghijklmnopqrstuvwxyz" aKf)))
  (q2:PySem.W.nsIn K mainGlobals "KINDS"=some (some (.ref aIz))) (r2:K.lookup aIz=some uP) (t2:uP.cls=.type "tuple") (y2:uP.dict=none) (u2:uP.data=.seq aHx aRc) (v2:Vals [.str "number",.str "word"] aHx.toList)
  (q3:PySem.W.nsIn K mainGlobals "MOST_LETTERS"=some (some (.int 8 yS)))
  (q4:PySem.W.nsIn K mainGlobals "MOST_COLUMNS"=some (some (.int 8 yW)))
  (q5:PySem.W.nsIn K mainGlobals "WORD_BASE"=some (some (.int 27 aFp)))
  (q6:PySem.W.nsIn K mainGlobals "MOST_HOUSES"=some (some (.int 6 aB2)))
  (q7:PySem.W.nsIn K mainGlobals "MOST_CUTS"=some (some (.int 8 aFb)))
  (z0:PySem.W.nsIn K mainGlobals "ValueError"=some none)
  (z1:PySem.W.nsIn K mainGlobals "all"=some none)
  (z2:PySem.W.nsIn K mainGlobals "any"=some none)
  (z3:PySem.W.nsIn K mainGlobals "bool"=some none)
  (z4:PySem.W.nsIn K mainGlobals "dict"=some none)
  (z5:PySem.W.nsIn K mainGlobals "enumerate"=some none)
  (z6:PySem.W.nsIn K mainGlobals "int"=some none)
  (z7:PySem.W.nsIn K mainGlobals "isinstance"=some none)
  (z8:PySem.W.nsIn K mainGlobals "len"=some none)
  (z9:PySem.W.nsIn K mainGlobals "list"=some none)
  (z10:PySem.W.nsIn K mainGlobals "range"=some none)
  (z11:PySem.W.nsIn K mainGlobals "set"=some none)
  (z12:PySem.W.nsIn K mainGlobals "sorted"=some none)
  (z13:PySem.W.nsIn K mainGlobals "str"=some none)
  (z14:PySem.W.nsIn K mainGlobals "tuple"=some none)
  (z15:PySem.W.nsIn K mainGlobals "zip"=some none)
  (eTown:CA K "Town" C_Town)
  (b0:MA K C_Town "__init__" "Town.__init__" fZ g0)
  (b1:MA K C_Town "houses" "Town.houses" sS g1)
  (b2:MA K C_Town "placing" "Town.placing" pX g2)
  (b3:MA K C_Town "whole" "Town.whole" jW g3)
  (b4:MA K C_Town "tables" "Town.tables" tD g4)
  (b5:MA K C_Town "part" "Town.part" lX g5)
  (d0:bR K C_Town "placed")
  (d1:bR K C_Town "house_count")
  (eStore:CA K "Store" C_Store)
  (b6:MA K C_Store "__init__" "Store.__init__" eZ g6)
  (b7:MA K C_Store "put" "Store.put" lW g7)
  (b8:MA K C_Store "drop" "Store.drop" jY g8)
  (b9:MA K C_Store "moving" "Store.moving" iV g9)
  (b10:MA K C_Store "stands" "Store.stands" eV g10)
  (b11:MA K C_Store "town" "Store.town" kJ g11)
  (d2:bR K C_Store "placed")
  (d3:bR K C_Store "house_count")
  (d4:bR K C_Store "moves")
  (xa:XA K "NoRow" xC xS xI):Txt w K mg:=
 ⟨bAS X G z0,
  bAS X G z1,
  bAS X G z2,
  bAS X G z3,
  bAS X G z4,
  bAS X G z5,
  bAS X G z6,
  bAS X G z7,
  bAS X G z8,
  bAS X G z9,
  bAS X G z10,
  bAS X G z11,
  bAS X G z12,
  bAS X G z13,
  bAS X G z14,
  bAS X G z15,
  ⟨_,bBX X G q0,λH=>.inr ⟨_,_,_,r0,t0,y0,u0,by have e:=v0.length;simp only[bAA] at e;rw[<-e];exact small (by decide),v0⟩⟩,
  ⟨_,bBX X G q1,_,rfl⟩,
  ⟨_,bBX X G q2,λH=>.inr ⟨_,_,_,r2,t2,y2,u2,by have e:=v2.length;simp only[bAA] at e;rw[<-e];exact small (by decide),v2⟩⟩,
  ⟨_,bBX X G q3,_,rfl⟩,
  ⟨_,bBX X G q4,_,rfl⟩,
  ⟨_,bBX X G q5,_,rfl⟩,
  ⟨_,bBX X G q6,_,rfl⟩,
  ⟨_,bBX X G q7,_,rfl⟩,
  aZs X G a11,
  bQ X G a0 (by trivial),
  bQ X G a1 (by trivial),
  bQ X G a2 (by trivial),
  bQ X G a3 (by trivial),
  bQ X G a4 (by trivial),
  bQ X G a5 (by trivial),
  bQ X G a6 (by trivial),
  bQ X G a7 (by trivial),
  bQ X G a8 (by trivial),
  bQ X G a9 (by trivial),
  bQ X G a10 (by trivial),
  bQ X G a11 (by trivial),
  bQ X G a12 (by trivial),
  bQ X G a13 (by trivial),
  bQ X G a14 (by trivial),
  bQ X G a15 (by trivial),
  bQ X G a16 (by trivial),
  bQ X G a17 (by trivial),
  bQ X G a18 (by trivial),
  bQ X G a19 (by trivial),
  bQ X G a20 (by trivial),
  bQ X G a21 (by trivial),
  bQ X G a22 (by trivial),
  bQ X G a23 (by trivial),
  bQ X G a24 (by trivial),
  bQ X G a25 (by trivial),
  bQ X G a26 (by trivial),
  bQ X G a27 (by trivial),
  bQ X G a28 (by trivial),
  bQ X G a29 (by trivial),
  bQ X G a36 (by trivial),
  bQ X G a37 (by trivial),
  bQ X G a38 (by trivial),
  bQ X G a45 (by trivial),
  bQ X G a46 (by trivial),
  bQ X G a47 (by trivial),
  bQ X G a48 (by trivial),
  bQ X G a49 (by trivial),
  bQ X G a50 (by trivial),
  bQ X G a51 (by trivial),
  bQ X G a52 (by trivial),
  bQ X G a53 (by trivial),
  bQ X G a54 (by trivial),
  bQ X G a55 (by trivial),
  bQ X G a56 (by trivial),
  bQ X G a57 (by trivial),
  bQ X G a58 (by trivial),
  bQ X G a59 (by trivial),
  bQ X G a60 (by trivial),
  bQ X G a61 (by trivial),
  bQ X G a62 (by trivial),
  ⟨C_Town,aWs X G eTown,pK b0 (by trivial),pK b1 (by trivial),pK b2 (by trivial),pK b3 (by trivial),pK b4 (by trivial),pK b5 (by trivial),d0,d1⟩,
  ⟨C_Store,aWs X G eStore,pK b6 (by trivial),pK b7 (by trivial),pK b8 (by trivial),pK b9 (by trivial),pK b10 (by trivial),pK b11 (by trivial),d2,d3,d4⟩,
  bAo X G xa⟩
end My
open PySem PySem.W PyProof.Rows
namespace PySem.W.Fast
def tw10942632226535659522:=0
def tw2900523158555813648:=0
def tw304858123315402607:=0
def tw3831389324160210462:=0
def tw14855385124580727895:=0
def tw10468868933823945328:=0
def tw4405793158257500405:=0
def tw7240469799627217513:=0
def tw18141019318265176380:=0
def tw5079778885681360139:=0
def tw8475008218862311791:=0
def tw14023174279197508195:=0
def tw12199446582838187195:=0
def tw11416677585730298212:=0
def tw8941293296019613230:=0
def tw14001529216055905822:=0
def tw10246148802358438826:=0
def tw4103865427426786043:=0
def tw12555254166444314554:=0
def tw16125699855366080441:=0
def tw16758075431241336070:=0
def tw15928106473986104869:=0
def tw2195644117720980592:=0
def tw13046020535206050381:=0
def tw5969508417876740700:=0
def tw5978302471913242821:=0
def tw18130330972212890160:=0
def tw4559071492087328603:=0
def tw4998814317991522276:=0
def tw14341303121819366782:=0
def tw1733941108884095935:=0
def tw1778801658717795117:=0
def tw7601598071933483985:=0
def tw4913925490674423294:=0
def tw16601060881625522274:=0
def tw6246224896755123409:=0
def tw14061185687229694175:=0
def tw17731434532636473935:=0
def tw1333757113960331045:=0
def tw12040390803292992304:=0
def tw9517001094799952357:=0
def tw5086865208800727663:=0
def tw10595629604750753351:=0
def tw2979616627386179189:=0
def tw1259110708790700204:=0
def tw11776407051167746404:=0
def tw460593870661959929:=0
def tw16887125886135372151:=0
def tw13584611526798973106:=0
def tw5327017735060788131:=0
def tw6925016878787109280:=0
def tw13501112702078388753:=0
def tw194086390543290063:=0
def tw12626142233470756042:=0
def tw8428307941585374707:=0
def tw9570316184664056205:=0
def tw15565648099357954023:=0
def tw14624988898908440386:=0
def tw14308525433160024869:=0
def tw16816137738328713267:=0
def tw4913328218163001574:=0
def tw14054961834090625764:=0
def tw12563523368164498516:=0
def tw3372940356767243398:=0
def tw12383743564643931604:=0
def tw15694601642560656876:=0
def tw6208388037076517400:=0
def tw3922935321675691072:=0
def tw2283334604589419940:=0
def tw1250586889133266815:=0
def tw14762302953520557148:=0
def tw5426617460278305337:=0
def tw11489872855396875652:=0
def tw8177736559726841990:=0
def tw16650171753184847033:=0
def tw2862362736435531892:=0
def tw8741308105562296668:=0
def tw17837940717671840119:=0
def tw8161021480547805901:=0
def tw11133853183666214673:=0
def tw13451507954625466747:=0
def tw3096402678459046917:=0
def tw8964341575794220115:=0
def tw4452970223329089874:=0
def tw3371415122859054760:=0
def tw14889608763854480726:=0
def tw14143222770080654979:=0
def tw5548193500715834366:=0
def tw13681535015026216382:=0
def tw14836590443157622215:=0
def tw8189919477020776156:=0
def tw800737194866611107:=0
def tw7445596378684352823:=0
def tw8728215201741023966:=0
def tw7215611672572509755:=0
def tw13115121684873129669:=0
def tw17422662994928486904:=0
def tw9292740061674440500:=0
def tw7668548291964585381:=0
def tw17621359879828959638:=0
def tw7223385045772759762:=0
def tw4262269769081033854:=0
def tw1259509290388363460:=0
def tw9238204157862332972:=0
def tw603368364776586090:=0
def tw5742967316730497196:=0
def tw15411023598366016144:=0
def tw15307172989541462703:=0
def tw13370375793946841484:=0
def tw896150507810670129:=0
def tw1567455931532226410:=0
def tw8594093149530611285:=0
def tw13432954364447407245:=0
def tw9343701513338350367:=0
def tw4584233405632434030:=0
def tw2441585399455307270:=0
def tw18017820236632792212:=0
def tw12913728285233896943:=0
def tw1826399345767746515:=0
def tw13983876374311282621:=0
def tw10924251156522279630:=0
def tw3838099405835664020:=0
def tw3971009337880391900:=0
def tw3067724360245291430:=0
def tw7551183440158527899:=0
def tw15569706833088580797:=0
def tw18348116746255154554:=0
def tw9333578444120623390:=0
def tw12374800293519965858:=0
def tw3619431044840867583:=0
def tw5216524563800872144:=0
def tw12445555018004366308:=0
def tw8351286447315193664:=0
def tw16429755480495628281:=0
def tw17642836637398768425:=0
def tw5618016725632306396:=0
def tw11758350244071704225:=0
def tw10035451469815592453:=0
def tw12534287050266607950:=0
def tw11826461170265391214:=0
def tw12956355392562407236:=0
def tw14471024768245605884:=0
def tw7281694349630255291:=0
def tw6333531489908236167:=0
def tw14439826237942953949:=0
def tw8603496554180601576:=0
def tw10248719168570775462:=0
def tw11640158529028294223:=0
def tw1682777788513755016:=0
def tw14735127555641013366:=0
def tw3827534185093258687:=0
def tw17285941477319652172:=0
def tw18083326428824869355:=0
def tw10684573740087495250:=0
def tw2841431238308450725:=0
def tw1934630160258941930:=0
def tw11055090748331167397:=0
def tw4989106338926668574:=0
def tw9673813233913983895:=0
def tw1388349737596739887:=0
end PySem.W.Fast
set_option maxRecDepth 100000 in
set_option maxHeartbeats 0 in
theorem PySem.Challenge.cw_shardask_k60_put_and_drop_holds : PySem.Challenge.rw_shardask_k60_put_and_drop.Holds := by
 w_on;o_law;k_head;(case hw=>w_witness2)
 k_fill
 refine My.aOc (l:=PySem.Challenge.rw_shardask_k60_put_and_drop) (n:=63) (k:=15) (x:="_law_script") (CX:=L2.CX0) (sp:=fun K=>My.aMg K 230) rfl (by decide) rfl ⟨rfl,by decide,by decide⟩ [(230,My.qC)] (by decide) (fun w h Y=>⟨PySem.W.km_in_of Y,My.aU6 (PySem.W.km_tabs_of Y)⟩) ?C ?F (fun K H a ns hl hO hS=>My.aS2 hl hO hS) (fun _ _ _ _ z=>z)
 case C=>
  intro w
  refine' My.aUs ?a ?l ?e1 ?e2 ?h ?n
  (case a=>k_is)
  (case l=>k_is)
  (case e1=>rfl)
  (case e2=>rfl)
  (case h=>first|k_is|kernel_rfl|decide +kernel)
  (case n=>first|k_is|kernel_rfl|decide +kernel)
 case F=>
  intro w mg fa h KX G hmg
  have T:My.Txt w (L2.KOf KX) mg:=by
   dsimp only [L2.KOf]
   refine' My.aXe KX G ?a0 ?a1 ?a2 ?a3 ?a4 ?a5 ?a6 ?a7 ?a8 ?a9 ?a10 ?a11 ?a12 ?a13 ?a14 ?a15 ?a16 ?a17 ?a18 ?a19 ?a20 ?a21 ?a22 ?a23 ?a24 ?a25 ?a26 ?a27 ?a28 ?a29 ?a36 ?a37 ?a38 ?a45 ?a46 ?a47 ?a48 ?a49 ?a50 ?a51 ?a52 ?a53 ?a54 ?a55 ?a56 ?a57 ?a58 ?a59 ?a60 ?a61 ?a62 ?q0 ?r0 ?t0 ?y0 ?u0 ?v0 ?q1 ?q2 ?r2 ?t2 ?y2 ?u2 ?v2 ?q3 ?q4 ?q5 ?q6 ?q7 ?z0 ?z1 ?z2 ?z3 ?z4 ?z5 ?z6 ?z7 ?z8 ?z9 ?z10 ?z11 ?z12 ?z13 ?z14 ?z15 ?eTown ?b0 ?b1 ?b2 ?b3 ?b4 ?b5 ?d0 ?d1 ?eStore ?b6 ?b7 ?b8 ?b9 ?b10 ?b11 ?d2 ?d3 ?d4 ?xa
   (case a0=>(refine' My.FA.mk ?j0 ?l0 ?c0 ?k0);(case j0=>k_is);(case l0=>k_is);(case c0=>k_is);(case k0=>k_is))
   (case a1=>(refine' My.FA.mk ?j1 ?l1 ?c1 ?k1);(case j1=>k_is);(case l1=>k_is);(case c1=>k_is);(case k1=>k_is))
   (case a2=>(refine' My.FA.mk ?j2 ?l2 ?c2 ?k2);(case j2=>k_is);(case l2=>k_is);(case c2=>k_is);(case k2=>k_is))
   (case a3=>(refine' My.FA.mk ?j3 ?l3 ?c3 ?k3);(case j3=>k_is);(case l3=>k_is);(case c3=>k_is);(case k3=>k_is))
   (case a4=>(refine' My.FA.mk ?j4 ?l4 ?c4 ?k4);(case j4=>k_is);(case l4=>k_is);(case c4=>k_is);(case k4=>k_is))
   (case a5=>(refine' My.FA.mk ?j5 ?l5 ?c5 ?k5);(case j5=>k_is);(case l5=>k_is);(case c5=>k_is);(case k5=>k_is))
   (case a6=>(refine' My.FA.mk ?j6 ?l6 ?c6 ?k6);(case j6=>k_is);(case l6=>k_is);(case c6=>k_is);(case k6=>k_is))
   (case a7=>(refine' My.FA.mk ?j7 ?l7 ?c7 ?k7);(case j7=>k_is);(case l7=>k_is);(case c7=>k_is);(case k7=>k_is))
   (case a8=>(refine' My.FA.mk ?j8 ?l8 ?c8 ?k8);(case j8=>k_is);(case l8=>k_is);(case c8=>k_is);(case k8=>k_is))
   (case a9=>(refine' My.FA.mk ?j9 ?l9 ?c9 ?k9);(case j9=>k_is);(case l9=>k_is);(case c9=>k_is);(case k9=>k_is))
   (case a10=>(refine' My.FA.mk ?j10 ?l10 ?c10 ?k10);(case j10=>k_is);(case l10=>k_is);(case c10=>k_is);(case k10=>k_is))
   (case a11=>(refine' My.FA.mk ?j11 ?l11 ?c11 ?k11);(case j11=>k_is);(case l11=>k_is);(case c11=>k_is);(case k11=>k_is))
   (case a12=>(refine' My.FA.mk ?j12 ?l12 ?c12 ?k12);(case j12=>k_is);(case l12=>k_is);(case c12=>k_is);(case k12=>k_is))
   (case a13=>(refine' My.FA.mk ?j13 ?l13 ?c13 ?k13);(case j13=>k_is);(case l13=>k_is);(case c13=>k_is);(case k13=>k_is))
   (case a14=>(refine' My.FA.mk ?j14 ?l14 ?c14 ?k14);(case j14=>k_is);(case l14=>k_is);(case c14=>k_is);(case k14=>k_is))
   (case a15=>(refine' My.FA.mk ?j15 ?l15 ?c15 ?k15);(case j15=>k_is);(case l15=>k_is);(case c15=>k_is);(case k15=>k_is))
   (case a16=>(refine' My.FA.mk ?j16 ?l16 ?c16 ?k16);(case j16=>k_is);(case l16=>k_is);(case c16=>k_is);(case k16=>k_is))
   (case a17=>(refine' My.FA.mk ?j17 ?l17 ?c17 ?k17);(case j17=>k_is);(case l17=>k_is);(case c17=>k_is);(case k17=>k_is))
   (case a18=>(refine' My.FA.mk ?j18 ?l18 ?c18 ?k18);(case j18=>k_is);(case l18=>k_is);(case c18=>k_is);(case k18=>k_is))
   (case a19=>(refine' My.FA.mk ?j19 ?l19 ?c19 ?k19);(case j19=>k_is);(case l19=>k_is);(case c19=>k_is);(case k19=>k_is))
   (case a20=>(refine' My.FA.mk ?j20 ?l20 ?c20 ?k20);(case j20=>k_is);(case l20=>k_is);(case c20=>k_is);(case k20=>k_is))
   (case a21=>(refine' My.FA.mk ?j21 ?l21 ?c21 ?k21);(case j21=>k_is);(case l21=>k_is);(case c21=>k_is);(case k21=>k_is))
   (case a22=>(refine' My.FA.mk ?j22 ?l22 ?c22 ?k22);(case j22=>k_is);(case l22=>k_is);(case c22=>k_is);(case k22=>k_is))
   (case a23=>(refine' My.FA.mk ?j23 ?l23 ?c23 ?k23);(case j23=>k_is);(case l23=>k_is);(case c23=>k_is);(case k23=>k_is))
   (case a24=>(refine' My.FA.mk ?j24 ?l24 ?c24 ?k24);(case j24=>k_is);(case l24=>k_is);(case c24=>k_is);(case k24=>k_is))
   (case a25=>(refine' My.FA.mk ?j25 ?l25 ?c25 ?k25);(case j25=>k_is);(case l25=>k_is);(case c25=>k_is);(case k25=>k_is))
   (case a26=>(refine' My.FA.mk ?j26 ?l26 ?c26 ?k26);(case j26=>k_is);(case l26=>k_is);(case c26=>k_is);(case k26=>k_is))
   (case a27=>(refine' My.FA.mk ?j27 ?l27 ?c27 ?k27);(case j27=>k_is);(case l27=>k_is);(case c27=>k_is);(case k27=>k_is))
   (case a28=>(refine' My.FA.mk ?j28 ?l28 ?c28 ?k28);(case j28=>k_is);(case l28=>k_is);(case c28=>k_is);(case k28=>k_is))
   (case a29=>(refine' My.FA.mk ?j29 ?l29 ?c29 ?k29);(case j29=>k_is);(case l29=>k_is);(case c29=>k_is);(case k29=>k_is))
   (case a36=>(refine' My.FA.mk ?j36 ?l36 ?c36 ?k36);(case j36=>k_is);(case l36=>k_is);(case c36=>k_is);(case k36=>k_is))
   (case a37=>(refine' My.FA.mk ?j37 ?l37 ?c37 ?k37);(case j37=>k_is);(case l37=>k_is);(case c37=>k_is);(case k37=>k_is))
   (case a38=>(refine' My.FA.mk ?j38 ?l38 ?c38 ?k38);(case j38=>k_is);(case l38=>k_is);(case c38=>k_is);(case k38=>k_is))
   (case a45=>(refine' My.FA.mk ?j45 ?l45 ?c45 ?k45);(case j45=>k_is);(case l45=>k_is);(case c45=>k_is);(case k45=>k_is))
   (case a46=>(refine' My.FA.mk ?j46 ?l46 ?c46 ?k46);(case j46=>k_is);(case l46=>k_is);(case c46=>k_is);(case k46=>k_is))
   (case a47=>(refine' My.FA.mk ?j47 ?l47 ?c47 ?k47);(case j47=>k_is);(case l47=>k_is);(case c47=>k_is);(case k47=>k_is))
   (case a48=>(refine' My.FA.mk ?j48 ?l48 ?c48 ?k48);(case j48=>k_is);(case l48=>k_is);(case c48=>k_is);(case k48=>k_is))
   (case a49=>(refine' My.FA.mk ?j49 ?l49 ?c49 ?k49);(case j49=>k_is);(case l49=>k_is);(case c49=>k_is);(case k49=>k_is))
   (case a50=>(refine' My.FA.mk ?j50 ?l50 ?c50 ?k50);(case j50=>k_is);(case l50=>k_is);(case c50=>k_is);(case k50=>k_is))
   (case a51=>(refine' My.FA.mk ?j51 ?l51 ?c51 ?k51);(case j51=>k_is);(case l51=>k_is);(case c51=>k_is);(case k51=>k_is))
   (case a52=>(refine' My.FA.mk ?j52 ?l52 ?c52 ?k52);(case j52=>k_is);(case l52=>k_is);(case c52=>k_is);(case k52=>k_is))
   (case a53=>(refine' My.FA.mk ?j53 ?l53 ?c53 ?k53);(case j53=>k_is);(case l53=>k_is);(case c53=>k_is);(case k53=>k_is))
   (case a54=>(refine' My.FA.mk ?j54 ?l54 ?c54 ?k54);(case j54=>k_is);(case l54=>k_is);(case c54=>k_is);(case k54=>k_is))
   (case a55=>(refine' My.FA.mk ?j55 ?l55 ?c55 ?k55);(case j55=>k_is);(case l55=>k_is);(case c55=>k_is);(case k55=>k_is))
   (case a56=>(refine' My.FA.mk ?j56 ?l56 ?c56 ?k56);(case j56=>k_is);(case l56=>k_is);(case c56=>k_is);(case k56=>k_is))
   (case a57=>(refine' My.FA.mk ?j57 ?l57 ?c57 ?k57);(case j57=>k_is);(case l57=>k_is);(case c57=>k_is);(case k57=>k_is))
   (case a58=>(refine' My.FA.mk ?j58 ?l58 ?c58 ?k58);(case j58=>k_is);(case l58=>k_is);(case c58=>k_is);(case k58=>k_is))
   (case a59=>(refine' My.FA.mk ?j59 ?l59 ?c59 ?k59);(case j59=>k_is);(case l59=>k_is);(case c59=>k_is);(case k59=>k_is))
   (case a60=>(refine' My.FA.mk ?j60 ?l60 ?c60 ?k60);(case j60=>k_is);(case l60=>k_is);(case c60=>k_is);(case k60=>k_is))
   (case a61=>(refine' My.FA.mk ?j61 ?l61 ?c61 ?k61);(case j61=>k_is);(case l61=>k_is);(case c61=>k_is);(case k61=>k_is))
   (case a62=>(refine' My.FA.mk ?j62 ?l62 ?c62 ?k62);(case j62=>k_is);(case l62=>k_is);(case c62=>k_is);(case k62=>k_is))
   (case q0=>k_is)
   (case r0=>k_is)
   (case t0=>rfl)
   (case y0=>rfl)
   (case u0=>rfl)
   (case v0=>repeat (first|exact L2.aBd|refine L2.lY rfl ?_|refine L2.lY ⟨_,rfl⟩ ?_))
   (case q1=>k_is)
   (case q2=>k_is)
   (case r2=>k_is)
   (case t2=>rfl)
   (case y2=>rfl)
   (case u2=>rfl)
   (case v2=>repeat (first|exact L2.aBd|refine L2.lY rfl ?_|refine L2.lY ⟨_,rfl⟩ ?_))
   (case q3=>k_is)
   (case q4=>k_is)
   (case q5=>k_is)
   (case q6=>k_is)
   (case q7=>k_is)
   (case z0=>k_is)
   (case z1=>k_is)
   (case z2=>k_is)
   (case z3=>k_is)
   (case z4=>k_is)
   (case z5=>k_is)
   (case z6=>k_is)
   (case z7=>k_is)
   (case z8=>k_is)
   (case z9=>k_is)
   (case z10=>k_is)
   (case z11=>k_is)
   (case z12=>k_is)
   (case z13=>k_is)
   (case z14=>k_is)
   (case z15=>k_is)
   (case eTown=>(refine' My.CA.mk ?j ?p1 ?p2 ?p3 ?p4 ?p5 ?p6);(case j=>k_is);(case p1=>first|k_is|kernel_rfl|decide +kernel);(case p2=>first|k_is|kernel_rfl|decide +kernel);(case p3=>first|k_is|kernel_rfl|decide +kernel);(case p4=>first|k_is|kernel_rfl|decide +kernel);(case p5=>first|k_is|kernel_rfl|decide +kernel);(case p6=>first|k_is|kernel_rfl|decide +kernel))
   (case b0=>(refine' My.MA.mk ?j ?i ?l ?c ?k);(case j=>k_is);(case i=>first|k_is|kernel_rfl|decide +kernel);(case l=>k_is);(case c=>k_is);(case k=>k_is))
   (case b1=>(refine' My.MA.mk ?j ?i ?l ?c ?k);(case j=>k_is);(case i=>first|k_is|kernel_rfl|decide +kernel);(case l=>k_is);(case c=>k_is);(case k=>k_is))
   (case b2=>(refine' My.MA.mk ?j ?i ?l ?c ?k);(case j=>k_is);(case i=>first|k_is|kernel_rfl|decide +kernel);(case l=>k_is);(case c=>k_is);(case k=>k_is))
   (case b3=>(refine' My.MA.mk ?j ?i ?l ?c ?k);(case j=>k_is);(case i=>first|k_is|kernel_rfl|decide +kernel);(case l=>k_is);(case c=>k_is);(case k=>k_is))
   (case b4=>(refine' My.MA.mk ?j ?i ?l ?c ?k);(case j=>k_is);(case i=>first|k_is|kernel_rfl|decide +kernel);(case l=>k_is);(case c=>k_is);(case k=>k_is))
   (case b5=>(refine' My.MA.mk ?j ?i ?l ?c ?k);(case j=>k_is);(case i=>first|k_is|kernel_rfl|decide +kernel);(case l=>k_is);(case c=>k_is);(case k=>k_is))
   (case d0=>(unfold L2.bR);k_is)
   (case d1=>(unfold L2.bR);k_is)
   (case eStore=>(refine' My.CA.mk ?j ?p1 ?p2 ?p3 ?p4 ?p5 ?p6);(case j=>k_is);(case p1=>first|k_is|kernel_rfl|decide +kernel);(case p2=>first|k_is|kernel_rfl|decide +kernel);(case p3=>first|k_is|kernel_rfl|decide +kernel);(case p4=>first|k_is|kernel_rfl|decide +kernel);(case p5=>first|k_is|kernel_rfl|decide +kernel);(case p6=>first|k_is|kernel_rfl|decide +kernel))
   (case b6=>(refine' My.MA.mk ?j ?i ?l ?c ?k);(case j=>k_is);(case i=>first|k_is|kernel_rfl|decide +kernel);(case l=>k_is);(case c=>k_is);(case k=>k_is))
   (case b7=>(refine' My.MA.mk ?j ?i ?l ?c ?k);(case j=>k_is);(case i=>first|k_is|kernel_rfl|decide +kernel);(case l=>k_is);(case c=>k_is);(case k=>k_is))
   (case b8=>(refine' My.MA.mk ?j ?i ?l ?c ?k);(case j=>k_is);(case i=>first|k_is|kernel_rfl|decide +kernel);(case l=>k_is);(case c=>k_is);(case k=>k_is))
   (case b9=>(refine' My.MA.mk ?j ?i ?l ?c ?k);(case j=>k_is);(case i=>first|k_is|kernel_rfl|decide +kernel);(case l=>k_is);(case c=>k_is);(case k=>k_is))
   (case b10=>(refine' My.MA.mk ?j ?i ?l ?c ?k);(case j=>k_is);(case i=>first|k_is|kernel_rfl|decide +kernel);(case l=>k_is);(case c=>k_is);(case k=>k_is))
   (case b11=>(refine' My.MA.mk ?j ?i ?l ?c ?k);(case j=>k_is);(case i=>first|k_is|kernel_rfl|decide +kernel);(case l=>k_is);(case c=>k_is);(case k=>k_is))
   (case d2=>(unfold L2.bR);k_is)
   (case d3=>(unfold L2.bR);k_is)
   (case d4=>(unfold L2.bR);k_is)
   (case xa=>(refine' My.XA.mk ?y0 ?y1 ?y3 ?r0 ?r1 ?r2 ?r3 ?y4 ?r4 ?y5 ?y6 ?y7 ?y8 ?y9 ?y10 ?y11 ?y12 ?y13 ?y14 ?y15 ?y16 ?y17 ?y18 ?y20);(case y0=>k_is);(case y1=>k_is);(case y3=>k_is);(case r0=>first|rfl|decide +kernel);(case r1=>first|rfl|decide +kernel);(case r2=>first|rfl|decide +kernel);(case r3=>first|rfl|decide +kernel);(case y4=>k_is);(case r4=>first|rfl|decide +kernel);(case y5=>k_is);(case y6=>k_is);(case y7=>k_is);(case y8=>k_is);(case y9=>k_is);(case y10=>k_is);(case y11=>k_is);(case y12=>k_is);(case y13=>k_is);(case y14=>k_is);(case y15=>k_is);(case y16=>k_is);(case y17=>k_is);(case y18=>k_is);(case y20=>k_is))
  have C:L2.aQe (L2.KOf KX) mg "are_cuts" 230:=by
   dsimp only [L2.KOf]
   refine' My.aXo KX G ?a ?l ?e1 ?e2 ?h
   (case a=>k_is)
   (case l=>k_is)
   (case e1=>rfl)
   (case e2=>rfl)
   (case h=>first|k_is|kernel_rfl|decide +kernel)
  exact My.aYh (P:=PySem.Challenge.rw_shardask_k60_put_and_drop.prog) T C hmg
