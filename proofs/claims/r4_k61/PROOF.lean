import PyProof.Rows.All
import Wide.All
import OpenK.AllK
import Wide.FinOn
import Lean
import PyProof.EqAt
import PyProof.EqKinds
import PyProof.TupleCall
import PyProof.CallType
import PyProof.WalkLemmas
import PyProof.StrOps
import PyProof.ForAny
import PyProof.IsInstanceH
import PyProof.IsiFacts
import PyProof.IsiFacts2
import PyProof.FactsAll.object
import PyProof.ListMulRoad
import PyProof.FactsAll.tuple_2
import PyProof.StrLawsIdx
import KE.KDictList
import PyProof.Rows.Range3
import PyProof.EnumMake
import PyProof.EnumFor
import PyProof.CompUse
import PyProof.ExcClass3
import PyProof.ExcBaseAll.ValueError
import PyProof.InstStoreFacts
import PyProof.ExcArgsOwn
import PyProof.ExcAttrAll.ValueError
import PyProof.ListStr
import PyProof.NeKinds
import PyProof.IsInstanceT
import PyProof.FString5
import PyProof.Rows.SeqMore2
import PyProof.IsiPairs
import PyProof.StrCalls3
import KE.KSortTup
import KE.KSortKey
import PyProof.Rows.SortStr
import KE.KLam
import KE.KDictOf
import KE.KEqDict
import KE.KDictSum
import PyProof.AttrMissHeap
import PyProof.DictWalks
import PyProof.Rows.TupTab
import PyProof.DictItems
import PyProof.FactsAll.set_1
import KE.KRevIter
import PySem.Challenge.RW_shardask_k61_split
set_option Elab.async false
set_option linter.all false
set_option maxRecDepth 100000
set_option maxHeartbeats 6400000
section
open PySem PySem.Spec PySem.Calls PyProof.Rows
def c7:=@wpAny_bind
def d9:=@Heap.get?_push_of_some
def j0:=@List.getElem?_eq_getElem
def j4:=@wpAny_pure
def j5:=@Heap.get?_push_size
def j6:=@Nat.le_refl
def j7:=@List.getD_eq_getElem?_getD
def j8:=@Heap.lt_size
def j9:=@List.size_toArray
def m7:=@List.length_map
def m8:=@List.mem_cons_of_mem
def m9:=@Nat.ne_of_lt
def t6:=@List.mem_cons_self
def t7:=@List.length_cons
def t8:=@List.getElem?_map
def v4:=@Bool.false_ne_true
def v5:=@Array.getElem?_eq_getElem
def v6:=@List.not_mem_nil
def v7:=@Array.getD_eq_getD_getElem?
def v8:=@decide_eq_true
def v9:=@Array.length_toList
def w6:=@List.mem_of_getElem?
def bAA:=@Nat.lt_of_lt_of_le
def bAB:=@List.mem_cons
def bAC:=@List.length_append
def bAD:=@decide_eq_false
def bAE:=@List.length_take
def bAF:=@List.mem_append_right
def bAG:=@wpAny_field
def bAH:=@wpAny_callSpecial?_slot
def bAI:=@wpAny_call_entry
def bAJ:=@wpAny_newObj_type
def bAK:=@wpAny_setField_rec
def bAL:=@Nat.zero_le
def bAM:=@List.length_range
def bAN:=@List.map_cons
def bAO:=@List.getElem?_eq_none
def bAP:=@Bool.and_eq_true
def bAQ:=@Option.some.inj
def bAR:=@Nat.le_trans
def bAS:=@PySem.W.mg_none_of
def bAT:=@Heap.size_push
def bAU:=@Heap.get?_update_self
def bAV:=@wpAny_holding
def bAW:=@List.take_of_length_le
def bAX:=@wpAny_seqItems
def bAY:=@Int.toNat_natCast
def bAZ:=@PyProof.Rows.F.plain_set_update_loop
def bA4:=@wpAny_mono
def bA5:=@List.map_append
def bA6:=@Bool.false_eq_true
def bA7:=@Heap.get?_update_other
def bA8:=@List.length_drop
def bA9:=@List.getElem_mem
def bBA:=@wpAny_truthy_bool
def bBB:=@Nat.lt_succ_of_lt
def bBC:=@List.take_add_one
def bBD:=@Around.under_plainId
def bBE:=@wpAny_Call_Name_kw
def bBF:=@List.append_nil
def bBG:=@codeAny_builtin
def bBH:=@List.length_nil
def bBI:=@Nat.lt_irrefl
def bBJ:=@Heap.SameBut.update
def bBK:=@PyProof.Rows.callWith_type1
def bBL:=@Nat.ne_of_gt
def bBM:=@codeAny_mono
def bBN:=@Nat.le_add_right
def bBO:=@PyProof.Rows.F.entry_set_update_loop
def bBP:=@wpAny_loadPart_at
def bBQ:=@wpAny_setField
def bBR:=@List.eq_of_mem_replicate
def bBS:=@PySem.W.mg_of
def bBT:=@List.find?_cons
def bBU:=@Calls.spliced_cons
def bBV:=@wpAny_attempt
def bBW:=@wpAny_pyIter_list
def bBX:=@List.getElem?_append_right
def bBY:=@List.ext_getElem?
def bBZ:=@List.set_set
def bB0:=@Array.getElem?_eq_none
def bB1:=@List.getElem?_range
def bB2:=@List.getElem_of_mem
def bB3:=@PyProof.Rows.slot_tuple_getitem
def bB4:=@List.getElem?_append_left
def bB5:=@Array.getElem?_toList
def bB6:=@Nat.lt_of_le_of_lt
def bB7:=@List.all_eq_true
def bB8:=@List.take_length
def bB9:=@List.contains_cons
def bCA:=@wpAny_typeNameOfWhole_itemiter
def bCB:=@codeAny_call_builtin
def bCC:=@List.append_assoc
def bCD:=@Bool.eq_iff_iff
def bCE:=@List.forIn_cons
def bCF:=@List.nil_append
def bCG:=@List.mem_map_of_mem
def bCH:=@wpAny_onRaise
def bCI:=@plainId_quiet
def bCJ:=@Nat.lt_succ_self
def bCK:=@List.lookup_cons
def bCL:=@wpAny_isInstance
def bCM:=@wpAny_rule
def bCN:=@List.mem_append_left
def bCO:=@Nat.lt_trans
def bCP:=@wpAny_setState_of
def bCQ:=@wpAny_call
def bCR:=@List.filterMap_cons
def bCS:=@Array.toList_append
def bCT:=@wpAny_isSubtype_exc
def bCU:=@wpAny_setEntries_of
def bCV:=@wpAny_askSetting
def bCW:=@Nat.le_succ
def bCX:=@Nat.le_of_lt
def bCY:=@Calls.callWith_builtin
def bCZ:=@Obj.data_mapFields
def bC0:=@List.map_map
def bC1:=@Nat.not_lt_zero
def bC2:=@List.length_replicate
def bC3:=@Obj.isFreed_of_fields
def bC4:=@List.getElem?_toArray
def bC5:=@Heap.get?_none_of_le
def bC6:=@Calls.Name_function_global
def bC7:=@List.forIn_nil
def bC8:=@wpAny_fieldsOf
def bC9:=@List.zipIdx_cons
def bDA:=@Nat.zero_add
def bDB:=@List.any_eq_true
def bDC:=@Heap.get?_update_ne
def bDD:=@wpAny_standAt
def bDE:=@List.Pairwise.imp_of_mem
def bDF:=@wpAny_passesOwn
def bDG:=@List.zipIdx_nil
def bDH:=@List.nodup_cons
def bDI:=@wpAny_pyIter_tuple
def bDJ:=@SeqAt.EqAt.str_str
def bDK:=@List.map_replicate
def bDL:=@wpAny_letGo
def bDM:=@List.getElem?_set_self
def bDN:=@Calls.spliced_nil
def bDO:=@wpAny_typeOf
def bDP:=@wpAny_newTuple
def bDQ:=@Heap.get?_push_ne
def bDR:=@wpAny_isOneOf_itemiter
def bDS:=@wpAny_pyIter_slot
def bDT:=@List.length_singleton
def bDU:=@wpAny_notOrdered_dict
def bDV:=@PyProof.Rows.callWith_builtin1
def bDW:=@wpAny_pyIter_zip
def bDX:=@Option.getD_some
def bDY:=@List.any_cons
def bDZ:=@wpAny_handled
def bD0:=@Calls.evalArgs_plain
def bD1:=@wpAny_newFunctionEnv
def bD2:=@wpAny_of_eq
def bD3:=@List.mem_of_mem_take
def bD4:=@List.eq_nil_of_length_eq_zero
def bD5:=@wpAny_execs_nil
def bD6:=@SeqAt.EqAt.same
def bD7:=@codeAny_of_tree
def bD8:=@List.length_zipWith
def bD9:=@List.take_succ_cons
def bEA:=@Nat.le_of_eq
def bEB:=@Bool.or_true
def bEC:=@SeqAt.EqAt.int_int
def bED:=@List.mem_singleton
def bEE:=@List.length_eraseIdx_of_lt
def bEF:=@wpAny_letOwnedTupleGo_zip
def bEG:=@wpAny_throw
def bEH:=@Option.isSome_map
def bEI:=@wpAny_dictEntries
def bEJ:=@Array.toList_push
def bEK:=@List.all_cons
abbrev bEL:=PySem.W.Frag
abbrev bEM:=Value→Shared→Prop
abbrev bEN:=List (Addr × Obj)
abbrev bEO:=Str→Option Value
end
local macro_rules
  | `(tactic| trivial) => `(tactic| first | exact Or.inl rfl | exact Or.inr rfl | exact Or.inr (Or.inl rfl) | exact Or.inr (Or.inr rfl) | exact ⟨rfl, rfl, rfl, by decide +kernel, rfl, by decide +kernel, by decide +kernel⟩ | exact ⟨by decide +kernel, rfl, by decide +kernel, by decide +kernel⟩ | fail)
namespace L2
open PySem PySem.Spec PyProof.Rows
abbrev Key:=Sum Int Str
def uX:Key→Value→Bool
 |.inl k,v=>Value.isInt k v
 |.inr x,v=>Value.isStrOf x v
def bAl (w:World):Key→Int
 |.inl k=>hashInt k
 |.inr x=>hashStr w x
theorem cR:∀{k:Key} {v:Value},uX k v=true→(∃i t,k=Sum.inl i∧v=Value.int i t)∨(∃x t,k=Sum.inr x∧v=Value.str x t)
 |.inl i,v,h=>by obtain ⟨t,e⟩:=Value.isInt_shape (k:=i) (v:=v) h;exact .inl ⟨i,t,rfl,e⟩
 |.inr x,v,h=>by obtain ⟨t,e⟩:=Value.isStrOf_shape (x:=x) (v:=v) h;exact .inr ⟨x,t,rfl,e⟩
theorem aDs (i:Int) (t:Tok):uX (.inl i) (.int i t)=true:=by simp [uX,Value.isInt]
theorem aC7 (x:Str) (t:Tok):uX (.inr x) (.str x t)=true:=by simp [uX,Value.isStrOf]
theorem aYh (a b:Int):decide ((Sum.inl a:Key)=Sum.inl b)=(a == b):=by
 by_cases e:a=b
 ·subst e;simp
 ·have h:¬ (Sum.inl a:Key)=Sum.inl b:=fun q=>e (Sum.inl.inj q);rw [bAD h];exact (beq_eq_false_iff_ne.mpr e).symm
theorem aYw (a b:Str):decide ((Sum.inr a:Key)=Sum.inr b)=decide (a=b):=by
 by_cases e:a=b
 ·subst e;simp
 ·have h:¬ (Sum.inr a:Key)=Sum.inr b:=fun q=>e (Sum.inr.inj q);rw [bAD h,bAD e]
theorem aW4 (a:Int) (b:Str):decide ((Sum.inl a:Key)=Sum.inr b)=false:=bAD (fun q=>nomatch q)
theorem aYb (a:Str) (b:Int):decide ((Sum.inr a:Key)=Sum.inl b)=false:=bAD (fun q=>nomatch q)
def bL (prog:Program) (w:World):PySem.KeyKind prog w Key where
 is:=uX
 hash:=bAl w
 inj:=fun v a b ha hb=>by
  rcases cR ha with ⟨i,t,rfl,rfl⟩|⟨x,t,rfl,rfl⟩
  ·rcases cR hb with ⟨j,u,rfl,e⟩|⟨y,u,rfl,e⟩
   ·injection e with e1 _;rw [e1]
   ·exact nomatch e
  ·rcases cR hb with ⟨j,u,rfl,e⟩|⟨y,u,rfl,e⟩
   ·exact nomatch e
   ·injection e with e1 _;rw [e1]
 byValue:=fun k v h=>by rcases cR h with ⟨i,t,rfl,rfl⟩|⟨x,t,rfl,rfl⟩ <;> rfl
 pyHash:=fun hv h=>by
  rcases cR hv with ⟨i,t,rfl,rfl⟩|⟨x,t,rfl,rfl⟩
  ·exact wpAny_pyHash_int h
  ·exact wpAny_pyHash_str h
 eqBool:=fun hu hv h=>by
  rcases cR hu with ⟨i,t,rfl,rfl⟩|⟨x,t,rfl,rfl⟩
  ·rcases cR hv with ⟨j,u,rfl,rfl⟩|⟨y,u,rfl,rfl⟩
   ·rw [aYh] at h;exact wpAny_eqBool_int h
   ·rw [aW4] at h;exact SeqAt.EqAt.int_str i t y u _ _ _ _ h
  ·rcases cR hv with ⟨j,u,rfl,rfl⟩|⟨y,u,rfl,rfl⟩
   ·rw [aYb] at h;exact SeqAt.EqAt.str_int x t j u _ _ _ _ h
   ·rw [aYw] at h;exact wpAny_eqBool_str h
 «strs»:=fun k x t v h=>by
  rcases cR h with ⟨i,u,rfl,e⟩|⟨y,u,rfl,e⟩
  ·exact nomatch e
  ·injection e with e1 _;subst e1;cases v <;> rfl
theorem aGz (prog:Program) (w:World) (i:Int) (t:Tok):(bL prog w).is (.inl i) (.int i t)=true:=aDs i t
theorem aIz (prog:Program) (w:World) (x:Str) (t:Tok):(bL prog w).is (.inr x) (.str x t)=true:=aC7 x t
inductive V where
 |non|bl (b:Bool)|int (i:Int)|str (x:Str)|byt (b:Array UInt8)|flt (b:UInt64)|ref (a:Addr)|ty (n:String)
 deriving DecidableEq
def RelV:V→Value→Prop
 |.non,u=>u=Value.none
 |.bl b,u=>u=Value.bool b
 |.int i,u=>∃t,u=Value.int i t
 |.str x,u=>∃t,u=Value.str x t
 |.byt b,u=>∃t,u=Value.bytes b t
 |.flt b,u=>∃t,u=Value.float b t
 |.ref a,u=>u=Value.ref a
 |.ty n,u=>u=Value.type n
abbrev Vals:List V→List Value→Prop:=Paired RelV
theorem Vals.length {xs:List V} {us:List Value} (r:Vals xs us):xs.length=us.length:=Paired.length r
theorem Vals.get:∀{xs:List V} {us:List Value} {i:Nat} {x:V},Vals xs us→xs[i]?=some x→∃u,us[i]?=some u∧RelV x u
 |_,_,_,_,.nil,e=>by simp at e
 |_,_,0,_,.cons r _,e=>by simp at e;subst e;exact ⟨_,rfl,r⟩
 |_,_,i+1,x,.cons _ t,e=>by obtain ⟨u,h1,h2⟩:=Vals.get (i:=i) (x:=x) t (by simpa using e);exact ⟨u,by simpa using h1,h2⟩
theorem Vals.set {x:V} {u:Value} (r:RelV x u):∀{xs:List V} {us:List Value} (i:Nat),Vals xs us→Vals (xs.set i x) (us.set i u)
 |_,_,_,.nil=>.nil
 |_,_,0,.cons _ t=>.cons r t
 |_,_,i+1,.cons q t=>.cons q (Vals.set r i t)
theorem Vals.append:∀{xs ys:List V} {us ws:List Value},Vals xs us→Vals ys ws→Vals (xs++ys) (us++ws)
 |_,_,_,_,.nil,s=>s
 |_,_,_,_,.cons r t,s=>.cons r (Vals.append t s)
theorem Vals.take:∀{xs:List V} {us:List Value} (n:Nat),Vals xs us→Vals (xs.take n) (us.take n)
 |_,_,0,_=>.nil
 |_,_,_+1,.nil=>.nil
 |_,_,n+1,.cons r t=>.cons r (Vals.take n t)
theorem Vals.drop:∀{xs:List V} {us:List Value} (n:Nat),Vals xs us→Vals (xs.drop n) (us.drop n)
 |_,_,0,r=>r
 |_,_,_+1,.nil=>.nil
 |_,_,n+1,.cons _ t=>Vals.drop n t
def nC:Option V→Option Value→Prop
 |some v,some u=>RelV v u
 |none,none=>True
 |_,_=>False
def KV {κ:Type}:List (κ × V)→List (κ × Value)→Prop:=Paired fun (p:κ × V) (q:κ × Value)=>p.1=q.1∧RelV p.2 q.2
def kV:Key→V
 |.inl i=>.int i
 |.inr x=>.str x
inductive HO where
  |lst (xs:List V)
  |tup (xs:List V)
  |dK (kvs:List (Key × V))|dT (kvs:List (List Key × V))
  |set (S:Int→Bool) (n:Nat)
  |ins (C dx:Addr) (fs:List (Str × V))
  |own (x:Addr)
  |xd (fs:List (Str × V))
  |met (f x:Addr)
  |rng (lo hi:Int)
  |frz (o:Obj) (u:HO)
  |tbl (ps:Array Value)
  |tab (q:Str)
  |ext (φ:Heap→Prop)
abbrev Hp:=Addr→Option HO
def upd (H:Hp) (a:Addr) (o:HO):Hp:=fun b=>if b=a then some o else H b
theorem aH {H:Hp} {a:Addr} {o:HO}:upd H a o a=some o:=by unfold upd;rw [if_pos rfl]
theorem aK {H:Hp} {a b:Addr} {o:HO} (h:b≠a):upd H a o b=H b:=by unfold upd;rw [if_neg h]
theorem aMk {H:Hp} {a:Addr} {o u:HO}:upd (upd H a o) a u=upd H a u:=by funext b;unfold upd;split <;> rfl
theorem aIb {H:Hp} {a b:Addr} {o u:HO} (h:H a=some o) (h':H b=some u) (d:o≠u):a≠b:=by intro e;subst e;rw [h] at h';exact d (bAQ h')
theorem aU {H:Hp} {a b:Addr} {o:HO} (h:H a=some o) (h':H b=none):a≠b:=by intro e;subst e;rw [h] at h';cases h'
def wJ (h:Heap) (a:Addr) (items:Array Value):Prop:=IsTup h a items∧∀o,h.get? a=some o→o.dict=none
theorem wJ.of {h:Heap} {a:Addr} {items:Array Value} {o:Obj} (e:h.get? a=some o) (d:o.dict=none) (x:IsTup h a items):wJ h a items:=⟨x,fun o' e'=>by rw [e] at e';cases e';exact d⟩
theorem wJ.new (h:Heap) (items:Array Value):wJ (h.push { cls:=.type "tuple",data:=.seq items }) h.objs.size items:=.of (j5 _ rfl) rfl (IsTup.new _ _)
theorem wJ.keep {h h':Heap} {a:Addr} {items:Array Value} (x:wJ h a items) (k:∀o,h.get? a=some o→h'.get? a=some o):wJ h' a items:=by obtain ⟨⟨o,e,c⟩,d⟩:=x;exact .of (k o e) (d o e) ⟨o,k o e,c⟩
section
variable (P:Program) (w:World)
def cW (H:Hp) (h:Heap) (a:Addr):HO→Prop
 |.lst xs=>xs.length≤sizeLine∧∃(its:List Value) (n:Nat),Vals xs its∧h.get? a=some { cls:=.type "list",data:=.seq its.toArray n }
 |.tup xs=>xs.length≤sizeLine∧∃its:List Value,Vals xs its∧wJ h a its.toArray
 |.dK kvs=>kvs.length≤sizeLine∧(a == sysModules)=false∧∃vs,KV kvs vs∧h.DictOf (bL P w) a vs
 |.dT kvs=>kvs.length≤sizeLine∧(a == sysModules)=false∧∃xs:List (List Key × Addr × Value),
   Paired (fun (p:List Key × V) (q:List Key × Addr × Value)=>p.1=q.1∧H q.2.1=some (.tup (p.1.map kV))∧RelV p.2 q.2.2) kvs xs ∧
   ∃o es ep,h.get? a=some o∧o.ExactDict∧o.data=.dict es ep∧es.toList=xs.map (entryOfKey (tupleKind (bL P w)))∧(xs.map (·.1)).Nodup
 |.set S n=>h.SetOf (intKind P w) a S n
 |.ins C dx fs=>H dx=some (.own a)∧fs.length≤1000∧dx≠a∧h.get? a=some (PySem.W.instObj C dx) ∧
   ∃mA,h.Ns1 dx mA∧(∀f,nC (fs.lookup f) (mA f))∧PySem.Within mA (fs.map (·.1))
 |.own _=>∃o,h.get? a=some o
 |.xd fs=>∃mA,h.Ns1 a mA∧∀f,nC (fs.lookup f) (mA f)
 |.rng lo hi=>∃t u v,h.get? a=some { cls:=.type "range",data:=.fields #[.int lo t,.int hi u,.int 1 v] }
 |.frz o u=>h.get? a=some o∧cW H h a u
 |.tbl ps=>h.get? a=some { cls:=.none,data:=.fields ps }
 |.tab q=>∃ps:Array Value,h.get? a=some { cls:=.none,data:=.fields ps }∧TriplesOk ps.toList∧∀(pos:Pos) (cv:Value),codeAmong pos ps.toList=some cv→∃(c:Addr) (oc:Obj) (vs:Array Value) (t:Tok),cv=.ref c∧H c=some (.own a)∧h.get? c=some oc∧oc.data=.fields vs∧vs[1]?=some (.str q t)
 |.met f x=>h.get? a=some (PySem.W.methodObj (.ref f) (.ref x))
 |.ext φ=>φ h∧(∃o,h.get? a=some o)∧∀h1 h2:Heap,φ h1→(∀o,h1.get? a=some o→h2.get? a=some o)→φ h2
def HOk (H:Hp) (h:Heap):Prop:=∀a o,H a=some o→cW P w H h a o
end
section
variable {P:Program} {w:World} {H H':Hp} {h h':Heap} {a:Addr} {o:HO}
theorem cW.lt (x:cW P w H h a o):a<h.objs.size:=by
 cases o with
 |lst xs=>obtain ⟨_,_,_,_,e⟩:=x;exact j8 e
 |tup xs=>obtain ⟨_,_,_,p⟩:=x;exact p.1.lt
 |dK kvs=>obtain ⟨_,_,_,_,o,_,_,e,_⟩:=x;exact j8 e
 |dT kvs=>obtain ⟨_,_,_,_,o,_,_,e,_⟩:=x;exact j8 e
 |set S n=>obtain ⟨o,_,_,_,e,_⟩:=x;exact j8 e
 |ins C dx fs=>obtain ⟨_,_,_,e,_⟩:=x;exact j8 e
 |own y=>obtain ⟨_,e⟩:=x;exact j8 e
 |xd fs=>obtain ⟨_,⟨_,_,_,e,_⟩,_⟩:=x;exact j8 e
 |rng lo hi=>obtain ⟨_,_,_,e⟩:=x;exact j8 e
 |frz ob u=>obtain ⟨e,_⟩:=x;exact j8 e
 |tbl ps=>exact j8 (show h.get? a=some _ from x)
 |tab q=>obtain ⟨_,e,_⟩:=x;exact j8 e
 |met f y=>exact j8 (show h.get? a=some _ from x)
 |ext φ=>obtain ⟨_,⟨_,e⟩,_⟩:=x;exact j8 e
theorem Paired.aXg {α β:Type} {F G:α→β→Prop}:∀{l₁:List α} {l₂:List β},Paired F l₁ l₂→(∀a b,F a b→G a b)→Paired G l₁ l₂
 |_,_,.nil,_=>.nil
 |_,_,.cons r t,f=>.cons (f _ _ r) (Paired.aXg t f)
theorem cW.stay (x:cW P w H h a o) (k:∀b u,(b=a∨H b=some (.own a))→h.get? b=some u→h'.get? b=some u)
  (ho:∀b,H b=some (.own a)→H' b=some (.own a)) (ht:∀b xs,H b=some (.tup xs)→H' b=some (.tup xs)):cW P w H' h' a o:=by
 induction o with
 |lst xs=>obtain ⟨z,its,n,r,e⟩:=x;exact ⟨z,its,n,r,k _ _ (.inl rfl) e⟩
 |tup xs=>obtain ⟨z,its,r,p⟩:=x;exact ⟨z,its,r,p.keep fun o e=>k _ _ (.inl rfl) e⟩
 |dK kvs=>obtain ⟨z,y,vs,r,ob,es,ep,e,c⟩:=x;exact ⟨z,y,vs,r,ob,es,ep,k _ _ (.inl rfl) e,c⟩
 |dT kvs=>obtain ⟨z,y,xs,r,ob,es,ep,e,c⟩:=x;exact ⟨z,y,xs,Paired.aXg r fun p q z=>⟨z.1,ht _ _ z.2.1,z.2.2⟩,ob,es,ep,k _ _ (.inl rfl) e,c⟩
 |set S n=>obtain ⟨ob,es,ep,t,e,c⟩:=x;exact ⟨ob,es,ep,t,k _ _ (.inl rfl) e,c⟩
 |ins C dx fs=>obtain ⟨d,z,ne,e,mA,⟨od,es,ep,e2,c⟩,r⟩:=x;exact ⟨ho _ d,z,ne,k _ _ (.inl rfl) e,mA,⟨od,es,ep,k _ _ (.inr d) e2,c⟩,r⟩
 |own y=>obtain ⟨ob,e⟩:=x;exact ⟨ob,k _ _ (.inl rfl) e⟩
 |xd fs=>obtain ⟨mA,⟨od,es,ep,e,c⟩,r⟩:=x;exact ⟨mA,⟨od,es,ep,k _ _ (.inl rfl) e,c⟩,r⟩
 |rng lo hi=>obtain ⟨t,u,v,e⟩:=x;exact ⟨t,u,v,k _ _ (.inl rfl) e⟩
 |frz ob u ih=>obtain ⟨e,q⟩:=x;exact ⟨k _ _ (.inl rfl) e,ih q⟩
 |tab q=>obtain ⟨ps,e,t,c⟩:=x;exact ⟨ps,k _ _ (.inl rfl) e,t,fun pos cv q=>let ⟨c',oc,vs,tk,a1,a2,a3,a4⟩:=c pos cv q;⟨c',oc,vs,tk,a1,ho _ a2,k _ _ (.inr a2) a3,a4⟩⟩
 |tbl ps=>have e:h.get? a=some { cls:=.none,data:=.fields ps }:=x;show h'.get? a=some { cls:=.none,data:=.fields ps };exact k a _ (.inl rfl) e
 |met f y=>have e:h.get? a=some (PySem.W.methodObj (.ref f) (.ref y)):=x;show h'.get? a=some (PySem.W.methodObj (.ref f) (.ref y));exact k a _ (.inl rfl) e
 |ext φ=>obtain ⟨p,⟨o,e⟩,st⟩:=x;exact ⟨st _ _ p fun o q=>k _ _ (.inl rfl) q,⟨o,k _ _ (.inl rfl) e⟩,st⟩
theorem HOk.lt (x:HOk P w H h) (e:H a=some o):a<h.objs.size:=(x a o e).lt
theorem HOk.fresh (x:HOk P w H h) (e:h.objs.size≤a):H a=none:=by
 cases q:H a with
 |none=>rfl
 |some u=>exact absurd (bAA (x.lt q) e) (bBI _)
theorem HOk.kept (x:HOk P w H h) (k:∀b u,h.get? b=some u→h'.get? b=some u):HOk P w H h':=fun a o e=>
 (x a o e).stay (fun b u _ q=>k b u q) (fun _ q=>q) fun _ _ q=>q
theorem HOk.laid (x:HOk P w H h) (k:∀b u,h.get? b=some u→h'.get? b=some u) (hp:h.objs.size≤a) (new:cW P w (upd H a o) h' a o):HOk P w (upd H a o) h':=fun b u e=>by
 have hn:=x.fresh hp;by_cases hb:b=a
 ·subst hb;rw [aH] at e;cases e;exact new
 ·rw [aK hb] at e;exact (x b u e).stay (fun c v _ q=>k c v q) (fun c q=>by rw [aK (aU q hn)];exact q) fun c xs q=>by rw [aK (aU q hn)];exact q
end
def Rd (H:Hp) (a:Addr) (u:HO):Prop:=H a=some u∨∃o,H a=some (.frz o u)
theorem Rd.ok {P:Program} {w:World} {H:Hp} {h:Heap} {a:Addr} {u:HO} (r:Rd H a u) (x:HOk P w H h):cW P w H h a u:=by
 rcases r with r|⟨o,r⟩
 ·exact x a u r
 ·obtain ⟨_,q⟩:=x a _ r;exact q
def Mut:Option HO→Prop
 |some (.lst _)=>True
 |some (.dK _)=>True
 |some (.dT _)=>True
 |some (.set _ _)=>True
 |some (.ins _ _ _)=>True
 |some (.ext _)=>True
 |some (.tab _)=>True
 |_=>False
section
variable {P:Program} {w:World} {H:Hp} {h h':Heap} {x e:Addr} {o':HO}
theorem HOk.write (ok:HOk P w H h) (mu:Mut (H x)) (he:e=x∨H e=some (.own x)) (k:∀b u,b≠e→h.get? b=some u→h'.get? b=some u) (heo:∃u,h'.get? e=some u)
  (new:cW P w (upd H x o') h' x o'):HOk P w (upd H x o') h':=fun b u q=>by
 have nown:∀c y,H c=some (.own y)→c≠x:=fun c y r z=>by subst z;rw [r] at mu;exact mu
 have ntup:∀c xs,H c=some (.tup xs)→c≠x:=fun c xs r z=>by subst z;rw [r] at mu;exact mu
 by_cases hb:b=x
 ·subst hb;rw [aH] at q;cases q;exact new
 ·rw [aK hb] at q;by_cases hbe:b=e
  ·have q':H b=some (.own x):=by
    rcases he with z|z
    ·exact absurd (hbe.trans z) hb
    ·rw [hbe];exact z
   rw [q] at q';cases q';obtain ⟨v,hv⟩:=heo;exact ⟨v,by rw [hbe];exact hv⟩
  ·refine (ok b u q).stay (fun c v hc r=>k c v ?_ r) (fun c r=>by rw [aK (nown c b r)];exact r) fun c xs r=>by rw [aK (ntup c xs r)];exact r
   rcases hc with rfl|hc
   ·exact hbe
   ·rintro rfl;rcases he with z|z
    ·exact nown c b hc z
    ·rw [hc] at z;cases z;exact hb rfl
end
structure Un (fs ex:List Addr) (H H':Hp) (h h':Heap):Prop where
 keep:∀b o,h.get? b=some o→H b=none→b∉fs→b∉ex→h'.get? b=some o
 slot:∀b o,h.get? b=some o→H b=none→b∈fs→b∉ex→∃sl,h'.get? b=some { o with slots:=sl }
 free:∀b o,h.get? b=some o→H b=none→b∉ex→H' b=none
 there:∀b o,h.get? b=some o→b∉ex→∃o',h'.get? b=some o'
 tups:∀b xs,H b=some (.tup xs)→H' b=some (.tup xs)
 frzs:∀b o u,H b=some (.frz o u)→H' b=some (.frz o u)
 tbls:∀b ps,H b=some (.tbl ps)→∃more,H' b=some (.tbl (ps++more))
section
variable {fs fs' ex ex':List Addr} {H H1 H2:Hp} {h h1 h2 h':Heap} {a x e:Addr} {o:HO}
theorem Un.any (u:Un fs ex H H1 h h1) {b:Addr} {ob:Obj} (q:h.get? b=some ob) (n:H b=none) (hx:b∉ex):∃sl,h1.get? b=some { ob with slots:=sl }:=by
 by_cases hb:b∈fs
 ·exact u.slot b ob q n hb hx
 ·exact ⟨ob.slots,u.keep b ob q n hb hx⟩
theorem Un.kept (k:∀b u,h.get? b=some u→h'.get? b=some u):Un fs ex H H h h':=
 ⟨fun b ob q _ _ _=>k b ob q,fun b ob q _ _ _=>⟨ob.slots,k b ob q⟩,fun _ _ _ n _=>n,fun b ob q _=>⟨ob,k b ob q⟩,fun _ _ q=>q,fun _ _ _ q=>q,fun _ ps q=>⟨#[],by rw [q];simp⟩⟩
theorem Un.refl:Un fs ex H H h h:=Un.kept fun _ _ q=>q
theorem Un.laid (k:∀b u,h.get? b=some u→h'.get? b=some u) (hp:h.objs.size≤a) (hn:H a=none):Un fs ex H (upd H a o) h h' where
 keep:=fun b u q _ _ _=>k b u q
 slot:=fun b u q _ _ _=>⟨u.slots,k b u q⟩
 free:=fun b u q n _=>by rw [aK (m9 (bAA (j8 q) hp))];exact n
 there:=fun b u q _=>⟨u,k b u q⟩
 tups:=fun b xs q=>by rw [aK (aU q hn)];exact q
 frzs:=fun b u xs q=>by rw [aK (aU q hn)];exact q
 tbls:=fun b ps q=>⟨#[],by rw [aK (aU q hn),q];simp⟩
theorem Un.write (mu:Mut (H x)) (he:e=x∨H e=some (.own x)) (k:∀b u,b≠e→h.get? b=some u→h'.get? b=some u) (heo:∃u,h'.get? e=some u):Un fs ex H (upd H x o) h h':=by
 have hx:∀b,H b=none→b≠x:=fun b n z=>by subst z;rw [n] at mu;exact mu
 have hb:∀b,H b=none→b≠e:=fun b n z=>by
  subst z;rcases he with r|r
  ·exact hx b n r
  ·rw [n] at r;cases r
 have hm:∀b u,H b=some u→¬ Mut (some u)→b≠x:=fun b u q nm z=>by subst z;rw [q] at mu;exact nm mu
 refine ⟨fun b u q n _ _=>k b u (hb b n) q,fun b u q n _ _=>⟨u.slots,k b u (hb b n) q⟩,fun b u q n _=>by rw [aK (hx b n)];exact n,fun b u q _=>?_,
  fun b xs q=>by rw [aK (hm b _ q fun z=>z)];exact q,fun b u xs q=>by rw [aK (hm b _ q fun z=>z)];exact q,fun b ps q=>⟨#[],by rw [aK (hm b _ q fun z=>z),q];simp⟩⟩
 by_cases hbe:b=e
 ·subst hbe;exact heo
 ·exact ⟨u,k b u hbe q⟩
end
def trk (h:Heap) (H:Hp):List Addr:=(List.range h.objs.size).filter fun a=>(H a).isSome
def aB8 (h:Heap) (H:Hp):Heap:=PySem.W.hideAll h (trk h H)
theorem aNs (h:Heap) (H:Hp):(aB8 h H).objs.size=h.objs.size:=PySem.W.hideAll_size _ _
theorem aRf {h:Heap} {H:Hp} {b:Addr} {o:Obj} (e:h.get? b=some o) (n:H b=none):(aB8 h H).get? b=some o:=
 PySem.W.hideAll_get _ e fun hm=>by have q:(H b).isSome=true:=(List.mem_filter.mp hm).2;rw [n] at q;simp at q
theorem aT7 {h:Heap} {H:Hp} {b:Addr} {o:Obj} (e:(aB8 h H).get? b=some o):h.get? b=some o∧H b=none:=by
 have e':h.get? b=some o:=PySem.W.of_hideAll (trk h H) e;refine ⟨e',?_⟩;cases q:H b with
 |none=>rfl
 |some x=>have hm:b∈trk h H:=List.mem_filter.mpr ⟨List.mem_range.mpr (j8 e'),by simp [q]⟩;have z:(aB8 h H).get? b=none:=PySem.W.hideAll_none (trk h H) hm;rw [z] at e;cases e
structure Mod (K:bEL) (mg:bEO) (base:Heap):Prop where
 kin:K.In base
 glob:base.Ns mainGlobals mg
 blt:∃mb,base.Ns builtinsNs mb∧∀x:Str,x≠"__name__"→mb x=bootBuiltins x
 nolimit:base.NoLimit
structure Cx where
 prog:Program
 w:World
 K:bEL
 mg:bEO
 base:Heap
 A:Around
 N:List Str
 s₀:Shared
 H₀:Hp
 env:Env
 outer:List Env
 stack:List Env
 ex:List Addr
 fn:Str→Bool
 calm:Bool
 pn:bEN
 xe:bEM
def frs (l:List Env):List Addr:=l.filterMap (·.frame)
abbrev Cx.fs (X:Cx):List Addr:=frs X.outer
def Vis (sc:Scope) (x:Str):Prop:=sc.names.lookup x=some .local∨sc.names.lookup x=some .cell∨sc.names.lookup x=some .free
def Loc (sc:Scope) (x:Str):Prop:=sc.names.lookup x=some .local∨sc.names.lookup x=some .cell
def Look (env:Env) (h:Heap) (m:bEO) (x:Str) (u:Value):Prop:=
 (env.kindOf x=some .local∧m x=some u)∨((env.kindOf x=some .cell∨env.kindOf x=some .free)∧∃c,env.cells.lookup x=some c∧h.IsCell c (some u))
structure Cx.Ok (X:Cx):Prop where
 mod:Mod X.K X.mg X.base
 kind:X.env.scope.kind=.function
 glob:X.env.globals=mainGlobals
 blt:X.env.builtins=builtinsNs
 above:X.s₀.heap.objs.size≤X.env.locals
 inj:∀x y c,X.env.cells.lookup x=some c→X.env.cells.lookup y=some c→x=y
 has:∀x,(X.env.kindOf x=some .cell∨X.env.kindOf x=some .free)→∃c,X.env.cells.lookup x=some c
 cab:∀x c,X.fn x=true→X.env.cells.lookup x=some c→X.s₀.heap.objs.size≤c
 hd:X.calm=true→X.A.handled=none
 frames:X.A.frames=some X.stack
 stk:X.stack=X.outer∨(X.stack=X.env::X.outer∧X.env.frame=some X.env.locals)
 exf:∀b∈X.ex,b≠X.env.locals∧∀x c,X.env.cells.lookup x=some c→c≠b
 bs:∀b o,X.base.get? b=some o→X.s₀.heap.get? b=some o∧X.H₀ b=none
 bsz:X.base.objs.size≤X.s₀.heap.objs.size
 noex:∀b o,X.base.get? b=some o→b∉X.ex
 exfs:∀b∈X.ex,b∉X.fs
 funs:X.s₀.heap.FunFrames X.base X.outer
 frf:∀b∈X.fs,X.H₀ b=none
structure Inv (X:Cx) (bEP:bEN) (σ:List (Option V)) (H:Hp) (s:Shared):Prop where
 ok:X.Ok
 os:s.os=X.s₀.os
 bare:AllBare s.gens
 base:Un X.fs X.ex X.H₀ H X.s₀.heap s.heap
 loc:∃m,s.heap.Ns X.env.locals m∧∀(i:Nat) (x:Str) (v:V),X.N[i]?=some x→σ[i]?=some (some v)→Vis X.env.scope x→∃u,RelV v u∧Look X.env s.heap m x u
 cell:∀x c,X.env.cells.lookup x=some c→∃v,s.heap.IsCell c v
 free:H X.env.locals=none
 freeC:∀x c,X.env.cells.lookup x=some c→H c=none
 pin:∀p∈X.pn++bEP,s.heap.get? p.1=some p.2∧H p.1=none∧p.1≠X.env.locals∧p.1∉X.fs∧∀v,p.2.data≠.cell v
 hok:HOk X.prog X.w H s.heap
 len:σ.length=X.N.length
section
variable {X:Cx} {bEP:bEN} {σ:List (Option V)} {H H':Hp} {s:Shared} {h':Heap}
theorem Cx.Ok.nofr (ok:X.Ok) {b:Addr} {o:Obj} (e:X.base.get? b=some o):b∉X.fs:=fun hb=>by have:=(ok.funs.mem hb).1;rw [e] at this;cases this
theorem Inv.bs (I:Inv X bEP σ H s):∀b o,X.base.get? b=some o→s.heap.get? b=some o∧H b=none:=fun b o e=>
 ⟨I.base.keep b o (I.ok.bs b o e).1 (I.ok.bs b o e).2 (I.ok.nofr e) (I.ok.noex b o e),I.base.free b o (I.ok.bs b o e).1 (I.ok.bs b o e).2 (I.ok.noex b o e)⟩
theorem Inv.bk (I:Inv X bEP σ H s):∀b o,X.base.get? b=some o→s.heap.get? b=some o:=fun b o e=>(I.bs b o e).1
theorem Inv.mod (I:Inv X bEP σ H s):Mod X.K X.mg X.base:=I.ok.mod
theorem Inv.kIn (I:Inv X bEP σ H s):X.K.In s.heap:=I.ok.mod.kin.keeps I.bk
theorem Inv.nolimit (I:Inv X bEP σ H s):s.heap.NoLimit:=I.ok.mod.nolimit.keeps I.bk
theorem Inv.fr (I:Inv X bEP σ H s):∃m,Fr X.base X.env.locals s.heap m:=
 let ⟨m,hn,_⟩:=I.loc
 ⟨m,hn,I.bk,bAR I.ok.bsz I.ok.above⟩
theorem Inv.lt (I:Inv X bEP σ H s):X.env.locals<s.heap.objs.size:=let ⟨_,hn,_⟩:=I.loc;hn.lt
theorem Inv.sz (I:Inv X bEP σ H s):X.s₀.heap.objs.size≤s.heap.objs.size:=bAR I.ok.above (bCX I.lt)
theorem Inv.nofs (I:Inv X bEP σ H s) {a:Addr} (h:s.heap.objs.size≤a):a∉X.fs:=fun hb=>by obtain ⟨_,o,ho,_⟩:=I.ok.funs.mem hb;exact absurd (bAA (j8 ho) (bAR I.sz h)) (bBI _)
theorem Inv.cne (I:Inv X bEP σ H s):∀x c,X.env.cells.lookup x=some c→c≠X.env.locals:=fun x c e z=>by obtain ⟨v,o,ho,hd⟩:=I.cell x c e;obtain ⟨m,⟨o',es,ep,ho',hd',_⟩,_⟩:=I.loc;rw [z,ho'] at ho;cases ho;rw [hd'] at hd;cases hd
theorem Inv.funs (I:Inv X bEP σ H s):s.heap.FunFrames X.base X.outer:=by
 have all:∀(l:List Env),(∀b∈frs l,b∈X.fs)→X.s₀.heap.FunFrames X.base l→s.heap.FunFrames X.base l:=by
  intro l
  induction l with
  |nil=>intro _ _;trivial
  |cons env r ih=>intro hs hl;obtain ⟨hk,⟨L,o,hf,hn,ho,hd⟩,hr⟩:=hl;have hL:L∈X.fs:=hs L (by unfold frs;rw [bCR,hf];exact t6);obtain ⟨sl,e⟩:=I.base.slot L o ho (I.ok.frf L hL) hL fun z=>I.ok.exfs L z hL;exact ⟨hk,⟨L,_,hf,hn,e,hd⟩,ih (fun b hb=>hs b (by unfold frs;rw [bCR,hf];exact m8 _ hb)) hr⟩
 exact all X.outer (fun _ hb=>hb) I.ok.funs
theorem Inv.stack (I:Inv X bEP σ H s):s.heap.FunFrames X.base X.stack:=by
 rcases I.ok.stk with e|⟨e,hf⟩
 ·rw [e];exact I.funs
 ·rw [e];obtain ⟨m,hn,_⟩:=I.loc;refine .cons (by rw [I.ok.kind];decide) hf hn ?_ I.funs;exact bC5 (bAR I.ok.bsz I.ok.above)
theorem Inv.aFx (I:Inv X bEP σ H s):∀b∈frs X.stack,b∈X.env.locals::X.fs:=fun b hb=>by
 rcases I.ok.stk with e|⟨e,hf⟩
 ·rw [e] at hb;exact m8 _ hb
 ·rw [e] at hb;unfold frs at hb;rw [bCR,hf] at hb;exact hb
theorem Inv.rJ (I:Inv X bEP σ H s):∀b∈frs X.stack,H b=none:=fun b hb=>by
 rcases List.mem_cons.mp (I.aFx b hb) with e|hb
 ·rw [e];exact I.free
 ·obtain ⟨_,o,ho,_⟩:=I.ok.funs.mem hb;exact I.base.free b o ho (I.ok.frf b hb) fun z=>I.ok.exfs b z hb
theorem Inv.step {g':Array GenState} {t':Nat} {d':Drawn} {ch:List Addr} (I:Inv X bEP σ H s)
  (hch:∀b∈ch,(b∈X.ex∨X.s₀.heap.objs.size≤b)∧b≠X.env.locals∧(∀x c,X.env.cells.lookup x=some c→c≠b)∧∀p∈X.pn++bEP,p.1≠b)
  (keep:∀b o,b≠X.env.locals→b∉X.fs→b∉ch→s.heap.get? b=some o→H b=none→h'.get? b=some o)
  (slot:∀b o,b≠X.env.locals→b∈X.fs→b∉ch→s.heap.get? b=some o→H b=none→∃sl,h'.get? b=some { o with slots:=sl }) (free:∀b o,b∉ch→s.heap.get? b=some o→H b=none→H' b=none)
  (there:∀b o,b∉ch→s.heap.get? b=some o→∃o',h'.get? b=some o')
  (tups:∀b xs,H b=some (.tup xs)→H' b=some (.tup xs)) (frzs:∀b o u,H b=some (.frz o u)→H' b=some (.frz o u)) (tbls:∀b ps,H b=some (.tbl ps)→∃more,H' b=some (.tbl (ps++more)))
  (ns:∀m,s.heap.Ns X.env.locals m→h'.Ns X.env.locals m) (hok:HOk X.prog X.w H' h') (hg:AllBare g') :
  Inv X bEP σ H' { s with heap:=h',gens:=g',drawn:=d',toks:=t' }:=by
 have neL:∀b o,X.s₀.heap.get? b=some o→b≠X.env.locals:=fun b o e=>m9 (bAA (j8 e) I.ok.above);have neC:∀b o,X.s₀.heap.get? b=some o→b∉X.ex→b∉ch:=fun b o e hx hb=>by
  rcases (hch b hb).1 with z|z
  ·exact hx z
  ·exact absurd (bAA (j8 e) z) (bBI _)
 have cellK:∀x c,X.env.cells.lookup x=some c→∀v,s.heap.IsCell c v→h'.IsCell c v:=fun x c e v ⟨o,ho,hd⟩=>by
  have nch:c∉ch:=fun z=>(hch c z).2.2.1 x c e rfl;by_cases hc:c∈X.fs
  ·obtain ⟨sl,q⟩:=slot c o (I.cne x c e) hc nch ho (I.freeC x c e);exact ⟨_,q,hd⟩
  ·exact ⟨o,keep c o (I.cne x c e) hc nch ho (I.freeC x c e),hd⟩
 refine ⟨I.ok,I.os,hg,⟨fun b o e n hb hx=>?_,fun b o e n hb hx=>?_,fun b o e n hx=>?_,fun b o e hx=>?_,fun b xs e=>tups b xs (I.base.tups b xs e),fun b o xs e=>frzs b o xs (I.base.frzs b o xs e),fun b ps e=>?_⟩,?_,fun x c e=>?_,?_,fun x c e=>?_,fun p hp=>?_,hok,I.len⟩
 ·exact keep b o (neL b o e) hb (neC b o e hx) (I.base.keep b o e n hb hx) (I.base.free b o e n hx)
 ·obtain ⟨sl,e1⟩:=I.base.slot b o e n hb hx;obtain ⟨sl',e2⟩:=slot b _ (neL b o e) hb (neC b o e hx) e1 (I.base.free b o e n hx);exact ⟨sl',e2⟩
 ·obtain ⟨o',e1⟩:=I.base.there b o e hx;exact free b o' (neC b o e hx) e1 (I.base.free b o e n hx)
 ·obtain ⟨o',e1⟩:=I.base.there b o e hx;exact there b o' (neC b o e hx) e1
 ·obtain ⟨m1,e1⟩:=I.base.tbls b ps e;obtain ⟨m2,e2⟩:=tbls b _ e1;exact ⟨m1++m2,by rw [e2,Array.append_assoc]⟩
 ·obtain ⟨m,hn,hl⟩:=I.loc;refine ⟨m,ns m hn,fun i x v e1 e2 e3=>?_⟩;obtain ⟨u,r,l⟩:=hl i x v e1 e2 e3;refine ⟨u,r,?_⟩;rcases l with l|⟨k,c,e,z⟩
  ·exact .inl l
  ·exact .inr ⟨k,c,e,cellK x c e _ z⟩
 ·obtain ⟨v,z⟩:=I.cell x c e;exact ⟨v,cellK x c e v z⟩
 ·obtain ⟨m,⟨o,_,_,ho,_⟩,_⟩:=I.loc;exact free _ o (fun z=>(hch _ z).2.1 rfl) ho I.free
 ·obtain ⟨v,o,ho,hd⟩:=I.cell x c e;exact free c o (fun z=>(hch c z).2.2.1 x c e rfl) ho (I.freeC x c e)
 ·obtain ⟨e,n,ne,nf,d⟩:=I.pin p hp;have nch:p.1∉ch:=fun z=>(hch p.1 z).2.2.2 p hp rfl;exact ⟨keep p.1 p.2 ne nf nch e n,free p.1 p.2 nch e n,ne,nf,d⟩
theorem Inv.un {t':Nat} (I:Inv X bEP σ H s) (u:Un X.fs [] H H' s.heap h') (hok:HOk X.prog X.w H' h'):Inv X bEP σ H' { s with heap:=h',toks:=t' }:=by
 obtain ⟨m,⟨o,es,ep,ho,r⟩,_⟩:=id I.loc;obtain ⟨sl,hL⟩:=u.any ho I.free (by simp);exact I.step (g':=s.gens) (d':=s.drawn) (ch:=[]) (fun _ z=>nomatch z) (fun b o _ hb _ e n=>u.keep b o e n hb (by simp)) (fun b o _ hb _ e n=>u.slot b o e n hb (by simp)) (fun b o _ e n=>u.free b o e n (by simp)) (fun b o _ e=>u.there b o e (by simp)) u.tups u.frzs u.tbls (fun m' hm=>by obtain ⟨o',es',ep',ho',r'⟩:=hm;rw [ho] at ho';cases ho';exact ⟨_,es',ep',hL,r'⟩) hok I.bare
theorem Inv.call {g':Array GenState} {t':Nat} {d':Drawn} {ch:List Addr} (I:Inv X bEP σ H s) (u:Un (frs X.stack) ch H H' s.heap h') (hok:HOk X.prog X.w H' h') (hg:AllBare g')
  (hch:∀b∈ch,(b∈X.ex∨X.s₀.heap.objs.size≤b)∧b≠X.env.locals∧(∀x c,X.env.cells.lookup x=some c→c≠b)∧∀p∈X.pn++bEP,p.1≠b) :
  Inv X bEP σ H' { s with heap:=h',gens:=g',drawn:=d',toks:=t' }:=by
 obtain ⟨m,⟨o,es,ep,ho,r⟩,_⟩:=id I.loc;obtain ⟨sl,hL⟩:=u.any ho I.free fun z=>(hch _ z).2.1 rfl;exact I.step (ch:=ch) hch (fun b o hL hb hc e n=>u.keep b o e n (fun z=>(List.mem_cons.mp (I.aFx b z)).elim hL hb) hc) (fun b o _ _ hc e n=>u.any e n hc) (fun b o hc e n=>u.free b o e n hc) (fun b o hc e=>u.there b o e hc) u.tups u.frzs u.tbls (fun m' hm=>by obtain ⟨o',es',ep',ho',r'⟩:=hm;rw [ho] at ho';cases ho';exact ⟨_,es',ep',hL,r'⟩) hok hg
theorem Inv.turned {t':Nat} {it:Addr} (I:Inv X bEP σ H s) (k:∀b o,b≠it→s.heap.get? b=some o→h'.get? b=some o) (hn:H it=none) (hL:it≠X.env.locals)
  (h1:it∈X.ex∨X.s₀.heap.objs.size≤it) (h2:∀x c,X.env.cells.lookup x=some c→c≠it) (h3:∀p∈X.pn++bEP,p.1≠it):Inv X bEP σ H { s with heap:=h',toks:=t' }:=by
 have nit:∀b u,H b=some u→b≠it:=fun b u e z=>by rw [z,hn] at e;cases e
 refine I.step (g':=s.gens) (d':=s.drawn) (ch:=[it]) (fun b hb=>?_) (fun b o _ _ hc e _=>k b o (fun z=>hc (by simp [z])) e) (fun b o _ _ hc e _=>⟨o.slots,k b o (fun z=>hc (by simp [z])) e⟩) (fun _ _ _ _ n=>n)
  (fun b o hc e=>⟨o,k b o (fun z=>hc (by simp [z])) e⟩) (fun _ _ e=>e) (fun _ _ _ e=>e) (fun b ps e=>⟨#[],by rw [e];simp⟩) (fun m hm=>?_) (fun b u e=>?_) I.bare
 ·have e:b=it:=by simpa using hb
  subst e;exact ⟨h1,hL,h2,h3⟩
 ·obtain ⟨o,es,ep,ho,r⟩:=hm;exact ⟨o,es,ep,k _ o (Ne.symm hL) ho,r⟩
 ·refine (I.hok b u e).stay (fun c v hc q=>k c v ?_ q) (fun _ q=>q) fun _ _ q=>q;rcases hc with z|z
  ·rw [z];exact nit b u e
  ·exact nit c _ z
theorem Inv.tok (I:Inv X bEP σ H s) (t:Nat):Inv X bEP σ H { s with toks:=t }:=I.un (h':=s.heap) (t':=t) Un.refl I.hok
theorem Inv.kept {t':Nat} (I:Inv X bEP σ H s) (k:∀b u,s.heap.get? b=some u→h'.get? b=some u):Inv X bEP σ H { s with heap:=h',toks:=t' }:=I.un (Un.kept k) (I.hok.kept k)
theorem Inv.laid {a:Addr} {o:HO} {t':Nat} (I:Inv X bEP σ H s) (k:∀b u,s.heap.get? b=some u→h'.get? b=some u) (hp:s.heap.objs.size≤a) (new:cW X.prog X.w (upd H a o) h' a o) :
  Inv X bEP σ (upd H a o) { s with heap:=h',toks:=t' }:=I.un (Un.laid k hp (I.hok.fresh hp)) (I.hok.laid k hp new)
theorem Inv.write {x e:Addr} {o:HO} {t':Nat} (I:Inv X bEP σ H s) (mu:Mut (H x)) (he:e=x∨H e=some (.own x)) (k:∀b u,b≠e→s.heap.get? b=some u→h'.get? b=some u) (heo:∃u,h'.get? e=some u)
  (new:cW X.prog X.w (upd H x o) h' x o):Inv X bEP σ (upd H x o) { s with heap:=h',toks:=t' }:=I.un (Un.write mu he k heo) (I.hok.write mu he k heo new)
theorem Inv.aNj {pins':bEN} (I:Inv X bEP σ H s) (h:∀p∈pins',s.heap.get? p.1=some p.2∧H p.1=none∧p.1≠X.env.locals∧p.1∉X.fs∧∀v,p.2.data≠.cell v):Inv X pins' σ H s:=
 ⟨I.ok,I.os,I.bare,I.base,I.loc,I.cell,I.free,I.freeC,fun p hp=>(List.mem_append.mp hp).elim (fun z=>I.pin p (bCN _ z)) (h p),I.hok,I.len⟩
theorem aJc {N:List Str} (hN:N.Nodup) {i j:Nat} {x:Str} (a:N[i]?=some x) (b:N[j]?=some x):i=j:=by obtain ⟨h1,e1⟩:=List.getElem?_eq_some_iff.mp a;obtain ⟨h2,e2⟩:=List.getElem?_eq_some_iff.mp b;exact (List.getElem_inj hN).mp (e1.trans e2.symm)
theorem aDk {M:Model} {A:Around} {E:bEM} {i:Nat} {x:Str} {v:V} {u:Value} {Q:Unit→Shared→Prop} (I:Inv X bEP σ H s) (hN:X.N.Nodup) (hi:X.N[i]?=some x) (hx:Loc X.env.scope x) (r:RelV v u)
  (h:∀s',Inv X bEP (σ.set i (some v)) H s'→(∃a,Heap.SameBut a s.heap s'.heap∧(a=X.env.locals∨X.env.cells.lookup x=some a))→Q () s') (hf:X.fn x=true∨X.env.scope.names.lookup x=some .local:=by first|exact .inl rfl|exact .inr rfl|assumption):wpAny M A (storeName X.env x u) Q E s:=by
 obtain ⟨m,hn,hl⟩:=id I.loc;have hcls:(X.env.scope.kind == .class || (X.env.scope.kind == .module && X.env.locals != X.env.globals))=false:=by rw [I.ok.kind];rfl
 have hiσ:i<σ.length:=by rw [I.len];exact (List.getElem?_eq_some_iff.mp hi).1
 have cne:=I.cne;have tracked:∀{a:Addr} {h':Heap},(∃o,s.heap.get? a=some o∧H a=none)→Heap.SameBut a s.heap h'→HOk X.prog X.w H h':=fun {a h'} ha hs b ob e=>by
  obtain ⟨_,_,hfree⟩:=ha;refine (I.hok b ob e).stay (fun c w' hc q=>(hs.2 c ?_).trans q) (fun _ q=>q) fun _ _ q=>q;rintro rfl;rcases hc with rfl|hc
  ·rw [hfree] at e;cases e
  ·rw [hfree] at hc;cases hc
 rcases hx with hk|hk
 ·refine wpAny_storeName_local hk hn (fun h' hn' hs=>?_) hcls;obtain ⟨oL,_,_,hoL,_⟩:=id hn;refine h _ ⟨I.ok,I.os,I.bare,⟨fun b o e n hb hx=>?_,fun b o e n hb hx=>?_,I.base.free,fun b o e hx=>?_,I.base.tups,I.base.frzs,I.base.tbls⟩,⟨_,hn',fun j y v' e1 e2 e3=>?_⟩,fun y c e=>?_,I.free,I.freeC,fun p hp=>?_,tracked ⟨oL,hoL,I.free⟩ hs,by simpa using I.len⟩ ⟨_,hs,.inl rfl⟩
  ·exact (hs.2 b (m9 (bAA (j8 e) I.ok.above))).trans (I.base.keep b o e n hb hx)
  ·obtain ⟨sl,e1⟩:=I.base.slot b o e n hb hx;exact ⟨sl,(hs.2 b (m9 (bAA (j8 e) I.ok.above))).trans e1⟩
  ·obtain ⟨o',e1⟩:=I.base.there b o e hx;exact ⟨o',(hs.2 b (m9 (bAA (j8 e) I.ok.above))).trans e1⟩
  ·by_cases hj:j=i
   ·subst hj;rw [hi] at e1;cases e1;rw [bDM hiσ] at e2;cases e2;exact ⟨u,r,.inl ⟨hk,by simp⟩⟩
   ·rw [List.getElem?_set_ne (Ne.symm hj)] at e2;obtain ⟨u',r',q⟩:=hl j y v' e1 e2 e3;refine ⟨u',r',?_⟩;rcases q with ⟨k,e⟩|⟨k,c,e,z⟩
    ·refine .inl ⟨k,?_⟩;have:y≠x:=fun e=>hj (aJc hN e1 (e ▸ hi));simp [this,e]
    ·exact .inr ⟨k,c,e,z.sameBut hs (cne y c e)⟩
  ·obtain ⟨w',z⟩:=I.cell y c e;exact ⟨w',z.sameBut hs (cne y c e)⟩
  ·obtain ⟨e,n,ne,nf,d⟩:=I.pin p hp;exact ⟨(hs.2 p.1 ne).trans e,n,ne,nf,d⟩
 ·have hfn:X.fn x=true:=by
   rcases hf with z|z
   ·exact z
   ·rw [z] at hk;cases hk
  obtain ⟨c,hc⟩:=I.ok.has x (.inl hk);obtain ⟨w',z⟩:=I.cell x c hc;refine wpAny_storeName_cell I.ok.kind hk hc z (fun h' hc' hs=>?_);obtain ⟨oc,hoc,hocd⟩:=id z;refine h { s with heap:=h' } ⟨I.ok,I.os,I.bare,⟨fun b o e n hb hx=>?_,fun b o e n hb hx=>?_,I.base.free,fun b o e hx=>?_,I.base.tups,I.base.frzs,I.base.tbls⟩,⟨m,hn.sameBut hs (Ne.symm (cne x c hc)),fun j y v' e1 e2 e3=>?_⟩,fun y c' e=>?_,I.free,I.freeC,fun p hp=>?_,tracked ⟨oc,hoc,I.freeC x c hc⟩ hs,by simpa using I.len⟩ ⟨c,hs,.inr hc⟩
  ·exact (hs.2 b (m9 (bAA (j8 e) (I.ok.cab x c hfn hc)))).trans (I.base.keep b o e n hb hx)
  ·obtain ⟨sl,e1⟩:=I.base.slot b o e n hb hx;exact ⟨sl,(hs.2 b (m9 (bAA (j8 e) (I.ok.cab x c hfn hc)))).trans e1⟩
  ·obtain ⟨o',e1⟩:=I.base.there b o e hx;exact ⟨o',(hs.2 b (m9 (bAA (j8 e) (I.ok.cab x c hfn hc)))).trans e1⟩
  ·by_cases hj:j=i
   ·subst hj;rw [hi] at e1;cases e1;rw [bDM hiσ] at e2;cases e2;exact ⟨u,r,.inr ⟨.inl hk,c,hc,hc'⟩⟩
   ·rw [List.getElem?_set_ne (Ne.symm hj)] at e2;obtain ⟨u',r',q⟩:=hl j y v' e1 e2 e3;refine ⟨u',r',?_⟩;rcases q with q|⟨k,c',e,z'⟩
    ·exact .inl q
    ·refine .inr ⟨k,c',e,z'.sameBut hs ?_⟩;rintro rfl;exact hj (aJc hN e1 (I.ok.inj _ _ _ e hc ▸ hi))
  ·by_cases hcc:c'=c
   ·subst hcc;exact ⟨_,hc'⟩
   ·obtain ⟨w2,z2⟩:=I.cell y c' e;exact ⟨w2,z2.sameBut hs hcc⟩
  ·obtain ⟨e,n,ne,nf,d⟩:=I.pin p hp;refine ⟨(hs.2 p.1 ?_).trans e,n,ne,nf,d⟩;intro q;rw [q,hoc] at e;have q':oc=p.2:=bAQ e;exact d w' (by rw [←q'];exact hocd)
theorem aGb {M:Model} {A:Around} {E:bEM} {i:Nat} {x:Str} {v:V} {u:Value} {Q:Unit→Shared→Prop} (I:Inv X bEP σ H s) (hN:X.N.Nodup) (hi:X.N[i]?=some x) (hx:Loc X.env.scope x) (r:RelV v u)
  (h:∀s',Inv X bEP (σ.set i (some v)) H s'→Q () s') (hf:X.fn x=true∨X.env.scope.names.lookup x=some .local:=by first|exact .inl rfl|exact .inr rfl|assumption):wpAny M A (storeName X.env x u) Q E s:=
 aDk I hN hi hx r (fun s' I' _=>h s' I') hf
theorem Inv.call' {s':Shared} {ch:List Addr} (I:Inv X bEP σ H s) (ho:s'.os=s.os) (u:Un (frs X.stack) ch H H' s.heap s'.heap) (hok:HOk X.prog X.w H' s'.heap) (hg:AllBare s'.gens)
  (hch:∀b∈ch,(b∈X.ex∨X.s₀.heap.objs.size≤b)∧b≠X.env.locals∧(∀x c,X.env.cells.lookup x=some c→c≠b)∧∀p∈X.pn++bEP,p.1≠b):Inv X bEP σ H' s':=by
 obtain ⟨h',g',d',t',o'⟩:=s';have e:o'=s.os:=ho;subst e;exact I.call (g':=g') (t':=t') (d':=d') u hok hg hch
end
abbrev XK:=Value→Option Addr→Hp→Prop
abbrev St:=List (Option V)
abbrev VK:=V→Hp→Prop
abbrev TE:=St→Hp→VK→Prop
abbrev TT:=St→Hp→(Bool→Hp→Prop)→Prop
abbrev TA:=St→Hp→(List V→Hp→Prop)→Prop
structure Ends where
 nx:St→Hp→Prop
 rt:VK
 bk:St→Hp→Prop:=fun _ _=>False
 ct:St→Hp→Prop:=fun _ _=>False
abbrev TS:=Ends→St→Hp→Prop
def EP (X:Cx) (bEP:bEN) (σ:St) (Q:VK) (u:Value) (s':Shared):Prop:=∃v H',Inv X bEP σ H' s'∧RelV v u∧Q v H'
def TP (X:Cx) (bEP:bEN) (σ:St) (Q:Bool→Hp→Prop) (b:Bool) (s':Shared):Prop:=∃H',Inv X bEP σ H' s'∧Q b H'
def AP (X:Cx) (bEP:bEN) (σ:St) (Q:List V→Hp→Prop) (us:List Value) (s':Shared):Prop:=∃vs H',Inv X bEP σ H' s'∧Vals vs us∧Q vs H'
def SP (X:Cx) (bEP:bEN) (D:Ends) (f:Flow) (s':Shared):Prop:=
 match f with
 |.next=>∃σ' H',Inv X bEP σ' H' s'∧D.nx σ' H'
 |.brk=>∃σ' H',Inv X bEP σ' H' s'∧D.bk σ' H'
 |.cont=>∃σ' H',Inv X bEP σ' H' s'∧D.ct σ' H'
 |.ret u=>∃v σ' H',Inv X bEP σ' H' s'∧RelV v u∧D.rt v H'
def PE (X:Cx) (e:Expr) (t:TE):Prop:=
 ∀(bEP:bEN) (s:Shared) (σ:St) (H:Hp) (Q:VK),Inv X bEP σ H s→t σ H Q→wpAny (model X.prog X.w) X.A (eval e X.env) (EP X bEP σ Q) X.xe s
def PT (X:Cx) (e:Expr) (t:TT):Prop:=
 ∀(bEP:bEN) (s:Shared) (σ:St) (H:Hp) (Q:Bool→Hp→Prop),Inv X bEP σ H s→t σ H Q→wpAny (model X.prog X.w) X.A (isTrue e X.env (eval e X.env)) (TP X bEP σ Q) X.xe s
def PW (X:Cx) (e:Expr) (t:TT):Prop:=
 ∀(whole:Sem Value) (bEP:bEN) (s:Shared) (σ:St) (H:Hp) (Q:Bool→Hp→Prop),Inv X bEP σ H s→t σ H Q→wpAny (model X.prog X.w) X.A (isTrue e X.env whole) (TP X bEP σ Q) X.xe s
theorem PW.pt {X:Cx} {e:Expr} {t:TT} (h:PW X e t):PT X e t:=h _
def PA (X:Cx) (es:List Expr) (t:TA):Prop:=
 ∀(pos:Pos) (bEP:bEN) (s:Shared) (σ:St) (H:Hp) (Q:List V→Hp→Prop),Inv X bEP σ H s→t σ H Q→wpAny (model X.prog X.w) X.A (spliced (backTo pos (starEach es X.env))) (AP X bEP σ Q) X.xe s
def PS (X:Cx) (st:Stmt) (t:TS):Prop:=
 ∀(bEP:bEN) (s:Shared) (σ:St) (H:Hp) (D:Ends),Inv X bEP σ H s→t D σ H→wpAny (model X.prog X.w) X.A (exec st X.env) (SP X bEP D) X.xe s
def PSs (X:Cx) (st:List Stmt) (t:TS):Prop:=
 ∀(bEP:bEN) (s:Shared) (σ:St) (H:Hp) (D:Ends),Inv X bEP σ H s→t D σ H→wpAny (model X.prog X.w) X.A (execs st X.env) (SP X bEP D) X.xe s
theorem thn {α:Type} {t:Sem α} {Q Q':α→Shared→Prop} {M:Model} {A:Around} {E:bEM} {s:Shared} (h:wpAny M A t Q E s) (hQ:∀a s,Q a s→Q' a s):wpAny M A t Q' E s:=bA4 h hQ fun _ _ x=>x
section
variable {X:Cx}
def uP (i:Nat):TE:=fun σ H Q=>∃v,σ[i]?=some (some v)∧Q v H
def tC (v:V):TE:=fun _ H Q=>Q v H
theorem aYa {i:Nat} {x:Str} {pos:Pos} (hN:X.N[i]?=some x) (hv:Vis X.env.scope x) (hd:(x == ("__debug__":Str))=false:=by decide) (hcd:(x == ("__classdict__":Str))=false:=by decide):PE X (.Name x pos) (uP i):=by
 intro bEP s σ H Q I h;obtain ⟨v,e,h⟩:=h;obtain ⟨m,hn,hl⟩:=I.loc;obtain ⟨u,r,l⟩:=hl i x v hN e hv;have fin:EP X bEP σ Q u s:=⟨v,H,I,r,h⟩;rcases l with ⟨hk,hm⟩|⟨hk,c,hc,hcell⟩
 ·exact wpAny_Name (wpAny_loadName_local I.ok.kind hk hn hm fin) hd
 ·rcases hk with hk|hk
  ·exact wpAny_Name (wpAny_loadName_cell I.ok.kind hk hc hcell fin) hd
  ·exact wpAny_Name (wpAny_loadName_free I.ok.kind hk hc hcell fin hcd) hd
theorem aXl {i j pos}:PE X (.Constant (.int i) j pos) (tC (.int i)):=fun _ _ _ H _ I h=>wpAny_Constant_int ⟨.int i,H,I.tok _,⟨_,rfl⟩,h⟩
theorem aZ2 {b j pos}:PE X (.Constant (.bool b) j pos) (tC (.bl b)):=fun _ _ _ H _ I h=>Constant_bool ⟨.bl b,H,I,rfl,h⟩
theorem aX9 {j pos}:PE X (.Constant .none j pos) (tC .non):=fun _ _ _ H _ I h=>Constant_none ⟨.non,H,I,rfl,h⟩
theorem aW1 {x j pos}:PE X (.Constant (.str x) j pos) (tC (.str x)):=fun _ _ _ H _ I h=>Calls.Constant_str ⟨.str x,H,I.tok _,⟨_,rfl⟩,h⟩
def Gl (X:Cx) (x:Str):Prop:=X.env.kindOf x=some .globalImplicit
theorem nY {E:bEM} {bEP:bEN} {s:Shared} {σ:St} {H:Hp} {x:Str} {u:Value} {pos:Pos} {Q:bEM} (I:Inv X bEP σ H s) (hg:Gl X x) (hm:X.mg x=some u) (h:Q u s)
  (hd:(x == ("__debug__":Str))=false:=by decide):wpAny (model X.prog X.w) X.A (eval (.Name x pos) X.env) Q E s:=
 bC6 I.ok.kind hg (Calls.loadGlobal_global (by rw [I.ok.glob];exact I.mod.glob.keeps I.bk) hm h) hd
theorem oY {E:bEM} {bEP:bEN} {s:Shared} {σ:St} {H:Hp} {x:Str} {u:Value} {pos:Pos} {Q:bEM} (I:Inv X bEP σ H s) (hg:Gl X x) (hm:X.mg x=none) (hv:bootBuiltins x=some u) (h:Q u s)
  (hn:x≠"__name__":=by decide) (hd:(x == ("__debug__":Str))=false:=by decide):wpAny (model X.prog X.w) X.A (eval (.Name x pos) X.env) Q E s:=by
 obtain ⟨mb,h1,h2⟩:=I.mod.blt;exact bC6 I.ok.kind hg (Calls.loadGlobal_builtin (by rw [I.ok.glob];exact I.mod.glob.keeps I.bk) hm (by rw [I.ok.blt];exact h1.keeps I.bk) ((h2 x hn).trans hv) h) hd
theorem aVq {x:Str} {v:V} {u:Value} {pos:Pos} (hg:Gl X x) (hm:X.mg x=some u) (r:RelV v u) (hd:(x == ("__debug__":Str))=false:=by decide):PE X (.Name x pos) (tC v):=
 fun _ _ _ H _ I h=>nY I hg hm ⟨v,H,I,r,h⟩ hd
theorem aVf {x:Str} {v:V} {u:Value} {pos:Pos} (hg:Gl X x) (hm:X.mg x=none) (hv:bootBuiltins x=some u) (r:RelV v u) (hn:x≠"__name__":=by decide) (hd:(x == ("__debug__":Str))=false:=by decide):PE X (.Name x pos) (tC v):=
 fun _ _ _ H _ I h=>oY I hg hm hv ⟨v,H,I,r,h⟩ hn hd
variable {a b:Expr} {ta tb:TE} {pos:Pos}
def PC (X:Cx) (op:CmpOp) (a b:Expr) (t:TE):Prop:=
 ∀(bEP:bEN) (s:Shared) (σ:St) (H:Hp) (Q:VK),Inv X bEP σ H s→t σ H Q →
  wpAny (model X.prog X.w) X.A (eval a X.env) (fun v s₁=>wpAny (model X.prog X.w) X.A (eval b X.env) (fun u s₂=>wpAny (model X.prog X.w) X.A (compareOp op v u) (EP X bEP σ Q) X.xe s₂) X.xe s₁) X.xe s
def tB (t:TE):TT:=fun σ H Q=>t σ H fun x H1=>∃c,x=.bl c∧Q c H1
theorem aRm {op:CmpOp} {t:TE} (h:PC X op a b t) (h1:behindInMarks op b=false:=by first|exact nobehind _ (by decide) (by decide)|rfl):PT X (.Compare a [op] [b] pos) (tB t):=by intro bEP s σ H Q I hw;refine wpAny_isTrue_Compare1 (thn (h bEP s σ H _ I hw) fun v s1 h1=>thn h1 fun u s2 h2=>thn h2 fun c s3 ⟨x,H1,I1,r1,q1⟩=>?_) h1;obtain ⟨d,rfl,q⟩:=q1;cases r1;exact bBA ⟨H1,I1,q⟩
theorem aWs {e:Expr} {t:TE} (h:PE X e t) (he:∀whole,isTrue e X.env whole=(do let v ←whole;standAt e.pos;holding [v] (truthy v)):=by intro _;rfl):PT X e (tB t):=by intro bEP s σ H Q I hw;refine isTrue_plain (thn (h bEP s σ H _ I hw) fun v s1 ⟨x,H1,I1,r1,q1⟩=>?_) (he _);obtain ⟨d,rfl,q⟩:=q1;cases r1;exact bBA ⟨H1,I1,q⟩
variable {tA tB':TT} {rest:List Expr}
def aZ1 (t u:TT):TT:=fun σ H Q=>t σ H fun c H1=>if c=true then u σ H1 Q else Q false H1
def tOr (t u:TT):TT:=fun σ H Q=>t σ H fun c H1=>if c=true then Q true H1 else u σ H1 Q
def aX4 (t:TT):TT:=fun σ H Q=>t σ H fun c H1=>Q (!c) H1
theorem aVe (ha:PT X a tA):PW X (.BoolOp .And [a] pos) tA:=by
 intro wh bEP s σ H Q I h;refine isTrue_and (thn (ha bEP s σ H Q I h) fun c s1 e=>?_);cases c with
 |true=>exact isTrue_and_nil e
 |false=>exact e
theorem aYu (ha:PT X a tA):PW X (.BoolOp .Or [a] pos) tA:=by
 intro wh bEP s σ H Q I h;refine isTrue_or (thn (ha bEP s σ H Q I h) fun c s1 e=>?_);cases c with
 |false=>exact isTrue_or_nil e
 |true=>exact e
theorem aXe (ha:PT X a tA) (hb:PW X (.BoolOp .And (b::rest) pos) tB'):PW X (.BoolOp .And (a::b::rest) pos) (aZ1 tA tB'):=by
 intro wh bEP s σ H Q I h;refine isTrue_and (thn (ha bEP s σ H _ I h) fun c s1 ⟨H1,I1,q1⟩=>?_);cases c with
 |true=>exact hb wh bEP s1 σ H1 Q I1 q1
 |false=>exact ⟨H1,I1,q1⟩
theorem aZq (ha:PT X a tA) (hb:PW X (.BoolOp .Or (b::rest) pos) tB'):PW X (.BoolOp .Or (a::b::rest) pos) (tOr tA tB'):=by
 intro wh bEP s σ H Q I h;refine isTrue_or (thn (ha bEP s σ H _ I h) fun c s1 ⟨H1,I1,q1⟩=>?_);cases c with
 |true=>exact ⟨H1,I1,q1⟩
 |false=>exact hb wh bEP s1 σ H1 Q I1 q1
theorem aWm (ha:PT X a tA):PT X (.UnaryOp .Not a pos) (aX4 tA):=by intro bEP s σ H Q I h;exact isTrue_not (ha bEP s σ H (fun c H1=>Q (!c) H1) I h)
def aWe (ta tb:TE):TE:=fun σ H Q=>ta σ H fun x H1=>∃c,x=.bl c∧if c=true then tb σ H1 Q else Q (.bl false) H1
def aZd (ta tb:TE):TE:=fun σ H Q=>ta σ H fun x H1=>∃c,x=.bl c∧if c=true then Q (.bl true) H1 else tb σ H1 Q
def aWb (ta:TE):TE:=fun σ H Q=>ta σ H fun x H1=>∃c,x=.bl c∧Q (.bl (!c)) H1
theorem aWy {op} {t:TE} (h:PE X a t):PE X (.BoolOp op [a] pos) t:=fun bEP s σ H Q I hw=>BoolOp_one (h bEP s σ H Q I hw)
theorem aXf (ha:PE X a ta) (hb:PE X (.BoolOp .And (b::rest) pos) tb):PE X (.BoolOp .And (a::b::rest) pos) (aWe ta tb):=by
 intro bEP s σ H Q I h;refine BoolOp_and (thn (ha bEP s σ H _ I h) fun v s1 ⟨x,H1,I1,r1,q1⟩=>?_);obtain ⟨c,rfl,q1⟩:=q1;cases r1;refine bBA ?_;cases c with
 |true=>exact hb bEP s1 σ H1 Q I1 q1
 |false=>exact ⟨.bl false,H1,I1,rfl,q1⟩
theorem bAd (ha:PE X a ta) (hb:PE X (.BoolOp .Or (b::rest) pos) tb):PE X (.BoolOp .Or (a::b::rest) pos) (aZd ta tb):=by
 intro bEP s σ H Q I h;refine BoolOp_or (thn (ha bEP s σ H _ I h) fun v s1 ⟨x,H1,I1,r1,q1⟩=>?_);obtain ⟨c,rfl,q1⟩:=q1;cases r1;refine bBA ?_;cases c with
 |false=>exact hb bEP s1 σ H1 Q I1 q1
 |true=>exact ⟨.bl true,H1,I1,rfl,q1⟩
theorem aYc (ha:PE X a ta):PE X (.UnaryOp .Not a pos) (aWb ta):=by intro bEP s σ H Q I h;refine UnaryOp_ (thn (ha bEP s σ H _ I h) fun v s1 ⟨x,H1,I1,r1,q1⟩=>?_);obtain ⟨c,rfl,q1⟩:=q1;cases r1;exact not_of (bBA ⟨.bl (!c),H1,I1,rfl,q1⟩)
def tIf (t:TT) (ta tb:TE):TE:=fun σ H Q=>t σ H fun c H1=>if c=true then ta σ H1 Q else tb σ H1 Q
theorem aRd {c:Expr} (hc:PT X c tA) (ha:PE X a ta) (hb:PE X b tb):PE X (.IfExp c a b pos) (tIf tA ta tb):=by
 intro bEP s σ H Q I h;refine wpAny_IfExp (thn (hc bEP s σ H _ I h) fun d s1 ⟨H1,I1,q1⟩=>?_);cases d with
 |true=>exact ha bEP s1 σ H1 Q I1 q1
 |false=>exact hb bEP s1 σ H1 Q I1 q1
end
def SqL (K:bEL) (H:Hp) (a:Addr) (xs:List V):Prop:=
 Rd H a (.lst xs) ∨
  ∃(o:Obj) (its:Array Value) (n:Nat),K.lookup a=some o∧o.cls=.type "list"∧o.dict=none∧o.data=.seq its n∧its.size≤sizeLine∧Vals xs its.toList
def SqT (K:bEL) (H:Hp) (a:Addr) (xs:List V):Prop:=
 Rd H a (.tup xs) ∨
  ∃(o:Obj) (its:Array Value) (n:Nat),K.lookup a=some o∧o.cls=.type "tuple"∧o.dict=none∧o.data=.seq its n∧its.size≤sizeLine∧Vals xs its.toList
def bAx:Value→Option V
 |.none=>some .non
 |.bool b=>some (.bl b)
 |.int i _=>some (.int i)
 |.str x _=>some (.str x)
 |.bytes b _=>some (.byt b)
 |.float b _=>some (.flt b)
 |.ref a=>some (.ref a)
 |.type n=>some (.ty n)
 |_=>none
theorem RelV.abs {x:V} {u:Value} (r:RelV x u):bAx u=some x:=by
 cases x with
 |non=>cases r;rfl
 |bl _=>cases r;rfl
 |int _=>obtain ⟨t,rfl⟩:=r;rfl
 |str _=>obtain ⟨t,rfl⟩:=r;rfl
 |byt _=>obtain ⟨t,rfl⟩:=r;rfl
 |flt _=>obtain ⟨t,rfl⟩:=r;rfl
 |ref _=>cases r;rfl
 |ty _=>cases r;rfl
theorem RelV.inj {x y:V} {u:Value} (r:RelV x u) (q:RelV y u):x=y:=bAQ (r.abs.symm.trans q.abs)
theorem Vals.inj:∀{xs ys:List V} {us:List Value},Vals xs us→Vals ys us→xs=ys
 |_,_,_,.nil,.nil=>rfl
 |_,_,_,.cons r t,.cons r' t'=>by rw [r.inj r',Vals.inj t t']
section
variable {X:Cx} {bEP:bEN} {σ:St} {H:Hp} {s:Shared} {a:Addr} {xs ys:List V}
theorem SqL.of {K:bEL} (h:H a=some (.lst xs)):SqL K H a xs:=.inl (.inl h)
theorem SqT.of {K:bEL} (h:H a=some (.tup xs)):SqT K H a xs:=.inl (.inl h)
theorem Inv.list (I:Inv X bEP σ H s) (h:SqL X.K H a xs):∃its:List Value,Vals xs its∧PlainL s.heap a its.toArray∧xs.length≤sizeLine:=by
 rcases h with h|⟨o,its,n,hk,hc,hd,hs,hz,r⟩
 ·obtain ⟨z,its,n,r,e⟩:=h.ok I.hok;exact ⟨its,r,⟨_,n,e,rfl,rfl,rfl⟩,z⟩
 ·refine ⟨its.toList,r,⟨o,n,I.kIn a o hk,hc,hd,by simpa using hs⟩,?_⟩;have e:=r.length;simp only [v9] at e;lia
theorem Inv.tuple (I:Inv X bEP σ H s) (h:SqT X.K H a xs):∃its:List Value,Vals xs its∧IsTup s.heap a its.toArray∧xs.length≤sizeLine:=by
 rcases h with h|⟨o,its,n,hk,hc,hd,hs,hz,r⟩
 ·obtain ⟨z,its,r,p⟩:=h.ok I.hok;exact ⟨its,r,p.1,z⟩
 ·refine ⟨its.toList,r,⟨o,I.kIn a o hk,hc,n,by simpa using hs⟩,?_⟩;have e:=r.length;simp only [v9] at e;lia
theorem Inv.bAs (I:Inv X bEP σ H s) (h:SqT X.K H a xs):∃its:List Value,Vals xs its∧wJ s.heap a its.toArray∧xs.length≤sizeLine:=by
 rcases h with h|⟨o,its,n,hk,hc,hd,hs,hz,r⟩
 ·obtain ⟨z,its,r,p⟩:=h.ok I.hok;exact ⟨its,r,p,z⟩
 ·refine ⟨its.toList,r,.of (I.kIn a o hk) hd ⟨o,I.kIn a o hk,hc,n,by simpa using hs⟩,?_⟩;have e:=r.length;simp only [v9] at e;lia
theorem Inv.aQ6 (I:Inv X bEP σ H s) (h:SqL X.K H a xs) (h':SqL X.K H a ys):xs=ys:=by
 obtain ⟨its,r,⟨o,n,e,_,_,d⟩,_⟩:=I.list h;obtain ⟨its',r',⟨o',n',e',_,_,d'⟩,_⟩:=I.list h';rw [e] at e';cases e';rw [d] at d';injection d' with d1 _;have:its=its':=by simpa using congrArg Array.toList d1
 subst this;exact r.inj r'
theorem Inv.aO0 (I:Inv X bEP σ H s) (h:SqT X.K H a xs) (h':SqT X.K H a ys):xs=ys:=by
 obtain ⟨its,r,⟨o,e,_,n,d⟩,_⟩:=I.tuple h;obtain ⟨its',r',⟨o',e',_,n',d'⟩,_⟩:=I.tuple h';rw [e] at e';cases e';rw [d] at d';injection d' with d1 _;have:its=its':=by simpa using congrArg Array.toList d1
 subst this;exact r.inj r'
end
abbrev Cx.wish (X:Cx) (E:bEM):Cx:={ X with xe:=E }
abbrev Cx.nox (X:Cx):Cx:=X.wish fun _ _=>False
theorem Cx.Ok.wish {X:Cx} (ok:X.Ok) (E:bEM):(X.wish E).Ok:=
 ⟨ok.mod,ok.kind,ok.glob,ok.blt,ok.above,ok.inj,ok.has,ok.cab,ok.hd,ok.frames,ok.stk,ok.exf,ok.bs,ok.bsz,ok.noex,ok.exfs,ok.funs,ok.frf⟩
theorem Cx.Ok.qR {X:Cx} {E:bEM} (ok:(X.wish E).Ok):X.Ok:=
 ⟨ok.mod,ok.kind,ok.glob,ok.blt,ok.above,ok.inj,ok.has,ok.cab,ok.hd,ok.frames,ok.stk,ok.exf,ok.bs,ok.bsz,ok.noex,ok.exfs,ok.funs,ok.frf⟩
section
variable {X:Cx} {bEP:bEN} {σ:St} {H:Hp} {s:Shared} {E:bEM}
theorem Inv.wish (I:Inv X bEP σ H s) (E:bEM):Inv (X.wish E) bEP σ H s:=⟨I.ok.wish E,I.os,I.bare,I.base,I.loc,I.cell,I.free,I.freeC,I.pin,I.hok,I.len⟩
theorem Inv.qR (I:Inv (X.wish E) bEP σ H s):Inv X bEP σ H s:=⟨I.ok.qR,I.os,I.bare,I.base,I.loc,I.cell,I.free,I.freeC,I.pin,I.hok,I.len⟩
theorem SP.qR {D:Ends} {f:Flow} {s':Shared} (h:SP (X.wish E) bEP D f s'):SP X bEP D f s':=by
 cases f with
 |next=>obtain ⟨σ',H',I,q⟩:=h;exact ⟨σ',H',I.qR,q⟩
 |brk=>obtain ⟨σ',H',I,q⟩:=h;exact ⟨σ',H',I.qR,q⟩
 |cont=>obtain ⟨σ',H',I,q⟩:=h;exact ⟨σ',H',I.qR,q⟩
 |ret u=>obtain ⟨v,σ',H',I,r,q⟩:=h;exact ⟨v,σ',H',I.qR,r,q⟩
theorem PSs.nox {st:List Stmt} {t:TS} (h:PSs X.nox st t):PSs X st t:=fun bEP s σ H D I hw=>
 bA4 (h bEP s σ H D (I.wish _) hw) (fun _ _ q=>q.qR) fun _ _ z=>False.elim z
end
section
variable {X:Cx} {st:Stmt} {rest:List Stmt} {t u:TS} {e:Expr} {te:TE} {pos:Pos}
def sS:TS:=fun D σ H=>D.nx σ H
def aCf (t u:TS):TS:=fun D σ H=>t { D with nx:=u D } σ H
theorem aTl:PSs X [] sS:=fun _ _ σ H _ I h=>bD5 ⟨σ,H,I,h⟩
theorem aSv (h1:PS X st t) (h2:PSs X rest u):PSs X (st::rest) (aCf t u):=by
 intro bEP s σ H D I h;refine wpAny_execs_cons (thn (h1 bEP s σ H { D with nx:=u D } I h) fun f s1 q=>?_);cases f with
 |next=>obtain ⟨σ',H',I',q⟩:=q;exact h2 bEP s1 σ' H' D I' q
 |ret v=>exact q
 |brk=>exact q
 |cont=>exact q
theorem aU8 (h1:PS X st t):PSs X [st] t:=by
 intro bEP s σ H D I h;refine wpAny_execs_cons (thn (h1 bEP s σ H D I h) fun f s1 q=>?_);cases f with
 |next=>exact bD5 q
 |ret v=>exact q
 |brk=>exact q
 |cont=>exact q
theorem Inv.quiet {bEP:bEN} {σ:St} {H:Hp} {s:Shared} (I:Inv X bEP σ H s):interactive X.env=false:=by simp [interactive,I.ok.kind]
def aMe (te:TE):TS:=fun D σ H=>te σ H fun _ H1=>D.nx σ H1
theorem aMc (he:PE X e te) (hs:swapsWith e none pos.line X.env=pure false:=by rfl):PS X (.Expr e pos) (aMe te):=by intro bEP s σ H D I h;exact wpAny_Expr_any (thn (he bEP s σ H _ I h) fun v s1 ⟨x,H1,I1,r1,q1⟩=>⟨σ,H1,I1,q1⟩) I.quiet hs
def uT (te:TE):TS:=fun D σ H=>te σ H D.rt
theorem aX7 (he:PE X e te):PS X (.Return (some e) pos) (uT te):=by intro bEP s σ H D I h;exact wpAny_Return_some (thn (he bEP s σ H _ I h) fun v s1 ⟨x,H1,I1,r1,q1⟩=>⟨x,σ,H1,I1,r1,q1⟩)
def aN6 (c:TT) (t u:TS):TS:=fun D σ H=>c σ H fun b H1=>if b=true then t D σ H1 else u D σ H1
theorem aZg {c:Expr} {a b:List Stmt} {tc:TT} (hc:PT X c tc) (ha:PSs X a t) (hb:PSs X b u):PS X (.If c a b pos) (aN6 tc t u):=by
 intro bEP s σ H D I h;refine wpAny_If (thn (hc bEP s σ H _ I h) fun d s1 ⟨H1,I1,q1⟩=>?_);cases d with
 |true=>exact ha bEP s1 σ H1 D I1 q1
 |false=>exact hb bEP s1 σ H1 D I1 q1
def aSo:TS:=fun _ _ _=>False
theorem aQn:PS X st aSo:=fun _ _ _ _ _ _ h=>h.elim
end
abbrev TG:=V→St→Hp→(St→Hp→Prop)→Prop
abbrev TGs:=List V→St→Hp→(St→Hp→Prop)→Prop
def PG (X:Cx) (target:Expr) (t:TG):Prop:=
 ∀(bEP:bEN) (s:Shared) (σ:St) (H:Hp) (v:V) (u:Value) (Q:St→Hp→Prop),Inv X bEP σ H s→RelV v u→t v σ H Q →
  wpAny (model X.prog X.w) X.A (assign target X.env u) (fun _ s'=>∃σ' H',Inv X bEP σ' H' s'∧Q σ' H') X.xe s
def PGs (X:Cx) (ts:List Expr) (t:TGs):Prop:=
 ∀(bEP:bEN) (s:Shared) (σ:St) (H:Hp) (vs:List V) (us:List Value) (Q:St→Hp→Prop),Inv X bEP σ H s→Vals vs us→t vs σ H Q →
  wpAny (model X.prog X.w) X.A (assignInOrder ((assignEach ts X.env).map (·.2)) us) (fun _ s'=>∃σ' H',Inv X bEP σ' H' s'∧Q σ' H') X.xe s
abbrev aVs:=V→V→V→Hp→(Hp→Prop)→Prop
def aW9 (X:Cx) (t:aVs):Prop:=
 ∀(bEP:bEN) (s:Shared) (σ:St) (H:Hp) (o i v:V) (ov iv u:Value) (Q:Hp→Prop),Inv X bEP σ H s→RelV o ov→RelV i iv→RelV v u→t o i v H Q →
  wpAny (model X.prog X.w) X.A (setItem ov iv u) (fun _ s'=>∃H',Inv X bEP σ H' s'∧Q H') X.xe s
section
variable {X:Cx} {pos:Pos}
def cO (i:Nat):TG:=fun v σ H Q=>Q (σ.set i (some v)) H
theorem aUm {i:Nat} {x:Str} (hN:X.N.Nodup) (hi:X.N[i]?=some x) (hx:Loc X.env.scope x) (hf:X.fn x=true∨X.env.scope.names.lookup x=some .local:=by first|exact .inl rfl|exact .inr rfl|assumption):PG X (.Name x pos) (cO i):=by intro bEP s σ H v u Q I r h;exact wpAny_assign_Name (aGb I hN hi hx r (fun s' I'=>⟨_,H,I',h⟩) hf)
def aO3:TGs:=fun vs σ H Q=>vs=[]∧Q σ H
def sJ (t:TG) (u:TGs):TGs:=fun vs σ H Q=>∃v r,vs=v::r∧t v σ H fun σ' H'=>u r σ' H' Q
theorem aU4:PGs X [] aO3:=by intro bEP s σ H vs us Q I r h;obtain ⟨e,h⟩:=h;subst e;cases r;exact assignInOrder_nil ⟨σ,H,I,h⟩
theorem aSl {e:Expr} {es:List Expr} {t:TG} {u:TGs} (h1:PG X e t) (h2:PGs X es u)
  (hs:(assignEach (e::es) X.env).map (·.2)=assign e X.env::(assignEach es X.env).map (·.2):=by rfl):PGs X (e::es) (sJ t u):=by
 intro bEP s σ H vs us Q I r h;obtain ⟨v,vr,e1,h⟩:=h;subst e1;cases r with
 |cons r rr=>rw [hs];refine assignInOrder_cons (thn (h1 bEP s σ H _ _ _ I r h) fun _ s1 ⟨σ1,H1,I1,q1⟩=>?_);exact h2 bEP s1 σ1 H1 _ _ Q I1 rr q1
def aKj (K:bEL) (n:Nat) (t:TGs):TG:=fun v σ H Q=>∃a xs,v=.ref a∧SqT K H a xs∧xs.length=n∧t xs σ H Q
theorem aXa {es:List Expr} {k:Nat} {t:TGs} {n:Nat} (hc:X.calm=true) (h:PGs X es t)
  (hn:(assignEach es X.env).length=n:=by rfl) (hst:(assignEach es X.env).findIdx? (·.1)=none:=by rfl):PG X (.Tuple es k pos) (aKj X.K n t):=by
 intro bEP s σ H v u Q I r hw;obtain ⟨a,xs,e1,hq,hl,hw⟩:=hw;subst e1;cases r;obtain ⟨its,rv,ht,hz⟩:=I.tuple hq;refine assign_Tuple_tuple (I.ok.hd hc) ht (by simp [hn,←hl,rv.length]) hst fun h' hx=>?_;have I1:Inv X bEP σ H { s with heap:=h' }:=I.kept (t':=s.toks) fun b o e=>hx b o (m9 (j8 e)) e;exact h bEP _ σ H xs _ Q I1 (by simpa using rv) hw
def aY8 (to ti:TE) (t:aVs):TG:=fun v σ H Q=>to σ H fun o H1=>ti σ H1 fun i H2=>t o i v H2 fun H3=>Q σ H3
theorem aW8 {o i:Expr} {to ti:TE} {t:aVs} (ho:PE X o to) (hi:PE X i ti) (hs:aW9 X t)
  (ha:∀v,assign (.Subscript o i pos) X.env v=(do
   let ov ←holding [v] (eval o X.env)
   let iv ←holding [v,ov] (eval i X.env)
   standAt pos
   holding [v,ov,iv] (setItem ov iv v)
   release [v,ov,iv] []):=by intro _;rfl):PG X (.Subscript o i pos) (aY8 to ti t):=by
 intro bEP s σ H v u Q I r h;rw [ha];refine c7 (bAV (thn (ho bEP s σ H _ I h) fun ov s1 ⟨x,H1,I1,r1,q1⟩=>?_));refine c7 (bAV (thn (hi bEP s1 σ H1 _ I1 q1) fun iv s2 ⟨y,H2,I2,r2,q2⟩=>?_));refine c7 (bDD (c7 (bAV (thn (hs bEP s2 σ H2 x y v ov iv u _ I2 r1 r2 r q2) fun _ s3 ⟨H3,I3,q3⟩=>?_))));exact wpAny_release ⟨σ,H3,I3,q3⟩
def yI (te:TE) (g:TG):TS:=fun D σ H=>te σ H fun x H1=>g x σ H1 D.nx
theorem aYq {tg e:Expr} {te:TE} {g:TG} (he:PE X e te) (hg:PG X tg g) (hs:swapsWithSole [tg] e pos.line X.env=pure false:=by rfl) (hw:swappedStores [tg] e X.env=pure none:=by rfl)
  (h1:(assignEach [tg] X.env).map (·.2)=[assign tg X.env]:=by rfl):PS X (.Assign [tg] e pos) (yI te g):=by
 intro bEP s σ H D I h;refine wpAny_Assign_stores (thn (he bEP s σ H _ I h) fun v s1 ⟨x,H1,I1,r1,q1⟩=>?_) hs hw;rw [h1];exact thn (hg bEP s1 σ H1 x v _ I1 r1 q1) fun _ s2 q=>q
theorem aY2 {i:Nat} {x:Str} {e:Expr} {te:TE} {pos':Pos} (hN:X.N.Nodup) (hi:X.N[i]?=some x) (hx:Loc X.env.scope x) (he:PE X e te) (hs:swapsWith e (some (.Name x pos')) pos.line X.env=pure false:=by rfl) (hf:X.fn x=true∨X.env.scope.names.lookup x=some .local:=by first|exact .inl rfl|exact .inr rfl|assumption) :
  PS X (.Assign [.Name x pos'] e pos) (yI te (cO i)):=by
 intro bEP s σ H D I h;refine wpAny_Assign_Name (thn (he bEP s σ H _ I h) fun v s1 ⟨y,H1,I1,r1,q1⟩=>?_) hs;exact aGb I1 hN hi hx r1 (fun s2 I2=>⟨_,H1,I2,q1⟩) hf
end
structure It where
 go:Nat→Hp→Prop
 yld:Nat→Hp→V→Hp→Prop
 stop:Nat→Hp→Prop
def sH (X:Cx) (bEP:bEN) (H:Hp) (b:Addr):Prop:=
 H b=none∧b≠X.env.locals∧b∉X.fs∧(b∈X.ex∨X.s₀.heap.objs.size≤b)∧(∀x c,X.env.cells.lookup x=some c→c≠b)∧∀p∈X.pn++bEP,p.1≠b
theorem Inv.aFh {X:Cx} {bEP:bEN} {σ:St} {H H':Hp} {s:Shared} {b:Addr} (I:Inv X bEP σ H s) (hb:s.heap.objs.size≤b) (hn:H' b=none):sH X bEP H' b:=by
 refine ⟨hn,bBL (bAA I.lt hb),I.nofs hb,.inr (bAR I.sz hb),fun x c e z=>?_,fun p hp z=>?_⟩
 ·obtain ⟨v,q⟩:=I.cell x c e;exact absurd (bAA q.lt (by rw [z];exact hb)) (bBI _)
 ·exact absurd (bAA (j8 (I.pin p hp).1) (by rw [z];exact hb)) (bBI _)
structure Turn (P:Program) (w:World) (K:bEL) (tg:Expr) (J:It) (fp:List Addr) (it:Addr) (tn:Nat→Heap→Prop):Prop where
 mem:it∈fp
 obj:∀i h,tn i h→∀b∈fp,∃o,h.get? b=some o∧∀v,o.data≠.cell v
 keep:∀i h h',tn i h→(∀b∈fp,∀o,h.get? b=some o→h'.get? b=some o)→tn i h'
 item:∀(X:Cx),X.prog=P→X.w=w→X.K=K→X.calm=true→∀(i:Nat) (bEP:bEN) (s:Shared) (σ:St) (H:Hp) (E:bEM),Inv X bEP σ H s→(∀b∈fp,sH X bEP H b)→tn i s.heap→J.go i H →
  wpAny (model P w) X.A (pyNext (.ref it)) (fun r s1=>∃u,r=some u ∧
   wpAny (model P w) X.A (letOwnedTupleGo tg (.ref it) u) (fun _ s2=>∃x H',Inv X bEP σ H' s2∧RelV x u∧J.yld i H x H'∧tn (i+1) s2.heap∧∀b∈fp,H' b=none) E s1) E s
 done:∀(X:Cx),X.prog=P→X.w=w→X.K=K→X.calm=true→∀(i:Nat) (bEP:bEN) (s:Shared) (σ:St) (H:Hp) (E:bEM),Inv X bEP σ H s→(∀b∈fp,sH X bEP H b)→tn i s.heap→J.stop i H →
  wpAny (model P w) X.A (pyNext (.ref it)) (fun r s1=>r=none∧Inv X bEP σ H s1) E s
 self:∀(A:Around) (i:Nat) (s:Shared) (Q:bEM) (E:bEM),tn i s.heap→Q (.ref it) s→wpAny (model P w) A (pyIter (.ref it)) Q E s
abbrev TI:=St→Hp→(It→Hp→Prop)→Prop
def PIE (X:Cx) (bEP:bEN) (σ:St) (tg:Expr) (R:It→Hp→Prop) (itv:Value) (s2:Shared):Prop:=
 ∃(it:Addr) (fp:List Addr) (tn:Nat→Heap→Prop) (J:It) (H':Hp),itv=.ref it∧Inv X bEP σ H' s2∧Turn X.prog X.w X.K tg J fp it tn∧tn 0 s2.heap∧(∀b∈fp,sH X bEP H' b)∧R J H'
def PI (X:Cx) (tg iter:Expr) (wi:TI):Prop:=
 ∀(bEP:bEN) (s:Shared) (σ:St) (H:Hp) (R:It→Hp→Prop),Inv X bEP σ H s→wi σ H R →
  wpAny (model X.prog X.w) X.A (eval iter X.env) (fun v s1=>wpAny (model X.prog X.w) X.A (pyIter v) (PIE X bEP σ tg R) X.xe s1) X.xe s
theorem aGv {M:Model} {A:Around} {E:bEM} {s:Shared} {tg:Expr} {it:Addr} {u:Value} {o:Obj} {n:String} {vs:Array Value} {Q:Unit→Shared→Prop} (ho:s.heap.get? it=some o) (hc:o.cls=.type n) (hd:o.data=.fields vs)
  (hn:["enumerate","zip","dict_itemiterator","dict_reverseitemiterator","odict_iterator","itertools.zip_longest","itertools.pairwise"].contains n=false) (hQ:Q () s):wpAny M A (letOwnedTupleGo tg (.ref it) u) Q E s:=by
 unfold letOwnedTupleGo;cases tg <;> first
  |exact j4 hQ
  |(cases u <;> first
    |exact j4 hQ
    |(refine c7 (wpAny_load ho ?_);rw [hc,hd];show wpAny M A (if (["enumerate","zip","dict_itemiterator","dict_reverseitemiterator","odict_iterator","itertools.zip_longest","itertools.pairwise"].contains n && vs[0]? == some (rawInt _))=true then _ else _) Q E s;rw [if_neg (by intro h;rw [hn,Bool.false_and] at h;cases h)];exact j4 hQ))
def Itl (K:bEL) (a:Addr):It:=
 ⟨fun i H=>∃xs x,SqL K H a xs∧xs[i]?=some x,fun i H x H'=>H'=H∧∀xs,SqL K H a xs→xs[i]?=some x,fun i H=>∃xs,SqL K H a xs∧xs.length≤i⟩
def Itt (K:bEL) (a:Addr):It:=
 ⟨fun i H=>∃xs x,SqT K H a xs∧xs[i]?=some x,fun i H x H'=>H'=H∧∀xs,SqT K H a xs→xs[i]?=some x,fun i H=>∃xs,SqT K H a xs∧xs.length≤i⟩
def Itr (lo:Int) (n:Nat):It:=⟨fun i _=>i<n,fun i H x H'=>H'=H∧x=.int (lo+i),fun i _=>n≤i⟩
theorem aOi {P:Program} {w:World} {K:bEL} {tg:Expr} (a it:Addr):Turn P w K tg (Itl K a) [it] it (fun i h=>h.IsListIter it a i) where
 mem:=by simp
 obj:=fun i h st b hb=>by
  have e:b=it:=by simpa using hb
  subst e;obtain ⟨o,e,c,d⟩:=st;exact ⟨o,e,fun v z=>by rw [d] at z;cases z⟩
 keep:=fun i h h' st k=>st.at fun o e=>k it (by simp) o e
 item:=by intro X hP hw hK hc i bEP s σ H E I hf st hg;subst hP hw hK;obtain ⟨xs,x,hq,hx⟩:=hg;obtain ⟨its,rv,p,hz⟩:=I.list hq;obtain ⟨u,hu,ru⟩:=rv.get hx;obtain ⟨f0,f1,f2,f3,f4,f5⟩:=hf it (by simp);refine wpAny_pyNext_list_item st p.isList (x:=u) (by simpa using hu) fun h' st' sb=>?_;have I1:Inv X bEP σ H { s with heap:=h' }:=I.turned (t':=s.toks) (fun b o hb e=>(sb.2 b hb).trans e) f0 f1 f3 f4 f5;obtain ⟨o,e,c,d⟩:=id st';exact ⟨u,rfl,aGv (s:={ s with heap:=h' }) e c d (by decide) ⟨x,H,I1,ru,⟨rfl,fun ys hy=>by rw [I.aQ6 hy hq];exact hx⟩,st',fun b hb=>(hf b hb).1⟩⟩
 done:=by intro X hP hw hK hc i bEP s σ H E I hf st hg;subst hP hw hK;obtain ⟨xs,hq,hx⟩:=hg;obtain ⟨its,rv,p,hz⟩:=I.list hq;obtain ⟨f0,f1,f2,f3,f4,f5⟩:=hf it (by simp);have hl:=rv.length;exact wpAny_pyNext_list_end (I.ok.hd hc) st p.isList (by simp;lia) fun h' eb=>⟨rfl,I.turned (t':=s.toks) (fun b o hb e=>eb b o hb e) f0 f1 f3 f4 f5⟩
 self:=fun _ _ _ _ _ st h=>wpAny_pyIter_listiter st h
theorem aLn {P:Program} {w:World} {K:bEL} {tg:Expr} (a it:Addr):Turn P w K tg (Itt K a) [it] it (fun i h=>h.IsTupleIter it a i) where
 mem:=by simp
 obj:=fun i h st b hb=>by
  have e:b=it:=by simpa using hb
  subst e;obtain ⟨o,e,c,d⟩:=st;exact ⟨o,e,fun v z=>by rw [d] at z;cases z⟩
 keep:=fun i h h' st k=>st.at fun o e=>k it (by simp) o e
 item:=by intro X hP hw hK hc i bEP s σ H E I hf st hg;subst hP hw hK;obtain ⟨xs,x,hq,hx⟩:=hg;obtain ⟨its,rv,p,hz⟩:=I.tuple hq;obtain ⟨u,hu,ru⟩:=rv.get hx;obtain ⟨f0,f1,f2,f3,f4,f5⟩:=hf it (by simp);refine wpAny_pyNext_tuple_item st (show s.heap.IsTuple a its.toArray from p) (x:=u) (by simpa using hu) fun h' st' sb=>?_;have I1:Inv X bEP σ H { s with heap:=h' }:=I.turned (t':=s.toks) (fun b o hb e=>(sb.2 b hb).trans e) f0 f1 f3 f4 f5;obtain ⟨o,e,c,d⟩:=id st';exact ⟨u,rfl,aGv (s:={ s with heap:=h' }) e c d (by decide) ⟨x,H,I1,ru,⟨rfl,fun ys hy=>by rw [I.aO0 hy hq];exact hx⟩,st',fun b hb=>(hf b hb).1⟩⟩
 done:=by intro X hP hw hK hc i bEP s σ H E I hf st hg;subst hP hw hK;obtain ⟨xs,hq,hx⟩:=hg;obtain ⟨its,rv,p,hz⟩:=I.tuple hq;obtain ⟨f0,f1,f2,f3,f4,f5⟩:=hf it (by simp);have hl:=rv.length;exact wpAny_pyNext_tuple_end (I.ok.hd hc) st (show s.heap.IsTuple a its.toArray from p) (by simp;lia) fun h' eb=>⟨rfl,I.turned (t':=s.toks) (fun b o hb e=>eb b o hb e) f0 f1 f3 f4 f5⟩
 self:=fun _ _ _ _ _ st h=>wpAny_pyIter_tupleiter st h
theorem aKu {P:Program} {w:World} {K:bEL} {tg:Expr} (it:Addr) (lo:Int) (n:Nat):Turn P w K tg (Itr lo n) [it] it (fun i h=>IsRangeIter h it (lo+(i:Nat) * 1) ((n:Int) - (i:Nat)) 1) where
 mem:=by simp
 obj:=fun i h st b hb=>by
  have e:b=it:=by simpa using hb
  subst e;exact ⟨_,st,fun v z=>by have z':Data.fields _=Data.cell v:=z;cases z'⟩
 keep:=fun i h h' st k=>k it (by simp) _ st
 item:=by intro X hP hw hK hc i bEP s σ H E I hf st hg;subst hP hw hK;obtain ⟨f0,f1,f2,f3,f4,f5⟩:=hf it (by simp);have W:=Walks.range (prog:=X.prog) (w:=X.w) (I.ok.hd hc) it lo 1 n;refine W.item i s _ _ hg st fun v h' tk hv st' kk=>?_;obtain ⟨t,rfl⟩:=hv;have I1:Inv X bEP σ H { s with heap:=h',toks:=tk }:=I.turned (fun b o hb e=>kk b o (by simpa using hb) e) f0 f1 f3 f4 f5;refine ⟨_,rfl,aGv (s:={ s with heap:=h',toks:=tk }) (n:="range_iterator") st' rfl rfl (by decide) ⟨.int (lo+i),H,I1,⟨t,?_⟩,⟨rfl,rfl⟩,st',fun b hb=>(hf b hb).1⟩⟩;rw [Int.mul_one]
 done:=by intro X hP hw hK hc i bEP s σ H E I hf st hg;subst hP hw hK;obtain ⟨f0,f1,f2,f3,f4,f5⟩:=hf it (by simp);exact wpAny_pyNext_range_end (I.ok.hd hc) st (by have:n≤i:=hg;lia) fun h' eb=>⟨rfl,I.turned (t':=s.toks) (fun b o hb e=>eb b o hb e) f0 f1 f3 f4 f5⟩
 self:=fun _ _ _ _ _ st h=>wpAny_pyIter_rangeiter st h
section
variable {X:Cx} {tg:Expr}
def aC2 (K:bEL) (tl:TE):TI:=fun σ H R=>tl σ H fun x H1=>∃a,x=.ref a∧(∃xs,SqL K H1 a xs)∧R (Itl K a) H1
def aUd (K:bEL) (tl:TE):TI:=fun σ H R=>tl σ H fun x H1=>∃a,x=.ref a∧(∃xs,SqT K H1 a xs)∧R (Itt K a) H1
theorem aT0 {l:Expr} {tl:TE} (hl:PE X l tl):PI X tg l (aC2 X.K tl):=by
 intro bEP s σ H R I h;refine thn (hl bEP s σ H _ I h) fun v s1 ⟨x,H1,I1,r1,q1⟩=>?_;obtain ⟨a,e,⟨xs,hq⟩,q⟩:=q1;subst e;cases r1;obtain ⟨its,rv,p,hz⟩:=I1.list hq;refine bBW p.isList ?_;refine ⟨s1.heap.objs.size,[s1.heap.objs.size],_,_,H1,rfl,I1.kept (t':=s1.toks) fun b o e=>d9 _ e,aOi a _,⟨_,j5 _ rfl,rfl,rfl⟩,fun b hb=>?_,q⟩;have e:b=s1.heap.objs.size:=by simpa using hb
 subst e;exact I1.aFh (j6 _) (I1.hok.fresh (j6 _))
theorem aYr {l:Expr} {tl:TE} (hl:PE X l tl):PI X tg l (aUd X.K tl):=by
 intro bEP s σ H R I h;refine thn (hl bEP s σ H _ I h) fun v s1 ⟨x,H1,I1,r1,q1⟩=>?_;obtain ⟨a,e,⟨xs,hq⟩,q⟩:=q1;subst e;cases r1;obtain ⟨its,rv,p,hz⟩:=I1.tuple hq;refine bDI (show s1.heap.IsTuple a its.toArray from p) ?_;refine ⟨s1.heap.objs.size,[s1.heap.objs.size],_,_,H1,rfl,I1.kept (t':=s1.toks) fun b o e=>d9 _ e,aLn a _,⟨_,j5 _ rfl,rfl,rfl⟩,fun b hb=>?_,q⟩;have e:b=s1.heap.objs.size:=by simpa using hb
 subst e;exact I1.aFh (j6 _) (I1.hok.fresh (j6 _))
theorem aGk {bEP:bEN} {σ:St} {H:Hp} {s:Shared} {R:It→Hp→Prop} {E:bEM} {lo hi:Int} {t u v:Tok} {tk:Nat} (I:Inv X bEP σ H s) (h1:-(2 ^ 62)≤lo) (h2:lo<2 ^ 62) (h3:-(2 ^ 62)≤hi) (h4:hi<2 ^ 62)
  (q:R (Itr lo (hi - lo).toNat) H):wpAny (model X.prog X.w) X.A (pyIter (.ref s.heap.objs.size)) (PIE X bEP σ tg R) E { s with heap:=s.heap.push { cls:=.type "range",data:=.fields #[.int lo t,.int hi u,.int 1 v] },toks:=tk }:=by
 refine wpAny_pyIter_range (IsRange.new ..) (small_one h1 h2 h3 h4) ?_;have I1:Inv X bEP σ H { s with heap:=s.heap.push { cls:=.type "range",data:=.fields #[.int lo t,.int hi u,.int 1 v] },toks:=tk }:=I.kept fun b o e=>d9 _ e;refine ⟨(s.heap.push { cls:=.type "range",data:=.fields #[.int lo t,.int hi u,.int 1 v] }).objs.size,[(s.heap.push { cls:=.type "range",data:=.fields #[.int lo t,.int hi u,.int 1 v] }).objs.size],_,_,H,rfl,
  I1.kept (t':=tk) fun b o e=>d9 _ e,aKu _ lo (hi - lo).toNat,?_,fun b hb=>?_,q⟩
 ·have e1:lo+((0:Nat):Int) * 1=lo:=by simp
  have e2:(((hi - lo).toNat:Nat):Int) - ((0:Nat):Int)=Builtin.Range.rangeSize lo hi 1:=by rw [rangeSize_one];split <;> lia
  show IsRangeIter _ _ (lo+((0:Nat):Int) * 1) ((((hi - lo).toNat:Nat):Int) - ((0:Nat):Int)) 1;rw [e1,e2];exact j5 _ rfl
 ·have e:b=(s.heap.push { cls:=.type "range",data:=.fields #[.int lo t,.int hi u,.int 1 v] }).objs.size:=by simpa using hb
  subst e;exact I1.aFh (j6 _) (I1.hok.fresh (j6 _))
def aRp (ta:TA):TI:=fun σ H R=>ta σ H fun vs H1=>∃j:Int,vs=[.int j]∧-(2 ^ 62)≤j∧j<2 ^ 62∧R (Itr 0 j.toNat) H1
def aV6 (ta:TA):TI:=fun σ H R=>ta σ H fun vs H1=>∃i j:Int,vs=[.int i,.int j]∧(-(2 ^ 62)≤i∧i<2 ^ 62∧-(2 ^ 62)≤j∧j<2 ^ 62)∧R (Itr i (j - i).toNat) H1
theorem aN3 {a:Expr} {ta:TA} {p pos:Pos} (hg:Gl X "range") (hm:X.mg "range"=none) (ha:PA X [a] ta) (hs:starEach [a] X.env=[(false,eval a X.env)]:=by rfl):PI X tg (.Call (.Name "range" p) [a] [] pos) (aRp ta):=by
 intro bEP s σ H R I h;refine Call_ (oY I hg hm boot_range (bBK (thn (ha pos bEP s σ H _ I h) fun us s1 ⟨vs,H1,I1,r1,q1⟩=>?_) hs rfl));obtain ⟨j,e,q1,q2,q⟩:=q1;subst e;cases r1 with
 |cons r rr=>cases rr;obtain ⟨t,rfl⟩:=r;exact call_range_1 (aGk I1 (by lia) (by lia) q1 q2 (by simpa using q))
theorem aPd {a b:Expr} {ta:TA} {p pos:Pos} (hg:Gl X "range") (hm:X.mg "range"=none) (ha:PA X [a,b] ta) (hs:starEach [a,b] X.env=[(false,eval a X.env),(false,eval b X.env)]:=by rfl) (hs2:starEach [b] X.env=[(false,eval b X.env)]:=by rfl) :
  PI X tg (.Call (.Name "range" p) [a,b] [] pos) (aV6 ta):=by
 intro bEP s σ H R I h;refine Call_ (oY I hg hm boot_range (bBK (thn (ha pos bEP s σ H _ I h) fun us s1 ⟨vs,H1,I1,r1,q1⟩=>?_) (by rw [hs,hs2]) (by rw [hs2];rfl)));obtain ⟨i,j,e,⟨q1,q2,q3,q4⟩,q⟩:=q1;subst e;cases r1 with
 |cons r rr=>
  cases rr with
  |cons r' rr=>cases rr;obtain ⟨t,rfl⟩:=r;obtain ⟨t',rfl⟩:=r';exact call_range_2 (aGk I1 q1 q2 q3 q4 q)
def aX0 (wi:TI) (g:TG) (tb:TS):TS:=fun D σ H=>wi σ H fun J H1=>∃W:Nat→Nat→St→Hp→Prop,(∃m,W 0 m σ H1)∧∀i m σ H,W i m σ H →
 (J.stop i H∧D.nx σ H)∨(J.go i H∧∃N:St→Hp→Prop,(∀σ' H',N σ' H'→∃m',m'<m∧W (i+1) m' σ' H')∧∀x H',J.yld i H x H'→g x σ H' fun σ2 H2=>tb { D with nx:=N,ct:=N,bk:=D.nx } σ2 H2)
def wD (fp:List Addr) (h:Heap):bEN:=fp.filterMap fun b=>(h.get? b).map fun o=>(b,o)
theorem jG {fp:List Addr} {h:Heap} {b:Addr} {o:Obj} (hb:b∈fp) (e:h.get? b=some o):(b,o)∈wD fp h:=List.mem_filterMap.mpr ⟨b,hb,by rw [e];rfl⟩
theorem aOm {fp:List Addr} {h:Heap} {p:Addr × Obj} (hp:p∈wD fp h):p.1∈fp∧h.get? p.1=some p.2:=by
 obtain ⟨b,hb,e⟩:=List.mem_filterMap.mp hp;cases q:h.get? b with
 |none=>rw [q] at e;cases e
 |some o=>rw [q] at e;have e':(b,o)=p:=bAQ e;subst e';exact ⟨hb,q⟩
theorem Inv.pinned {bEP:bEN} {σ:St} {H:Hp} {s:Shared} {fp:List Addr} (I:Inv X bEP σ H s) (hf:∀b∈fp,sH X bEP H b) (ho:∀b∈fp,∃o,s.heap.get? b=some o∧∀v,o.data≠.cell v):Inv X (bEP++wD fp s.heap) σ H s:=
 I.aNj fun p hp=>(List.mem_append.mp hp).elim (fun z=>I.pin p (bAF _ z)) fun z=>by obtain ⟨hb,e⟩:=aOm z;obtain ⟨f0,f1,f2,_⟩:=hf p.1 hb;obtain ⟨o,e',d⟩:=ho p.1 hb;rw [e] at e';cases e';exact ⟨e,f0,f1,f2,d⟩
theorem Inv.lQ {bEP pl:bEN} {σ:St} {H:Hp} {s:Shared} (I:Inv X (bEP++pl) σ H s):Inv X bEP σ H s:=I.aNj fun p hp=>I.pin p (bAF _ (bCN _ hp))
theorem aWk {iter:Expr} {body:List Stmt} {wi:TI} {g:TG} {tb:TS} {pos:Pos} (hp:PassesOwn (model X.prog X.w) X.A X.env X.xe) (hc:X.calm=true) (hi:PI X tg iter wi) (hg:PG X tg g) (hb:PSs X body tb)
  (hs:∀x,foldedSetIterable iter X.env x=pure x:=by intro _;rfl):PS X (.For tg iter body [] pos) (aX0 wi g tb):=by
 intro bEP s σ H D I h;refine wpAny_For (thn (hi bEP s σ H _ I h) fun v s1 h1=>thn h1 fun itv s2 h2=>?_) hs;obtain ⟨it,fp,tn,J,H2,e,I2,T,st2,f2,W,⟨m0,w0⟩,turn⟩:=h2;subst e;have stat:∀{H':Hp},(∀b∈fp,H' b=none)→∀b∈fp,sH X bEP H' b:=fun hn b hb=>⟨hn b hb,(f2 b hb).2⟩;refine codeAny_forLoop_any (fun n s'=>∃i σ' H',Inv X bEP σ' H' s'∧tn i s'.heap∧(∀b∈fp,H' b=none)∧W i n σ' H') ?_ m0 ⟨0,σ,H2,I2,st2,fun b hb=>(f2 b hb).1,w0⟩;rintro n s3 ⟨i,σ3,H3,I3,st3,fr3,w3⟩;rcases turn i n σ3 H3 w3 with ⟨stop,qn⟩|⟨go,N,hN,step⟩
 ·refine bDF hp (thn (T.done X rfl rfl rfl hc i bEP s3 σ3 H3 X.xe I3 (stat fr3) st3 stop) fun r s4 ⟨hr,I4⟩=>?_);subst hr;exact bD5 ⟨σ3,H3,I4,qn⟩
 ·refine bDF hp (thn (T.item X rfl rfl rfl hc i bEP s3 σ3 H3 X.xe I3 (stat fr3) st3 go) fun r s4 ⟨u,hr,h4⟩=>?_);subst hr;refine bDF hp (thn h4 fun _ s5 ⟨x,H5,I5,r5,y5,st5,fr5⟩=>?_);have I5':=I5.pinned (stat fr5) (T.obj _ _ st5);refine bDF hp (thn (hg _ s5 σ3 H5 x u _ I5' r5 (step x H5 y5)) fun _ s6 ⟨σ6,H6,I6,q6⟩=>?_);refine bDF hp (thn (hb _ s6 σ6 H6 _ I6 q6) fun f s7 q7=>?_);have again:∀{σ7:St} {H7:Hp},Inv X (bEP++wD fp s5.heap) σ7 H7 s7→N σ7 H7→∃m,m<n∧∃i σ' H',Inv X bEP σ' H' s7∧tn i s7.heap∧(∀b∈fp,H' b=none)∧W i m σ' H':=fun {σ7 H7} I7 n7=>by obtain ⟨m',hm,w7⟩:=hN σ7 H7 n7;refine ⟨m',hm,i+1,σ7,H7,I7.lQ,T.keep _ _ _ st5 fun b hb o e=>(I7.pin (b,o) (bAF _ (bAF _ (jG hb e)))).1,fun b hb=>?_,w7⟩;obtain ⟨o,e,d⟩:=T.obj _ _ st5 b hb;exact (I7.pin (b,o) (bAF _ (bAF _ (jG hb e)))).2.1
  cases f with
  |next=>obtain ⟨σ7,H7,I7,n7⟩:=q7;exact again I7 n7
  |cont=>obtain ⟨σ7,H7,I7,n7⟩:=q7;exact again I7 n7
  |brk=>obtain ⟨σ7,H7,I7,q7⟩:=q7;exact ⟨σ7,H7,I7.lQ,q7⟩
  |ret v=>obtain ⟨x7,σ7,H7,I7,r7,q7⟩:=q7;exact ⟨x7,σ7,H7,I7.lQ,r7,q7⟩
end
theorem aHl {K:bEL} {a:Addr} {xs:List V} {g:TG} {tb:TS} {D:Ends} {σ:St} {H:Hp} (Pv:Nat→St→Hp→Prop) (h0:Pv 0 σ H) (hl:∀i σ H,i≤xs.length→Pv i σ H→SqL K H a xs)
  (hs:∀i x σ H,xs[i]?=some x→Pv i σ H→g x σ H fun σ2 H2=>tb { D with nx:=Pv (i+1),ct:=Pv (i+1),bk:=D.nx } σ2 H2) (hd:∀σ H,Pv xs.length σ H→D.nx σ H) :
  ∃W:Nat→Nat→St→Hp→Prop,(∃m,W 0 m σ H)∧∀i m σ H,W i m σ H →
   ((Itl K a).stop i H∧D.nx σ H)∨((Itl K a).go i H∧∃N:St→Hp→Prop,(∀σ' H',N σ' H'→∃m',m'<m∧W (i+1) m' σ' H')∧∀x H',(Itl K a).yld i H x H'→g x σ H' fun σ2 H2=>tb { D with nx:=N,ct:=N,bk:=D.nx } σ2 H2):=by
 refine ⟨fun i m σ H=>m=xs.length - i∧i≤xs.length∧Pv i σ H,⟨xs.length,by simp,bAL _,h0⟩,?_⟩;rintro i m σ H ⟨rfl,hi,p⟩;have q:=hl i σ H hi p;by_cases hlt:i<xs.length
 ·refine .inr ⟨⟨xs,xs[i],q,by simp [hlt]⟩,Pv (i+1),fun σ' H' p'=>⟨xs.length - (i+1),by lia,rfl,hlt,p'⟩,fun x H' y=>?_⟩;obtain ⟨e,y⟩:=y;subst e;exact hs i x σ _ (y xs q) p
 ·have e:i=xs.length:=by lia
  subst e;exact .inl ⟨⟨xs,q,j6 _⟩,hd σ H p⟩
theorem aT5 {K:bEL} {a:Addr} {xs:List V} {g:TG} {tb:TS} {D:Ends} {σ:St} {H:Hp} (Pv:Nat→St→Hp→Prop) (h0:Pv 0 σ H) (hl:∀i σ H,i≤xs.length→Pv i σ H→SqT K H a xs)
  (hs:∀i x σ H,xs[i]?=some x→Pv i σ H→g x σ H fun σ2 H2=>tb { D with nx:=Pv (i+1),ct:=Pv (i+1),bk:=D.nx } σ2 H2) (hd:∀σ H,Pv xs.length σ H→D.nx σ H) :
  ∃W:Nat→Nat→St→Hp→Prop,(∃m,W 0 m σ H)∧∀i m σ H,W i m σ H →
   ((Itt K a).stop i H∧D.nx σ H)∨((Itt K a).go i H∧∃N:St→Hp→Prop,(∀σ' H',N σ' H'→∃m',m'<m∧W (i+1) m' σ' H')∧∀x H',(Itt K a).yld i H x H'→g x σ H' fun σ2 H2=>tb { D with nx:=N,ct:=N,bk:=D.nx } σ2 H2):=by
 refine ⟨fun i m σ H=>m=xs.length - i∧i≤xs.length∧Pv i σ H,⟨xs.length,by simp,bAL _,h0⟩,?_⟩;rintro i m σ H ⟨rfl,hi,p⟩;have q:=hl i σ H hi p;by_cases hlt:i<xs.length
 ·refine .inr ⟨⟨xs,xs[i],q,by simp [hlt]⟩,Pv (i+1),fun σ' H' p'=>⟨xs.length - (i+1),by lia,rfl,hlt,p'⟩,fun x H' y=>?_⟩;obtain ⟨e,y⟩:=y;subst e;exact hs i x σ _ (y xs q) p
 ·have e:i=xs.length:=by lia
  subst e;exact .inl ⟨⟨xs,q,j6 _⟩,hd σ H p⟩
theorem jC {lo:Int} {n:Nat} {g:TG} {tb:TS} {D:Ends} {σ:St} {H:Hp} (Pv:Nat→St→Hp→Prop) (h0:Pv 0 σ H)
  (hs:∀i σ H,i<n→Pv i σ H→g (.int (lo+i)) σ H fun σ2 H2=>tb { D with nx:=Pv (i+1),ct:=Pv (i+1),bk:=D.nx } σ2 H2) (hd:∀σ H,Pv n σ H→D.nx σ H) :
  ∃W:Nat→Nat→St→Hp→Prop,(∃m,W 0 m σ H)∧∀i m σ H,W i m σ H →
   ((Itr lo n).stop i H∧D.nx σ H)∨((Itr lo n).go i H∧∃N:St→Hp→Prop,(∀σ' H',N σ' H'→∃m',m'<m∧W (i+1) m' σ' H')∧∀x H',(Itr lo n).yld i H x H'→g x σ H' fun σ2 H2=>tb { D with nx:=N,ct:=N,bk:=D.nx } σ2 H2):=by
 refine ⟨fun i m σ H=>m=n - i∧i≤n∧Pv i σ H,⟨n,by simp,bAL _,h0⟩,?_⟩;rintro i m σ H ⟨rfl,hi,p⟩;by_cases hlt:i<n
 ·refine .inr ⟨hlt,Pv (i+1),fun σ' H' p'=>⟨n - (i+1),by lia,rfl,hlt,p'⟩,fun x H' y=>?_⟩;obtain ⟨e,y⟩:=y;subst e y;exact hs i σ _ hlt p
 ·have e:i=n:=by lia
  subst e;exact .inl ⟨j6 _,hd σ H p⟩
abbrev R2:=V→V→Hp→VK→Prop
def OpR (X:Cx) (f:Value→Value→Sem Value) (r:R2):Prop:=
 ∀(bEP:bEN) (s:Shared) (σ:St) (H:Hp) (x y:V) (v u:Value) (Q:VK),Inv X bEP σ H s→RelV x v→RelV y u→r x y H Q →
  wpAny (model X.prog X.w) X.A (f v u) (EP X bEP σ Q) X.xe s
def cJ (X:Cx) (f:Value) (r:List V→Hp→VK→Prop):Prop:=
 ∀(bEP:bEN) (s:Shared) (σ:St) (H:Hp) (xs:List V) (us:List Value) (Q:VK),Inv X bEP σ H s→Vals xs us→r xs H Q →
  wpAny (model X.prog X.w) X.A (call f us) (EP X bEP σ Q) X.xe s
def tOp (r:R2) (ta tb:TE):TE:=fun σ H Q=>ta σ H fun x H1=>tb σ H1 fun y H2=>r x y H2 Q
def rI (C:Int→Int→Prop) (g:Int→Int→V):R2:=fun x y H Q=>∃i j,x=.int i∧y=.int j∧C i j∧Q (g i j) H
def rI0 (g:Int→Int→V):R2:=fun x y H Q=>∃i j,x=.int i∧y=.int j∧Q (g i j) H
section
variable {X:Cx} {a b c:Expr} {ta tb tc:TE} {pos:Pos}
theorem aVo (ha:PE X a ta) (hb:PE X b tb) {bEP:bEN} {s:Shared} {σ:St} {H:Hp} {R:V→V→Hp→Prop} (I:Inv X bEP σ H s)
  (h:ta σ H fun x H1=>tb σ H1 fun y H2=>R x y H2) {Q:bEM} {f:Value→Value→Sem Value}
  (hf:∀v u s2 x y H2,Inv X bEP σ H2 s2→RelV x v→RelV y u→R x y H2→wpAny (model X.prog X.w) X.A (f v u) Q X.xe s2) :
  wpAny (model X.prog X.w) X.A (eval a X.env) (fun v s₁=>wpAny (model X.prog X.w) X.A (eval b X.env) (fun u s₂=>wpAny (model X.prog X.w) X.A (f v u) Q X.xe s₂) X.xe s₁) X.xe s:=by
 refine thn (ha bEP s σ H _ I h) fun v s1 ⟨x,H1,I1,r1,q1⟩=>?_;refine thn (hb bEP s1 σ H1 _ I1 q1) fun u s2 ⟨y,H2,I2,r2,q2⟩=>?_;exact hf v u s2 x y H2 I2 r1 r2 q2
theorem bAg {op:Operator} {r:R2} (ho:OpR X (binaryOp op) r) (ha:PE X a ta) (hb:PE X b tb):PE X (.BinOp a op b pos) (tOp r ta tb):=by intro bEP s σ H Q I h;exact wpAny_BinOp (aVo ha hb I h fun v u s2 x y H2 I2 rx ry q=>ho bEP s2 σ H2 x y v u Q I2 rx ry q)
theorem opI {f:Value→Value→Sem Value} {C:Int→Int→Prop} {g:Int→Int→Int}
  (rule:∀(i j:Int) (t u:Tok) (s:Shared) (Q:bEM) (E:bEM),C i j→Q (.int (g i j) s.toks) { s with toks:=s.toks+1 }→wpAny (model X.prog X.w) X.A (f (.int i t) (.int j u)) Q E s) :
  OpR X f (rI C fun i j=>.int (g i j)):=by
 intro bEP s σ H x y v u Q I rx ry h;obtain ⟨i,j,rfl,rfl,hc,q⟩:=h;obtain ⟨t,rfl⟩:=rx;obtain ⟨t',rfl⟩:=ry;exact rule i j t t' s _ _ hc ⟨.int (g i j),H,I.tok _,⟨_,rfl⟩,q⟩
theorem bAb {f:Value→Value→Sem Value} {g:Int→Int→Int}
  (rule:∀(i j:Int) (t u:Tok) (s:Shared) (Q:bEM) (E:bEM),Q (.int (g i j) s.toks) { s with toks:=s.toks+1 }→wpAny (model X.prog X.w) X.A (f (.int i t) (.int j u)) Q E s) :
  OpR X f (rI0 fun i j=>.int (g i j)):=by
 intro bEP s σ H x y v u Q I rx ry h;obtain ⟨i,j,rfl,rfl,q⟩:=h;obtain ⟨t,rfl⟩:=rx;obtain ⟨t',rfl⟩:=ry;exact rule i j t t' s _ _ ⟨.int (g i j),H,I.tok _,⟨_,rfl⟩,q⟩
theorem aS7 {f:Value→Value→Sem Value} {g:Int→Int→Bool}
  (rule:∀(i j:Int) (t u:Tok) (s:Shared) (Q:bEM) (E:bEM),Q (.bool (g i j)) s→wpAny (model X.prog X.w) X.A (f (.int i t) (.int j u)) Q E s) :
  OpR X f (rI0 fun i j=>.bl (g i j)):=by
 intro bEP s σ H x y v u Q I rx ry h;obtain ⟨i,j,rfl,rfl,q⟩:=h;obtain ⟨t,rfl⟩:=rx;obtain ⟨t',rfl⟩:=ry;exact rule i j t t' s _ _ ⟨.bl (g i j),H,I,rfl,q⟩
def bA1 (i j:Int):Prop:=0<j∧j<1073741824
def bAk (i j:Int):Prop:=0≤j∧j≤1000000∧i.natAbs<2 ^ 64
def aYx (i j:Int):Prop:=(-(2 ^ 64)<i∧i<2 ^ 64)∨(-(2 ^ 64)<j∧j<2 ^ 64)
theorem aYx.ok {i j:Int} (h:aYx i j):IntMulOk i j:=by
 rcases h with ⟨h1,h2⟩|⟨h1,h2⟩
 ·exact .of_left (intBits_le_64 h1 h2)
 ·exact .of_right (intBits_le_64 h1 h2)
theorem dH:OpR X (binaryOp .Add) (rI0 fun i j=>.int (i+j)):=bAb fun _ _ _ _ _ _ _ q=>add_int q
theorem aKw:OpR X (binaryOp .Sub) (rI0 fun i j=>.int (i - j)):=bAb fun _ _ _ _ _ _ _ q=>sub_int q
theorem xD:OpR X (binaryOp .Mult) (rI aYx fun i j=>.int (i * j)):=opI fun _ _ _ _ _ _ _ hc q=>mul_int q hc.ok
theorem aS5:OpR X (binaryOp .FloorDiv) (rI bA1 fun i j=>.int (i / j)):=opI fun i j _ _ _ _ _ hc q=>by have h1:(0:Int)<j:=hc.1;have h2:j<1073741824:=hc.2;exact floordiv_int (by lia) (by rw [Int.fdiv_eq_ediv_of_nonneg i (by lia)];exact q) (.inl (PyProof.noPylong_small (by lia)))
theorem qK:OpR X (binaryOp .Mod) (rI (fun _ j=>0<j) fun i j=>.int (i % j)):=opI fun i j _ _ _ _ _ hc q=>by have h1:(0:Int)<j:=hc;exact mod_int' (by lia) (by rw [Int.fmod_eq_emod_of_nonneg i (by lia)];exact q)
theorem aFp:OpR X (binaryOp .Pow) (rI bAk fun i j=>.int (i ^ j.toNat)):=opI fun _ _ _ _ _ _ _ hc q=>pow_int_small hc.1 hc.2.1 hc.2.2 q
end
def scal:V→V→Bool
 |.non,.non=>true|.non,.int _=>true|.int _,.non=>true|.non,.bl _=>true|.bl _,.non=>true|.non,.str _=>true|.str _,.non=>true
 |.int _,.int _=>true|.bl _,.bl _=>true|.str _,.str _=>true|.byt _,.byt _=>true
 |.int _,.str _=>true|.str _,.int _=>true|.bl _,.str _=>true|.str _,.bl _=>true
 |_,_=>false
def rEq:R2:=fun x y H Q=>scal x y=true∧Q (.bl (decide (x=y))) H
def rNe:R2:=fun x y H Q=>scal x y=true∧Q (.bl (!decide (x=y))) H
theorem aL4 {i j:Int}:decide (V.int i=V.int j)=(i == j):=by rw [bCD];simp
theorem aSq {i j:Bool}:decide (V.bl i=V.bl j)=(i == j):=by rw [bCD];simp
theorem aL3 {i j:Str}:decide (V.str i=V.str j)=(i == j):=by rw [bCD];simp
theorem aMa {i j:Array UInt8}:decide (V.byt i=V.byt j)=(i.toList == j.toList):=by rw [bCD];cases i;cases j;simp
section
variable {X:Cx} {a b c:Expr} {ta tb tc:TE} {pos:Pos}
theorem bW {bEP:bEN} {σ:St} {H:Hp} {s:Shared} {Q:VK} {k k':Bool} (I:Inv X bEP σ H s) (q:Q (.bl k) H) (e:k=k'):EP X bEP σ Q (.bool k') s:=by subst e;exact ⟨.bl k,H,I,rfl,q⟩
theorem eU:OpR X (compareOp .Eq) rEq:=by
 intro bEP s σ H x y v u Q I rx ry h;obtain ⟨hs,q⟩:=h;cases x with
 |non=>
  cases rx;cases y with
  |non=>cases ry;exact PySem.EqNone.eq_none_none (bW I q (by simp))
  |bl j=>cases ry;exact PySem.EqNone.eq_none_bool (bW I q (by simp))
  |int j=>obtain ⟨t',rfl⟩:=ry;exact PySem.EqNone.eq_none_int (bW I q (by simp))
  |str j=>obtain ⟨t',rfl⟩:=ry;exact PySem.EqNone.eq_none_str (bW I q (by simp))
  |_=>exact absurd (show false=true from hs) v4
 |bl i=>
  cases rx;cases y with
  |non=>cases ry;exact PySem.EqNone.eq_bool_none (bW I q (by simp))
  |bl j=>cases ry;exact eq_bool (bW I q aSq)
  |str j=>obtain ⟨t',rfl⟩:=ry;exact PySem.EqMixed.eq_bool_str (bW I q (by simp))
  |_=>exact absurd (show false=true from hs) v4
 |int i=>
  obtain ⟨t,rfl⟩:=rx;cases y with
  |non=>cases ry;exact PySem.EqNone.eq_int_none (bW I q (by simp))
  |int j=>obtain ⟨t',rfl⟩:=ry;exact eq_int (bW I q aL4)
  |str j=>obtain ⟨t',rfl⟩:=ry;exact PySem.EqMixed.eq_int_str (bW I q (by simp))
  |_=>exact absurd (show false=true from hs) v4
 |str i=>
  obtain ⟨t,rfl⟩:=rx;cases y with
  |non=>cases ry;exact PySem.EqNone.eq_str_none (bW I q (by simp))
  |bl j=>cases ry;exact PySem.EqMixed.eq_str_bool (bW I q (by simp))
  |int j=>obtain ⟨t',rfl⟩:=ry;exact PySem.EqMixed.eq_str_int (bW I q (by simp))
  |str j=>obtain ⟨t',rfl⟩:=ry;exact eq_str (bW I q aL3)
  |_=>exact absurd (show false=true from hs) v4
 |byt i=>
  obtain ⟨t,rfl⟩:=rx;cases y with
  |byt j=>obtain ⟨t',rfl⟩:=ry;exact PySem.W.eq_bytes (bW I q aMa)
  |_=>exact absurd (show false=true from hs) v4
 |_=>cases y <;> exact absurd (show false=true from hs) v4
theorem aAk:OpR X (compareOp .NotEq) rNe:=by
 intro bEP s σ H x y v u Q I rx ry h;obtain ⟨hs,q⟩:=h;cases x with
 |non=>
  cases rx;cases y with
  |non=>cases ry;exact PySem.EqNone.ne_none_none (bW I q (by simp))
  |bl j=>cases ry;exact PySem.EqNone.ne_none_bool (bW I q (by simp))
  |int j=>obtain ⟨t',rfl⟩:=ry;exact PySem.EqNone.ne_none_int (bW I q (by simp))
  |str j=>obtain ⟨t',rfl⟩:=ry;exact PySem.EqNone.ne_none_str (bW I q (by simp))
  |_=>exact absurd (show false=true from hs) v4
 |bl i=>
  cases rx;cases y with
  |non=>cases ry;exact PySem.EqNone.ne_bool_none (bW I q (by simp))
  |bl j=>cases ry;exact ne_bool (bW I q (congrArg not aSq))
  |str j=>obtain ⟨t',rfl⟩:=ry;exact PySem.EqMixed.ne_bool_str (bW I q (by simp))
  |_=>exact absurd (show false=true from hs) v4
 |int i=>
  obtain ⟨t,rfl⟩:=rx;cases y with
  |non=>cases ry;exact PySem.EqNone.ne_int_none (bW I q (by simp))
  |int j=>obtain ⟨t',rfl⟩:=ry;exact ne_int (bW I q (congrArg not aL4))
  |str j=>obtain ⟨t',rfl⟩:=ry;exact PySem.EqMixed.ne_int_str (bW I q (by simp))
  |_=>exact absurd (show false=true from hs) v4
 |str i=>
  obtain ⟨t,rfl⟩:=rx;cases y with
  |non=>cases ry;exact PySem.EqNone.ne_str_none (bW I q (by simp))
  |bl j=>cases ry;exact PySem.EqMixed.ne_str_bool (bW I q (by simp))
  |int j=>obtain ⟨t',rfl⟩:=ry;exact PySem.EqMixed.ne_str_int (bW I q (by simp))
  |str j=>obtain ⟨t',rfl⟩:=ry;exact ne_str (bW I q (congrArg not aL3))
  |_=>exact absurd (show false=true from hs) v4
 |byt i=>
  obtain ⟨t,rfl⟩:=rx;cases y with
  |byt j=>obtain ⟨t',rfl⟩:=ry;exact PySem.W.ne_bytes (bW I q (congrArg not aMa))
  |_=>exact absurd (show false=true from hs) v4
 |_=>cases y <;> exact absurd (show false=true from hs) v4
theorem aRy:OpR X (compareOp .Lt) (rI0 fun i j=>.bl (decide (i<j))):=aS7 fun _ _ _ _ _ _ _ q=>lt_int q
theorem aAe:OpR X (compareOp .LtE) (rI0 fun i j=>.bl (decide (i≤j))):=aS7 fun _ _ _ _ _ _ _ q=>le_int q
theorem aZf:OpR X (compareOp .Gt) (rI0 fun i j=>.bl (decide (j<i))):=aS7 fun _ _ _ _ _ _ _ q=>gt_int q
theorem aZ8:OpR X (compareOp .GtE) (rI0 fun i j=>.bl (decide (j≤i))):=aS7 fun _ _ _ _ _ _ _ q=>ge_int q
theorem aNr:OpR X (compareOp .In) (fun x y H Q=>∃i j,x=.str i∧y=.str j∧Q (.bl (!(Builtin.Str.occurrences j i 0 j.length 1).isEmpty)) H):=by intro bEP s σ H x y v u Q I rx ry h;obtain ⟨i,j,rfl,rfl,q⟩:=h;obtain ⟨t,rfl⟩:=rx;obtain ⟨t',rfl⟩:=ry;exact in_str (bW I q rfl)
theorem aPv:OpR X (compareOp .Is) (fun x y H Q=>y=.non∧Q (.bl (decide (x=.non))) H):=by
 intro bEP s σ H x y v u Q I rx ry h;obtain ⟨rfl,q⟩:=h;cases ry;refine is_none_gen (bW I q ?_);cases x <;> first
  |(cases rx;rfl)
  |(obtain ⟨t,rfl⟩:=rx;rfl)
theorem aTp:OpR X (compareOp .IsNot) (fun x y H Q=>y=.non∧Q (.bl (!decide (x=.non))) H):=by
 intro bEP s σ H x y v u Q I rx ry h;obtain ⟨rfl,q⟩:=h;cases ry;refine isnot_none_gen (bW I q ?_);cases x <;> first
  |(cases rx;rfl)
  |(obtain ⟨t,rfl⟩:=rx;rfl)
theorem OpR.or {f:Value→Value→Sem Value} {r r':R2} (h:OpR X f r) (h':OpR X f r'):OpR X f (fun x y H Q=>r x y H Q∨r' x y H Q):=by
 intro bEP s σ H x y v u Q I rx ry q;rcases q with q|q
 ·exact h bEP s σ H x y v u Q I rx ry q
 ·exact h' bEP s σ H x y v u Q I rx ry q
theorem bH (b:Expr) {op:CmpOp} (h:op≠.In:=by decide) (h2:op≠.NotIn:=by decide):behindInMarks op b=false:=by
 have e1:(op == CmpOp.In)=false:=by cases op <;> first|rfl|exact absurd rfl h
 have e2:(op == CmpOp.NotIn)=false:=by cases op <;> first|rfl|exact absurd rfl h2
 cases b <;> simp [behindInMarks,e1,e2]
theorem aUl {op:CmpOp} {r:R2} (ho:OpR X (compareOp op) r) (ha:PE X a ta) (hb:PE X b tb) (hm:behindInMarks op b=false):PE X (.Compare a [op] [b] pos) (tOp r ta tb):=by intro bEP s σ H Q I h;exact wpAny_Compare1 (aVo ha hb I h fun v u s2 x y H2 I2 rx ry q=>ho bEP s2 σ H2 x y v u Q I2 rx ry q) hm
def aMs (t:TE):TT:=fun σ H Q=>t σ H fun x H'=>∃k,x=.bl k∧Q k H'
theorem aVc {op:CmpOp} {r:R2} (ho:OpR X (compareOp op) r) (ha:PE X a ta) (hb:PE X b tb) (hm:behindInMarks op b=false):PT X (.Compare a [op] [b] pos) (aMs (tOp r ta tb)):=by
 intro bEP s σ H Q I h;refine wpAny_isTrue_Compare1 (thn (ha bEP s σ H _ I h) fun v s1 ⟨x,H1,I1,r1,q1⟩=>thn (hb bEP s1 σ H1 _ I1 q1) fun u s2 ⟨y,H2,I2,r2,q2⟩=>
  thn (ho bEP s2 σ H2 x y v u _ I2 r1 r2 q2) fun c s3 ⟨z,H3,I3,r3,k,e,q3⟩=>?_) hm
 subst e;cases r3;exact bBA ⟨H3,I3,q3⟩
def aFv (r r':R2) (ta tb tc:TE):TE:=fun σ H Q=>ta σ H fun x H1=>tb σ H1 fun y H2=>r x y H2 fun z H3=>∃k,z=.bl k ∧
 (if k=true then tc σ H3 fun w' H4=>r' y w' H4 Q else Q (.bl false) H3)
theorem aSm {op op':CmpOp} {r r':R2} (ho:OpR X (compareOp op) r) (ho':OpR X (compareOp op') r') (ha:PE X a ta) (hb:PE X b tb) (hc:PE X c tc)
  (hm:lastMarks [op,op'] [b,c]=false:=by with_unfolding_all rfl):PE X (.Compare a [op,op'] [b,c] pos) (aFv r r' ta tb tc):=by
 intro bEP s σ H Q I h;refine Compare_chain (thn (ha bEP s σ H _ I h) fun v s1 ⟨x,H1,I1,r1,q1⟩=>chain_link (thn (hb bEP s1 σ H1 _ I1 q1) fun u s2 ⟨y,H2,I2,r2,q2⟩=>
  thn (ho bEP s2 σ H2 x y v u _ I2 r1 r2 q2) fun d s3 ⟨z,H3,I3,r3,k,e,q3⟩=>?_)) hm
 subst e;cases r3;refine bBA ?_;cases k with
 |false=>exact ite_ff ⟨.bl false,H3,I3,rfl,q3⟩
 |true=>exact ite_tt (chain_last (thn (hc bEP s3 σ H3 _ I3 q3) fun w' s4 ⟨z',H4,I4,r4,q4⟩=>ho' bEP s4 σ H4 y z' u w' Q I4 r2 r4 q4))
theorem aQk {op op':CmpOp} {r r':R2} (ho:OpR X (compareOp op) r) (ho':OpR X (compareOp op') r') (ha:PE X a ta) (hb:PE X b tb) (hc:PE X c tc)
  (hm:lastMarks [op,op'] [b,c]=false:=by with_unfolding_all rfl):PT X (.Compare a [op,op'] [b,c] pos) (aMs (aFv r r' ta tb tc)):=by
 intro bEP s σ H Q I h;refine isTrue_chain (thn (ha bEP s σ H _ I h) fun v s1 ⟨x,H1,I1,r1,q1⟩=>test_link (thn (hb bEP s1 σ H1 _ I1 q1) fun u s2 ⟨y,H2,I2,r2,q2⟩=>
  thn (ho bEP s2 σ H2 x y v u _ I2 r1 r2 q2) fun d s3 ⟨z,H3,I3,r3,k,e,q3⟩=>?_)) hm
 subst e;cases r3;refine bBA ?_;cases k with
 |false=>obtain ⟨k',e',q'⟩:=q3;cases e';exact ite_ff ⟨H3,I3,q'⟩
 |true=>refine ite_tt (test_last (thn (hc bEP s3 σ H3 _ I3 q3) fun w' s4 ⟨z',H4,I4,r4,q4⟩=>thn (ho' bEP s4 σ H4 y z' u w' _ I4 r2 r4 q4) fun d' s5 ⟨z2,H5,I5,r5,k2,e2,q5⟩=>?_));subst e2;cases r5;exact bBA ⟨H5,I5,q5⟩
theorem aAn:(sizeLine:Nat)<2 ^ 63:=by rw [sizeLine_eq];decide
theorem oU:OpR X (binaryOp .Add) (fun x y H Q=>∃i j,x=.str i∧y=.str j∧i.length+j.length≤sizeLine∧Q (.str (i++j)) H):=by intro bEP s σ H x y v u Q I rx ry h;obtain ⟨i,j,rfl,rfl,hz,q⟩:=h;obtain ⟨t,rfl⟩:=rx;obtain ⟨t',rfl⟩:=ry;exact add_str (fun t' tk=>⟨.str (i++j),H,I.tok _,⟨_,rfl⟩,q⟩) hz
def aIa (b:Expr):Prop:=∀o i,subscripted b false o i=operate [o,i] (getItem o i)
theorem aHn (ha:PE X a ta) (hb:PE X b tb) (hs:aIa b) :
  PE X (.Subscript a b pos) (tOp (fun x y H Q=>∃z i c,x=.str z∧y=.int i∧0≤i∧i<2 ^ 63∧i<z.length∧z.cps[i.toNat]?=some c∧Q (.str ⟨#[c]⟩) H) ta tb):=by
 intro bEP s σ H Q I h;refine Subscript_ (aVo ha hb I h fun v u s2 x y H2 I2 rx ry q=>?_);obtain ⟨z,i,c,rfl,rfl,h0,h63,h1,hc,q⟩:=q;obtain ⟨t,rfl⟩:=rx;obtain ⟨t',rfl⟩:=ry;have e:seqIndex? i z.length=some i.toNat:=PySem.StrLaws.seqIndex_nonneg h0 h1;exact tail_any (typeIs_str s2 z t) slot_str_getitem.lookup (getItem_str (c:=c) (by have e1:decide (i < -(2 ^ 63:Int))=false:=bAD (by lia);have e2:decide (i ≥ 2 ^ 63)=false:=bAD (by lia);rw [e1,e2] <;> rfl) (by rw [e];exact hc) ⟨.str ⟨#[c]⟩,H2,I2.tok _,⟨_,rfl⟩,q⟩) (hs _ _)
theorem vals1 {x:V} {us:List Value} (r:Vals [x] us):∃u,us=[u]∧RelV x u:=by
 cases r with
 |cons r1 r2=>cases r2;exact ⟨_,rfl,r1⟩
theorem vals2 {x y:V} {us:List Value} (r:Vals [x,y] us):∃u w',us=[u,w']∧RelV x u∧RelV y w':=by
 cases r with
 |cons r1 r2=>
  cases r2 with
  |cons r3 r4=>cases r4;exact ⟨_,_,rfl,r1,r3⟩
theorem aDp:cJ X (.type "int") (fun xs H Q=>(∃i,xs=[.int i]∧Q (.int i) H)∨∃k,xs=[.bl k]∧Q (.int (if k then 1 else 0)) H):=by
 intro bEP s σ H xs us Q I r h;rcases h with ⟨i,rfl,q⟩|⟨k,rfl,q⟩
 ·obtain ⟨u,rfl,t,rfl⟩:=vals1 r;exact call_int_int ⟨.int i,H,I,⟨_,rfl⟩,q⟩
 ·obtain ⟨u,rfl,r1⟩:=vals1 r;cases r1;exact call_int_bool ⟨.int (if k then 1 else 0),H,I.tok _,⟨_,rfl⟩,q⟩
end
structure aJq (h:Heap) (x dx C:Addr) (mA:bEO):Prop where
 obj:h.get? x=some (PySem.W.instObj C dx)
 ns:h.Ns1 dx mA
 ne:dx≠x
theorem aO2 {h:Heap} {dx:Addr} {mA:bEO} (n:h.Ns1 dx mA):∃od,h.get? dx=some od∧∀name,PySem.W.lookIn name od=some (mA name):=by
 obtain ⟨o,es,ep,ho,hd,hk,_,hm⟩:=n;refine ⟨o,ho,fun name=>?_⟩;have e:=hm name;unfold nsFind findBy at e;rw [←Array.find?_toList] at e;unfold PySem.W.lookIn;rw [hd];dsimp only
 split
 ·rename_i y q;rw [q] at e;exact congrArg some e
 ·rename_i q;rw [q] at e;have a:es.toList.any (·.refKey)=false:=by rw [List.any_eq_false];intro y hy;obtain ⟨z,t,hkey⟩:=hk y (Array.mem_toList_iff.mp hy);simp [DictEntry.refKey,hkey]
  have a':¬ es.toList.any (·.refKey)=true:=by rw [a];exact v4
  rw [if_neg a'];exact congrArg some e
theorem aJq.look {h:Heap} {x dx C:Addr} {mA:bEO} (I:aJq h x dx C mA):∃od,PySem.W.InstAt h x (PySem.W.instObj C dx) C (some od)∧∀name,PySem.W.lookIn name od=some (mA name):=
 let ⟨od,ho,hl⟩:=aO2 I.ns
 ⟨od,⟨I.obj,rfl,rfl,ho⟩,hl⟩
section
variable {prog:Program} {w:World} {A:Around} {E:bEM} {s:Shared} {K:bEL} {x dx C f:Addr} {mA:bEO} {name:Str} {v:Value}
theorem aVi {expr:Bool} {Q:bEM} (X:K.In s.heap) (I:aJq s.heap x dx C mA) (hg:PySem.W.plainGet K C name=true) (hh:PySem.W.hasDictIn K C=true)
  (ha:PySem.W.findIn K (.ref C) name=some none) (hv:mA name=some v) (hv':PySem.W.handedIn v=true) (h:Q v { s with toks:=s.toks+1 }) :
  wpAny (model prog w) A (getAttr (.ref x) name expr) Q E s:=by
 obtain ⟨od,J,hl⟩:=I.look;exact PySem.W.get_value X J (PySem.W.plainGet_of hg).1 (PySem.W.findObj_own hh ha rfl (by rw [hl,hv])) hv' h
theorem aSd {pl:Sem Bool} {Q:Value × List Value→Shared→Prop} (X:K.In s.heap) (I:aJq s.heap x dx C mA) (hg:PySem.W.plainGet K C name=true)
  (hf:PySem.W.findIn K (.ref C) name=some (some (.ref f))) (ht:PySem.W.isFn K (.ref f)=true) (hv:mA name=none) (h:Q (.ref f,[.ref x]) s) :
  wpAny (model prog w) A (getMethod (.ref x) name pl) Q E s:=by
 obtain ⟨od,J,hl⟩:=I.look;exact PySem.W.method_fn X J (PySem.W.plainGet_of hg).1 (PySem.W.plainGet_of hg).2 hf (beq_iff_eq.mp ht) (by show (PySem.W.lookIn name od).map (·.isSome)=some false;rw [hl,hv];rfl) h
theorem aTw {ns:List Str} {Q:Unit→Shared→Prop} (X:K.In s.heap) (I:aJq s.heap x dx C mA)
  (hs:PySem.W.findIn K (.ref C) "__setattr__"=some (some (.builtin "object.__setattr__"))) (hp:PySem.W.plainOver K C=true) (ht:PySem.W.takerIn K C name=some none) (hh:PySem.W.hasDictIn K C=true)
  (hw:PySem.Within mA ns) (hsz:ns.length≤sizeLine)
  (h:∀h',aJq h' x dx C (fun y=>if y=name then some v else mA y)→Heap.SameBut dx s.heap h'→Q () { s with heap:=h',toks:=s.toks+2 }) :
  wpAny (model prog w) A (setAttr (.ref x) name v) Q E s:=by
 obtain ⟨od,J,hl⟩:=I.look;refine PySem.W.set_plain X J hs (PySem.W.osa_open (s:={ s with toks:=s.toks+1 }) (r:=none) X J hp ht fun b=>?_);obtain ⟨cd,hc,hd'⟩:=PySem.W.any_some hh;have hx:s.heap.get? x=some ⟨.ref C,some dx,.plain,#[]⟩:=I.obj;refine c7 (j4 (c7 (c7 (wpAny_loadPart hx (c7 (PySem.W.Looks.here (s:={ s with toks:=s.toks+1 }) (PySem.W.looks_clsIn X hc) ?_))))));rw [hd'];refine j4 (a:=some dx) (c7 (j4 (c7 ?_)));refine wpAny_nsSet1 (s:={ s with toks:=s.toks+1 }) I.ns fun h' hn2 hs2=>?_;obtain ⟨oD,esD,epD,hoD,hdD,hcD⟩:=hn2.count (PySem.Within.cons name v hw);refine c7 (wpAny_lookBehind hoD (by rw [hdD];exact pastItsLine_dict (bAR hcD (by rw [t7];lia))) ?_);exact j4 (h _ ⟨(hs2.2 _ (Ne.symm I.ne)).trans I.obj,hn2,I.ne⟩ hs2)
theorem aQh {R:Result→Shared→Prop} {vs:List Value} {kw:List (Str × Value)} (X:K.In s.heap) (hm:PySem.W.makesIn K C=true)
  (hi:PySem.W.findIn K (.ref C) "__init__"=some (some (.ref f))) (hf:PySem.W.typeIn K (.ref f)=some (.type "function"))
  (h:codeAny (model prog w) (A.under (.builtin "type.__call__" ⟨.ref C::vs,kw⟩)) (.call (.ref f) ⟨.ref (s.heap.objs.size+1)::vs,kw⟩) (PySem.W.InitBack (s.heap.objs.size+1) R)
   { s with heap:=(s.heap.push PySem.W.emptyDict).push (PySem.W.instObj C s.heap.objs.size) }) :
  codeAny (model prog w) A (.call (.ref C) ⟨vs,kw⟩) R s:=by
 obtain ⟨hh,g,d,t,os⟩:=s;exact PySem.W.make_core (PySem.W.makes_of X hm) (PySem.W.looks_findIn X hi) (fun self=>PySem.W.bind_fn X self hf) (.inl rfl) h
end
def iT (f:Str) (v:V):List (Str × V)→List (Str × V)
 |[]=>[(f,v)]
 |(g,x)::r=>if g=f then (g,v)::r else (g,x)::iT f v r
theorem xP (f g:Str) (v:V):∀fs:List (Str × V),(iT f v fs).lookup g=if g=f then some v else fs.lookup g
 |[]=>by
  show List.lookup g [(f,v)]=_;by_cases h:g=f
  ·have hb:(g == f)=true:=beq_iff_eq.mpr h;simp only [List.lookup,hb,if_pos h]
  ·have hb:(g == f)=false:=beq_eq_false_iff_ne.mpr h;simp only [List.lookup,hb,if_neg h]
 |(k,x)::r=>by
  have ih:=xP f g v r;rw [show iT f v ((k,x)::r)=(if k=f then (k,v)::r else (k,x)::iT f v r) from rfl];by_cases hk:k=f
  ·rw [if_pos hk];by_cases h:g=k
   ·have hb:(g == k)=true:=beq_iff_eq.mpr h;simp only [List.lookup,hb,if_pos (h.trans hk)]
   ·have hb:(g == k)=false:=beq_eq_false_iff_ne.mpr h;simp only [List.lookup,hb,if_neg (fun e:g=f=>h (e.trans hk.symm))]
  ·rw [if_neg hk];by_cases h:g=k
   ·have hb:(g == k)=true:=beq_iff_eq.mpr h;simp only [List.lookup,hb,if_neg (fun e:g=f=>hk (h.symm.trans e))]
   ·have hb:(g == k)=false:=beq_eq_false_iff_ne.mpr h;simp only [List.lookup,hb];exact ih
theorem wW (f:Str) (v:V):∀fs:List (Str × V),f∈(iT f v fs).map (·.1)∧∀g,g∈fs.map (·.1)→g∈(iT f v fs).map (·.1)
 |[]=>⟨by simp [iT],fun g h=>by simp at h⟩
 |(k,x)::r=>by
  obtain ⟨i1,i2⟩:=wW f v r;rw [show iT f v ((k,x)::r)=(if k=f then (k,v)::r else (k,x)::iT f v r) from rfl];by_cases hk:k=f
  ·rw [if_pos hk];subst hk;exact ⟨by simp,fun g h=>by simpa using h⟩
  ·rw [if_neg hk];refine ⟨?_,fun g h=>?_⟩
   ·rw [bAN];exact m8 _ i1
   ·rw [bAN] at h ⊢;rcases List.mem_cons.mp h with e|e
    ·exact List.mem_cons.mpr (.inl e)
    ·exact m8 _ (i2 g e)
theorem xQ (f:Str) (v:V):∀fs:List (Str × V),(iT f v fs).length≤fs.length+1
 |[]=>by simp [iT]
 |(k,x)::r=>by
  have ih:=xQ f v r;rw [show iT f v ((k,x)::r)=(if k=f then (k,v)::r else (k,x)::iT f v r) from rfl];by_cases hk:k=f
  ·rw [if_pos hk,t7,t7];lia
  ·rw [if_neg hk,t7,t7];lia
theorem nC.some_of {v:V} {o:Option Value} (r:nC (some v) o):∃u,o=some u∧RelV v u:=by
 cases o with
 |none=>exact (show False from r).elim
 |some u=>exact ⟨u,rfl,r⟩
theorem nC.none_of {o:Option Value} (r:nC none o):o=none:=by
 cases o with
 |none=>rfl
 |some u=>exact (show False from r).elim
theorem aPc {v:V} {u:Value} (r:RelV v u):PySem.W.handedIn u=true:=by
 cases v with
 |non=>cases (show u=Value.none from r);rfl
 |bl b=>cases (show u=Value.bool b from r);rfl
 |int i=>obtain ⟨t,e⟩:=(show ∃t,u=Value.int i t from r);cases e;rfl
 |str x=>obtain ⟨t,e⟩:=(show ∃t,u=Value.str x t from r);cases e;rfl
 |byt b=>obtain ⟨t,e⟩:=(show ∃t,u=Value.bytes b t from r);cases e;rfl
 |flt b=>obtain ⟨t,e⟩:=(show ∃t,u=Value.float b t from r);cases e;rfl
 |ref a=>cases (show u=Value.ref a from r);rfl
 |ty n=>cases (show u=Value.type n from r);rfl
section
variable {P:Program} {w:World} {H H':Hp} {h h':Heap} {a C dx:Addr} {fs fs':List (Str × V)}
theorem aFg (hok:HOk P w H h) (e:H a=some (.ins C dx fs)):∃mA,aJq h a dx C mA∧(∀f,nC (fs.lookup f) (mA f))∧PySem.Within mA (fs.map (·.1))∧fs.length≤1000∧H dx=some (.own a):=by obtain ⟨d,z,ne,ob,mA,n,r,q⟩:=(show cW P w H h a (.ins C dx fs) from hok a _ e);exact ⟨mA,⟨ob,n,ne⟩,r,q,z,d⟩
end
structure Cls (K:bEL) (C:Addr):Prop where
 pg:PySem.W.plainGet K C Str.empty=true
 hd:PySem.W.hasDictIn K C=true
 po:PySem.W.plainOver K C=true
 sa:PySem.W.findIn K (.ref C) "__setattr__"=some (some (.builtin "object.__setattr__"))
theorem Cls.get {K:bEL} {C:Addr} (c:Cls K C) (f:Str):PySem.W.plainGet K C f=true:=c.pg
def bN (K:bEL) (C:Addr) (f:Str):Prop:=PySem.W.findIn K (.ref C) f=some none
theorem bN.taker {K:bEL} {C:Addr} {f:Str} (n:bN K C f):PySem.W.takerIn K C f=some none:=by unfold PySem.W.takerIn;rw [show PySem.W.findIn K (.ref C) f=some none from n];rfl
structure Meth (K:bEL) (C:Addr) (m:Str) (f:Addr):Prop where
 at_:PySem.W.findIn K (.ref C) m=some (some (.ref f))
 fn:PySem.W.isFn K (.ref f)=true
 kp:PySem.W.keepIn K (.ref f)=true
section
variable {X:Cx} {bEP:bEN} {σ:St} {H:Hp} {s:Shared} {a C dx:Addr} {fs:List (Str × V)} {f:Str} {v:V} {A:Around} {E:bEM}
theorem aKc {b:Bool} {Q:bEM} (I:Inv X bEP σ H s) (e:H a=some (.ins C dx fs)) (c:Cls X.K C) (n:bN X.K C f) (l:fs.lookup f=some v)
  (h:∀u s',Inv X bEP σ H s'→RelV v u→Q u s'):wpAny (model X.prog X.w) A (getAttr (.ref a) f b) Q E s:=by
 obtain ⟨mA,O,r,_,_,_⟩:=aFg I.hok e;obtain ⟨u,hu,ru⟩:=nC.some_of (v:=v) (o:=mA f) (by rw [←l];exact r f);exact aVi I.kIn O (c.get f) c.hd n hu (aPc ru) (h u _ (I.tok _) ru)
theorem tO {m:Str} {g:Addr} {pl:Sem Bool} {Q:Value × List Value→Shared→Prop} (I:Inv X bEP σ H s) (e:H a=some (.ins C dx fs)) (c:Cls X.K C) (k:Meth X.K C m g) (l:fs.lookup m=none)
  (h:Q (.ref g,[.ref a]) s):wpAny (model X.prog X.w) A (getMethod (.ref a) m pl) Q E s:=by
 obtain ⟨mA,O,r,_,_,_⟩:=aFg I.hok e;have hn:mA m=none:=nC.none_of (by rw [←l];exact r m);exact aSd I.kIn O (c.get m) k.at_ k.fn hn h
theorem aLp {y:V} {u:Value} {Q:Unit→Shared→Prop} (I:Inv X bEP σ H s) (e:H a=some (.ins C dx fs)) (c:Cls X.K C) (n:bN X.K C f) (hl:fs.length<1000) (ry:RelV y u)
  (h:∀s',Inv X bEP σ (upd H a (.ins C dx (iT f y fs))) s'→Q () s'):wpAny (model X.prog X.w) A (setAttr (.ref a) f u) Q E s:=by
 obtain ⟨mA,O,r,wi,_,ho⟩:=aFg I.hok e;have hz:(fs.map (·.1)).length≤sizeLine:=by rw [m7,sizeLine_eq];lia
 refine aTw I.kIn O c.sa c.po n.taker c.hd wi hz fun h' O' sb=>h _ ?_;have hd:∃o,h'.get? dx=some o:=let ⟨o,_,_,e',_⟩:=O'.ns;⟨o,e'⟩
 refine I.write (x:=a) (e:=dx) (by rw [e];exact True.intro) (.inr ho) (fun b q hb z=>(sb.2 b hb).trans z) hd ?_;refine ⟨by rw [aK O.ne];exact ho,?_,O.ne,O'.obj,_,O'.ns,fun g=>?_,fun g hg=>?_⟩
 ·have:=xQ f y fs;lia
 ·show nC ((iT f y fs).lookup g) (if g=f then some u else mA g);rw [xP];by_cases q:g=f
  ·rw [if_pos q,if_pos q];exact ry
  ·rw [if_neg q,if_neg q];exact r g
 ·by_cases q:g=f
  ·rw [q];exact (wW f y fs).1
  ·refine (wW f y fs).2 g (wi g fun z=>hg ?_);show (if g=f then some u else mA g)=none;rw [if_neg q];exact z
theorem Inv.made (I:Inv X bEP σ H s):Inv X bEP σ (upd (upd H s.heap.objs.size (.own (s.heap.objs.size+1))) (s.heap.objs.size+1) (.ins C s.heap.objs.size []))
  { s with heap:=(s.heap.push PySem.W.emptyDict).push (PySem.W.instObj C s.heap.objs.size) }:=by
 have e1:(s.heap.push PySem.W.emptyDict).get? s.heap.objs.size=some PySem.W.emptyDict:=j5 s.heap rfl;have e2:((s.heap.push PySem.W.emptyDict).push (PySem.W.instObj C s.heap.objs.size)).get? (s.heap.objs.size+1)=some (PySem.W.instObj C s.heap.objs.size):=by
  have:=j5 (s.heap.push PySem.W.emptyDict) (o:=PySem.W.instObj C s.heap.objs.size) rfl
  rwa [bAT] at this
 have e3:(s.heap.push PySem.W.emptyDict).Ns s.heap.objs.size (fun _=>none):=⟨PySem.W.emptyDict,#[],_,e1,rfl,(fun e he=>absurd he (by simp)),fun _=>rfl⟩;have I1:=I.laid (a:=s.heap.objs.size) (o:=.own (s.heap.objs.size+1)) (h':=s.heap.push PySem.W.emptyDict) (t':=s.toks) (fun b u q=>d9 _ q) (j6 _) ⟨_,e1⟩;refine I1.laid (a:=s.heap.objs.size+1) (o:=.ins C s.heap.objs.size []) (t':=s.toks) (fun b u q=>d9 _ q) (bEA (bAT _ _)) ?_;have ne:s.heap.objs.size≠s.heap.objs.size+1:=m9 (bCJ _);refine ⟨by rw [aK ne,aH],bAL _,ne,e2,fun _=>none,(Heap.Ns1.of_empty e3).at fun o q=>d9 _ q,fun _=>True.intro,fun y hy=>absurd rfl hy⟩
theorem aVt {prog:Program} {w:World} {env:Env} {e:Expr} {f:Str} {pos:Pos} {s:Shared} {Q:bEM} (hb:attributeBase e f env (eval e env)=eval e env)
  (h:wpAny (model prog w) A (eval e env) (fun o s₁=>wpAny (model prog w) A (getAttr o f true) Q E s₁) E s):wpAny (model prog w) A (eval (.Attribute e f pos) env) Q E s:=
 Attribute_any_ h (by rw [arm_eval_Attribute,hb])
end
def aZ0 (K:bEL) (ta:TE) (f:Str):TE:=fun σ H Q=>ta σ H fun x H1=>∃a C dx fs v,x=.ref a∧H1 a=some (.ins C dx fs)∧Cls K C∧bN K C f∧fs.lookup f=some v∧Q v H1
def aZl (K:bEL) (ta tv:TE) (f:Str):TS:=fun D σ H=>tv σ H fun y H1=>ta σ H1 fun x H2=>∃a C dx fs,x=.ref a∧H2 a=some (.ins C dx fs)∧Cls K C∧bN K C f∧fs.length<1000 ∧
 D.nx σ (upd H2 a (.ins C dx (iT f y fs)))
section
variable {X:Cx} {o e value:Expr} {f:Str} {pos pos' tpos:Pos} {ta tv:TE}
theorem aWg (he:PE X e ta) (hb:attributeBase e f X.env (eval e X.env)=eval e X.env):PE X (.Attribute e f pos) (aZ0 X.K ta f):=by intro bEP s σ H Q I h;refine aVt hb (thn (he bEP s σ H _ I h) fun u s1 ⟨x,H1,I1,rx,a,C,dx,fs,v,ex,ea,c,n,l,q⟩=>?_);subst ex;obtain rfl:u=Value.ref a:=rx;exact aKc I1 ea c n l fun u' s2 I2 ru=>⟨v,H1,I2,ru,q⟩
theorem aXv (ha:PE X o ta) (hv:PE X value tv) (hs:swapsWith value (some (.Attribute o f pos')) pos.line X.env=pure false):PS X (.Assign [.Attribute o f pos'] value pos) (aZl X.K ta tv f):=by intro bEP s σ H D I h;refine plainObj_wpAny_Assign_Attribute (thn (hv bEP s σ H _ I h) fun u s1 ⟨y,H1,I1,ry,q⟩=>thn (ha bEP s1 σ H1 _ I1 q) fun ov s2 ⟨x,H2,I2,rx,a,C,dx,fs,ex,ea,c,n,l,q2⟩=>?_) hs;subst ex;obtain rfl:ov=Value.ref a:=rx;exact aLp I2 ea c n l ry fun s3 I3=>⟨σ,_,I3,q2⟩
end
section
variable {X:Cx} {bEP:bEN} {σ:St} {H:Hp} {s:Shared} {A:Around} {E:bEM} {Q:bEM} {c:Value} {b:Bool}
end
structure Room (k:Nat) (A:Around):Prop where
 hd:A.handled=none
 dp:A.depth+3 * k+5<recursionLimit
 un:A.units+16 * k+200<cLine
theorem Room.mono {j k:Nat} {A:Around} (r:Room k A) (h:j≤k):Room j A:=⟨r.hd,by have:=r.dp;lia,by have:=r.un;lia⟩
theorem Room.deeper {k:Nat} {A:Around} (r:Room (k+1) A) (env:Env):Room k (A.deeper env):=
 ⟨r.hd,by have:=r.dp;show A.depth+1+3 * k+5<_;lia,by have:=r.un;show A.units+3+16 * k+200<_;lia⟩
theorem aLj {A:Around} {C:Addr} {us:List Value} {kw:List (Str × Value)}:(A.under (.builtin "type.__call__" ⟨.ref C::us,kw⟩)).depth=A.depth+1:=by
 first|rfl|simp [Around.under,Code.weight,Code.isCreation,Code.isGuard,Code.isCaller,Code.frames,Code.isFrame,guardIds]
theorem aKm {A:Around} {C:Addr} {us:List Value} {kw:List (Str × Value)}:(A.under (.builtin "type.__call__" ⟨.ref C::us,kw⟩)).units=A.units+1:=by
 first|rfl|simp [Around.under,Code.cUnits,Code.frames,Code.isFrame]
theorem Room.make {k:Nat} {A:Around} (r:Room (k+1) A) (C:Addr) (us:List Value) (kw:List (Str × Value)):Room k (A.under (.builtin "type.__call__" ⟨.ref C::us,kw⟩)):=
 ⟨r.hd,by have:=r.dp;rw [aLj];lia,by have:=r.un;rw [aKm];lia⟩
theorem Room.depth {k:Nat} {A:Around} (r:Room k A):A.depth<recursionLimit:=by have:=r.dp;lia
theorem Room.units {k:Nat} {A:Around} (r:Room k A):A.units+64<cLine:=by have:=r.un;lia
def aBw:TA:=fun _ H Q=>Q [] H
def dR (ta:TE) (tr:TA):TA:=fun σ H Q=>ta σ H fun x H1=>tr σ H1 fun xs H2=>Q (x::xs) H2
section
variable {X:Cx} {e:Expr} {es:List Expr} {te:TE} {t:TA} {pos:Pos}
theorem aSx:PA X [] aBw:=fun _ _ _ _ H Q I h=>bDN ⟨[],H,I,.nil,h⟩
theorem aVp (ha:PE X e te) (hr:PA X es t) (hs:starEach (e::es) X.env=(false,eval e X.env)::starEach es X.env:=by rfl):PA X (e::es) (dR te t):=by intro pos bEP s σ H Q I h;rw [hs];show wpAny _ _ (spliced ((false,eval e X.env)::backTo pos (starEach es X.env))) _ _ s;refine bBU (thn (ha bEP s σ H _ I h) fun u s1 ⟨x,H1,I1,r1,q1⟩=>?_);exact thn (hr pos bEP s1 σ H1 _ I1 q1) fun us s2 ⟨xs,H2,I2,r2,q2⟩=>⟨x::xs,H2,I2,.cons r1 r2,q2⟩
end
abbrev Sp:=List V→Hp→VK→XK→Prop
abbrev CXT:=List Env→Hp→Shared→XK→Value→Shared→Prop
structure aEq (P:Program) (w:World) (K:bEL) (mg:bEO) (base:Heap) (A:Around) (outer:List Env) (s:Shared) (H:Hp):Prop where
 frames:A.frames=some outer
 mod:Mod K mg base
 bs:∀b o,base.get? b=some o→s.heap.get? b=some o∧H b=none
 bsz:base.objs.size≤s.heap.objs.size
 funs:s.heap.FunFrames base outer
 frf:∀b∈frs outer,H b=none
 hok:HOk P w H s.heap
 bare:AllBare s.gens
def CE (outer:List Env) (P:Program) (w:World) (H:Hp) (s:Shared) (Q:VK) (u:Value) (s':Shared):Prop:=
 ∃v H',s'.os=s.os∧AllBare s'.gens∧Un (frs outer) [] H H' s.heap s'.heap∧HOk P w H' s'.heap∧RelV v u∧Q v H'
def CR (CX:CXT) (outer:List Env) (P:Program) (w:World) (H:Hp) (s:Shared) (Q:VK) (E:XK) (r:Result) (s':Shared):Prop:=
 match r with
 |.ok (.ret u)=>CE outer P w H s Q u s'
 |.ok _=>False
 |.error e=>CX outer H s E e s'
structure fV (P:Program) (w:World) (K:bEL) (mg:bEO) (base:Heap) (CX:CXT) (k:Nat) (f:Addr) (fd:FuncData) (ps:List Str) (sp:Sp):Prop where
 len:∀vs H Q E,sp vs H Q E→vs.length=ps.length
 run:∀(A:Around) (outer:List Env) (s:Shared) (H:Hp) (args:Args) (us:List Value) (vs:List V) (Q:VK) (E:XK),Room k A→aEq P w K mg base A outer s H→BindsTo s fd args (ps.zip us)→Vals vs us→sp vs H Q E →
  codeAny (model P w) A (.call (.ref f) args) (CR CX outer P w H s Q E) s
theorem fV.mono {P:Program} {w:World} {K:bEL} {mg:bEO} {base:Heap} {CX:CXT} {j k:Nat} {f:Addr} {fd:FuncData} {ps:List Str} {sp:Sp} (F:fV P w K mg base CX j f fd ps sp) (h:j≤k) :
  fV P w K mg base CX k f fd ps sp:=⟨F.len,fun A outer s H args us vs Q E hr=>F.run A outer s H args us vs Q E (hr.mono h)⟩
theorem aEq.make {P:Program} {w:World} {K:bEL} {mg:bEO} {base:Heap} {A:Around} {outer:List Env} {s:Shared} {H:Hp} (e:aEq P w K mg base A outer s H) (C:Addr) (us:List Value) (kw:List (Str × Value)) :
  aEq P w K mg base (A.under (.builtin "type.__call__" ⟨.ref C::us,kw⟩)) outer s H:=⟨by first|exact e.frames|(simpa [Around.under,Code.envs,Code.isFrame,pushEnvs] using e.frames),e.mod,e.bs,e.bsz,e.funs,e.frf,e.hok,e.bare⟩
section
variable {X:Cx} {bEP:bEN} {σ:St} {H:Hp} {s s':Shared}
theorem Inv.env0 (I:Inv X bEP σ H s):aEq X.prog X.w X.K X.mg X.base X.A X.stack s H:=
 ⟨I.ok.frames,I.ok.mod,I.bs,bAR I.ok.bsz I.sz,I.stack,I.rJ,I.hok,I.bare⟩
theorem Inv.after {Q:VK} {u:Value} (I:Inv X bEP σ H s) (h:CE X.stack X.prog X.w H s Q u s'):EP X bEP σ Q u s':=by obtain ⟨v,H',os,bare,un,hok,r,q⟩:=h;obtain ⟨hh,g,d,t,os'⟩:=s';obtain rfl:os'=s.os:=os;exact ⟨v,H',I.call (h':=hh) (g':=g) (d':=d) (t':=t) (ch:=[]) un hok bare (fun b z=>absurd z (by simp)),r,q⟩
end
def aDc (sp:Sp) (dvs:List V) (E:XK) (t:TA):TE:=fun σ H Q=>t σ H fun vs H1=>sp (vs++dvs) H1 Q E
def aMw (C:Addr) (m:Str) (sp:Sp) (dvs:List V) (E:XK) (ta:TE) (t:TA):TE:=fun σ H Q=>ta σ H fun x H1=>∃a dx fs,x=.ref a∧H1 a=some (.ins C dx fs)∧fs.lookup m=none ∧
 t σ H1 fun vs H2=>sp (x::(vs++dvs)) H2 Q E
def aWc (C:Addr) (sp:Sp) (dvs:List V) (E:XK) (t:TA):TE:=fun σ H Q=>t σ H fun vs H1=>∀x dx,H1 x=none→H1 dx=none→dx≠x →
 sp (.ref x::(vs++dvs)) (upd (upd H1 dx (.own x)) x (.ins C dx [])) (fun v H2=>v=.non∧Q (.ref x) H2) E
def Binds (K:bEL) (fd:FuncData) (ps:List Str) (ds:List Value):Prop:=
 ∀(s:Shared) (us:List Value),K.In s.heap→(us++ds).length=ps.length→BindsTo s fd ⟨us,[]⟩ (ps.zip (us++ds))
theorem Binds.all {K:bEL} {fd:FuncData} {ps:List Str} (h:∀us:List Value,us.length=ps.length→bindArgs fd ⟨us,[]⟩=pure (ps.zip us)):Binds K fd ps []:=fun s us _ hl=>by rw [bBF] at hl ⊢;exact .of_eq (h us hl)
def mO (CX:CXT) (X:Cx) (E:XK):Prop:=∀(bEP:bEN) (σ:St) (H:Hp) (s:Shared) (e:Value) (s':Shared),Inv X bEP σ H s→CX X.stack H s E e s'→X.xe e s'
section
variable {X:Cx} {CX:CXT} {k:Nat} {f C:Addr} {fd:FuncData} {ps:List Str} {sp:Sp} {dvs:List V} {ds:List Value} {E:XK} {x m:Str} {p pos apos:Pos} {e o:Expr} {es:List Expr} {ta:TE} {t:TA}
theorem aBg {bEP:bEN} {σ:St} {H:Hp} {s:Shared} {Q:VK} {us:List Value} {vs:List V} (F:fV X.prog X.w X.K X.mg X.base CX k f fd ps sp) (hr:Room k X.A) (hb:Binds X.K fd ps ds) (hd:Vals dvs ds) (hx:mO CX X E)
  (I:Inv X bEP σ H s) (r:Vals vs us) (h:sp (vs++dvs) H Q E):wpAny (model X.prog X.w) X.A (call (.ref f) us) (EP X bEP σ Q) X.xe s:=by
 have r2:Vals (vs++dvs) (us++ds):=r.append hd;have hl:(us++ds).length=ps.length:=by rw [←r2.length];exact F.len _ _ _ _ h
 refine bCQ (bBM (F.run X.A X.stack s H ⟨us,[]⟩ (us++ds) (vs++dvs) Q E hr I.env0 (hb s us I.kIn hl) r2 h) fun r s' hq=>?_);cases r with
 |error e=>exact hx bEP σ H s e s' I hq
 |ok fl=>
  cases fl with
  |ret u=>exact I.after hq
  |next=>exact False.elim hq
  |brk=>exact False.elim hq
  |cont=>exact False.elim hq
theorem aVa (F:fV X.prog X.w X.K X.mg X.base CX k f fd ps sp) (hr:Room k X.A) (hg:Gl X x) (hm:X.mg x=some (.ref f)) (hk:PySem.W.keepIn X.K (.ref f)=true) (hb:Binds X.K fd ps ds) (hd:Vals dvs ds) (hx:mO CX X E)
  (ha:PA X (e::es) t) (hdb:(x == ("__debug__":Str))=false:=by decide) (he:starEach (e::es) X.env=(false,eval e X.env)::starEach es X.env:=by rfl) (hpl:(backTo pos (starEach es X.env)).any (·.1)=false:=by rfl) :
  PE X (.Call (.Name x p) (e::es) [] pos) (aDc sp dvs E t):=by
 intro bEP s σ H Q I h;refine bBE (nY I hg hm ?_ hdb);refine PySem.W.callWith_K (h₀:=X.base) I.ok.mod.kin hk (thn (ha pos bEP s σ H _ I h) fun us s1 ⟨vs,H1,I1,r,q⟩=>⟨I1.kIn,?_⟩) he hpl;exact aBg F hr hb hd hx I1 r q
theorem aQv (F:fV X.prog X.w X.K X.mg X.base CX k f fd ps sp) (hr:Room k X.A) (hg:Gl X x) (hm:X.mg x=some (.ref f)) (hk:PySem.W.keepIn X.K (.ref f)=true) (hb:Binds X.K fd ps ds) (hd:Vals dvs ds) (hx:mO CX X E)
  (hdb:(x == ("__debug__":Str))=false:=by decide):PE X (.Call (.Name x p) [] [] pos) (aDc sp dvs E aBw):=by
 intro bEP s σ H Q I h;refine bBE (nY I hg hm ?_ hdb);exact PySem.W.callWith_K0 I.kIn hk (aBg (us:=[]) F hr hb hd hx I .nil h)
theorem aU9 {pl:Sem Bool} (he:PE X o ta) (c:Cls X.K C) (hm:Meth X.K C m f) (F:fV X.prog X.w X.K X.mg X.base CX k f fd ps sp) (hr:Room k X.A) (hb:Binds X.K fd ps ds) (hd:Vals dvs ds) (hx:mO CX X E) (ha:PA X (e::es) t)
  (hst:starEach (e::es) X.env=(false,eval e X.env)::starEach es X.env:=by rfl) (hpl:(backTo pos (starEach es X.env)).any (·.1)=false:=by rfl)
  (ht:eval (.Call (.Attribute o m apos) (e::es) [] pos) X.env=(do
   let ov ←eval o X.env
   standAt apos.atName
   let (f,first) ←holding [ov] (getMethod ov m pl)
   callWith pos f first (backTo pos (starEach (e::es) X.env)) (backToKw pos (keywordEach [] X.env))):=by rfl) :
  PE X (.Call (.Attribute o m apos) (e::es) [] pos) (aMw C m sp dvs E ta t):=by
 intro bEP s σ H Q I h;refine PySem.W.methodCall_KW (pl:=pl) (thn (he bEP s σ H _ I h) fun u s1 ⟨x,H1,I1,rx,a,dx,fs,ex,ea,l,q⟩=>?_) ht;subst ex;obtain rfl:u=Value.ref a:=rx;refine tO I1 ea c hm l ?_;refine PySem.W.callWith_K (first:=[.ref a]) (h₀:=X.base) I.ok.mod.kin hm.kp (thn (ha pos bEP s1 σ H1 _ I1 q) fun us s2 ⟨vs,H2,I2,r,q2⟩=>⟨I2.kIn,?_⟩) hst hpl;exact aBg (us:=.ref a::us) (vs:=.ref a::vs) F hr hb hd hx I2 (.cons rfl r) q2
theorem aP1 {pl:Sem Bool} (he:PE X o ta) (c:Cls X.K C) (hm:Meth X.K C m f) (F:fV X.prog X.w X.K X.mg X.base CX k f fd ps sp) (hr:Room k X.A) (hb:Binds X.K fd ps ds) (hd:Vals dvs ds) (hx:mO CX X E)
  (ht:eval (.Call (.Attribute o m apos) [] [] pos) X.env=(do
   let ov ←eval o X.env
   standAt apos.atName
   let (f,first) ←holding [ov] (getMethod ov m pl)
   callWith pos f first (backTo pos (starEach [] X.env)) (backToKw pos (keywordEach [] X.env))):=by rfl) :
  PE X (.Call (.Attribute o m apos) [] [] pos) (aMw C m sp dvs E ta aBw):=by
 intro bEP s σ H Q I h;refine PySem.W.methodCall_KW (pl:=pl) (thn (he bEP s σ H _ I h) fun u s1 ⟨x,H1,I1,rx,a,dx,fs,ex,ea,l,q⟩=>?_) ht;subst ex;obtain rfl:u=Value.ref a:=rx;refine tO I1 ea c hm l ?_;exact PySem.W.callWith_K0 (first:=[.ref a]) I1.kIn hm.kp (aBg (us:=[.ref a]) (vs:=[.ref a]) F hr hb hd hx I1 (.cons rfl .nil) q)
structure Mk (K:bEL) (C f:Addr):Prop where
 makes:PySem.W.makesIn K C=true
 init:PySem.W.findIn K (.ref C) "__init__"=some (some (.ref f))
 fn:PySem.W.isFn K (.ref f)=true
 kp:PySem.W.keepIn K (.ref C)=true
theorem aRg {bEP:bEN} {σ:St} {H:Hp} {s:Shared} {Q:VK} {us:List Value} {vs:List V} (M:Mk X.K C f) (F:fV X.prog X.w X.K X.mg X.base CX k f fd ps sp) (hr:Room (k+1) X.A) (hb:Binds X.K fd ps ds) (hd:Vals dvs ds)
  (hx:mO CX X E) (I:Inv X bEP σ H s) (r:Vals vs us)
  (h:∀x dx,H x=none→H dx=none→dx≠x→sp (.ref x::(vs++dvs)) (upd (upd H dx (.own x)) x (.ins C dx [])) (fun v H2=>v=.non∧Q (.ref x) H2) E) :
  wpAny (model X.prog X.w) X.A (call (.ref C) us) (EP X bEP σ Q) X.xe s:=by
 have hq:=h (s.heap.objs.size+1) s.heap.objs.size (I.hok.fresh (bCW _)) (I.hok.fresh (j6 _)) (m9 (bCJ _));have I2:=Inv.made (C:=C) I;have r2:Vals (V.ref (s.heap.objs.size+1)::(vs++dvs)) (Value.ref (s.heap.objs.size+1)::(us++ds)):=.cons rfl (r.append hd);have hl:(Value.ref (s.heap.objs.size+1)::us++ds).length=ps.length:=by have e:=r2.length;rw [F.len _ _ _ _ hq] at e;exact e.symm
 refine bCQ (aQh (f:=f) I.kIn M.makes M.init (beq_iff_eq.mp M.fn) (bBM (F.run _ X.stack _ _ ⟨Value.ref (s.heap.objs.size+1)::us,[]⟩ (Value.ref (s.heap.objs.size+1)::(us++ds)) _ _ E (hr.make C us [])
  (I2.env0.make C us []) (hb _ (Value.ref (s.heap.objs.size+1)::us) I2.kIn hl) r2 hq) fun r s' hq'=>?_))
 cases r with
 |error e=>exact hx bEP σ _ _ e s' I2 hq'
 |ok fl=>
  cases fl with
  |ret u=>obtain ⟨v,H',I3,rv,ev,q3⟩:=I2.after hq';subst ev;exact ⟨rv,⟨V.ref (s.heap.objs.size+1),H',I3,rfl,q3⟩⟩
  |next=>exact False.elim hq'
  |brk=>exact False.elim hq'
  |cont=>exact False.elim hq'
theorem aTh (M:Mk X.K C f) (F:fV X.prog X.w X.K X.mg X.base CX k f fd ps sp) (hr:Room (k+1) X.A) (hg:Gl X x) (hm:X.mg x=some (.ref C)) (hb:Binds X.K fd ps ds) (hd:Vals dvs ds) (hx:mO CX X E)
  (ha:PA X (e::es) t) (hdb:(x == ("__debug__":Str))=false:=by decide) (he:starEach (e::es) X.env=(false,eval e X.env)::starEach es X.env:=by rfl) (hpl:(backTo pos (starEach es X.env)).any (·.1)=false:=by rfl) :
  PE X (.Call (.Name x p) (e::es) [] pos) (aWc C sp dvs E t):=by
 intro bEP s σ H Q I h;refine bBE (nY I hg hm ?_ hdb);refine PySem.W.callWith_K (h₀:=X.base) I.ok.mod.kin M.kp (thn (ha pos bEP s σ H _ I h) fun us s1 ⟨vs,H1,I1,r,q⟩=>⟨I1.kIn,?_⟩) he hpl;exact aRg M F hr hb hd hx I1 r q
end
section
variable {X:Cx} {CX:CXT} {k:Nat} {f C:Addr} {fd:FuncData} {ps ks:List Str} {sp:Sp} {E:XK} {x m:Str} {p pos apos kpos:Pos} {e o:Expr} {es:List Expr} {kws:List Keyword} {te ta:TE} {t tk:TA} {nm:Option Str}
variable {g:List Value→List Value→List Value} {gV:List V→List V→List V}
end
structure aJ (N P:List Str) (sc:Scope):Prop where
 kind:sc.kind=.function
 co:sc.isCoroutine=false
 gen:sc.isGenerator=false
 nd:N.Nodup
 pre:N.take P.length=P
 par:∀x∈P,sc.names.lookup x=some .local∨sc.names.lookup x=some .cell
 nofree:∀y∈sc.names,y.2≠.free
theorem aDg {kindOf:Str→Option NameKind} {x:Str}:∀{binds:List (Str × Value)} {m:bEO},(∀v,(x,v)∉binds)→bindL kindOf binds m x=m x
 |[],_,_=>rfl
 |(n,v)::r,m,h=>by
  unfold bindL;rw [aDg fun w hw=>h w (m8 _ hw)]
  split
  ·have:x≠n:=by rintro rfl;exact h v t6
   simp [this]
  ·rfl
theorem aDa {kindOf:Str→Option NameKind} {x:Str}:∀{binds:List (Str × Value)} {m:bEO},(∀v,(x,v)∉binds)→bindC kindOf binds m x=m x
 |[],_,_=>rfl
 |(n,v)::r,m,h=>by
  unfold bindC;rw [aDa fun w hw=>h w (m8 _ hw)]
  split
  ·rfl
  ·have:x≠n:=by rintro rfl;exact h v t6
   simp [this]
theorem aDj {kindOf:Str→Option NameKind} {x:Str} {v:Value}:∀{P:List Str} {vs:List Value} {i:Nat} {m:bEO},P.Nodup→P[i]?=some x→vs[i]?=some v→kindOf x=some .local →
  bindL kindOf (P.zip vs) m x=some v
 |[],_,_,_,_,h,_,_=>by simp at h
 |_::_,[],_,_,_,_,h,_=>by simp at h
 |p::P,w::vs,0,m,nd,h1,h2,hk=>by simp at h1 h2;subst h1;subst h2;show bindL kindOf ((p,w)::P.zip vs) m p=_;unfold bindL;rw [aDg fun v hv=>(List.nodup_cons.mp nd).1 (List.of_mem_zip hv).1,if_pos hk];simp
 |p::P,w::vs,i+1,m,nd,h1,h2,hk=>by show bindL kindOf ((p,w)::P.zip vs) m x=_;unfold bindL;exact aDj (i:=i) (List.nodup_cons.mp nd).2 (by simpa using h1) (by simpa using h2) hk
theorem aCr {kindOf:Str→Option NameKind} {x:Str} {v:Value}:∀{P:List Str} {vs:List Value} {i:Nat} {m:bEO},P.Nodup→P[i]?=some x→vs[i]?=some v→kindOf x≠some .local →
  bindC kindOf (P.zip vs) m x=some v
 |[],_,_,_,_,h,_,_=>by simp at h
 |_::_,[],_,_,_,_,h,_=>by simp at h
 |p::P,w::vs,0,m,nd,h1,h2,hk=>by simp at h1 h2;subst h1;subst h2;show bindC kindOf ((p,w)::P.zip vs) m p=_;unfold bindC;rw [aDa fun v hv=>(List.nodup_cons.mp nd).1 (List.of_mem_zip hv).1,if_neg hk];simp
 |p::P,w::vs,i+1,m,nd,h1,h2,hk=>by show bindC kindOf ((p,w)::P.zip vs) m x=_;unfold bindC;exact aCr (i:=i) (List.nodup_cons.mp nd).2 (by simpa using h1) (by simpa using h2) hk
def start (N:List Str) (vs:List V):St:=vs.map some++List.replicate (N.length - vs.length) none
def vR (CX:CXT) (P:Program) (w:World) (K:bEL) (mg:bEO) (base:Heap) (N:List Str) (qual:Str) (scope:Scope) (f:Addr) (cd:Value) (A:Around) (outer:List Env) (s:Shared) (H:Hp) (E:XK):Cx where
 prog:=P
 w:=w
 K:=K
 mg:=mg
 base:=base
 A:=A.deeper (envOfC qual scope s.heap.objs.size f cd)
 N:=N
 s₀:=s
 H₀:=H
 env:=envOfC qual scope s.heap.objs.size f cd
 outer:=outer
 stack:=envOfC qual scope s.heap.objs.size f cd::outer
 ex:=[]
 calm:=true
 fn:=fun _=>true
 pn:=[]
 xe:=fun e s'=>wpAny (model P w) (A.deeper (envOfC qual scope s.heap.objs.size f cd)) (leaving (envOfC qual scope s.heap.objs.size f cd) e) (fun _ s''=>CX outer H s E e s'') (fun e' s''=>CX outer H s E e' s'') s'
theorem aIp {sc:Scope} {n:Nat} {x:Str} (h:sc.names.lookup x=some .cell):∃c,(cellsFrom n sc.names []).lookup x=some c:=by have q:=PySem.W.cellsFrom_some sc.names n [] (.inl h);exact Option.isSome_iff_exists.mp q
theorem aOq {CX:CXT} {P:Program} {w:World} {K:bEL} {mg:bEO} {base:Heap} {N ps:List Str} {qual:Str} {scope:Scope} {f:Addr} {cd:Value} {A:Around} {outer:List Env} {s s1:Shared} {H:Hp} {E:XK} {us:List Value} {vs:List V}
  (S:aJ N ps scope) (hd:A.handled=none) (e0:aEq P w K mg base A outer s H) (hl:vs.length=ps.length) (r:Vals vs us)
  (x:InCallC s s.heap.objs.size (bindL (envOfC qual scope s.heap.objs.size f cd).kindOf (ps.zip us) fun _=>none) (cellsFrom (s.heap.objs.size+1) scope.names []) (bindC (envOfC qual scope s.heap.objs.size f cd).kindOf (ps.zip us) fun _=>none) s1) :
  Inv (vR CX P w K mg base N qual scope f cd A outer s H E) [] (start N vs) H s1:=by
 have hpl:ps.length≤N.length:=by have:=congrArg List.length S.pre;rw [bAE] at this;lia
 obtain ⟨h1,tk,rfl,hk⟩:=x.done;have noA:∀b:Addr,b∉(vR CX P w K mg base N qual scope f cd A outer s H E).ex:=fun b z=>absurd (show b∈([]:List Addr) from z) (by simp);refine ⟨⟨e0.mod,S.kind,rfl,rfl,j6 _,fun y z c h1 h2=>?_,fun y hy=>?_,fun y c _ h=>?_,fun _=>hd,Around.frames_deeper e0.frames,.inr ⟨rfl,rfl⟩,fun b z=>absurd z (noA b),e0.bs,e0.bsz,fun b _ _=>noA b,fun b z=>absurd z (noA b),e0.funs,e0.frf⟩,
  rfl,e0.bare,Un.kept hk,⟨_,x.toInCall.ns,fun i y v h1 h2 h3=>?_⟩,fun y c h=>⟨_,x.cell y c h⟩,e0.hok.fresh (j6 _),fun y c h=>?_,fun p hp=>absurd (show p∈([]:bEN) from hp) (by simp),e0.hok.kept hk,?_⟩
 ·exact name_of_addr x.apart (PySem.mem_of_lookup h1) (PySem.mem_of_lookup h2)
 ·have hy:scope.names.lookup y=some .cell∨scope.names.lookup y=some .free:=hy;rcases hy with hy|hy
  ·exact aIp hy
  ·exact absurd rfl (S.nofree _ (PySem.mem_of_lookup hy))
 ·exact bCX (x.above y c (PySem.mem_of_lookup h))
 ·have hi:i<vs.length:=by
   unfold start at h2;by_cases hi:i<vs.length
   ·exact hi
   ·rw [bBX (by simpa using hi)] at h2;rw [List.getElem?_replicate] at h2
    split at h2 <;> cases h2
  have ha:vs[i]?=some v:=by
   unfold start at h2;rw [bB4 (by simpa using hi),t8] at h2;cases e:vs[i]? with
   |none=>rw [e] at h2;cases h2
   |some a=>rw [e] at h2;cases h2;rfl
  obtain ⟨u,hu,rv⟩:=r.get ha;have hp:ps[i]?=some y:=by rw [←S.pre,List.getElem?_take_of_lt (by lia)];exact h1
  have ndP:ps.Nodup:=by rw [←S.pre];exact S.nd.sublist (List.take_sublist _ _)
  refine ⟨u,rv,?_⟩;rcases S.par y (w6 hp) with k|k
  ·exact .inl ⟨k,aDj ndP hp hu k⟩
  ·obtain ⟨c,e⟩:=aIp (n:=s.heap.objs.size+1) k;refine .inr ⟨.inl k,c,e,?_⟩;have q:=x.cell y c e;rw [aCr ndP hp hu (by show scope.names.lookup y≠_;rw [k];decide)] at q;exact q
 ·exact e0.hok.fresh (bCX (x.above y c (PySem.mem_of_lookup h)))
 ·unfold start;show _=N.length;rw [bAC,m7,bC2];lia
theorem aSg {CX:CXT} {P:Program} {w:World} {K:bEL} {mg:bEO} {base:Heap} {k:Nat} {f:Addr} {name qual:Str} {params:Arguments} {body:List Stmt} {scope:Scope} {dV kV doc pm cdv ct oc:Value} {an od:Option Addr}
  {osl:Array (Option Value)} {N ps:List Str} {sp:Sp} (lk:K.lookup f=some ⟨oc,od,.func (PySem.W.fnOf name qual params body scope dV kV doc pm an cdv ct),osl⟩) (hcd:PySem.W.codeIn K cdv qual=true) (S:aJ N ps scope)
  (len:∀vs H Q E,sp vs H Q E→vs.length=ps.length)
  (hbody:∀(A:Around) (outer:List Env) (s:Shared) (H:Hp) (vs:List V) (Q:VK) (E:XK),Room k (A.deeper (envOfC qual scope s.heap.objs.size f cdv))→sp vs H Q E →
   ∃t,PSs (vR CX P w K mg base N qual scope f cdv A outer s H E) body t∧t { nx:=fun _ H'=>Q .non H',rt:=Q } (start N vs) H) :
  fV P w K mg base CX (k+1) f (PySem.W.fnOf name qual params body scope dV kV doc pm an cdv ct) ps sp:=by
 refine ⟨len,fun A outer s H args us vs Q E hr e0 hb r hsp=>?_⟩;have hl:=len _ _ _ _ hsp;have KX:K.In s.heap:=e0.mod.kin.keeps fun b o e=>(e0.bs b o e).1;have lim:s.heap.NoLimit:=e0.mod.nolimit.keeps fun b o e=>(e0.bs b o e).1;have hkind:∀y∈ps.zip us,scope.names.lookup y.1=some .local∨(scope.names.lookup y.1=some .cell∧((cellsFrom (s.heap.objs.size+1) scope.names []).lookup y.1).isSome=true):=fun ⟨n,v⟩ hy=>by
  rcases S.par n (List.of_mem_zip hy).1 with q|q
  ·exact .inl q
  ·exact .inr ⟨q,PySem.W.cellsFrom_some _ _ _ (.inl q)⟩
 refine codeAny_call_function hr.depth (KX _ _ lk) rfl S.co S.gen rfl (PySem.W.codeRec_of KX hcd) (hb _ _ _ _ ?_);refine wpAny_newFunctionEnv_cells S.kind hkind fun env he s1 x=>?_;subst he;refine ⟨lim.keeps x.toInCall.keep,codeAny_func ?_⟩;obtain ⟨t,ht,hq⟩:=hbody A outer s H vs Q E (hr.deeper _) hsp;have I:Inv (vR CX P w K mg base N qual scope f cdv A outer s H E) [] (start N vs) H s1:=aOq S hr.hd e0 hl r x;refine bA4 (ht [] s1 (start N vs) H _ I hq) (fun fl s' hs=>?_) fun e s' hs=>hs;have fin:∀{σ':St} {H':Hp} {v:V} {u:Value},Inv (vR CX P w K mg base N qual scope f cdv A outer s H E) [] σ' H' s'→RelV v u→Q v H'→CE outer P w H s Q u s':=
  fun {σ' H' v u} J rv q=>⟨v,H',J.os,J.bare,J.base,J.hok,rv,q⟩
 cases fl with
 |ret u=>obtain ⟨v,σ',H',J,rv,q⟩:=hs;exact fin J rv q
 |next=>obtain ⟨σ',H',J,q⟩:=hs;exact fin (v:=V.non) (u:=Value.none) J rfl q
 |brk=>obtain ⟨_,_,_,q⟩:=hs;exact False.elim q
 |cont=>obtain ⟨_,_,_,q⟩:=hs;exact False.elim q
section
variable {X:Cx} {x:Str} {p pos:Pos} {e:Expr} {es:List Expr} {t:TA} {id T:String} {r:List V→Hp→VK→Prop}
def tCB (r:List V→Hp→VK→Prop) (t:TA):TE:=fun σ H Q=>t σ H fun vs H1=>r vs H1 Q
theorem aQw (hc:cJ X (.builtin id) r) (hg:Gl X x) (hm:X.mg x=none) (hv:bootBuiltins x=some (.builtin id)) (ha:PA X (e::es) t) (hn:x≠"__name__":=by decide) (hdb:(x == ("__debug__":Str))=false:=by decide)
  (he:starEach (e::es) X.env=(false,eval e X.env)::starEach es X.env:=by rfl) (hpl:(backTo pos (starEach es X.env)).any (·.1)=false:=by rfl):PE X (.Call (.Name x p) (e::es) [] pos) (tCB r t):=by
 intro bEP s σ H Q I h;refine bBE (oY I hg hm hv ?_ hn hdb);exact bDV (thn (ha pos bEP s σ H _ I h) fun us s1 ⟨vs,H1,I1,r1,q1⟩=>hc bEP s1 σ H1 vs us Q I1 r1 q1) he hpl
theorem aN0 (hc:cJ X (.type T) r) (hg:Gl X x) (hm:X.mg x=none) (hv:bootBuiltins x=some (.type T)) (ha:PA X (e::es) t) (hn:x≠"__name__":=by decide) (hdb:(x == ("__debug__":Str))=false:=by decide)
  (he:starEach (e::es) X.env=(false,eval e X.env)::starEach es X.env:=by rfl) (hpl:(backTo pos (starEach es X.env)).any (·.1)=false:=by rfl):PE X (.Call (.Name x p) (e::es) [] pos) (tCB r t):=by
 intro bEP s σ H Q I h;refine bBE (oY I hg hm hv ?_ hn hdb);exact bBK (thn (ha pos bEP s σ H _ I h) fun us s1 ⟨vs,H1,I1,r1,q1⟩=>hc bEP s1 σ H1 vs us Q I1 r1 q1) he hpl
end
end L2
namespace HT
open PySem PyProof.Rows
section
open PySem.SeqAt
open PySem.AutoSeq1 (wpAny_loadPart')
open PySem.MeetsSeq PySem.MeetsSeq2 PySem.MeetsSeq3
end
section
variable {prog:Program} {w:World} {A:Around} {E:bEM} {s:Shared}
theorem aUh {t b:Addr} {vs ws:List Value} {Q:bEM} (ht:IsTup s.heap t vs.toArray) (hb:IsTup s.heap b ws.toArray) (hv:vs≠[])
  (h1:ws=[]→Q (.ref t) s) (h2:ws≠[]→Q (.ref s.heap.objs.size) { s with heap:=s.heap.push { cls:=.type "tuple",data:=.seq (vs++ws).toArray } })
  (hsz:vs.length+ws.length≤sizeLine):wpAny (model prog w) A (binaryOp .Add (.ref t) (.ref b)) Q E s:=by
 obtain ⟨⟨cls,dd,data,sl⟩,ho,hc,n,hd⟩:=id ht;obtain ⟨⟨cls2,dd2,data2,sl2⟩,ho2,hc2,n2,hd2⟩:=id hb;simp only at hc hd hc2 hd2;subst hc hd hc2 hd2;have e:vs.toArray++ws.toArray=(vs++ws).toArray:=by simp
 by_cases hw:ws=[]
 ·exact concat_meets ⟨_,ho,rfl⟩ ⟨_,ho2,rfl⟩ noFill_tuple_add seq_tuple_add PySem.F.slot_tuple_add PySem.F.entry_tuple_add (PySem.F.args_tuple_add_2 _ _)
   (tuple_addW1 t b vs.toArray ws.toArray n n2 dd dd2 sl sl2 (by simpa using hv) (by simp [hw])) ⟨ho,ho2,h1 hw⟩
 ·refine concat_meets ⟨_,ho,rfl⟩ ⟨_,ho2,rfl⟩ noFill_tuple_add seq_tuple_add PySem.F.slot_tuple_add PySem.F.entry_tuple_add (PySem.F.args_tuple_add_2 _ _)
   (tuple_addW2 t b vs.toArray ws.toArray n n2 dd dd2 sl sl2 (by simpa using hv) (by simpa using hw) (by rw [j9,j9];exact hsz)) ⟨ho,ho2,?_⟩
  rw [e];exact h2 hw
def sIx (n d:Nat):Option Int→Nat
 |none=>d
 |some v=>if v<0 then (v+(n:Int)).toNat else min v.toNat n
theorem aGd (n d:Nat):sIx n d none=d:=rfl
theorem aLy (n d k:Nat):sIx n d (some (k:Int))=min k n:=by show (if (k:Int)<0 then ((k:Int)+(n:Int)).toNat else min (k:Int).toNat n)=min k n;rw [if_neg (by lia),bAY]
theorem aYo (n d:Nat) (hd:d≤n) (o:Option Int):sIx n d o≤n:=by
 cases o with
 |none=>exact hd
 |some v=>
  show (if v<0 then (v+(n:Int)).toNat else min v.toNat n)≤n;by_cases hv:v<0
  ·rw [if_pos hv];lia
  ·rw [if_neg hv];exact Nat.min_le_right _ _
theorem aL1 (v:Int) (n d:Nat):(if v<0 then max (v+(n:Int)) 0 else min v (n:Int))=((sIx n d (some v):Nat):Int):=by
 show (if v<0 then max (v+(n:Int)) 0 else min v (n:Int))=(((if v<0 then (v+(n:Int)).toNat else min v.toNat n):Nat):Int);by_cases hv:v<0
 ·simp only [if_pos hv];lia
 ·simp only [if_neg hv];lia
theorem aLl (lo hi:Option Int) (n:Nat):Builtin.Slice.sliceAdjust lo hi 1 (n:Int)=(((sIx n 0 lo:Nat):Int),((sIx n n hi:Nat):Int)):=by
 have h1:¬ ((1:Int)<0):=by lia
 unfold Builtin.Slice.sliceAdjust;simp only [h1,if_false];refine Prod.ext ?_ ?_
 ·cases lo with
  |none=>rfl
  |some v=>exact aL1 v n 0
 ·cases hi with
  |none=>rfl
  |some v=>exact aL1 v n n
theorem aKt (i j:Nat):Builtin.Slice.slicePlaces (i:Int) (j:Int) 1=j - i:=by
 unfold Builtin.Slice.slicePlaces;have h1:(1:Int) > 0:=by lia
 simp only [h1,if_true,Int.ediv_one]
 split <;> lia
theorem aAq {v:Value} {o:Option Int} {Q:Option Int→Shared→Prop} (p:IsPart v o) (h:Q o s):wpAny (model prog w) A (Builtin.Slice.slicePartIndex v) Q E s:=by
 cases p with
 |none=>exact slicePart_none h
 |int i t=>exact slicePart_int h
theorem mX {sl:Addr} {vl vu:Value} {lo hi:Option Int} {n:Nat} {Q:Int × Int × Nat→Shared→Prop} (hs:s.heap.IsSliceOf sl vl vu .none) (pl:IsPart vl lo) (pu:IsPart vu hi)
  (h:Q (((sIx n 0 lo:Nat):Int),1,sIx n n hi - sIx n 0 lo) s):wpAny (model prog w) A (Builtin.Slice.sliceApplied (.ref sl) (pure (n:Int))) Q E s:=by
 obtain ⟨os,hos,hcs,hds⟩:=id hs;unfold Builtin.Slice.sliceApplied Builtin.Slice.sliceFields;refine c7 (c7 (bAG hos hds (x:=vl) rfl (c7 (bAG hos hds (x:=vu) rfl (c7 (bAG hos hds (x:=.none) rfl (j4 ?_)))))));refine c7 (slicePart_none ?_);show wpAny _ _ (if ((1:Int) == 0)=true then _ else _) _ _ s;rw [if_neg (by decide)];refine c7 (aAq pl (c7 (aAq pu (c7 (j4 ?_)))));show wpAny _ _ (match Builtin.Slice.sliceAdjust lo hi 1 (n:Int) with|(lo,hi)=>pure (lo,(1:Int),Builtin.Slice.slicePlaces lo hi 1)) _ _ s;rw [aLl lo hi n];show wpAny _ _ (pure (((sIx n 0 lo:Nat):Int),(1:Int),Builtin.Slice.slicePlaces ((sIx n 0 lo:Nat):Int) ((sIx n n hi:Nat):Int) 1)) _ _ s;rw [aKt];exact j4 h
theorem aQ9 (xs:Array Value) (i k:Nat):((List.range k).filterMap fun (m:Nat)=>xs[((i:Int)+(m:Int) * 1).toNat]?).toArray=((xs.toList.drop i).take k).toArray:=by
 have e:(fun (m:Nat)=>xs[((i:Int)+(m:Int) * 1).toNat]?)=fun m=>xs[i+m]?:=by
  funext m;have:((i:Int)+(m:Int) * 1).toNat=i+m:=by lia
  rw [this]
 rw [e];have:=pick_run xs i k;rw [List.filterMap_map] at this;have e2:((fun x=>xs[x]?) ∘ fun x=>i+x)=fun m=>xs[i+m]?:=rfl;rw [e2] at this;rw [this]
theorem uR {t sl:Addr} {items:Array Value} {vl vu:Value} {lo hi:Option Int} {Q:bEM} (ht:IsTup s.heap t items) (hs:s.heap.IsSliceOf sl vl vu .none) (pl:IsPart vl lo) (pu:IsPart vu hi)
  (hw:¬ (sIx items.size 0 lo=0∧sIx items.size items.size hi=items.size))
  (h:Q (.ref s.heap.objs.size) { s with heap:=s.heap.push { cls:=.type "tuple",data:=.seq ((items.toList.drop (sIx items.size 0 lo)).take (sIx items.size items.size hi - sIx items.size 0 lo)).toArray } })
  (hsz:items.size≤sizeLine):wpAny (model prog w) A (getItem (.ref t) (.ref sl)) Q E s:=by
 have htake:sizeOk (.seq ((items.toList.drop (sIx items.size 0 lo)).take (sIx items.size items.size hi - sIx items.size 0 lo)).toArray):=by show ((items.toList.drop (sIx items.size 0 lo)).take (sIx items.size items.size hi - sIx items.size 0 lo)).toArray.size≤sizeLine;rw [j9,bAE,bA8,v9];lia
 have hj:sIx items.size items.size hi≤items.size:=aYo _ _ (j6 _) hi;obtain ⟨os,hos,hcs,hds⟩:=id hs;have hTs:s.TypeIs (.ref sl) "slice":=⟨os,hos,hcs⟩;unfold getItem
 try with_reducible refine bAV ?_
 first|refine c7 (j4 ?_)|skip
 refine c7 (wpAny_sequenceKey ht.typeIs (by decide) ?_);refine c7 (bAH (name:=Str.ofString "__getitem__") ht.typeIs bB3
  (bAI bB3 ht.typeIs entry_tuple_getitem ?_ (args_tuple_getitem _ _)))
 show wpAny _ _ (Builtin.Tuple.tupleItemsOf (.ref t) >>= _) _ _ s;refine c7 (tupleItemsOf_ ht ?_);refine c7 (bDO hTs ?_);rw [if_pos (by decide)];refine c7 (mX hs pl pu ?_);have hno:¬ ((((sIx items.size 0 lo:Nat):Int) == 0 && (1:Int) == 1 && (sIx items.size items.size hi - sIx items.size 0 lo) == items.size)=true):=by intro q;rw [bAP,bAP] at q;have q1:((sIx items.size 0 lo:Nat):Int)=0:=eq_of_beq q.1.1;have q2:sIx items.size items.size hi - sIx items.size 0 lo=items.size:=eq_of_beq q.2;exact hw ⟨by lia,by lia⟩
 show wpAny _ _ (if (((sIx items.size 0 lo:Nat):Int) == 0 && (1:Int) == 1 && (sIx items.size items.size hi - sIx items.size 0 lo) == items.size)=true then _ else _) _ _ s;rw [if_neg hno,aQ9];first
  |exact c7 (m:=Builtin.Tuple.tupleExact _) (bAJ (j4 ⟨_,rfl,j4 h⟩) htake)
  |exact c7 (m:=Builtin.Tuple.tupleExact _) (bAJ (c7 (j4 (j4 ⟨_,rfl,j4 h⟩))) htake)
  |exact c7 (c7 (m:=Builtin.Tuple.tupleExact _) (bAJ (j4 (j4 ⟨_,rfl,j4 h⟩)) htake))
  |exact c7 (c7 (m:=Builtin.Tuple.tupleExact _) (bAJ (j4 ⟨_,rfl,j4 h⟩) htake))
end
end HT
namespace L2
open PySem PySem.Spec PyProof.Rows
abbrev TO:=St→Hp→(Option Int→Hp→Prop)→Prop
def PO (X:Cx) (e:Option Expr) (t:TO):Prop:=
 ∀(bEP:bEN) (s:Shared) (σ:St) (H:Hp) (Q:Option Int→Hp→Prop),Inv X bEP σ H s→t σ H Q →
  wpAny (model X.prog X.w) X.A (evalPart e X.env) (fun u s'=>∃o H',Inv X bEP σ H' s'∧IsPart u o∧Q o H') X.xe s
def aMl:TO:=fun _ H Q=>Q none H
def aV8 (t:TE):TO:=fun σ H Q=>t σ H fun x H1=>∃i,x=.int i∧Q (some i) H1
section
variable {X:Cx} {e:Expr} {te:TE} {lo hi:Option Expr} {tl th:TO} {pos p2:Pos}
theorem aUz:PO X none aMl:=by intro bEP s σ H Q I h;rw [evalPart_none];exact j4 ⟨none,H,I,.none,h⟩
theorem aVv (h:PE X e te):PO X (some e) (aV8 te):=by intro bEP s σ H Q I hw;rw [evalPart_some];refine thn (h bEP s σ H _ I hw) fun u s1 ⟨x,H1,I1,r1,q1⟩=>?_;obtain ⟨i,rfl,q⟩:=q1;obtain ⟨t,rfl⟩:=r1;exact ⟨some i,H1,I1,.int i t,q⟩
def SlR (X:Cx) (r:V→Option Int→Option Int→Hp→VK→Prop):Prop:=
 ∀(bEP:bEN) (s:Shared) (σ:St) (H:Hp) (x:V) (v vl vu:Value) (lo hi:Option Int) (sl:Addr) (Q:VK),Inv X bEP σ H s→RelV x v→s.heap.IsSliceOf sl vl vu .none→IsPart vl lo→IsPart vu hi→r x lo hi H Q →
  ∃T id,typeLookup (.type T) "__getitem__"=pure (some (.builtin id))∧s.TypeIs v T∧wpAny (model X.prog X.w) X.A (getItem v (.ref sl)) (EP X bEP σ Q) X.xe s
def tSl (r:V→Option Int→Option Int→Hp→VK→Prop) (te:TE) (tl th:TO):TE:=fun σ H Q=>te σ H fun x H1=>tl σ H1 fun l H2=>th σ H2 fun u H3=>r x l u H3 Q
theorem aQx {r:V→Option Int→Option Int→Hp→VK→Prop} (hr:SlR X r) (he:PE X e te) (hl:PO X lo tl) (hu:PO X hi th):PE X (.Subscript e (.Slice lo hi none p2) pos) (tSl r te tl th):=by intro bEP s σ H Q I h;refine Subscript_ (thn (he bEP s σ H _ I h) fun v s1 ⟨x,H1,I1,r1,q1⟩=>?_);refine wpAny_Slice (thn (hl bEP s1 σ H1 _ I1 q1) fun vl s2 ⟨l,H2,I2,pl,q2⟩=>thn (hu bEP s2 σ H2 _ I2 q2) fun vu s3 ⟨u,H3,I3,pu,q3⟩=>?_);rw [evalPart_none];refine j4 ?_;have I4:Inv X bEP σ H3 { s3 with heap:=s3.heap.push { cls:=.type "slice",data:=.fields #[vl,vu,.none] } }:=I3.kept (t':=s3.toks) fun b ob q=>d9 _ q;obtain ⟨T,id,hT,ht,hg⟩:=hr bEP { s3 with heap:=s3.heap.push { cls:=.type "slice",data:=.fields #[vl,vu,.none] } } σ H3 x v vl vu l u s3.heap.objs.size Q I4 r1 (Heap.IsSliceOf.new ..) pl pu q3;show wpAny (model X.prog X.w) X.A (subscriptTail e (.Slice lo hi none p2) v (.ref s3.heap.objs.size)) (EP X bEP σ Q) X.xe { s3 with heap:=s3.heap.push { cls:=.type "slice",data:=.fields #[vl,vu,.none] } };exact tail_any (ops:=[.ref s3.heap.objs.size,v]) ht hT hg (by with_unfolding_all rfl)
def pJ (xs:List V) (lo hi:Option Int):List V:=(xs.drop (HT.sIx xs.length 0 lo)).take (HT.sIx xs.length xs.length hi - HT.sIx xs.length 0 lo)
theorem xV (xs:List V) (lo hi:Option Int):(pJ xs lo hi).length≤xs.length:=by unfold pJ;rw [bAE,bA8];lia
def bAz (K:bEL):V→Option Int→Option Int→Hp→VK→Prop:=fun x lo hi H Q=>∃a xs,x=.ref a∧SqT K H a xs ∧
 ¬ (HT.sIx xs.length 0 lo=0∧HT.sIx xs.length xs.length hi=xs.length)∧∀p,H p=none→Q (.ref p) (upd H p (.tup (pJ xs lo hi)))
theorem aYz:SlR X (bAz X.K):=by
 intro bEP s σ H x v vl vu lo hi sl Q I rx hs pl pu h;obtain ⟨a,xs,rfl,hx,hw,q⟩:=h;cases rx;obtain ⟨its,r,ht,hz⟩:=I.tuple hx;have hlen:its.toArray.size=xs.length:=by rw [j9];exact r.length.symm
 refine ⟨"tuple",_,PyProof.Rows.slot_tuple_getitem.lookup,ht.typeIs,?_⟩;refine HT.uR ht hs pl pu (by rw [hlen];exact hw) ?_ (by rw [hlen];exact hz);rw [hlen];refine ⟨.ref s.heap.objs.size,_,I.laid (t':=s.toks) (o:=.tup (pJ xs lo hi)) (fun b ob q=>d9 _ q) (j6 _) ?_,rfl,q _ (I.hok.fresh (j6 _))⟩;exact ⟨bAR (xV xs lo hi) hz,_,(r.drop (HT.sIx xs.length 0 lo)).take (HT.sIx xs.length xs.length hi - HT.sIx xs.length 0 lo),wJ.new _ _⟩
def aZw (K:bEL):R2:=fun x y H Q=>∃a b xs ys,x=.ref a∧y=.ref b∧SqT K H a xs∧SqT K H b ys∧xs≠[]∧xs.length+ys.length≤sizeLine ∧
 (ys=[]→Q (.ref a) H)∧(ys≠[]→∀p,H p=none→Q (.ref p) (upd H p (.tup (xs++ys))))
theorem Vals.aF3 {xs:List V} {us:List Value} (r:Vals xs us):us=[]↔xs=[]:=by
 cases r with
 |nil=>simp
 |cons _ _=>simp
theorem aVu:OpR X (binaryOp .Add) (aZw X.K):=by intro bEP s σ H x y v u Q I rx ry h;obtain ⟨a,b,xs,ys,rfl,rfl,ha,hb,hx,hz,q1,q2⟩:=h;cases rx;cases ry;obtain ⟨its,r1,p1,_⟩:=I.tuple ha;obtain ⟨its2,r2,p2,_⟩:=I.tuple hb;refine HT.aUh p1 p2 (fun z=>hx (r1.aF3.mp z)) (fun z=>⟨.ref a,H,I,rfl,q1 (r2.aF3.mp z)⟩) (fun z=>?_) (by rw [←r1.length,←r2.length];exact hz);refine ⟨.ref s.heap.objs.size,_,I.laid (t':=s.toks) (o:=.tup (xs++ys)) (fun b ob q=>d9 _ q) (j6 _) ?_,rfl,q2 (fun w=>z (r2.aF3.mpr w)) _ (I.hok.fresh (j6 _))⟩;exact ⟨by rw [bAC];exact hz,_,r1.append r2,wJ.new _ _⟩
end
def ixN (n:Nat) (i:Int):Option Nat:=if 0≤i then (if i<n then some i.toNat else none) else if -(n:Int)≤i then some (i+n).toNat else none
def atI {α:Type} (xs:List α) (i:Int):Option α:=(ixN xs.length i).bind fun j=>xs[j]?
theorem aMq {n:Nat} {i:Int} {j:Nat} (h:ixN n i=some j):seqIndex? i n=some j∧j<n∧-(n:Int)≤i∧i<n:=by
 unfold ixN at h;by_cases h0:0≤i
 ·rw [if_pos h0] at h;by_cases h1:i<n
  ·rw [if_pos h1] at h;have e:i.toNat=j:=bAQ h;exact ⟨by rw [seqIndex_of h0 h1,e],by lia,by lia,h1⟩
  ·rw [if_neg h1] at h;cases h
 ·rw [if_neg h0] at h;by_cases h1:-(n:Int)≤i
  ·rw [if_pos h1] at h;have e:(i+n).toNat=j:=bAQ h;exact ⟨by rw [seqIndex_neg (by lia) h1,e],by lia,h1,by lia⟩
  ·rw [if_neg h1] at h;cases h
theorem aL5 {α:Type} {xs:List α} {i:Int} {v:α} (h:atI xs i=some v):∃j,seqIndex? i xs.length=some j∧xs[j]?=some v∧j<xs.length∧-(xs.length:Int)≤i∧i<xs.length:=by
 unfold atI at h;cases e:ixN xs.length i with
 |none=>rw [e] at h;cases h
 |some j=>rw [e] at h;obtain ⟨h1,h2,h3,h4⟩:=aMq e;exact ⟨j,h1,h,h2,h3,h4⟩
theorem cI {α:Type} {xs:List α} {j:Nat} {v:α} (h:xs[j]?=some v):atI xs (j:Int)=some v:=by
 have hj:j<xs.length:=(List.getElem?_eq_some_iff.mp h).1;have e:ixN xs.length (j:Int)=some j:=by unfold ixN;rw [if_pos (by lia),if_pos (by lia)];simp
 unfold atI;rw [e];exact h
def aNm (b:Expr):Prop:=∀o i,subscripted b false o i=operate [o,i] (getItem o i)
def IxR (X:Cx) (r:R2):Prop:=
 ∀(value slice:Expr) (bEP:bEN) (s:Shared) (σ:St) (H:Hp) (x y:V) (v u:Value) (Q:VK),Inv X bEP σ H s→RelV x v→RelV y u→r x y H Q →
  subscripted slice false v u=operate [v,u] (getItem v u)→wpAny (model X.prog X.w) X.A (subscriptTail value slice v u) (EP X bEP σ Q) X.xe s
def MtR (X:Cx) (id:String) (r:V→List V→Hp→VK→Prop):Prop:=
 ∀(bEP:bEN) (s:Shared) (σ:St) (H:Hp) (x:V) (xs:List V) (v:Value) (us:List Value) (Q:VK),Inv X bEP σ H s→RelV x v→Vals xs us→r x xs H Q →
  wpAny (model X.prog X.w) X.A (call (.builtin id) (v::us)) (EP X bEP σ Q) X.xe s
section
variable {X:Cx} {a b:Expr} {ta tb:TE} {pos:Pos}
theorem aZn {r:R2} (hr:IxR X r) (ha:PE X a ta) (hb:PE X b tb) (hs:aNm b):PE X (.Subscript a b pos) (tOp r ta tb):=by intro bEP s σ H Q I h;exact Subscript_ (aVo ha hb I h fun v u s2 x y H2 I2 rx ry q=>hr a b bEP s2 σ H2 x y v u Q I2 rx ry q (hs _ _))
def bAr (K:bEL):R2:=fun x y H Q=>∃p xs i v,x=.ref p∧y=.int i∧SqL K H p xs∧atI xs i=some v∧Q v H
def aZx (K:bEL):R2:=fun x y H Q=>∃p xs i v,x=.ref p∧y=.int i∧SqT K H p xs∧atI xs i=some v∧Q v H
theorem bV:IxR X (bAr X.K):=by
 intro value slice bEP s σ H x y v u Q I rx ry h hs;obtain ⟨p,xs,i,z,rfl,rfl,hq,he,q⟩:=h;cases rx;obtain ⟨t,rfl⟩:=ry;obtain ⟨its,r,pl,hz⟩:=I.list hq;obtain ⟨j,h1,h2,h3,h4,h5⟩:=aL5 he;obtain ⟨w,ew,rw'⟩:=r.get h2;have hl:=r.length;have hn:=aAn;have fin:EP X bEP σ Q w s:=⟨z,H,I,rw',q⟩;by_cases h0:0≤i
 ·have hj:i.toNat=j:=by rw [seqIndex_of h0 h5] at h1;exact bAQ h1
  exact item_listR pl.isList h0 (by lia) (by rw [hj];simpa using ew) fin hs
 ·have hj:(i+(its.toArray.size:Int)).toNat=j:=by rw [seqIndex_neg (by lia) h4] at h1;rw [j9,←hl];exact bAQ h1
  exact subscriptTail_builtinR (x:=w) pl.isList.typeIs slot_list_getitem.lookup
   (wpAny_getItem_list_neg (Q:=fun r s'=>r=w∧EP X bEP σ Q r s') pl.isList (by lia) (by rw [j9] <;> lia) (by lia) (by rw [hj];simpa using ew) ⟨rfl,fin⟩) hs
theorem aW:IxR X (aZx X.K):=by
 intro value slice bEP s σ H x y v u Q I rx ry h hs;obtain ⟨p,xs,i,z,rfl,rfl,hq,he,q⟩:=h;cases rx;obtain ⟨t,rfl⟩:=ry;obtain ⟨its,r,pl,hz⟩:=I.tuple hq;obtain ⟨j,h1,h2,h3,h4,h5⟩:=aL5 he;obtain ⟨w,ew,rw'⟩:=r.get h2;have hl:=r.length;have hn:=aAn;have fin:EP X bEP σ Q w s:=⟨z,H,I,rw',q⟩;exact subscriptTail_builtinR (x:=w) pl.typeIs slot_tuple_getitem.lookup
  (getItem_tuple (j:=j) (Q:=fun r s'=>r=w∧EP X bEP σ Q r s') pl (by lia) (by lia) (by rw [j9,←hl];exact h1) (by simpa using ew) ⟨rfl,fin⟩) hs
theorem aJ9 (its:List Value) (n j:Nat) (u:Value):Obj.mapSeq (·.setIfInBounds j u) { cls:=.type "list",data:=.seq its.toArray n }={ cls:=.type "list",data:=.seq (its.set j u).toArray n }:=by simp [Obj.mapSeq]
theorem Inv.lst {bEP:bEN} {σ:St} {H:Hp} {s:Shared} {p:Addr} {xs:List V} (I:Inv X bEP σ H s) (h:H p=some (.lst xs)) :
  ∃(its:List Value) (n:Nat),Vals xs its∧s.heap.get? p=some { cls:=.type "list",data:=.seq its.toArray n }∧xs.length≤sizeLine:=by
 obtain ⟨z,its,n,r,e⟩:=I.hok p _ h;exact ⟨its,n,r,e,z⟩
theorem Inv.aX2 {bEP:bEN} {σ:St} {H:Hp} {s:Shared} {p:Addr} {xs ys:List V} {its its':List Value} {n n':Nat} {f:Obj→Obj} (I:Inv X bEP σ H s) (h:H p=some (.lst xs))
  (ho:s.heap.get? p=some { cls:=.type "list",data:=.seq its.toArray n }) (hf:f { cls:=.type "list",data:=.seq its.toArray n }={ cls:=.type "list",data:=.seq its'.toArray n' }) (r:Vals ys its') (hz:ys.length≤sizeLine) (t:Nat) :
  Inv X bEP σ (upd H p (.lst ys)) { s with heap:=s.heap.update p f,toks:=t }:=by
 have e:(s.heap.update p f).get? p=some { cls:=.type "list",data:=.seq its'.toArray n' }:=by rw [bAU f ho (by rw [hf] <;> rfl),hf]
 refine I.write (x:=p) (e:=p) (by rw [h];trivial) (.inl rfl) (fun b u hb q=>(bA7 _ _ (Ne.symm hb)).trans q) ⟨_,e⟩ ?_;exact ⟨hz,its',n',r,e⟩
def aZo:V→V→V→Hp→(Hp→Prop)→Prop:=fun o i v H Q=>∃p xs k j,o=.ref p∧i=.int k∧H p=some (.lst xs)∧ixN xs.length k=some j∧Q (upd H p (.lst (xs.set j v)))
theorem set_list:aW9 X aZo:=by
 intro bEP s σ H o i v ov iv u Q I ro ri rv h;obtain ⟨p,xs,k,j,rfl,rfl,hp,hj,q⟩:=h;cases ro;obtain ⟨t,rfl⟩:=ri;obtain ⟨its,n,r,ho,hz⟩:=I.lst hp;obtain ⟨h1,h2,h3,h4⟩:=aMq hj;have hl:=r.length;have hn:=aAn;have I':Inv X bEP σ (upd H p (.lst (xs.set j v))) { s with heap:=s.heap.update p (Obj.mapSeq (·.setIfInBounds j u)) }:=
  I.aX2 hp ho (aJ9 its n j u) (r.set rv j) (by rw [List.length_set];exact hz) s.toks
 by_cases h0:0≤k
 ·have hk:k.toNat=j:=by rw [seqIndex_of h0 h4] at h1;exact bAQ h1
  exact PySem.W.ki_setAt ho h0 (by lia) (by rw [j9,←hl];exact h4) (by rw [hk];exact ⟨_,I',q⟩)
 ·have hk:(k+(its.toArray.size:Int)).toNat=j:=by rw [seqIndex_neg (by lia) h3] at h1;rw [j9,←hl];exact bAQ h1
  exact PySem.W.ki_setBack ho (by lia) (by rw [j9,←hl];exact h3) (by lia) (by rw [hk];exact ⟨_,I',q⟩)
theorem aEo (lo hi:Option Int) (n:Nat):(sliceBounds lo hi none n).1=((HT.sIx n 0 lo:Nat):Int)∧(sliceBounds lo hi none n).2.1=((HT.sIx n n hi:Nat):Int)∧(sliceBounds lo hi none n).2.2=1:=by
 refine ⟨?_,?_,rfl⟩
 ·cases lo with
  |none=>simp [sliceBounds,HT.sIx]
  |some i=>
   simp only [sliceBounds,HT.sIx,Option.getD_none,show (1:Int) > 0 by decide,if_true];by_cases h:i<0
   ·simp only [h,if_true] <;> lia
   ·simp only [h,if_false] <;> lia
 ·cases hi with
  |none=>simp [sliceBounds,HT.sIx]
  |some i=>
   simp only [sliceBounds,HT.sIx,Option.getD_none,show (1:Int) > 0 by decide,if_true];by_cases h:i<0
   ·simp only [h,if_true] <;> lia
   ·simp only [h,if_false] <;> lia
theorem aCc (its:List Value) (lo hi:Option Int):slicePick its.toArray lo hi none=((its.drop (HT.sIx its.length 0 lo)).take (HT.sIx its.length its.length hi - HT.sIx its.length 0 lo)).toArray:=by obtain ⟨h1,h2,h3⟩:=aEo lo hi its.toArray.size;unfold slicePick;rw [h1,h2,h3];simp only [sliceRange_one,pick_run,j9] <;> rfl
def bA0 (K:bEL):V→Option Int→Option Int→Hp→VK→Prop:=fun x lo hi H Q=>∃a xs,x=.ref a∧SqL K H a xs∧∀p,H p=none→Q (.ref p) (upd H p (.lst (pJ xs lo hi)))
theorem aU3:SlR X (bA0 X.K):=by intro bEP s σ H x v vl vu lo hi sl Q I rx hs pl pu h;obtain ⟨a,xs,rfl,hx,q⟩:=h;cases rx;obtain ⟨its,r,ht,hz⟩:=I.list hx;have hlen:=r.length;refine ⟨"list",_,slot_list_getitem.lookup,ht.isList.typeIs,?_⟩;refine wpAny_getItem_list_slice ht.isList hs pl pu .none (by simp) ?_ (by rw [j9] <;> lia);rw [aCc,←hlen];refine ⟨.ref s.heap.objs.size,_,I.laid (t':=s.toks) (o:=.lst (pJ xs lo hi)) (fun b ob q=>d9 _ q) (j6 _) ?_,rfl,q _ (I.hok.fresh (j6 _))⟩;exact ⟨bAR (xV xs lo hi) hz,_,0,(r.drop (HT.sIx xs.length 0 lo)).take (HT.sIx xs.length xs.length hi - HT.sIx xs.length 0 lo),j5 _ rfl⟩
def gU:V→Bool
 |.non=>true
 |.bl _=>true
 |.int _=>true
 |.str _=>true
 |_=>false
def eqV:V→V→Bool
 |.non,.non=>true
 |.bl a,.bl b=>a == b
 |.bl a,.int b=>(if a then 1 else 0) == b
 |.int a,.bl b=>a == (if b then 1 else 0)
 |.int a,.int b=>a == b
 |.str a,.str b=>a == b
 |_,_=>false
theorem aYk {A:Around} {s:Shared} {y x:V} {u v:Value} (ry:RelV y u) (rx:RelV x v) (fy:gU y=true) (fx:gU x=true):SeqAt.EqAt A s u v (eqV y x):=by
 cases y with
 |non=>
  cases ry;cases x with
  |non=>cases rx;exact bD6 _
  |bl b=>cases rx;exact SeqAt.EqAt.none_bool b
  |int b=>obtain ⟨t,rfl⟩:=rx;exact SeqAt.EqAt.none_int b t
  |str b=>obtain ⟨t,rfl⟩:=rx;exact SeqAt.EqAt.none_str b t
  |_=>exact absurd (show false=true from fx) v4
 |bl a=>
  cases ry;cases x with
  |non=>cases rx;exact SeqAt.EqAt.bool_none a
  |bl b=>cases rx;exact SeqAt.EqAt.bool_bool a b
  |int b=>obtain ⟨t,rfl⟩:=rx;exact SeqAt.EqAt.bool_int a b t
  |str b=>obtain ⟨t,rfl⟩:=rx;exact SeqAt.EqAt.bool_str a b t
  |_=>exact absurd (show false=true from fx) v4
 |int a=>
  obtain ⟨t',rfl⟩:=ry;cases x with
  |non=>cases rx;exact SeqAt.EqAt.int_none a t'
  |bl b=>cases rx;exact SeqAt.EqAt.int_bool a t' b
  |int b=>obtain ⟨t,rfl⟩:=rx;exact bEC a t' b t
  |str b=>obtain ⟨t,rfl⟩:=rx;exact SeqAt.EqAt.int_str a t' b t
  |_=>exact absurd (show false=true from fx) v4
 |str a=>
  obtain ⟨t',rfl⟩:=ry;cases x with
  |non=>cases rx;exact SeqAt.EqAt.str_none a t'
  |bl b=>cases rx;exact SeqAt.EqAt.str_bool a t' b
  |int b=>obtain ⟨t,rfl⟩:=rx;exact SeqAt.EqAt.str_int a t' b t
  |str b=>obtain ⟨t,rfl⟩:=rx;exact bDJ a t' b t
  |_=>exact absurd (show false=true from fx) v4
 |_=>exact absurd (show false=true from fy) v4
def eqU (x:V) (u:Value):Bool:=match u with
 |.none=>eqV .non x
 |.bool b=>eqV (.bl b) x
 |.int i _=>eqV (.int i) x
 |.str z _=>eqV (.str z) x
 |_=>false
theorem aQr {x y:V} {u:Value} (r:RelV y u) (f:gU y=true):eqU x u=eqV y x:=by
 cases y with
 |non=>cases r;rfl
 |bl b=>cases r;rfl
 |int i=>obtain ⟨t,rfl⟩:=r;rfl
 |str z=>obtain ⟨t,rfl⟩:=r;rfl
 |_=>exact absurd (show false=true from f) v4
theorem uM {x:V}:∀{xs:List V} {us:List Value},Vals xs us→xs.all gU=true→us.any (eqU x)=xs.any fun y=>eqV y x
 |_,_,.nil,_=>rfl
 |y::xs,u::us,.cons r t,f=>by rw [bEK,bAP] at f;rw [bDY,bDY,aQr r f.1,uM t f.2]
theorem pY {A:Around} {s:Shared} {x:V} {v:Value} (rx:RelV x v) (fx:gU x=true):∀{xs:List V} {us:List Value},Vals xs us→xs.all gU=true→∀u∈us,SeqAt.EqAt A s u v (eqU x u)
 |_,_,.nil,_=>fun u hu=>by cases hu
 |y::xs,u::us,.cons r t,f=>fun u' hu=>by
  rw [bEK,bAP] at f;rcases List.mem_cons.mp hu with rfl|hu
  ·rw [aQr r f.1];exact aYk r rx f.1 fx
  ·exact pY rx fx t f.2 u' hu
def inV (x:V) (xs:List V):Bool:=xs.any fun y=>eqV y x
def rIn (K:bEL) (neg:Bool):R2:=fun x y H Q=>∃p xs,y=.ref p∧(SqL K H p xs∨SqT K H p xs)∧gU x=true∧xs.all gU=true∧Q (.bl (if neg then !inV x xs else inV x xs)) H
theorem wA:OpR X (compareOp .In) (rIn X.K false):=by
 intro bEP s σ H x y v u Q I rx ry h;obtain ⟨p,xs,rfl,hq,fx,fs,q⟩:=h;cases ry;rcases hq with hq|hq
 ·obtain ⟨its,r,pl,hz⟩:=I.list hq;refine SeqAt.in_listAt (eqU x) pl.isList (fun w hw=>pY rx fx r fs w (by simpa using hw)) ⟨.bl _,H,I,rfl,?_⟩;rw [show its.toArray.any (eqU x)=its.any (eqU x) by simp,uM r fs];exact q
 ·obtain ⟨its,r,pl,hz⟩:=I.tuple hq;refine SeqAt.in_tupleAt (eqU x) pl (fun w hw=>pY rx fx r fs w (by simpa using hw)) ⟨.bl _,H,I,rfl,?_⟩;rw [show its.toArray.any (eqU x)=its.any (eqU x) by simp,uM r fs];exact q
theorem pB:OpR X (compareOp .NotIn) (rIn X.K true):=by
 intro bEP s σ H x y v u Q I rx ry h;obtain ⟨p,xs,rfl,hq,fx,fs,q⟩:=h;cases ry;rcases hq with hq|hq
 ·obtain ⟨its,r,pl,hz⟩:=I.list hq;refine SeqAt.notIn_listAt (eqU x) pl.isList (fun w hw=>pY rx fx r fs w (by simpa using hw)) ⟨.bl _,H,I,rfl,?_⟩;rw [show its.toArray.any (eqU x)=its.any (eqU x) by simp,uM r fs];exact q
 ·obtain ⟨its,r,pl,hz⟩:=I.tuple hq;refine SeqAt.notIn_tupleAt (eqU x) pl (fun w hw=>pY rx fx r fs w (by simpa using hw)) ⟨.bl _,H,I,rfl,?_⟩;rw [show its.toArray.any (eqU x)=its.any (eqU x) by simp,uM r fs];exact q
theorem bC:cJ X (.builtin "len") (fun xs H Q=>∃p ys,xs=[.ref p]∧(SqL X.K H p ys∨SqT X.K H p ys)∧Q (.int ys.length) H):=by
 intro bEP s σ H xs us Q I r h;obtain ⟨p,ys,rfl,hq,q⟩:=h;obtain ⟨u,rfl,rx⟩:=vals1 r;cases rx;have hn:=aAn;rcases hq with hq|hq
 ·obtain ⟨its,r',pl,hz⟩:=I.list hq;have hlen:=r'.length;exact Calls.call_len_list pl.isList (by simp only [j9] <;> lia) ⟨.int ys.length,H,I.tok _,⟨s.toks+1,by rw [j9,hlen]⟩,q⟩
 ·obtain ⟨its,r',pl,hz⟩:=I.tuple hq;have hlen:=r'.length;exact len_tuple pl (by simp only [j9] <;> lia) ⟨.int ys.length,H,I.tok _,⟨s.toks+1,by rw [j9,hlen]⟩,q⟩
theorem vW:cJ X (.builtin "len") (fun xs H Q=>∃z,xs=[.str z]∧z.length≤sizeLine∧Q (.int z.length) H):=by intro bEP s σ H xs us Q I r h;obtain ⟨z,rfl,hz,q⟩:=h;obtain ⟨u,rfl,t,rfl⟩:=vals1 r;have hn:=aAn;exact len_str (by lia) ⟨.int z.length,H,I.tok _,⟨_,rfl⟩,q⟩
theorem cJ.or {f:Value} {r r':List V→Hp→VK→Prop} (h:cJ X f r) (h':cJ X f r'):cJ X f (fun xs H Q=>r xs H Q∨r' xs H Q):=by
 intro bEP s σ H xs us Q I rs q;rcases q with q|q
 ·exact h bEP s σ H xs us Q I rs q
 ·exact h' bEP s σ H xs us Q I rs q
theorem aE9:cJ X (.type "list") (fun xs H Q=>∃p ys,xs=[.ref p]∧(SqL X.K H p ys∨SqT X.K H p ys)∧∀l,H l=none→Q (.ref l) (upd H l (.lst ys))):=by
 intro bEP s σ H xs us Q I r h;obtain ⟨p,ys,rfl,hq,q⟩:=h;obtain ⟨u,rfl,rx⟩:=vals1 r;cases rx;have fin:∀(its:List Value),Vals ys its→ys.length≤sizeLine→∀(h':Heap) (c':Nat),(∀b o',s.heap.get? b=some o'→h'.get? b=some o') →
   h'.get? s.heap.objs.size=some { cls:=.type "list",dict:=none,data:=.seq its.toArray c',slots:=#[] }→EP X bEP σ Q (.ref s.heap.objs.size) { s with heap:=h' }:=fun its r' hz h' c' kp e=>
  ⟨.ref s.heap.objs.size,_,I.laid (t':=s.toks) kp (j6 _) (show cW X.prog X.w _ h' _ (.lst ys) from ⟨hz,its,c',r',e⟩),rfl,q _ (I.hok.fresh (j6 _))⟩
 rcases hq with hq|hq
 ·obtain ⟨its,r',pl,hz⟩:=I.list hq;have hlen:=r'.length;obtain ⟨o,ho,hc,n,hd⟩:=pl.isList;exact call_list_seq p (.inl rfl) ho hc hd (fun h' c' kp e=>fin its r' hz h' c' kp e) (by simp only [j9] <;> lia)
 ·obtain ⟨its,r',pl,hz⟩:=I.tuple hq;have hlen:=r'.length;obtain ⟨o,ho,hc,n,hd⟩:=pl;exact call_list_seq p (.inr rfl) ho hc hd (fun h' c' kp e=>fin its r' hz h' c' kp e) (by simp only [j9] <;> lia)
theorem aCb:cJ X (.type "tuple") (fun xs H Q=>∃p ys,xs=[.ref p]∧((SqL X.K H p ys∧∀l,H l=none→Q (.ref l) (upd H l (.tup ys)))∨(SqT X.K H p ys∧Q (.ref p) H))):=by
 intro bEP s σ H xs us Q I r h;obtain ⟨p,ys,rfl,h⟩:=h;obtain ⟨u,rfl,rx⟩:=vals1 r;cases rx;rcases h with ⟨hq,q⟩|⟨hq,q⟩
 ·obtain ⟨its,r',pl,hz⟩:=I.list hq;have hlen:=r'.length;refine call_tuple_list pl.isList (fun h' kp=>?_) (by simp only [j9] <;> lia);have I1:Inv X bEP σ H { s with heap:=h' }:=I.kept (t':=s.toks) kp;have I2:Inv X bEP σ (upd H h'.objs.size (.tup ys)) { s with heap:=h'.push { cls:=.type "tuple",data:=.seq its.toArray } }:=
   I1.laid (t':=s.toks) (fun b o e=>d9 _ e) (j6 _) (show cW X.prog X.w _ _ _ (.tup ys) from ⟨hz,its,r',wJ.new _ _⟩)
  exact ⟨.ref h'.objs.size,_,I2,rfl,q _ (I1.hok.fresh (j6 _))⟩
 ·obtain ⟨its,r',pl,hz⟩:=I.tuple hq;exact call_tuple_same pl ⟨.ref p,H,I,rfl,q⟩
def tyV (K:bEL) (T:String) (x:V) (H:Hp):Prop:=match x with
 |.str _=>T = "str"
 |.int _=>T = "int"
 |.ref p=>(T = "list"∧∃xs,SqL K H p xs)∨(T = "tuple"∧∃o,K.lookup p=some o∧o.cls=.type "tuple"∧o.dict=none) ∨
   (T = "dict"∧((∃kvs,H p=some (.dK kvs))∨∃kvs,H p=some (.dT kvs)))∨(T = "set"∧∃S n,H p=some (.set S n))
 |_=>False
theorem aLu {bEP:bEN} {σ:St} {H:Hp} {s:Shared} {T:String} {x:V} {v:Value} (I:Inv X bEP σ H s) (r:RelV x v) (ty:tyV X.K T x H) :
  s.TypeIs v T∧∀a,v=.ref a→∃ob,s.heap.get? a=some ob∧ob.dict=none:=by
 cases x with
 |str z=>obtain ⟨t,rfl⟩:=r;cases (show T = "str" from ty);exact ⟨typeIs_str s z t,fun _ e=>nomatch e⟩
 |int i=>obtain ⟨t,rfl⟩:=r;cases (show T = "int" from ty);exact ⟨typeIs_int s i t,fun _ e=>nomatch e⟩
 |ref p=>
  cases r;rcases ty with ⟨rfl,xs,hq⟩|⟨rfl,o,hk,hc,hd⟩|⟨rfl,hk⟩|⟨rfl,S,n,hk⟩
  ·obtain ⟨its,_,pl,_⟩:=I.list hq;refine ⟨pl.isList.typeIs,fun a e=>?_⟩;cases e;obtain ⟨o,n,e,c,hd,_⟩:=pl;exact ⟨o,e,hd⟩
  ·refine ⟨⟨o,I.kIn p o hk,hc⟩,fun a e=>?_⟩;cases e;exact ⟨o,I.kIn _ o hk,hd⟩
  ·have z:∃o,s.heap.get? p=some o∧o.ExactDict:=by
    rcases hk with ⟨kvs,hk⟩|⟨kvs,hk⟩
    ·obtain ⟨_,_,_,_,o,_,_,e,ex,_⟩:=I.hok p _ hk;exact ⟨o,e,ex⟩
    ·obtain ⟨_,_,_,_,o,_,_,e,ex,_⟩:=I.hok p _ hk;exact ⟨o,e,ex⟩
   obtain ⟨o,e,ex⟩:=z;refine ⟨⟨o,e,ex.1⟩,fun a e2=>?_⟩;cases e2;exact ⟨o,e,ex.2.1⟩
  ·obtain ⟨o,_,_,_,e,ex,_⟩:=I.hok p _ hk;refine ⟨⟨o,e,ex.1⟩,fun a e2=>?_⟩;cases e2;exact ⟨o,e,ex.2.1⟩
 |_=>exact False.elim ty
def aZv (K:bEL) (T:String) (r:V→List V→Hp→VK→Prop) (to:TE):TE:=fun σ H Q=>to σ H fun x H1=>tyV K T x H1∧r x [] H1 Q
def tBM (K:bEL) (T:String) (r:V→List V→Hp→VK→Prop) (to:TE) (t:TA):TE:=fun σ H Q=>to σ H fun x H1=>tyV K T x H1∧t σ H1 fun xs H2=>r x xs H2 Q
variable {o e:Expr} {es:List Expr} {to:TE} {t:TA} {name:Str} {apos cpos:Pos} {T id:String} {r:V→List V→Hp→VK→Prop}
theorem aWn (pa:PlainAttrs T) (slot:Slot T name id) (hty:typeOf (.builtin id)=pure (.type "method_descriptor")) (hm:MtR X id r) (ho:PE X o to)
  (hbase:attributeBase o name X.env (eval o X.env)=eval o X.env:=by rfl) (hline:(apos.endLine == cpos.line)=true:=by rfl):PE X (.Call (.Attribute o name apos) [] [] cpos) (aZv X.K T r to):=by
 intro bEP s σ H Q I h;refine wpAny_Call_method0_late hbase hline (thn (ho bEP s σ H _ I h) fun v s1 ⟨x,H1,I1,r1,ty,q1⟩=>?_);obtain ⟨h1,h2⟩:=aLu I1 r1 ty;exact ⟨T,id,pa,slot,hty,h1,h2,bCY rfl (PySem.evalArgs_none (hm bEP s1 σ H1 x [] v [] Q I1 r1 .nil q1))⟩
theorem bAf (pa:PlainAttrs T) (slot:Slot T name id) (hty:typeOf (.builtin id)=pure (.type "method_descriptor")) (hm:MtR X id r) (ho:PE X o to) (ha:PA X (e::es) t)
  (hbase:attributeBase o name X.env (eval o X.env)=eval o X.env:=by rfl)
  (hfew:((backTo cpos (starEach (e::es) X.env)).all (fun x=>!x.1) && (backToKw cpos (keywordEach [] X.env)).all (fun x=>x.1.isSome)
   && decide ((e::es).length+([]:List Keyword).length+(if ([]:List Keyword).isEmpty then 0 else 1)<30))=true:=by rfl)
  (hline:(apos.endLine == cpos.line)=true:=by rfl) (hs:starEach (e::es) X.env=(false,eval e X.env)::starEach es X.env:=by rfl) (hplain:(backTo cpos (starEach es X.env)).any (·.1)=false:=by rfl) :
  PE X (.Call (.Attribute o name apos) (e::es) [] cpos) (tBM X.K T r to t):=by
 intro bEP s σ H Q I h;refine wpAny_Call_method_late hbase hfew hline rfl (thn (ho bEP s σ H _ I h) fun v s1 ⟨x,H1,I1,r1,ty,q1⟩=>?_);obtain ⟨h1,h2⟩:=aLu I1 r1 ty;refine ⟨T,id,pa,slot,hty,h1,h2,?_⟩;have hA:=ha cpos bEP s1 σ H1 _ I1 q1;rw [hs] at hA ⊢;refine bCY (by show (false || (backTo cpos (starEach es X.env)).any (·.1))=false;rw [hplain] <;> rfl) (bD0 ?_);exact thn hA fun us s2 ⟨vs,H2,I2,r2,q2⟩=>hm bEP s2 σ H2 x vs v us Q I2 r1 r2 q2
end
def MtM (X:Cx) (id:String) (r:V→List V→Hp→VK→Prop):Prop:=
 ∀(bEP:bEN) (s:Shared) (σ:St) (H:Hp) (x:V) (xs:List V) (v:Value) (us:List Value) (Q:VK),Inv X bEP σ H s→RelV x v→Vals xs us→r x xs H Q →
  wpAny (model X.prog X.w) X.A (call (.builtin id) (v::us)) (EP X bEP σ Q) X.xe s
theorem Vals.one:∀{x:V} {us:List Value},Vals [x] us→∃u,us=[u]∧RelV x u
 |_,_,.cons r .nil=>⟨_,rfl,r⟩
theorem Vals.two:∀{x y:V} {us:List Value},Vals [x,y] us→∃u v,us=[u,v]∧RelV x u∧RelV y v
 |_,_,_,.cons r (.cons q .nil)=>⟨_,_,rfl,r,q⟩
theorem Vals.zero:∀{us:List Value},Vals [] us→us=[]
 |_,.nil=>rfl
theorem Vals.reverse {xs:List V} {us:List Value} (h:Vals xs us):Vals xs.reverse us.reverse:=by
 induction h with
 |nil=>exact .nil
 |cons r t ih=>rw [List.reverse_cons,List.reverse_cons];exact Vals.append ih (.cons r .nil)
section
variable {X:Cx} {bEP:bEN} {σ:St} {H:Hp} {s:Shared} {l b:Addr} {xs ys zs:List V}
theorem Inv.lset {its its':List Value} {n:Nat} {f:Array Value→Array Value} {t':Nat} (I:Inv X bEP σ H s) (hH:H l=some (.lst xs))
  (e:s.heap.get? l=some { cls:=.type "list",data:=.seq its.toArray n }) (hf:f its.toArray=its'.toArray) (hv:Vals ys its') (hz:ys.length≤sizeLine) :
  Inv X bEP σ (upd H l (.lst ys)) { s with heap:=s.heap.update l (Obj.mapSeq f),toks:=t' }:=by
 have q:=PySem.IsL.update e f;rw [hf] at q;refine I.write (x:=l) (e:=l) (by rw [hH];exact trivial) (.inl rfl) (fun b' u hb hu=>(bA7 s.heap (Obj.mapSeq f) (Ne.symm hb)).trans hu) ⟨_,q⟩ ?_;exact ⟨hz,its',_,hv,q⟩
theorem Inv.lnew {its:List Value} {t':Nat} (I:Inv X bEP σ H s) (hv:Vals ys its) (hz:ys.length≤sizeLine) :
  Inv X bEP σ (upd H s.heap.objs.size (.lst ys)) { s with heap:=s.heap.push { cls:=.type "list",data:=.seq its.toArray },toks:=t' }:=
 I.laid (fun _ _ q=>d9 _ q) (j6 _) ⟨hz,its,0,hv,j5 _ rfl⟩
theorem Inv.fresh (I:Inv X bEP σ H s):H s.heap.objs.size=none:=I.hok.fresh (j6 _)
theorem Inv.aUr (I:Inv X bEP σ H s) (hH:H l=some (.lst xs)):xs.length≤sizeLine∧∃(its:List Value) (n:Nat),Vals xs its∧xs.length=its.length∧s.heap.get? l=some { cls:=.type "list",data:=.seq its.toArray n }:=by obtain ⟨z,its,n,r,e⟩:=I.hok l _ hH;exact ⟨z,its,n,r,r.length,e⟩
end
section
variable {X:Cx}
def aMf:V→List V→Hp→VK→Prop:=fun x vs H Q=>∃l xs y,x=.ref l∧vs=[y]∧H l=some (.lst xs)∧xs.length<sizeLine∧Q .non (upd H l (.lst (xs++[y])))
theorem wN:MtM X "list.append" aMf:=by intro bEP s σ H x vs v us Q I rx rv h;obtain ⟨l,xs,y,rfl,rfl,hH,hz,q⟩:=h;cases rx;obtain ⟨u,rfl,ru⟩:=rv.one;obtain ⟨z,its,n,r,hl,e⟩:=I.aUr hH;refine call_meets F.slot_list_append ⟨_,e,rfl⟩ F.entry_list_append (F.args_list_append_2 _ _) (PySem.list_append l its.toArray n u (by rw [j9];lia)) ⟨e,?_⟩;refine ⟨.non,_,I.lset (its':=its++[u]) hH e (by simp) (r.append (.cons ru .nil)) ?_,rfl,q⟩;rw [bAC,bDT];lia
def aG9:V→List V→Hp→VK→Prop:=fun x vs H Q=>∃l xs,x=.ref l∧vs=[]∧H l=some (.lst xs)∧Q .non (upd H l (.lst xs.reverse))
theorem aK4:MtM X "list.reverse" aG9:=by intro bEP s σ H x vs v us Q I rx rv h;obtain ⟨l,xs,rfl,rfl,hH,q⟩:=h;cases rx;have hus:=rv.zero;subst hus;obtain ⟨z,its,n,r,hl,e⟩:=I.aUr hH;refine call_meets F.slot_list_reverse ⟨_,e,rfl⟩ F.entry_list_reverse (F.args_list_reverse_1 _) (AutoSeq1.list_reverse_list_0 l its.toArray n (by rw [j9];lia)) ⟨e,?_⟩;refine ⟨.non,_,I.lset (its':=its.reverse) hH e (by simp) r.reverse ?_,rfl,q⟩;rw [List.length_reverse];lia
def bAy:R2:=fun x y H Q=>∃l b xs zs,x=.ref l∧y=.ref b∧H l=some (.lst xs)∧H b=some (.lst zs)∧xs.length+zs.length≤sizeLine∧∀p,H p=none→Q (.ref p) (upd H p (.lst (xs++zs)))
theorem aXs:OpR X (binaryOp .Add) bAy:=by
 intro bEP s σ H x y v u Q I rx ry h;obtain ⟨l,b,xs,zs,rfl,rfl,hH,hB,hz,q⟩:=h;cases rx;cases ry;obtain ⟨z,its,n,r,hl,e⟩:=I.aUr hH;obtain ⟨z2,its2,n2,r2,hl2,e2⟩:=I.aUr hB;refine PySem.P.add_list e e2 ?_ (by rw [j9,j9];lia);have ea:its.toArray++its2.toArray=(its++its2).toArray:=by simp
 rw [ea];exact ⟨.ref _,_,I.lnew (t':=s.toks) (r.append r2) (by rw [bAC];lia),rfl,q _ I.fresh⟩
end
section
variable {prog:Program} {w:World} {A:Around} {E:bEM} {s:Shared}
end
section
variable {X:Cx}
end
end L2
namespace Att
open PySem PySem.W PySem.Calls PyProof.Rows
theorem yP {P:Params} {h:Heap}:∀(ns:List Int) (vs:List Value),WellAll P h vs (ns.map WData.int)→IntsAre vs ns:=by
 intro ns
 induction ns with
 |nil=>intro vs w;rw [List.map_nil] at w;cases w;exact .nil
 |cons n ns ih=>
  intro vs w;rw [bAN] at w;cases w with
  |cons a b=>cases a;exact .cons _ _ (ih _ b)
theorem aNu {l:OpenLaw} {n:Nat} (hn:l.most=some n) {P:Params} {h:Heap} {args:List WData} {vals:List Value}
  (hpre:l.row.toRowW.claim.pre args=true) (hwl:WellAll P h vals args) :
  ∃a vs ns,vals=[Value.ref a]∧args=[WData.list (ns.map WData.int)]∧h.get? a=some { cls:=.type "list",data:=.seq vs.toArray }∧IntsAre vs ns∧ns.length≤n:=by
 have hsh:WShape.hasAll [] args [.list .int]=true:=(pre_splitW hpre).1;have hc:l.pre.holds [] { args:=args }=true:=(pre_splitW hpre).2;obtain ⟨d,r,rfl,h1,h2⟩:=hasAllW_cons hsh;obtain rfl:=hasAllW_nil h2;obtain ⟨xs,rfl,h3⟩:=hasW_list h1;obtain ⟨ns,rfl⟩:=items_int h3;have hlen:ns.length≤n:=by
  unfold OpenLaw.pre at hc;have h4:(WTm.not (.lt (.lit (.int (n:Int))) (.len (.arg 0)))).holds [] { args:=[.list (ns.map .int)] }=true:=by have h4:=(holds_andW hc).1;rw [hn] at h4;exact h4
  have h5:=condW_of h4 (w_not (w_lt w_lit (w_len_list (w_arg rfl))));rw [m7] at h5;refine Nat.le_of_not_lt fun q=>?_;have q':(n:Int)<((ns.length:Nat):Int):=by lia
  first
   |(rw [v8 q'] at h5;exact absurd h5 (by decide))
   |(simp at h5;lia)
 cases hwl with
 |cons w1 w2=>
  cases w2;cases w1 with
  |list ho hall=>exact ⟨_,_,ns,rfl,rfl,ho,yP ns _ hall,hlen⟩
theorem aNn (l:OpenLaw) (args:List WData):l.row.toRowW.claim.post args (.bool true) args=true:=
 postW_of (r:=l.row.toRowW) (X:=(true == true))
  (show WShape.has [] (.bool true) .bool=true by first|rfl|decide|simp [WShape.has,WShape.arms,WShape.armsAll])
  (show (WTm.eq .res (.lit (.bool true))).value [] { args:=args,res:=some (.bool true),after:=args }=some (.bool (true == true)) from w_eq_bool (w_res rfl) w_lit) rfl
theorem aGq {l:OpenLaw} {n:Nat} {q:Program} {loose:List Str} {XP:(bEO)→Heap→Prop} {YP:World→Heap→Prop} {d:DefRec}
  (hn:l.most=some n) (hdf:d.params.defaults=[])
  (call:∀(w:World) (s₀ s₁:Shared) (mg mb:bEO) (fa:Addr) (o:Obj) (pm cd doc:Value) (a:Addr) (vs:List Value) (ns:List Int),
   Ground q loose [] XP w s₀ mg mb s₁.heap→YP w s₁.heap →
   s₁.heap.get? fa=some o→o.data=.func (docDef d.name d.params d.body d.scope pm cd doc)→s₁.heap.CodeRec cd d.name→mg d.name=some (.ref fa) →
   s₁.heap.get? a=some { cls:=.type "list",data:=.seq vs.toArray }→IntsAre vs ns→ns.length≤n→s₁.gens=#[] →
   codeAny (model l.prog w) callerA (.call (.ref fa) ⟨[.ref a],[]⟩) (fun r s'=>r=.ok (.ret (.bool true))∧OldK s₁.heap s'.heap∧s'.os=s₁.os∧AllBare s'.gens) s₁) :
  WalkO q loose XP YP l.row.toRowW d [] (fun f vs=>PySem.call f vs):=by
 intro w s₀ s₁ mg mb G Y fa o pm cd doc dV kV ho hd hcd hD hmg hg args vals as hpre hlay hrd hwl hlo;obtain rfl:dV=.none:=Dflts.none hD hdf;obtain rfl:kV=.none:=Dflts.noKw hD;obtain ⟨a,vs,ns,rfl,rfl,hobj,hints,hlen⟩:=aNu hn hpre hwl;refine enter_call (bBM (call w s₀ s₁ mg mb fa o pm cd doc a vs ns G Y ho (fd_plain hd) hcd hmg hobj hints hlen hg) fun r s' hq=>?_);obtain ⟨rfl,h2,h3,h4⟩:=hq;exact ⟨.inl ⟨.bool true,.bool true,[],rfl,fun _=>rfl,.bool true,aNn l _,fun _=>⟨List.Pairwise.nil,fun _ hm=>(nomatch hm)⟩⟩,h2,h3,h4⟩
section
variable {prog:Program} {w:World} {A:Around} {E:bEM} {s:Shared} {K:Frag}
end
end Att
namespace L2
open PySem PySem.Spec PyProof.Rows
theorem aCs:∀{vs:List Value} {ns:List Int},IntsAre vs ns→Vals (ns.map V.int) vs
 |_,_,.nil=>.nil
 |_,_,.cons n t h=>.cons ⟨t,rfl⟩ (aCs h)
abbrev KOf {K:bEL} {h:Heap} (_:K.In h):bEL:=K
def kW (s:Stmt):Arguments:=match s with
 |.FunctionDef _ a _ _ _ _ _ _ _ _=>a
 |_=>{ posonlyargs:=[],args:=[],vararg:=none,kwonlyargs:=[],kw_defaults:=[],kwarg:=none,defaults:=[] }
def dB (s:Stmt):List Stmt:=match s with
 |.FunctionDef _ _ b _ _ _ _ _ _ _=>b
 |_=>[]
def aD (s:Stmt):Scope:=match s with
 |.FunctionDef _ _ _ _ _ _ sc _ _ _=>sc
 |_=>{ kind:=.function,names:=[],isGenerator:=false,isCoroutine:=false }
abbrev CX0:CXT:=fun _ _ _ _ _ _=>False
abbrev E0:XK:=fun _ _ _=>False
theorem aBt {X:Cx}:mO CX0 X E0:=fun _ _ _ _ _ _ _ h=>h.elim
structure Fun (K:bEL) (x qual:Str) (st:Stmt) (f:Addr) (fd:FuncData):Prop where
 ex:∃(oc:Value) (od:Option Addr) (kV doc pm:Value) (an:Option Addr) (cdv ct:Value) (osl:Array (Option Value)),
  fd=PySem.W.fnOf x qual (kW st) (dB st) (aD st) .none kV doc pm an cdv ct∧K.lookup f=some ⟨oc,od,.func fd,osl⟩∧PySem.W.codeIn K cdv qual=true
 kp:PySem.W.keepIn K (.ref f)=true
section
variable {P:Program} {w:World} {K:bEL} {mg:bEO} {base:Heap}
theorem Fun.ok {x qual:Str} {st:Stmt} {f:Addr} {fd:FuncData} {N ps:List Str} {k:Nat} {sp:Sp} (F:Fun K x qual st f fd) (S:aJ N ps (aD st)) (len:∀vs H Q E,sp vs H Q E→vs.length=ps.length)
  (hbody:∀(cdv:Value) (A:Around) (outer:List Env) (s:Shared) (H:Hp) (vs:List V) (Q:VK) (E:XK),Room k (A.deeper (envOfC qual (aD st) s.heap.objs.size f cdv))→sp vs H Q E →
   ∃t,PSs (vR CX0 P w K mg base N qual (aD st) f cdv A outer s H E).nox (dB st) t∧t { nx:=fun _ H'=>Q .non H',rt:=Q } (start N vs) H):fV P w K mg base CX0 (k+1) f fd ps sp:=by
 obtain ⟨oc,od,kV,doc,pm,an,cdv,ct,osl,rfl,lk,hcd⟩:=F.ex;refine aSg lk hcd S len fun A outer s H vs Q E hr hsp=>?_;obtain ⟨t,h,q⟩:=hbody cdv A outer s H vs Q E hr hsp;exact ⟨t,h.nox,q⟩
theorem Fun.binds {x qual:Str} {st:Stmt} {f:Addr} {fd:FuncData} {ps:List Str} (F:Fun K x qual st f fd)
  (h:∀(kV doc pm:Value) (an:Option Addr) (cdv ct:Value) (us:List Value),us.length=ps.length→bindArgs (PySem.W.fnOf x qual (kW st) (dB st) (aD st) .none kV doc pm an cdv ct) ⟨us,[]⟩=pure (ps.zip us)):Binds K fd ps []:=by
 obtain ⟨oc,od,kV,doc,pm,an,cdv,ct,osl,rfl,lk,hcd⟩:=F.ex;exact .all (h kV doc pm an cdv ct)
theorem xE {x qual:Str} {st:Stmt} {f:Addr} {oc:Value} {od an:Option Addr} {osl:Array (Option Value)} {kV doc pm cdv ct:Value} (l:K.lookup f=some ⟨oc,od,.func (PySem.W.fnOf x qual (kW st) (dB st) (aD st) .none kV doc pm an cdv ct),osl⟩)
  (c:PySem.W.codeIn K cdv qual=true) (k:PySem.W.keepIn K (.ref f)=true):Fun K x qual st f (PySem.W.fnOf x qual (kW st) (dB st) (aD st) .none kV doc pm an cdv ct):=⟨⟨oc,od,kV,doc,pm,an,cdv,ct,osl,rfl,l,c⟩,k⟩
end
theorem vK {A:Around} {k:Nat} (hr:Room k A):A.units+1<cLine:=bB6 (Nat.add_le_add_left (by decide:1≤64) _) hr.units
theorem nF {n:Nat} (h:n≤1000):n<sizeLine:=bB6 h (by decide)
section
variable {X:Cx}
theorem pv (i:Nat) {x:Str} {pos:Pos} (hN:X.N[i]?=some x:=by rfl) (hv:Vis X.env.scope x:=by trivial) (hd:(x == ("__debug__":Str))=false:=by decide)
  (hcd:(x == ("__classdict__":Str))=false:=by decide):PE X (.Name x pos) (uP i):=aYa hN hv hd hcd
end
theorem bY {A B:Prop} (h:B):if false=true then A else B:=by rw [if_neg v4];exact h
theorem dC {A B:Prop} (h:A):if true=true then A else B:=by rw [if_pos rfl];exact h
theorem aJn {c A B:Prop} [Decidable c] (h1:c→A) (h2:¬ c→B):if c then A else B:=by
 by_cases h:c
 ·rw [if_pos h];exact h1 h
 ·rw [if_neg h];exact h2 h
def Same (H H':Hp):Prop:=∀b o,H b=some o→H' b=some o
theorem Same.refl (H:Hp):Same H H:=fun _ _ h=>h
theorem Same.trans {H H1 H2:Hp} (a:Same H H1) (b:Same H1 H2):Same H H2:=fun c o h=>b c o (a c o h)
theorem Same.free {H H':Hp} (e:Same H H') {l:Addr} (h:H' l=Option.none):H l=Option.none:=by
 cases q:H l with
 |none=>rfl
 |some o=>rw [e l o q] at h;cases h
theorem Same.seq {K:bEL} {H H':Hp} {a:Addr} {xs:List V} (e:Same H H') (h:SqL K H a xs):SqL K H' a xs:=by
 rcases h with (h|⟨o,h⟩)|h
 ·exact .inl (.inl (e _ _ h))
 ·exact .inl (.inr ⟨o,e _ _ h⟩)
 ·exact .inr h
end L2
namespace PySem
namespace RvF
end RvF
section
variable {prog:Program} {w:World} {A:Around} {E:bEM} {s:Shared}
end
end PySem
namespace L2
open PySem PySem.Spec PyProof.Rows
theorem aK1:bootBuiltins "int"=some (.type "int"):=by decide +kernel
theorem aTx:bootBuiltins "bool"=some (.type "bool"):=by decide +kernel
theorem aJr:bootBuiltins "str"=some (.type "str"):=by decide +kernel
theorem yX:bootBuiltins "list"=some (.type "list"):=by decide +kernel
theorem fP:bootBuiltins "tuple"=some (.type "tuple"):=by decide +kernel
theorem yZ:bootBuiltins "dict"=some (.type "dict"):=by decide +kernel
theorem aS3:bootBuiltins "set"=some (.type "set"):=by decide +kernel
theorem aQt:bootBuiltins "zip"=some (.type "zip"):=by decide +kernel
theorem aF5:bootBuiltins "enumerate"=some (.type "enumerate"):=by decide +kernel
theorem bM:bootBuiltins "isinstance"=some (.builtin "isinstance"):=by decide +kernel
theorem dI:bootBuiltins "len"=some (.builtin "len"):=by decide +kernel
theorem sZ:bootBuiltins "all"=some (.builtin "all"):=by decide +kernel
theorem aYg:bootBuiltins "any"=some (.builtin "any"):=by decide +kernel
theorem gK:bootBuiltins "sorted"=some (.builtin "sorted"):=by decide +kernel
theorem aVb {J:It} {n:Nat} {item:Nat→V} {g:TG} {tb:TS} {D:Ends} {σ:St} {H:Hp} (Pv:Nat→St→Hp→Prop)
  (hgo:∀i H,i<n→J.go i H) (hst:∀H,J.stop n H) (hy:∀i H x H',i<n→J.yld i H x H'→H'=H∧x=item i) (h0:Pv 0 σ H)
  (hs:∀i σ H,i<n→Pv i σ H→g (item i) σ H fun σ2 H2=>tb { D with nx:=Pv (i+1),ct:=Pv (i+1),bk:=D.nx } σ2 H2) (hd:∀σ H,Pv n σ H→D.nx σ H) :
  ∃W:Nat→Nat→St→Hp→Prop,(∃m,W 0 m σ H)∧∀i m σ H,W i m σ H →
   (J.stop i H∧D.nx σ H)∨(J.go i H∧∃N:St→Hp→Prop,(∀σ' H',N σ' H'→∃m',m'<m∧W (i+1) m' σ' H')∧∀x H',J.yld i H x H'→g x σ H' fun σ2 H2=>tb { D with nx:=N,ct:=N,bk:=D.nx } σ2 H2):=by
 refine ⟨fun i m σ H=>m=n - i∧i≤n∧Pv i σ H,⟨n,by simp,bAL _,h0⟩,?_⟩;rintro i m σ H ⟨rfl,hi,p⟩;by_cases hlt:i<n
 ·refine .inr ⟨hgo i H hlt,Pv (i+1),fun σ' H' p'=>⟨n - (i+1),by lia,rfl,hlt,p'⟩,fun x H' y=>?_⟩;obtain ⟨e1,e2⟩:=hy i H x H' hlt y;subst e1 e2;exact hs i σ _ hlt p
 ·have e:i=n:=by lia
  subst e;exact .inl ⟨hst H,hd σ H p⟩
def sgn (x:Str) (i:Nat):Str:=⟨#[x.cps.getD i 0]⟩
theorem aRl {x:Str} {i c:Nat} (h:x.cps[i]?=some c):(⟨#[c]⟩:Str)=sgn x i:=by unfold sgn;rw [v7,h];rfl
def Its (x:Str):It:=⟨fun i _=>i<x.cps.size,fun i H v H'=>H'=H∧v=.str (sgn x i),fun i _=>x.cps.size≤i⟩
theorem aPh {P:Program} {w:World} {K:bEL} {tg:Expr} (it:Addr) (x:Str) (t:Tok):Turn P w K tg (Its x) [it] it (fun i h=>h.IsStrIter it "str_ascii_iterator" x t i) where
 mem:=by simp
 obj:=fun i h st b hb=>by
  have e:b=it:=by simpa using hb
  subst e;obtain ⟨o,e,c,d⟩:=st;exact ⟨o,e,fun v z=>by rw [d] at z;cases z⟩
 keep:=fun i h h' st k=>let ⟨o,ho,r⟩:=st;⟨o,k it (by simp) o ho,r⟩
 item:=by intro X hP hw hK hc i bEP s σ H E I hf st hg;subst hP hw hK;obtain ⟨f0,f1,f2,f3,f4,f5⟩:=hf it (by simp);refine (Walks.strAscii (prog:=X.prog) (w:=X.w) (I.ok.hd hc) it x t).item i s _ _ hg st fun v h' tk hv st' kk=>?_;obtain ⟨c,u,hcx,rfl⟩:=hv;have I1:Inv X bEP σ H { s with heap:=h',toks:=tk }:=I.turned (fun b o hb e=>kk b o (by simpa using hb) e) f0 f1 f3 f4 f5;obtain ⟨o,e,c',d⟩:=id st';exact ⟨_,rfl,aGv (s:={ s with heap:=h',toks:=tk }) e c' d (by decide) ⟨.str ⟨#[c]⟩,H,I1,⟨u,rfl⟩,⟨rfl,by rw [aRl hcx]⟩,st',fun b hb=>(hf b hb).1⟩⟩
 done:=by intro X hP hw hK hc i bEP s σ H E I hf st hg;subst hP hw hK;obtain ⟨f0,f1,f2,f3,f4,f5⟩:=hf it (by simp);exact wpAny_pyNext_ascii_end (I.ok.hd hc) st (Array.getElem?_eq_none_iff.mpr hg) fun h' eb=>⟨rfl,I.turned (t':=s.toks) (fun b o hb e=>eb b o hb e) f0 f1 f3 f4 f5⟩
 self:=fun _ _ _ _ _ st h=>wpAny_pyIter_striter_ascii st h
theorem aN7 {P:Program} {w:World} {K:bEL} {tg:Expr} (it:Addr) (x:Str) (t:Tok):Turn P w K tg (Its x) [it] it (fun i h=>h.IsStrIter it "str_iterator" x t i) where
 mem:=by simp
 obj:=fun i h st b hb=>by
  have e:b=it:=by simpa using hb
  subst e;obtain ⟨o,e,c,d⟩:=st;exact ⟨o,e,fun v z=>by rw [d] at z;cases z⟩
 keep:=fun i h h' st k=>let ⟨o,ho,r⟩:=st;⟨o,k it (by simp) o ho,r⟩
 item:=by intro X hP hw hK hc i bEP s σ H E I hf st hg;subst hP hw hK;obtain ⟨f0,f1,f2,f3,f4,f5⟩:=hf it (by simp);refine (Walks.strWide (prog:=X.prog) (w:=X.w) (I.ok.hd hc) it x t).item i s _ _ hg st fun v h' tk hv st' kk=>?_;obtain ⟨c,u,hcx,rfl⟩:=hv;have I1:Inv X bEP σ H { s with heap:=h',toks:=tk }:=I.turned (fun b o hb e=>kk b o (by simpa using hb) e) f0 f1 f3 f4 f5;obtain ⟨o,e,c',d⟩:=id st';exact ⟨_,rfl,aGv (s:={ s with heap:=h',toks:=tk }) e c' d (by decide) ⟨.str ⟨#[c]⟩,H,I1,⟨u,rfl⟩,⟨rfl,by rw [aRl hcx]⟩,st',fun b hb=>(hf b hb).1⟩⟩
 done:=by intro X hP hw hK hc i bEP s σ H E I hf st hg;subst hP hw hK;obtain ⟨f0,f1,f2,f3,f4,f5⟩:=hf it (by simp);exact wpAny_pyNext_wide_end (I.ok.hd hc) st (Array.getElem?_eq_none_iff.mpr hg) fun h' eb=>⟨rfl,I.turned (t':=s.toks) (fun b o hb e=>eb b o hb e) f0 f1 f3 f4 f5⟩
 self:=fun _ _ _ _ _ st h=>wpAny_pyIter_striter_wide st h
section
variable {X:Cx} {tg:Expr}
def aW6 (tl:TE):TI:=fun σ H R=>tl σ H fun x H1=>∃z,x=.str z∧R (Its z) H1
theorem aWt {l:Expr} {tl:TE} (hl:PE X l tl):PI X tg l (aW6 tl):=by
 intro bEP s σ H R I h;refine thn (hl bEP s σ H _ I h) fun v s1 ⟨x,H1,I1,r1,q1⟩=>?_;obtain ⟨z,e,q⟩:=q1;subst e;obtain ⟨t,rfl⟩:=r1;have fp:∀b∈[s1.heap.objs.size],sH X bEP H1 b:=fun b hb=>by
  have e:b=s1.heap.objs.size:=by simpa using hb
  subst e;exact I1.aFh (j6 _) (I1.hok.fresh (j6 _))
 cases ha:z.cps.all (·<128)
 ·exact wpAny_pyIter_wide ha ⟨s1.heap.objs.size,[s1.heap.objs.size],_,_,H1,rfl,I1.kept (t':=s1.toks) fun b o e=>d9 _ e,aN7 _ z t,⟨_,j5 _ rfl,rfl,rfl⟩,fp,q⟩
 ·exact wpAny_pyIter_ascii ha ⟨s1.heap.objs.size,[s1.heap.objs.size],_,_,H1,rfl,I1.kept (t':=s1.toks) fun b o e=>d9 _ e,aPh _ z t,⟨_,j5 _ rfl,rfl,rfl⟩,fp,q⟩
theorem aS6 {x:Str} {g:TG} {tb:TS} {D:Ends} {σ:St} {H:Hp} (Pv:Nat→St→Hp→Prop) (h0:Pv 0 σ H)
  (hs:∀i σ H,i<x.cps.size→Pv i σ H→g (.str (sgn x i)) σ H fun σ2 H2=>tb { D with nx:=Pv (i+1),ct:=Pv (i+1),bk:=D.nx } σ2 H2) (hd:∀σ H,Pv x.cps.size σ H→D.nx σ H) :
  ∃W:Nat→Nat→St→Hp→Prop,(∃m,W 0 m σ H)∧∀i m σ H,W i m σ H →
   ((Its x).stop i H∧D.nx σ H)∨((Its x).go i H∧∃N:St→Hp→Prop,(∀σ' H',N σ' H'→∃m',m'<m∧W (i+1) m' σ' H')∧∀v H',(Its x).yld i H v H'→g v σ H' fun σ2 H2=>tb { D with nx:=N,ct:=N,bk:=D.nx } σ2 H2):=
 aVb (item:=fun i=>.str (sgn x i)) Pv (fun i H h=>h) (fun H=>j6 _) (fun i H v H' _ y=>y) h0 hs hd
def aXd:V→List V→Hp→VK→Prop:=fun x vs H Q=>∃a b i rest,x=.str a∧vs=[.str b]∧Builtin.Str.occurrences a b 0 a.length 1=i::rest∧Q (.int (i:Nat)) H
theorem aQm:MtR X "str.index" aXd:=by intro bEP s σ H x vs v us Q I rx rv h;obtain ⟨a,b,i,rest,rfl,rfl,ho,q⟩:=h;obtain ⟨t,rfl⟩:=rx;obtain ⟨u,rfl,t',rfl⟩:=rv.one;exact SC.index ho ⟨.int (i:Nat),H,I.tok _,⟨_,rfl⟩,q⟩
def aKn (x:V) (T:String):Option Bool:=match x with
 |.int _=>if T = "int" then some true else if T = "bool" then some false else if T = "str" then some false else none
 |.str _=>if T = "int" then some false else if T = "bool" then some false else if T = "str" then some true else none
 |.bl _=>if T = "int" then some true else if T = "bool" then some true else if T = "str" then some false else none
 |_=>none
def aZa:List V→Hp→VK→Prop:=fun xs H Q=>∃x T b,xs=[x,.ty T]∧aKn x T=some b∧Q (.bl b) H
theorem pK:cJ X (.builtin "isinstance") aZa:=by
 intro bEP s σ H xs us Q I r h;obtain ⟨x,T,b,rfl,e,q⟩:=h;obtain ⟨u,v,rfl,rx,rT⟩:=r.two;cases rT;have f0:∀{k:Bool},some k=some b→EP X bEP σ Q (.bool k) s:=fun e=>by cases e;exact ⟨.bl _,H,I,rfl,q⟩
 have f1:∀{k:Bool},some k=some b→EP X bEP σ Q (.bool k) { s with toks:=s.toks+1 }:=fun e=>by cases e;exact ⟨.bl _,H,I.tok _,rfl,q⟩
 cases x with
 |int i=>
  obtain ⟨t,rfl⟩:=rx;unfold aKn at e;dsimp only at e
  split at e
  ·rename_i hT;subst hT;exact IsiPair.int_int (f0 e)
  split at e
  ·rename_i hT;subst hT;exact IsiPair.int_bool (f1 e)
  split at e
  ·rename_i hT;subst hT;exact IsiPair.int_str (f1 e)
  ·cases e
 |str z=>
  obtain ⟨t,rfl⟩:=rx;unfold aKn at e;dsimp only at e
  split at e
  ·rename_i hT;subst hT;exact IsiPair.str_int (f1 e)
  split at e
  ·rename_i hT;subst hT;exact IsiPair.str_bool (f1 e)
  split at e
  ·rename_i hT;subst hT;exact IsiPair.str_str (f0 e)
  ·cases e
 |bl z=>
  cases rx;unfold aKn at e;dsimp only at e
  split at e
  ·rename_i hT;subst hT;exact IsiPair.bool_int (f0 e)
  split at e
  ·rename_i hT;subst hT;exact IsiPair.bool_bool (f0 e)
  split at e
  ·rename_i hT;subst hT;exact IsiPair.bool_str (f1 e)
  ·cases e
 |_=>cases (show (none:Option Bool)=some b from e)
end
theorem small {n:Nat} (h:n≤1000):n≤sizeLine:=bCX (nF h)
theorem zY:Vals [] []:=.nil
theorem lX {x:V} {u:Value} {xs:List V} {us:List Value} (r:RelV x u) (t:Vals xs us):Vals (x::xs) (u::us):=.cons r t
def cU:Expr→Bool
 |.Starred ..=>false
 |_=>true
theorem aN {e:Expr} {es:List Expr} {env:Env} (h:cU e=true):starEach (e::es) env=(false,eval e env)::starEach es env:=by cases e <;> first|rfl|cases h
theorem aY3 {X:Cx} {e:Expr} {es:List Expr} {te:TE} {t:TA} (ha:PE X e te) (hr:PA X es t) (hp:cU e=true:=by rfl) :
  PA X (e::es) (dR te t):=aVp ha hr (aN hp)
theorem aZm {X:Cx} {x:Str} {v:V} {pos:Pos} (hg:Gl X x) (hm:∃u,X.mg x=some u∧RelV v u) (hd:(x == ("__debug__":Str))=false:=by decide):PE X (.Name x pos) (tC v):=by obtain ⟨u,hm,r⟩:=hm;exact aVq hg hm r hd
section
variable {P:Program} {w:World} {K:bEL} {mg:bEO} {base:Heap}
def Dn (K:bEL) (mg:bEO) (x:Str) (st:Stmt) (ps:List Str):Prop:=∃f fd,Fun K x x st f fd∧Binds K fd ps []∧mg x=some (.ref f)
def Ok (P:Program) (w:World) (K:bEL) (mg:bEO) (base:Heap) (k:Nat) (x:Str) (ps:List Str) (sp:Sp):Prop:=
 ∃f fd,mg x=some (.ref f)∧PySem.W.keepIn K (.ref f)=true∧Binds K fd ps []∧fV P w K mg base CX0 k f fd ps sp
theorem Ok.mono {j k:Nat} {x:Str} {ps:List Str} {sp:Sp} (h:Ok P w K mg base j x ps sp) (hj:j≤k):Ok P w K mg base k x ps sp:=by obtain ⟨f,fd,h1,h2,h3,h4⟩:=h;exact ⟨f,fd,h1,h2,h3,h4.mono hj⟩
theorem Ok.of {x:Str} {st:Stmt} {N ps:List Str} {k:Nat} {sp:Sp} (D:Dn K mg x st ps) (S:aJ N ps (aD st)) (len:∀vs H Q E,sp vs H Q E→vs.length=ps.length)
  (hbody:∀(f:Addr) (cdv:Value) (A:Around) (outer:List Env) (s:Shared) (H:Hp) (vs:List V) (Q:VK) (E:XK),Room k (A.deeper (envOfC x (aD st) s.heap.objs.size f cdv))→sp vs H Q E →
   ∃t,PSs (vR CX0 P w K mg base N x (aD st) f cdv A outer s H E).nox (dB st) t∧t { nx:=fun _ H'=>Q .non H',rt:=Q } (start N vs) H):Ok P w K mg base (k+1) x ps sp:=by
 obtain ⟨f,fd,F,B,m⟩:=D;exact ⟨f,fd,m,F.kp,B,F.ok S len fun cdv A outer s H vs Q E hr h=>hbody f cdv A outer s H vs Q E hr h⟩
end
section
variable {X:Cx} {k:Nat} {ps:List Str} {sp:Sp} {x:Str} {p pos:Pos} {e:Expr} {es:List Expr} {t:TA}
theorem aZ5 (G:Ok X.prog X.w X.K X.mg X.base k x ps sp) (hr:Room k X.A) (hg:Gl X x) (ha:PA X (e::es) t) (hdb:(x == ("__debug__":Str))=false:=by decide)
  (he:starEach (e::es) X.env=(false,eval e X.env)::starEach es X.env:=by rfl) (hpl:(backTo pos (starEach es X.env)).any (·.1)=false:=by rfl) :
  PE X (.Call (.Name x p) (e::es) [] pos) (aDc sp [] E0 t):=by
 obtain ⟨f,fd,h1,h2,h3,h4⟩:=G;exact aVa h4 hr hg h1 h2 h3 .nil aBt ha hdb he hpl
theorem aXr (G:Ok X.prog X.w X.K X.mg X.base k x ps sp) (hr:Room k X.A) (hg:Gl X x) (hdb:(x == ("__debug__":Str))=false:=by decide) :
  PE X (.Call (.Name x p) [] [] pos) (aDc sp [] E0 aBw):=by
 obtain ⟨f,fd,h1,h2,h3,h4⟩:=G;exact aQv h4 hr hg h1 h2 h3 .nil aBt hdb
end
theorem tR {env:Env} (f:Str × NameKind→List (Str × Addr)→Sem (ForInStep (List (Str × Addr))))
  (h1:∀n r,f (n,.free) r=(cellOf env n >>= fun a=>pure (.yield ((n,a)::r)))) (h2:∀n k r,k≠.free→f (n,k) r=pure (.yield r)) :
  ∀(names:List (Str × NameKind)) (acc:List (Str × Addr)),(∀y∈names,y.2=.free→∃c,env.cells.lookup y.1=some c) →
  ∃cl,forIn names acc f=(pure (cl++acc):Sem _)∧(∀p∈cl,env.cells.lookup p.1=some p.2∧(p.1,NameKind.free)∈names)∧∀y,(y,NameKind.free)∈names→∃c,(y,c)∈cl
 |[],acc,_=>⟨[],by simp,fun _ h=>(nomatch h),fun _ h=>(nomatch h)⟩
 |(n,k)::r,acc,h=>by
  by_cases hk:k=.free
  ·subst hk;obtain ⟨c,hc⟩:=h (n,.free) t6 rfl;obtain ⟨cl,e,p1,p2⟩:=tR f h1 h2 r ((n,c)::acc) fun y hy=>h y (m8 _ hy);refine ⟨cl++[(n,c)],?_,fun p hp=>?_,fun y hy=>?_⟩
   ·rw [bCE,h1];have e0:cellOf env n=pure c:=by unfold cellOf;rw [hc]
    rw [e0,pure_bind,pure_bind];show forIn r ((n,c)::acc) f=_;rw [e,bCC];rfl
   ·rcases List.mem_append.mp hp with hp|hp
    ·exact ⟨(p1 p hp).1,m8 _ (p1 p hp).2⟩
    ·obtain rfl:=List.mem_singleton.mp hp;exact ⟨hc,t6⟩
   ·rcases List.mem_cons.mp hy with e|hy
    ·cases e;exact ⟨c,by simp⟩
    ·obtain ⟨c',q⟩:=p2 y hy;exact ⟨c',bCN _ q⟩
  ·obtain ⟨cl,e,p1,p2⟩:=tR f h1 h2 r acc fun y hy=>h y (m8 _ hy);refine ⟨cl,?_,fun p hp=>⟨(p1 p hp).1,m8 _ (p1 p hp).2⟩,fun y hy=>?_⟩
   ·rw [bCE,h2 n k acc hk,pure_bind];exact e
   ·rcases List.mem_cons.mp hy with e|hy
    ·cases e;exact absurd rfl hk
    ·exact p2 y hy
theorem aAy {scope:Scope} {env:Env} (h:∀y∈scope.names,y.2=.free→∃c,env.cells.lookup y.1=some c) :
  ∃cl,closureFor scope env=pure cl∧(∀p∈cl,env.cells.lookup p.1=some p.2∧(p.1,NameKind.free)∈scope.names)∧∀y,(y,NameKind.free)∈scope.names→∃c,(y,c)∈cl:=by
 unfold closureFor;obtain ⟨cl,e,p1,p2⟩:=tR (env:=env) (fun x r=>match x with|(name,kind)=>if (kind == NameKind.free)=true then do let a ←cellOf env name;pure (.yield ((name,a)::r)) else pure (.yield r))
  (fun n r=>rfl) (fun n k r hk=>by
   have:(k == NameKind.free)=false:=by simpa using hk
   simp only [this,bA6,if_false]) scope.names [] h
 refine ⟨cl,?_,p1,p2⟩;rw [bBF] at e;refine Eq.trans ?_ e;first
 |rfl
 |simp
theorem lookup_mem {α β:Type} [BEq α] [LawfulBEq α] {a:α} {b:β}:∀{l:List (α × β)},(a,b)∈l→∃b',l.lookup a=some b'
 |(x,y)::r,h=>by
  rw [bCK];by_cases e:(a == x)=true
  ·exact ⟨y,by rw [e]⟩
  ·have e':(a == x)=false:=by simpa using e
   rw [e'];rcases List.mem_cons.mp h with z|z
   ·cases z;simp at e
   ·exact lookup_mem z
theorem vV {env:Env} {y:Str} {k:NameKind}:∀{names:List (Str × NameKind)},names.lookup y=some .free →
  (names.map fun (x:Str × NameKind)=>match x with|(n,k)=>if (k == NameKind.free && env.scope.kind == ScopeKind.function && env.kindOf n == some NameKind.cell) then (n,NameKind.cell) else (n,k)).lookup y=some .cell ∨
  (names.map fun (x:Str × NameKind)=>match x with|(n,k)=>if (k == NameKind.free && env.scope.kind == ScopeKind.function && env.kindOf n == some NameKind.cell) then (n,NameKind.cell) else (n,k)).lookup y=some .free
 |[],h=>by simp at h
 |(n,k')::r,h=>by
  rw [bAN];rw [bCK] at h;by_cases e:(y == n)=true
  ·rw [e] at h;cases h;by_cases q:((NameKind.free == NameKind.free) && env.scope.kind == ScopeKind.function && env.kindOf n == some NameKind.cell)=true
   ·left;simp only [q,if_true,bCK,e]
   ·right;have q':=Bool.eq_false_iff.mpr q;simp only [q',bA6,if_false,bCK,e]
  ·have e':(y == n)=false:=by simpa using e
   rw [e'] at h;have ih:=vV (env:=env) (k:=k) h;have key:∀z:Str × NameKind,z.1=n→(List.lookup y (z::(r.map fun (x:Str × NameKind)=>match x with|(n,k)=>if (k == NameKind.free && env.scope.kind == ScopeKind.function && env.kindOf n == some NameKind.cell) then (n,NameKind.cell) else (n,k)))) =
     List.lookup y (r.map fun (x:Str × NameKind)=>match x with|(n,k)=>if (k == NameKind.free && env.scope.kind == ScopeKind.function && env.kindOf n == some NameKind.cell) then (n,NameKind.cell) else (n,k)):=fun z hz=>by
    obtain ⟨z1,z2⟩:=z;cases hz;rw [bCK,e']
   have kz:(match ((n,k'):Str × NameKind) with|(n,k)=>if (k == NameKind.free && env.scope.kind == ScopeKind.function && env.kindOf n == some NameKind.cell) then (n,NameKind.cell) else (n,k)).1=n:=by
    dsimp only
    split <;> rfl
   rw [key _ kz];exact ih
theorem uY {env:Env} {y:Str}:∀{names:List (Str × NameKind)},(∀z∈names,z.2≠.cell) →
  ((names.map fun (x:Str × NameKind)=>match x with|(n,k)=>if (k == NameKind.free && env.scope.kind == ScopeKind.function && env.kindOf n == some NameKind.cell) then (n,NameKind.cell) else (n,k)).lookup y=some .cell ∨
  (names.map fun (x:Str × NameKind)=>match x with|(n,k)=>if (k == NameKind.free && env.scope.kind == ScopeKind.function && env.kindOf n == some NameKind.cell) then (n,NameKind.cell) else (n,k)).lookup y=some .free)→(y,NameKind.free)∈names
 |[],_,h=>by simp at h
 |(n,k')::r,hc,h=>by
  rw [bAN] at h;by_cases e:(y == n)=true
  ·have ey:y=n:=by simpa using e
   subst ey;have hk:k'=.free:=by
    by_cases q:((k' == NameKind.free) && env.scope.kind == ScopeKind.function && env.kindOf y == some NameKind.cell)=true
    ·rw [bAP,bAP] at q;simpa using q.1.1
    ·have q':=Bool.eq_false_iff.mpr q;simp only [q',bA6,if_false,bCK,e] at h;rcases h with h|h
     ·cases h;exact absurd rfl (hc (y,.cell) t6)
     ·cases h;rfl
   subst hk;exact t6
  ·have e':(y == n)=false:=by simpa using e
   have key:∀z:Str × NameKind,z.1=n→(List.lookup y (z::(r.map fun (x:Str × NameKind)=>match x with|(n,k)=>if (k == NameKind.free && env.scope.kind == ScopeKind.function && env.kindOf n == some NameKind.cell) then (n,NameKind.cell) else (n,k)))) =
     List.lookup y (r.map fun (x:Str × NameKind)=>match x with|(n,k)=>if (k == NameKind.free && env.scope.kind == ScopeKind.function && env.kindOf n == some NameKind.cell) then (n,NameKind.cell) else (n,k)):=fun z hz=>by
    obtain ⟨z1,z2⟩:=z;cases hz;rw [bCK,e']
   have kz:(match ((n,k'):Str × NameKind) with|(n,k)=>if (k == NameKind.free && env.scope.kind == ScopeKind.function && env.kindOf n == some NameKind.cell) then (n,NameKind.cell) else (n,k)).1=n:=by
    dsimp only
    split <;> rfl
   rw [key _ kz] at h;exact m8 _ (uY (fun z hz=>hc z (m8 _ hz)) h)
section
variable {prog:Program} {w:World} {A:Around} {E:bEM} {R:Result→Shared→Prop} {s:Shared}
theorem aDn {elt target iter:Expr} {ifs:List Expr} {scope:Scope} {pos:Pos} {it acc:Value} {env:Env} (I:Nat→Shared→Prop)
  (turn:∀n s,I n s→wpAny (model prog w) A (pyNext it) (fun r s₁=>match r with
   |none=>R (.ok .next) s₁
   |some v=>wpAny (model prog w) A (letOwnedTupleGo target it v) (fun _ s'=>wpAny (model prog w) A (assign target env v) (fun _ s₂=>
     wpAny (model prog w) A (forIn ifs true fun c r=>if r=true then do let ok ←isTrue c env (eval c env);pure (ForInStep.yield ok) else pure (ForInStep.yield r)) (fun ok s₃=>
      if ok=true then wpAny (model prog w) A (eval elt env) (fun x s₄=>
       wpAny (model prog w) A (call (.builtin "list.append") [acc,x]) (fun _ s₅=>∃m,m<n∧I m s₅) (notedBy (model prog w) A env fun e s'=>R (.error e) s') s₄) (notedBy (model prog w) A env fun e s'=>R (.error e) s') s₃
      else ∃m,m<n∧I m s₃) (notedBy (model prog w) A env fun e s'=>R (.error e) s') s₂) (notedBy (model prog w) A env fun e s'=>R (.error e) s') s') (notedBy (model prog w) A env fun e s'=>R (.error e) s') s₁)
   (notedBy (model prog w) A env fun e s'=>R (.error e) s') s)
  (n:Nat) (h:I n s):codeAny (model prog w) A (.compLoop (.ListComp elt [⟨target,iter,ifs,0⟩] scope pos) 0 it acc env) R s:=by
 refine codeAny_loop rfl I (fun n s hI=>?_) n h;show wpAny _ A ((compTurn (.ListComp elt [⟨target,iter,ifs,0⟩] scope pos) 0 it acc env).onRaise (fun x=>do noteFrame x env;theTreesLotGoes x)) _ _ s;refine wpAny_noted ?_;rw [compTurn_list];refine c7 (bDD (c7 (bA4 (turn n s hI) (fun r s₁ h₁=>?_) fun _ _ h'=>h')));cases r with
 |none=>exact j4 h₁
 |some v=>
  refine c7 (bA4 h₁ (fun _ s' h₁'=>c7 (bA4 h₁' (fun _ s₂ h₂=>c7 (bA4 h₂ (fun ok s₃ h₃=>?_) fun _ _ h'=>h')) fun _ _ h'=>h')) fun _ _ h'=>h');cases ok with
  |false=>exact j4 ⟨rfl,h₃⟩
  |true=>exact c7 (c7 (bA4 h₃ (fun x s₄ h₄=>c7 (bA4 h₄ (fun _ s₅ h₅=>j4 (j4 ⟨rfl,h₅⟩)) fun _ _ h'=>h')) fun _ _ h'=>h'))
end
def cxC (X:Cx) (N:List Str) (scope:Scope) (cl:List (Str × Addr)) (s:Shared) (H:Hp) (fp:List Addr):Cx:=
 { X with N:=N,s₀:=s,H₀:=H,env:=compEnvC scope cl s.heap.objs.size X.env,outer:=X.stack,stack:=X.stack,ex:=fp,fn:=fun _=>false,pn:=[],xe:=fun _ _=>False }
def aQd (X:Cx) (ifs:List Expr) (tt:TT):Prop:=
 ∀(bEP:bEN) (s:Shared) (σ:St) (H:Hp) (Q:Bool→Hp→Prop),Inv X bEP σ H s→tt σ H Q →
  wpAny (model X.prog X.w) X.A (forIn ifs true fun c r=>if r=true then do let ok ←isTrue c X.env (eval c X.env);pure (ForInStep.yield ok) else pure (ForInStep.yield r)) (TP X bEP σ Q) X.xe s
def nG:TT:=fun _ H Q=>Q true H
theorem aXu {X:Cx}:aQd X [] nG:=fun _ _ _ H _ I h=>wpAny_tests_nil ⟨H,I,h⟩
theorem aXt {X:Cx} {c:Expr} {tc:TT} (h:PT X c tc):aQd X [c] tc:=fun bEP s σ H Q I q=>wpAny_tests_one (h bEP s σ H Q I q)
structure aAg (scope:Scope) (N:List Str):Prop where
 cell:∀y∈scope.names,y.2≠.cell
 kind:scope.kind=.function
 names:∀y∈scope.names,y.2=.local→scope.names.lookup y.1=some .local
 free:∀y∈scope.names,y.2=.free→scope.names.lookup y.1=some .free
def Cap (X:Cx) (scope:Scope) (N:List Str) (σ σ':St):Prop:=
 σ'.length=N.length∧∀(i:Nat) (y:Str) (v:V),N[i]?=some y→σ'[i]?=some (some v)→(y,NameKind.free)∈scope.names∧∃j:Nat,X.N[j]?=some y∧σ[j]?=some (some v)∧Vis X.env.scope y
theorem aH6 {X:Cx} {bEP:bEN} {σ σ':St} {H:Hp} {s:Shared} {scope:Scope} {N:List Str} {cl:List (Str × Addr)} {fp:List Addr} {h1:Heap} {tk:Nat} {m1:bEO}
  (I:Inv X bEP σ H s) (C:aAg scope N) (hfr:∀y,(y,NameKind.free)∈scope.names→X.env.kindOf y=some .cell∨X.env.kindOf y=some .free)
  (p1:∀p∈cl,X.env.cells.lookup p.1=some p.2∧(p.1,NameKind.free)∈scope.names) (p2:∀y,(y,NameKind.free)∈scope.names→∃c,(y,c)∈cl)
  (cap:Cap X scope N σ σ') (hf:∀b∈fp,sH X bEP H b) (hfl:∀b∈fp,b<s.heap.objs.size)
  (hn:h1.Ns s.heap.objs.size m1) (hk:∀b o,s.heap.get? b=some o→h1.get? b=some o) :
  Inv (cxC X N scope cl s H fp) [] σ' H { s with heap:=h1,toks:=tk }:=by
 have ok:=I.ok;have lk:∀y c,cl.lookup y=some c→X.env.cells.lookup y=some c:=fun y c e=>(p1 _ (PySem.mem_of_lookup e)).1;have lk2:∀y,(y,NameKind.free)∈scope.names→∃c,cl.lookup y=some c∧X.env.cells.lookup y=some c:=fun y hy=>by obtain ⟨c,hc⟩:=p2 y hy;obtain ⟨c',e⟩:=lookup_mem hc;exact ⟨c',e,lk y c' e⟩
 have fsub:∀b∈fp,b∉frs X.stack:=fun b hb z=>by
  obtain ⟨f0,f1,f2,_⟩:=hf b hb;rcases List.mem_cons.mp (I.aFx b z) with e|e
  ·exact f1 e
  ·exact f2 e
 have ok':(cxC X N scope cl s H fp).Ok:=by
  refine ⟨ok.mod,C.kind,ok.glob,ok.blt,j6 _,fun x y c h1 h2=>ok.inj x y c (lk x c h1) (lk y c h2),fun y hy=>?_,fun y c h _=>?_,ok.hd,ok.frames,.inl rfl,fun b hb=>?_,I.bs,bAR ok.bsz I.sz,
   fun b o e hb=>?_,fsub,I.stack,I.rJ⟩
  ·obtain ⟨c,e,_⟩:=lk2 y (uY (env:=X.env) C.cell hy);exact ⟨c,e⟩
  ·exact absurd (show false=true from h) v4
  ·obtain ⟨f0,f1,f2,f3,f4,f5⟩:=hf b hb;exact ⟨m9 (hfl b hb),fun x c e=>f4 x c (lk x c e)⟩
  ·obtain ⟨f0,f1,f2,f3,f4,f5⟩:=hf b hb;rcases f3 with z|z
   ·exact ok.noex b o e z
   ·exact absurd (bAA (j8 e) (bAR ok.bsz z)) (bBI _)
 refine ⟨ok',rfl,I.bare,Un.kept hk,⟨m1,hn,fun i y v e1 e2 e3=>?_⟩,fun y c e=>?_,I.hok.fresh (j6 _),fun y c e=>I.freeC y c (lk y c e),fun p hp=>absurd (show p∈([]:bEN) from hp) (by simp),I.hok.kept hk,cap.1⟩
 ·obtain ⟨hy,j,e4,e5,e6⟩:=cap.2 i y v e1 e2;obtain ⟨m,_,hl⟩:=I.loc;obtain ⟨u,r,l⟩:=hl j y v e4 e5 e6;refine ⟨u,r,.inr ?_⟩;rcases l with ⟨k,_⟩|⟨k,c,e,z⟩
  ·rcases hfr y hy with q|q <;> (rw [k] at q;cases q)
  ·obtain ⟨c',e',e''⟩:=lk2 y hy;rw [e] at e'';cases e'';have rl:=vV (env:=X.env) (k:=.free) (C.free (y,.free) hy rfl);refine ⟨rl,c,e',?_⟩;obtain ⟨o,ho,hd⟩:=z;exact ⟨o,hk _ _ ho,hd⟩
 ·obtain ⟨v,o,ho,hd⟩:=I.cell y c (lk y c e);exact ⟨v,o,hk _ _ ho,hd⟩
def jW (X:Cx) (scope:Scope) (N:List Str) (wi:TI) (g:TG) (tt:TT) (te:TE):TE:=fun σ H Q=>∃σ0,Cap X scope N σ σ0∧wi σ H fun J H1=>∀D,H1 D=none→∃W:Nat→Nat→St→Hp→List V→Prop,(∃m,W 0 m σ0 (upd H1 D (.lst [])) []) ∧
 ∀i m σ' H' ys,W i m σ' H' ys→H' D=some (.lst ys)∧((J.stop i H'∧Q (.ref D) H')∨(J.go i H'∧∀x H2,J.yld i H' x H2→g x σ' H2 fun σ3 H3=>tt σ3 H3 fun b H4=>
  if b=true then te σ3 H4 fun y H5=>H5 D=some (.lst ys)∧ys.length<sizeLine∧∃m',m'<m∧W (i+1) m' σ3 (upd H5 D (.lst (ys++[y]))) (ys++[y]) else H4 D=some (.lst ys)∧∃m',m'<m∧W (i+1) m' σ3 H4 ys))
theorem aTu {X:Cx} {elt target iter:Expr} {ifs:List Expr} {scope:Scope} {pos:Pos} {N:List Str} {wi:TI} {g:TG} {tt:TT} {te:TE}
  (C:aAg scope N) (hfr:∀y,(y,NameKind.free)∈scope.names→X.env.kindOf y=some .cell∨X.env.kindOf y=some .free) (hc:X.calm=true)
  (hi:PI X target iter wi)
  (hb:∀cl s H fp,PG (cxC X N scope cl s H fp) target g∧aQd (cxC X N scope cl s H fp) ifs tt∧PE (cxC X N scope cl s H fp) elt te)
  (hs:∀x,foldedSetIterable iter X.env x=pure x:=by intro _;rfl) :
  PE X (.ListComp elt [⟨target,iter,ifs,0⟩] scope pos) (jW X scope N wi g tt te):=by
 intro bEP s σ H Q I hq;obtain ⟨σ0,cap,hq⟩:=hq;obtain ⟨cl,hcl,p1,p2⟩:=aAy (scope:=scope) (env:=X.env) (fun y hy hk=>by obtain ⟨n,k⟩:=y;cases hk;exact I.ok.has n (hfr n hy))
 rw [eval_ListComp];refine wpAny_comprehension_free (use:=none) rfl hs hcl C.kind C.names (thn (hi bEP s σ H _ I hq) fun xv s1 h1=>thn h1 fun itv s2 h2=>?_);obtain ⟨it,fp,tn,J,H2,rfl,I2,T,st2,f2,q2⟩:=h2;refine bAJ (bD1 C.cell (by intro y hy;simp at hy) (fun h₁ hns₁ hsb₁=>?_) C.kind);dsimp only at hns₁ hsb₁ ⊢;have hD:H2 s2.heap.objs.size=none:=I2.hok.fresh (j6 _);have I3:Inv X bEP σ (upd H2 s2.heap.objs.size (.lst [])) { s2 with heap:=s2.heap.push { cls:=.type "list",dict:=none,data:=.seq ([]:List Value).toArray } }:=
  I2.laid (t':=s2.toks) (fun b u e=>d9 _ e) (j6 _) ⟨bAL _,[],0,.nil,j5 _ rfl⟩
 generalize hs3:({ s2 with heap:=s2.heap.push { cls:=.type "list",dict:=none,data:=.seq ([]:List Value).toArray } }:Shared)=s3 at I3;have hh3:s2.heap.push { cls:=.type "list",dict:=none,data:=.seq ([]:List Value).toArray }=s3.heap:=by rw [←hs3]
 rw [hh3] at hns₁ hsb₁;have fl2:∀b∈fp,b<s2.heap.objs.size:=fun b hb=>by obtain ⟨o,e,_⟩:=T.obj _ _ st2 b hb;exact j8 e
 have fl3:∀b∈fp,b<s3.heap.objs.size:=fun b hb=>by rw [←hh3,bAT];exact bBB (fl2 b hb)
 have f3:∀b∈fp,sH X bEP (upd H2 s2.heap.objs.size (.lst [])) b:=fun b hb=>by obtain ⟨f0,fr⟩:=f2 b hb;exact ⟨by rw [aK (m9 (fl2 b hb))];exact f0,fr⟩
 have keep3:∀b o,s3.heap.get? b=some o→h₁.get? b=some o:=fun b o e=>hsb₁.extBut b o (m9 (j8 e)) (d9 _ e);have I4:=aH6 (tk:=s3.toks) I3 C hfr p1 p2 cap f3 fl3 hns₁ keep3;have st4:tn 0 h₁:=T.keep _ _ _ st2 fun b hb o e=>keep3 b o (by rw [←hh3];exact d9 _ e);obtain ⟨W,⟨m0,w0⟩,turn⟩:=q2 s2.heap.objs.size hD;have fpc:∀{H':Hp},(∀b∈fp,H' b=none)→∀b∈fp,sH (cxC X N scope cl s3 (upd H2 s2.heap.objs.size (.lst [])) fp) [] H' b:=fun {H'} hn b hb=>by obtain ⟨e1,e2⟩:=I4.ok.exf b hb;exact ⟨hn b hb,e1,I4.ok.exfs b hb,.inl hb,e2,fun p hp=>absurd (show p∈([]:bEN) from hp) (by simp)⟩
 have loop:∀s4:Shared,s4={ s3 with heap:=h₁,toks:=s3.toks } →
   codeAny (model X.prog X.w) X.A (.compLoop (.ListComp elt [⟨target,iter,ifs,0⟩] scope pos) 0 (.ref it) (.ref s2.heap.objs.size) (compEnvC scope cl s3.heap.objs.size X.env))
    (compPost (model X.prog X.w) X.A X.xe none (EP X bEP σ Q) (.ref s2.heap.objs.size) s3.heap.objs.size) s4:=by
  rintro s4 rfl;refine aDn (fun n s'=>∃i σ' H' ys,Inv (cxC X N scope cl s3 (upd H2 s2.heap.objs.size (.lst [])) fp) [] σ' H' s'∧tn i s'.heap∧(∀b∈fp,H' b=none)∧W i n σ' H' ys) ?_ m0 ⟨0,σ0,_,[],I4,st4,fun b hb=>(f3 b hb).1,w0⟩;rintro n s5 ⟨i,σ5,H5,ys,I5,st5,fr5,w5⟩;obtain ⟨hacc,w5⟩:=turn i n σ5 H5 ys w5;have noE:∀{α:Type} {t:Sem α} {Q':α→Shared→Prop} {E':bEM} {s':Shared},wpAny (model X.prog X.w) X.A t Q' (fun _ _=>False) s'→wpAny (model X.prog X.w) X.A t Q' E' s':=fun h=>bA4 h (fun _ _ q=>q) fun _ _ z=>z.elim;rcases w5 with ⟨stop,qn⟩|⟨go,step⟩
  ·refine noE (thn (T.done (cxC X N scope cl s3 (upd H2 s2.heap.objs.size (.lst [])) fp) rfl rfl rfl hc i [] s5 σ5 H5 _ I5 (fpc fr5) st5 stop) fun r s6 ⟨hr,I6⟩=>?_);subst hr;obtain ⟨m6,hn6,_⟩:=I6.loc;refine ⟨m6,hn6,fun h' sb=>?_⟩;have kp:∀b o,b≠s3.heap.objs.size→s6.heap.get? b=some o→h'.get? b=some o:=fun b o hb e=>sb.extBut b o hb e;have ne3:∀b o,s3.heap.get? b=some o→b≠s3.heap.objs.size:=fun b o e=>m9 (j8 e);have un:Un (frs X.stack) fp (upd H2 s2.heap.objs.size (.lst [])) H5 s3.heap h':=by
    have u:=I6.base;exact ⟨fun b o e n hb hx=>kp b o (ne3 b o e) (u.keep b o e n hb hx),fun b o e n hb hx=>by
     obtain ⟨sl,e1⟩:=u.slot b o e n hb hx;exact ⟨sl,kp b _ (ne3 b o e) e1⟩,u.free,fun b o e hx=>by
     obtain ⟨o',e1⟩:=u.there b o e hx;exact ⟨o',kp b _ (ne3 b o e) e1⟩,u.tups,u.frzs,u.tbls⟩
   have hok:HOk X.prog X.w H5 h':=fun b u e=>by
    refine (I6.hok b u e).stay (fun c v hc' q=>kp c v ?_ q) (fun _ q=>q) fun _ _ q=>q;have hfree:H5 s3.heap.objs.size=none:=I6.free;rintro rfl;rcases hc' with z|z
    ·rw [z] at hfree;rw [hfree] at e;cases e
    ·rw [hfree] at z;cases z
   have I7:Inv X bEP σ H5 { s6 with heap:=h' }:=by refine I3.call' (s':={ s6 with heap:=h' }) I6.os un hok I6.bare fun b hb=>?_;obtain ⟨f0,f1,f2',f3',f4,f5⟩:=f3 b hb;exact ⟨f3',f1,f4,f5⟩
   exact ⟨.ref s2.heap.objs.size,H5,I7,rfl,qn⟩
  ·refine noE (thn (T.item (cxC X N scope cl s3 (upd H2 s2.heap.objs.size (.lst [])) fp) rfl rfl rfl hc i [] s5 σ5 H5 (fun _ _=>False) I5 (fpc fr5) st5 go) fun r s6 ⟨u,hr,h6⟩=>?_);subst hr;refine noE (thn h6 fun _ s7 ⟨x,H7,I7,r7,y7,st7,fr7⟩=>?_);obtain ⟨hg,ht,he⟩:=hb cl s3 (upd H2 s2.heap.objs.size (.lst [])) fp;have I7':=I7.pinned (fpc fr7) (T.obj _ _ st7);have back:∀{σ8:St} {H8:Hp} {s8:Shared},Inv (cxC X N scope cl s3 (upd H2 s2.heap.objs.size (.lst [])) fp) ([]++wD fp s7.heap) σ8 H8 s8→tn (i+1) s8.heap∧∀b∈fp,H8 b=none:=fun {σ8 H8 s8} I8=>
    ⟨T.keep _ _ _ st7 fun b hb o e=>(I8.pin (b,o) (bAF _ (bAF _ (jG hb e)))).1,fun b hb=>by obtain ⟨o,e,d⟩:=T.obj _ _ st7 b hb;exact (I8.pin (b,o) (bAF _ (bAF _ (jG hb e)))).2.1⟩
   refine noE (thn (hg _ s7 σ5 H7 x u _ I7' r7 (step x H7 y7)) fun _ s8 ⟨σ8,H8,I8,q8⟩=>?_);refine noE (thn (ht _ s8 σ8 H8 _ I8 q8) fun b s9 ⟨H9,I9,q9⟩=>?_);cases b with
   |false=>rw [if_neg v4] at q9 ⊢;obtain ⟨_,m',hm,w9⟩:=q9;exact ⟨m',hm,i+1,σ8,H9,ys,I9.lQ,(back I9).1,(back I9).2,w9⟩
   |true=>rw [if_pos rfl] at q9 ⊢;refine noE (thn (he _ s9 σ8 H9 _ I9 q9) fun yv s10 ⟨y,H10,I10,r10,hacc10,hlen,m',hm,w10⟩=>?_);refine noE (thn (wN _ s10 σ8 H10 (.ref s2.heap.objs.size) [y] (.ref s2.heap.objs.size) [yv] (fun _ H11=>H11=upd H10 s2.heap.objs.size (.lst (ys++[y]))) I10 rfl (.cons r10 .nil) ⟨_,_,_,rfl,rfl,hacc10,hlen,rfl⟩) fun _ s11 ⟨z,H11,I11,_,e11⟩=>?_);subst e11;exact ⟨m',hm,i+1,σ8,_,ys++[y],I11.lQ,(back I11).1,(back I11).2,w10⟩
 have fin:=codeAny_compStart_list (loop { s3 with heap:=h₁,toks:=s3.toks } rfl) (T.self _ _ _ _ _ st4 (loop { s3 with heap:=h₁,toks:=s3.toks } rfl));subst hs3;exact fin
end L2
namespace PySem
open Sem (wp)
namespace IfF
theorem aR5:typeLookup (.type "function") "__class__"=pure (some (.builtin "object.__class__")):=by rw [typeLookup_type,builtinLookup_eq_fast];kernel_rfl
theorem zA:Slot "function" "__getattribute__" "object.__getattribute__":=
 .of (owner:="object") (n:="__getattribute__") (by rw [typeLookup_type,builtinLookup_eq_fast];kernel_rfl) (by decide +kernel) (by decide +kernel) (by decide +kernel)
  (by first|exact .inl (by decide +kernel)|exact .inr (by decide +kernel)) (by rw [isSubtype_type];kernel_rfl)
theorem aSt:entryFor table "object.__getattribute__"=some Builtin.«object.__getattribute__»:=entryFor_of_tree (by kernel_rfl)
theorem yN:isSubtype (.type "function") (.type (".".intercalate ("object.__class__".cutAt '.').dropLast))=pure true:=by rw [F.owner_object_class,isSubtype_type];kernel_rfl
theorem sub_int:isSubtype (.type "function") (.type "int")=pure false:=by rw [isSubtype_type];kernel_rfl
theorem sub_bool:isSubtype (.type "function") (.type "bool")=pure false:=by rw [isSubtype_type];kernel_rfl
theorem aU1:isSubtype (.type "function") (.type "str")=pure false:=by rw [isSubtype_type];kernel_rfl
end IfF
section
variable {prog:Program} {w:World} {A:Around} {E:bEM} {h:Heap} {g:Array GenState} {d:Drawn} {t:Nat} {os:OsState} {a:Addr} {o:Obj}
theorem aF1 {R:Result→Shared→Prop} (hx:h.get? a=some o) (hc:o.cls=.type "function") (hq:R (.ok (.ret (.type "function"))) ⟨h,g,d,t,os⟩) :
  codeAny (model prog w) A (.call (.builtin "getset_descriptor.__get__") ⟨[.builtin "object.__class__",.ref a,.type "function"],[]⟩) R ⟨h,g,d,t,os⟩:=by
 have hT:(⟨h,g,d,t,os⟩:Shared).TypeIs (.ref a) "function":=⟨_,hx,hc⟩;have hT5:(⟨h,g,d,t,os⟩:Shared).TypeIs (.builtin "object.__class__") "getset_descriptor":=F.typeOf_object_class;have f8:=IfF.yN;refine bCB F.slot_gs_get.plain F.entry_gs_get (F.slot_gs_get.check _ _ _ _ _ _ _ _ hT5 (F.args_gs_get _ _ _) ?_)
 repeat (any_goals (first|assumption|wp_step))
 refine ⟨Code.quiet_builtin _ (by decide +kernel),bBG F.entry_object_class ?_⟩
 repeat (any_goals (first|assumption|wp_step))
theorem aA4 {tk:Tok} {Q:Fin→Shared→Prop} (hx:h.get? a=some o) (hc:o.cls=.type "function") (hq:Q (.done (.ret (.type "function"))) ⟨h,g,d,t,os⟩) :
  wpAny (model prog w) A (Builtin.«object.__getattribute__» ⟨[.ref a,.str "__class__" tk],[]⟩) Q E ⟨h,g,d,t,os⟩:=by
 have hT:(⟨h,g,d,t,os⟩:Shared).TypeIs (.ref a) "function":=⟨_,hx,hc⟩;have hT5:(⟨h,g,d,t,os⟩:Shared).TypeIs (.builtin "object.__class__") "getset_descriptor":=F.typeOf_object_class;have f4:=IfF.aR5;have f5:=F.typeOf_object_class;have f6:=F.slot_gs_get.lookup;have f7:=F.slot_gs_set.lookup
 repeat (any_goals (first|assumption|wp_step))
 refine aF1 hx hc ?_
 repeat (any_goals (first|assumption|wp_step))
theorem aGt {tk:Tok} {Q:bEM} (hx:h.get? a=some o) (hc:o.cls=.type "function") (hq:Q (.type "function") ⟨h,g,d,t,os⟩):wpAny (model prog w) A (getAttrBy (.ref a) (.str "__class__" tk) false) Q E ⟨h,g,d,t,os⟩:=by
 have hT:(⟨h,g,d,t,os⟩:Shared).TypeIs (.ref a) "function":=⟨_,hx,hc⟩;have f2:=IfF.zA.lookup;have f3:=IfF.zA.bind (.ref a)
 repeat (any_goals (first|assumption|wp_step))
 refine bCB IfF.zA.plain IfF.aSt (IfF.zA.check _ _ _ _ _ _ _ _ hT (F.args_object_getattribute_2 _ _) (aA4 hx hc ?_))
 repeat (any_goals (first|assumption|wp_step))
theorem aB0 {Q:Option Value→Shared→Prop} (hx:h.get? a=some o) (hc:o.cls=.type "function") (hq:Q (some (.type "function")) ⟨h,g,d,t+1,os⟩):wpAny (model prog w) A (getAttr? (.ref a) "__class__") Q E ⟨h,g,d,t,os⟩:=by
 unfold getAttr? getAttrBy?
 repeat (any_goals (first|assumption|with_reducible apply aGt hx hc|wp_step))
theorem aCa {T:String} {dep:Int} {tk:Tok} {Q:Fin→Shared→Prop} (hx:h.get? a=some o) (hc:o.cls=.type "function") (hne:(Value.type "function" == Value.type T)=false) (hty:typeOf (.type T)=pure (.type "type"))
  (hsub:isSubtype (.type "function") (.type T)=pure false) (hq:Q (.done (.ret (.bool false))) ⟨h,g,d,t+1,os⟩) :
  wpAny (model prog w) A (Builtin.«isinstance.nested» ⟨[.ref a,.type T,.int dep tk],[]⟩) Q E ⟨h,g,d,t,os⟩:=by
 have hT:(⟨h,g,d,t,os⟩:Shared).TypeIs (.ref a) "function":=⟨_,hx,hc⟩
 repeat (any_goals (first|assumption|with_reducible apply aB0 hx hc|wp_step))
end
theorem pD {a:Addr} {T:String} (hne:(Value.type "function" == Value.type T)=false) (hty:typeOf (.type T)=pure (.type "type")) (hsub:isSubtype (.type "function") (.type T)=pure false) :
  Meets (Builtin.«isinstance» ⟨[.ref a,.type T],[]⟩) (fun _ R s=>(∃o,s.heap.get? a=some o∧o.cls=.type "function")∧R (.ok (.ret (.bool false))) { s with toks:=s.toks+1 }):=
 fun _ _ _ _ s hs=>by obtain ⟨h,g,d,t,os⟩:=s;obtain ⟨⟨o,hx,hc⟩,hq⟩:=hs;exact isinstance_outer (aCa hx hc hne hty hsub hq)
section
variable {prog:Program} {w:World} {A:Around} {E:bEM} {s:Shared} {Q:bEM} {a:Addr} {o:Obj}
theorem aK7 (hx:s.heap.get? a=some o) (hc:o.cls=.type "function") (h:Q (.bool false) { s with toks:=s.toks+1 }):wpAny (model prog w) A (call (.builtin "isinstance") [.ref a,.type "int"]) Q E s:=
 call_isinstance (pD (by decide) F.isi_meta_int IfF.sub_int) ⟨⟨o,hx,hc⟩,h⟩
theorem aIy (hx:s.heap.get? a=some o) (hc:o.cls=.type "function") (h:Q (.bool false) { s with toks:=s.toks+1 }):wpAny (model prog w) A (call (.builtin "isinstance") [.ref a,.type "bool"]) Q E s:=
 call_isinstance (pD (by decide) F.isi_meta_bool IfF.sub_bool) ⟨⟨o,hx,hc⟩,h⟩
theorem aJ2 (hx:s.heap.get? a=some o) (hc:o.cls=.type "function") (h:Q (.bool false) { s with toks:=s.toks+1 }):wpAny (model prog w) A (call (.builtin "isinstance") [.ref a,.type "str"]) Q E s:=
 call_isinstance (pD (by decide) F.isi_meta_str IfF.aU1) ⟨⟨o,hx,hc⟩,h⟩
end
end PySem
namespace L2
open PySem PySem.Spec PyProof.Rows
section
variable {X:Cx}
theorem PE.imp {e:Expr} {t t':TE} (h:PE X e t) (k:∀σ H Q,t' σ H Q→t σ H Q):PE X e t':=fun bEP s σ H Q I q=>h bEP s σ H Q I (k σ H Q q)
def bAq (K:bEL):List V→Hp→VK→Prop:=fun xs H Q=>∃(p:Addr) (bs:List Bool),xs=[.ref p]∧SqL K H p (bs.map V.bl)∧Q (.bl (bs.all id)) H
theorem all_range (bs:List Bool):(List.range bs.length).all (fun i=>bs.getD i false)=bs.all id:=by
 rw [bCD,bB7,bB7];constructor
 ·intro h b hb;obtain ⟨i,hi,e⟩:=List.mem_iff_getElem.mp hb;have:=h i (List.mem_range.mpr hi);rw [j7,j0 hi] at this;rw [←e];exact this
 ·intro h i hi;have hi:=List.mem_range.mp hi;rw [j7,j0 hi];exact h _ (bA9 hi)
theorem lU (hc:X.calm=true):cJ X (.builtin "all") (bAq X.K):=by
 intro bEP s σ H xs us Q I r h;obtain ⟨p,bs,rfl,hq,q⟩:=h;obtain ⟨u,rfl,rx⟩:=r.one;cases rx;obtain ⟨its,rv,pl,hz⟩:=I.list hq;have hl:=rv.length;rw [m7] at hl;have hne:p≠s.heap.objs.size:=by obtain ⟨o,ho,_⟩:=pl.isList;exact m9 (j8 ho)
 refine call_all_walk (bBW pl.isList ?_);refine ⟨s.heap.objs.size,_,_,_,_,_,fun i=>bs.getD i false,rfl,Walks.list (show X.A.in1.handled=none from I.ok.hd hc) _ p hne its.toArray,⟨⟨_,j5 _ rfl,rfl,rfl⟩,?_⟩,?_,fun h' tk kp=>?_⟩
 ·exact pl.isList.at fun o e=>d9 _ e
 ·intro i v s' Q' E' hv hq';have hv':its[i]?=some v:=by simpa using hv
  have hi:i<bs.length:=by rw [hl];exact (List.getElem?_eq_some_iff.mp hv').1
  obtain ⟨u,hu,ru⟩:=rv.get (i:=i) (x:=.bl bs[i]) (by rw [t8,j0 hi];rfl);rw [hv'] at hu;cases hu;cases ru;have e:bs.getD i false=bs[i]:=by rw [j7,j0 hi];rfl
  replace hq':Q' (bs.getD i false) s':=hq';rw [e] at hq';exact bBA hq'
 ·have e:(List.range its.toArray.size).all (fun i=>bs.getD i false)=bs.all id:=by rw [j9,←hl];exact all_range bs
  rw [e];refine ⟨.bl (bs.all id),H,?_,rfl,q⟩;exact I.kept fun b o eo=>kp b o (by
   intro z;have:b=s.heap.objs.size:=by simpa using z
   rw [this] at eo;exact absurd (j8 eo) (bBI _)) (d9 _ eo)
inductive Rk (K:bEL) (H:Hp):V→String→Prop
 |non:Rk K H .non "NoneType"
 |lst {a xs}:SqL K H a xs→Rk K H (.ref a) "list"
 |tup {a xs}:SqT K H a xs→Rk K H (.ref a) "tuple"
 |dct {a kvs}:H a=some (.dK kvs)→Rk K H (.ref a) "dict"
 |fn {a o}:K.lookup a=some o→o.cls=.type "function"→Rk K H (.ref a) "function"
def aVw (K:bEL):List V→Hp→VK→Prop:=fun xs H Q=>∃x k T,xs=[x,.ty T]∧Rk K H x k∧(T = "int"∨T = "bool"∨T = "str")∧Q (.bl false) H
theorem rK:cJ X (.builtin "isinstance") (aVw X.K):=by
 intro bEP s σ H xs us Q I r h;obtain ⟨x,k,T,rfl,hx,hT,q⟩:=h;obtain ⟨u,v,rfl,rx,rT⟩:=r.two;cases rT;have f1:EP X bEP σ Q (.bool false) { s with toks:=s.toks+1 }:=⟨.bl _,H,I.tok _,rfl,q⟩;cases hx with
 |non=>
  cases rx;rcases hT with rfl|rfl|rfl
  ·exact IsiPair.NoneType_int f1
  ·exact IsiPair.NoneType_bool f1
  ·exact IsiPair.NoneType_str f1
 |lst hq=>
  cases rx;obtain ⟨its,rv,⟨o,n,e,c,_⟩,hz⟩:=I.list hq;rcases hT with rfl|rfl|rfl
  ·exact IsiPair.list_int e c f1
  ·exact IsiPair.list_bool e c f1
  ·exact IsiPair.list_str e c f1
 |tup hq=>
  cases rx;obtain ⟨its,rv,⟨o,e,c,_⟩,hz⟩:=I.tuple hq;rcases hT with rfl|rfl|rfl
  ·exact IsiPair.tuple_int e c f1
  ·exact IsiPair.tuple_bool e c f1
  ·exact IsiPair.tuple_str e c f1
 |dct hq=>
  cases rx;obtain ⟨_,_,_,_,o,_,_,e,ex,_⟩:=I.hok _ _ hq;rcases hT with rfl|rfl|rfl
  ·exact IsiPair.dict_int e ex.1 f1
  ·exact IsiPair.dict_bool e ex.1 f1
  ·exact IsiPair.dict_str e ex.1 f1
 |fn hk hc=>
  cases rx;have e:=I.kIn _ _ hk;rcases hT with rfl|rfl|rfl
  ·exact aK7 e hc f1
  ·exact aIy e hc f1
  ·exact aJ2 e hc f1
end
theorem iC {X:Cx} {scope:Scope} (h:∀z∈scope.names,z.2≠.free):∀y,(y,NameKind.free)∈scope.names→X.env.kindOf y=some .cell∨X.env.kindOf y=some .free:=fun y hy=>absurd rfl (h _ hy)
theorem iW {X:Cx} {scope:Scope} (sc:Scope) (e:X.env.scope=sc) (h:∀z∈scope.names,z.2=.free→sc.names.lookup z.1=some .cell∨sc.names.lookup z.1=some .free) :
  ∀y,(y,NameKind.free)∈scope.names→X.env.kindOf y=some .cell∨X.env.kindOf y=some .free:=fun y hy=>by
 show X.env.scope.names.lookup y=some .cell∨X.env.scope.names.lookup y=some .free;rw [e];exact h _ hy rfl
theorem Same.aV {K:bEL} {H H':Hp} {a:Addr} {xs:List V} (e:Same H H') (h:SqT K H a xs):SqT K H' a xs:=by
 rcases h with (h|⟨o,h⟩)|h
 ·exact .inl (.inl (e _ _ h))
 ·exact .inl (.inr ⟨o,e _ _ h⟩)
 ·exact .inr h
theorem aX {H:Hp} {p:Addr} (h:H p=none) (o:HO):Same H (upd H p o):=fun b u q=>by rw [aK (aU q h)];exact q
theorem Rk.same {K:bEL} {H H':Hp} {v:V} {k:String} (e:Same H H') (h:Rk K H v k):Rk K H' v k:=by
 cases h with
 |non=>exact .non
 |lst q=>exact .lst (e.seq q)
 |tup q=>exact .tup (e.aV q)
 |dct q=>exact .dct (e _ _ q)
 |fn q c=>exact .fn q c
theorem lA {X:Cx} {scope:Scope} {x:Str} {σ:St}:Cap X scope [x] σ [none]:=⟨rfl,fun i y v _ h2=>by
 cases i with
 |zero=>cases h2
 |succ i=>cases h2⟩
section
theorem aO1 {X:Cx} {scope:Scope} {N:List Str} {wi:TI} {te:TE} {σ:St} {H:Hp} {Q:VK} (xs:List V) (f:V→V) (σ0:St) (cap:Cap X scope N σ σ0) (hsz:xs.length≤sizeLine)
  (hw:∀R:It→Hp→Prop,(∀J:It,(∀H' i x,Same H H'→xs[i]?=some x→J.go i H'∧∀y H2,J.yld i H' y H2→H2=H'∧y=x)→(∀H',Same H H'→J.stop xs.length H')→R J H)→wi σ H R)
  (he:∀x∈xs,∀H' R l,Same H H'→R (f x) H'→te ((σ0.set 0 l).set 0 (some x)) H' R) (h0:σ0[0]?=some none)
  (q:∀D,H D=none→Q (.ref D) (upd H D (.lst (xs.map f)))) :
  jW X scope N wi (cO 0) nG te σ H Q:=by
 refine ⟨σ0,cap,hw _ fun J go stop D hD=>?_⟩;have sm:∀ys:List V,Same H (upd H D (.lst ys)):=fun ys b o e=>by rw [aK (aU e hD)];exact e
 refine ⟨fun i m σ' H' ys=>i≤xs.length∧m=xs.length - i∧(∃l,σ'=σ0.set 0 l)∧H'=upd H D (.lst ys)∧ys=(xs.take i).map f,⟨xs.length,bAL _,rfl,⟨none,?_⟩,rfl,rfl⟩,?_⟩
 ·refine (bBY fun j=>?_);rw [List.getElem?_set]
  split
  ·rename_i hj;subst hj
   split
   ·exact h0
   ·rename_i hlt;exact List.getElem?_eq_none_iff.mpr (by lia)
  ·rfl
 ·rintro i m σ' H' ys ⟨hi,rfl,⟨l,rfl⟩,rfl,rfl⟩;refine ⟨aH,?_⟩;by_cases hlt:i<xs.length
  ·right;obtain ⟨g1,g2⟩:=go (upd H D (.lst ((xs.take i).map f))) i xs[i] (sm _) (j0 hlt);refine ⟨g1,fun x H2 hy=>?_⟩;obtain ⟨rfl,rfl⟩:=g2 x H2 hy;unfold cO nG;dsimp only;rw [if_pos rfl];refine he xs[i] (bA9 hlt) _ _ l (sm _) ⟨aH,?_,xs.length - (i+1),by lia,hlt,rfl,⟨some xs[i],?_⟩,?_,?_⟩
   ·rw [m7,bAE];lia
   ·rw [bBZ]
   ·rw [aMk]
   ·rw [bBC,j0 hlt,bA5];rfl
  ·left;have e:i=xs.length:=by lia
   subst e;refine ⟨stop _ (sm _),?_⟩;rw [bB8];exact q D hD
theorem aWq {z:Str} {tl:TE} {σ:St} {H:Hp} (h:∀R:VK,R (.str z) H→tl σ H R) (R:It→Hp→Prop)
  (q:∀J:It,(∀H' i x,Same H H'→((List.range z.cps.size).map fun i=>V.str (sgn z i))[i]?=some x→J.go i H'∧∀y H2,J.yld i H' y H2→H2=H'∧y=x) →
   (∀H',Same H H'→J.stop ((List.range z.cps.size).map fun i=>V.str (sgn z i)).length H')→R J H):aW6 tl σ H R:=by
 refine h _ ⟨z,rfl,q _ (fun H' i x _ e=>?_) fun H' _=>?_⟩
 ·rw [t8] at e;have hi:i<z.cps.size:=by
   cases hr:(List.range z.cps.size)[i]? with
   |none=>rw [hr] at e;cases e
   |some j=>have:=(List.getElem?_eq_some_iff.mp hr).1;rwa [bAM] at this
  rw [bB1 hi] at e;cases e;exact ⟨hi,fun y H2 hy=>hy⟩
 ·rw [m7,bAM];exact j6 _
theorem aNg {K:bEL} {a:Addr} {xs:List V} {tl:TE} {σ:St} {H:Hp} (hS:∀H',Same H H'→SqL K H' a xs) (h:∀R:VK,R (.ref a) H→tl σ H R) (R:It→Hp→Prop)
  (q:∀J:It,(∀H' i x,Same H H'→xs[i]?=some x→J.go i H'∧∀y H2,J.yld i H' y H2→H2=H'∧y=x)→(∀H',Same H H'→J.stop xs.length H')→R J H):aC2 K tl σ H R:=by
 refine h _ ⟨a,rfl,⟨xs,hS H (Same.refl H)⟩,q _ (fun H' i x s e=>⟨⟨xs,x,hS H' s,e⟩,fun y H2 hy=>?_⟩) fun H' s=>⟨xs,hS H' s,j6 _⟩⟩;obtain ⟨e1,e2⟩:=hy;have e3:=e2 xs (hS H' s);rw [e] at e3;cases e3;exact ⟨e1,rfl⟩
end
end L2
namespace PySem
abbrev rU (t:Addr) (i:Nat):Obj:={ cls:=.type "tuple_iterator",data:=.fields #[.ref t,.int (i:Int) 0] }
abbrev gQ (f0:Value) (TI TO:Addr):Obj:={ cls:=.type "zip",dict:=none,data:=.fields #[f0,.bool false,.bool false,.ref TI,.ref TO],slots:=#[] }
abbrev dO (a b:Value):Obj:={ cls:=.type "tuple",data:=.seq #[a,b] }
section
variable {prog:Program} {w:World} {A:Around} {E:bEM} {s:Shared}
theorem aA2 {it t:Addr} {i:Nat} {its:Array Value} {x:Value} {Q:bEM} (ho:s.heap.get? it=some (rU t i)) (ht:s.heap.IsTuple t its) (hx:its[i]?=some x)
  (q:∀h',h'.get? it=some (rU t (i+1))→Heap.SameBut it s.heap h'→Q x { s with heap:=h' }):wpAny (model prog w) A (Builtin.SmallTypes.nextOf (.ref it)) Q E s:=by
 have hT:s.TypeIs (.ref it) "tuple_iterator":=⟨_,ho,rfl⟩;obtain ⟨ol,hol,_,nl,hdl⟩:=ht;unfold Builtin.SmallTypes.nextOf;refine c7 (bAH (name:=Str.ofString "__next__") hT F.slot_tuple_iterator_next (bAI F.slot_tuple_iterator_next hT F.entry_tuple_iterator_next ?_ (F.args_tuple_iterator_next_1 _)));refine c7 (m:=field (.ref it) 0) (bAG ho rfl (x:=.ref t) rfl ?_);refine (if_neg (show ¬ ((Value.ref t == Value.none)=true) from v4)).symm ▸ ?_;refine c7 (m:=field (.ref it) 1) (bAG ho rfl (x:=.int i 0) rfl ?_);refine c7 (m:=seqItems? (.ref t)) (bAX hol hdl ?_);simp only [bAY,hx];refine c7 (bBQ ho rfl (by simp) (j4 ⟨x,rfl,j4 (q _ ?_ (bBJ ..))⟩));exact bAU _ ho rfl
theorem zH {it t:Addr} {i:Nat} {its:Array Value} {Q:bEM} (hh:A.handled=none) (ho:s.heap.get? it=some (rU t i)) (ht:s.heap.IsTuple t its) (hx:its[i]?=none)
  (q:∀h' e,Heap.ExtBut it s.heap h'→(∃o,h'.get? e=some o∧o.cls=.type "StopIteration")→E (.ref e) { s with heap:=h' }):wpAny (model prog w) A (Builtin.SmallTypes.nextOf (.ref it)) Q E s:=by
 have hT:s.TypeIs (.ref it) "tuple_iterator":=⟨_,ho,rfl⟩;obtain ⟨ol,hol,_,nl,hdl⟩:=ht;unfold Builtin.SmallTypes.nextOf;refine c7 (bAH (name:=Str.ofString "__next__") hT F.slot_tuple_iterator_next (bAI F.slot_tuple_iterator_next hT F.entry_tuple_iterator_next ?_ (F.args_tuple_iterator_next_1 _)));refine c7 (m:=field (.ref it) 0) (bAG ho rfl (x:=.ref t) rfl ?_);refine (if_neg (show ¬ ((Value.ref t == Value.none)=true) from v4)).symm ▸ ?_;refine c7 (m:=field (.ref it) 1) (bAG ho rfl (x:=.int i 0) rfl ?_);refine c7 (m:=seqItems? (.ref t)) (bAX hol hdl ?_);simp only [bAY,hx];refine c7 (bCM (c7 (bBQ ho rfl (by simp) ?_)));unfold Builtin.SmallTypes.stopIteration;refine c7 ?_;simp only [newExc,newTuple];refine c7 (bAJ ?_ (by size_fits));refine c7 (m:=firstArgMember _ _) (bD2 (a:=Value.none) (by first|rfl|(simp only [firstArgMember];rfl)) ?_);refine bAJ ?_ (by size_fits);simp only [raiseNew];refine c7 (bDZ ?_);first|rw [show A.in1.handled=none from hh]|rw [hh]
 refine c7 (j4 (bEG ?_));exact q _ _ (((bBJ ..).extBut.push _).push _) ⟨_,j5 _ rfl,rfl⟩
structure oK (z TI TO a b:Addr):Prop where
 h1:TI≠z
 h2:TO≠z
 h3:a≠z
 h4:b≠z
 h5:TI≠TO
 h6:TI≠a
 h7:TI≠b
 h8:TO≠a
 h9:TO≠b
 h10:a≠b
theorem vJ {T:Addr} {a b x:Value} {k:Nat} {Q:Unit→Shared→Prop} (hT:s.heap.get? T=some (dO a b))
  (q:∀h',h'.get? T=some { cls:=.type "tuple",data:=.seq ((#[a,b]:Array Value).setIfInBounds k x) }→Heap.SameBut T s.heap h'→Q () { s with heap:=h' }) :
  wpAny (model prog w) A (updateSeq T (·.setIfInBounds k x)) Q E s:=by
 refine wpAny_updateSeq hT rfl (q _ ?_ (bBJ ..));rw [bAU _ hT rfl];simp [Obj.mapSeq]
theorem aOs {z TI TO i1 i2 t u:Addr} {k:Nat} {xs ys:Array Value} {x y a b:Value} {Q:Option Value→Shared→Prop} (D:oK z TI TO i1 i2)
  (hz:s.heap.get? z=some (gQ .none TI TO)) (hTI:s.heap.get? TI=some (dO (.ref i1) (.ref i2))) (hTO:s.heap.get? TO=some (dO a b))
  (g1:s.heap.get? i1=some (rU t k)) (g2:s.heap.get? i2=some (rU u k)) (ht:s.heap.IsTuple t xs) (hu:s.heap.IsTuple u ys) (hx:xs[k]?=some x) (hy:ys[k]?=some y)
  (t1:t≠z) (t2:t≠TO) (t3:t≠i1) (t4:t≠i2) (u1:u≠z) (u2:u≠TO) (u3:u≠i1) (u4:u≠i2)
  (q:∀h',h'.get? z=some (gQ (rawInt s.heap.objs.size) TI TO)→h'.get? TO=some (dO x y)→h'.get? i1=some (rU t (k+1))→h'.get? i2=some (rU u (k+1))→h'.get? s.heap.objs.size=some (dO x y) →
   (∀c o,c≠z→c≠TO→c≠i1→c≠i2→s.heap.get? c=some o→h'.get? c=some o)→Q (some (.ref s.heap.objs.size)) { s with heap:=h' }) :
  wpAny (model prog w) A (pyNext (.ref z)) Q E s:=by
 have hT:s.TypeIs (.ref z) "zip":=⟨_,hz,rfl⟩;unfold pyNext;refine c7 (bBV (bAH (name:=Str.ofString "__next__") hT F.slot_zip_next (bAI F.slot_zip_next hT F.entry_zip_next ?_ (F.args_zip_next_1 _))));refine c7 (m:=field (.ref z) 2) (bAG hz rfl (x:=.bool false) rfl ?_);refine c7 (m:=field (.ref z) 3) (bAG hz rfl (x:=.ref TI) rfl (c7 (bAX hTI rfl ?_)));refine c7 (m:=Builtin.SmallTypes.ownedTupleIsFree (.ref z)) ?_;unfold Builtin.SmallTypes.ownedTupleIsFree;refine c7 (bAG hz rfl (x:=.none) rfl (j4 ?_));simp only [if_true];refine c7 (bCM (c7 (bAG hz rfl (x:=.ref TO) rfl (c7 (bAK hz (by simp) fun h1 z1 s1=>?_)))));replace z1:h1.get? z=some (gQ .ellipsis TI TO):=z1;refine c7 ?_;simp only [bC9,bDG,bCE,bC7];refine c7 (c7 (bCH ?_));refine c7 (m:=Builtin.SmallTypes.nextOf (.ref i1)) (aA2 (s:={ s with heap:=h1 }) (s1.extBut _ _ D.h3 g1) (ht.extBut s1.extBut t1) hx fun h2 g12 s2=>j4 ?_);have TO2:h2.get? TO=some (dO a b):=s2.extBut _ _ D.h8 (s1.extBut _ _ D.h2 hTO);refine c7 (bAX TO2 rfl (c7 (vJ (s:={ s with heap:=h2 }) TO2 fun h3 TO3 s3=>c7 (bDL (j4 ?_)))));replace TO3:h3.get? TO=some (dO x b):=TO3;refine c7 (c7 (bCH ?_));refine c7 (m:=Builtin.SmallTypes.nextOf (.ref i2)) (aA2 (s:={ s with heap:=h3 }) (s3.extBut _ _ D.h9.symm (s2.extBut _ _ D.h10.symm (s1.extBut _ _ D.h4 g2))) (((hu.extBut s1.extBut u1).extBut s2.extBut u3).extBut s3.extBut u2) hy fun h4 g24 s4=>j4 ?_);have TO4:h4.get? TO=some (dO x b):=s4.extBut _ _ D.h9 TO3;refine c7 (bAX TO4 rfl (c7 (vJ (s:={ s with heap:=h4 }) TO4 fun h5 TO5 s5=>c7 (bDL (j4 (j4 ?_))))));replace TO5:h5.get? TO=some (dO x y):=TO5;refine c7 (bAX TO5 rfl (c7 (bDP ?_)));have hsz:h5.objs.size=s.heap.objs.size:=by rw [s5.1,s4.1,s3.1,s2.1,s1.1]
 have z5:h5.get? z=some (gQ .ellipsis TI TO):=s5.extBut _ _ D.h2.symm (s4.extBut _ _ D.h4.symm (s3.extBut _ _ D.h2.symm (s2.extBut _ _ D.h3.symm z1)));have kp:∀c o,c≠z→c≠TO→c≠i1→c≠i2→s.heap.get? c=some o→h5.get? c=some o:=fun c o c1 c2 c3 c4 e=>s5.extBut _ _ c2 (s4.extBut _ _ c4 (s3.extBut _ _ c2 (s2.extBut _ _ c3 (s1.extBut _ _ c1 e))));have g15:h5.get? i1=some (rU t (k+1)):=s5.extBut _ _ D.h8.symm (s4.extBut _ _ D.h10 (s3.extBut _ _ D.h8.symm g12));have g25:h5.get? i2=some (rU u (k+1)):=s5.extBut _ _ D.h9.symm g24;refine c7 (m:=Builtin.SmallTypes.ownedTupleHandOut (.ref z) (.ref h5.objs.size)) ?_;unfold Builtin.SmallTypes.ownedTupleHandOut;have z6:(h5.push (dO x y)).get? z=some (gQ .ellipsis TI TO):=d9 _ z5;refine c7 (bAK z6 (by simp) fun h7 z7 s7=>?_);replace z7:h7.get? z=some (gQ (rawInt h5.objs.size) TI TO):=z7;refine bAK z7 (by simp) fun h8 z8 s8=>?_;replace z8:h8.get? z=some (gQ (rawInt h5.objs.size) TI TO):=z8;have up:∀c o,c≠z→h5.get? c=some o→h8.get? c=some o:=fun c o c1 e=>s8.extBut _ _ c1 (s7.extBut _ _ c1 (d9 _ e));have nz:h5.objs.size≠z:=bBL (j8 z5);have T8:h8.get? h5.objs.size=some (dO x y):=s8.extBut _ _ nz (s7.extBut _ _ nz (j5 _ rfl));rw [hsz] at z8 T8;refine j4 ⟨_,rfl,j4 ?_⟩;show Q (some (.ref h5.objs.size)) _;rw [hsz];exact q h8 z8 (up _ _ D.h2 TO5) (up _ _ D.h3 g15) (up _ _ D.h4 g25) T8 fun c o c1 c2 c3 c4 e=>up c o c1 (kp c o c1 c2 c3 c4 e)
theorem aPq {z TI TO i1 i2 t:Addr} {k:Nat} {xs:Array Value} {a b:Value} {Q:Option Value→Shared→Prop} (hh:A.handled=none) (D:oK z TI TO i1 i2)
  (hz:s.heap.get? z=some (gQ .none TI TO)) (hTI:s.heap.get? TI=some (dO (.ref i1) (.ref i2))) (hTO:s.heap.get? TO=some (dO a b))
  (g1:s.heap.get? i1=some (rU t k)) (ht:s.heap.IsTuple t xs) (hx:xs[k]?=none) (t1:t≠z)
  (q:∀h',(∀c o,c≠z→c≠TO→c≠i1→c≠i2→s.heap.get? c=some o→h'.get? c=some o)→Q none { s with heap:=h' }) :
  wpAny (model prog w) A (pyNext (.ref z)) Q E s:=by
 have hT:s.TypeIs (.ref z) "zip":=⟨_,hz,rfl⟩;unfold pyNext;refine c7 (bBV (bAH (name:=Str.ofString "__next__") hT F.slot_zip_next (bAI F.slot_zip_next hT F.entry_zip_next ?_ (F.args_zip_next_1 _))));refine c7 (m:=field (.ref z) 2) (bAG hz rfl (x:=.bool false) rfl ?_);refine c7 (m:=field (.ref z) 3) (bAG hz rfl (x:=.ref TI) rfl (c7 (bAX hTI rfl ?_)));refine c7 (m:=Builtin.SmallTypes.ownedTupleIsFree (.ref z)) ?_;unfold Builtin.SmallTypes.ownedTupleIsFree;refine c7 (bAG hz rfl (x:=.none) rfl (j4 ?_));simp only [if_true];refine c7 (bCM (c7 (bAG hz rfl (x:=.ref TO) rfl (c7 (bAK hz (by simp) fun h1 z1 s1=>?_)))));replace z1:h1.get? z=some (gQ .ellipsis TI TO):=z1;refine c7 ?_;simp only [bC9,bDG,bCE,bC7];refine c7 (c7 (bCH ?_));refine c7 (m:=Builtin.SmallTypes.nextOf (.ref i1)) (zH (s:={ s with heap:=h1 }) hh (s1.extBut _ _ D.h3 g1) (ht.extBut s1.extBut t1) hx fun h2 e s2 he=>?_);obtain ⟨oe,hoe,hce⟩:=he;have z2:h2.get? z=some (gQ .ellipsis TI TO):=s2 _ _ D.h3.symm z1;have hez:e≠z:=fun x=>by subst x;rw [z2] at hoe;cases hoe;simp at hce
 refine bAK z2 (by simp) fun h3 _ s3=>?_;refine c7 (bCL (T:="StopIteration") (b:=true) ⟨oe,s3.extBut _ _ hez hoe,hce⟩ isSubtype_stop ?_);exact j4 (q _ fun c o c1 _ c3 _ x=>s3.extBut _ _ c1 (s2 _ _ c3 (s1.extBut _ _ c1 x)))
end
end PySem
namespace PySem
section
variable {prog:Program} {w:World} {A:Around} {E:bEM} {s:Shared}
abbrev zT1 (h:Heap) (t:Addr):Heap:=h.push (rU t 0)
abbrev zT2 (h:Heap) (t u:Addr):Heap:=(zT1 h t).push (rU u 0)
abbrev zT3 (h:Heap) (t u:Addr):Heap:=(zT2 h t u).push (dO (.ref h.objs.size) (.ref (zT1 h t).objs.size))
abbrev zT4 (h:Heap) (t u:Addr):Heap:=(zT3 h t u).push (dO .none .none)
abbrev zT5 (h:Heap) (t u:Addr):Heap:=(zT4 h t u).push (gQ .none (zT2 h t u).objs.size (zT3 h t u).objs.size)
theorem aJ4 (t u:Addr) (xs ys:Array Value):Meets (Builtin.«zip.__new__» ⟨[.type "zip",.ref t,.ref u],[]⟩)
  (fun _ R s=>s.heap.IsTuple t xs∧s.heap.IsTuple u ys∧R (.ok (.ret (.ref (zT4 s.heap t u).objs.size))) { s with heap:=zT5 s.heap t u }):=
 .of_wp fun prog w A R s h=>by
  obtain ⟨hp,g,d,tk,os⟩:=s;obtain ⟨a1,a2,h⟩:=h;have hsub:=sub_zip;have b1:Heap.IsTuple (Shared.heap ⟨hp,g,d,tk,os⟩) t xs:=a1;have b2:Heap.IsTuple (Shared.heap ⟨hp.push { cls:=.type "tuple_iterator",data:=.fields #[.ref t,.int 0 0] },g,d,tk,os⟩) u ys:=by obtain ⟨o,ho,r⟩:=a2;exact ⟨o,d9 _ ho,r⟩
  wp_walk using bDI b1,bDI b2;exact ⟨_,rfl,h⟩
theorem aOk {t u:Addr} {xs ys:Array Value} {Q:bEM} (ht:s.heap.IsTuple t xs) (hu:s.heap.IsTuple u ys) (q:Q (.ref (zT4 s.heap t u).objs.size) { s with heap:=zT5 s.heap t u }) :
  wpAny (model prog w) A (call (.type "zip") [.ref t,.ref u]) Q E s:=by
 refine callType_new F.called_zip (by decide) (F.typeCall_zip_2 _ _) (F.newCall_zip_2 _ _) (fun obj=>F.args_object_init_3 obj _ _) F.entry_zip_new (aJ4 t u xs ys) ⟨ht,hu,?_⟩;exact ⟨⟨_,j5 _ rfl,rfl⟩,q⟩
end
end PySem
namespace L2
open PySem PySem.Spec PyProof.Rows
section
variable {X:Cx} {bEP:bEN} {σ:St} {H:Hp} {s:Shared}
theorem Inv.tup_ne {t b:Addr} {xs:List V} (I:Inv X bEP σ H s) (h:SqT X.K H t xs) (f:sH X bEP H b):t≠b:=by
 rintro rfl;obtain ⟨f0,f1,f2,f3,_⟩:=f;rcases h with (h|⟨o,h⟩)|⟨o,its,n,hk,_⟩
 ·rw [f0] at h;cases h
 ·rw [f0] at h;cases h
 ·have e:=I.ok.mod.kin t o hk;rcases f3 with z|z
  ·exact I.ok.noex t o e z
  ·exact absurd (bAA (j8 e) (bAR I.ok.bsz z)) (bBI _)
theorem Inv.drawn {ch:List Addr} {h':Heap} {vs:List V} {its:List Value} {T:Addr} (I:Inv X bEP σ H s) (hch:∀b∈ch,sH X bEP H b) (kp:∀b o,b∉ch→s.heap.get? b=some o→h'.get? b=some o)
  (hT:s.heap.objs.size≤T) (hv:Vals vs its) (hz:vs.length≤sizeLine) (ho:wJ h' T its.toArray) (hth:∀b∈ch,∃o,h'.get? b=some o):Inv X bEP σ (upd H T (.tup vs)) { s with heap:=h' }:=by
 have fT:H T=none:=I.hok.fresh hT;have nT:∀b o,s.heap.get? b=some o→b≠T:=fun b o e=>m9 (bAA (j8 e) hT);have nch:∀b u,H b=some u→b∉ch:=fun b u e z=>by rw [(hch b z).1] at e;cases e
 refine I.step (g':=s.gens) (d':=s.drawn) (t':=s.toks) (ch:=ch) (fun b hb=>?_) (fun b o _ _ hc e _=>kp b o hc e) (fun b o _ _ hc e _=>⟨o.slots,kp b o hc e⟩) (fun b o hc e n=>by rw [aK (nT b o e)];exact n)
  (fun b o hc e=>⟨o,kp b o hc e⟩) (fun b xs e=>by rw [aK (aU e fT)];exact e) (fun b o u e=>by rw [aK (aU e fT)];exact e) (fun b ps e=>⟨#[],by rw [aK (aU e fT),e];simp⟩) (fun m hm=>?_) (fun b u e=>?_) I.bare
 ·obtain ⟨_,f1,_,f3,f4,f5⟩:=hch b hb;exact ⟨f3,f1,f4,f5⟩
 ·obtain ⟨o,es,ep,ho',r⟩:=hm;exact ⟨o,es,ep,kp _ o (fun z=>(hch _ z).2.1 rfl) ho',r⟩
 ·by_cases hb:b=T
  ·subst hb;rw [aH] at e;cases e;exact ⟨hz,its,hv,ho⟩
  ·rw [aK hb] at e;refine (I.hok b u e).stay (fun c v hc' q=>kp c v ?_ q) (fun c q=>by rw [aK (aU q fT)];exact q) fun c xs q=>by rw [aK (aU q fT)];exact q
   rcases hc' with z|z
   ·rw [z];exact nch b u e
   ·exact nch c _ z
theorem Inv.aFa {ch:List Addr} {h':Heap} (I:Inv X bEP σ H s) (hch:∀b∈ch,sH X bEP H b) (kp:∀b o,b∉ch→s.heap.get? b=some o→h'.get? b=some o):Inv X bEP σ H { s with heap:=h' }:=by
 have nch:∀b u,H b=some u→b∉ch:=fun b u e z=>by rw [(hch b z).1] at e;cases e
 refine I.step (g':=s.gens) (d':=s.drawn) (t':=s.toks) (ch:=ch) (fun b hb=>?_) (fun b o _ _ hc e _=>kp b o hc e) (fun b o _ _ hc e _=>⟨o.slots,kp b o hc e⟩) (fun _ _ _ _ n=>n)
  (fun b o hc e=>⟨o,kp b o hc e⟩) (fun _ _ e=>e) (fun _ _ _ e=>e) (fun b ps e=>⟨#[],by rw [e];simp⟩) (fun m hm=>?_) (fun b u e=>?_) I.bare
 ·obtain ⟨_,f1,_,f3,f4,f5⟩:=hch b hb;exact ⟨f3,f1,f4,f5⟩
 ·obtain ⟨o,es,ep,ho',r⟩:=hm;exact ⟨o,es,ep,kp _ o (fun z=>(hch _ z).2.1 rfl) ho',r⟩
 ·refine (I.hok b u e).stay (fun c v hc' q=>kp c v ?_ q) (fun _ q=>q) fun _ _ q=>q;rcases hc' with z|z
  ·rw [z];exact nch b u e
  ·exact nch c _ z
end
def Itz (K:bEL) (t u:Addr) (xs ys:List V):It:=
 ⟨fun i H=>SqT K H t xs∧SqT K H u ys∧i<xs.length∧i<ys.length,fun i H v H'=>∃T a b,H T=none∧v=.ref T∧H'=upd H T (.tup [a,b])∧xs[i]?=some a∧ys[i]?=some b,fun i H=>SqT K H t xs∧xs.length≤i⟩
def ztn (z TI TO i1 i2 t u:Addr) (i:Nat) (h:Heap):Prop:=
 h.get? z=some (gQ .none TI TO)∧h.get? TI=some (dO (.ref i1) (.ref i2))∧(∃a b,h.get? TO=some (dO a b))∧h.get? i1=some (rU t i)∧h.get? i2=some (rU u i)
theorem aSw {P:Program} {w:World} {K:bEL} {elts:List Expr} {kt:Nat} {pos:Pos} {z TI TO i1 i2 t u:Addr} {xs ys:List V} (D:oK z TI TO i1 i2) :
  Turn P w K (.Tuple elts kt pos) (Itz K t u xs ys) [z,TI,TO,i1,i2] z (ztn z TI TO i1 i2 t u) where
 mem:=by simp
 obj:=fun i h st b hb=>by
  obtain ⟨e1,e2,⟨a,c,e3⟩,e4,e5⟩:=st;simp only [bAB,v6,or_false] at hb;rcases hb with rfl|rfl|rfl|rfl|rfl
  ·exact ⟨_,e1,fun v z=>by cases (show Data.fields _=Data.cell v from z)⟩
  ·exact ⟨_,e2,fun v z=>by cases (show Data.seq _ _=Data.cell v from z)⟩
  ·exact ⟨_,e3,fun v z=>by cases (show Data.seq _ _=Data.cell v from z)⟩
  ·exact ⟨_,e4,fun v z=>by cases (show Data.fields _=Data.cell v from z)⟩
  ·exact ⟨_,e5,fun v z=>by cases (show Data.fields _=Data.cell v from z)⟩
 keep:=fun i h h' st k=>by obtain ⟨e1,e2,⟨a,c,e3⟩,e4,e5⟩:=st;exact ⟨k z (by simp) _ e1,k TI (by simp) _ e2,⟨a,c,k TO (by simp) _ e3⟩,k i1 (by simp) _ e4,k i2 (by simp) _ e5⟩
 item:=by
  intro X hP hw hK hc i bEP s σ H E I hf st hg;subst hP hw hK;obtain ⟨e1,e2,⟨a0,c0,e3⟩,e4,e5⟩:=st;obtain ⟨ht,hu,l1,l2⟩:=hg;obtain ⟨its,rv,pt,hz⟩:=I.tuple ht;obtain ⟨jts,rw',pu,hz'⟩:=I.tuple hu;obtain ⟨x,hx,rx⟩:=rv.get (j0 l1);obtain ⟨y,hy,ry⟩:=rw'.get (j0 l2);have fz:=hf z (by simp);have fO:=hf TO (by simp);have f1:=hf i1 (by simp);have f2:=hf i2 (by simp);refine aOs D e1 e2 e3 e4 e5 (show s.heap.IsTuple t its.toArray from pt) (show s.heap.IsTuple u jts.toArray from pu) (by simpa using hx) (by simpa using hy) (I.tup_ne ht fz) (I.tup_ne ht fO) (I.tup_ne ht f1) (I.tup_ne ht f2)
   (I.tup_ne hu fz) (I.tup_ne hu fO) (I.tup_ne hu f1) (I.tup_ne hu f2) fun h' a1 a2 a3 a4 a5 kp=>?_
  refine ⟨_,rfl,?_⟩;have fT:H s.heap.objs.size=none:=I.hok.fresh (j6 _);have I1:Inv X bEP σ (upd H s.heap.objs.size (.tup [xs[i],ys[i]])) { s with heap:=h' }:=by
   refine I.drawn (ch:=[z,TO,i1,i2]) (its:=[x,y]) (fun b hb=>?_) (fun b o hb e=>?_) (j6 _) (.cons rx (.cons ry .nil)) (small (by simp)) (.of a5 rfl ⟨_,a5,rfl,_,rfl⟩) (fun b hb=>?_)
   ·refine hf b ?_;simp only [bAB,v6,or_false] at hb ⊢;rcases hb with h|h|h|h <;> simp [h]
   ·simp only [bAB,v6,or_false,not_or] at hb;exact kp b o hb.1 hb.2.1 hb.2.2.1 hb.2.2.2 e
   ·simp only [bAB,v6,or_false] at hb;rcases hb with rfl|rfl|rfl|rfl
    ·exact ⟨_,a1⟩
    ·exact ⟨_,a2⟩
    ·exact ⟨_,a3⟩
    ·exact ⟨_,a4⟩
  have nT:∀b∈[z,TI,TO,i1,i2],b≠s.heap.objs.size:=fun b hb=>by
   have e:∃o,s.heap.get? b=some o:=by
    simp only [bAB,v6,or_false] at hb;rcases hb with rfl|rfl|rfl|rfl|rfl
    ·exact ⟨_,e1⟩
    ·exact ⟨_,e2⟩
    ·exact ⟨_,e3⟩
    ·exact ⟨_,e4⟩
    ·exact ⟨_,e5⟩
   obtain ⟨o,e⟩:=e;exact m9 (j8 e)
  refine bEF (s:={ s with heap:=h' }) a1 fun h2 z2 s2=>?_;obtain ⟨g0,g1,g2,g3,g4,g5⟩:=fz;have I2:Inv X bEP σ (upd H s.heap.objs.size (.tup [xs[i],ys[i]])) { s with heap:=h2 }:=Inv.turned (s:={ s with heap:=h' }) I1 (t':=s.toks) (it:=z) (fun b o hb e=>(s2.2 b hb).trans e) (by rw [aK (nT z (by simp))];exact g0) g1 g3 g4 g5;refine ⟨.ref s.heap.objs.size,_,I2,rfl,⟨_,_,_,fT,rfl,rfl,j0 l1,j0 l2⟩,?_,fun b hb=>by rw [aK (nT b hb)];exact (hf b hb).1⟩;exact ⟨z2,s2.extBut _ _ D.h1 (kp TI _ D.h1 D.h5 D.h6 D.h7 e2),⟨_,_,s2.extBut _ _ D.h2 a2⟩,s2.extBut _ _ D.h3 a3,s2.extBut _ _ D.h4 a4⟩
 done:=by
  intro X hP hw hK hc i bEP s σ H E I hf st hg;subst hP hw hK;obtain ⟨e1,e2,⟨a0,c0,e3⟩,e4,e5⟩:=st;obtain ⟨ht,hl⟩:=hg;obtain ⟨its,rv,pt,hz⟩:=I.tuple ht;have hlen:=rv.length;refine aPq (I.ok.hd hc) D e1 e2 e3 e4 (show s.heap.IsTuple t its.toArray from pt) (by simp;lia) (I.tup_ne ht (hf z (by simp))) fun h' kp=>⟨rfl,?_⟩;refine Inv.aFa (ch:=[z,TO,i1,i2]) I (fun b hb=>hf b ?_) fun b o hb e=>?_
  ·simp only [bAB,v6,or_false] at hb ⊢;rcases hb with h|h|h|h <;> simp [h]
  ·simp only [bAB,v6,or_false,not_or] at hb;exact kp b o hb.1 hb.2.1 hb.2.2.1 hb.2.2.2 e
 self:=fun _ _ _ _ _ st h=>bDW st.1 h
section
variable {X:Cx}
def aRr (K:bEL) (ta:TA):TI:=fun σ H R=>ta σ H fun vs H1=>∃t u xs ys,vs=[.ref t,.ref u]∧SqT K H1 t xs∧SqT K H1 u ys∧R (Itz K t u xs ys) H1
theorem aUa {elts:List Expr} {kt:Nat} {tp:Pos} {a b:Expr} {ta:TA} {p pos:Pos} (hg:Gl X "zip") (hm:X.mg "zip"=none) (ha:PA X [a,b] ta) (hs:starEach [a,b] X.env=(false,eval a X.env)::starEach [b] X.env:=by rfl)
  (hs2:starEach [b] X.env=[(false,eval b X.env)]:=by rfl):PI X (.Tuple elts kt tp) (.Call (.Name "zip" p) [a,b] [] pos) (aRr X.K ta):=by
 intro bEP s σ H R I h;refine Call_ (oY I hg hm aQt (bBK (thn (ha pos bEP s σ H _ I h) fun us s1 ⟨vs,H1,I1,r1,q1⟩=>?_) hs (by rw [hs2];rfl)));obtain ⟨t,u,xs,ys,e,ht,hu,q⟩:=q1;subst e;obtain ⟨its,rv,pt,hz⟩:=I1.tuple ht;obtain ⟨jts,rw',pu,hz'⟩:=I1.tuple hu;cases r1 with
 |cons r rr=>
  cases rr with
  |cons r' rr'=>
   cases rr';cases r;cases r';refine aOk (show s1.heap.IsTuple t its.toArray from pt) (show s1.heap.IsTuple u jts.toArray from pu) ?_;have z1:(zT1 s1.heap t).objs.size=s1.heap.objs.size+1:=bAT ..;have z2:(zT2 s1.heap t u).objs.size=s1.heap.objs.size+2:=by rw [bAT,z1]
   have z3:(zT3 s1.heap t u).objs.size=s1.heap.objs.size+3:=by rw [bAT,z2]
   have z4:(zT4 s1.heap t u).objs.size=s1.heap.objs.size+4:=by rw [bAT,z3]
   have D:oK (zT4 s1.heap t u).objs.size (zT2 s1.heap t u).objs.size (zT3 s1.heap t u).objs.size s1.heap.objs.size (zT1 s1.heap t).objs.size:=by constructor <;> (show (_:Nat)≠(_:Nat);rw [Ne];intro h;simp only [z1,z2,z3,z4] at h;lia)
   have g5:(zT5 s1.heap t u).get? (zT4 s1.heap t u).objs.size=some (gQ .none (zT2 s1.heap t u).objs.size (zT3 s1.heap t u).objs.size):=j5 _ rfl;have g4:(zT5 s1.heap t u).get? (zT3 s1.heap t u).objs.size=some (dO .none .none):=d9 _ (j5 _ rfl);have g3:(zT5 s1.heap t u).get? (zT2 s1.heap t u).objs.size=some (dO (.ref s1.heap.objs.size) (.ref (zT1 s1.heap t).objs.size)):=d9 _ (d9 _ (j5 _ rfl));have g2:(zT5 s1.heap t u).get? (zT1 s1.heap t).objs.size=some (rU u 0):=d9 _ (d9 _ (d9 _ (j5 _ rfl)));have g1:(zT5 s1.heap t u).get? s1.heap.objs.size=some (rU t 0):=d9 _ (d9 _ (d9 _ (d9 _ (j5 _ rfl))));have I2:Inv X bEP σ H1 { s1 with heap:=zT5 s1.heap t u }:=I1.kept (t':=s1.toks) fun b o e=>d9 _ (d9 _ (d9 _ (d9 _ (d9 _ e))));refine bDW (s:={ s1 with heap:=zT5 s1.heap t u }) g5 ⟨_,_,_,_,H1,rfl,I2,aSw (xs:=xs) (ys:=ys) D,⟨g5,g3,⟨_,_,g4⟩,g1,g2⟩,fun b hb=>?_,q⟩;have hb':s1.heap.objs.size≤b:=by
    simp only [bAB,v6,or_false] at hb;rcases hb with rfl|rfl|rfl|rfl|rfl
    ·rw [z4];exact bBN ..
    ·rw [z2];exact bBN ..
    ·rw [z3];exact bBN ..
    ·exact j6 _
    ·rw [z1];exact bBN ..
   exact I1.aFh hb' (I1.hok.fresh hb')
inductive Tk (K:bEL) (H:Hp):V→Bool→Prop
 |int {i}:Tk K H (.int i) false
 |str {x}:Tk K H (.str x) false
 |bl {b}:Tk K H (.bl b) false
 |non:Tk K H .non false
 |lst {a xs}:SqL K H a xs→Tk K H (.ref a) false
 |dct {a kvs}:H a=some (.dK kvs)→Tk K H (.ref a) false
 |tup {a xs}:SqT K H a xs→Tk K H (.ref a) true
def aZi (K:bEL):List V→Hp→VK→Prop:=fun xs H Q=>∃x b,xs=[x,.ty "tuple"]∧Tk K H x b∧Q (.bl b) H
theorem jF:cJ X (.builtin "isinstance") (aZi X.K):=by
 intro bEP s σ H xs us Q I r h;obtain ⟨x,b,rfl,hx,q⟩:=h;obtain ⟨u,v,rfl,rx,rT⟩:=r.two;cases rT;have f0:EP X bEP σ Q (.bool b) s:=⟨.bl _,H,I,rfl,q⟩;have f1:EP X bEP σ Q (.bool b) { s with toks:=s.toks+1 }:=⟨.bl _,H,I.tok _,rfl,q⟩;cases hx with
 |int=>obtain ⟨t,rfl⟩:=rx;exact IsiPair.int_tuple f1
 |str=>obtain ⟨t,rfl⟩:=rx;exact IsiPair.str_tuple f1
 |bl=>cases rx;exact IsiPair.bool_tuple f1
 |non=>cases rx;exact IsiPair.NoneType_tuple f1
 |lst hq=>cases rx;obtain ⟨its,rv,⟨o,n,e,c,_⟩,hz⟩:=I.list hq;exact IsiPair.list_tuple e c f1
 |dct hq=>cases rx;obtain ⟨_,_,_,_,o,_,_,e,ex,_⟩:=I.hok _ _ hq;exact IsiPair.dict_tuple e ex.1 f1
 |tup hq=>cases rx;obtain ⟨its,rv,⟨o,e,c,_⟩,hz⟩:=I.tuple hq;exact IsiPair.tuple_tuple e c f0
end
section
variable {X:Cx} {scope:Scope} {N:List Str} {wi:TI} {te:TE} {σ:St} {H:Hp} {Q:VK}
theorem kZ {σ0:St} {j:Nat} (h0:σ0[j]?=some none):σ0=σ0.set j none:=by
 refine (bBY fun i=>?_);rw [List.getElem?_set]
 split
 ·rename_i hj;subst hj
  split
  ·exact h0
  ·rename_i hlt;exact List.getElem?_eq_none_iff.mpr (by lia)
 ·rfl
theorem aDf (xs:List V) (f:V→V) (σ0:St) (cap:Cap X scope N σ σ0) (hsz:xs.length≤sizeLine)
  (hw:∀R:It→Hp→Prop,(∀J:It,(∀H' i x,Same H H'→xs[i]?=some x→J.go i H'∧∀y H2,J.yld i H' y H2→H2=H'∧y=x)→(∀H',Same H H'→J.stop xs.length H')→R J H)→wi σ H R)
  (he:∀x∈xs,∀H' R l,Same H H'→(∀H2,Same H' H2→R (f x) H2)→te ((σ0.set 0 l).set 0 (some x)) H' R) (h0:σ0[0]?=some none)
  (q:∀D H',Same H H'→H' D=some (.lst (xs.map f))→Q (.ref D) H') :
  jW X scope N wi (cO 0) nG te σ H Q:=by
 refine ⟨σ0,cap,hw _ fun J go stop D hD=>?_⟩;refine ⟨fun i m σ' H' ys=>i≤xs.length∧m=xs.length - i∧(∃l,σ'=σ0.set 0 l)∧Same H H'∧H' D=some (.lst ys)∧ys=(xs.take i).map f,⟨xs.length,bAL _,rfl,⟨none,kZ h0⟩,aX hD _,aH,rfl⟩,?_⟩;rintro i m σ' H' ys ⟨hi,rfl,⟨l,rfl⟩,sm,hL,rfl⟩;refine ⟨hL,?_⟩;by_cases hlt:i<xs.length
 ·right;obtain ⟨g1,g2⟩:=go H' i xs[i] sm (j0 hlt);refine ⟨g1,fun x H2 hy=>?_⟩;obtain ⟨rfl,rfl⟩:=g2 x H2 hy;unfold cO nG;dsimp only;rw [if_pos rfl];refine he xs[i] (bA9 hlt) _ _ l sm fun H3 s3=>⟨s3 _ _ hL,?_,xs.length - (i+1),by lia,hlt,rfl,⟨some xs[i],?_⟩,?_,aH,?_⟩
  ·rw [m7,bAE];lia
  ·rw [bBZ]
  ·intro b o e;rw [aK (aU e hD)];exact s3 _ _ (sm _ _ e)
  ·rw [bBC,j0 hlt,bA5];rfl
 ·left;have e:i=xs.length:=by lia
  subst e;refine ⟨stop _ sm,?_⟩;rw [bB8] at hL;exact q D _ sm hL
theorem aR8 {K:bEL} {tl:TA} {t u:Addr} (xs ys:List V) (f:V→V→V) (σ0:St) (cap:Cap X scope N σ σ0) (hsz:xs.length≤sizeLine) (hl:xs.length=ys.length)
  (ht:SqT K H t xs) (hu:SqT K H u ys) (hw:∀R:List V→Hp→Prop,R [.ref t,.ref u] H→tl σ H R)
  (he:∀(i:Nat) (x y:V),xs[i]?=some x→ys[i]?=some y→∀H' R l1 l2,Same H H'→(∀H2,Same H' H2→R (f x y) H2)→te ((((σ0.set 0 l1).set 1 l2).set 0 (some x)).set 1 (some y)) H' R) (h0:σ0[0]?=some none) (h1:σ0[1]?=some none)
  (q:∀D H',Same H H'→H' D=some (.lst (List.zipWith f xs ys))→Q (.ref D) H') :
  jW X scope N (aRr K tl) (aKj K 2 (sJ (cO 0) (sJ (cO 1) aO3))) nG te σ H Q:=by
 refine ⟨σ0,cap,hw _ ⟨t,u,xs,ys,rfl,ht,hu,fun D hD=>?_⟩⟩;refine ⟨fun i m σ' H' zs=>i≤xs.length∧m=xs.length - i∧(∃l1 l2,σ'=(σ0.set 0 l1).set 1 l2)∧Same H H'∧H' D=some (.lst zs)∧zs=(List.zipWith f xs ys).take i,⟨xs.length,bAL _,rfl,⟨none,none,?_⟩,aX hD _,aH,rfl⟩,?_⟩
 ·rw [←kZ h0];exact kZ h1
 rintro i m σ' H' zs ⟨hi,rfl,⟨l1,l2,rfl⟩,sm,hL,rfl⟩;refine ⟨hL,?_⟩;by_cases hlt:i<xs.length
 ·right;refine ⟨⟨sm.aV ht,sm.aV hu,hlt,by lia⟩,fun v H2 hy=>?_⟩;obtain ⟨T,a,b,hT,rfl,rfl,ha,hb⟩:=hy;have s2:Same H' (upd H' T (.tup [a,b])):=aX hT _;refine ⟨T,[a,b],rfl,.inl (.inl aH),rfl,a,[b],rfl,b,[],rfl,rfl,?_⟩;unfold nG;dsimp only;rw [if_pos rfl];refine he i a b ha hb _ _ l1 l2 (fun b o e=>s2 _ _ (sm _ _ e)) fun H3 s3=>⟨s3 _ _ (s2 _ _ hL),?_,xs.length - (i+1),by lia,hlt,rfl,⟨some a,some b,?_⟩,?_,aH,?_⟩
  ·rw [bAE,bD8];lia
  ·rw [List.set_comm _ _ (show (1:Nat)≠0 by decide),bBZ,bBZ]
  ·intro c o e;rw [aK (aU e hD)];exact s3 _ _ (s2 _ _ (sm _ _ e))
  ·rw [bBC,List.getElem?_zipWith,ha,hb];rfl
 ·left;have e:i=xs.length:=by lia
  subst e;refine ⟨⟨sm.aV ht,j6 _⟩,?_⟩;rw [bAW (by rw [bD8];lia)] at hL;exact q D _ sm hL
theorem aLf {K:bEL} {a:Addr} {xs:List V} {tl:TE} (hS:SqT K H a xs) (h:∀R:VK,R (.ref a) H→tl σ H R) (R:It→Hp→Prop)
  (q:∀J:It,(∀H' i x,Same H H'→xs[i]?=some x→J.go i H'∧∀y H2,J.yld i H' y H2→H2=H'∧y=x)→(∀H',Same H H'→J.stop xs.length H')→R J H):aUd K tl σ H R:=by
 refine h _ ⟨a,rfl,⟨xs,hS⟩,q _ (fun H' i x s e=>⟨⟨xs,x,s.aV hS,e⟩,fun y H2 hy=>?_⟩) fun H' s=>⟨xs,s.aV hS,j6 _⟩⟩;obtain ⟨e1,e2⟩:=hy;have e3:=e2 xs (s.aV hS);rw [e] at e3;cases e3;exact ⟨e1,rfl⟩
end
section
variable {κ:Type} [DecidableEq κ]
def pX (kvs:List (κ × V)) (k:κ):Option V:=(kvs.find? fun kv=>decide (kv.1=k)).map (·.2)
def putK (kvs:List (κ × V)) (k:κ) (v:V):List (κ × V):=
 if (kvs.any fun kv=>decide (kv.1=k))=true then kvs.map (fun kv=>if kv.1=k then (kv.1,v) else kv) else kvs++[(k,v)]
theorem pW {p:κ × V} {r:List (κ × V)} {k:κ} (e:p.1=k):pX (p::r) k=some p.2:=by simp [pX,bBT,e]
theorem pL {p:κ × V} {r:List (κ × V)} {k:κ} (e:¬ p.1=k):pX (p::r) k=pX r k:=by simp [pX,bBT,e]
theorem uK (k:κ):∀kvs:List (κ × V),(kvs.any fun kv=>decide (kv.1=k))=(pX kvs k).isSome
 |[]=>rfl
 |p::r=>by
  rw [bDY];by_cases e:p.1=k
  ·simp only [pW e,v8 e,Bool.true_or,Option.isSome_some]
  ·rw [pL e,bAD e,Bool.false_or];exact uK k r
theorem qX (kvs:List (κ × V)) (k:κ) (v:V):(putK kvs k v).length≤kvs.length+1:=by
 unfold putK
 split
 ·rw [m7];lia
 ·rw [bAC,t7,bBH];lia
theorem aPs {kvs:List (κ × V)} {k:κ} (v:V) (h:pX kvs k=none):putK kvs k v=kvs++[(k,v)]:=by unfold putK;rw [uK,h];exact if_neg (by decide)
theorem nC.nA {o:Option V} {u:Option Value} (r:nC o u):o.isSome=u.isSome:=by
 cases o with
 |none=>cases u with
  |none=>rfl
  |some _=>exact (show False from r).elim
 |some _=>cases u with
  |none=>exact (show False from r).elim
  |some _=>rfl
theorem nC.getD {o:Option V} {u:Option Value} {d:V} {d':Value} (r:nC o u) (rd:RelV d d'):RelV (o.getD d) (u.getD d'):=by
 cases o with
 |none=>cases u with
  |none=>exact rd
  |some _=>exact (show False from r).elim
 |some _=>cases u with
  |none=>exact (show False from r).elim
  |some _=>exact r
theorem KV.val {kvs:List (κ × V)} {vs:List (κ × Value)} (r:KV kvs vs) (k:κ):nC (pX kvs k) (valueAt vs k):=by
 unfold KV at r
 induction r with
 |nil=>exact True.intro
 |@cons p q ps qs h t ih=>
  obtain ⟨h1,h2⟩:=h;by_cases e:p.1=k
  ·have e':q.1=k:=h1.symm.trans e;have b:valueAt (q::qs) k=some q.2:=by simp [valueAt,bBT,e']
   rw [pW e,b];exact h2
  ·have e':¬ q.1=k:=fun z=>e (h1.trans z);have b:valueAt (q::qs) k=valueAt qs k:=by simp [valueAt,bBT,e']
   rw [pL e,b];exact ih
theorem KV.any {kvs:List (κ × V)} {vs:List (κ × Value)} (r:KV kvs vs) (k:κ):(kvs.any fun kv=>decide (kv.1=k))=vs.any fun kv=>decide (kv.1=k):=by
 unfold KV at r
 induction r with
 |nil=>rfl
 |cons h t ih=>rw [bDY,bDY,ih,h.1]
theorem KV.repl {kvs:List (κ × V)} {vs:List (κ × Value)} (r:KV kvs vs) (k:κ) {y:V} {u:Value} (ry:RelV y u) :
  KV (kvs.map fun kv=>if kv.1=k then (kv.1,y) else kv) (vs.map fun kv=>if kv.1=k then (kv.1,u) else kv):=by
 unfold KV at r ⊢
 induction r with
 |nil=>exact .nil
 |@cons p q ps qs h t ih=>
  rw [bAN,bAN];refine .cons ?_ ih;obtain ⟨h1,h2⟩:=h;by_cases e:p.1=k
  ·rw [if_pos e,if_pos (h1.symm.trans e)];exact ⟨h1,ry⟩
  ·rw [if_neg e,if_neg (fun z=>e (h1.trans z))];exact ⟨h1,h2⟩
theorem KV.put {kvs:List (κ × V)} {vs:List (κ × Value)} (r:KV kvs vs) (k:κ) {y:V} {u:Value} (ry:RelV y u):KV (putK kvs k y) (stored vs k u):=by
 unfold putK stored;rw [r.any k];by_cases e:(vs.any fun kv=>decide (kv.1=k))=true
 ·rw [if_pos e,if_pos e];exact r.repl k ry
 ·rw [if_neg e,if_neg e];exact Paired.snoc r ⟨rfl,ry⟩
theorem KV.length {kvs:List (κ × V)} {vs:List (κ × Value)} (r:KV kvs vs):kvs.length=vs.length:=Paired.length r
end
theorem xT {P:Program} {w:World} {k:Key} {u:Value} (r:RelV (kV k) u):(bL P w).is k u=true:=by
 cases k with
 |inl i=>obtain ⟨t,e⟩:=(show ∃t,u=Value.int i t from r);subst e;exact aGz P w i t
 |inr x=>obtain ⟨t,e⟩:=(show ∃t,u=Value.str x t from r);subst e;exact aIz P w x t
theorem aC3 {P:Program} {w:World}:∀{ks:List Key} {us:List Value},Vals (ks.map kV) us→ItemsAre (bL P w) ks us
 |[],_,r=>by rw [List.map_nil] at r;cases r;exact .nil
 |k::ks,_,r=>by
  rw [bAN] at r;cases r with
  |cons h t=>exact .cons (xT h) (aC3 t)
abbrev KT (H:Hp):List (List Key × V)→List (List Key × Addr × Value)→Prop:=Paired fun p q=>p.1=q.1∧H q.2.1=some (.tup (p.1.map kV))∧RelV p.2 q.2.2
theorem KT.val {H:Hp} {kvs:List (List Key × V)} {xs:List (List Key × Addr × Value)} (r:KT H kvs xs) (k:List Key):nC (pX kvs k) ((atKey xs k).map (·.2)):=by
 induction r with
 |nil=>exact True.intro
 |@cons p q ps qs h t ih=>
  obtain ⟨h1,_,h2⟩:=h;by_cases e:p.1=k
  ·have e':q.1=k:=h1.symm.trans e;have b:atKey (q::qs) k=some q.2:=by simp [atKey,bBT,e']
   rw [pW e,b];exact h2
  ·have e':¬ q.1=k:=fun z=>e (h1.trans z);have b:atKey (q::qs) k=atKey qs k:=by simp [atKey,bBT,e']
   rw [pL e,b];exact ih
theorem KT.repl {H:Hp} {kvs:List (List Key × V)} {xs:List (List Key × Addr × Value)} (r:KT H kvs xs) (k:List Key) {y:V} {u:Value} (ry:RelV y u) :
  KT H (kvs.map fun kv=>if kv.1=k then (kv.1,y) else kv) (xs.map (putAt k u)):=by
 induction r with
 |nil=>exact .nil
 |@cons p q ps qs h t ih=>
  rw [bAN,bAN];refine .cons ?_ ih;obtain ⟨h1,h2,h3⟩:=h;unfold putAt;by_cases e:p.1=k
  ·rw [if_pos e,if_pos (h1.symm.trans e)];exact ⟨h1,h2,ry⟩
  ·rw [if_neg e,if_neg (fun z=>e (h1.trans z))];exact ⟨h1,h2,h3⟩
theorem KT.put {H:Hp} {kvs:List (List Key × V)} {xs:List (List Key × Addr × Value)} (r:KT H kvs xs) (k:List Key) {b:Addr} {y:V} {u:Value} (hb:H b=some (.tup (k.map kV))) (ry:RelV y u) :
  KT H (putK kvs k y) (storedH xs k b u):=by
 have e:(kvs.any fun kv=>decide (kv.1=k))=(atKey xs k).isSome:=by rw [uK,(r.val k).nA,bEH]
 unfold putK storedH;rw [e];by_cases q:(atKey xs k).isSome=true
 ·rw [if_pos q,if_pos q];exact r.repl k ry
 ·rw [if_neg q,if_neg q];exact Paired.snoc r ⟨rfl,hb,ry⟩
theorem KT.keeps {H H':Hp} {kvs:List (List Key × V)} {xs:List (List Key × Addr × Value)} (r:KT H kvs xs) (ht:∀b ys,H b=some (.tup ys)→H' b=some (.tup ys)):KT H' kvs xs:=
 Paired.aXg r fun _ _ z=>⟨z.1,ht _ _ z.2.1,z.2.2⟩
section
variable {P:Program} {w:World} {H:Hp} {h:Heap} {a:Addr}
theorem aWd {u:HO} (ok:HOk P w H h) (e:Rd H a u):cW P w H h a u:=e.ok ok
theorem aA5 {kvs:List (Key × V)} (ok:HOk P w H h) (e:Rd H a (.dK kvs)):kvs.length≤sizeLine∧(a == sysModules)=false∧∃vs,KV kvs vs∧h.DictOf (bL P w) a vs:=
 show cW P w H h a (.dK kvs) from aWd ok e
theorem aM7 {kvs:List (Key × V)} (ok:HOk P w H h) (e:H a=some (.dK kvs)):kvs.length≤sizeLine∧(a == sysModules)=false∧∃vs,KV kvs vs∧h.DictOf (bL P w) a vs:=aA5 ok (.inl e)
theorem xG {ks:List Key} (ok:HOk P w H h) (e:H a=some (.tup (ks.map kV))):(tupleKind (bL P w)).is h ks a:=by obtain ⟨_,its,r,⟨o,h1,h2,n,h3⟩,_⟩:=(show cW P w H h a (.tup (ks.map kV)) from ok a _ e);exact ⟨o,its.toArray,n,h1,h2,h3,by simpa using aC3 r⟩
theorem zG {kvs:List (List Key × V)} (ok:HOk P w H h) (e:Rd H a (.dT kvs)):kvs.length≤sizeLine∧(a == sysModules)=false ∧
  ∃xs,KT H kvs xs∧h.DictOfH (tupleKind (bL P w)) a xs:=by
 obtain ⟨z,y,xs,r,o,es,ep,h1,h2,h3,h4,h5⟩:=(show cW P w H h a (.dT kvs) from aWd ok e);refine ⟨z,y,xs,r,o,es,ep,h1,h2,h3,h4,fun x hx=>?_,h5⟩;have all:∀{l:List (List Key × V)} {m:List (List Key × Addr × Value)},KT H l m→∀x∈m,(tupleKind (bL P w)).is h x.1 x.2.1:=by
  intro l m q
  induction q with
  |nil=>intro x hx;exact nomatch hx
  |@cons p q ps qs hq t ih=>
   intro x hx;rcases List.mem_cons.mp hx with e|hx
   ·subst e;exact xG ok (by rw [←hq.1];exact hq.2.1)
   ·exact ih x hx
 exact all r x hx
theorem bAc {kvs:List (List Key × V)} (ok:HOk P w H h) (e:H a=some (.dT kvs)):kvs.length≤sizeLine∧(a == sysModules)=false ∧
  ∃xs,KT H kvs xs∧h.DictOfH (tupleKind (bL P w)) a xs:=zG ok (.inl e)
end
def aFo (H:Hp) (a:Addr) (y:V) (r:Option V):Prop:=
 (∃kvs k,Rd H a (.dK kvs)∧y=kV k∧r=pX kvs k)∨∃kvs k b,Rd H a (.dT kvs)∧y=.ref b∧H b=some (.tup (k.map kV))∧r=pX kvs k
def aOg (H:Hp) (a:Addr) (y v:V) (H':Hp):Prop:=
 (∃kvs k,H a=some (.dK kvs)∧y=kV k∧kvs.length<sizeLine∧H'=upd H a (.dK (putK kvs k v))) ∨
 ∃kvs k b,H a=some (.dT kvs)∧y=.ref b∧H b=some (.tup (k.map kV))∧kvs.length<sizeLine∧H'=upd H a (.dT (putK kvs k v))
theorem aOg.k {H:Hp} {a:Addr} {kvs:List (Key × V)} {k:Key} {v:V} (e:H a=some (.dK kvs)) (hl:kvs.length<sizeLine):aOg H a (kV k) v (upd H a (.dK (putK kvs k v))):=.inl ⟨kvs,k,e,rfl,hl,rfl⟩
section
variable {X:Cx} {bEP:bEN} {σ:St} {H:Hp} {s:Shared} {a:Addr} {y v:V} {u r:Value} {o:Option V} {A:Around} {E:bEM}
theorem Inv.big (I:Inv X bEP σ H s):sysModules<s.heap.objs.size:=by have h:mainGlobals<s.heap.objs.size:=(I.mod.glob.keeps I.bk).lt;exact bCO (by decide) h
theorem aOo {Q:bEM} (hu:A.units+1<cLine) (I:Inv X bEP σ H s) (g:aFo H a y (some v)) (ry:RelV y u) (h:∀w' s',Inv X bEP σ H s'→RelV v w'→Q w' s') :
  wpAny (model X.prog X.w) A (getItem (.ref a) u) Q E s:=by
 rcases g with ⟨kvs,k,e,ey,l⟩|⟨kvs,k,b,e,ey,eb,l⟩
 ·subst ey;obtain ⟨z,hd,vs,rel,dd⟩:=aA5 I.hok e;obtain ⟨w',hw,rw'⟩:=nC.some_of (v:=v) (o:=valueAt vs k) (by rw [l];exact rel.val k);exact wpAny_getItem_of (xT ry) dd.mapOf hw (h w' _ (I.tok _) rw')
 ·subst ey;cases (show u=Value.ref b from ry);obtain ⟨z,hd,xs,rel,dd⟩:=zG I.hok e;obtain ⟨w',hw,rw'⟩:=nC.some_of (v:=v) (o:=(atKey xs k).map (·.2)) (by rw [l];exact rel.val k);obtain ⟨p,hp,hp2⟩:=Option.map_eq_some_iff.mp hw;refine wpAny_getItem_heap (tupleKind_room_in1 hu) (xG I.hok eb) dd hp ?_;rw [hp2];exact h w' _ (I.tok _) rw'
theorem bAv {Q:bEM} (hu:A.units+1<cLine) (I:Inv X bEP σ H s) (g:aFo H a y o) (ry:RelV y u) (h:∀s',Inv X bEP σ H s'→Q (.bool o.isSome) s') :
  wpAny (model X.prog X.w) A (compareOp .In u (.ref a)) Q E s:=by
 rcases g with ⟨kvs,k,e,ey,l⟩|⟨kvs,k,b,e,ey,eb,l⟩
 ·subst ey;obtain ⟨z,hd,vs,rel,dd⟩:=aA5 I.hok e;refine wpAny_in_of (xT ry) hd dd.mapOf ?_;rw [←(rel.val k).nA,←l];exact h _ (I.tok _)
 ·subst ey;cases (show u=Value.ref b from ry);obtain ⟨z,hd,xs,rel,dd⟩:=zG I.hok e;refine wpAny_in_heap (tupleKind_room_in1 hu) (xG I.hok eb) hd dd ?_;have q:=(rel.val k).nA;rw [bEH] at q;rw [←q,←l];exact h _ (I.tok _)
theorem aTi {Q:bEM} (hu:A.units+1<cLine) (I:Inv X bEP σ H s) (g:aFo H a y o) (ry:RelV y u) (h:∀s',Inv X bEP σ H s'→Q (.bool (!o.isSome)) s') :
  wpAny (model X.prog X.w) A (compareOp .NotIn u (.ref a)) Q E s:=by
 rcases g with ⟨kvs,k,e,ey,l⟩|⟨kvs,k,b,e,ey,eb,l⟩
 ·subst ey;obtain ⟨z,hd,vs,rel,dd⟩:=aA5 I.hok e;refine wpAny_notIn_of (xT ry) hd dd.mapOf ?_;rw [←(rel.val k).nA,←l];exact h _ (I.tok _)
 ·subst ey;cases (show u=Value.ref b from ry);obtain ⟨z,hd,xs,rel,dd⟩:=zG I.hok e;refine wpAny_notIn_heap (tupleKind_room_in1 hu) (xG I.hok eb) hd dd ?_;have q:=(rel.val k).nA;rw [bEH] at q;rw [←q,←l];exact h _ (I.tok _)
theorem aE7 {h':Heap} {t':Nat} {ob:HO} (I:Inv X bEP σ H s) (mu:Mut (H a)) (hs:Heap.SameBut a s.heap h') (he:∃q,h'.get? a=some q) (new:cW X.prog X.w (upd H a ob) h' a ob) :
  Inv X bEP σ (upd H a ob) { s with heap:=h',toks:=t' }:=
 I.write (x:=a) (e:=a) mu (.inl rfl) (fun b q hb z=>(hs.2 b hb).trans z) he new
theorem aQq {P:Program} {w:World} {H':Hp} {h':Heap} {kvs:List (Key × V)} {vs:List (Key × Value)} (z:kvs.length≤sizeLine) (hd:(a == sysModules)=false) (rel:KV kvs vs) (dd:h'.DictOf (bL P w) a vs) :
  cW P w H' h' a (.dK kvs):=⟨z,hd,vs,rel,dd⟩
theorem aOw {H':Hp} {Q:Unit→Shared→Prop} (hu:A.units+1<cLine) (I:Inv X bEP σ H s) (g:aOg H a y v H') (ry:RelV y u) (rv:RelV v r) (h:∀s',Inv X bEP σ H' s'→Q () s') :
  wpAny (model X.prog X.w) A (setItem (.ref a) u r) Q E s:=by
 rcases g with ⟨kvs,k,e,ey,l,eH⟩|⟨kvs,k,b,e,ey,eb,l,eH⟩
 ·subst ey eH;obtain ⟨z,hd,vs,rel,dd⟩:=aM7 I.hok e;have hz:vs.length≤sizeLine:=by rw [←rel.length];exact z
  have hl:(putK kvs k v).length≤sizeLine:=by have:=qX kvs k v;lia
  refine wpAny_setItem_pairs (hsz:=hz) (xT ry) dd fun h' dd' hs=>h _ ?_;have he:∃q,h'.get? a=some q:=let ⟨q,_,_,hq,_⟩:=dd';⟨q,hq⟩
  exact aE7 I (by rw [e];exact True.intro) hs he (aQq hl hd (rel.put k rv) dd')
 ·subst ey eH;cases (show u=Value.ref b from ry);obtain ⟨z,hd,xs,rel,dd⟩:=bAc I.hok e;have hz:xs.length≤sizeLine:=by rw [←Paired.length rel];exact z
  have hl:(putK kvs k v).length≤sizeLine:=by have:=qX kvs k v;lia
  refine wpAny_setItem_heap (hsz:=hz) (tupleKind_room_in1 hu) (xG I.hok eb) dd fun h' dd' hs=>h _ ?_;obtain ⟨q,es,ep,hq,h2,h3,h4,_,h5⟩:=dd';refine aE7 I (by rw [e];exact True.intro) hs ⟨q,hq⟩ ⟨hl,hd,_,(rel.put k eb rv).keeps fun c ys ec=>?_,q,es,ep,hq,h2,h3,h4,h5⟩;rw [aK (aIb ec e (fun z=>nomatch z))];exact ec
end
section
variable {X:Cx} {bEP:bEN} {σ:St} {H:Hp} {s:Shared} {a:Addr} {kvs:List (Key × V)} {k:Key} {u:Value} {A:Around} {E:bEM}
end
def aXy (i:Expr):Prop:=∀ov iv,subscripted i false ov iv=operate [ov,iv] (getItem ov iv)
theorem aT4 {prog:Program} {w:World} {A:Around} {E:bEM} {s:Shared} {env:Env} {value slice:Expr} {pos:Pos} {T id:String} {Q:bEM}
  (hl:typeLookup (.type T) "__getitem__"=pure (some (.builtin id))) (hs:aXy slice)
  (h:wpAny (model prog w) A (eval value env) (fun o s₁=>wpAny (model prog w) A (eval slice env) (fun i s₂=>s₂.TypeIs o T∧wpAny (model prog w) A (getItem o i) Q E s₂) E s₁) E s) :
  wpAny (model prog w) A (eval (.Subscript value slice pos) env) Q E s:=by
 refine Subscript_ (bA4 h (fun o s₁ h₁=>bA4 h₁ (fun i s₂ h₂=>?_) fun _ _ x=>x) fun _ _ x=>x);obtain ⟨hT,h₂⟩:=h₂;unfold subscriptTail;refine c7 ?_;rw [getitemInPython_of_ne hT.not_modules];refine c7 (wpAny_specialOf hT hl ?_);have fin:wpAny (model prog w) A (subscripted slice false o i) (fun r s₃=>wpAny (model prog w) A (letTemporaryGo value o r >>= fun _=>pure r) Q E s₃) E s₂:=by rw [hs o i];exact wpAny_operating (bA4 h₂ (fun r s₃ h₃=>c7 (wpAny_letTemporaryGo (j4 h₃))) fun _ _ x=>x)
 first
  |exact j4 (c7 fin)
  |exact c7 (j4 (c7 fin))
  |exact c7 fin
theorem aIr {X:Cx} {bEP:bEN} {σ:St} {H:Hp} {s:Shared} {a:Addr} {y:V} {o:Option V} (I:Inv X bEP σ H s) (g:aFo H a y o):s.TypeIs (.ref a) "dict":=by
 rcases g with ⟨kvs,k,e,_,_⟩|⟨kvs,k,b,e,_,_,_⟩
 ·obtain ⟨_,_,vs,_,dd⟩:=aA5 I.hok e;exact dd.typeIs
 ·obtain ⟨_,_,xs,_,dd⟩:=zG I.hok e;exact dd.typeIs
def aV3 (td ty:TE):TE:=fun σ H Q=>td σ H fun x H1=>ty σ H1 fun y H2=>∃a v,x=.ref a∧aFo H2 a y (some v)∧Q v H2
def bAi (ty td:TE):TE:=fun σ H Q=>ty σ H fun y H1=>td σ H1 fun x H2=>∃a o,x=.ref a∧aFo H2 a y o∧Q (.bl o.isSome) H2
def aM4 (ty td:TE):TE:=fun σ H Q=>ty σ H fun y H1=>td σ H1 fun x H2=>∃a o,x=.ref a∧aFo H2 a y o∧Q (.bl (!o.isSome)) H2
def aV1 (td ty tv:TE):TS:=fun D σ H=>tv σ H fun v H1=>td σ H1 fun x H2=>ty σ H2 fun y H3=>∃a H4,x=.ref a∧aOg H3 a y v H4∧D.nx σ H4
section
variable {X:Cx} {o i e value:Expr} {pos pos' tpos:Pos} {td ty tv:TE}
theorem aTd (hu:X.A.units+1<cLine) (ho:PE X o td) (hi:PE X i ty) (hs:aXy i):PE X (.Subscript o i pos) (aV3 td ty):=by intro bEP s σ H Q I h;refine aT4 PySem.F.slot_dict_getitem.lookup hs (thn (ho bEP s σ H _ I h) fun u s1 ⟨x,H1,I1,rx,q1⟩=>thn (hi bEP s1 σ H1 _ I1 q1) fun iv s2 ⟨y,H2,I2,ry,a,v,ex,g,q2⟩=>?_);subst ex;obtain rfl:u=Value.ref a:=rx;exact ⟨aIr I2 g,aOo hu I2 g ry fun w' s3 I3 rw'=>⟨v,H2,I3,rw',q2⟩⟩
theorem aW0 (hu:X.A.units+1<cLine) (hi:PE X i ty) (ho:PE X o td):PC X .In i o (bAi ty td):=by intro bEP s σ H Q I h;refine thn (hi bEP s σ H _ I h) fun iv s1 ⟨y,H1,I1,ry,q1⟩=>thn (ho bEP s1 σ H1 _ I1 q1) fun u s2 ⟨x,H2,I2,rx,a,ov,ex,g,q2⟩=>?_;subst ex;obtain rfl:u=Value.ref a:=rx;exact bAv hu I2 g ry fun s3 I3=>⟨.bl ov.isSome,H2,I3,rfl,q2⟩
theorem aOy (hu:X.A.units+1<cLine) (hi:PE X i ty) (ho:PE X o td):PC X .NotIn i o (aM4 ty td):=by intro bEP s σ H Q I h;refine thn (hi bEP s σ H _ I h) fun iv s1 ⟨y,H1,I1,ry,q1⟩=>thn (ho bEP s1 σ H1 _ I1 q1) fun u s2 ⟨x,H2,I2,rx,a,ov,ex,g,q2⟩=>?_;subst ex;obtain rfl:u=Value.ref a:=rx;exact aTi hu I2 g ry fun s3 I3=>⟨.bl (!ov.isSome),H2,I3,rfl,q2⟩
theorem aUq (hu:X.A.units+1<cLine) (ho:PE X o td) (hi:PE X i ty) (hv:PE X value tv) (hs:swapsWith value (some (.Subscript o i pos')) pos.line X.env=pure false) :
  PS X (.Assign [.Subscript o i pos'] value pos) (aV1 td ty tv):=by
 intro bEP s σ H D I h;refine wpAny_Assign_Subscript (thn (hv bEP s σ H _ I h) fun r s1 ⟨v,H1,I1,rv,q1⟩=>thn (ho bEP s1 σ H1 _ I1 q1) fun u s2 ⟨x,H2,I2,rx,q2⟩=>thn (hi bEP s2 σ H2 _ I2 q2) fun iv s3 ⟨y,H3,I3,ry,a,H4,ex,g,q3⟩=>?_) hs;subst ex;obtain rfl:u=Value.ref a:=rx;exact aOw hu I3 g ry rv fun s4 I4=>⟨σ,H4,I4,q3⟩
end
theorem aHq {P:Program} {w:World} {H:Hp} (h:Heap) (hb:sysModules<h.objs.size):cW P w H (h.push { cls:=.type "dict",data:=.dict #[] }) h.objs.size (.dK []):=
 ⟨bAL _,beq_eq_false_iff_ne.mpr (Ne.symm (m9 hb)),[],.nil,Heap.DictOf.new h⟩
def aRe:TE:=fun _ H Q=>∀p,H p=none→Q (.ref p) (upd H p (.dK []))
section
variable {X:Cx} {pos:Pos}
theorem aSh:PE X (.Dict [] [] pos) aRe:=fun bEP s σ H Q I h=>
 wpAny_Dict_empty ⟨.ref s.heap.objs.size,_,I.laid (a:=s.heap.objs.size) (o:=.dK []) (t':=s.toks) (fun _ _ q=>d9 _ q) (j6 _) (aHq s.heap I.big),rfl,h _ (I.hok.fresh (j6 _))⟩
end
def aKh:List (TE × TE)→St→Hp→(List (V × V)→Hp→Prop)→Prop
 |[],_,H,Q=>Q [] H
 |(tk,tv)::r,σ,H,Q=>tk σ H fun x H1=>tv σ H1 fun y H2=>aKh r σ H2 fun ps H3=>Q ((x,y)::ps) H3
abbrev VV:List (V × V)→List (Value × Value)→Prop:=Paired fun p q=>RelV p.1 q.1∧RelV p.2 q.2
def PPs (X:Cx) (pos:Pos) (keys:List (Option Expr)) (values:List Expr) (trs:List (TE × TE)):Prop:=
 ∀(bEP:bEN) (s:Shared) (σ:St) (H:Hp) (Q:List (V × V)→Hp→Prop),Inv X bEP σ H s→aKh trs σ H Q →
  wpAny (model X.prog X.w) X.A (evalPairs (pairTrees keys values X.env pos)) (fun vs s'=>∃ps H',Inv X bEP σ H' s'∧VV ps vs∧Q ps H') X.xe s
theorem aTo {X:Cx} {pos:Pos}:PPs X pos [] [] []:=fun bEP s σ H Q I h=>pairTrees_nil_walk ⟨[],H,I,.nil,h⟩
theorem aQf {X:Cx} {pos:Pos} {k v:Expr} {ks:List (Option Expr)} {vs:List Expr} {tk tv:TE} {trs:List (TE × TE)} (hk:PE X k tk) (hv:PE X v tv) (hr:PPs X pos ks vs trs) :
  PPs X pos (some k::ks) (v::vs) ((tk,tv)::trs):=fun bEP s σ H Q I h=>
 pairTrees_cons_walk (thn (hk bEP s σ H _ I h) fun u s1 ⟨x,H1,I1,rx,q1⟩=>thn (hv bEP s1 σ H1 _ I1 q1) fun w2 s2 ⟨y,H2,I2,ry,q2⟩=>
  thn (hr bEP s2 σ H2 _ I2 q2) fun ws s3 ⟨ps,H3,I3,rel,q3⟩=>⟨(x,y)::ps,H3,I3,.cons ⟨rx,ry⟩ rel,q3⟩)
def iY (kvs more:List (Key × V)):List (Key × V):=more.foldl (fun acc kv=>putK acc kv.1 kv.2) kvs
theorem KV.merge:∀{more:List (Key × V)} {rs:List (Key × Value)} {kvs:List (Key × V)} {vs:List (Key × Value)},KV more rs→KV kvs vs→KV (iY kvs more) (merged vs rs):=by
 intro more rs kvs vs r;unfold KV at r
 induction r generalizing kvs vs with
 |nil=>intro q;exact q
 |@cons p q ps qs h t ih=>
  intro r0;have e:KV (putK kvs p.1 p.2) (stored vs q.1 q.2):=by have:=r0.put p.1 h.2;rw [←h.1];exact this
  exact ih e
theorem jJ:∀(more kvs:List (Key × V)),(iY kvs more).length≤kvs.length+more.length
 |[],kvs=>by show kvs.length≤kvs.length+0;lia
 |p::r,kvs=>by have h1:=jJ r (putK kvs p.1 p.2);have h2:=qX kvs p.1 p.2;show (iY (putK kvs p.1 p.2) r).length≤_;rw [t7];lia
theorem aBu {P:Program} {w:World}:∀{kvs:List (Key × V)} {ws:List (Value × Value)},VV (kvs.map fun kv=>(kV kv.1,kv.2)) ws→∃rs,Carries (bL P w) ws rs∧KV kvs rs
 |[],_,r=>by rw [List.map_nil] at r;cases r;exact ⟨[],True.intro,.nil⟩
 |p::kvs,_,r=>by
  rw [bAN] at r;cases r with
  |@cons a b as bs h t=>obtain ⟨rs,c,q⟩:=aBu (P:=P) (w:=w) t;obtain ⟨b1,b2⟩:=b;exact ⟨(p.1,b2)::rs,⟨xT h.1,rfl,c⟩,.cons ⟨rfl,h.2⟩ q⟩
def aWa (trs:List (TE × TE)):TE:=fun σ H Q=>∀p,H p=none→aKh trs σ (upd H p (.dK [])) fun ps H2=>H2 p=some (.dK [])∧∃kvs:List (Key × V),ps=kvs.map (fun kv=>(kV kv.1,kv.2))∧kvs.length≤15∧Q (.ref p) (upd H2 p (.dK (iY [] kvs)))
theorem aVd {X:Cx} {pos:Pos} {keys:List (Option Expr)} {values:List Expr} {trs:List (TE × TE)} (h:PPs X pos keys values trs) (hall:keys.all (·.isSome)=true) (hl:keys.length=values.length) (h0:keys≠[])
  (h15:keys.length≤15):PE X (.Dict keys values pos) (aWa trs):=by
 intro bEP s σ H Q I q;have hn:=I.hok.fresh (j6 s.heap.objs.size);have I1:=I.laid (a:=s.heap.objs.size) (o:=.dK []) (h':=s.heap.push { cls:=.type "dict",data:=.dict #[] }) (t':=s.toks) (fun _ _ q=>d9 _ q) (j6 _) (aHq s.heap I.big);refine wpAny_Dict_walk (knd:=bL X.prog X.w) hall hl h0 h15 (thn (h bEP _ σ _ _ I1 (q _ hn)) fun ws s2 ⟨ps,H2,I2,rel,e,kvs,ep,lk,q2⟩=>?_);subst ep;obtain ⟨rs,c,rk⟩:=aBu (P:=X.prog) (w:=X.w) rel;obtain ⟨z,hd,vs0,r0,dd⟩:=aM7 I2.hok e;cases r0;refine ⟨rs,c,dd,fun h' dd' hs=>⟨.ref s.heap.objs.size,_,?_,rfl,q2⟩⟩;have hz:(iY [] kvs).length≤sizeLine:=by have h1:=jJ kvs [];rw [bBH] at h1;rw [sizeLine_eq];lia
 have he:∃q,h'.get? s.heap.objs.size=some q:=let ⟨q,_,_,hq,_⟩:=dd';⟨q,hq⟩
 exact aE7 I2 (by rw [e];exact True.intro) hs he (aQq hz hd (rk.merge .nil) dd')
structure M1 (X:Cx) (o:Expr) (m:Str) (apos:Pos) (e:Expr) (cpos:Pos):Prop where
 base:attributeBase o m X.env (eval o X.env)=eval o X.env
 few:((backTo cpos (starEach [e] X.env)).all (fun x=>!x.1) && (backToKw cpos (keywordEach [] X.env)).all (fun x=>x.1.isSome)
  && decide (([e]:List Expr).length+([]:List Keyword).length+(if ([]:List Keyword).isEmpty then 0 else 1)<30))=true
 line:(apos.endLine == cpos.line)=true
 trees:backTo cpos (starEach [e] X.env)=[(false,eval e X.env)]
def IsD (H:Hp) (a:Addr):Prop:=(∃kvs,Rd H a (.dK kvs))∨∃kvs,Rd H a (.dT kvs)
theorem aYs {X:Cx} {bEP:bEN} {σ:St} {H:Hp} {s:Shared} {a:Addr} (I:Inv X bEP σ H s) (d:IsD H a) :
  s.TypeIs (.ref a) "dict"∧(∀b,Value.ref a=.ref b→∃ob,s.heap.get? b=some ob∧ob.dict=none)∧(a == sysModules)=false:=by
 rcases d with ⟨kvs,e⟩|⟨kvs,e⟩
 ·obtain ⟨_,hd,vs,_,dd⟩:=aA5 I.hok e;refine ⟨dd.typeIs,fun b q=>?_,hd⟩;cases q;obtain ⟨ob,_,_,h1,h2,_⟩:=dd;exact ⟨ob,h1,h2.2.1⟩
 ·obtain ⟨_,hd,xs,_,dd⟩:=zG I.hok e;refine ⟨dd.typeIs,fun b q=>?_,hd⟩;cases q;obtain ⟨ob,_,_,h1,h2,_⟩:=dd;exact ⟨ob,h1,h2.2.1⟩
section
variable {X:Cx} {bEP:bEN} {σ:St} {H:Hp} {s:Shared} {a:Addr} {y d:V} {u r:Value} {o:Option V} {A:Around} {E:bEM}
theorem aWp {Q:bEM} (hu:A.units+1<cLine) (I:Inv X bEP σ H s) (g:aFo H a y o) (ry:RelV y u) (h:∀w' s',Inv X bEP σ H s'→RelV (o.getD .non) w'→Q w' s') :
  wpAny (model X.prog X.w) A (call (.builtin "dict.get") [.ref a,u]) Q E s:=by
 rcases g with ⟨kvs,k,e,ey,l⟩|⟨kvs,k,b,e,ey,eb,l⟩
 ·subst ey;obtain ⟨z,hd,vs,rel,dd⟩:=aA5 I.hok e;refine call_meetsIn PySem.F.slot_dict_get dd.typeIs PySem.F.entry_dict_get (PySem.F.args_dict_get_2 _ _) (meets_dict_get (bL X.prog X.w) a (xT ry) hd) ⟨_,dd.mapOf,h _ _ (I.tok _) ?_⟩;rw [l];exact (rel.val k).getD rfl
 ·subst ey;cases (show u=Value.ref b from ry);obtain ⟨z,hd,xs,rel,dd⟩:=zG I.hok e;refine call_meetsIn PySem.F.slot_dict_get dd.typeIs PySem.F.entry_dict_get (PySem.F.args_dict_get_2 _ _) (meetsH_dict_get (tupleKind (bL X.prog X.w)) a b hd) ⟨tupleKind_room_in1 hu,k,xs,xG I.hok eb,dd,h _ _ (I.tok _) ?_⟩;rw [l];exact (rel.val k).getD rfl
end
def aP6 (td ty:TE):TE:=fun σ H Q=>td σ H fun x H1=>∃a,x=.ref a∧IsD H1 a∧ty σ H1 fun y H2=>∃o,aFo H2 a y o∧Q (o.getD .non) H2
section
variable {X:Cx} {o e f:Expr} {apos cpos:Pos} {td ty tx:TE}
theorem aP0 (hu:X.A.units+1<cLine) (ho:PE X o td) (he:PE X e ty) (m:M1 X o "get" apos e cpos):PE X (.Call (.Attribute o "get" apos) [e] [] cpos) (aP6 td ty):=by intro bEP s σ H Q I h;refine wpAny_Call_method m.base m.few m.line PySem.F.plainAttrs_dict PySem.F.slot_dict_get PySem.F.type_dict_get (thn (ho bEP s σ H _ I h) fun u s1 ⟨x,H1,I1,rx,a,ex,d,q1⟩=>?_);subst ex;obtain rfl:u=Value.ref a:=rx;obtain ⟨t1,t2,_⟩:=aYs I1 d;refine ⟨t1,t2,?_⟩;rw [m.trees];refine bCY rfl (bD0 (bBU (thn (he bEP s1 σ H1 _ I1 q1) fun iv s2 ⟨y,H2,I2,ry,ov,g,q2⟩=>bDN ?_)));exact aWp hu I2 g ry fun w' s3 I3 rw'=>⟨_,H2,I3,rw',q2⟩
end
section
variable {X:Cx} {bEP:bEN} {σ:St} {H:Hp} {s:Shared} {a:Addr} {kvs:List (Key × V)} {A:Around} {E:bEM}
end
section
variable {X:Cx} {bEP:bEN} {σ:St} {H:Hp} {s:Shared} {a:Addr} {y:V} {u:Value} {A:Around} {E:bEM}
end
section
variable {X:Cx}
end
section
variable {κ:Type} [DecidableEq κ]
theorem aUv {kvs:List (κ × V)} {k:κ} {v:V} (h:pX kvs k=some v):k∈kvs.map (·.1):=by
 have q:(kvs.any fun kv=>decide (kv.1=k))=true:=by rw [uK,h];all_goals rfl
 obtain ⟨p,hp,e⟩:=List.any_eq_true.mp q;exact List.mem_map.mpr ⟨p,hp,of_decide_eq_true e⟩
end
structure VE (X:Cx) (e:Expr) (t:TE):Prop where
 out:PE X e t
structure VT (X:Cx) (e:Expr) (t:TT):Prop where
 out:PT X e t
structure VW (X:Cx) (e:Expr) (t:TT):Prop where
 out:PW X e t
structure VA (X:Cx) (es:List Expr) (t:TA):Prop where
 out:PA X es t
structure VS (X:Cx) (st:Stmt) (t:TS):Prop where
 out:PS X st t
structure VSs (X:Cx) (st:List Stmt) (t:TS):Prop where
 out:PSs X st t
structure VI (X:Cx) (tg iter:Expr) (t:TI):Prop where
 out:PI X tg iter t
structure VG (X:Cx) (tg:Expr) (t:TG):Prop where
 out:PG X tg t
structure VGs (X:Cx) (tg:List Expr) (t:TGs):Prop where
 out:PGs X tg t
structure VO (X:Cx) (e:Option Expr) (t:TO):Prop where
 out:PO X e t
structure VF (X:Cx) (ifs:List Expr) (t:TT):Prop where
 out:aQd X ifs t
structure VP (X:Cx) (pos:Pos) (keys:List (Option Expr)) (values:List Expr) (trs:List (TE × TE)):Prop where
 out:PPs X pos keys values trs
section
variable {X:Cx} {a b c e:Expr} {es:List Expr} {ta tb tc te:TE} {t:TA} {tA tB':TT} {pos p:Pos} {x:Str}
theorem vv (i:Nat) {x:Str} {pos:Pos} (hN:X.N[i]?=some x:=by rfl) (hv:Vis X.env.scope x:=by trivial) (hd:(x == ("__debug__":Str))=false:=by decide)
  (hcd:(x == ("__classdict__":Str))=false:=by decide):VE X (.Name x pos) (uP i):=⟨pv i hN hv hd hcd⟩
theorem rD {v:V} (hg:Gl X x) (hm:∃u,X.mg x=some u∧RelV v u) (hd:(x == ("__debug__":Str))=false:=by decide):VE X (.Name x pos) (tC v):=⟨aZm hg hm hd⟩
theorem eQ {v:V} {u:Value} (hg:Gl X x) (hm:X.mg x=none) (hv:bootBuiltins x=some u) (r:RelV v u) (hn:x≠"__name__":=by decide) (hd:(x == ("__debug__":Str))=false:=by decide):VE X (.Name x pos) (tC v):=⟨aVf hg hm hv r hn hd⟩
theorem aC {i j}:VE X (.Constant (.int i) j pos) (tC (.int i)):=⟨aXl⟩
theorem jX {b j}:VE X (.Constant (.bool b) j pos) (tC (.bl b)):=⟨aZ2⟩
theorem wC {j}:VE X (.Constant .none j pos) (tC .non):=⟨aX9⟩
theorem bA {x j}:VE X (.Constant (.str x) j pos) (tC (.str x)):=⟨aW1⟩
theorem bK {op:Operator} {r:R2} (ho:OpR X (binaryOp op) r) (ha:VE X a ta) (hb:VE X b tb):VE X (.BinOp a op b pos) (tOp r ta tb):=⟨bAg ho ha.1 hb.1⟩
theorem cB {op:CmpOp} {r:R2} (ho:OpR X (compareOp op) r) (ha:VE X a ta) (hb:VE X b tb) (hm:behindInMarks op b=false):VE X (.Compare a [op] [b] pos) (tOp r ta tb):=⟨aUl ho ha.1 hb.1 hm⟩
theorem bR {op:CmpOp} {r:R2} (ho:OpR X (compareOp op) r) (ha:VE X a ta) (hb:VE X b tb) (hm:behindInMarks op b=false):VT X (.Compare a [op] [b] pos) (aMs (tOp r ta tb)):=⟨aVc ho ha.1 hb.1 hm⟩
theorem aQ0 {op op':CmpOp} {r r':R2} (ho:OpR X (compareOp op) r) (ho':OpR X (compareOp op') r') (ha:VE X a ta) (hb:VE X b tb) (hc:VE X c tc)
  (hm:lastMarks [op,op'] [b,c]=false:=by with_unfolding_all rfl):VE X (.Compare a [op,op'] [b,c] pos) (aFv r r' ta tb tc):=⟨aSm ho ho' ha.1 hb.1 hc.1 hm⟩
theorem zQ {op op':CmpOp} {r r':R2} (ho:OpR X (compareOp op) r) (ho':OpR X (compareOp op') r') (ha:VE X a ta) (hb:VE X b tb) (hc:VE X c tc)
  (hm:lastMarks [op,op'] [b,c]=false:=by with_unfolding_all rfl):VT X (.Compare a [op,op'] [b,c] pos) (aMs (aFv r r' ta tb tc)):=⟨aQk ho ho' ha.1 hb.1 hc.1 hm⟩
theorem iD {op} (h:VE X a te):VE X (.BoolOp op [a] pos) te:=⟨aWy h.1⟩
theorem fJ {rest:List Expr} (ha:VE X a ta) (hb:VE X (.BoolOp .And (b::rest) pos) tb):VE X (.BoolOp .And (a::b::rest) pos) (aWe ta tb):=⟨aXf ha.1 hb.1⟩
theorem aZe {rest:List Expr} (ha:VE X a ta) (hb:VE X (.BoolOp .Or (b::rest) pos) tb):VE X (.BoolOp .Or (a::b::rest) pos) (aZd ta tb):=⟨bAd ha.1 hb.1⟩
theorem aWu (ha:VE X a ta):VE X (.UnaryOp .Not a pos) (aWb ta):=⟨aYc ha.1⟩
theorem aHf (hc:VT X c tA) (ha:VE X a ta) (hb:VE X b tb):VE X (.IfExp c a b pos) (tIf tA ta tb):=⟨aRd hc.1 ha.1 hb.1⟩
theorem aA:VA X [] aBw:=⟨aSx⟩
theorem aB (ha:VE X e te) (hr:VA X es t) (hp:cU e=true:=by rfl):VA X (e::es) (dR te t):=⟨aY3 ha.1 hr.1 hp⟩
theorem aP {k:Nat} {ps:List Str} {sp:Sp} (G:Ok X.prog X.w X.K X.mg X.base k x ps sp) (hr:Room k X.A) (hg:Gl X x) (ha:VA X (e::es) t) (hdb:(x == ("__debug__":Str))=false:=by decide)
  (hp:cU e=true:=by rfl) (hpl:(backTo pos (starEach es X.env)).any (·.1)=false:=by rfl) :
  VE X (.Call (.Name x p) (e::es) [] pos) (aDc sp [] E0 t):=⟨aZ5 G hr hg ha.1 hdb (aN hp) hpl⟩
theorem aYj {k:Nat} {ps:List Str} {sp:Sp} (G:Ok X.prog X.w X.K X.mg X.base k x ps sp) (hr:Room k X.A) (hg:Gl X x) (hdb:(x == ("__debug__":Str))=false:=by decide) :
  VE X (.Call (.Name x p) [] [] pos) (aDc sp [] E0 aBw):=⟨aXr G hr hg hdb⟩
theorem aO {id:String} {r:List V→Hp→VK→Prop} (hc:cJ X (.builtin id) r) (hg:Gl X x) (hm:X.mg x=none) (hv:bootBuiltins x=some (.builtin id)) (ha:VA X (e::es) t) (hn:x≠"__name__":=by decide) (hdb:(x == ("__debug__":Str))=false:=by decide)
  (hp:cU e=true:=by rfl) (hpl:(backTo pos (starEach es X.env)).any (·.1)=false:=by rfl):VE X (.Call (.Name x p) (e::es) [] pos) (tCB r t):=⟨aQw hc hg hm hv ha.1 hn hdb (aN hp) hpl⟩
theorem cX {T:String} {r:List V→Hp→VK→Prop} (hc:cJ X (.type T) r) (hg:Gl X x) (hm:X.mg x=none) (hv:bootBuiltins x=some (.type T)) (ha:VA X (e::es) t) (hn:x≠"__name__":=by decide) (hdb:(x == ("__debug__":Str))=false:=by decide)
  (hp:cU e=true:=by rfl) (hpl:(backTo pos (starEach es X.env)).any (·.1)=false:=by rfl):VE X (.Call (.Name x p) (e::es) [] pos) (tCB r t):=⟨aN0 hc hg hm hv ha.1 hn hdb (aN hp) hpl⟩
theorem aA8 {o:Expr} {to:TE} {name:Str} {apos cpos:Pos} {T id:String} {r:V→List V→Hp→VK→Prop} (pa:PlainAttrs T) (slot:Slot T name id) (hty:typeOf (.builtin id)=pure (.type "method_descriptor")) (hm:MtR X id r) (ho:VE X o to) (ha:VA X (e::es) t)
  (hbase:attributeBase o name X.env (eval o X.env)=eval o X.env:=by rfl)
  (hfew:((backTo cpos (starEach (e::es) X.env)).all (fun x=>!x.1) && (backToKw cpos (keywordEach [] X.env)).all (fun x=>x.1.isSome)
   && decide ((e::es).length+([]:List Keyword).length+(if ([]:List Keyword).isEmpty then 0 else 1)<30))=true:=by rfl)
  (hline:(apos.endLine == cpos.line)=true:=by rfl) (hp:cU e=true:=by rfl) (hplain:(backTo cpos (starEach es X.env)).any (·.1)=false:=by rfl) :
  VE X (.Call (.Attribute o name apos) (e::es) [] cpos) (tBM X.K T r to t):=⟨bAf pa slot hty hm ho.1 ha.1 hbase hfew hline (aN hp) hplain⟩
theorem qP (ha:VE X a ta) (hb:VE X b tb) (hs:aIa b) :
  VE X (.Subscript a b pos) (tOp (fun x y H Q=>∃z i c,x=.str z∧y=.int i∧0≤i∧i<2 ^ 63∧i<z.length∧z.cps[i.toNat]?=some c∧Q (.str ⟨#[c]⟩) H) ta tb):=⟨aHn ha.1 hb.1 hs⟩
theorem fX:VO X none aMl:=⟨aUz⟩
theorem eO (h:VE X e te):VO X (some e) (aV8 te):=⟨aVv h.1⟩
theorem dN {r:V→Option Int→Option Int→Hp→VK→Prop} {lo hi:Option Expr} {tl th:TO} {p2:Pos} (hr:SlR X r) (he:VE X e te) (hl:VO X lo tl) (hu:VO X hi th):VE X (.Subscript e (.Slice lo hi none p2) pos) (tSl r te tl th):=⟨aQx hr he.1 hl.1 hu.1⟩
theorem aL {r:R2} (hr:IxR X r) (ha:VE X a ta) (hb:VE X b tb) (hs:aNm b):VE X (.Subscript a b pos) (tOp r ta tb):=⟨aZn hr ha.1 hb.1 hs⟩
theorem aQg:VE X (.Dict [] [] pos) aRe:=⟨aSh⟩
theorem aUg:VP X pos [] [] []:=⟨aTo⟩
theorem aQ7 {k v:Expr} {ks:List (Option Expr)} {vs:List Expr} {tk tv:TE} {trs:List (TE × TE)} (hk:VE X k tk) (hv:VE X v tv) (hr:VP X pos ks vs trs):VP X pos (some k::ks) (v::vs) ((tk,tv)::trs):=⟨aQf hk.1 hv.1 hr.1⟩
theorem aTq {keys:List (Option Expr)} {values:List Expr} {trs:List (TE × TE)} (h:VP X pos keys values trs) (hall:keys.all (·.isSome)=true) (hl:keys.length=values.length) (h0:keys≠[]) (h15:keys.length≤15):VE X (.Dict keys values pos) (aWa trs):=⟨aVd h.1 hall hl h0 h15⟩
theorem VE.imp {t t':TE} (h:VE X e t) (k:∀σ H Q,t' σ H Q→t σ H Q):VE X e t':=⟨PE.imp h.1 k⟩
theorem aTa (ha:VT X a tA):VW X (.BoolOp .And [a] pos) tA:=⟨aVe ha.1⟩
theorem gG (ha:VT X a tA):VW X (.BoolOp .Or [a] pos) tA:=⟨aYu ha.1⟩
theorem aYe {rest:List Expr} (ha:VT X a tA) (hb:VW X (.BoolOp .And (b::rest) pos) tB'):VW X (.BoolOp .And (a::b::rest) pos) (aZ1 tA tB'):=⟨aXe ha.1 hb.1⟩
theorem iU {rest:List Expr} (ha:VT X a tA) (hb:VW X (.BoolOp .Or (b::rest) pos) tB'):VW X (.BoolOp .Or (a::b::rest) pos) (tOr tA tB'):=⟨aZq ha.1 hb.1⟩
theorem VW.pt (h:VW X e tA):VT X e tA:=⟨h.1.pt⟩
theorem cM (ha:VT X a tA):VT X (.UnaryOp .Not a pos) (aX4 tA):=⟨aWm ha.1⟩
theorem bZ (h:VE X e te) (he:∀whole,isTrue e X.env whole=(do let v ←whole;standAt e.pos;holding [v] (truthy v)):=by intro _;rfl):VT X e (tB te):=⟨aWs h.1 he⟩
variable {st:Stmt} {rest:List Stmt} {u w':TS}
theorem bB:VSs X [] sS:=⟨aTl⟩
theorem aF (h1:VS X st u) (h2:VSs X rest w'):VSs X (st::rest) (aCf u w'):=⟨aSv h1.1 h2.1⟩
theorem aG (h1:VS X st u):VSs X [st] u:=⟨aU8 h1.1⟩
theorem aM (he:VE X e te):VS X (.Return (some e) pos) (uT te):=⟨aX7 he.1⟩
theorem cG {a b:List Stmt} (hc:VT X c tA) (ha:VSs X a u) (hb:VSs X b w'):VS X (.If c a b pos) (aN6 tA u w'):=⟨aZg hc.1 ha.1 hb.1⟩
theorem aY {i:Nat} {pos':Pos} (hN:X.N.Nodup) (hi:X.N[i]?=some x) (hx:Loc X.env.scope x) (he:VE X e te) (hs:swapsWith e (some (.Name x pos')) pos.line X.env=pure false:=by rfl) (hf:X.fn x=true∨X.env.scope.names.lookup x=some .local:=by first|exact .inl rfl|exact .inr rfl|assumption) :
  VS X (.Assign [.Name x pos'] e pos) (yI te (cO i)):=⟨aY2 hN hi hx he.1 hs hf⟩
theorem jL (he:VE X e te) (hs:swapsWith e none pos.line X.env=pure false:=by rfl):VS X (.Expr e pos) (aMe te):=⟨aMc he.1 hs⟩
theorem jD {tg iter:Expr} {body:List Stmt} {wi:TI} {g:TG} {tb:TS} (hp:PassesOwn (model X.prog X.w) X.A X.env X.xe) (hc:X.calm=true) (hi:VI X tg iter wi) (hg:VG X tg g) (hb:VSs X body tb)
  (hs:∀x,foldedSetIterable iter X.env x=pure x:=by intro _;rfl):VS X (.For tg iter body [] pos) (aX0 wi g tb):=⟨aWk hp hc hi.1 hg.1 hb.1 hs⟩
theorem aQ {i:Nat} (hN:X.N.Nodup) (hi:X.N[i]?=some x) (hx:Loc X.env.scope x) (hf:X.fn x=true∨X.env.scope.names.lookup x=some .local:=by first|exact .inl rfl|exact .inr rfl|assumption):VG X (.Name x pos) (cO i):=⟨aUm hN hi hx hf⟩
theorem gC:VGs X [] aO3:=⟨aU4⟩
theorem bI {t:TG} {u:TGs} (h1:VG X e t) (h2:VGs X es u) (hs:(assignEach (e::es) X.env).map (·.2)=assign e X.env::(assignEach es X.env).map (·.2):=by rfl):VGs X (e::es) (sJ t u):=⟨aSl h1.1 h2.1 hs⟩
theorem aAw {k:Nat} {t:TGs} {n:Nat} (hc:X.calm=true) (h:VGs X es t) (hn:(assignEach es X.env).length=n:=by rfl) (hst:(assignEach es X.env).findIdx? (·.1)=none:=by rfl):VG X (.Tuple es k pos) (aKj X.K n t):=⟨aXa hc h.1 hn hst⟩
variable {tg:Expr}
theorem kJ (h:VE X e te):VI X tg e (aC2 X.K te):=⟨aT0 h.1⟩
theorem mL (h:VE X e te):VI X tg e (aUd X.K te):=⟨aYr h.1⟩
theorem aQo (h:VE X e te):VI X tg e (aW6 te):=⟨aWt h.1⟩
theorem gJ (hg:Gl X "range") (hm:X.mg "range"=none) (ha:VA X [a] t) (hp:cU a=true:=by rfl):VI X tg (.Call (.Name "range" p) [a] [] pos) (aRp t):=⟨aN3 hg hm ha.1 (aN (es:=[]) hp)⟩
theorem eX:VF X [] nG:=⟨aXu⟩
theorem aBb (h:VT X c tA):VF X [c] tA:=⟨aXt h.1⟩
theorem cT {elt target iter:Expr} {ifs:List Expr} {scope:Scope} {N:List Str} {wi:TI} {g:TG} {tt:TT}
  (C:aAg scope N) (hfr:∀y,(y,NameKind.free)∈scope.names→X.env.kindOf y=some .cell∨X.env.kindOf y=some .free) (hc:X.calm=true)
  (hi:VI X target iter wi)
  (hb:∀cl s H fp,VG (cxC X N scope cl s H fp) target g∧VF (cxC X N scope cl s H fp) ifs tt∧VE (cxC X N scope cl s H fp) elt te)
  (hs:∀x,foldedSetIterable iter X.env x=pure x:=by intro _;rfl) :
  VE X (.ListComp elt [⟨target,iter,ifs,0⟩] scope pos) (jW X scope N wi g tt te):=
 ⟨aTu C hfr hc hi.1 (fun cl s H fp=>⟨(hb cl s H fp).1.1,(hb cl s H fp).2.1.1,(hb cl s H fp).2.2.1⟩) hs⟩
end
section
variable {P:Program} {w:World} {K:bEL} {mg:bEO} {base:Heap}
theorem Fun.okV {x qual:Str} {st:Stmt} {f:Addr} {fd:FuncData} {N ps:List Str} {k:Nat} {sp:Sp} (F:Fun K x qual st f fd) (S:aJ N ps (aD st)) (len:∀vs H Q E,sp vs H Q E→vs.length=ps.length)
  (hbody:∀(cdv:Value) (A:Around) (outer:List Env) (s:Shared) (H:Hp) (vs:List V) (Q:VK) (E:XK),Room k (A.deeper (envOfC qual (aD st) s.heap.objs.size f cdv))→sp vs H Q E →
   ∃t,VSs (vR CX0 P w K mg base N qual (aD st) f cdv A outer s H E).nox (dB st) t∧t { nx:=fun _ H'=>Q .non H',rt:=Q } (start N vs) H):fV P w K mg base CX0 (k+1) f fd ps sp:=
 F.ok S len fun cdv A outer s H vs Q E hr h=>let ⟨t,h1,h2⟩:=hbody cdv A outer s H vs Q E hr h;⟨t,h1.1,h2⟩
theorem Ok.ofV {x:Str} {st:Stmt} {N ps:List Str} {k:Nat} {sp:Sp} (D:Dn K mg x st ps) (S:aJ N ps (aD st)) (len:∀vs H Q E,sp vs H Q E→vs.length=ps.length)
  (hbody:∀(f:Addr) (cdv:Value) (A:Around) (outer:List Env) (s:Shared) (H:Hp) (vs:List V) (Q:VK) (E:XK),Room k (A.deeper (envOfC x (aD st) s.heap.objs.size f cdv))→sp vs H Q E →
   ∃t,VSs (vR CX0 P w K mg base N x (aD st) f cdv A outer s H E).nox (dB st) t∧t { nx:=fun _ H'=>Q .non H',rt:=Q } (start N vs) H):Ok P w K mg base (k+1) x ps sp:=
 Ok.of D S len fun f cdv A outer s H vs Q E hr h=>let ⟨t,h1,h2⟩:=hbody f cdv A outer s H vs Q E hr h;⟨t,h1.1,h2⟩
end
def Held (P:Program) (w:World) (K:bEL) (mg:bEO) (base:Heap) (k:Nat) (f:Addr) (ps:List Str) (sp:Sp):Prop:=
 ∃fd,PySem.W.keepIn K (.ref f)=true∧Binds K fd ps []∧fV P w K mg base CX0 k f fd ps sp
theorem Ok.held {P:Program} {w:World} {K:bEL} {mg:bEO} {base:Heap} {k:Nat} {x:Str} {ps:List Str} {sp:Sp} (G:Ok P w K mg base k x ps sp):∃f,mg x=some (.ref f)∧Held P w K mg base k f ps sp:=by obtain ⟨f,fd,h1,h2,h3,h4⟩:=G;exact ⟨f,h1,fd,h2,h3,h4⟩
section
variable {X:Cx} {x:Str} {p pos:Pos} {e:Expr} {es:List Expr} {te:TE} {t:TA}
def aR3 (P:Program) (w:World) (K:bEL) (mg:bEO) (base:Heap) (k:Nat) (te:TE) (t:TA):TE:=fun σ H Q=>te σ H fun v H1=>∃f ps sp,v=.ref f∧Held P w K mg base k f ps sp∧t σ H1 fun vs H2=>sp vs H2 Q E0
theorem aT6 {k:Nat} (hr:Room k X.A) (hf:PE X (.Name x p) te) (ha:PA X (e::es) t)
  (he:starEach (e::es) X.env=(false,eval e X.env)::starEach es X.env:=by rfl) (hpl:(backTo pos (starEach es X.env)).any (·.1)=false:=by rfl) :
  PE X (.Call (.Name x p) (e::es) [] pos) (aR3 X.prog X.w X.K X.mg X.base k te t):=by
 intro bEP s σ H Q I h;refine bBE (thn (hf bEP s σ H _ I h) fun u s1 ⟨v,H1,I1,r1,q1⟩=>?_);obtain ⟨f,ps,sp,rfl,⟨fd,hk,hb,F⟩,q⟩:=q1;obtain rfl:u=Value.ref f:=r1;refine PySem.W.callWith_K (h₀:=X.base) I1.ok.mod.kin hk (thn (ha pos bEP s1 σ H1 _ I1 q) fun us s2 ⟨vs,H2,I2,r,q2⟩=>⟨I2.kIn,?_⟩) he hpl;exact aBg F hr hb .nil aBt I2 r (by simpa using q2)
end
end L2
namespace PySem
end PySem
namespace L2
open PySem PySem.Spec PyProof.Rows
section
variable {X:Cx}
theorem aUn:OpR X (binaryOp .Add) (fun x y H Q=>∃a b ys,x=.ref a∧y=.ref b∧SqT X.K H a []∧SqT X.K H b ys∧Q (.ref b) H):=by
 intro bEP s σ H x y v u Q I rx ry h;obtain ⟨a,b,ys,rfl,rfl,ha,hb,q⟩:=h;cases rx;cases ry;obtain ⟨its,r1,p1,_⟩:=I.tuple ha;obtain ⟨its2,r2,p2,_⟩:=I.tuple hb;cases r1;obtain ⟨⟨cls,dd,data,sl⟩,ho,hc,n,hd⟩:=id p1;obtain ⟨⟨cls2,dd2,data2,sl2⟩,ho2,hc2,n2,hd2⟩:=id p2;simp only at hc hd hc2 hd2;subst hc hd hc2 hd2;exact concat_meets ⟨_,ho,rfl⟩ ⟨_,ho2,rfl⟩ noFill_tuple_add seq_tuple_add PySem.F.slot_tuple_add PySem.F.entry_tuple_add (PySem.F.args_tuple_add_2 _ _)
  (tuple_addW0 a b #[] its2.toArray n n2 dd dd2 sl sl2 rfl) ⟨ho,ho2,⟨.ref b,H,I,rfl,q⟩⟩
end
end L2
namespace PySem
def aBr (σ:List Str) (v:Str):List Str:=if v∈σ then σ else σ++[v]
def mY (ss:List Str):List Str:=ss.foldl aBr []
theorem aDv (ss:List Str) (v:Str):mY (ss++[v])=aBr (mY ss) v:=by unfold mY;rw [List.foldl_append];rfl
theorem vX (σ:List Str) (v k:Str):k∈aBr σ v↔k∈σ∨k=v:=by
 unfold aBr;by_cases h:v∈σ
 ·rw [if_pos h];exact ⟨.inl,fun q=>q.elim id fun e=>e ▸ h⟩
 ·rw [if_neg h];simp
theorem aA3 (σ:List Str) (v:Str):(aBr σ v).length=if v∈σ then σ.length else σ.length+1:=by
 unfold aBr
 split <;> simp
theorem wQ:∀(ss σ:List Str),(ss.foldl aBr σ).length≤σ.length+ss.length
 |[],σ=>by simp
 |v::r,σ=>by
  rw [List.foldl_cons,t7];have h:=wQ r (aBr σ v);rw [aA3] at h
  split at h <;> lia
theorem aQ8 (ss:List Str):(mY ss).length≤ss.length:=by have h:=wQ ss [];unfold mY;simpa using h
theorem zM:∀(ss σ:List Str),(ss.foldl aBr σ).length=σ.length+ss.length↔ss.Nodup∧∀v∈ss,v∉σ
 |[],σ=>by simp
 |v::r,σ=>by
  rw [List.foldl_cons,t7,bDH];have hle:=wQ r (aBr σ v);have ih:=zM r (aBr σ v);rw [aA3] at ih hle;by_cases h:v∈σ
  ·rw [if_pos h] at ih hle;constructor
   ·intro q;lia
   ·intro q;exact absurd h (q.2 v t6)
  ·rw [if_neg h] at ih hle;have e:σ.length+(r.length+1)=σ.length+1+r.length:=by lia
   rw [e,ih];constructor
   ·rintro ⟨q1,q2⟩;refine ⟨⟨fun m=>q2 v m ((vX σ v v).mpr (.inr rfl)),q1⟩,fun y hy=>?_⟩;rcases List.mem_cons.mp hy with rfl|hy
    ·exact h
    ·exact fun m=>q2 y hy ((vX σ v y).mpr (.inl m))
   ·rintro ⟨⟨q1,q2⟩,q3⟩;refine ⟨q2,fun y hy m=>?_⟩;rcases (vX σ v y).mp m with m|rfl
    ·exact q3 y (m8 _ hy) m
    ·exact q1 hy
theorem aOb (ss:List Str):(mY ss).length=ss.length↔ss.Nodup:=by have h:=zM ss [];simp only [bBH,bDA,v6,not_false_eq_true,implies_true,and_true] at h;exact h
section
variable {prog:Program} {w:World}
def dD (prog:Program) (w:World) (h:Heap) (D:Addr) (ss:List Str):Prop:=h.SetOf (strKind prog w) D (fun y=>decide (y∈mY ss)) (mY ss).length
theorem dD.at {h h':Heap} {D:Addr} {ss:List Str} (x:dD prog w h D ss) (e:∀o,h.get? D=some o→h'.get? D=some o):dD prog w h' D ss:=by obtain ⟨o,es,ep,t,ho,r⟩:=x;exact ⟨o,es,ep,t,e o ho,r⟩
theorem dD.congr {h:Heap} {D:Addr} {S:Str→Bool} {n:Nat} {ss:List Str} (x:h.SetOf (strKind prog w) D S n) (e1:∀y,S y=decide (y∈mY ss)) (e2:n=(mY ss).length):dD prog w h D ss:=by have e:S=fun y=>decide (y∈mY ss):=funext e1;subst e e2;exact x
theorem aAu {A:Around} {R:Result→Shared→Prop} {I:Addr} {fp wr:List Addr} {n:Nat} {P:Nat→Value→Prop} {St:Nat→Heap→Prop} (W:Walks prog w A.in1 I fp wr n P St) (D:Addr) (hD:D∉fp)
  (ss:List Str) (hss:ss.length=n) (hval:∀i v,P i v→∃t,v=.str (ss.getD i "") t) (hb:n+1<scanBound) :
  ∀(k i:Nat) (s:Shared),i+k=n→St i s.heap→dD prog w s.heap D (ss.take i) →
   (∀h' tk,(∀b o,b∉D::wr→s.heap.get? b=some o→h'.get? b=some o)→dD prog w h' D ss→R (.ok (.ret .none)) { s with heap:=h',toks:=tk }) →
   codeAny (model prog w) A (.builtin "set.update.loop" ⟨[.ref D,.ref I],[]⟩) R s:=by
 have hDw:D∉wr:=fun q=>hD (W.sub _ q);intro k
 induction k with
 |zero=>
  intro i s hi st hS q;obtain rfl:i=n:=by lia
  refine bBG bBO ?_;rw [bBD bAZ _];show wpAny _ A.in1 (pyNext (.ref I) >>= _) _ _ _;refine c7 (W.done s _ _ st fun h' tk kp=>?_);refine j4 (q h' tk (fun b o nb e=>kp b o (fun z=>nb (m8 _ z)) e) ?_);rw [bAW (bEA hss)] at hS;exact hS.at fun o e=>kp D o hDw e
 |succ k ih=>
  intro i s hi st hS q;refine bBG bBO ?_;rw [bBD bAZ _];show wpAny _ A.in1 (pyNext (.ref I) >>= _) _ _ _;refine c7 (W.item i s _ _ (by lia) st fun v h1 tk1 hP st1 kp1=>?_);obtain ⟨t,rfl⟩:=hval i v hP;have hS1:dD prog w h1 D (ss.take i):=hS.at fun o e=>kp1 D o hDw e;show wpAny _ A.in1 (holding [Value.str (ss.getD i "") t] (setAdd D (.str (ss.getD i "") t)) >>= _) _ _ _;refine c7 (bAV ?_);unfold setAdd;refine bAV (c7 ((strKind prog w).pyHash (k:=ss.getD i "") (strKind_is _ _ _ _) ?_));have room:(mY (ss.take i)).length+1<scanBound:=by
   have h1:=aQ8 (ss.take i);have h2:(ss.take i).length≤ss.length:=by rw [bAE];exact Nat.min_le_right _ _
   lia
  refine wpAny_setAddHashed_of (knd:=strKind prog w) (strKind_is _ _ _ _) rfl hS1 room fun h2 sb2 hS2=>?_;have hlt:i<ss.length:=by lia
  have et:ss.take (i+1)=ss.take i++[ss.getD i ""]:=by rw [bBC,j0 hlt,j7,j0 hlt];rfl
  have hS3:dD prog w h2 D (ss.take (i+1)):=by
   refine dD.congr hS2 (fun y=>?_) ?_
   ·rw [et,aDv,bCD,Bool.or_eq_true,decide_eq_true_eq,decide_eq_true_eq,decide_eq_true_eq,vX]
   ·rw [et,aDv,aA3];by_cases z:ss.getD i ""∈mY (ss.take i)
    ·rw [if_pos z,if_pos (v8 z)]
    ·rw [if_neg z,if_neg (by rw [bAD z];exact v4)]
  have kp2:∀b o,b∉D::wr→s.heap.get? b=some o→h2.get? b=some o:=fun b o nb e=>by rw [sb2.2 b (fun z=>nb (by rw [z];exact t6))];exact kp1 b o (fun z=>nb (m8 _ z)) e
  refine j4 ⟨bCI bAZ _,ih (i+1) _ (by lia) (W.frame _ _ _ st1 fun b hb o e=>?_) hS3 fun h' tk kp hS'=>q h' tk (fun b o nb e=>kp b o nb (kp2 b o nb e)) hS'⟩;rw [sb2.2 b (fun z=>hD (by rw [←z];exact hb))];exact e
variable {A:Around} {E:bEM} {s:Shared}
abbrev aZ (led:Bool):Obj:={ cls:=.type "set",dict:=none,data:=.set #[] 0 (.fresh 0 0 led) }
theorem aLi {A:Around} {R:Fin→Shared→Prop} {E:bEM} {s:Shared} {l:Addr} {its:Array Value} {ss:List Str} (led:Bool) (hh:A.handled=none) (hl:s.heap.IsList l its) (hlen:ss.length=its.size)
  (hval:∀(i:Nat) (v:Value),its[i]?=some v→∃t,v=Value.str (ss.getD i "") t) (hb:its.size+1<scanBound)
  (q:∀h' tk,dD prog w h' s.heap.objs.size ss→(∀b o,b<s.heap.objs.size→s.heap.get? b=some o→h'.get? b=some o)→R (.done (.ret .none)) { s with heap:=h',toks:=tk }) :
  wpAny (model prog w) A (Builtin.«set.__init__» ⟨[.ref s.heap.objs.size,.ref l],[]⟩) R E { s with heap:=s.heap.push (aZ led) }:=by
 obtain ⟨⟨oc,od,ox,osl⟩,hol,hcl,nl,hdl⟩:=id hl;simp only at hcl hdl;subst hcl hdl;have hS:(s.heap.push (aZ led)).get? s.heap.objs.size=some (aZ led):=j5 _ rfl;have hT:Shared.TypeIs { s with heap:=s.heap.push (aZ led) } (.ref s.heap.objs.size) "set":=⟨_,hS,rfl⟩;have hol':(s.heap.push (aZ led)).get? l=some { cls:=.type "list",dict:=od,data:=.seq its nl,slots:=osl }:=d9 _ hol;have f1:=F.sub_list_set;have f2:=F.sub_list_frozenset;have f3:(Value.type "list" == Value.type "dict")=false:=by decide
 have hl1:(s.heap.push (aZ led)).IsList l its:=⟨_,hol',rfl,nl,rfl⟩;have hlt:l<s.heap.objs.size:=j8 hol;unfold Builtin.«set.__init__» noKeywords Builtin.Frozenset.updateFrom;generalize hPI:pyIter=PI;wp_walk;subst hPI;refine bBW hl1 ?_;refine c7 (wpAny_runValue ?_);have hz:(s.heap.push (aZ led)).objs.size=s.heap.objs.size+1:=bAT ..;have hne:l≠(s.heap.push (aZ led)).objs.size:=by rw [hz];exact m9 (bBB hlt)
 have hSf:s.heap.objs.size∉[(s.heap.push (aZ led)).objs.size,l]:=by rw [hz];simp only [bAB,v6,or_false,not_or];exact ⟨m9 (bCJ _),bBL hlt⟩
 refine aAu (Walks.list (by first|exact hh|simp [hh]) _ l hne its) s.heap.objs.size hSf ss hlen hval hb its.size 0 _ (by lia) ⟨⟨_,j5 _ rfl,rfl,rfl⟩,hl1.push _⟩ ?_ fun h' tk kp hS'=>?_
 ·have hg:((s.heap.push (aZ led)).push { cls:=.type "list_iterator",data:=.fields #[.ref l,.int 0 0] }).get? s.heap.objs.size=some (aZ led):=d9 _ hS;exact dD.congr ((PyProof.Rows.setObjOf_fresh (knd:=strKind prog w) led).setOf hg (by unfold scanBound;lia)) (fun _=>rfl) rfl
 ·refine j4 (j4 (q h' tk hS' fun b o hb' e=>kp b o ?_ (d9 _ (d9 _ e))));rw [hz];simp only [bAB,v6,or_false,not_or];exact ⟨m9 hb',m9 (bBB hb')⟩
theorem zN {l:Addr} {its:Array Value} {ss:List Str} {Q:bEM} (hh:A.handled=none) (hl:s.heap.IsList l its) (hlen:ss.length=its.size)
  (hval:∀(i:Nat) (v:Value),its[i]?=some v→∃t,v=Value.str (ss.getD i "") t) (hb:its.size+1<scanBound)
  (q:∀h' tk,dD prog w h' s.heap.objs.size ss→(∀b o,b<s.heap.objs.size→s.heap.get? b=some o→h'.get? b=some o)→Q (.ref s.heap.objs.size) { s with heap:=h',toks:=tk }) :
  wpAny (model prog w) A (call (.type "set") [.ref l]) Q E s:=by
 have ft:=F.called_set;obtain ⟨c,tl,hmro⟩:=ft.mro;have g1:=ft.made;have g2:=ft.sub;have g3:=ft.notType;have g4:=ft.canCreate;have g5:=F.typeCall_set_1 (.ref l);refine bCQ (bD7 (show wpAny _ _ (callAny (.type "set") _) _ _ _ from j4 ⟨Code.quiet_builtin _ (by decide +kernel),bBG F.entry_type_call ?_⟩));rw [Around.under_plain (weight_type_call_type "set" [.ref l] []) (by rfl)]
 repeat (any_goals (first|assumption|wp_step))
 refine bBM (code_set_new_1 (.ref l) (Q₁:=fun obj s1=>∃led:Bool,obj=.ref s.heap.objs.size∧s1={ s with heap:=s.heap.push (aZ led) }) (E:=E) fun led=>⟨led,rfl,rfl⟩) fun r s1 hr=>?_;rcases r with e|fl
 ·exact hr
 rcases fl with _|_|_|obj
 ·exact hr.elim
 ·exact hr.elim
 ·exact hr.elim
 obtain ⟨led,rfl,rfl⟩:=hr;have hT:Shared.TypeIs { s with heap:=s.heap.push (aZ led) } (.ref s.heap.objs.size) "set":=⟨_,j5 _ rfl,rfl⟩;have g6:=ft.init.lookup;have g7:=ft.init.bind (.ref s.heap.objs.size)
 repeat (any_goals (first|assumption|wp_step))
 refine bBM (bCB (R:=wants (fun r s2=>r=.none∧∃h' tk,s2={ s with heap:=h',toks:=tk }∧dD prog w h' s.heap.objs.size ss∧∀b o,b<s.heap.objs.size→s.heap.get? b=some o→h'.get? b=some o) E)
  ft.init.plain F.entry_set_init (check_set_init_1 hT (aLi led (by first|exact hh|simp [hh]) hl hlen hval hb fun h' tk x kp=>⟨rfl,h',tk,rfl,x,kp⟩))) fun r2 s2 hr2=>?_
 rcases r2 with e|fl
 ·exact hr2
 rcases fl with _|_|_|v
 ·exact hr2.elim
 ·exact hr2.elim
 ·exact hr2.elim
 obtain ⟨rfl,h',tk,rfl,x,kp⟩:=hr2
 repeat (any_goals (first|assumption|wp_step))
 exact q h' tk x kp
theorem aN5 {D:Addr} {ss:List Str} {Q:bEM} (x:dD prog w s.heap D ss) (q:Q (.int ((mY ss).length:Nat) (s.toks+1)) { s with toks:=s.toks+1+1 }):wpAny (model prog w) A (call (.builtin "len") [.ref D]) Q E s:=by
 obtain ⟨o,es,ep,t,ho,hex,hd,hel,hmem,hb,hf,hn⟩:=x;refine call_len_set ho hex hd hf ?_ ?_
 ·unfold scanBound at hb;lia
 ·rw [hn];exact q
end
end PySem
namespace L2
open PySem PySem.Spec PyProof.Rows
def aR9 (P:Program) (w:World) (D:Addr) (ss:List Str):HO:=.ext fun h=>dD P w h D ss
section
variable {X:Cx}
def aXk (P:Program) (w:World) (K:bEL):List V→Hp→VK→Prop:=fun xs H Q=>∃(p:Addr) (ss:List Str),xs=[.ref p]∧SqL K H p (ss.map V.str)∧ss.length≤1000∧∀D,H D=none→Q (.ref D) (upd H D (aR9 P w D ss))
theorem aJy (hc:X.calm=true):cJ X (.type "set") (aXk X.prog X.w X.K):=by
 intro bEP s σ H xs us Q I r h;obtain ⟨p,ss,rfl,hq,hl,q⟩:=h;obtain ⟨u,rfl,rx⟩:=r.one;cases rx;obtain ⟨its,rv,pl,hz⟩:=I.list hq;have hlen:=rv.length;rw [m7] at hlen;refine zN (I.ok.hd hc) pl.isList (by rw [j9];exact hlen) (fun i v hv=>?_) (by rw [j9,←hlen];unfold scanBound;lia) fun h' tk x kp=>?_
 ·have hv':its[i]?=some v:=by simpa using hv
  have hi:i<ss.length:=by rw [hlen];exact (List.getElem?_eq_some_iff.mp hv').1
  obtain ⟨u,hu,t,rfl⟩:=rv.get (i:=i) (x:=.str ss[i]) (by rw [t8,j0 hi];rfl);rw [hv'] at hu;cases hu;exact ⟨t,by rw [j7,j0 hi];rfl⟩
 ·have e:∃o,h'.get? s.heap.objs.size=some o:=by obtain ⟨o,_,_,_,ho,_⟩:=x;exact ⟨o,ho⟩
  exact ⟨.ref s.heap.objs.size,_,I.laid (o:=aR9 X.prog X.w s.heap.objs.size ss) (fun b o eo=>kp b o (j8 eo) eo) (j6 _) (show dD X.prog X.w h' s.heap.objs.size ss∧_∧_ from ⟨x,e,fun h1 h2 y k=>y.at k⟩),rfl,q _ (I.hok.fresh (j6 _))⟩
theorem aLm:cJ X (.builtin "len") (fun xs H Q=>∃(D:Addr) (ss:List Str),xs=[.ref D]∧H D=some (aR9 X.prog X.w D ss)∧Q (.int ((mY ss).length:Nat)) H):=by intro bEP s σ H xs us Q I r h;obtain ⟨D,ss,rfl,hD,q⟩:=h;obtain ⟨u,rfl,rx⟩:=r.one;cases rx;obtain ⟨x,_⟩:=I.hok D _ hD;exact aN5 x ⟨.int ((mY ss).length:Nat),H,I.tok _,⟨_,rfl⟩,q⟩
end
theorem uN {X:Cx} {scope:Scope} {x y:Str} {σ:St} {v:V} (j:Nat) (hf:(y,NameKind.free)∈scope.names) (hj:X.N[j]?=some y) (hs:σ[j]?=some (some v)) (hv:Vis X.env.scope y):Cap X scope [x,y] σ [none,some v]:=
 ⟨rfl,fun i z u h1 h2=>by
  match i,h1,h2 with
  |0,_,h2=>cases h2
  |1,h1,h2=>cases h1;cases h2;exact ⟨hf,j,hj,hs,hv⟩
  |i+2,h1,_=>cases h1⟩
theorem rQ {X:Cx} {scope:Scope} {x y:Str} {σ:St}:Cap X scope [x,y] σ [none,none]:=⟨rfl,fun i z u h1 h2=>by
  match i,h1,h2 with
  |0,_,h2=>cases h2
  |1,_,h2=>cases h2
  |i+2,h1,_=>cases h1⟩
section
variable {X:Cx} {a b e:Expr} {es:List Expr} {te:TE} {t:TA} {pos p:Pos} {x:Str}
theorem aTt {k:Nat} (hr:Room k X.A) (hf:VE X (.Name x p) te) (ha:VA X (e::es) t) (hp:cU e=true:=by rfl) (hpl:(backTo pos (starEach es X.env)).any (·.1)=false:=by rfl) :
  VE X (.Call (.Name x p) (e::es) [] pos) (aR3 X.prog X.w X.K X.mg X.base k te t):=⟨aT6 hr hf.1 ha.1 (aN hp) hpl⟩
theorem aP9 {P:Program} {w:World} {K:bEL} {mg:bEO} {base:Heap} {k:Nat} (hr:Room k X.A) (hf:VE X (.Name x p) te) (ha:VA X (e::es) t) (hp:cU e=true:=by rfl) (hpl:(backTo pos (starEach es X.env)).any (·.1)=false:=by rfl)
  (h1:X.prog=P:=by rfl) (h2:X.w=w:=by rfl) (h3:X.K=K:=by rfl) (h4:X.mg=mg:=by rfl) (h5:X.base=base:=by rfl) :
  VE X (.Call (.Name x p) (e::es) [] pos) (aR3 P w K mg base k te t):=by
 subst h1 h2 h3 h4 h5;exact aTt hr hf ha hp hpl
theorem cH {K:bEL} (h:X.K=K:=by rfl):IxR X (aZx K):=by subst h;exact aW
theorem rR {K:bEL} {k:Nat} {u:TGs} {n:Nat} (hc:X.calm=true) (h:VGs X es u) (hn:(assignEach es X.env).length=n:=by rfl) (hst:(assignEach es X.env).findIdx? (·.1)=none:=by rfl) (hK:X.K=K:=by rfl):VG X (.Tuple es k pos) (aKj K n u):=by subst hK;exact aAw hc h hn hst
theorem aU2 {elts:List Expr} {kt:Nat} {tp:Pos} (hg:Gl X "zip") (hm:X.mg "zip"=none) (ha:VA X [a,b] t) (hp:cU a=true:=by rfl) (hp2:cU b=true:=by rfl) :
  VI X (.Tuple elts kt tp) (.Call (.Name "zip" p) [a,b] [] pos) (aRr X.K t):=⟨aUa hg hm ha.1 (aN hp) (aN (es:=[]) hp2)⟩
theorem wZ {tg:Expr} {g:TG} (he:VE X e te) (hg:VG X tg g) (hs:swapsWithSole [tg] e pos.line X.env=pure false:=by rfl) (hw:swappedStores [tg] e X.env=pure none:=by rfl)
  (h1:(assignEach [tg] X.env).map (·.2)=[assign tg X.env]:=by rfl):VS X (.Assign [tg] e pos) (yI te g):=⟨aYq he.1 hg.1 hs hw h1⟩
end
section
variable {X:Cx}
def bAj:V→Option Int→Option Int→Hp→VK→Prop:=fun x lo hi H Q=>∃z,x=.str z∧z.length≤sizeLine∧Q (.str (Txt.slice z lo hi)) H
theorem aE1:SlR X bAj:=by
 intro bEP s σ H x v vl vu lo hi sl Q I rx hs pl pu h;obtain ⟨z,rfl,hz,q⟩:=h;obtain ⟨t,rfl⟩:=rx;have fin:∀l u:Option (Int × Tok),l.map (·.1)=lo→u.map (·.1)=hi→s.heap.IsSlice sl l u none→wpAny (model X.prog X.w) X.A (getItem (.str z t) (.ref sl)) (EP X bEP σ Q) X.xe s:=fun l u e1 e2 hsl=>by subst e1 e2;refine wpAny_getItem_str_slice (st:=none) hsl rfl ?_;unfold sliceMade;have hle:=Txt.slice_le z (l.map (·.1)) (u.map (·.1));exact post_val_or_str ⟨bAR hle hz,fun t' k=>⟨.str (Txt.slice z (l.map (·.1)) (u.map (·.1))),H,I.tok _,⟨_,rfl⟩,q⟩⟩
 refine ⟨"str",_,F.slot_str_getitem.lookup,typeIs_str _ _ _,?_⟩;obtain ⟨o,ho,hc,hd⟩:=hs;cases pl with
 |none=>
  cases pu with
  |none=>exact fin none none rfl rfl ⟨o,ho,hc,hd⟩
  |int j u=>exact fin none (some (j,u)) rfl rfl ⟨o,ho,hc,hd⟩
 |int i t=>
  cases pu with
  |none=>exact fin (some (i,t)) none rfl rfl ⟨o,ho,hc,hd⟩
  |int j u=>exact fin (some (i,t)) (some (j,u)) rfl rfl ⟨o,ho,hc,hd⟩
end
theorem aRv {x:Str} {j:Nat} (h:j≤x.length):(Txt.slice x none (some (j:Int))).cps.toList=x.cps.toList.take j:=by have e:=StrLaws.sliceText_to (x:=x) (j:=(j:Int)) ⟨by lia,by rw [v9];exact Int.ofNat_le.mpr h⟩;show (StrLaws.sliceText x none (some (j:Int))).cps.toList=_;rw [e];simp
theorem aJw {x:Str} {j:Nat} (h:j≤x.length):(Txt.slice x (some (j:Int)) none).cps.toList=x.cps.toList.drop j:=by have e:=StrLaws.sliceText_from (x:=x) (i:=(j:Int)) ⟨by lia,by rw [v9];exact Int.ofNat_le.mpr h⟩;show (StrLaws.sliceText x (some (j:Int)) none).cps.toList=_;rw [e];simp only [bAY];refine bAW ?_;rw [bA8];lia
def put (x:Str) (a:Nat) (c:Nat):Str:=Txt.slice x none (some (a:Int))++⟨#[c]⟩++Txt.slice x (some (a:Int)) none
theorem aE6 {x:Str} {a c:Nat} (h:a≤x.length):(put x a c).cps.toList=x.cps.toList.take a++c::x.cps.toList.drop a:=by show ((Txt.slice x none (some (a:Int))).cps++#[c]++(Txt.slice x (some (a:Int)) none).cps).toList=_;rw [bCS,bCS,aRv h,aJw h];simp
theorem aT1 {x:Str} {a c d:Nat} (h:a≤x.length) (e:put x a c=put x a d):c=d:=by have e1:=congrArg (fun y:Str=>y.cps.toList) e;simp only [aE6 h] at e1;have e2:=List.append_cancel_left e1;exact (List.cons.inj e2).1
theorem aUy {x:Str} {a c:Nat} (h:a≤x.length):(put x a c).length=x.length+1:=by
 have e:=congrArg List.length (aE6 (c:=c) h);have l:x.length=x.cps.toList.length:=by rw [v9];rfl
 rw [v9,bAC,t7,bAE,bA8] at e;show (put x a c).cps.size=_;lia
theorem aU0 {x:Str} {a c d:Nat} (h:a≤x.length) (m:d∈(put x a c).cps):d=c∨d∈x.cps:=by
 have m1:d∈(put x a c).cps.toList:=Array.mem_toList_iff.mpr m;rw [aE6 h] at m1;rcases List.mem_append.mp m1 with z|z
 ·exact .inr (Array.mem_toList_iff.mp (bD3 z))
 ·rcases List.mem_cons.mp z with z|z
  ·exact .inl z
  ·exact .inr (Array.mem_toList_iff.mp (List.mem_of_mem_drop z))
section
variable {X:Cx} {scope:Scope} {N:List Str} {wi:TI} {te:TE} {σ:St} {H:Hp} {Q:VK}
end
section
variable {X:Cx} {e:Expr} {es:List Expr} {t:TA} {pos:Pos}
def aY5 (t:TA):TE:=fun σ H Q=>t σ H fun xs H1=>xs.length≤sizeLine∧∀p H',H1 p=none→Same H1 H'→H' p=some (.tup xs)→Q (.ref p) H'
def bAe (t:TA):TE:=fun σ H Q=>t σ H fun xs H1=>xs.length≤sizeLine∧∀p H',H1 p=none→Same H1 H'→H' p=some (.lst xs)→Q (.ref p) H'
def aYi:TE:=fun _ H Q=>∀p H',H p=none→Same H H'→H' p=some (.dK [])→Q (.ref p) H'
theorem cV {x1} (h:VA X es t):VE X (.Tuple es x1 pos) (aY5 t):=⟨by intro bEP s σ H Q I hq;refine wpAny_Tuple_spliced (thn (h.1 pos bEP s σ H _ I hq) fun us s1 ⟨xs,H1,I1,r,z,q⟩=>⟨by rw [←r.length];exact z,?_⟩);have hf:H1 s1.heap.objs.size=none:=I1.hok.fresh (j6 _);refine ⟨.ref s1.heap.objs.size,upd H1 s1.heap.objs.size (.tup xs),I1.laid (t':=s1.toks) (fun b u e=>d9 _ e) (j6 _) ?_,rfl,q _ _ hf (aX hf _) aH⟩;exact ⟨z,us,r,.of (j5 _ rfl) rfl ⟨_,j5 _ rfl,rfl,_,rfl⟩⟩⟩
theorem dM (h:VA X es t):VE X (.List es pos) (bAe t):=⟨by intro bEP s σ H Q I hq;refine wpAny_List_spliced (thn (h.1 pos bEP s σ H _ I hq) fun us s1 ⟨xs,H1,I1,r,z,q⟩=>⟨by rw [←r.length];exact z,?_⟩);have hf:H1 s1.heap.objs.size=none:=I1.hok.fresh (j6 _);refine ⟨.ref s1.heap.objs.size,upd H1 s1.heap.objs.size (.lst xs),I1.laid (t':=s1.toks) (fun b u e=>d9 _ e) (j6 _) ?_,rfl,q _ _ hf (aX hf _) aH⟩;exact ⟨z,us,0,r,j5 _ rfl⟩⟩
theorem aR6:VE X (.Dict [] [] pos) aYi:=VE.imp aQg fun σ H Q h p hp=>h p _ hp (aX hp _) aH
theorem OpR.imp {f:Value→Value→Sem Value} {r r':R2} (h:OpR X f r) (k:∀x y H Q,r' x y H Q→r x y H Q):OpR X f r':=fun bEP s σ H x y v u Q I rx ry q=>h bEP s σ H x y v u Q I rx ry (k _ _ _ _ q)
theorem cJ.imp {f:Value} {r r':List V→Hp→VK→Prop} (h:cJ X f r) (k:∀xs H Q,r' xs H Q→r xs H Q):cJ X f r':=fun bEP s σ H xs us Q I rv q=>h bEP s σ H xs us Q I rv (k _ _ _ q)
def bAh (K:bEL):R2:=fun x y H Q=>∃a b xs ys,x=.ref a∧y=.ref b∧SqT K H a xs∧SqT K H b ys∧xs.length+ys.length≤sizeLine∧∀r H',Same H H'→SqT K H' r (xs++ys)→Q (.ref r) H'
theorem rH:OpR X (binaryOp .Add) (bAh X.K):=OpR.imp (aVu.or aUn) fun x y H Q ⟨a,b,xs,ys,ex,ey,ha,hb,hz,q⟩=>by
 by_cases h:xs=[]
 ·subst h;exact .inr ⟨a,b,ys,ex,ey,ha,hb,q b H (Same.refl H) hb⟩
 ·refine .inl ⟨a,b,xs,ys,ex,ey,ha,hb,h,hz,fun z=>?_,fun _ p hp=>q p _ (aX hp _) (SqT.of aH)⟩;subst z;exact q a H (Same.refl H) (by rw [bBF];exact ha)
def bA2 (K:bEL):V→Option Int→Option Int→Hp→VK→Prop:=fun x lo hi H Q=>∃a xs,x=.ref a∧SqT K H a xs ∧
 ¬ (HT.sIx xs.length 0 lo=0∧HT.sIx xs.length xs.length hi=xs.length)∧∀p H',Same H H'→H' p=some (.tup (pJ xs lo hi))→Q (.ref p) H'
theorem aD8:SlR X (bA2 X.K):=fun bEP s σ H x v vl vu lo hi sl Q I rx hs pl pu ⟨a,xs,e,ha,hn,q⟩=>
 aYz bEP s σ H x v vl vu lo hi sl Q I rx hs pl pu ⟨a,xs,e,ha,hn,fun p hp=>q p _ (aX hp _) aH⟩
def aYl:R2:=fun x y H Q=>∃l b xs zs,x=.ref l∧y=.ref b∧H l=some (.lst xs)∧H b=some (.lst zs)∧xs.length+zs.length≤sizeLine∧∀p H',H p=none→Same H H'→H' p=some (.lst (xs++zs))→Q (.ref p) H'
theorem aBv:OpR X (binaryOp .Add) aYl:=OpR.imp aXs fun x y H Q ⟨l,b,xs,zs,ex,ey,hl,hb,hz,q⟩=>⟨l,b,xs,zs,ex,ey,hl,hb,hz,fun p hp=>q p _ hp (aX hp _) aH⟩
def aRz (K:bEL):List V→Hp→VK→Prop:=fun xs H Q=>∃p ys,xs=[.ref p]∧(SqL K H p ys∨SqT K H p ys)∧∀l H',H l=none→Same H H'→H' l=some (.lst ys)→Q (.ref l) H'
theorem aA1:cJ X (.type "list") (aRz X.K):=cJ.imp aE9 fun xs H Q ⟨p,ys,e,h,q⟩=>⟨p,ys,e,h,fun l hl=>q l _ hl (aX hl _) aH⟩
def aUe (K:bEL):List V→Hp→VK→Prop:=fun xs H Q=>∃p ys,xs=[.ref p]∧SqL K H p ys∧∀l H',H l=none→Same H H'→H' l=some (.tup ys)→Q (.ref l) H'
theorem pN:cJ X (.type "tuple") (aUe X.K):=cJ.imp aCb fun xs H Q ⟨p,ys,e,h,q⟩=>⟨p,ys,e,.inl ⟨h,fun l hl=>q l _ hl (aX hl _) aH⟩⟩
theorem pC:MtR X "list.append" aMf:=wN
theorem lH {H H':Hp} {D:Addr} {o:HO} (f:H D=none) (s:Same H H'):Same H (upd H' D o):=fun b u e=>by rw [aK (aU e f)];exact s _ _ e
end
end L2
namespace PySem
section
variable {prog:Program} {w:World} {A:Around} {E:bEM} {s:Shared} {T:String} {r d:Addr} {n:Nat} {P:Nat→Value→Prop} {OK:Heap→Prop}
end
end PySem
namespace L2
open PySem PySem.Spec PyProof.Rows
section
variable {X:Cx}
end
section
variable {X:Cx} {bEP:bEN} {σ:St} {H:Hp} {s:Shared}
theorem Inv.jE {t b:Addr} {xs:List V} (I:Inv X bEP σ H s) (h:SqL X.K H t xs) (f:sH X bEP H b):t≠b:=by
 rintro rfl;obtain ⟨f0,f1,f2,f3,_⟩:=f;rcases h with (h|⟨o,h⟩)|⟨o,its,n,hk,_⟩
 ·rw [f0] at h;cases h
 ·rw [f0] at h;cases h
 ·have e:=I.ok.mod.kin t o hk;rcases f3 with z|z
  ·exact I.ok.noex t o e z
  ·exact absurd (bAA (j8 e) (bAR I.ok.bsz z)) (bBI _)
end
def Ite (K:bEL) (l:Addr) (xs:List V):It:=
 ⟨fun i H=>SqL K H l xs∧i<xs.length,fun i H v H'=>∃T a,H T=none∧v=.ref T∧H'=upd H T (.tup [.int (i:Nat),a])∧xs[i]?=some a,fun i H=>SqL K H l xs∧xs.length≤i⟩
def etn (e it l:Addr) (i:Nat) (h:Heap):Prop:=(∃old,IsEnum h e it (i:Int) old)∧h.IsListIter it l i
theorem aOl {P:Program} {w:World} {K:bEL} {elts:List Expr} {kt:Nat} {pos:Pos} {e it l:Addr} {xs:List V} (hne:e≠it) :
  Turn P w K (.Tuple elts kt pos) (Ite K l xs) [e,it] e (etn e it l) where
 mem:=by simp
 obj:=fun i h st b hb=>by
  obtain ⟨⟨old,e1⟩,o,e2,c2,d2⟩:=st;simp only [bAB,v6,or_false] at hb;rcases hb with rfl|rfl
  ·exact ⟨_,e1,fun v z=>by cases (show Data.fields _=Data.cell v from z)⟩
  ·exact ⟨_,e2,fun v z=>by rw [d2] at z;cases z⟩
 keep:=fun i h h' st k=>by obtain ⟨⟨old,e1⟩,o,e2,r⟩:=st;exact ⟨⟨old,k e (by simp) _ e1⟩,o,k it (by simp) _ e2,r⟩
 item:=by
  intro X hP hw hK hc i bEP s σ H E I hf st hg;subst hP hw hK;obtain ⟨⟨old,e1⟩,e2⟩:=st;obtain ⟨hl,l1⟩:=hg;obtain ⟨its,rv,pl,hz⟩:=I.list hl;obtain ⟨x,hx,rx⟩:=rv.get (j0 l1);have fe:=hf e (by simp);have fi:=hf it (by simp);refine wpAny_pyNext_enum_item e1 e2 pl.isList (by simpa using hx) hne fun h' a1 a2 a3 a4 kp=>?_;refine ⟨_,rfl,?_⟩;have fT:H s.heap.objs.size=none:=I.hok.fresh (j6 _);obtain ⟨oi,e2',_⟩:=id e2;obtain ⟨oi2,a2',_⟩:=id a2;have I1:Inv X bEP σ (upd H s.heap.objs.size (.tup [.int (i:Nat),xs[i]])) { s with heap:=h' }:=by
   refine I.drawn (ch:=[e,it]) (its:=[.int i s.toks,x]) (fun b hb=>hf b hb) (fun b o hb z=>?_) (j6 _) (.cons ⟨_,rfl⟩ (.cons rx .nil)) (small (by simp)) (.of a3 rfl ⟨_,a3,rfl,_,rfl⟩) (fun b hb=>?_)
   ·simp only [bAB,v6,or_false,not_or] at hb;exact kp b o hb.1 hb.2 z
   ·simp only [bAB,v6,or_false] at hb;rcases hb with rfl|rfl
    ·exact ⟨_,a1⟩
    ·exact ⟨_,a2'⟩
  have I1':Inv X bEP σ (upd H s.heap.objs.size (.tup [.int (i:Nat),xs[i]])) { s with heap:=h',toks:=s.toks+1 }:=I1.tok _;have nT:∀b∈[e,it],b≠s.heap.objs.size:=fun b hb=>by
   simp only [bAB,v6,or_false] at hb;rcases hb with rfl|rfl
   ·exact m9 (j8 e1)
   ·exact m9 (j8 e2')
  refine wpAny_letOwnedTupleGo_enum (s:={ s with heap:=h',toks:=s.toks+1 }) a1 fun h2 z2 s2=>?_;obtain ⟨g0,g1,g2,g3,g4,g5⟩:=fe;have I2:Inv X bEP σ (upd H s.heap.objs.size (.tup [.int (i:Nat),xs[i]])) { s with heap:=h2,toks:=s.toks+1 }:=Inv.turned (s:={ s with heap:=h',toks:=s.toks+1 }) I1' (t':=s.toks+1) (it:=e) (fun b o hb z=>(s2.2 b hb).trans z) (by rw [aK (nT e (by simp))];exact g0) g1 g3 g4 g5;refine ⟨.ref s.heap.objs.size,_,I2,rfl,⟨_,_,fT,rfl,rfl,j0 l1⟩,⟨⟨x,?_⟩,?_⟩,fun b hb=>by rw [aK (nT b hb)];exact (hf b hb).1⟩
  ·rw [show ((i+1:Nat):Int)=(i:Int)+1 from by lia];exact z2
  ·obtain ⟨o,ho,r⟩:=a2;exact ⟨o,(s2.2 it (Ne.symm hne)).trans ho,r⟩
 done:=by intro X hP hw hK hc i bEP s σ H E I hf st hg;subst hP hw hK;obtain ⟨⟨old,e1⟩,e2⟩:=st;obtain ⟨hl,hi⟩:=hg;obtain ⟨its,rv,pl,hz⟩:=I.list hl;have hlen:=rv.length;refine wpAny_pyNext_enum_end (I.ok.hd hc) e1 e2 pl.isList (by simp;lia) fun h' kp=>⟨rfl,?_⟩;refine Inv.aFa (ch:=[it]) I (fun b hb=>hf b (m8 _ hb)) fun b o hb z=>kp b o (by simpa using hb) z
 self:=fun _ _ _ _ _ st h=>by obtain ⟨⟨old,e1⟩,_⟩:=st;exact wpAny_pyIter_enum e1 h
section
variable {X:Cx}
def aV0 (K:bEL) (ta:TA):TI:=fun σ H R=>ta σ H fun vs H1=>∃l xs,vs=[.ref l]∧SqL K H1 l xs∧R (Ite K l xs) H1
theorem aTe {elts:List Expr} {kt:Nat} {tp:Pos} {a:Expr} {ta:TA} {p pos:Pos} (hg:Gl X "enumerate") (hm:X.mg "enumerate"=none) (ha:PA X [a] ta) (hs:starEach [a] X.env=[(false,eval a X.env)]:=by rfl) :
  PI X (.Tuple elts kt tp) (.Call (.Name "enumerate" p) [a] [] pos) (aV0 X.K ta):=by
 intro bEP s σ H R I h;refine Call_ (oY I hg hm aF5 (bBK (thn (ha pos bEP s σ H _ I h) fun us s1 ⟨vs,H1,I1,r1,q1⟩=>?_) hs (by rfl)));obtain ⟨l,xs,e,hl,q⟩:=q1;subst e;obtain ⟨its,rv,pl,hz⟩:=I1.list hl;obtain ⟨u,rfl,ru⟩:=vals1 r1;cases ru;refine call_enumerate_list pl.isList fun h' a1 a2 a3 kp=>?_;have I2:Inv X bEP σ H1 { s1 with heap:=h' }:=I1.kept (t':=s1.toks) kp;refine wpAny_pyIter_enum (s:={ s1 with heap:=h' }) a1 ⟨_,_,_,_,H1,rfl,I2,aOl (xs:=xs) (l:=l) (bBL (bCJ _)),⟨⟨_,a1⟩,a2⟩,fun b hb=>?_,q⟩;have hb':s1.heap.objs.size≤b:=by
  simp only [bAB,v6,or_false] at hb;rcases hb with rfl|rfl
  ·exact bCW _
  ·exact j6 _
 exact I1.aFh hb' (I1.hok.fresh hb')
theorem aPt {K:bEL} {l:Addr} {xs:List V} {g:TG} {tb:TS} {D:Ends} {σ:St} {H:Hp} (Pv:Nat→St→Hp→Prop) (h0:Pv 0 σ H) (hl:∀i σ H,i≤xs.length→Pv i σ H→SqL K H l xs)
  (hs:∀i σ H a T H',xs[i]?=some a→Pv i σ H→H T=none→H'=upd H T (.tup [.int (i:Nat),a])→g (.ref T) σ H' fun σ2 H2=>tb { D with nx:=Pv (i+1),ct:=Pv (i+1),bk:=D.nx } σ2 H2) (hd:∀σ H,Pv xs.length σ H→D.nx σ H) :
  ∃W:Nat→Nat→St→Hp→Prop,(∃m,W 0 m σ H)∧∀i m σ H,W i m σ H →
   ((Ite K l xs).stop i H∧D.nx σ H)∨((Ite K l xs).go i H∧∃N:St→Hp→Prop,(∀σ' H',N σ' H'→∃m',m'<m∧W (i+1) m' σ' H')∧∀x H',(Ite K l xs).yld i H x H'→g x σ H' fun σ2 H2=>tb { D with nx:=N,ct:=N,bk:=D.nx } σ2 H2):=by
 refine ⟨fun i m σ H=>m=xs.length - i∧i≤xs.length∧Pv i σ H,⟨xs.length,by simp,bAL _,h0⟩,?_⟩;rintro i m σ H ⟨rfl,hi,p⟩;by_cases hlt:i<xs.length
 ·refine .inr ⟨⟨hl i σ H hi p,hlt⟩,Pv (i+1),fun σ' H' p'=>⟨xs.length - (i+1),by lia,rfl,hlt,p'⟩,fun x H' y=>?_⟩;obtain ⟨T,a,hT,rfl,e,ha⟩:=y;exact hs i σ H a T H' ha p hT e
 ·have e:i=xs.length:=by lia
  subst e;exact .inl ⟨⟨hl _ σ H hi p,j6 _⟩,hd σ H p⟩
end
section
variable {X:Cx} {a c e:Expr} {st:Stmt} {body:List Stmt} {tc:TT} {tb:TS} {t:TA} {te:TE} {pos p:Pos}
theorem jP:VS X st aSo:=⟨aQn⟩
theorem aVg {elts:List Expr} {kt:Nat} {tp:Pos} (hg:Gl X "enumerate") (hm:X.mg "enumerate"=none) (ha:VA X [a] t) (hp:cU a=true:=by rfl) :
  VI X (.Tuple elts kt tp) (.Call (.Name "enumerate" p) [a] [] pos) (aV0 X.K t):=⟨aTe hg hm ha.1 (aN (es:=[]) hp)⟩
theorem aY0 {o:Expr} {to:TE} {name:Str} {apos cpos:Pos} {T id:String} {r:V→List V→Hp→VK→Prop} (pa:PlainAttrs T) (slot:Slot T name id) (hty:typeOf (.builtin id)=pure (.type "method_descriptor")) (hm:MtR X id r) (ho:VE X o to)
  (hbase:attributeBase o name X.env (eval o X.env)=eval o X.env:=by rfl) (hline:(apos.endLine == cpos.line)=true:=by rfl):VE X (.Call (.Attribute o name apos) [] [] cpos) (aZv X.K T r to):=⟨aWn pa slot hty hm ho.1 hbase hline⟩
end
section
variable {P:Program} {w:World} {K:bEL} {mg:bEO} {base:Heap}
end
section
variable {X:Cx} {scope:Scope} {N:List Str} {wi:TI} {te:TE} {σ:St} {H:Hp} {Q:VK}
theorem aOc (xs:List V) (Rel:Nat→Hp→V→Prop) (st:∀{i H1 H2 y},Same H1 H2→Rel i H1 y→Rel i H2 y) (su:∀{i H1 D ys zs y},H1 D=some (.lst ys)→Rel i H1 y→Rel i (upd H1 D (.lst zs)) y)
  (σ0:St) (cap:Cap X scope N σ σ0) (hsz:xs.length≤sizeLine)
  (hw:∀R:It→Hp→Prop,(∀J:It,(∀H' i x,Same H H'→xs[i]?=some x→J.go i H'∧∀y H2,J.yld i H' y H2→H2=H'∧y=x)→(∀H',Same H H'→J.stop xs.length H')→R J H)→wi σ H R)
  (he:∀(i:Nat) (x:V),xs[i]?=some x→∀H' R l,Same H H'→(∀y H2,Same H' H2→Rel i H2 y→R y H2)→te ((σ0.set 0 l).set 0 (some x)) H' R) (h0:σ0[0]?=some none)
  (q:∀D H' ys,Same H H'→H' D=some (.lst ys)→ys.length=xs.length→(∀(i:Nat) (y:V),ys[i]?=some y→Rel i H' y)→Q (.ref D) H') :
  jW X scope N wi (cO 0) nG te σ H Q:=by
 refine ⟨σ0,cap,hw _ fun J go stop D hD=>?_⟩;refine ⟨fun i m σ' H' ys=>i≤xs.length∧m=xs.length - i∧(∃l,σ'=σ0.set 0 l)∧Same H H'∧H' D=some (.lst ys)∧ys.length=i∧∀(j:Nat) (y:V),ys[j]?=some y→Rel j H' y,⟨xs.length,bAL _,rfl,⟨none,kZ h0⟩,aX hD _,aH,rfl,fun j y e=>by simp at e⟩,?_⟩;rintro i m σ' H' ys ⟨hi,rfl,⟨l,rfl⟩,sm,hL,hl,hR⟩;refine ⟨hL,?_⟩;by_cases hlt:i<xs.length
 ·right;obtain ⟨g1,g2⟩:=go H' i xs[i] sm (j0 hlt);refine ⟨g1,fun x H2 hy=>?_⟩;obtain ⟨rfl,rfl⟩:=g2 x H2 hy;unfold cO nG;dsimp only;rw [if_pos rfl];refine he i xs[i] (j0 hlt) _ _ l sm fun y H3 s3 r3=>⟨s3 _ _ hL,by lia,xs.length - (i+1),by lia,hlt,rfl,⟨some xs[i],?_⟩,?_,aH,?_,?_⟩
  ·rw [bBZ]
  ·intro b o e;rw [aK (aU e hD)];exact s3 _ _ (sm _ _ e)
  ·rw [bAC,bDT,hl]
  ·intro j z ez;refine su (s3 _ _ hL) ?_;by_cases hj:j<ys.length
   ·rw [bB4 hj] at ez;exact st s3 (hR j z ez)
   ·rw [bBX (by lia)] at ez;have hj0:j - ys.length=0:=by
     by_cases z0:j - ys.length=0
     ·exact z0
     ·rw [bAO (by simp;lia)] at ez;cases ez
    have hj1:j=i:=by lia
    subst hj1;rw [hj0] at ez;cases ez;exact r3
 ·left;have e:i=xs.length:=by lia
  subst e;exact ⟨stop _ sm,q D _ ys sm hL hl hR⟩
theorem aTf (xs ys:List V) (hly:ys.length=xs.length) (σ0:St) (cap:Cap X scope N σ σ0) (hsz:xs.length≤sizeLine)
  (hw:∀R:It→Hp→Prop,(∀J:It,(∀H' i x,Same H H'→xs[i]?=some x→J.go i H'∧∀y H2,J.yld i H' y H2→H2=H'∧y=x)→(∀H',Same H H'→J.stop xs.length H')→R J H)→wi σ H R)
  (he:∀(i:Nat) (x y:V),xs[i]?=some x→ys[i]?=some y→∀H' R l,Same H H'→(∀H2,Same H' H2→R y H2)→te ((σ0.set 0 l).set 0 (some x)) H' R) (h0:σ0[0]?=some none)
  (q:∀D H',Same H H'→H' D=some (.lst ys)→Q (.ref D) H') :
  jW X scope N wi (cO 0) nG te σ H Q:=by
 refine aOc xs (fun i _ y=>ys[i]?=some y) (fun _ h=>h) (fun _ h=>h) σ0 cap hsz hw (fun i x ex H' R l sm r=>?_) h0 fun D H' zs sm hD hl hR=>?_
 ·have hi:i<ys.length:=by rw [hly];exact (List.getElem?_eq_some_iff.mp ex).1
  exact he i x ys[i] ex (j0 hi) H' R l sm fun H2 s2=>r _ H2 s2 (j0 hi)
 ·have e:zs=ys:=by
   refine bBY fun i=>?_;by_cases hi:i<zs.length
   ·rw [hR i zs[i] (j0 hi),j0 hi]
   ·rw [bAO (by lia),bAO (by lia)]
  subst e;exact q D H' sm hD
end
section
variable {X:Cx} {tg e o i:Expr} {te td ty:TE} {pos:Pos}
theorem aEn (hu:X.A.units+1<cLine) (ho:VE X o td) (hi:VE X i ty) (hs:aXy i):VE X (.Subscript o i pos) (aV3 td ty):=⟨aTd hu ho.1 hi.1 hs⟩
end
theorem aOz {X:Cx} {i o:Expr} {td ty:TE} {pos:Pos} (hu:X.A.units+1<cLine) (hi:VE X i ty) (ho:VE X o td) (h1:behindInMarks .NotIn o=false:=by first|exact nobehind _ (by decide) (by decide)|rfl):VT X (.Compare i [.NotIn] [o] pos) (tB (aM4 ty td)):=⟨aRm (aOy hu hi.1 ho.1) h1⟩
end L2
namespace L2
open PySem PySem.Spec PyProof.Rows
def sel {α:Type} (p:Nat→Bool):Nat→List α→List α
 |_,[]=>[]
 |i,x::r=>if p i then x::sel p (i+1) r else sel p (i+1) r
theorem aBi {α:Type} (p:Nat→Bool) (x:α):∀(k:Nat) (xs:List α),sel p k (xs++[x])=sel p k xs++(if p (k+xs.length) then [x] else [])
 |k,[]=>by show (if p k then x::sel p (k+1) [] else sel p (k+1) [])=[]++(if p (k+0) then [x] else []);rw [Nat.add_zero,bCF];rfl
 |k,y::r=>by
  show (if p k then y::sel p (k+1) (r++[x]) else sel p (k+1) (r++[x]))=(if p k then y::sel p (k+1) r else sel p (k+1) r)++_;rw [aBi p x (k+1) r,t7,show k+1+r.length=k+(r.length+1) by lia]
  split <;> rfl
theorem aD3 {α:Type} (p:Nat→Bool):∀(k:Nat) (xs:List α),(sel p k xs).length≤xs.length
 |_,[]=>j6 _
 |k,y::r=>by
  have:=aD3 p (k+1) r;show (if p k then y::sel p (k+1) r else sel p (k+1) r).length≤r.length+1
  split
  ·rw [t7];lia
  ·lia
section
variable {X:Cx} {scope:Scope} {N:List Str} {wi:TI} {te:TE} {σ:L2.St} {H:Hp} {Q:VK}
end
theorem aTb {X:Cx} {i0:Nat} {x0:Str} {pos' spos:Pos} {elt target iter:Expr} {ifs:List Expr} {scope:Scope} {pos:Pos} {N:List Str} {wi:TI} {g:TG} {tt:TT} {te:TE}
  (hN:X.N.Nodup) (hi0:X.N[i0]?=some x0) (hx0:Loc X.env.scope x0) (C:aAg scope N) (hfr:∀y,(y,NameKind.free)∈scope.names→X.env.kindOf y=some .cell∨X.env.kindOf y=some .free) (hc:X.calm=true)
  (hi:PI X target iter wi)
  (hb:∀cl s H fp,PG (cxC X N scope cl s H fp) target g∧aQd (cxC X N scope cl s H fp) ifs tt∧PE (cxC X N scope cl s H fp) elt te)
  (hs:∀x,foldedSetIterable iter X.env x=pure x:=by intro _;rfl) (hsw:swapsWith (.ListComp elt [⟨target,iter,ifs,0⟩] scope pos) (some (.Name x0 pos')) spos.line X.env=pure true:=by rfl)
  (hf:X.fn x0=true∨X.env.scope.names.lookup x0=some .local:=by first|exact .inl rfl|exact .inr rfl|assumption) :
  PS X (.Assign [.Name x0 pos'] (.ListComp elt [⟨target,iter,ifs,0⟩] scope pos) spos) (yI (jW X scope N wi g tt te) (cO i0)):=by
 intro bEP s σ H Dn I hq;obtain ⟨σ0,cap,hq⟩:=hq;obtain ⟨cl,hcl,p1,p2⟩:=aAy (scope:=scope) (env:=X.env) (fun y hy hk=>by obtain ⟨n,k⟩:=y;cases hk;exact I.ok.has n (hfr n hy))
 rw [exec_Assign_Name_used _ _ _ _ hsw];refine c7 (bDD (c7 ?_));show wpAny _ X.A (do let _ ←comprehension (.ListComp elt [⟨target,iter,ifs,0⟩] scope pos) scope X.env _ (newList []) false (eval iter X.env) (some (assign (.Name x0 pos') X.env))) _ _ s;refine c7 (bA4 (wpAny_comprehension_free (use:=some (assign (.Name x0 pos') X.env)) (Q:=fun _ s'=>SP X bEP Dn .next s') rfl hs hcl C.kind C.names (thn (hi bEP s σ H _ I hq) fun xv s1 h1=>thn h1 fun itv s2 h2=>?_))
  (fun _ s' hq=>j4 (j4 hq)) fun _ _ e=>e)
 obtain ⟨it,fp,tn,J,H2,rfl,I2,T,st2,f2,q2⟩:=h2;refine bAJ (bD1 C.cell (by intro y hy;simp at hy) (fun h₁ hns₁ hsb₁=>?_) C.kind);dsimp only at hns₁ hsb₁ ⊢;have hD:H2 s2.heap.objs.size=none:=I2.hok.fresh (j6 _);have I3:Inv X bEP σ (upd H2 s2.heap.objs.size (.lst [])) { s2 with heap:=s2.heap.push { cls:=.type "list",dict:=none,data:=.seq ([]:List Value).toArray } }:=
  I2.laid (t':=s2.toks) (fun b u e=>d9 _ e) (j6 _) ⟨bAL _,[],0,.nil,j5 _ rfl⟩
 generalize hs3:({ s2 with heap:=s2.heap.push { cls:=.type "list",dict:=none,data:=.seq ([]:List Value).toArray } }:Shared)=s3 at I3;have hh3:s2.heap.push { cls:=.type "list",dict:=none,data:=.seq ([]:List Value).toArray }=s3.heap:=by rw [←hs3]
 rw [hh3] at hns₁ hsb₁;have fl2:∀b∈fp,b<s2.heap.objs.size:=fun b hb=>by obtain ⟨o,e,_⟩:=T.obj _ _ st2 b hb;exact j8 e
 have fl3:∀b∈fp,b<s3.heap.objs.size:=fun b hb=>by rw [←hh3,bAT];exact bBB (fl2 b hb)
 have f3:∀b∈fp,sH X bEP (upd H2 s2.heap.objs.size (.lst [])) b:=fun b hb=>by obtain ⟨f0,fr⟩:=f2 b hb;exact ⟨by rw [aK (m9 (fl2 b hb))];exact f0,fr⟩
 have keep3:∀b o,s3.heap.get? b=some o→h₁.get? b=some o:=fun b o e=>hsb₁.extBut b o (m9 (j8 e)) (d9 _ e);have I4:=aH6 (tk:=s3.toks) I3 C hfr p1 p2 cap f3 fl3 hns₁ keep3;have st4:tn 0 h₁:=T.keep _ _ _ st2 fun b hb o e=>keep3 b o (by rw [←hh3];exact d9 _ e);obtain ⟨W,⟨m0,w0⟩,turn⟩:=q2 s2.heap.objs.size hD;have fpc:∀{H':Hp},(∀b∈fp,H' b=none)→∀b∈fp,sH (cxC X N scope cl s3 (upd H2 s2.heap.objs.size (.lst [])) fp) [] H' b:=fun {H'} hn b hb=>by obtain ⟨e1,e2⟩:=I4.ok.exf b hb;exact ⟨hn b hb,e1,I4.ok.exfs b hb,.inl hb,e2,fun p hp=>absurd (show p∈([]:bEN) from hp) (by simp)⟩
 have loop:∀s4:Shared,s4={ s3 with heap:=h₁,toks:=s3.toks } →
   codeAny (model X.prog X.w) X.A (.compLoop (.ListComp elt [⟨target,iter,ifs,0⟩] scope pos) 0 (.ref it) (.ref s2.heap.objs.size) (compEnvC scope cl s3.heap.objs.size X.env))
    (compPost (model X.prog X.w) X.A X.xe (some (assign (.Name x0 pos') X.env)) (fun _ s'=>SP X bEP Dn .next s') (.ref s2.heap.objs.size) s3.heap.objs.size) s4:=by
  rintro s4 rfl;refine aDn (fun n s'=>∃i σ' H' ys,Inv (cxC X N scope cl s3 (upd H2 s2.heap.objs.size (.lst [])) fp) [] σ' H' s'∧tn i s'.heap∧(∀b∈fp,H' b=none)∧W i n σ' H' ys) ?_ m0 ⟨0,σ0,_,[],I4,st4,fun b hb=>(f3 b hb).1,w0⟩;rintro n s5 ⟨i,σ5,H5,ys,I5,st5,fr5,w5⟩;obtain ⟨hacc,w5⟩:=turn i n σ5 H5 ys w5;have noE:∀{α:Type} {t:Sem α} {Q':α→Shared→Prop} {E':bEM} {s':Shared},wpAny (model X.prog X.w) X.A t Q' (fun _ _=>False) s'→wpAny (model X.prog X.w) X.A t Q' E' s':=fun h=>bA4 h (fun _ _ q=>q) fun _ _ z=>z.elim;rcases w5 with ⟨stop,qn⟩|⟨go,step⟩
  ·refine noE (thn (T.done (cxC X N scope cl s3 (upd H2 s2.heap.objs.size (.lst [])) fp) rfl rfl rfl hc i [] s5 σ5 H5 _ I5 (fpc fr5) st5 stop) fun r s6 ⟨hr,I6⟩=>?_);subst hr;obtain ⟨m6,hn6,_⟩:=I6.loc;have kp:∀b o,b≠s3.heap.objs.size→s6.heap.get? b=some o→s6.heap.get? b=some o:=fun b o hb e=>e;have ne3:∀b o,s3.heap.get? b=some o→b≠s3.heap.objs.size:=fun b o e=>m9 (j8 e);have un:Un (frs X.stack) fp (upd H2 s2.heap.objs.size (.lst [])) H5 s3.heap s6.heap:=by
    have u:=I6.base;exact ⟨fun b o e n hb hx=>kp b o (ne3 b o e) (u.keep b o e n hb hx),fun b o e n hb hx=>by
     obtain ⟨sl,e1⟩:=u.slot b o e n hb hx;exact ⟨sl,kp b _ (ne3 b o e) e1⟩,u.free,fun b o e hx=>by
     obtain ⟨o',e1⟩:=u.there b o e hx;exact ⟨o',kp b _ (ne3 b o e) e1⟩,u.tups,u.frzs,u.tbls⟩
   have hok:HOk X.prog X.w H5 s6.heap:=fun b u e=>by
    refine (I6.hok b u e).stay (fun c v hc' q=>kp c v ?_ q) (fun _ q=>q) fun _ _ q=>q;have hfree:H5 s3.heap.objs.size=none:=I6.free;rintro rfl;rcases hc' with z|z
    ·rw [z] at hfree;rw [hfree] at e;cases e
    ·rw [hfree] at z;cases z
   have I7:Inv X bEP σ H5 s6:=by refine I3.call' (s':=s6) I6.os un hok I6.bare fun b hb=>?_;obtain ⟨f0,f1,f2',f3',f4,f5⟩:=f3 b hb;exact ⟨f3',f1,f4,f5⟩
   have hfree:H5 s3.heap.objs.size=none:=I6.free;obtain ⟨g0,g1,g2,g3,g4,g5⟩:=I3.aFh (j6 _) hfree;show wpAny (model X.prog X.w) X.A (assign (.Name x0 pos') X.env (.ref s2.heap.objs.size)) _ _ s6;refine wpAny_assign_Name (aDk I7 hN hi0 hx0 (v:=.ref s2.heap.objs.size) rfl (fun s8 I8 ⟨a,sb,ha⟩=>?_) hf);have nea:s3.heap.objs.size≠a:=by
    rcases ha with z|z
    ·rw [z];exact g1
    ·exact fun e=>g4 x0 a z e.symm
   refine ⟨m6,hn6.sameBut sb nea,fun h' sb'=>?_⟩;exact ⟨_,H5,Inv.turned I8 (t':=s8.toks) (it:=s3.heap.objs.size) (fun b o hb e=>sb'.extBut b o hb e) g0 g1 g3 g4 g5,qn⟩
  ·refine noE (thn (T.item (cxC X N scope cl s3 (upd H2 s2.heap.objs.size (.lst [])) fp) rfl rfl rfl hc i [] s5 σ5 H5 (fun _ _=>False) I5 (fpc fr5) st5 go) fun r s6 ⟨u,hr,h6⟩=>?_);subst hr;refine noE (thn h6 fun _ s7 ⟨x,H7,I7,r7,y7,st7,fr7⟩=>?_);obtain ⟨hg,ht,he⟩:=hb cl s3 (upd H2 s2.heap.objs.size (.lst [])) fp;have I7':=I7.pinned (fpc fr7) (T.obj _ _ st7);have back:∀{σ8:St} {H8:Hp} {s8:Shared},Inv (cxC X N scope cl s3 (upd H2 s2.heap.objs.size (.lst [])) fp) ([]++wD fp s7.heap) σ8 H8 s8→tn (i+1) s8.heap∧∀b∈fp,H8 b=none:=fun {σ8 H8 s8} I8=>
    ⟨T.keep _ _ _ st7 fun b hb o e=>(I8.pin (b,o) (bAF _ (bAF _ (jG hb e)))).1,fun b hb=>by obtain ⟨o,e,d⟩:=T.obj _ _ st7 b hb;exact (I8.pin (b,o) (bAF _ (bAF _ (jG hb e)))).2.1⟩
   refine noE (thn (hg _ s7 σ5 H7 x u _ I7' r7 (step x H7 y7)) fun _ s8 ⟨σ8,H8,I8,q8⟩=>?_);refine noE (thn (ht _ s8 σ8 H8 _ I8 q8) fun b s9 ⟨H9,I9,q9⟩=>?_);cases b with
   |false=>rw [if_neg v4] at q9 ⊢;obtain ⟨_,m',hm,w9⟩:=q9;exact ⟨m',hm,i+1,σ8,H9,ys,I9.lQ,(back I9).1,(back I9).2,w9⟩
   |true=>rw [if_pos rfl] at q9 ⊢;refine noE (thn (he _ s9 σ8 H9 _ I9 q9) fun yv s10 ⟨y,H10,I10,r10,hacc10,hlen,m',hm,w10⟩=>?_);refine noE (thn (wN _ s10 σ8 H10 (.ref s2.heap.objs.size) [y] (.ref s2.heap.objs.size) [yv] (fun _ H11=>H11=upd H10 s2.heap.objs.size (.lst (ys++[y]))) I10 rfl (.cons r10 .nil) ⟨_,_,_,rfl,rfl,hacc10,hlen,rfl⟩) fun _ s11 ⟨z,H11,I11,_,e11⟩=>?_);subst e11;exact ⟨m',hm,i+1,σ8,_,ys++[y],I11.lQ,(back I11).1,(back I11).2,w10⟩
 have fin:=codeAny_compStart_list (loop { s3 with heap:=h₁,toks:=s3.toks } rfl) (T.self _ _ _ _ _ st4 (loop { s3 with heap:=h₁,toks:=s3.toks } rfl));subst hs3;exact fin
theorem aNh {X:Cx} {i0:Nat} {x0:Str} {pos' spos:Pos} {elt target iter:Expr} {ifs:List Expr} {scope:Scope} {pos:Pos} {N:List Str} {wi:TI} {g:TG} {tt:TT} {te:TE}
  (hN:X.N.Nodup) (hi0:X.N[i0]?=some x0) (hx0:Loc X.env.scope x0) (C:aAg scope N) (hfr:∀y,(y,NameKind.free)∈scope.names→X.env.kindOf y=some .cell∨X.env.kindOf y=some .free) (hc:X.calm=true)
  (hi:VI X target iter wi)
  (hb:∀cl s H fp,VG (cxC X N scope cl s H fp) target g∧VF (cxC X N scope cl s H fp) ifs tt∧VE (cxC X N scope cl s H fp) elt te)
  (hs:∀x,foldedSetIterable iter X.env x=pure x:=by intro _;rfl) (hsw:swapsWith (.ListComp elt [⟨target,iter,ifs,0⟩] scope pos) (some (.Name x0 pos')) spos.line X.env=pure true:=by rfl)
  (hf:X.fn x0=true∨X.env.scope.names.lookup x0=some .local:=by first|exact .inl rfl|exact .inr rfl|assumption) :
  VS X (.Assign [.Name x0 pos'] (.ListComp elt [⟨target,iter,ifs,0⟩] scope pos) spos) (yI (jW X scope N wi g tt te) (cO i0)):=
 ⟨aTb hN hi0 hx0 C hfr hc hi.1 (fun cl s H fp=>⟨(hb cl s H fp).1.1,(hb cl s H fp).2.1.1,(hb cl s H fp).2.2.1⟩) hs hsw hf⟩
section
variable {te:TE} {H:Hp} {Q:VK}
theorem aLq (xs:List V) (Rel:Nat→Hp→V→Prop) (st:∀{i H1 H2 y},Same H1 H2→Rel i H1 y→Rel i H2 y) (su:∀{i H1 D ys zs y},H1 D=some (.lst ys)→Rel i H1 y→Rel i (upd H1 D (.lst zs)) y)
  (σ0:St) (hsz:xs.length≤sizeLine)
  (J:It) (go:∀H' i x,Same H H'→xs[i]?=some x→J.go i H'∧∀y H2,J.yld i H' y H2→H2=H'∧y=x) (stop:∀H',Same H H'→J.stop xs.length H')
  (he:∀(i:Nat) (x:V),xs[i]?=some x→∀H' R l,Same H H'→(∀y H2,Same H' H2→Rel i H2 y→R y H2)→te ((σ0.set 0 l).set 0 (some x)) H' R) (h0:σ0[0]?=some none)
  (q:∀D H' ys,Same H H'→H' D=some (.lst ys)→ys.length=xs.length→(∀(i:Nat) (y:V),ys[i]?=some y→Rel i H' y)→Q (.ref D) H') :
  ∀D,H D=none→∃W:Nat→Nat→St→Hp→List V→Prop,(∃m,W 0 m σ0 (upd H D (.lst [])) []) ∧
   ∀i m σ' H' ys,W i m σ' H' ys→H' D=some (.lst ys)∧((J.stop i H'∧Q (.ref D) H')∨(J.go i H'∧∀x H2,J.yld i H' x H2→cO 0 x σ' H2 fun σ3 H3=>nG σ3 H3 fun b H4=>
    if b=true then te σ3 H4 fun y H5=>H5 D=some (.lst ys)∧ys.length<sizeLine∧∃m',m'<m∧W (i+1) m' σ3 (upd H5 D (.lst (ys++[y]))) (ys++[y]) else H4 D=some (.lst ys)∧∃m',m'<m∧W (i+1) m' σ3 H4 ys)):=by
 intro D hD;refine ⟨fun i m σ' H' ys=>i≤xs.length∧m=xs.length - i∧(∃l,σ'=σ0.set 0 l)∧Same H H'∧H' D=some (.lst ys)∧ys.length=i∧∀(j:Nat) (y:V),ys[j]?=some y→Rel j H' y,⟨xs.length,bAL _,rfl,⟨none,kZ h0⟩,aX hD _,aH,rfl,fun j y e=>by simp at e⟩,?_⟩;rintro i m σ' H' ys ⟨hi,rfl,⟨l,rfl⟩,sm,hL,hl,hR⟩;refine ⟨hL,?_⟩;by_cases hlt:i<xs.length
 ·right;obtain ⟨g1,g2⟩:=go H' i xs[i] sm (j0 hlt);refine ⟨g1,fun x H2 hy=>?_⟩;obtain ⟨rfl,rfl⟩:=g2 x H2 hy;unfold cO nG;dsimp only;rw [if_pos rfl];refine he i xs[i] (j0 hlt) _ _ l sm fun y H3 s3 r3=>⟨s3 _ _ hL,by lia,xs.length - (i+1),by lia,hlt,rfl,⟨some xs[i],?_⟩,?_,aH,?_,?_⟩
  ·rw [bBZ]
  ·intro b o e;rw [aK (aU e hD)];exact s3 _ _ (sm _ _ e)
  ·rw [bAC,bDT,hl]
  ·intro j z ez;refine su (s3 _ _ hL) ?_;by_cases hj:j<ys.length
   ·rw [bB4 hj] at ez;exact st s3 (hR j z ez)
   ·rw [bBX (by lia)] at ez;have hj0:j - ys.length=0:=by
     by_cases z0:j - ys.length=0
     ·exact z0
     ·rw [bAO (by simp;lia)] at ez;cases ez
    have hj1:j=i:=by lia
    subst hj1;rw [hj0] at ez;cases ez;exact r3
 ·left;have e:i=xs.length:=by lia
  subst e;exact ⟨stop _ sm,q D _ ys sm hL hl hR⟩
end
section
variable {K:bEL}
theorem aK8 {a:Addr} {xs:List V} {H:Hp} (hS:∀H',Same H H'→SqL K H' a xs):∀H' i x,Same H H'→xs[i]?=some x→(Itl K a).go i H'∧∀y H2,(Itl K a).yld i H' y H2→H2=H'∧y=x:=fun H' i x s e=>
 ⟨⟨xs,x,hS H' s,e⟩,fun y H2 hy=>by obtain ⟨e1,e2⟩:=hy;have e3:=e2 xs (hS H' s);rw [e] at e3;cases e3;exact ⟨e1,rfl⟩⟩
theorem aBf {a:Addr} {xs:List V} {H:Hp} (hS:∀H',Same H H'→SqL K H' a xs):∀H',Same H H'→(Itl K a).stop xs.length H':=fun H' s=>⟨xs,hS H' s,j6 _⟩
end
section
variable {X:Cx} {K:bEL} {scope:Scope} {N:List Str} {tl te:TE} {σ:L2.St} {H:Hp} {Q:VK}
theorem aNv (Pr:List V→Prop) (Rel:Nat→Hp→V→Prop) (st:∀{i H1 H2 y},Same H1 H2→Rel i H1 y→Rel i H2 y) (su:∀{i H1 D ys zs y},H1 D=some (.lst ys)→Rel i H1 y→Rel i (upd H1 D (.lst zs)) y)
  (σ0:L2.St) (cap:Cap X scope N σ σ0) (h0:σ0[0]?=some none)
  (hw:∀R:VK,(∀D H1 us,Same H H1→H1 D=some (.lst us)→Pr us→R (.ref D) H1)→tl σ H R)
  (hsz:∀us,Pr us→us.length≤sizeLine)
  (he:∀us,Pr us→∀(i:Nat) (x:V),us[i]?=some x→∀H' R l,Same H H'→(∀y H2,Same H' H2→Rel i H2 y→R y H2)→te ((σ0.set 0 l).set 0 (some x)) H' R)
  (q:∀us,Pr us→∀D H' ys,Same H H'→H' D=some (.lst ys)→ys.length=us.length→(∀(i:Nat) (y:V),ys[i]?=some y→Rel i H' y)→Q (.ref D) H') :
  jW X scope N (aC2 K tl) (cO 0) nG te σ H Q:=
 ⟨σ0,cap,hw _ fun D H1 us s1 g1 p=>⟨D,rfl,⟨us,SqL.of g1⟩,aLq us Rel st su σ0 (hsz us p) (Itl K D) (aK8 fun H' sm=>SqL.of (sm _ _ g1)) (aBf fun H' sm=>SqL.of (sm _ _ g1))
  (fun i x ex H' R l sm r=>he us p i x ex H' R l (s1.trans sm) r) h0 fun D2 H' ys sm=>q us p D2 H' ys (s1.trans sm)⟩⟩
end
theorem SqT.mU {K:bEL} {H:Hp} {a D:Addr} {xs ys zs:List V} (hD:H D=some (.lst ys)) (h:SqT K H a xs):SqT K (upd H D (.lst zs)) a xs:=by
 rcases h with (h|⟨o,h⟩)|h
 ·exact .inl (.inl (by rw [aK (aIb h hD (by intro z;cases z))];exact h))
 ·exact .inl (.inr ⟨o,by rw [aK (aIb h hD (by intro z;cases z))];exact h⟩)
 ·exact .inr h
end L2
namespace PySem
end PySem
namespace L2
open PySem PySem.Spec PyProof.Rows
def classAt:Stmt→Nat→Stmt
 |.ClassDef _ _ _ body _ _ _ _ _ _ _,j=>body.getD j (.Pass ⟨0,0,0,0⟩)
 |st,_=>st
structure aVh (K:bEL) (mg:bEO) (x:Str) (C:Addr):Prop where
 at_:mg x=some (.ref C)
 cls:Cls K C
 mks:PySem.W.makesIn K C=true
 kp:PySem.W.keepIn K (.ref C)=true
def iR (K:bEL) (C:Addr) (m qual:Str) (st:Stmt) (ps:List Str):Prop:=∃f fd,Meth K C m f∧Fun K m qual st f fd∧Binds K fd ps []
section
variable {P:Program} {w:World} {K:bEL} {mg:bEO} {base:Heap}
def OkM (P:Program) (w:World) (K:bEL) (mg:bEO) (base:Heap) (C:Addr) (k:Nat) (m:Str) (ps:List Str) (sp:Sp):Prop:=
 ∃f fd,Cls K C∧Meth K C m f∧Binds K fd ps []∧fV P w K mg base CX0 k f fd ps sp
theorem OkM.mono {C:Addr} {j k:Nat} {m:Str} {ps:List Str} {sp:Sp} (h:OkM P w K mg base C j m ps sp) (hj:j≤k):OkM P w K mg base C k m ps sp:=by obtain ⟨f,fd,h1,h2,h3,h4⟩:=h;exact ⟨f,fd,h1,h2,h3,h4.mono hj⟩
theorem OkM.ofV {C:Addr} {m qual:Str} {st:Stmt} {N ps:List Str} {k:Nat} {sp:Sp} (c:Cls K C) (D:iR K C m qual st ps) (S:aJ N ps (aD st)) (len:∀vs H Q E,sp vs H Q E→vs.length=ps.length)
  (hbody:∀(f:Addr) (cdv:Value) (A:Around) (outer:List Env) (s:Shared) (H:Hp) (vs:List V) (Q:VK) (E:XK),Room k (A.deeper (envOfC qual (aD st) s.heap.objs.size f cdv))→sp vs H Q E →
   ∃t,VSs (vR CX0 P w K mg base N qual (aD st) f cdv A outer s H E).nox (dB st) t∧t { nx:=fun _ H'=>Q .non H',rt:=Q } (start N vs) H):OkM P w K mg base C (k+1) m ps sp:=by
 obtain ⟨f,fd,hm,F,B⟩:=D;exact ⟨f,fd,c,hm,B,Fun.okV F S len fun cdv A outer s H vs Q E hr h=>hbody f cdv A outer s H vs Q E hr h⟩
def OkC (P:Program) (w:World) (K:bEL) (mg:bEO) (base:Heap) (C:Addr) (k:Nat) (x:Str) (ps:List Str) (sp:Sp):Prop:=
 ∃f fd,mg x=some (.ref C)∧Mk K C f∧Binds K fd ps []∧fV P w K mg base CX0 k f fd ps sp
theorem OkC.mono {C:Addr} {j k:Nat} {x:Str} {ps:List Str} {sp:Sp} (h:OkC P w K mg base C j x ps sp) (hj:j≤k):OkC P w K mg base C k x ps sp:=by obtain ⟨f,fd,h1,h2,h3,h4⟩:=h;exact ⟨f,fd,h1,h2,h3,h4.mono hj⟩
theorem OkM.make {C:Addr} {k:Nat} {x:Str} {ps:List Str} {sp:Sp} (c:aVh K mg x C) (h:OkM P w K mg base C k "__init__" ps sp):OkC P w K mg base C k x ps sp:=by obtain ⟨f,fd,h1,h2,h3,h4⟩:=h;exact ⟨f,fd,c.at_,⟨c.mks,h2.at_,h2.fn,c.kp⟩,h3,h4⟩
end
section
variable {X:Cx} {e o value:Expr} {es:List Expr} {f m x:Str} {p pos pos' apos:Pos} {ta tv:TE} {t:TA} {C:Addr} {k:Nat} {ps:List Str} {sp:Sp}
theorem jA {K:bEL} (he:VE X e ta) (hb:attributeBase e f X.env (eval e X.env)=eval e X.env:=by rfl) (h:X.K=K:=by rfl):VE X (.Attribute e f pos) (aZ0 K ta f):=by subst h;exact ⟨aWg he.1 hb⟩
theorem aBk {K:bEL} (ha:VE X o ta) (hv:VE X value tv) (hs:swapsWith value (some (.Attribute o f pos')) pos.line X.env=pure false:=by rfl) (h:X.K=K:=by rfl):VS X (.Assign [.Attribute o f pos'] value pos) (aZl K ta tv f):=by subst h;exact ⟨aXv ha.1 hv.1 hs⟩
theorem mC {pl:Sem Bool} (G:OkM X.prog X.w X.K X.mg X.base C k m ps sp) (hr:Room k X.A) (he:VE X o ta) (ha:VA X (e::es) t)
  (hp:cU e=true:=by rfl) (hpl:(backTo pos (starEach es X.env)).any (·.1)=false:=by rfl)
  (ht:eval (.Call (.Attribute o m apos) (e::es) [] pos) X.env=(do
   let ov ←eval o X.env
   standAt apos.atName
   let (f,first) ←holding [ov] (getMethod ov m pl)
   callWith pos f first (backTo pos (starEach (e::es) X.env)) (backToKw pos (keywordEach [] X.env))):=by rfl):VE X (.Call (.Attribute o m apos) (e::es) [] pos) (aMw C m sp [] E0 ta t):=by
 obtain ⟨f,fd,h1,h2,h3,h4⟩:=G;exact ⟨aU9 he.1 h1 h2 h4 hr h3 .nil aBt ha.1 (aN hp) hpl ht⟩
theorem aP7 {pl:Sem Bool} (G:OkM X.prog X.w X.K X.mg X.base C k m ps sp) (hr:Room k X.A) (he:VE X o ta)
  (ht:eval (.Call (.Attribute o m apos) [] [] pos) X.env=(do
   let ov ←eval o X.env
   standAt apos.atName
   let (f,first) ←holding [ov] (getMethod ov m pl)
   callWith pos f first (backTo pos (starEach [] X.env)) (backToKw pos (keywordEach [] X.env))):=by rfl):VE X (.Call (.Attribute o m apos) [] [] pos) (aMw C m sp [] E0 ta aBw):=by
 obtain ⟨f,fd,h1,h2,h3,h4⟩:=G;exact ⟨aP1 he.1 h1 h2 h4 hr h3 .nil aBt ht⟩
theorem aMm (G:OkC X.prog X.w X.K X.mg X.base C k x ps sp) (hr:Room (k+1) X.A) (hg:Gl X x) (ha:VA X (e::es) t) (hdb:(x == ("__debug__":Str))=false:=by decide) (hp:cU e=true:=by rfl) (hpl:(backTo pos (starEach es X.env)).any (·.1)=false:=by rfl) :
  VE X (.Call (.Name x p) (e::es) [] pos) (aWc C sp [] E0 t):=by
 obtain ⟨f,fd,h1,h2,h3,h4⟩:=G;exact ⟨aTh h2 h4 hr hg h1 h3 .nil aBt ha.1 hdb (aN hp) hpl⟩
end
end L2
namespace PySem
open Sem (wp)
section
variable {M:Model} {prog:Program} {w:World} {A:Around} {E:bEM} {R:Result→Shared→Prop} {h:Heap} {g:Array GenState} {d:Drawn} {t:Nat} {os:OsState}
variable {nm q:Str} {C N:Addr} {bs bm bmN:List Value} {hdct:Bool} {sn:List Str} {sub:List Value} {ab:Bool} {col:Option Bool} {dd:Option Addr} {k0 k1 k2 k3 k5:Option Value} {Bn newId inN:String}
theorem aH0 (Fn:ExcBaseFacts Bn newId inN bmN) (hBn:bm.contains (.type Bn)=true) {rest:List Value} {Q:Unit→Shared→Prop} (hC:h.get? C=some (excClassObj nm q C N bs bm hdct sn sub ab col dd k0 k1 k2 k3 k5 newId))
  (hq:Q () ⟨h,g,d,t,os⟩):wpAny M A (checkBuiltinCall newId ⟨.ref C::rest,[]⟩) Q E ⟨h,g,d,t,os⟩:=by
 have hcont:(Value.ref C::bm).contains (.type Bn)=true:=by rw [bB9,hBn,bEB]
 have hstar:=Fn.noStar;simp only [checkBuiltinCall,Fn.newKind,Fn.newSplit,Fn.newRow]
 repeat (first|refine bBP hC ?_|(refine bCT hC ?_;rw [hcont])|refine wpAny_staticBase_exc hC ?_|refine wpAny_madeBy_exc hC ?_|simp only [bne_self_eq_false,bA6,if_false]|wp_step)
 exact hq
theorem aZy (Fn:ExcBaseFacts Bn newId inN bmN) (hBn:bm.contains (.type Bn)=true) (hA:bm.contains (.type "AttributeError")=false) (hN:bm.contains (.type "NameError")=false) {rest:List Value} (hC:h.get? C=some (excClassObj nm q C N bs bm hdct sn sub ab col dd k0 k1 k2 k3 k5 newId))
  (hq:R (.ok (.ret (.ref (h.objs.size+1)))) ⟨(h.push { cls:=.type "tuple",data:=.seq rest.toArray }).push
   { cls:=.ref C,data:=.fields #[.ref h.objs.size,.none,.none,.none,.bool false,.none] },g,d,t,os⟩) (hrest:rest.length≤sizeLine:=by size_fits) :
  codeAny (model prog w) A (.builtin newId ⟨.ref C::rest,[]⟩) R ⟨h,g,d,t,os⟩:=by
 have hends:=Fn.ends;have hcB:(Value.ref C::bm).contains (.type Bn)=true:=by rw [bB9,hBn,bEB]
 have hcA:(Value.ref C::bm).contains (.type "AttributeError")=false:=by rw [bB9,hA];rfl
 have hcN:(Value.ref C::bm).contains (.type "NameError")=false:=by rw [bB9,hN];rfl
 refine codeAny_builtinAt Fn.entry ?_;unfold Builtin.«BaseException.__new__»;refine wpAt_bind ?_;show wpAt _ _ _ (stack >>= _) _ _ _;refine wpAt_bind (wpAt_stack fun p below=>wpAt_of_wpAny ?_);wp_walk;refine wpAt_of_wpAny ?_;rw [Fn.owner]
 repeat (first|with_reducible refine wpAny_madeHere_exc Fn.canon hC ?_|with_reducible refine bBP hC ?_|(with_reducible refine bCT hC ?_;first|rw [hcB]|rw [hcA]|rw [hcN])|wp_step)
 show R _ _;rw [bAT];exact hq
end
end PySem
namespace L2
open PySem PySem.Spec PyProof.Rows
def aI3:List Value→Bool
 |.ref _::r=>aI3 r
 |l=>l == [.type "ValueError",.type "Exception",.type "BaseException",.type "object"]
theorem uO (self:Value):∀{l:List Value},aI3 l=true→refuseLoop self "__setattr__" l=pure ()
 |[],e=>absurd e (by decide)
 |.ref c::r,e=>by rw [refuseLoop_ref];exact uO self e
 |.none::r,e|.bool _::r,e|.int _ _::r,e|.str _ _::r,e|.float _ _::r,e|.bytes _ _::r,e|.builtin _::r,e|.type _::r,e=>by have q:=beq_iff_eq.mp e;rw [q];exact PySem.F.store_ValueError.passes self
structure XC (K:bEL) (C fI:Addr):Prop where
 at_:∃nm q N bs bm sn sub ab col dd k0 k1 k2 k3 k5,K.lookup C=some (excClassObj nm q C N bs bm true sn sub ab col dd k0 k1 k2 k3 k5 "ValueError.__new__")∧bm.contains (.type "ValueError")=true ∧
  bm.contains (.type "AttributeError")=false∧bm.contains (.type "NameError")=false∧bm.contains (.type "BaseException")=true
 init:PySem.W.findIn K (.ref C) "__init__"=some (some (.ref fI))
 fn:PySem.W.typeIn K (.ref fI)=some (.type "function")
 row:(PySem.W.clsIn K C).any (fun cd=>aI3 cd.mro && cd.hasDict)=true
 sa:PySem.W.findIn K (.ref C) "__setattr__"=some (some (.builtin "object.__setattr__"))
 ga:PySem.W.findIn K (.ref C) "__getattribute__"=some (some (.builtin "BaseException.__getattribute__"))
 hook:PySem.W.findIn K (.ref C) "__getattr__"=some none
 act:PySem.W.findIn K (.ref C) "act"=some none
 cls:PySem.W.findIn K (.ref C) "__class__"=some (some (.builtin "object.__class__"))
section
variable {prog:Program} {w:World} {A:Around} {E:bEM} {h:Heap} {g:Array GenState} {d:Drawn} {t:Nat} {os:OsState} {K:bEL} {C fI:Addr}
theorem aG1 (X:K.In h) (c:XC K C fI) {rest:List Value} {Q:Fin→Shared→Prop}
  (hq:∀h' e,Heap.MadeExcOf h h' e (.ref C) rest→e=h.objs.size+1→h'.get? h.objs.size=some { cls:=.type "tuple",data:=.seq rest.toArray } →
   wpAny (model prog w) A (call (.ref fI) (.ref e::rest)) (fun r s'=>r=.none∧Q (.done (.ret (.ref e))) s') E ⟨h',g,d,t,os⟩) (hrest:rest.length≤sizeLine) :
  wpAny (model prog w) A (Builtin.«type.__call__» ⟨.ref C::rest,[]⟩) Q E ⟨h,g,d,t,os⟩:=by
 obtain ⟨⟨nm,q,N,bs,bm,sn,sub,ab,col,dd,k0,k1,k2,k3,k5,lk,hB,hA,hN,hE⟩,hi,hf,_⟩:=c;have hC:=X _ _ lk;have F:=PySem.F.excBase_ValueError
 repeat (first|with_reducible refine bBP hC ?_|with_reducible refine wpAny_madeBy_exc hC ?_|wp_step)
 refine codeAny_call_builtin_code (Code.quiet_builtin _ F.quiet) (aH0 F hB hC ?_);refine aZy F hB hA hN hC ?_ hrest;show wpAny _ _ _ _ _ _;have kp:∀b o,h.get? b=some o→((h.push { cls:=.type "tuple",data:=.seq rest.toArray }).push { cls:=.ref C,data:=.fields #[.ref h.objs.size,.none,.none,.none,.bool false,.none] }).get? b=some o:=
  fun b o e=>d9 _ (d9 _ e)
 have hC₁:=kp _ _ hC;have X₁:=X.keeps kp;have hget:((h.push { cls:=.type "tuple",data:=.seq rest.toArray }).push
   { cls:=.ref C,data:=.fields #[.ref h.objs.size,.none,.none,.none,.bool false,.none] }).get? (h.objs.size+1)=some
   { cls:=.ref C,data:=.fields #[.ref h.objs.size,.none,.none,.none,.bool false,.none] }:=by heap_get
 have htup:((h.push { cls:=.type "tuple",data:=.seq rest.toArray }).push
   { cls:=.ref C,data:=.fields #[.ref h.objs.size,.none,.none,.none,.bool false,.none] }).get? h.objs.size=some { cls:=.type "tuple",data:=.seq rest.toArray }:=d9 _ (Heap.get?_push_at rfl rfl)
 have hcC:(Value.ref C::bm).contains (.ref C)=true:=by simp
 unfold isInstance
 repeat (first|with_reducible refine bBP hget ?_|(with_reducible refine bCT hC₁ ?_;rw [hcC])|wp_step)
 show wpAny _ _ (typeLookup (.ref C) _) _ _ _;refine (PySem.W.looks_findIn X₁ hi).at ?_;refine bAV (c7 ?_);unfold bindSpecial;refine c7 ((PySem.W.looks_typeIn X₁ hf).at ?_);rw [if_pos (by decide)];refine j4 (c7 (bA4 (hq _ (h.objs.size+1) ⟨kp,bC5 (bCW _),h.objs.size,hget,bC5 (j6 _),htup⟩ rfl htup) (fun r s' hr=>?_) fun _ _ x=>x));obtain ⟨rfl,hQ⟩:=hr;wp_walk;exact hQ
theorem x_call (X:K.In h) (c:XC K C fI) {rest:List Value} {Q:bEM}
  (hq:∀h' e,Heap.MadeExcOf h h' e (.ref C) rest→e=h.objs.size+1→h'.get? h.objs.size=some { cls:=.type "tuple",data:=.seq rest.toArray } →
   wpAny (model prog w) (A.under (.builtin "type.__call__" ⟨.ref C::rest,[]⟩)) (call (.ref fI) (.ref e::rest)) (fun r s'=>r=.none∧Q (.ref e) s') E ⟨h',g,d,t,os⟩) (hrest:rest.length≤sizeLine) :
  wpAny (model prog w) A (call (.ref C) rest) Q E ⟨h,g,d,t,os⟩:=by
 obtain ⟨nm,q,N,bs,bm,sn,sub,ab,col,dd,k0,k1,k2,k3,k5,lk,hB,hA,hN,hE⟩:=c.at_;have hC:=X _ _ lk;have f1:=tc_lookup;have f2:=tc_bind (.ref C);have hT:(⟨h,g,d,t,os⟩:Shared).TypeIs (.ref C) "type":=⟨_,hC,rfl⟩;refine bCQ (bD7 ?_);show wpAny _ _ (callAny (.ref C) _) _ _ _
 repeat (any_goals (first|assumption|with_reducible refine bBP hC ?_|wp_step))
 refine ⟨rfl,?_⟩;refine codeAny_call_builtin_at (Code.quiet_builtin _ (by decide +kernel)) entry_typeCall (wpAny_check_type_call_sub hC (aG1 X c (fun h' e hm h1 h2=>?_) hrest));exact hq h' e hm h1 h2
end
def XO (e C:Addr) (d:Option Addr):HO:=.ext fun h=>∃vs:Array Value,h.get? e=some { cls:=.ref C,dict:=d,data:=.fields vs }∧vs.size=6∧vs[1]?=some .none
theorem XO.at {P:Program} {w:World} {H:Hp} {h:Heap} {e C:Addr} {d:Option Addr} (x:HOk P w H h) (q:H e=some (XO e C d)):∃vs:Array Value,h.get? e=some { cls:=.ref C,dict:=d,data:=.fields vs }∧vs.size=6∧vs[1]?=some .none:=(x e _ q).1
theorem XO.ok {P:Program} {w:World} {H:Hp} {h:Heap} {e C:Addr} {d:Option Addr} {vs:Array Value} (q:h.get? e=some { cls:=.ref C,dict:=d,data:=.fields vs }) (z:vs.size=6) (n:vs[1]?=some .none):cW P w H h e (XO e C d):=
 ⟨⟨vs,q,z,n⟩,⟨_,q⟩,fun h1 h2 ⟨us,a,b,c⟩ k=>⟨us,k _ a,b,c⟩⟩
theorem aT8 (K:bEL):PySem.W.findCls K (.type "ValueError") (.type "type") "__init__"=some (.val (.builtin "ValueError.__init__")):=
 show PySem.W.findCls [] (.type "ValueError") (.type "type") "__init__"=some (.val (.builtin "ValueError.__init__")) by kernel_rfl
section
variable {prog:Program} {w:World} {A:Around} {E:bEM} {s:Shared} {K:bEL} {C fI e:Addr}
theorem aXw (X:K.In s.heap) (c:XC K C fI) {dx:Option Addr} {vs:Array Value} {sl:Array (Option Value)} {rest:List Value} {Q:bEM} (he:s.heap.get? e=some { cls:=.ref C,dict:=dx,data:=.fields vs,slots:=sl }) (hz:0<vs.size) {u0:Value} (h0:vs[0]?=some u0) (hr:rest.length≤sizeLine)
  (h:Q .none { s with heap:=(s.heap.push { cls:=.type "tuple",data:=.seq rest.toArray }).update e (Obj.mapFields (·.setIfInBounds 0 (.ref s.heap.objs.size))) }) :
  wpAny (model prog w) A (call (.builtin "ValueError.__init__") (.ref e::rest)) Q E s:=by
 obtain ⟨nm,q,N,bs,bm,sn,sub,ab,col,dd,k0,k1,k2,k3,k5,lk,hB,hA,hN,hE⟩:=c.at_;have hC:=X _ _ lk;have F:=PySem.F.excBase_ValueError;obtain ⟨hp,g,d,t,os⟩:=s;have hcB:(Value.ref C::bm).contains (.type "ValueError")=true:=by rw [bB9,hB,bEB]
 refine bCQ (bCB F.init.plain F.initEntry ?_);have hshort:=F.noStar;simp only [checkBuiltinCall,F.initKind,F.initSplit,F.initRow]
 repeat (first|with_reducible refine bBP he ?_|with_reducible refine bBP hC ?_|(with_reducible refine bCT hC ?_;rw [hcB])|wp_step)
 refine bCH ?_;rw [show ∀(a b:String) (n:Nat),Bind.check ⟨.positional,"*","ValueError",.self,[⟨"args",.varPos,false⟩]⟩ a b n (List.map (fun x=>x.fst) ({ pos:=Value.ref e::rest }:Args).kw)=pure () from
  fun a b n=>check_star_args _ _ _ _ _ _]
 refine j4 ?_;unfold Builtin.«BaseException.__init__» newTuple;refine c7 (bAJ ?_ (by show rest.toArray.size≤sizeLine;rw [j9];exact hr));have he₁:=d9 (h:=hp) { cls:=.type "tuple",data:=.seq rest.toArray } he;refine c7 ?_;unfold Builtin.BaseException.bexcPut;refine c7 (bAG he₁ rfl h0 ?_);refine c7 (bBQ he₁ rfl hz ?_)
 split
 ·exact bDL (j4 h)
 ·exact j4 (j4 h)
end
end L2
namespace L2
open PySem PySem.Spec PyProof.Rows Builtin Builtin.ObjectAttr
section
variable {prog:Program} {w:World} {A:Around} {E:bEM} {s:Shared} {K:bEL} {C fI e:Addr}
theorem aTz (X:K.In s.heap) (c:XC K C fI) {vs:Array Value} {v:Value} {Q:Unit→Shared→Prop} (he:s.heap.get? e=some { cls:=.ref C,data:=.fields vs })
  (hq:∀h' t',h'.get? e=some { cls:=.ref C,dict:=some s.heap.objs.size,data:=.fields vs }→h'.Ns1 s.heap.objs.size (fun y=>if y = "act" then some v else none) →
   (∀b o,b≠e→s.heap.get? b=some o→h'.get? b=some o)→Q () { s with heap:=h',toks:=t' }) :
  wpAny (model prog w) A (setAttr (.ref e) "act" v) Q E s:=by
 have I:PySem.W.InstAt s.heap e { cls:=.ref C,data:=.fields vs } C none:=⟨he,rfl,rfl,trivial⟩;refine PySem.W.set_plain X I c.sa ?_;obtain ⟨cd,hc,ho'⟩:=PySem.W.any_some c.row;obtain ⟨ho,hd⟩:=Bool.and_eq_true_iff.mp ho';have SF:=PySem.F.store_object;have SV:=PySem.F.store_ValueError;have hm:PySem.W.Looks (model prog w) s.heap (mroOf (.ref C)) cd.mro:=(PySem.W.looks_clsIn X hc).andThen .now;have hasO:∀{l:List Value},aI3 l=true→l.contains (.type "object")=true∧l.isEmpty=false:=by
  intro l
  induction l with
  |nil=>intro z;exact absurd z (by decide)
  |cons a r ih=>
   intro z;refine ⟨?_,rfl⟩;cases a with
   |ref x=>rw [bB9,(ih z).1,bEB]
   |_=>have q:=beq_iff_eq.mp z;rw [q];decide +kernel
 have sub:PySem.W.Looks (model prog w) s.heap (isInstance (.ref e) (.type "object")) true:=I.type.andThen (PySem.W.looks_mroIn X (by unfold PySem.W.mroIn;rw [hc,Option.bind_some,if_neg (by rw [(hasO ho).2];decide),(hasO ho).1]));refine bCB SF.slot.plain SF.entry (@PySem.W.check_slot (model prog w) _ _ { s with toks:=s.toks+1 } "object.__setattr__" "object" "__setattr__" (.ref e) [.str "act" s.toks,v] [] _ SF.kind SF.split sub (SF.args (.ref e) (.str "act" s.toks) v) ?_);rw [PySem.W.osa_eq,refuse_eq];refine c7 (c7 (I.type _ _ _ _ (fun _ _ e=>e) (c7 (hm _ _ _ _ (fun _ _ e=>e) ?_))));rw [uO _ ho];refine j4 (c7 (I.type _ _ _ _ (fun _ _ e=>e) (c7 (PySem.W.looks_findIn X c.act _ _ _ _ (fun _ _ e=>e) (c7 ?_)))));refine j4 ?_;dsimp only;obtain ⟨h,g,d,t,os⟩:=s;dsimp only at *;unfold storeInOwnDict;have hxs:e≠h.objs.size:=m9 (j8 he);have hx₁:(h.push { cls:=.type "dict",data:=.dict #[] }).get? e=some { cls:=.ref C,data:=.fields vs }:=d9 _ he;refine c7 (j4 (c7 ?_));unfold ownDictForStores instanceDict;refine c7 (wpAny_loadPart he ?_);dsimp only;refine c7 ((PySem.W.looks_clsIn X hc) _ _ _ _ (fun _ _ e=>e) ?_);rw [hd,if_neg (by decide),if_neg (by simp [typeHasDict])];refine c7 (wpAny_alloc' ?_);refine c7 (wpAny_update' hx₁ ?_);refine j4 ?_;have hgd:((h.push { cls:=.type "dict",data:=.dict #[] }).update e fun o=>{ cls:=o.cls,dict:=some h.objs.size,data:=o.data,slots:=o.slots }).get? h.objs.size
   = some { cls:=.type "dict",data:=.dict #[] }:=
  (bDC _ _ _ _ hxs.symm).trans (Heap.get?_push_at rfl rfl)
 have hnd:((h.push { cls:=.type "dict",data:=.dict #[] }).update e fun o=>{ cls:=o.cls,dict:=some h.objs.size,data:=o.data,slots:=o.slots }).Ns h.objs.size (fun _=>none):=
  ⟨_,#[],_,hgd,rfl,fun e he=>absurd he (by simp),fun _=>rfl⟩
 show wpAny _ _ (storeInDict h.objs.size (.str "act" _) "act" v) _ _ _;unfold storeInDict newKeyGuard;refine c7 (j4 (c7 (wpAny_nsSet1 (Heap.Ns1.of_empty hnd) fun h' hn' hs=>?_)));obtain ⟨oD,esD,epD,hoD,hdD,hcD⟩:=hn'.count (Within.cons "act" v Within.nil);refine c7 (wpAny_lookBehind hoD (by rw [hdD];exact pastItsLine_dict (bAR hcD (by rw [t7,bBH,sizeLine_eq];lia))) ?_);refine j4 ?_;refine hq h' _ ?_ hn' fun b ob hbx hb=>(hs.2 b (m9 (j8 hb))).trans ((bDC _ _ _ _ hbx).trans (d9 _ hb));exact (hs.2 e hxs).trans (bAU _ hx₁ rfl)
end
end L2
namespace L2
open PySem PySem.Spec PyProof.Rows Builtin Builtin.ObjectAttr
section
variable {prog:Program} {w:World} {A:Around} {E:bEM} {s:Shared} {K:bEL} {C fI e:Addr}
end
section
variable {M:Model} {A:Around} {E:bEM} {s:Shared} {base:Heap} {env:Env} {outer:List Env} {L e:Addr}
theorem aM3 {oe:Obj} {vs:Array Value} {head:Value} {hadNext:Bool} {Q:Unit→Shared→Prop} (hfr:A.frames=some (env::outer)) (hl:s.heap.FunFrames base (env::outer)) (hf:env.frame=some L)
  (he:s.heap.get? e=some oe) (hd:oe.data=.fields vs) (hsz:1<vs.size)
  (h:∀h',(∀b o,b≠e→b∉frs (env::outer)→s.heap.get? b=some o→h'.get? b=some o)→(∀b o,b≠e→s.heap.get? b=some o→∃sl,h'.get? b=some { o with slots:=sl }) →
   h'.get? e=some (oe.mapFields (·.setIfInBounds 1 (.ref s.heap.objs.size)))→(∃oT ts,h'.get? s.heap.objs.size=some oT∧oT.data=.fields ts∧3<ts.size)→Q () { s with heap:=h' }) :
  wpAny M A (do let a ←frameOf env;let pl ←entryPlaceOf L hadNext;let b ←EntryCells.newEntry head a .none (rawInt L) .none pl;setField (.ref e) 1 b) Q E s:=by
 have hene:e∉(env::outer).filterMap (·.frame):=fun hm=>by obtain ⟨_,o,ho,hnf⟩:=hl.mem hm;rw [he] at ho;injection ho with ho;subst ho;exact hnf vs hd
 refine c7 (wpAny_frameOf_fun hfr hl hf fun h₁ hs₁=>?_);refine c7 (wpAny_entryPlaceOf fun pl hpl=>?_);unfold EntryCells.newEntry newFields;refine c7 (bAJ ?_ (hpl.sizeOk5 _ _ _ _ _));have he₁:h₁.get? e=some oe:=(hs₁.2.1 e hene).trans he;have he₂:=d9 (h:=h₁) { cls:=.type "traceback",dict:=none,data:=.fields ([head,.ref L,.none,rawInt L,.none]++(if pl.isEmpty then List.replicate 6 Value.none else pl)).toArray } he₁;have hTe:h₁.objs.size≠e:=bBL (j8 he₁);have hd₃:=bCZ hd (·.setIfInBounds 1 (Value.ref h₁.objs.size));have he₃:=bAU (Obj.mapFields (·.setIfInBounds 1 (Value.ref h₁.objs.size))) he₂ (bC3 hd₃);have hT₃:=(bA7 (h₁.push { cls:=.type "traceback",dict:=none,data:=.fields ([head,.ref L,.none,rawInt L,.none]++(if pl.isEmpty then List.replicate 6 Value.none else pl)).toArray })
  (Obj.mapFields (·.setIfInBounds 1 (Value.ref h₁.objs.size))) (Ne.symm hTe)).trans (j5 h₁ rfl)
 have keep:∀b o,b≠e→h₁.get? b=some o →
   ((h₁.push { cls:=.type "traceback",dict:=none,data:=.fields ([head,.ref L,.none,rawInt L,.none]++(if pl.isEmpty then List.replicate 6 Value.none else pl)).toArray }).update e (Obj.mapFields (·.setIfInBounds 1 (Value.ref h₁.objs.size)))).get? b=some o:=fun b o hbe hb=>by
  rw [bA7 _ _ (Ne.symm hbe)];exact d9 _ hb
 refine bBQ he₂ hd hsz (h _ (fun b o hbe hbf hb=>keep b o hbe ((hs₁.2.1 b hbf).trans hb)) (fun b o hbe hb=>?_) ?_ ?_)
 ·obtain ⟨sl,hs⟩:=hs₁.2.2 b o hb;exact ⟨sl,keep b _ hbe hs⟩
 ·rw [←hs₁.1];exact he₃
 ·rw [←hs₁.1];exact ⟨_,_,hT₃,rfl,by simp only [j9,bAC,t7,bBH] <;> lia⟩
theorem aWj {oe:Obj} {vs:Array Value} {Q:Unit→Shared→Prop} (T:Option Addr) (hfr:A.frames=some (env::outer)) (hl:s.heap.FunFrames base (env::outer)) (hf:env.frame=some L)
  (he:s.heap.get? e=some oe) (hd:oe.data=.fields vs) (h1:vs[1]?=some (T.elim .none .ref)) (hT:∀a,T=some a→a≠e∧∃oT ts,s.heap.get? a=some oT∧oT.data=.fields ts∧3<ts.size)
  (h:∀h' T',(∀b o,b≠e→T≠some b→b∉frs (env::outer)→s.heap.get? b=some o→h'.get? b=some o)→(∀b o,b≠e→T≠some b→s.heap.get? b=some o→∃sl,h'.get? b=some { o with slots:=sl })→(∀b o,s.heap.get? b=some o→∃o',h'.get? b=some o') →
   (∃vs':Array Value,h'.get? e=some { oe with data:=.fields vs' }∧vs'.size=vs.size∧vs'[1]?=some (.ref T'))→(∃oT ts,h'.get? T'=some oT∧oT.data=.fields ts∧3<ts.size)→(T=some T'∨T'=s.heap.objs.size)→Q () { s with heap:=h' }) :
  wpAny M A (noteFrame (.ref e) env) Q E s:=by
 unfold noteFrame;simp only [hf];obtain ⟨u,hu,h1⟩:∃u:Value,u=T.elim .none .ref∧vs[1]?=some u:=⟨_,rfl,h1⟩;refine c7 (bAG he hd h1 ?_);have hs1:1<vs.size:=(Array.getElem?_eq_some_iff.mp h1).1;have mf:∀n:Addr,oe.mapFields (·.setIfInBounds 1 (.ref n))={ oe with data:=.fields (vs.setIfInBounds 1 (.ref n)) }:=fun n=>by obtain ⟨c,d,dt,sl⟩:=oe;cases hd;rfl
 have hfin:∀{h':Heap} {n:Addr},h'.get? e=some (oe.mapFields (·.setIfInBounds 1 (.ref n)))→∃vs':Array Value,h'.get? e=some { oe with data:=.fields vs' }∧vs'.size=vs.size∧vs'[1]?=some (.ref n):=fun {h' n} q=>
  ⟨_,by rw [q,mf n],by simp,by simp [hs1]⟩
 cases T with
 |none=>
  obtain rfl:u=.none:=hu;rw [if_neg (by decide)];refine aM3 hfr hl hf he hd hs1 fun h' k1 k2 k3 k4=>h h' _ (fun b o hb _ hf q=>k1 b o hb hf q) (fun b o hb _ q=>k2 b o hb q) (fun b o q=>?_) (hfin k3) k4 (.inr rfl);by_cases z:b=e
  ·subst z;exact ⟨_,k3⟩
  ·obtain ⟨sl,r⟩:=k2 b o z q;exact ⟨_,r⟩
 |some a=>
  obtain ⟨hae,oT,ts,hTa,hdT,h3⟩:=hT a rfl;obtain rfl:u=.ref a:=hu;rw [if_pos (show (Value.ref a != Value.none)=true from by simp)];refine c7 (bAG hTa hdT (v5 h3) ?_);by_cases hq:(ts[3] == rawInt L)=true
  ·rw [if_pos hq];refine j4 (h s.heap a (fun b o _ _ _ q=>q) (fun b o _ _ q=>⟨o.slots,q⟩) (fun b o q=>⟨o,q⟩) ⟨vs,?_,rfl,h1⟩ ⟨oT,ts,hTa,hdT,h3⟩ (.inl rfl));rw [he];obtain ⟨c,d,dt,sl⟩:=oe;cases hd;rfl
  rw [if_neg hq];refine c7 (bBQ hTa hdT h3 ?_);have other:∀b,b≠a→(s.heap.update a (Obj.mapFields (·.setIfInBounds 3 Value.none))).get? b=s.heap.get? b:=fun b hb=>bA7 _ _ (Ne.symm hb);have noRecord:∀b o,s.heap.get? b=some o→(∀vs,o.data≠.fields vs)→b≠a:=fun b o hb hnf q=>by rw [q,hTa] at hb;injection hb with hb;subst hb;exact hnf ts hdT
  have hsz:(s.heap.update a (Obj.mapFields (·.setIfInBounds 3 Value.none))).objs.size=s.heap.objs.size:=Heap.size_after_update ..;have hsame:=bAU (h:=s.heap) (Obj.mapFields (·.setIfInBounds 3 Value.none)) hTa (bC3 (bCZ hdT _));refine aM3 (s:={ s with heap:=s.heap.update a (Obj.mapFields (·.setIfInBounds 3 Value.none)) }) hfr (hl.of_keeps fun b o hb hnf=>⟨o,(other b (noRecord b o hb hnf)).trans hb,rfl⟩) hf ((other e (Ne.symm hae)).trans he) hd hs1 fun h' k1 k2 k3 k4=>?_;dsimp only at k1 k2 k3 k4;rw [hsz] at k3 k4;refine h h' _ (fun b o hb hba hf q=>k1 b o hb hf ((other b fun z=>hba (by rw [z])).trans q)) (fun b o hb hba q=>k2 b o hb ((other b fun z=>hba (by rw [z])).trans q)) (fun b o q=>?_) (hfin k3) k4 (.inr rfl);by_cases z:b=e
  ·subst z;exact ⟨_,k3⟩
  ·by_cases y:b=a
   ·subst y;obtain ⟨sl,r⟩:=k2 b _ z hsame;exact ⟨_,r⟩
   ·obtain ⟨sl,r⟩:=k2 b o z ((other b y).trans q);exact ⟨_,r⟩
end
def aLk (e T C dx:Addr):HO:=.ext fun h=>∃vs:Array Value,h.get? e=some { cls:=.ref C,dict:=some dx,data:=.fields vs }∧vs.size=6∧vs[1]?=some (.ref T)
def TbO (T:Addr):HO:=.ext fun h=>∃oT ts,h.get? T=some oT∧oT.data=.fields ts∧3<ts.size
def up2 (H:Hp) (e T C dx:Addr):Hp:=upd (upd H T (TbO T)) e (aLk e T C dx)
abbrev xdA:HO:=.xd [(("act":Str),V.non)]
theorem aLk.ok {P:Program} {w:World} {H:Hp} {h:Heap} {e T C dx:Addr} {vs:Array Value} (q:h.get? e=some { cls:=.ref C,dict:=some dx,data:=.fields vs }) (z:vs.size=6) (n:vs[1]?=some (.ref T)):cW P w H h e (aLk e T C dx):=
 ⟨⟨vs,q,z,n⟩,⟨_,q⟩,fun h1 h2 ⟨us,a,b,c⟩ k=>⟨us,k _ a,b,c⟩⟩
theorem TbO.ok {P:Program} {w:World} {H:Hp} {h:Heap} {T:Addr} (q:∃oT ts,h.get? T=some oT∧oT.data=.fields ts∧3<ts.size):cW P w H h T (TbO T):=by obtain ⟨o,ts,a,b,c⟩:=q;exact ⟨⟨o,ts,a,b,c⟩,⟨_,a⟩,fun h1 h2 ⟨u,us,a,b,c⟩ k=>⟨u,us,k _ a,b,c⟩⟩
theorem aVl {H:Hp} {a:Addr} {o:HO} (h:H a=some o):upd H a o=H:=by
 funext b;unfold upd;split
 ·rename_i e;rw [e,h]
 ·rfl
def Xt:HO→Prop
 |.ext _=>True
 |_=>False
section
variable {X:Cx} {bEP:bEN} {σ:St} {H H₁:Hp} {s:Shared} {e C dx:Addr} {M:Model} {E:bEM} {Q:Unit→Shared→Prop}
theorem aDu (I:Inv X bEP σ H s) (hst:X.stack=X.env::X.outer) (hfrm:X.env.frame=some X.env.locals) (T:Option Addr) {vs:Array Value}
  (he:s.heap.get? e=some { cls:=.ref C,dict:=some dx,data:=.fields vs }) (z:vs.size=6) (h1:vs[1]?=some (T.elim .none .ref))
  (hT:∀a,T=some a→a≠e∧(∃oT ts,s.heap.get? a=some oT∧oT.data=.fields ts∧3<ts.size)∧∃o,H a=some o∧Xt o)
  (hx:∃o,H e=some o∧Xt o) (tr:∀b o,H₁ b=some o→b≠e∧T≠some b∧H b=some o) (cov:∀b o,H b=some o→b≠e→T≠some b→H₁ b=some o)
  (q:∀T' s',Inv X bEP σ (up2 H₁ e T' C dx) s'→H₁ T'=none→T'≠e→Q () s') :
  wpAny M X.A (noteFrame (.ref e) X.env) Q E s:=by
 have hfun:s.heap.FunFrames X.base (X.env::X.outer):=hst ▸ I.stack;obtain ⟨oE,hE,hEx⟩:=hx;refine aWj T (by rw [←hst];exact I.ok.frames) hfun hfrm he rfl h1 (fun a ha=>⟨(hT a ha).1,(hT a ha).2.1⟩) fun h' T' k1 k2 k3 k4 k5 k6=>?_;have fr0:∀b∈frs (X.env::X.outer),H b=none:=fun b hb=>I.rJ b (by rw [hst];exact hb);have un:∀b,H b=none→H₁ b=none:=fun b n=>by
  cases r:H₁ b with
  |none=>rfl
  |some o=>rw [(tr b o r).2.2] at n;cases n
 have h₁T:H₁ T'=none:=by
  rcases k6 with k6|rfl
  ·cases r:H₁ T' with
   |none=>rfl
   |some o=>exact absurd k6 (tr _ o r).2.1
  ·exact un _ (I.hok.fresh (j6 _))
 have nTe:T'≠e:=by
  rcases k6 with k6|rfl
  ·exact (hT _ k6).1
  ·exact bBL (j8 he)
 have get2:∀b,b≠e→b≠T'→up2 H₁ e T' C dx b=H₁ b:=fun b n1 n2=>by unfold up2;rw [aK n1,aK n2]
 have trk:∀b o,H b=some o→T≠some b→b≠T':=fun b o r n=>by
  rcases k6 with k6|rfl
  ·exact fun zz=>n (by rw [zz];exact k6)
  ·exact m9 (I.hok.lt r)
 have old:∀b,H b=none→(∃o,s.heap.get? b=some o)→b≠T':=fun b n ⟨o,r⟩=>by
  rcases k6 with k6|rfl
  ·intro zz;obtain ⟨o',r',_⟩:=(hT _ k6).2.2;rw [zz,r'] at n;cases n
  ·exact m9 (j8 r)
 have notE:∀b o,H b=some o→¬ Xt o→b≠e∧T≠some b:=fun b o r n=>by
  refine ⟨fun zz=>?_,fun zz=>?_⟩
  ·subst zz;rw [hE] at r;cases r;exact n hEx
  ·obtain ⟨o',r',x'⟩:=(hT b zz).2.2;rw [r'] at r;cases r;exact n x'
 have keepT:∀b o u,H b=some o→b≠e→T≠some b→s.heap.get? b=some u→h'.get? b=some u:=fun b o u r n1 n2 r2=>
  k1 b u n1 n2 (fun hb=>by rw [fr0 b hb] at r;cases r) r2
 have stay2:∀b o,H b=some o→¬ Xt o→up2 H₁ e T' C dx b=some o:=fun b o r n=>by obtain ⟨n1,n2⟩:=notE b o r n;rw [get2 b n1 (trk b o r n2)];exact cov b o r n1 n2
 have hok:HOk X.prog X.w (up2 H₁ e T' C dx) h':=fun b o r=>by
  by_cases be:b=e
  ·subst be;unfold up2 at r;rw [aH] at r;cases r;obtain ⟨vs',e1,e2,e3⟩:=k4;exact aLk.ok (vs:=vs') e1 (e2.trans z) e3
  ·by_cases bT:b=T'
   ·subst bT;unfold up2 at r;rw [aK be,aH] at r;cases r;exact TbO.ok k5
   ·rw [get2 b be bT] at r;obtain ⟨n1,n2,r'⟩:=tr b o r;refine (I.hok b o r').stay (fun c u hc r2=>?_) (fun c r2=>stay2 c _ r2 fun z=>z) fun c xs r2=>stay2 c _ r2 fun z=>z;rcases hc with rfl|hc
    ·exact keepT c o u r' n1 n2 r2
    ·obtain ⟨m1,m2⟩:=notE c _ hc fun z=>z;exact keepT c _ u hc m1 m2 r2
 have hTn:∀b,T=some b→H b≠none:=fun b hb n=>by obtain ⟨o',r',_⟩:=(hT b hb).2.2;rw [r'] at n;cases n
 have U:Un (frs X.stack) [] H (up2 H₁ e T' C dx) s.heap h':=by
  refine ⟨fun b o r n hb _=>?_,fun b o r n hb _=>?_,fun b o r n _=>?_,fun b o r _=>k3 b o r,fun b xs r=>stay2 b _ r fun z=>z,fun b o u r=>stay2 b _ r fun z=>z,fun b ps r=>⟨#[],by rw [stay2 b _ r fun z=>z];simp⟩⟩
  ·exact k1 b o (fun zz=>by subst zz;rw [hE] at n;cases n) (fun zz=>hTn b zz n) (by rw [←hst];exact hb) r
  ·exact k2 b o (fun zz=>by subst zz;rw [hE] at n;cases n) (fun zz=>hTn b zz n) r
  ·rw [get2 b (fun zz=>by subst zz;rw [hE] at n;cases n) (old b n ⟨o,r⟩)];exact un b n
 exact q T' _ (I.call' (s':={ s with heap:=h' }) (ch:=[]) rfl U hok I.bare fun b z=>absurd z (by simp)) h₁T nTe
theorem tM {T:Addr} {A:Around} {fr:Option Addr} (I:Inv X bEP σ (up2 H₁ e T C dx) s) (hTe:T≠e) (q:∀s',Inv X bEP σ (up2 H₁ e T C dx) s'→Q () s'):wpAny M A (setFlight (.ref e) fr) Q E s:=by
 have e1:up2 H₁ e T C dx e=some (aLk e T C dx):=aH;have e2:up2 H₁ e T C dx T=some (TbO T):=by unfold up2;rw [aK hTe,aH]
 obtain ⟨vs,hge,hz,hv1⟩:=(I.hok e _ e1).1;obtain ⟨oT,ts,hgT,hdT,ht3⟩:=(I.hok T _ e2).1;unfold setFlight;refine c7 (bAG hge rfl hv1 ?_);rw [if_pos (show (Value.ref T != Value.none)=true from by simp)];refine bBQ hgT hdT ht3 (q _ ?_);have hu:=bAU (h:=s.heap) (Obj.mapFields (·.setIfInBounds 3 (fr.elim Value.none fun f=>rawInt f))) hgT (bC3 (bCZ hdT _));have W:=I.write (x:=T) (e:=T) (o:=TbO T) (h':=s.heap.update T (Obj.mapFields (·.setIfInBounds 3 (fr.elim Value.none fun f=>rawInt f)))) (t':=s.toks) (by rw [e2];trivial) (.inl rfl) (fun b u nb q=>(bA7 _ _ (Ne.symm nb)).trans q) ⟨_,hu⟩
  (TbO.ok ⟨_,_,hu,bCZ hdT _,by simpa using ht3⟩)
 rw [aVl e2] at W;exact W
theorem aN9 (I:Inv X bEP σ (upd H₁ e (XO e C (some dx))) s) (hst:X.stack=X.env::X.outer) (hfrm:X.env.frame=some X.env.locals) (n:H₁ e=none)
  (q:∀T' s',Inv X bEP σ (up2 H₁ e T' C dx) s'→H₁ T'=none→T'≠e→Q () s') :
  wpAny M X.A (noteFrame (.ref e) X.env) Q E s:=by
 obtain ⟨vs,he,z,h1⟩:=XO.at (d:=some dx) I.hok aH;refine aDu I hst hfrm none he z h1 (fun a ha=>nomatch ha) ⟨_,aH,trivial⟩ (fun b o r=>?_) (fun b o r ne _=>by rw [aK ne] at r;exact r) q;have ne:b≠e:=fun zz=>by subst zz;rw [n] at r;cases r
 exact ⟨ne,(nomatch ·),by rw [aK ne];exact r⟩
theorem aPf {T:Addr} (I:Inv X bEP σ (up2 H₁ e T C dx) s) (hst:X.stack=X.env::X.outer) (hfrm:X.env.frame=some X.env.locals) (n:H₁ e=none) (nT:H₁ T=none) (hTe:T≠e)
  (q:∀T' s',Inv X bEP σ (up2 H₁ e T' C dx) s'→H₁ T'=none→T'≠e→Q () s') :
  wpAny M X.A (noteFrame (.ref e) X.env) Q E s:=by
 have e1:up2 H₁ e T C dx e=some (aLk e T C dx):=aH;have e2:up2 H₁ e T C dx T=some (TbO T):=by unfold up2;rw [aK hTe,aH]
 obtain ⟨vs,he,z,h1⟩:=(I.hok e _ e1).1;refine aDu I hst hfrm (some T) he z h1 (fun a ha=>?_) ⟨_,e1,trivial⟩ (fun b o r=>?_) (fun b o r ne nt=>?_) q
 ·cases ha;exact ⟨hTe,(I.hok T _ e2).1,_,e2,trivial⟩
 ·have ne:b≠e:=fun zz=>by subst zz;rw [n] at r;cases r
  have nt:b≠T:=fun zz=>by subst zz;rw [nT] at r;cases r
  exact ⟨ne,fun zz=>nt (bAQ zz).symm,by unfold up2;rw [aK ne,aK nt];exact r⟩
 ·unfold up2 at r;rw [aK ne,aK (fun zz=>nt (by rw [zz]))] at r;exact r
end
def CXR (P:Program) (w:World):CXT:=fun outer H s E v s'=>∃e T dx C H₁,v=.ref e∧s'.os=s.os∧AllBare s'.gens∧H₁ e=none∧H₁ T=none∧T≠e∧H₁ dx=some xdA ∧
 Un (frs outer) [] H (up2 H₁ e T C dx) s.heap s'.heap∧HOk P w (up2 H₁ e T C dx) s'.heap∧E (.ref C) (some e) H₁
def Raises (X:Cx) (E:XK):Prop:=∀(bEP:bEN) (σ:St) (H₁:Hp) (s:Shared) (e C dx:Addr),Inv X bEP σ (upd H₁ e (XO e C (some dx))) s→H₁ e=none→H₁ dx=some xdA→E (.ref C) (some e) H₁→X.xe (.ref e) s
section
variable {P:Program} {w:World} {K:bEL} {mg:bEO} {base:Heap} {N:List Str} {qual:Str} {scope:Scope} {f:Addr} {cd:Value} {A:Around} {outer:List Env} {s₀:Shared} {H₀:Hp} {E:XK}
theorem aNt {bEP:bEN} {σ:St} {H₁:Hp} {s:Shared} {e T C dx:Addr} (I:Inv (vR (CXR P w) P w K mg base N qual scope f cd A outer s₀ H₀ E) bEP σ (up2 H₁ e T C dx) s) (n:H₁ e=none) (nT:H₁ T=none) (hTe:T≠e) (hd:H₁ dx=some xdA) (q:E (.ref C) (some e) H₁) :
  CXR P w outer H₀ s₀ E (.ref e) s:=⟨e,T,dx,C,H₁,rfl,I.os,I.bare,n,nT,hTe,hd,I.base,I.hok,q⟩
theorem aOj:Raises (vR (CXR P w) P w K mg base N qual scope f cd A outer s₀ H₀ E) E:=by intro bEP σ H₁ s e C dx I n hd q;show wpAny _ _ (leaving _ (.ref e)) _ _ s;unfold leaving;exact c7 (aN9 I rfl rfl n fun T' s' I' nT hTe=>tM I' hTe fun s2 I2=>aNt I2 n nT hTe hd q)
end
theorem aWl {H:Hp} {a:Addr} {o:HO} (h:H a=some o):upd H a o=H:=by
 funext b;unfold upd;split
 ·rename_i e;rw [e,h]
 ·rfl
theorem aPp {H:Hp} {a b:Addr} {o u:HO} (h:a≠b):upd (upd H a o) b u=upd (upd H b u) a o:=by
 funext c;unfold upd;by_cases e1:c=b
 ·by_cases e2:c=a
  ·exact absurd (e2.symm.trans e1) h
  ·simp [e1,e2,Ne.symm h]
 ·by_cases e2:c=a
  ·simp [e2,h]
  ·simp [e1,e2]
def tVI (K:bEL) (fI:Addr) (t:TA):TE:=fun σ H Q=>t σ H fun vs H1=>∃e C v,vs=[.ref e,v]∧H1 e=some (XO e C none)∧XC K C fI∧Q .non H1
def aPo (K:bEL) (fI:Addr) (ta tv:TE):TS:=fun D σ H=>tv σ H fun y H1=>ta σ H1 fun x H2=>∃e C,y=.non∧x=.ref e∧H2 e=some (XO e C none)∧XC K C fI ∧
 ∀dx,H2 dx=none→dx≠e→D.nx σ (upd (upd H2 dx xdA) e (XO e C (some dx)))
section
variable {X:Cx} {o value e1:Expr} {es:List Expr} {p ap pos pos' cpos:Pos} {ta tv:TE} {t:TA} {fI:Addr} {pl:Sem Bool}
theorem aTr:bootBuiltins "ValueError"=some (.type "ValueError"):=by decide +kernel
theorem aZs:typeOf (.type "ValueError")=pure (.type "type"):=by first|rfl|kernel_rfl
theorem aTs:PySem.W.handedIn (.builtin "ValueError.__init__")=true:=by decide +kernel
theorem aUb:Manifest.isStub "ValueError"=false:=by decide +kernel
theorem aRh (hg:Gl X "ValueError") (hm:X.mg "ValueError"=none) (ha:PA X (e1::es) t)
  (hst:starEach (e1::es) X.env=(false,eval e1 X.env)::starEach es X.env:=by rfl) (hpl:(backTo cpos (starEach es X.env)).any (·.1)=false:=by rfl)
  (ht:eval (.Call (.Attribute (.Name "ValueError" p) "__init__" ap) (e1::es) [] cpos) X.env=(do
   let ov ←eval (.Name "ValueError" p) X.env
   standAt ap.atName
   let (f,first) ←holding [ov] (getMethod ov "__init__" pl)
   callWith cpos f first (backTo cpos (starEach (e1::es) X.env)) (backToKw cpos (keywordEach [] X.env))):=by rfl) :
  PE X (.Call (.Attribute (.Name "ValueError" p) "__init__" ap) (e1::es) [] cpos) (tVI X.K fI t):=by
 intro bEP s σ H Q I h;refine PySem.W.methodCall_KW (pl:=pl) (oY I hg hm aTr ?_) ht;obtain ⟨m,F⟩:=I.fr;refine PySem.W.method_type (T:="ValueError") (name:="__init__") (v:=.builtin "ValueError.__init__") F I.ok.mod.kin aZs aUb (aT8 X.K) aTs ?_;refine bDV (thn (ha cpos bEP _ σ H _ (I.tok _) h) fun us s1 ⟨vs,H1,I1,r,e,C,v,ev,he,c,q⟩=>?_) hst hpl;subst ev;cases r with
 |cons r0 r1=>
  cases r1 with
  |@cons _ u2 _ _ r2 r3=>
   cases r3;obtain rfl:=r0;obtain ⟨ws,hg',hz,h1⟩:=XO.at I1.hok he;have h0:0<ws.size:=by lia
   refine aXw I1.kIn c hg' h0 (v5 h0) (by rw [sizeLine_eq,t7,bBH];lia) ?_;refine ⟨.non,H1,?_,rfl,q⟩;have I2:=I1.kept (h':=s1.heap.push { cls:=.type "tuple",data:=.seq [u2].toArray }) (t':=s1.toks) (fun b u e=>d9 _ e);have hg2:=d9 (h:=s1.heap) { cls:=.type "tuple",data:=.seq [u2].toArray } hg';have hu:=bAU (Obj.mapFields (·.setIfInBounds 0 (Value.ref s1.heap.objs.size))) hg2 (bC3 (bCZ rfl _));have W:=I2.write (x:=e) (e:=e) (o:=XO e C none) (t':=s1.toks) (by rw [he];trivial) (.inl rfl) (fun b u nb q=>(bA7 _ _ (Ne.symm nb)).trans q) ⟨_,hu⟩
    (XO.ok (vs:=ws.setIfInBounds 0 (.ref s1.heap.objs.size)) hu (by simp [hz]) (by rw [Array.getElem?_setIfInBounds_ne (by decide)];exact h1))
   rw [aWl he] at W;exact W
theorem aWr (ha:PE X o ta) (hv:PE X value tv) (hs:swapsWith value (some (.Attribute o "act" pos')) pos.line X.env=pure false:=by rfl):PS X (.Assign [.Attribute o "act" pos'] value pos) (aPo X.K fI ta tv):=by
 intro bEP s σ H D I h;refine plainObj_wpAny_Assign_Attribute (thn (hv bEP s σ H _ I h) fun u s1 ⟨y,H1,I1,ry,q⟩=>thn (ha bEP s1 σ H1 _ I1 q) fun ov s2 ⟨x,H2,I2,rx,e,C,ey,ex,he,c,q2⟩=>?_) hs;subst ex ey;obtain rfl:=rx;obtain rfl:=ry;obtain ⟨ws,hg',hz,h1⟩:=XO.at I2.hok he;have hdn:H2 s2.heap.objs.size=none:=I2.hok.fresh (j6 _);have hne:s2.heap.objs.size≠e:=bBL (j8 hg');refine aTz I2.kIn c hg' fun h' t' k1 k2 k3=>⟨σ,_,?_,q2 _ hdn hne⟩;obtain ⟨od,es,ep,hod,hdd,r⟩:=id k2;have I3:=I2.laid (a:=s2.heap.objs.size) (o:=xdA) (h':=s2.heap.push od) (t':=t') (fun b u e=>d9 _ e) (j6 _)
  ⟨_,⟨od,es,ep,j5 _ (Heap.get?_some_iff.mp hod).2,hdd,r⟩,fun f=>by
   by_cases e:f = "act"
   ·subst e;simp [nC,RelV]
   ·have n:(f == ("act":Str))=false:=by simpa using e
    simp [List.lookup,n,e,nC]⟩
 refine I3.write (x:=e) (e:=e) (o:=XO e C (some s2.heap.objs.size)) (h':=h') (t':=t') (by rw [aK (Ne.symm hne),he];trivial) (.inl rfl) (fun b u nb q=>?_) ⟨_,k1⟩ (XO.ok k1 hz h1);by_cases eb:b=s2.heap.objs.size
 ·subst eb;rw [j5 _ (Heap.get?_some_iff.mp hod).2] at q;cases q;exact hod
 ·refine k3 b u nb ?_;obtain ⟨q1,q2⟩:=Heap.get?_some_iff.mp q;refine Heap.get?_some_iff.mpr ⟨?_,q2⟩;rw [←q1];generalize s2.heap=hh at eb ⊢;cases hh;simp only at eb;simp [Heap.push,Array.getElem?_push,eb]
end
def aA7 (K:bEL) (fI:Addr):Sp:=fun vs H Q _=>∃e C,vs=[.ref e,.non]∧H e=some (XO e C none)∧XC K C fI∧∀dx,H dx=none→dx≠e→Q .non (upd (upd H dx xdA) e (XO e C (some dx)))
def aQz (C:Addr) (E:XK) (t:TA):TS:=fun _ σ H=>t σ H fun vs H1=>vs=[.non]∧∀e dx,H1 e=none→H1 dx=none→dx≠e→E (.ref C) (some e) (upd H1 dx xdA)
section
variable {M:Model} {A:Around} {E:bEM} {env:Env} {K:bEL} {C fI:Addr}
theorem aI5 {s:Shared} {x:Sem Value} {Q:Flow→Shared→Prop} (c:XC K C fI) (hh:A.handled=none)
  (h:wpAny M A x (fun v s₁=>∃e d vs,v=.ref e∧K.In s₁.heap∧s₁.heap.get? e=some { cls:=.ref C,dict:=d,data:=.fields vs }∧vs[1]?=some .none∧E (.ref e) s₁) E s) :
  wpAny M A (raiseStmt env (some x) none) Q E s:=by
 obtain ⟨nm,q,N,bs,bm,sn,sub,ab,col,dd,k0,k1,k2,k3,k5,lk,hB,hA,hN,hE⟩:=c.at_;have hcB:(Value.ref C::bm).contains (.type "BaseException")=true:=by rw [bB9,hE,bEB]
 unfold raiseStmt;refine c7 (bA4 h (fun v s₁ h₁=>?_) fun _ _ x=>x);obtain ⟨e,di,vs,rfl,X,he,h1,hE'⟩:=h₁;have hC:=X _ _ lk;obtain ⟨hp,g,d,tk,os⟩:=s₁
 repeat (first|with_reducible refine bBP he ?_|with_reducible refine bBP hC ?_|(with_reducible refine bCT hC ?_;rw [hcB])|with_reducible refine bAG he rfl h1 ?_|wp_step)
 exact wpAny_raiseNew_none hh hE'
end
section
variable {X:Cx} {CX:CXT} {k:Nat} {C fI:Addr} {fd:FuncData} {ps:List Str} {E:XK} {x:Str} {np cpos pos:Pos} {a:Expr} {t:TA}
theorem aVk {bEP:bEN} {σ:St} {H:Hp} {s:Shared} {Q:VK} {u:Value} (c:XC X.K C fI) (F:fV X.prog X.w X.K X.mg X.base CX k fI fd ps (aA7 X.K fI)) (hr:Room (k+1) X.A) (hb:Binds X.K fd ps []) (hx:mO CX X E0)
  (I:Inv X bEP σ H s) (r:RelV .non u) (h:∀e dx,H e=none→H dx=none→dx≠e→Q (.ref e) (upd (upd H dx xdA) e (XO e C (some dx)))) :
  wpAny (model X.prog X.w) X.A (call (.ref C) [u]) (EP X bEP σ Q) X.xe s:=by
 obtain ⟨hp,g,d,tk,os⟩:=s;refine x_call I.kIn c (fun h' e mk ee ht=>?_) (by rw [sizeLine_eq,t7,bBH];lia);obtain ⟨t0,te,-,-⟩:=mk.there;have hen:H e=none:=I.hok.fresh (by rw [ee];exact bCW _);have I2:Inv X bEP σ (upd H e (XO e C none)) ⟨h',g,d,tk,os⟩:=I.laid (a:=e) (h':=h') (t':=tk) mk.keeps (by rw [ee];exact bCW _) (XO.ok te rfl rfl);have sp:aA7 X.K fI [.ref e,.non] (upd H e (XO e C none)) (fun v H2=>v=.non∧Q (.ref e) H2) E0:=by refine ⟨e,C,rfl,aH,c,fun dx n ne=>⟨rfl,?_⟩⟩;rw [aK ne] at n;have q:=h e dx hen n ne;rw [aPp (Ne.symm ne),aMk];exact q
 have r2:Vals [V.ref e,V.non] [Value.ref e,u]:=.cons rfl (.cons r .nil);have hl:([Value.ref e,u]++[]).length=ps.length:=by have q:=F.len _ _ _ _ sp;rw [bBF];exact q
 have hb':=hb ⟨h',g,d,tk,os⟩ [Value.ref e,u] I2.kIn hl;rw [bBF] at hb';refine bCQ (bBM (F.run _ X.stack _ _ ⟨[Value.ref e,u],[]⟩ [Value.ref e,u] _ _ E0 (hr.make C [u] []) (I2.env0.make C [u] []) hb' r2 sp) fun r s' hq'=>?_);cases r with
 |error v=>exact hx bEP σ _ _ v s' I2 hq'
 |ok fl=>
  cases fl with
  |ret w=>obtain ⟨v,H',I3,rv,ev,q3⟩:=I2.after hq';subst ev;exact ⟨rv,⟨V.ref e,H',I3,rfl,q3⟩⟩
  |next=>exact False.elim hq'
  |brk=>exact False.elim hq'
  |cont=>exact False.elim hq'
theorem aSj (c:XC X.K C fI) (F:fV X.prog X.w X.K X.mg X.base CX k fI fd ps (aA7 X.K fI)) (hr:Room (k+1) X.A) (hb:Binds X.K fd ps []) (hx:mO CX X E0) (hR:Raises X E) (hc:X.calm=true) (hk:PySem.W.keepIn X.K (.ref C)=true)
  (hg:Gl X x) (hm:X.mg x=some (.ref C)) (ha:PA X [a] t) (hdb:(x == ("__debug__":Str))=false:=by decide) (he:starEach [a] X.env=(false,eval a X.env)::starEach [] X.env:=by rfl) :
  PS X (.Raise (some (.Call (.Name x np) [a] [] cpos)) none pos) (aQz C E t):=by
 intro bEP s σ H D I h;rw [arm_exec_Raise];refine c7 (bDD (aI5 c (I.ok.hd hc) ?_));refine c7 (bA4 (Q:=EP X bEP σ fun v H'=>∃e dx H₁,v=.ref e∧H'=upd H₁ e (XO e C (some dx))∧H₁ e=none∧H₁ dx=some xdA∧E (.ref C) (some e) H₁) (E:=X.xe) ?_ (fun v s1 ⟨y,H',I',ry,e,dx,H₁,ey,eH,n,nd,q⟩=>?_) fun _ _ z=>z)
 ·refine bBE (nY I hg hm ?_ hdb);refine PySem.W.callWith_K (h₀:=X.base) I.ok.mod.kin hk (thn (ha cpos bEP s σ H _ I h) fun us s1 ⟨vs,H1,I1,r,ev,q⟩=>⟨I1.kIn,?_⟩) he rfl;subst ev;cases r with
  |cons r0 r1=>cases r1;exact aVk c F hr hb hx I1 r0 fun e dx n1 n2 ne=>⟨e,dx,upd H1 dx xdA,rfl,rfl,by rw [aK (Ne.symm ne)];exact n1,aH,q e dx n1 n2 ne⟩
 ·subst ey eH;obtain rfl:=ry;refine c7 (bDD (j4 ?_));obtain ⟨vs,hg',hz,h1⟩:=XO.at (d:=some dx) I'.hok aH;exact ⟨e,_,vs,rfl,I'.kIn,hg',h1,hR bEP σ H₁ s1 e C dx I' n nd q⟩
end
section
variable {X:Cx} {bEP:bEN} {σ:St} {H:Hp} {s:Shared} {M:Model} {A:Around} {E:bEM} {i:Nat} {n:Str} {pos:Pos} {Q:Unit→Shared→Prop}
end
def aAs (X:Cx) (bEP:bEN) (σ₀:St) (E:XK):Cx:={ X with pn:=X.pn++bEP,xe:=fun v s'=>∃e T dx C H₁,v=.ref e∧Inv X bEP σ₀ (up2 H₁ e T C dx) s'∧H₁ e=none∧H₁ T=none∧T≠e∧H₁ dx=some xdA∧E (.ref C) (some e) H₁ }
def xJ (X:Cx) (e:Addr):Cx:={ X with A:=X.A.mark (some (.ref e)),calm:=false,xe:=fun _ _=>False }
section
variable {X:Cx} {bEP:bEN} {σ σ₀:St} {H:Hp} {s:Shared} {E:XK} {e:Addr}
theorem aXz (ok:X.Ok):(aAs X bEP σ₀ E).Ok:=⟨ok.mod,ok.kind,ok.glob,ok.blt,ok.above,ok.inj,ok.has,ok.cab,ok.hd,ok.frames,ok.stk,ok.exf,ok.bs,ok.bsz,ok.noex,ok.exfs,ok.funs,ok.frf⟩
theorem aS8 (ok:X.Ok):(xJ X e).Ok:=⟨ok.mod,ok.kind,ok.glob,ok.blt,ok.above,ok.inj,ok.has,ok.cab,(fun z=>nomatch z),ok.frames,ok.stk,ok.exf,ok.bs,ok.bsz,ok.noex,ok.exfs,ok.funs,ok.frf⟩
theorem Inv.aY9 (I:Inv X bEP σ H s):Inv (aAs X bEP σ₀ E) [] σ H s:=⟨aXz I.ok,I.os,I.bare,I.base,I.loc,I.cell,I.free,I.freeC,fun p hp=>I.pin p (by rw [bBF] at hp;exact hp),I.hok,I.len⟩
theorem Inv.aG3 {pins':bEN} (ok:X.Ok) (I:Inv (aAs X bEP σ₀ E) pins' σ H s):Inv X bEP σ H s:=⟨ok,I.os,I.bare,I.base,I.loc,I.cell,I.free,I.freeC,fun p hp=>I.pin p (bCN _ hp),I.hok,I.len⟩
theorem Inv.aQs (I:Inv X bEP σ H s):Inv (xJ X e) bEP σ H s:=⟨aS8 I.ok,I.os,I.bare,I.base,I.loc,I.cell,I.free,I.freeC,I.pin,I.hok,I.len⟩
theorem Inv.aEm (ok:X.Ok) (I:Inv (xJ X e) bEP σ H s):Inv X bEP σ H s:=⟨ok,I.os,I.bare,I.base,I.loc,I.cell,I.free,I.freeC,I.pin,I.hok,I.len⟩
end
section
variable {X:Cx} {bEP₀:bEN} {σ₀:St} {k:Nat} {f:Addr} {fd:FuncData} {ps:List Str} {sp:Sp} {dvs:List V} {ds:List Value} {E:XK} {x:Str} {p pos:Pos} {e:Expr} {es:List Expr} {t:TA}
end
structure XS (K:bEL) (S:Addr):Prop where
 ty:PySem.W.typeIn K (.ref S)=some (.type "type")
 cls:(PySem.W.clsIn K S).isSome=true
 base:PySem.W.mroIn K S (.type "BaseException")=some true
theorem aO7 {M:Model} {A:Around} {E:bEM} {s:Shared} {K:bEL} {S C e:Addr} {oe:Obj} {Q:Bool→Shared→Prop} (X:K.In s.heap) (hS:XS K S) (he:s.heap.get? e=some oe) (hc:oe.cls=.ref C) (hm:PySem.W.mroIn K C (.ref S)=some true)
  (hq:Q true s):wpAny M A (excMatches (.ref e) (.ref S)) Q E s:=by
 obtain ⟨h,g,d,t,os⟩:=s;have T:PySem.W.Looks M h (typeOf (.ref S)) (.type "type"):=PySem.W.looks_typeIn X hS.ty;have T0:PySem.W.Looks M h (isInstance (.ref S) (.type "tuple")) false:=T.andThen (PySem.W.Looks.of_pure tc_notTuple);have Ti:PySem.W.Looks M h (isType (.ref S)) true:=by
  obtain ⟨cd,q⟩:=Option.isSome_iff_exists.mp hS.cls;unfold PySem.W.clsIn at q
  split at q
  ·rename_i ho;exact (PySem.W.Looks.ld (X _ _ ho)).andThen .now
  ·cases q
 have Te:PySem.W.Looks M h (typeOf (.ref e)) (.ref C):=hc ▸ (PySem.W.Looks.ld he).andThen .now;have L1:=PySem.W.looks_mroIn (M:=M) X hS.base;have L2:=PySem.W.looks_mroIn (M:=M) X hm;have LE:PySem.W.Looks M h (isExcClass (.ref S)) true:=Ti.andThen L1;unfold excMatches;refine c7 (T0.at ?_);rw [if_neg (by decide)];refine c7 (j4 (a:=[Value.ref S]) ?_);simp only [bCE,bC7];refine c7 (c7 (c7 (LE.at ?_)));simp only [Bool.not_true,bA6,if_false];refine j4 (j4 (c7 (Te.at (c7 (c7 (c7 (L2.at ?_)))))));simp only [if_true];exact j4 (j4 (j4 hq))
section
variable {X:Cx} {S:Addr} {i:Nat} {x n:Str} {np hpos pos:Pos} {body suite:List Stmt} {b₀:Stmt} {tb:St→XK→TS} {th:TS}
end
section
variable {X:Cx} {o:Expr} {pos:Pos} {ta:TE}
end
section
variable {P:Program} {w:World} {K:bEL} {mg:bEO} {base:Heap}
theorem fV.calm {k:Nat} {f:Addr} {fd:FuncData} {ps:List Str} {sp sp':Sp} (F:fV P w K mg base (CXR P w) k f fd ps sp) (h:∀vs H Q E,sp' vs H Q E→sp vs H Q E0):fV P w K mg base CX0 k f fd ps sp':=
 ⟨fun vs H Q E q=>F.len vs H Q E0 (h _ _ _ _ q),fun A outer s H args us vs Q E hr he hb hv hs=>bBM (F.run A outer s H args us vs Q E0 hr he hb hv (h _ _ _ _ hs)) fun r s' hq=>by
  cases r with
  |error v=>obtain ⟨_,_,_,_,_,_,_,_,_,_,_,_,_,_,z⟩:=hq;exact z.elim
  |ok fl=>cases fl <;> exact hq⟩
structure ExT (K:bEL) (mg:bEO) (st:Stmt) (x y:Str) (C S:Addr):Prop where
 at_:∃fI fd,XC K C fI∧Fun K "__init__" y st fI fd∧Binds K fd ["self","act"] []
 mg:mg x=some (.ref C)
 kp:PySem.W.keepIn K (.ref C)=true
 cls:XS K C
 over:PySem.W.mroIn K C (.ref S)=some true
theorem aUc {k:Nat} {y:Str} {st:Stmt} {fI:Addr} {fd:FuncData} (F:Fun K "__init__" y st fI fd) (Sc:aJ ["self","act"] ["self","act"] (aD st))
  (hb:∀(X:Cx),X.N=(["self","act"]:List Str)→X.env.scope=aD st→X.mg=mg→VSs X (dB st) (aCf (aMe (tVI X.K fI (dR (uP 0) (dR (uP 1) aBw)))) (aPo X.K fI (uP 0) (uP 1)))) :
  fV P w K mg base CX0 (k+1) fI fd ["self","act"] (aA7 K fI):=by
 refine F.okV Sc (fun vs H Q E ⟨e,C,z,_⟩=>by rw [z];rfl) fun cdv A outer s H vs Q E hr ⟨e,C,ev,he,c,q⟩=>⟨_,hb _ rfl rfl rfl,?_⟩;subst ev;refine ⟨_,rfl,_,rfl,e,C,.non,rfl,he,c,?_⟩;exact ⟨_,rfl,_,rfl,e,C,rfl,rfl,he,c,fun dx n ne=>q dx n ne⟩
end
section
variable {X:Cx} {k j:Nat} {C S:Addr} {E:XK} {x y:Str} {np cpos pos:Pos} {a:Expr} {t:TA} {st:Stmt}
theorem aP4 (hT:ExT X.K X.mg st x y C S) (hI:∀fI fd,Fun X.K "__init__" y st fI fd→fV X.prog X.w X.K X.mg X.base CX0 k fI fd ["self","act"] (aA7 X.K fI)) (hr:Room (k+1) X.A) (hR:Raises X E) (hc:X.calm=true)
  (hg:Gl X x) (ha:VA X [a] t) (hdb:(x == ("__debug__":Str))=false:=by decide) (hp:cU a=true:=by rfl) :
  VS X (.Raise (some (.Call (.Name x np) [a] [] cpos)) none pos) (aQz C E t):=by
 obtain ⟨⟨fI,fd,c,F,B⟩,m,kp,_,_⟩:=hT;exact ⟨aSj c (hI fI fd F) hr B aBt hR hc kp hg m ha.1 hdb (aN (es:=[]) hp)⟩
end
section
variable {P:Program} {w:World} {K:bEL} {mg:bEO} {base:Heap}
def yH (P:Program) (w:World) (K:bEL) (mg:bEO) (base:Heap) (C:Addr) (k:Nat) (m:Str) (ps:List Str) (sp:Sp):Prop:=
 ∃f fd,Cls K C∧Meth K C m f∧Binds K fd ps []∧fV P w K mg base (CXR P w) k f fd ps sp
theorem yH.mono {C:Addr} {j k:Nat} {m:Str} {ps:List Str} {sp:Sp} (h:yH P w K mg base C j m ps sp) (hj:j≤k):yH P w K mg base C k m ps sp:=by obtain ⟨f,fd,h1,h2,h3,h4⟩:=h;exact ⟨f,fd,h1,h2,h3,h4.mono hj⟩
theorem yH.ofV {C:Addr} {m qual:Str} {st:Stmt} {N ps:List Str} {k:Nat} {sp:Sp} (c:Cls K C) (D:iR K C m qual st ps) (S:aJ N ps (aD st)) (len:∀vs H Q E,sp vs H Q E→vs.length=ps.length)
  (hbody:∀(f:Addr) (cdv:Value) (A:Around) (outer:List Env) (s:Shared) (H:Hp) (vs:List V) (Q:VK) (E:XK),Room k (A.deeper (envOfC qual (aD st) s.heap.objs.size f cdv))→sp vs H Q E →
   ∃t,VSs (vR (CXR P w) P w K mg base N qual (aD st) f cdv A outer s H E) (dB st) t∧t { nx:=fun _ H'=>Q .non H',rt:=Q } (start N vs) H):yH P w K mg base C (k+1) m ps sp:=by
 obtain ⟨f,fd,hm,F,B⟩:=D;obtain ⟨oc,od,kV,doc,pm,an,cdv,ct,osl,rfl,lk,hcd⟩:=F.ex;exact ⟨f,_,c,hm,B,aSg lk hcd S len fun A outer s H vs Q E hr hsp=>let ⟨t,h1,h2⟩:=hbody f cdv A outer s H vs Q E hr hsp;⟨t,h1.1,h2⟩⟩
theorem yH.calm {C:Addr} {k:Nat} {m:Str} {ps:List Str} {sp sp':Sp} (G:yH P w K mg base C k m ps sp) (h:∀vs H Q E,sp' vs H Q E→sp vs H Q E0):OkM P w K mg base C k m ps sp':=by obtain ⟨f,fd,h1,h2,h3,h4⟩:=G;exact ⟨f,fd,h1,h2,h3,h4.calm h⟩
end
def aU6 (σ₀:St) (C:Addr) (m:Str) (sp:Sp) (E:XK) (ta:TE) (t:TA):TE:=fun σ H Q=>σ=σ₀∧ta σ H fun x H1=>∃a dx fs,x=.ref a∧H1 a=some (.ins C dx fs)∧fs.lookup m=none∧t σ H1 fun vs H2=>sp (x::vs) H2 Q E
section
variable {X:Cx} {bEP₀:bEN} {σ₀:St} {k:Nat} {C:Addr} {ps:List Str} {sp:Sp} {E:XK} {m:Str} {apos pos:Pos} {o e:Expr} {es:List Expr} {ta:TE} {t:TA}
theorem aPi {pl:Sem Bool} (ok:X.Ok) (G:yH X.prog X.w X.K X.mg X.base C k m ps sp) (hr:Room k X.A) (he:VE (aAs X bEP₀ σ₀ E) o ta) (ha:VA (aAs X bEP₀ σ₀ E) (e::es) t)
  (hp:cU e=true:=by rfl) (hpl:(backTo pos (starEach es X.env)).any (·.1)=false:=by rfl)
  (ht:eval (.Call (.Attribute o m apos) (e::es) [] pos) X.env=(do
   let ov ←eval o X.env
   standAt apos.atName
   let (f,first) ←holding [ov] (getMethod ov m pl)
   callWith pos f first (backTo pos (starEach (e::es) X.env)) (backToKw pos (keywordEach [] X.env))):=by rfl):VE (aAs X bEP₀ σ₀ E) (.Call (.Attribute o m apos) (e::es) [] pos) (aU6 σ₀ C m sp E ta t):=by
 obtain ⟨f,fd,c,hm,hb,F⟩:=G;refine ⟨?_⟩;rintro bEP s σ H Q I ⟨rfl,h⟩;refine PySem.W.methodCall_KW (pl:=pl) (thn (he.1 bEP s σ H _ I h) fun u s1 ⟨x,H1,I1,rx,a,dx,fs,ex,ea,l,q⟩=>?_) ht;subst ex;obtain rfl:u=Value.ref a:=rx;refine tO I1 ea c hm l ?_;refine PySem.W.callWith_K (first:=[.ref a]) (h₀:=X.base) I.ok.mod.kin hm.kp (thn (ha.1 pos bEP s1 σ H1 _ I1 q) fun us s2 ⟨vs,H2,I2,r,q2⟩=>⟨I2.kIn,?_⟩) (aN hp) hpl;have r2:Vals (.ref a::vs) (.ref a::us):=.cons rfl r;have hl:(Value.ref a::us).length=ps.length:=by rw [←r2.length];exact F.len _ _ _ _ q2
 have hb2:=hb s2 (Value.ref a::us) I2.kIn (by rw [bBF];exact hl);rw [bBF] at hb2;refine bCQ (bBM (F.run X.A X.stack s2 H2 ⟨.ref a::us,[]⟩ (.ref a::us) (.ref a::vs) Q E hr I2.env0 hb2 r2 q2) fun r s' hq=>?_);cases r with
 |error v=>obtain ⟨a,T,dx,C,H₁,rfl,os,bare,n,nT,hTe,hd',un,hok,q'⟩:=hq;exact ⟨a,T,dx,C,H₁,rfl,(Inv.aG3 ok I2).call' (s':=s') (ch:=[]) os un hok bare (fun b z=>absurd z (by simp)),n,nT,hTe,hd',q'⟩
 |ok fl=>
  cases fl with
  |ret u=>exact I2.after hq
  |next=>exact False.elim hq
  |brk=>exact False.elim hq
  |cont=>exact False.elim hq
end
def exN (K:bEL) (S:Addr) (th:TS) (D:Ends) (σ:St):XK:=fun v o H₁=>∃C e fI,v=.ref C∧o=some e∧XC K C fI∧PySem.W.mroIn K C (.ref S)=some true ∧
 ∀T dx,H₁ e=none→H₁ T=none→T≠e→H₁ dx=some xdA→th D σ (up2 H₁ e T C dx)
def aZu (K:bEL) (S:Addr) (tb:St→XK→TS) (th:TS):TS:=fun D σ H=>tb σ (exN K S th D σ) D σ H
section
variable {X:Cx} {S:Addr} {x:Str} {np hpos pos:Pos} {body suite:List Stmt} {b₀:Stmt} {tb:St→XK→TS} {th:TS}
theorem aUu (hst:X.stack=X.env::X.outer) (hfrm:X.env.frame=some X.env.locals)
  (hg:Gl X x) (hm:X.mg x=some (.ref S)) (hS:XS X.K S) (hb:∀bEP σ₀ E,X.Ok→VSs (aAs X bEP σ₀ E) body (tb σ₀ E)) (hh:∀e,VSs (xJ X e) (b₀::suite) th) (hdb:(x == ("__debug__":Str))=false:=by decide) :
  VS X (.Try body [.ExceptHandler (some (.Name x np)) none (b₀::suite) hpos] [] [] pos) (aZu X.K S tb th):=⟨by
 intro bEP s σ H D I h;refine wpAny_Try_except (bA4 ((hb bEP σ (exN X.K S th D σ) I.ok).1 [] s σ H D I.aY9 h) (fun f s1 h1=>?_) fun v s1 h1=>?_)
 ·cases f with
  |next=>obtain ⟨σ',H',I',q⟩:=h1;exact bD5 ⟨σ',H',Inv.aG3 I.ok I',q⟩
  |brk=>obtain ⟨σ',H',I',q⟩:=h1;exact ⟨σ',H',Inv.aG3 I.ok I',q⟩
  |cont=>obtain ⟨σ',H',I',q⟩:=h1;exact ⟨σ',H',Inv.aG3 I.ok I',q⟩
  |ret u=>obtain ⟨v,σ',H',I',r,q⟩:=h1;exact ⟨v,σ',H',Inv.aG3 I.ok I',r,q⟩
 ·obtain ⟨e,T,dx,C,H₁,rfl,I1,n1,nT,hTe,hd,C',e',fI,eC,ee,c,hmr,q⟩:=h1;cases eC;cases ee;refine aPf I1 hst hfrm n1 nT hTe fun T' s1' I1' nT' hTe'=>tM I1' hTe' fun s2 I2=>?_;have I2h:Inv (xJ X e) bEP σ (up2 H₁ e T' C dx) s2:=I2.aQs;refine wpAny_handleBy_cons (codeAny_handlers_test ?_) (by intro q;cases q);refine nY (X:=xJ X e) I2h hg hm ?_ hdb;have e1:up2 H₁ e T' C dx e=some (aLk e T' C dx):=aH;obtain ⟨vs,hge,hz,hv1⟩:=(I2.hok e _ e1).1;refine aO7 I2.kIn hS hge rfl hmr ?_;rw [if_pos rfl];refine codeAny_handlers_suite ?_;refine tM I2 hTe' fun s2' I3=>?_;refine bA4 ((hh e).1 bEP s2' _ _ _ I3.aQs (q T' dx n1 nT' hTe' hd)) (fun f s4 h4=>?_) fun _ _ z=>z.elim;cases f with
  |next=>obtain ⟨σ',H',I',q'⟩:=h4;exact ⟨σ',H',Inv.aEm I.ok I',q'⟩
  |brk=>obtain ⟨σ',H',I',q'⟩:=h4;exact ⟨σ',H',Inv.aEm I.ok I',q'⟩
  |cont=>obtain ⟨σ',H',I',q'⟩:=h4;exact ⟨σ',H',Inv.aEm I.ok I',q'⟩
  |ret u=>obtain ⟨v,σ',H',I',r,q'⟩:=h4;exact ⟨v,σ',H',Inv.aEm I.ok I',r,q'⟩⟩
end
section
variable {X:Cx}
def bAo (K:bEL):List V→Hp→VK→Prop:=fun xs H Q=>∃(p:Addr) (bs:List Bool),xs=[.ref p]∧SqL K H p (bs.map V.bl)∧Q (.bl (bs.any id)) H
theorem any_range (bs:List Bool):(List.range bs.length).any (fun i=>bs.getD i false)=bs.any id:=by
 rw [bCD,bDB,bDB];constructor
 ·rintro ⟨i,hi,h⟩;have hi:=List.mem_range.mp hi;rw [j7,j0 hi] at h;exact ⟨_,bA9 hi,h⟩
 ·rintro ⟨b,hb,h⟩;obtain ⟨i,hi,e⟩:=List.mem_iff_getElem.mp hb;refine ⟨i,List.mem_range.mpr hi,?_⟩;rw [j7,j0 hi];show bs[i]=true;rw [e];exact h
theorem aRn (hc:X.calm=true):cJ X (.builtin "any") (bAo X.K):=by
 intro bEP s σ H xs us Q I r h;obtain ⟨p,bs,rfl,hq,q⟩:=h;obtain ⟨u,rfl,rx⟩:=r.one;cases rx;obtain ⟨its,rv,pl,hz⟩:=I.list hq;have hl:=rv.length;rw [m7] at hl;have hne:p≠s.heap.objs.size:=by obtain ⟨o,ho,_⟩:=pl.isList;exact m9 (j8 ho)
 refine call_any_walk (bBW pl.isList ?_);refine ⟨s.heap.objs.size,_,_,_,_,_,fun i=>bs.getD i false,rfl,Walks.list (show X.A.in1.handled=none from I.ok.hd hc) _ p hne its.toArray,⟨⟨_,j5 _ rfl,rfl,rfl⟩,?_⟩,?_,fun h' tk kp=>?_⟩
 ·exact pl.isList.at fun o e=>d9 _ e
 ·intro i v s' Q' E' hv hq';have hv':its[i]?=some v:=by simpa using hv
  have hi:i<bs.length:=by rw [hl];exact (List.getElem?_eq_some_iff.mp hv').1
  obtain ⟨u,hu,ru⟩:=rv.get (i:=i) (x:=.bl bs[i]) (by rw [t8,j0 hi];rfl);rw [hv'] at hu;cases hu;cases ru;have e:bs.getD i false=bs[i]:=by rw [j7,j0 hi];rfl
  replace hq':Q' (bs.getD i false) s':=hq';rw [e] at hq';exact bBA hq'
 ·have e:(List.range its.toArray.size).any (fun i=>bs.getD i false)=bs.any id:=by rw [j9,←hl];exact any_range bs
  rw [e];refine ⟨.bl (bs.any id),H,?_,rfl,q⟩;exact I.kept fun b o eo=>kp b o (by
   intro z;have:b=s.heap.objs.size:=by simpa using z
   rw [this] at eo;exact absurd (j8 eo) (bBI _)) (d9 _ eo)
def aWw:List V→Hp→VK→Prop:=fun xs H Q=>∃z:Str,xs=[.str z]∧z.length≤1000∧∀l H',H l=none→Same H H'→H' l=some (.lst ((List.range z.cps.size).map fun i=>V.str (sgn z i)))→Q (.ref l) H'
theorem aAm (z:Str):∀(n k:Nat) (vs:List Value),vs.length=n→(∀(j:Nat) (v:Value),vs[j]?=some v→∃t,v=.str (sgn z (k+j)) t)→Vals ((List.range' k n).map fun i=>V.str (sgn z i)) vs
 |0,k,[],_,_=>.nil
 |n+1,k,v::vs,hl,h=>by obtain ⟨t,rfl⟩:=h 0 v rfl;rw [List.range'_succ,bAN];refine .cons ⟨t,rfl⟩ (aAm z n (k+1) vs (by simpa using hl) fun j u e=>?_);obtain ⟨t',e'⟩:=h (j+1) u e;exact ⟨t',by rw [e',show k+(j+1)=k+1+j by lia]⟩
theorem aJ6 (hc:X.calm=true):cJ X (.type "list") aWw:=by
 intro bEP s σ H xs us Q I r h;obtain ⟨z,rfl,hl,q⟩:=h;obtain ⟨u,rfl,t,rfl⟩:=vals1 r;refine call_list_str (I.ok.hd hc) z t (fun h' tk acc' c' kp hS hacc=>?_) (small hl);have hv:=aAm z z.cps.size 0 acc'.toList (by rw [v9];exact hacc.1) fun j v e=>by have hj:=hacc.2 j v (by rw [←bB5];exact e);obtain ⟨c,t',e1,e2⟩:=hj;refine ⟨t',?_⟩;rw [e2];unfold sgn;rw [bDA,v7,e1];rfl
 rw [←List.range_eq_range'] at hv;have ea:acc'.toList.toArray=acc':=by simp
 have hf:H s.heap.objs.size=none:=I.hok.fresh (j6 _);refine ⟨.ref s.heap.objs.size,_,I.laid (t':=tk) (o:=.lst ((List.range z.cps.size).map fun i=>V.str (sgn z i))) kp (j6 _) ?_,rfl,q _ _ hf (aX hf _) aH⟩;refine ⟨by rw [m7,bAM];exact small hl,acc'.toList,c',hv,?_⟩;rw [ea];exact hS
end
theorem aJm {X:Cx} {K:bEL} (h:X.K=K:=by rfl):OpR X (compareOp .In) (rIn K false):=by subst h;exact wA
structure aYp (E:Hp→Hp→Prop) (H:Hp):Prop where
 new:∀D o,H D=none→E H (upd H D o)
 trans:∀{H1 H2},E H H1→E H1 H2→E H H2
 upd:∀D o H',H D=none→E H H'→E H (upd H' D o)
 keep:∀D H1 H2 xs,H D=none→E H H1→H1 D=some (.lst xs)→E H1 H2→H2 D=some (.lst xs)
theorem aNk (H:Hp):aYp Same H:=⟨fun D o h=>aX h o,fun a b=>a.trans b,fun D o H' h s=>lH h s,fun D H1 H2 xs _ _ h s=>s _ _ h⟩
def uJ (J:It) (H1:Hp) (σ0:L2.St) (g:TG) (tt:TT) (te:TE) (Q:VK):Prop:=∀D,H1 D=none→∃W:Nat→Nat→L2.St→Hp→List V→Prop,(∃m,W 0 m σ0 (L2.upd H1 D (.lst [])) []) ∧
 ∀i m σ' H' ys,W i m σ' H' ys→H' D=some (.lst ys)∧((J.stop i H'∧Q (.ref D) H')∨(J.go i H'∧∀x H2,J.yld i H' x H2→g x σ' H2 fun σ3 H3=>tt σ3 H3 fun b H4=>
  if b=true then te σ3 H4 fun y H5=>H5 D=some (.lst ys)∧ys.length<sizeLine∧∃m',m'<m∧W (i+1) m' σ3 (L2.upd H5 D (.lst (ys++[y]))) (ys++[y]) else H4 D=some (.lst ys)∧∃m',m'<m∧W (i+1) m' σ3 H4 ys))
section
variable {X:Cx} {K:bEL} {scope:Scope} {N:List Str} {tl te:TE} {tt:TT} {g:TG} {σ:L2.St} {H:Hp} {Q:VK}
theorem aHg (σ0:L2.St) (cap:Cap X scope N σ σ0) (h:tl σ H fun v H1=>∃a,v=.ref a∧(∃xs,SqL K H1 a xs)∧uJ (Itl K a) H1 σ0 g tt te Q):jW X scope N (aC2 K tl) g tt te σ H Q:=⟨σ0,cap,h⟩
theorem lK (σ0:L2.St) (cap:Cap X scope N σ σ0) (h:tl σ H fun v H1=>∃a,v=.ref a∧(∃xs,SqT K H1 a xs)∧uJ (Itt K a) H1 σ0 g tt te Q):jW X scope N (aUd K tl) g tt te σ H Q:=⟨σ0,cap,h⟩
theorem tE {a:Addr} {xs:List V} {E:Hp→Hp→Prop} (hS:∀H',E H H'→SqT K H' a xs):∀H' i x,E H H'→xs[i]?=some x→(Itt K a).go i H'∧∀y H2,(Itt K a).yld i H' y H2→H2=H'∧y=x:=fun H' i x s e=>
 ⟨⟨xs,x,hS H' s,e⟩,fun y H2 hy=>by obtain ⟨e1,e2⟩:=hy;have e3:=e2 xs (hS H' s);rw [e] at e3;cases e3;exact ⟨e1,rfl⟩⟩
theorem lO {a:Addr} {xs:List V} {E:Hp→Hp→Prop} (hS:∀H',E H H'→SqT K H' a xs):∀H',E H H'→(Itt K a).stop xs.length H':=fun H' s=>⟨xs,hS H' s,j6 _⟩
inductive sE (R:Nat→V→Prop):List Nat→List V→Prop
 |nil:sE R [] []
 |cons {i y is ys}:R i y→sE R is ys→sE R (i::is) (y::ys)
theorem sE.snoc {R:Nat→V→Prop} {is:List Nat} {ys:List V} {i:Nat} {y:V} (h:sE R is ys) (r:R i y):sE R (is++[i]) (ys++[y]):=by
 induction h with
 |nil=>exact .cons r .nil
 |cons r' _ ih=>exact .cons r' ih
theorem sE.imp {R S:Nat→V→Prop} {is:List Nat} {ys:List V} (h:sE R is ys) (k:∀i y,R i y→S i y):sE S is ys:=by
 induction h with
 |nil=>exact .nil
 |cons r _ ih=>exact .cons (k _ _ r) ih
theorem sE.len {R:Nat→V→Prop} {is:List Nat} {ys:List V} (h:sE R is ys):is.length=ys.length:=by
 induction h with
 |nil=>rfl
 |cons _ _ ih=>rw [t7,t7,ih]
theorem aHd {σ0:L2.St} (E:Hp→Hp→Prop) (eo:aYp E H) (xs:List V) (p:Nat→Bool) (Rel:Nat→Hp→V→Prop)
  (st:∀{i H1 H2 y},E H H1→E H1 H2→Rel i H1 y→Rel i H2 y) (su:∀{i H1 D ys zs y},H D=none→E H H1→H1 D=some (.lst ys)→Rel i H1 y→Rel i (L2.upd H1 D (.lst zs)) y)
  (At:Nat→L2.St→Prop) (Ps:L2.St→Prop) (h0:Ps σ0) (hsz:xs.length≤sizeLine)
  (J:It) (go:∀H' i x,E H H'→xs[i]?=some x→J.go i H'∧∀y H2,J.yld i H' y H2→H2=H'∧y=x) (stop:∀H',E H H'→J.stop xs.length H')
  (hg:∀(i:Nat) (x:V) σ' H' Q',xs[i]?=some x→Ps σ'→E H H'→(∀σ2,Ps σ2→At i σ2→Q' σ2 H')→g x σ' H' Q')
  (ht:∀(i:Nat) (x:V) σ2,xs[i]?=some x→At i σ2→∀H' R,E H H'→(∀H2,E H' H2→R (p i) H2)→tt σ2 H' R)
  (he:∀(i:Nat) (x:V) σ2,xs[i]?=some x→At i σ2→p i=true→∀H' R,E H H'→(∀y H2,E H' H2→Rel i H2 y→R y H2)→te σ2 H' R)
  (q:∀D H' ys,E H H'→H D=none→H' D=some (.lst ys)→sE (fun i y=>Rel i H' y) (sel p 0 (List.range xs.length)) ys→Q (.ref D) H'):uJ J H σ0 g tt te Q:=by
 intro D hD;refine ⟨fun i m σ' H' ys=>i≤xs.length∧m=xs.length - i∧Ps σ'∧E H H'∧H' D=some (.lst ys)∧sE (fun i y=>Rel i H' y) (sel p 0 (List.range i)) ys,⟨xs.length,bAL _,rfl,h0,eo.new _ _ hD,aH,.nil⟩,?_⟩;rintro i m σ' H' ys ⟨hi,rfl,hps,sm,hL,hR⟩;refine ⟨hL,?_⟩;by_cases hlt:i<xs.length
 ·right;have hx:=j0 hlt;obtain ⟨g1,g2⟩:=go H' i xs[i] sm hx;refine ⟨g1,fun x H2 hy=>?_⟩;obtain ⟨rfl,rfl⟩:=g2 x H2 hy;have tk:sel p 0 (List.range (i+1))=sel p 0 (List.range i)++(if p i then [i] else []):=by rw [List.range_succ,aBi,bAM,bDA]
  have lR:=hR.len;have lS:=aD3 p 0 (List.range i);rw [bAM] at lS;refine hg i xs[i] σ' _ _ hx hps sm fun σ2 hp2 hat=>?_;refine ht i xs[i] σ2 hx hat _ _ sm fun H3 s3=>?_;have sm3:=eo.trans sm s3;have hL3:=eo.keep D _ _ _ hD sm hL s3;cases hp:p i with
  |true=>rw [if_pos rfl];refine he i xs[i] σ2 hx hat hp _ _ sm3 fun y H4 s4 r4=>?_;have sm4:=eo.trans sm3 s4;have hL4:=eo.keep D _ _ _ hD sm3 hL3 s4;refine ⟨hL4,by lia,xs.length - (i+1),by lia,hlt,rfl,hp2,eo.upd D _ _ hD sm4,aH,?_⟩;rw [tk,hp];exact sE.snoc (hR.imp fun j z r=>su hD sm4 hL4 (st sm3 s4 (st sm s3 r))) (su hD sm4 hL4 r4)
  |false=>rw [if_neg (by simp)];refine ⟨hL3,xs.length - (i+1),by lia,hlt,rfl,hp2,sm3,hL3,?_⟩;rw [tk,hp];simp only [bA6,if_false,bBF];exact hR.imp fun j z r=>st sm s3 r
 ·left;have e:i=xs.length:=by lia
  subst e;exact ⟨stop _ sm,q D _ ys sm hD hL hR⟩
end
def At1 (σ0:L2.St) (v:V) (σ:L2.St):Prop:=∃l,σ=(σ0.set 0 l).set 0 (some v)
def Ps1 (σ0:L2.St) (σ:L2.St):Prop:=∃l,σ=σ0.set 0 l
def At2 (σ0:L2.St) (a b:V) (σ:L2.St):Prop:=σ=(σ0.set 0 (some a)).set 1 (some b)
def Ps2 (σ0:L2.St) (σ:L2.St):Prop:=∃l m,σ=(σ0.set 0 l).set 1 m
theorem hg1 {σ0:L2.St} {i:Nat} {x:V} {σ':L2.St} {H':Hp} {Q':L2.St→Hp→Prop} (h:Ps1 σ0 σ') (q:∀σ2,Ps1 σ0 σ2→At1 σ0 x σ2→Q' σ2 H'):cO 0 x σ' H' Q':=by obtain ⟨l,rfl⟩:=h;exact q _ ⟨some x,by rw [bBZ]⟩ ⟨l,rfl⟩
theorem hg2 {K:bEL} {σ0:L2.St} {p:Addr} {a b:V} {σ':L2.St} {H':Hp} {Q':L2.St→Hp→Prop} (hp:SqT K H' p [a,b]) (h:Ps2 σ0 σ') (q:∀σ2,Ps2 σ0 σ2→At2 σ0 a b σ2→Q' σ2 H'):aKj K 2 (sJ (cO 0) (sJ (cO 1) aO3)) (.ref p) σ' H' Q':=by
 obtain ⟨l,m,rfl⟩:=h;have e:(((σ0.set 0 l).set 1 m).set 0 (some a)).set 1 (some b)=(σ0.set 0 (some a)).set 1 (some b):=by rw [List.set_comm _ _ (show (1:Nat)≠0 by decide),bBZ,bBZ]
 refine ⟨p,_,rfl,hp,rfl,_,_,rfl,_,_,rfl,rfl,?_⟩;show Q' ((((σ0.set 0 l).set 1 m).set 0 (some a)).set 1 (some b)) H';rw [e];exact q _ ⟨some a,some b,rfl⟩ rfl
theorem vM (xs:List V) (n:Nat):pJ xs none (some (n:Int))=xs.take n:=by
 unfold pJ;rw [HT.aGd,HT.aLy,List.drop_zero,Nat.sub_zero];by_cases h:n≤xs.length
 ·rw [Nat.min_eq_left h]
 ·rw [Nat.min_eq_right (by lia),bB8,bAW (by lia)]
theorem mV (xs:List V) (n:Nat):pJ xs (some (n:Int)) none=xs.drop n:=by
 unfold pJ;rw [HT.aGd,HT.aLy];by_cases h:n≤xs.length
 ·rw [Nat.min_eq_left h];exact bAW (by rw [bA8];lia)
 ·rw [Nat.min_eq_right (by lia),List.drop_length,List.drop_of_length_le (by lia),List.take_nil]
def aY6 (K:bEL):V→Option Int→Option Int→Hp→VK→Prop:=fun x lo hi H Q=>∃a xs,x=.ref a∧SqL K H a xs∧∀p H',H p=none→Same H H'→H' p=some (.lst (pJ xs lo hi))→Q (.ref p) H'
theorem aHt {X:Cx}:SlR X (aY6 X.K):=fun bEP s σ H x v vl vu lo hi sl Q I rx hs pl pu ⟨a,xs,e,ha,q⟩=>
 aU3 bEP s σ H x v vl vu lo hi sl Q I rx hs pl pu ⟨a,xs,e,ha,fun p hp=>q p _ hp (aX hp _) aH⟩
end L2
namespace L2
open PySem PySem.Spec PyProof.Rows
inductive Al2 {α β:Type} (R:α→β→Prop):List α→List β→Prop
 |nil:Al2 R [] []
 |cons {a b as bs}:R a b→Al2 R as bs→Al2 R (a::as) (b::bs)
theorem Al2.len {α β:Type} {R:α→β→Prop} {as:List α} {bs:List β} (h:Al2 R as bs):as.length=bs.length:=by
 induction h with
 |nil=>rfl
 |cons _ _ ih=>rw [t7,t7,ih]
theorem Al2.at {α β:Type} {R:α→β→Prop} {as:List α} {bs:List β} (h:Al2 R as bs):∀{j:Nat} {a:α},as[j]?=some a→∃b,bs[j]?=some b∧R a b:=by
 induction h with
 |nil=>intro j a e;simp at e
 |cons r _ ih=>
  intro j a e;cases j with
  |zero=>cases e;exact ⟨_,rfl,r⟩
  |succ j=>exact ih (by simpa using e)
def DEq (K:bEL) (H:Hp):Nat→V→V→Prop
 |0,x,y=>gU x=true∧x=y
 |n+1,x,y=>(gU x=true∧x=y)∨∃a b xs ys,x=.ref a∧y=.ref b∧SqT K H a xs∧SqT K H b ys∧Al2 (DEq K H n) xs ys
theorem aC6 {A:Around} {s:Shared} {x:V} {v u:Value} (h:gU x=true) (rv:RelV x v) (ru:RelV x u):SeqAt.EqAt A s v u true:=by
 cases x with
 |non=>cases rv;cases ru;exact bD6 _
 |bl b=>cases rv;cases ru;exact bD6 _
 |int i=>obtain ⟨t,rfl⟩:=rv;obtain ⟨t',rfl⟩:=ru;have z:=bEC (A:=A) (s:=s) i t i t';simpa using z
 |str y=>obtain ⟨t,rfl⟩:=rv;obtain ⟨t',rfl⟩:=ru;have z:=bDJ (A:=A) (s:=s) y t y t';simpa using z
 |_=>cases h
section
variable {X:Cx} {bEP:bEN} {σ:L2.St} {H:Hp} {s:Shared}
theorem tV (I:Inv X bEP σ H s) {n:Nat} {A:Around} {xs ys:List V} {its jts:List Value} (rv:Vals xs its) (rw':Vals ys jts) (h:Al2 (DEq X.K H n) xs ys)
  (ih:∀{x y v u},DEq X.K H n x y→RelV x v→RelV y u→SeqAt.EqAt A s v u true):∀(j:Nat) (h1:j<its.toArray.size) (h2:j<jts.toArray.size),SeqAt.EqAt A s its.toArray[j] jts.toArray[j] ((fun _=>true) j):=fun j h1 h2=>by
 have e1:=rv.length;have hj1:j<xs.length:=by rw [j9] at h1;lia
 obtain ⟨y,hy,d⟩:=h.at (j0 hj1);obtain ⟨u1,hu1,r1⟩:=rv.get (j0 hj1);obtain ⟨u2,hu2,r2⟩:=rw'.get hy;have g1:its.toArray[j]=u1:=by rw [List.getElem_toArray];exact (List.getElem?_eq_some_iff.mp hu1).2
 have g2:jts.toArray[j]=u2:=by rw [List.getElem_toArray];exact (List.getElem?_eq_some_iff.mp hu2).2
 rw [g1,g2];exact ih d r1 r2
theorem vY (n:Nat):(List.range n).all (fun _=>true)=true:=by rw [bB7];intro _ _;rfl
theorem vZ (I:Inv X bEP σ H s):∀(n:Nat) {A:Around} {x y:V} {v u:Value},DEq X.K H n x y→RelV x v→RelV y u→A.units+n<cLine→SeqAt.EqAt A s v u true
 |0,A,x,y,v,u,h,rv,ru,_=>by obtain ⟨h,rfl⟩:=h;exact aC6 h rv ru
 |n+1,A,x,y,v,u,h,rv,ru,hu=>by
  rcases h with ⟨h,rfl⟩|⟨a,b,xs,ys,rfl,rfl,ha,hb,h⟩
  ·exact aC6 h rv ru
  cases rv;cases ru;by_cases e:a=b
  ·subst e;exact bD6 _
  obtain ⟨its,r1,pl,hz⟩:=I.tuple ha;obtain ⟨jts,r2,pm,hw⟩:=I.tuple hb;refine SeqAt.EqAt.of_refs e ?_;have z:=SeqAt.RcAt.tuples (A:=A) (e:=fun _=>true) (show s.heap.IsTuple a its.toArray from pl) (show s.heap.IsTuple b jts.toArray from pm) (by lia) (tV I r1 r2 h fun d q1 q2=>vZ I n d q1 q2 (by show A.units+1+n<cLine;lia));have z2:(its.toArray.size == jts.toArray.size)=true:=by rw [j9,j9];have:=r1.length;have:=r2.length;have:=h.len;simp;lia
  rw [vY,z2] at z;exact z
end
def bAn (K:bEL) (r:Bool):R2:=fun x y H Q=>∃a b xs ys,x=.ref a∧y=.ref b∧SqT K H a xs∧SqT K H b ys∧Al2 (DEq K H 40) xs ys∧Q (.bl r) H
theorem aXp {X:Cx} (hu:X.A.units+64<cLine):OpR X (compareOp .NotEq) (bAn X.K false):=by
 intro bEP s σ H x y v u Q I rx ry h;obtain ⟨a,b,xs,ys,rfl,rfl,ha,hb,h,q⟩:=h;cases rx;cases ry;obtain ⟨its,r1,pl,hz⟩:=I.tuple ha;obtain ⟨jts,r2,pm,hw⟩:=I.tuple hb;refine SeqAt.RcNeAt.tuples (e:=fun _=>true) (show s.heap.IsTuple a its.toArray from pl) (show s.heap.IsTuple b jts.toArray from pm) (by lia) (tV I r1 r2 h fun d q1 q2=>vZ I 40 d q1 q2 (by show X.A.units+1+40<cLine;lia)) _ _ _ _ ?_;have z2:(its.toArray.size == jts.toArray.size)=true:=by rw [j9,j9];have:=r1.length;have:=r2.length;have:=h.len;simp;lia
 rw [vY,z2];exact ⟨.bl _,H,I,rfl,q⟩
section
variable {X:Cx}
def aZc:R2:=fun x y H Q=>(∃a b,x=.int a∧y=.int b∧Q (.bl (decide (a<b))) H)∨∃a b:Str,x=.str a∧y=.str b∧Q (.bl (decide (a.cps.toList<b.cps.toList))) H
theorem aX3:OpR X (compareOp .Lt) aZc:=by
 intro bEP s σ H x y v u Q I rx ry h;rcases h with ⟨a,b,rfl,rfl,q⟩|⟨a,b,rfl,rfl,q⟩
 ·obtain ⟨t,rfl⟩:=rx;obtain ⟨t',rfl⟩:=ry;exact lt_int ⟨.bl _,H,I,rfl,q⟩
 ·obtain ⟨t,rfl⟩:=rx;obtain ⟨t',rfl⟩:=ry;exact lt_str ⟨.bl _,H,I,rfl,q⟩
def aU5 (K:bEL):V→List V→Hp→VK→Prop:=fun x vs H Q=>∃(l:Addr) (ss:List Str) (n:Str) (i:Nat),x=.ref l∧vs=[.str n]∧SqL K H l (ss.map V.str)∧ss.length≤1000∧ss[i]?=some n∧(∀(j:Nat) (m:Str),j<i→ss[j]?=some m→m≠n)∧Q (.int (i:Nat)) H
def aJt (n:Str):Value→Bool
 |.str x _=>x == n
 |_=>false
theorem aDl:MtR X "list.index" (aU5 X.K):=by
 intro bEP s σ H x vs v us Q I rx rv h;obtain ⟨l,ss,n,i,rfl,rfl,hH,h1000,hi,hno,q⟩:=h;cases rx;obtain ⟨u,rfl,ru⟩:=rv.one;obtain ⟨t,rfl⟩:=ru;obtain ⟨its,r,pl,hz⟩:=I.list hH;have el:=r.length;rw [m7] at el;obtain ⟨⟨cls,dd,data,sl⟩,ho,hc,nn,hd⟩:=id pl.isList;simp only at hc hd;subst hc hd;have hil:=(List.getElem?_eq_some_iff.mp hi).1;have get:∀{j:Nat} (hj:j<its.length),∃m t',ss[j]?=some m∧its[j]=.str m t':=fun {j} hj=>by
  have hj':j<ss.length:=by lia
  obtain ⟨w,hw,rw'⟩:=r.get (show (ss.map V.str)[j]?=some (.str ss[j]) by rw [t8,j0 hj'];rfl);obtain ⟨t',rfl⟩:=rw';exact ⟨ss[j],t',j0 hj',(List.getElem?_eq_some_iff.mp hw).2⟩
 refine call_meets PySem.F.slot_list_index ⟨_,ho,rfl⟩ PySem.F.entry_list_index (PySem.F.args_list_index_2 _ _)
  (SeqAt.list_indexAt l its.toArray nn dd sl (.str n t) (aJt n) i (by rw [j9];lia) (by lia) ?_ ?_) ⟨ho,fun y hy=>?_,⟨.int _,H,I.tok _,⟨_,rfl⟩,q⟩⟩
 ·obtain ⟨m,t',h1,h2⟩:=get (j:=i) (by lia);rw [hi] at h1;cases h1;show aJt n its[i]=true;rw [h2];show (n == n)=true;simp
 ·intro j hj hlt;obtain ⟨m,t',h1,h2⟩:=get (j:=j) (by simpa using hj);show aJt n its[j]=false;rw [h2];have:=hno j m hlt h1;show (m == n)=false;simpa using this
 ·have hy:y∈its:=by simpa using hy
  obtain ⟨j,hj,rfl⟩:=bB2 hy;obtain ⟨m,t',h1,h2⟩:=get (j:=j) hj;rw [h2];exact bDJ m t' n t
end
end L2
namespace L2
open PySem PySem.Spec PyProof.Rows Builtin
section
variable {prog:Program} {w:World} {A:Around} {E:bEM} {s:Shared}
end
section
variable {X:Cx}
def aZr (K:bEL):List V→Hp→VK→Prop:=fun xs H Q=>∃l us,xs=[.ref l,.ty "list"]∧SqL K H l us∧Q (.bl true) H
theorem aO4:cJ X (.builtin "isinstance") (aZr X.K):=by intro bEP s σ H xs us Q I r h;obtain ⟨l,zs,rfl,hl,q⟩:=h;obtain ⟨u,v,rfl,rx,rT⟩:=r.two;obtain rfl:v=Value.type "list":=rT;obtain rfl:u=Value.ref l:=rx;obtain ⟨its,rv,pl,_⟩:=I.list hl;obtain ⟨o,ho,hc,_⟩:=id pl.isList;exact call_isinstance (isinstance_true F.isi_meta_list F.isi_self_list) ⟨⟨o,ho,hc⟩,⟨.bl true,H,I,rfl,q⟩⟩
end
variable {X:Cx}
end L2
namespace My
open PySem PySem.Spec PyProof.Rows L2
def top (i:Nat):Stmt:=PySem.Challenge.pw_shardask_k61_split.main.body.getD i (.Pass ⟨0,0,0,0⟩)
abbrev tD:Stmt:=top 17
abbrev gY:Stmt:=top 18
abbrev xF:Stmt:=top 19
abbrev qN:Stmt:=top 20
abbrev fM:Stmt:=top 21
abbrev oX:Stmt:=top 22
abbrev uD:Stmt:=top 23
abbrev wI:Stmt:=top 24
abbrev tG:Stmt:=top 25
abbrev xH:Stmt:=top 26
abbrev mH:Stmt:=top 27
abbrev qU:Stmt:=top 28
abbrev xB:Stmt:=top 29
abbrev aAb:Stmt:=top 30
abbrev mK:Stmt:=top 31
abbrev aK3:Stmt:=top 32
abbrev xA:Stmt:=top 34
abbrev tQ:Stmt:=top 36
abbrev zT:Stmt:=top 40
abbrev oZ:Stmt:=top 41
abbrev lD:Stmt:=top 42
abbrev pA:Stmt:=top 43
abbrev oO:Stmt:=top 44
abbrev uF:Stmt:=top 45
abbrev qG:Stmt:=top 46
abbrev jV:Stmt:=top 47
abbrev sY:Stmt:=top 48
abbrev aAv:Stmt:=top 49
abbrev qH:Stmt:=top 50
abbrev rM:Stmt:=top 51
abbrev fY:Stmt:=classAt (top 52) 0
abbrev sV:Stmt:=classAt (top 52) 1
abbrev iG:Stmt:=classAt (top 52) 3
abbrev kO:Stmt:=classAt (top 52) 4
abbrev sO:Stmt:=classAt (top 52) 5
abbrev xR:Stmt:=classAt (top 52) 6
abbrev qI:Stmt:=top 54
abbrev rC:Stmt:=top 55
abbrev oH:Stmt:=top 56
abbrev rE:Stmt:=top 57
abbrev tH:Stmt:=top 58
abbrev fG:Stmt:=classAt (top 59) 0
abbrev eG:Stmt:=classAt (top 59) 2
abbrev dW:Stmt:=classAt (top 59) 3
abbrev mF:Stmt:=classAt (top 59) 5
abbrev jH:Stmt:=classAt (top 59) 7
abbrev iI:Stmt:=classAt (top 59) 12
abbrev eZ:Stmt:=classAt (top 59) 13
abbrev kI:Stmt:=classAt (top 59) 14
abbrev rB:Stmt:=top 61
abbrev pP:Stmt:=top 62
abbrev nZ:Stmt:=top 63
abbrev kY:Stmt:=top 64
abbrev oR:Stmt:=top 65
abbrev oA:Stmt:=top 66
abbrev pQ:Stmt:=top 67
abbrev nQ:Stmt:=top 68
abbrev qZ:Stmt:=top 69
abbrev mG:Stmt:=top 70
abbrev pR:Stmt:=top 71
abbrev iB:Stmt:=top 72
abbrev cY:Stmt:=top 73
abbrev lE:Stmt:=top 74
abbrev nO:Stmt:=top 75
abbrev aNb:Stmt:=top 76
abbrev mJ:Stmt:=classAt (top 2) 0
structure Txt (w:World) (K:bEL) (mg:bEO):Prop where
 aEg:mg "ValueError"=none
 aBn:mg "all"=none
 aZb:mg "any"=none
 aYv:mg "bool"=none
 aE3:mg "dict"=none
 aGj:mg "enumerate"=none
 aRt:mg "int"=none
 bQ:mg "isinstance"=none
 fQ:mg "len"=none
 aD2:mg "list"=none
 jY:mg "range"=none
 aWf:mg "set"=none
 jQ:mg "sorted"=none
 aSf:mg "str"=none
 jK:mg "tuple"=none
 aVy:mg "zip"=none
 jB:∃a,mg "QUESTION_WORDS"=some (.ref a)∧∀H,SqT K H a [.str "and",.str "by",.str "count",.str "down",.str "first",.str "group",.str "join",.str "keep",.str "least",.str "most",.str "named",.str "on",.str "sum",.str "table",.str "up",.str "where",.str "with"]
 aC4:∃u,mg "LETTERS"=some u∧RelV (.str "abcdefghijklmnopqrstuvwxyz") u
 aDy:∃a,mg "KINDS"=some (.ref a)∧∀H,SqT K H a [.str "number",.str "word"]
 aBq:∃u,mg "MOST_LETTERS"=some u∧RelV (.int 8) u
 zW:∃u,mg "MOST_COLUMNS"=some u∧RelV (.int 8) u
 aHc:∃u,mg "WORD_BASE"=some u∧RelV (.int 27) u
 aB2:∃u,mg "MOST_HOUSES"=some u∧RelV (.int 6) u
 xZ:∃u,mg "MOST_CUTS"=some u∧RelV (.int 8) u
 yC:∃f o,(∃u,mg "is_column"=some u∧RelV (.ref f) u)∧K.lookup f=some o∧o.cls=.type "function"
 aLs:Dn K mg "is_whole" tD ["thing"]
 uW:Dn K mg "is_number_below" gY ["thing","many"]
 aOe:Dn K mg "is_word" xF ["thing"]
 aGg:Dn K mg "is_one_of" qN ["thing","texts"]
 sW:Dn K mg "is_tuple_of" fM ["thing","least","most","is_part"]
 aFq:Dn K mg "are_unlike" oX ["names"]
 aLd:Dn K mg "names_of" uD ["head"]
 aOn:Dn K mg "is_name" wI ["thing"]
 aKa:Dn K mg "is_value" tG ["thing"]
 aNz:Dn K mg "kind_of" xH ["value"]
 aCj:Dn K mg "is_value_of" mH ["thing","kind"]
 aJe:Dn K mg "is_column" qU ["thing"]
 aN4:Dn K mg "is_head" xB ["thing"]
 aQe:Dn K mg "is_row" aAb ["head","thing"]
 aCg:Dn K mg "word_number" mK ["word"]
 aXm:Dn K mg "home" aK3 ["value","houses"]
 aPm:Dn K mg "kind_in" xA ["head","name"]
 aJj:Dn K mg "place_of" tQ ["head","name"]
 aR7:Dn K mg "is_cut" zT ["thing","houses"]
 aLc:Dn K mg "are_cuts" oZ ["thing","kind","houses"]
 aAl:Dn K mg "is_column_in" lD ["head","thing"]
 aD5:Dn K mg "is_placing" pA ["thing","head","houses"]
 aJs:Dn K mg "are_rows" oO ["thing","head"]
 aKi:Dn K mg "is_table" uF ["thing","houses"]
 aHa:Dn K mg "need_town" qG ["houses","tables"]
 yR:Dn K mg "placed_tables" jV ["houses","tables"]
 aJ7:Dn K mg "table_in" sY ["placed","name"]
 aSy:Dn K mg "cut_of" aAv ["cuts","value"]
 aI6:Dn K mg "stands_at" qH ["head","placing","row","house","houses"]
 aNq:Dn K mg "rows_at" rM ["table","house","houses"]
 aHx:Dn K mg "with_rows" qI ["table","rows"]
 aI7:Dn K mg "with_cuts" rC ["table","cuts"]
 aFt:Dn K mg "may_cut_at" oH ["table","low"]
 aHh:Dn K mg "span_rows" rE ["table","number"]
 aJv:Dn K mg "is_above" tH ["row","mark"]
 aI8:Dn K mg "_law_seed" rB ["_law_script"]
 aGo:Dn K mg "_law_next" pP ["_law_state","_law_many"]
 aFm:Dn K mg "_law_words" nZ []
 aEu:Dn K mg "_law_names" kY ["_law_state","_law_many"]
 aE8:Dn K mg "_law_great" oR ["_law_state"]
 aFn:Dn K mg "_law_value" oA ["_law_state","_law_kind"]
 aIk:Dn K mg "_law_head" pQ ["_law_state","_law_names_here"]
 aKd:Dn K mg "_law_row" nQ ["_law_state","_law_head_here"]
 aHj:Dn K mg "_law_home" qZ ["_law_value_here","_law_houses"]
 aIw:Dn K mg "_law_span" mG ["_law_cuts","_law_value_here"]
 aGu:Dn K mg "_law_spot" pR ["_law_head_here","_law_name"]
 aEe:Dn K mg "_law_stood" iB ["_law_table","_law_houses","_law_house"]
 tZ:Dn K mg "_law_spans_begun" cY ["_law_state","_law_names_here","_law_most"]
 zL:Dn K mg "_law_refused" lE ["_law_store","_law_name","_law_low"]
 aE0:Dn K mg "_law_split" nO ["_law_store","_law_name","_law_table","_law_low"]
 aZ6:Dn K mg "law" aNb ["_law_script"]
 aWi:∃C,aVh K mg "Town" C∧iR K C "__init__" "Town.__init__" fY ["self","houses","tables"]∧iR K C "houses" "Town.houses" sV ["self"]∧iR K C "placing" "Town.placing" iG ["self","name"]∧iR K C "whole" "Town.whole" kO ["self","name"]∧iR K C "tables" "Town.tables" sO ["self"]∧iR K C "part" "Town.part" xR ["self","name","house"]∧bN K C "placed"∧bN K C "house_count"
 aTn:∃C,aVh K mg "Store" C∧iR K C "__init__" "Store.__init__" fG ["self","houses","tables"]∧iR K C "cut_table" "Store.cut_table" eG ["self","name"]∧iR K C "need_still" "Store.need_still" dW ["self","name"]∧iR K C "put" "Store.put" mF ["self","name","row"]∧iR K C "split" "Store.split" jH ["self","name","low"]∧iR K C "moving" "Store.moving" iI ["self","name"]∧iR K C "stands" "Store.stands" eZ ["self","name","house"]∧iR K C "town" "Store.town" kI ["self"]∧bN K C "placed"∧bN K C "house_count"∧bN K C "moves"
 bAp:∃C S,ExT K mg mJ "NoSpan" "ShardError.__init__" C S∧PySem.W.mroIn K C (.ref C)=some true
abbrev abc:Str:="abcdefghijklmnopqrstuvwxyz"
abbrev words:List V:=[.str "and",.str "by",.str "count",.str "down",.str "first",.str "group",.str "join",.str "keep",.str "least",.str "most",.str "named",.str "on",.str "sum",.str "table",.str "up",.str "where",.str "with"]
def Th (K:bEL) (H:Hp) (v:V):Prop:=(∃x,v=.str x∧x.length≤1000)∨(∃i,v=.int i)∨(∃b,v=.bl b)∨∃k,Rk K H v k
theorem Th.same {K:bEL} {H H':Hp} {v:V} (e:Same H H') (h:Th K H v):Th K H' v:=by
 rcases h with h|h|h|⟨k,h⟩
 ·exact .inl h
 ·exact .inr (.inl h)
 ·exact .inr (.inr (.inl h))
 ·exact .inr (.inr (.inr ⟨k,h.same e⟩))
def aVm:V→String→Bool
 |.int _,T=>T == "int"
 |.str _,T=>T == "str"
 |.bl _,T=>T == "int" || T == "bool"
 |_,_=>false
def isS:V→Bool
 |.str _=>true
 |_=>false
def whole:V→Bool
 |.int _=>true
 |_=>false
theorem uV {K:bEL} {H:Hp} {v:V} {T:String} {Q:VK} (hv:Th K H v) (hT:T = "int"∨T = "bool"∨T = "str") (q:Q (.bl (aVm v T)) H):aZa [v,.ty T] H Q∨aVw K [v,.ty T] H Q:=by
 rcases hv with ⟨x,rfl,_⟩|⟨i,rfl⟩|⟨b,rfl⟩|⟨k,h⟩
 ·refine .inl ⟨_,_,_,rfl,?_,q⟩;rcases hT with rfl|rfl|rfl <;> simp [aKn,aVm]
 ·refine .inl ⟨_,_,_,rfl,?_,q⟩;rcases hT with rfl|rfl|rfl <;> simp [aKn,aVm]
 ·refine .inl ⟨_,_,_,rfl,?_,q⟩;rcases hT with rfl|rfl|rfl <;> simp [aKn,aVm]
 ·refine .inr ⟨_,_,_,rfl,h,hT,?_⟩;cases h <;> exact q
def inA (y:Str):Bool:=!(Builtin.Str.occurrences abc y 0 abc.length 1).isEmpty
def allIn (x:Str):Bool:=((List.range x.cps.size).map fun i=>inA (sgn x i)).all id
def rW (l:Nat):V→Bool
 |.str x=>decide (l≤x.length) && (decide (x.length≤8) && allIn x)
 |_=>false
def nameB (v:V):Bool:=rW 1 v && !inV v words
def aIi (v:V):Bool:=whole v || rW 0 v
def nH (K:bEL):Sp:=fun vs H Q _=>∃v,vs=[v]∧Th K H v∧Q (.bl (whole v)) H
def aCl (K:bEL) (f:V→Bool):Sp:=fun vs H Q _=>∃v,vs=[v]∧Th K H v∧∀H',Same H H'→Q (.bl (f v)) H'
def aMh (K:bEL):Sp:=fun vs H Q _=>∃v,vs=[v]∧Th K H v∧Q (.str (if whole v then "number" else "word")) H
def aXq (K:bEL):Sp:=fun vs H Q _=>∃(a:Addr) (ns:List Int),vs=[.ref a]∧SqL K H a (ns.map V.int)∧ns.length≤63∧∀H',Q (.bl true) H'
theorem aY4 {K:bEL} {H:Hp} {a:Addr} {ns:List Int} (h:ns.length≤63) (hS:SqL K H a (ns.map V.int)):aXq K [.ref a] H (fun v _=>v=.bl true) fun _ _ _=>False:=
 ⟨a,ns,rfl,hS,h,fun _=>rfl⟩
theorem aHk:aJ ["thing"] ["thing"] (aD tD):=by trivial
theorem tU:aJ ["thing","many"] ["thing","many"] (aD gY):=by trivial
theorem aKy:aJ ["thing"] ["thing"] (aD xF):=by trivial
theorem aF7:aJ ["thing","texts"] ["thing","texts"] (aD qN):=by trivial
theorem qJ:aJ ["thing","least","most","is_part"] ["thing","least","most","is_part"] (aD fM):=by trivial
theorem aCm:aJ ["names"] ["names"] (aD oX):=by trivial
theorem aG2:aJ ["head"] ["head"] (aD uD):=by trivial
theorem aKb:aJ ["thing"] ["thing"] (aD wI):=by trivial
theorem aGe:aJ ["thing"] ["thing"] (aD tG):=by trivial
theorem aJh:aJ ["value"] ["value"] (aD xH):=by trivial
theorem aAx:aJ ["thing","kind"] ["thing","kind"] (aD mH):=by trivial
theorem aDx:aJ ["thing"] ["thing"] (aD qU):=by trivial
theorem aK0:aJ ["thing"] ["thing"] (aD xB):=by trivial
theorem aNx:aJ ["head","thing"] ["head","thing"] (aD aAb):=by trivial
theorem iJ:aJ ["word","number","letter"] ["word"] (aD mK):=by trivial
theorem aM6:aJ ["value","houses","number"] ["value","houses"] (aD aK3):=by trivial
theorem aBd:aJ ["head","name","column"] ["head","name"] (aD xA):=by trivial
theorem aIt:aJ ["head","name"] ["head","name"] (aD tQ):=by trivial
theorem aN2:aJ ["thing","houses"] ["thing","houses"] (aD zT):=by trivial
theorem xO:aJ ["thing","kind","houses","lows"] ["thing","kind","houses"] (aD oZ):=by trivial
theorem yG:aJ ["head","thing"] ["head","thing"] (aD lD):=by trivial
theorem aBz:aJ ["thing","head","houses"] ["thing","head","houses"] (aD pA):=by trivial
theorem aGc:aJ ["thing","head"] ["thing","head"] (aD oO):=by trivial
theorem aG6:aJ ["thing","houses"] ["thing","houses"] (aD uF):=by trivial
theorem oF:aJ ["houses","tables","name","table"] ["houses","tables"] (aD qG):=by trivial
theorem wX:aJ ["houses","tables"] ["houses","tables"] (aD jV):=by trivial
theorem aHv:aJ ["placed","name"] ["placed","name"] (aD sY):=by trivial
theorem rN:aJ ["cuts","value","number","place"] ["cuts","value"] (aD aAv):=by trivial
theorem oM:aJ ["head","placing","row","house","houses","value","cuts"] ["head","placing","row","house","houses"] (aD qH):=by trivial
theorem aJ0:aJ ["table","house","houses"] ["table","house","houses"] (aD rM):=by trivial
theorem wO:aJ ["self","houses","tables"] ["self","houses","tables"] (aD fY):=by trivial
theorem yF:aJ ["self","name"] ["self","name"] (aD iG):=by trivial
theorem aCn:aJ ["self","name"] ["self","name"] (aD kO):=by trivial
theorem aEp:aJ ["table","rows"] ["table","rows"] (aD qI):=by trivial
theorem aFs:aJ ["table","cuts"] ["table","cuts"] (aD rC):=by trivial
theorem mQ:aJ ["table","low","column","cuts"] ["table","low"] (aD oH):=by trivial
theorem aFl:aJ ["table","number","place"] ["table","number"] (aD rE):=by trivial
theorem aIs:aJ ["row","mark"] ["row","mark"] (aD tH):=by trivial
theorem vG:aJ ["self","houses","tables"] ["self","houses","tables"] (aD fG):=by trivial
theorem lM:aJ ["self","name","table"] ["self","name"] (aD eG):=by trivial
theorem rZ:aJ ["self","name"] ["self","name"] (aD dW):=by trivial
theorem uH:aJ ["self","name","row","table"] ["self","name","row"] (aD mF):=by trivial
theorem fB:aJ ["self","name","low","table","cuts","number","behind"] ["self","name","low"] (aD jH):=by trivial
theorem yU:aJ ["self","name"] ["self","name"] (aD iI):=by trivial
theorem gA:aJ ["self","name","house","table","rows","move"] ["self","name","house"] (aD eZ):=by trivial
theorem aCo:aJ ["self"] ["self"] (aD kI):=by trivial
theorem iH:aJ ["_law_script","_law_seed_here","_law_k","_law_cell"] ["_law_script"] (aD rB):=by trivial
theorem aF6:aJ ["_law_state","_law_many"] ["_law_state","_law_many"] (aD pP):=by trivial
theorem sX:aJ ["_law_words_here"] [] (aD nZ):=by trivial
theorem cA:aJ ["_law_state","_law_many","_law_small","_law_odd","_law_base","_law_k","_law_at","_law_names_here"] ["_law_state","_law_many"] (aD kY):=by trivial
theorem jM:aJ ["_law_state","_law_number","_law_k"] ["_law_state"] (aD oR):=by trivial
theorem fK:aJ ["_law_state","_law_kind","_law_way","_law_word","_law_k"] ["_law_state","_law_kind"] (aD oA):=by trivial
theorem iK:aJ ["_law_state","_law_names_here","_law_start","_law_head_here","_law_k","_law_kind"] ["_law_state","_law_names_here"] (aD pQ):=by trivial
theorem aH9:aJ ["_law_state","_law_head_here"] ["_law_state","_law_head_here"] (aD nQ):=by trivial
theorem aEx:aJ ["_law_value_here","_law_houses","_law_number","_law_letter"] ["_law_value_here","_law_houses"] (aD qZ):=by trivial
theorem aD0:aJ ["_law_cuts","_law_value_here"] ["_law_cuts","_law_value_here"] (aD mG):=by trivial
theorem aEt:aJ ["_law_head_here","_law_name"] ["_law_head_here","_law_name"] (aD pR):=by trivial
theorem dZ:aJ ["_law_table","_law_houses","_law_house","_law_head_here","_law_placing","_law_rows","_law_move","_law_spot_here"] ["_law_table","_law_houses","_law_house"] (aD iB):=by trivial
theorem bF:aJ ["_law_state","_law_names_here","_law_most","_law_houses","_law_head_here","_law_column","_law_kind","_law_cuts","_law_low","_law_placing","_law_rows","_law_store"] ["_law_state","_law_names_here","_law_most"] (aD cY):=by trivial
theorem jU:aJ ["_law_store","_law_name","_law_low","_law_word"] ["_law_store","_law_name","_law_low"] (aD lE):=by trivial
theorem cQ:aJ ["_law_store","_law_name","_law_table","_law_low","_law_head_here","_law_placing","_law_rows","_law_move","_law_cuts","_law_kind","_law_fits","_law_spot_here"] ["_law_store","_law_name","_law_table","_law_low"] (aD nO):=by trivial
theorem iV:aJ ["_law_script","_law_state","_law_names_here","_law_store","_law_table","_law_houses","_law_cell","_law_row_here","_law_low","_law_town","_law_house"] ["_law_script"] (aD aNb):=by trivial
theorem aUi:aJ ["self","act"] ["self","act"] (aD mJ):=by trivial
section
variable {P:Program} {w:World} {K:bEL} {mg:bEO} {base:Heap}
theorem aHp (T:Txt w K mg):Ok P w K mg base 1 "is_whole" ["thing"] (nH K):=by
 refine Ok.ofV T.aLs aHk (fun vs H Q E h=>?_) (fun f cdv A outer s H vs Q E hr h=>?_)
 ·obtain ⟨v,rfl,_⟩:=h;rfl
 obtain ⟨v,rfl,hv,q⟩:=h;refine ⟨_,(aG (aM (fJ (aO (pK.or rK) (by rfl) T.bQ bM (aB (vv 0) (aB (eQ (v:=.ty "int") (by rfl) T.aRt aK1 rfl) aA))) (iD (aWu (aO (pK.or rK) (by rfl) T.bQ bM (aB (vv 0) (aB (eQ (v:=.ty "bool") (by rfl) T.aYv aTx rfl) aA)))))))),?_⟩;refine ⟨_,rfl,uV hv (.inl rfl) ⟨_,rfl,?_⟩⟩;rcases id hv with ⟨x,rfl,_⟩|⟨i,rfl⟩|⟨b,rfl⟩|⟨k,h⟩
 ·exact bY q
 ·exact dC ⟨_,rfl,uV hv (.inr (.inl rfl)) ⟨_,rfl,q⟩⟩
 ·exact dC ⟨_,rfl,uV hv (.inr (.inl rfl)) ⟨_,rfl,q⟩⟩
 ·cases h <;> exact bY q
theorem aQl (x:Str):(((List.range x.cps.size).map fun i=>V.str (sgn x i)).map fun v=>match v with|.str y=>V.bl (inA y)|_=>.bl false)=(((List.range x.cps.size).map fun i=>inA (sgn x i)).map V.bl):=by rw [bC0,bC0];rfl
theorem aKs (T:Txt w K mg):Ok P w K mg base 1 "is_word" ["thing"] (aCl K (rW 0)):=by
 refine Ok.ofV T.aOe aKy (fun vs H Q E h=>?_) (fun f cdv A outer s H vs Q E hr h=>?_)
 ·obtain ⟨v,rfl,_⟩:=h;rfl
 obtain ⟨v,rfl,hv,q⟩:=h;refine ⟨_,(aF (cG (VW.pt (iU (cM (bZ (aO (pK.or rK) (by rfl) T.bQ bM (aB (vv 0) (aB (eQ (v:=.ty "str") (by rfl) T.aSf aJr rfl) aA))))) (gG (bR aZf (aO vW (by rfl) T.fQ dI (aB (vv 0) aA)) (rD (by rfl) T.aBq) (bH _))))) (aG (aM jX)) bB) (aG (aM (aO (lU rfl) (by rfl) T.aBn sZ (aB (cT (N:=["sign"]) (by trivial) (iC (by decide +kernel)) rfl (aQo (vv 0)) (fun cl s' H' fp=>⟨(aQ (i:=0) (show (["sign"]:List Str).Nodup from by decide +kernel) rfl (Or.inl rfl)),eX,(cB aNr (vv 0) (rD (by rfl) T.aC4) (by with_unfolding_all rfl))⟩)) aA))))),?_⟩;refine ⟨_,rfl,uV hv (.inr (.inr rfl)) ⟨_,rfl,?_⟩⟩;have no:isS v=false→Q (.bl false) H:=fun e=>by
  have z:rW 0 v=false:=by cases v <;> first|rfl|cases e
  rw [←z];exact q H (Same.refl H)
 rcases id hv with ⟨x,rfl,hx⟩|⟨i,rfl⟩|⟨b,rfl⟩|⟨k,h⟩
 ·refine bY ⟨_,rfl,_,rfl,small hx,_,_,rfl,rfl,_,rfl,?_⟩;refine aJn (fun c=>?_) (fun c=>?_)
  ·have c':(8:Int)<x.length:=of_decide_eq_true c;have z:rW 0 (.str x)=false:=by show (decide (0≤x.length) && (decide (x.length≤8) && allIn x))=false;rw [bAD (p:=x.length≤8) (by lia)];simp
   rw [←z];exact q H (Same.refl H)
  ·have c':¬ (8:Int)<x.length:=of_decide_eq_false (Bool.eq_false_iff.mpr c);dsimp only [sS,uT,tCB,dR];refine aO1 ((List.range x.cps.size).map fun i=>V.str (sgn x i)) (fun v=>match v with|.str y=>V.bl (inA y)|_=>.bl false) [none] lA ?_
    (fun R r=>aWq (z:=x) (fun R' r'=>⟨_,rfl,r'⟩) R r) (fun v hv' H' R l sm r=>?_) rfl fun D hD=>?_
   ·rw [m7,bAM];exact small hx
   ·obtain ⟨i,_,rfl⟩:=List.mem_map.mp hv';exact ⟨_,rfl,_,_,rfl,rfl,r⟩
   ·refine ⟨D,(List.range x.cps.size).map fun i=>inA (sgn x i),rfl,SqL.of (by rw [aH,aQl]),?_⟩;have z:rW 0 (.str x)=allIn x:=by show (decide (0≤x.length) && (decide (x.length≤8) && allIn x))=allIn x;rw [v8 (p:=x.length≤8) (by lia)];simp
    show Q (.bl (allIn x)) _;rw [←z];exact q _ (aX hD _)
 ·exact dC (no rfl)
 ·exact dC (no rfl)
 ·cases h <;> exact dC (no rfl)
theorem aEj {v:V} {l:Nat} (h:rW l v=true):∃x,v=.str x∧l≤x.length∧x.length≤8∧allIn x=true:=by
 cases v with
 |str x=>have h:(decide (l≤x.length) && (decide (x.length≤8) && allIn x))=true:=h;rw [bAP,bAP] at h;exact ⟨x,rfl,of_decide_eq_true h.1,of_decide_eq_true h.2.1,h.2.2⟩
 |_=>cases h
theorem aDb {x:Str}:x=("":Str)↔x.length=0:=by
 constructor
 ·rintro rfl;decide +kernel
 ·intro h;obtain ⟨cps⟩:=x;have h:cps.size=0:=h;rw [Array.size_eq_zero_iff] at h;subst h;decide +kernel
theorem aBh:words.all gU=true:=rfl
theorem aLa (T:Txt w K mg) (wL:Ok P w K mg base 1 "is_word" ["thing"] (aCl K (rW 0))):Ok P w K mg base 2 "is_name" ["thing"] (aCl K nameB):=by
 refine Ok.ofV T.aOn aKb (fun vs H Q E h=>?_) (fun f cdv A outer s H vs Q E hr h=>?_)
 ·obtain ⟨v,rfl,_⟩:=h;rfl
 obtain ⟨v,rfl,hv,q⟩:=h;obtain ⟨qa,mq,hqa⟩:=T.jB;have jB:∃u,mg "QUESTION_WORDS"=some u∧RelV (.ref qa) u:=⟨_,mq,rfl⟩;refine ⟨_,(aG (aM (fJ (aP (wL.mono (by decide)) hr (by rfl) (aB (vv 0) aA)) (fJ (cB aAk (vv 0) bA (bH _)) (iD (cB pB (vv 0) (rD (by rfl) jB) (by with_unfolding_all rfl))))))),?_⟩;refine ⟨_,rfl,_,rfl,hv,fun H1 s1=>⟨_,rfl,?_⟩⟩;refine aJn (fun c=>?_) (fun c=>?_)
 ·obtain ⟨x,rfl,_,h8,ha⟩:=aEj c;refine ⟨_,rfl,rfl,_,rfl,?_⟩;by_cases e:x.length=0
  ·have ex:=aDb.mpr e;subst ex;refine bY ?_;have z:nameB (.str "")=false:=by decide +kernel
   rw [←z];exact q H1 s1
  ·have ne:¬ (V.str x=V.str ""):=fun z=>e (aDb.mp (V.str.inj z));have e2:(!decide (V.str x=V.str ""))=true:=by rw [bAD ne];rfl
   rw [e2];refine dC ⟨_,rfl,qa,words,rfl,.inr (hqa _),rfl,aBh,?_⟩;have z:nameB (.str x)=!inV (.str x) words:=by show ((decide (1≤x.length) && (decide (x.length≤8) && allIn x)) && !inV (.str x) words)=!inV (.str x) words;rw [v8 (p:=1≤x.length) (by lia),v8 h8,ha];rfl
   show Q (.bl (!inV (.str x) words)) H1;rw [←z];exact q H1 s1
 ·have z:nameB v=false:=by
   show (rW 1 v && !inV v words)=false;cases hv1:rW 1 v with
   |false=>rfl
   |true=>obtain ⟨x,rfl,h1,h8,ha⟩:=aEj hv1;refine absurd ?_ c;show (decide (0≤x.length) && (decide (x.length≤8) && allIn x))=true;rw [v8 h8,ha,v8 (bAL _)];rfl
  rw [←z];exact q H1 s1
theorem aIo (T:Txt w K mg) (dX:Ok P w K mg base 1 "is_whole" ["thing"] (nH K)) (wL:Ok P w K mg base 1 "is_word" ["thing"] (aCl K (rW 0))) :
  Ok P w K mg base 2 "is_value" ["thing"] (aCl K aIi):=by
 refine Ok.ofV T.aKa aGe (fun vs H Q E h=>?_) (fun f cdv A outer s H vs Q E hr h=>?_)
 ·obtain ⟨v,rfl,_⟩:=h;rfl
 obtain ⟨v,rfl,hv,q⟩:=h;refine ⟨_,(aG (aM (aZe (aP (dX.mono (by decide)) hr (by rfl) (aB (vv 0) aA)) (iD (aP (wL.mono (by decide)) hr (by rfl) (aB (vv 0) aA)))))),?_⟩;refine ⟨_,rfl,_,rfl,hv,_,rfl,?_⟩;cases hw:whole v with
 |true=>
  refine dC ?_;have z:aIi v=true:=by show (whole v || rW 0 v)=true;rw [hw];rfl
  rw [←z];exact q H (Same.refl H)
 |false=>
  refine bY ⟨_,rfl,_,rfl,hv,fun H1 s1=>?_⟩;have z:aIi v=rW 0 v:=by show (whole v || rW 0 v)=rW 0 v;rw [hw];rfl
  rw [←z];exact q H1 s1
theorem aK6 (T:Txt w K mg) (dX:Ok P w K mg base 1 "is_whole" ["thing"] (nH K)):Ok P w K mg base 2 "kind_of" ["value"] (aMh K):=by
 refine Ok.ofV T.aNz aJh (fun vs H Q E h=>?_) (fun f cdv A outer s H vs Q E hr h=>?_)
 ·obtain ⟨v,rfl,_⟩:=h;rfl
 obtain ⟨v,rfl,hv,q⟩:=h;refine ⟨_,(aG (aM (aHf (bZ (aP (dX.mono (by decide)) hr (by rfl) (aB (vv 0) aA))) bA bA))),?_⟩;refine ⟨_,rfl,_,rfl,hv,_,rfl,?_⟩;cases hw:whole v with
 |true=>rw [hw] at q;exact dC q
 |false=>rw [hw] at q;exact bY q
theorem at0 (x:V) (r:List V):atI (x::r) 0=some x:=by unfold atI ixN;simp
theorem at1 (x y:V) (r:List V):atI (x::y::r) 1=some y:=by unfold atI ixN;simp only [t7];rw [if_pos (by lia),if_pos (by lia)];rfl
theorem Tk.same {K:bEL} {H H':Hp} {v:V} {b:Bool} (e:Same H H') (h:Tk K H v b):Tk K H' v b:=by
 cases h with
 |int=>exact .int
 |str=>exact .str
 |bl=>exact .bl
 |non=>exact .non
 |lst q=>exact .lst (e.seq q)
 |dct q=>exact .dct (e _ _ q)
 |tup q=>exact .tup (e.aV q)
structure Tells (R:Hp→V→Bool→Prop):Prop where
 same:∀{H H' v b},Same H H'→R H v b→R H' v b
def aW3 (R:Hp→V→Bool→Prop):Sp:=fun vs H Q _=>∃v b,vs=[v]∧R H v b∧∀H',Same H H'→Q (.bl b) H'
inductive aC0 (K:bEL) (R:Hp→V→Bool→Prop) (lo hi:Nat) (H:Hp):V→Bool→Prop
 |no {v}:Tk K H v false→aC0 K R lo hi H v false
 |len {a xs}:SqT K H a xs→¬ (lo≤xs.length∧xs.length≤hi)→aC0 K R lo hi H (.ref a) false
 |yes {a xs} (f:V→Bool):SqT K H a xs→lo≤xs.length→xs.length≤hi→(∀x∈xs,R H x (f x))→aC0 K R lo hi H (.ref a) (xs.all f)
def aK2 (K:bEL):Sp:=fun vs H Q _=>∃v a xs,vs=[v,.ref a]∧Th K H v∧SqT K H a xs∧xs.all gU=true∧Q (.bl (isS v && inV v xs)) H
def aG4 (P:Program) (w:World) (K:bEL) (mg:bEO) (base:Heap) (k:Nat):Sp:=fun vs H Q _=>∃v lo hi f ps R b,vs=[v,.int (lo:Nat),.int (hi:Nat),.ref f]∧hi≤1000∧Held P w K mg base k f ps (aW3 R)∧Tells R∧aC0 K R lo hi H v b∧∀H',Same H H'→Q (.bl b) H'
def aCz (K:bEL):Sp:=fun vs H Q _=>∃a ss,vs=[.ref a]∧SqL K H a (ss.map V.str)∧ss.length≤1000∧∀H',Same H H'→Q (.bl (decide ((mY ss).length=ss.length))) H'
theorem aEi (T:Txt w K mg):Ok P w K mg base 1 "is_one_of" ["thing","texts"] (aK2 K):=by
 refine Ok.ofV T.aGg aF7 (fun vs H Q E h=>?_) (fun f cdv A outer s H vs Q E hr h=>?_)
 ·obtain ⟨v,a,xs,rfl,_⟩:=h;rfl
 obtain ⟨v,a,xs,rfl,hv,ha,hf,q⟩:=h;refine ⟨_,(aG (aM (fJ (aO (pK.or rK) (by rfl) T.bQ bM (aB (vv 0) (aB (eQ (v:=.ty "str") (by rfl) T.aSf aJr rfl) aA))) (iD (cB wA (vv 0) (vv 1) (by with_unfolding_all rfl)))))),?_⟩;refine ⟨_,rfl,uV hv (.inr (.inr rfl)) ⟨_,rfl,?_⟩⟩;rcases id hv with ⟨x,rfl,_⟩|⟨i,rfl⟩|⟨b,rfl⟩|⟨k,h⟩
 ·exact dC ⟨_,rfl,_,rfl,a,xs,rfl,.inr ha,rfl,hf,q⟩
 ·exact bY q
 ·exact bY q
 ·cases h <;> exact bY q
theorem zZ {k:Nat} (T:Txt w K mg):Ok P w K mg base (k+1) "is_tuple_of" ["thing","least","most","is_part"] (aG4 P w K mg base k):=by
 refine Ok.ofV T.sW qJ (fun vs H Q E h=>?_) (fun f cdv A outer s H vs Q E hr h=>?_)
 ·obtain ⟨v,lo,hi,f,ps,R,b,rfl,_⟩:=h;rfl
 obtain ⟨v,lo,hi,g,ps,R,b,rfl,h1000,hg,hR,hv,q⟩:=h;refine ⟨_,(aF (cG (VW.pt (iU (cM (bZ (aO jF (by rfl) T.bQ bM (aB (vv 0) (aB (eQ (v:=.ty "tuple") (by rfl) T.jK fP rfl) aA))))) (gG (cM (zQ aAe aAe (vv 1) (aO bC (by rfl) T.fQ dI (aB (vv 0) aA)) (vv 2)))))) (aG (aM jX)) bB) (aG (aM (aO (lU rfl) (by rfl) T.aBn sZ (aB (cT (N:=["part","is_part"]) (by trivial) (iW (aD fM) rfl (by decide +kernel)) rfl (mL (vv 0)) (fun cl s' H' fp=>⟨(aQ (i:=0) (show (["part","is_part"]:List Str).Nodup from by decide +kernel) rfl (Or.inl rfl)),eX,(aP9 (P:=P) (w:=w) (K:=K) (mg:=mg) (base:=base) hr (vv 1) (aB (vv 0) aA))⟩)) aA))))),?_⟩;cases hv with
 |no h=>exact ⟨_,rfl,_,_,rfl,h,_,rfl,dC (q H (Same.refl H))⟩
 |@len a xs ha hn=>refine ⟨_,rfl,_,_,rfl,.tup ha,_,rfl,bY ?_⟩;refine ⟨_,rfl,_,rfl,_,_,rfl,.inr ha,_,_,rfl,rfl,_,rfl,?_⟩;refine aJn (fun c=>⟨_,rfl,_,_,rfl,rfl,_,rfl,?_⟩) (fun c=>⟨_,rfl,dC (q H (Same.refl H))⟩);have c':(lo:Int)≤xs.length:=of_decide_eq_true c;have e:decide ((xs.length:Int)≤(hi:Int))=false:=bAD fun z=>hn ⟨by lia,by lia⟩;rw [e];exact dC (q H (Same.refl H))
 |@yes a xs t ha h1 h2 hx=>
  refine ⟨_,rfl,_,_,rfl,.tup ha,_,rfl,bY ?_⟩;refine ⟨_,rfl,_,rfl,_,_,rfl,.inr ha,_,_,rfl,rfl,_,rfl,?_⟩;have e1:decide ((lo:Int)≤(xs.length:Int))=true:=v8 (by lia);have e2:decide ((xs.length:Int)≤(hi:Int))=true:=v8 (by lia);rw [e1];refine dC ⟨_,rfl,_,_,rfl,rfl,_,rfl,?_⟩;rw [e2];refine bY ?_;dsimp only [sS,uT,tCB,dR];refine aDf xs (fun x=>.bl (t x)) [none,some (.ref g)] ?_ (small (by lia)) (fun R r=>aLf ha (fun R' r'=>⟨_,rfl,r'⟩) R r) (fun x hx' H' R l sm r=>?_) rfl fun D H' sm hD=>?_
  ·exact uN 3 (by decide +kernel) rfl rfl (by trivial)
  ·exact ⟨_,rfl,g,ps,_,rfl,hg,_,rfl,x,t x,rfl,hR.same sm (hx x hx'),r⟩
  ·refine ⟨D,xs.map t,rfl,SqL.of (by rw [hD,bC0];rfl),?_⟩;rw [List.all_map];exact q H' sm
theorem aB4 (T:Txt w K mg):Ok P w K mg base 1 "are_unlike" ["names"] (aCz K):=by
 refine Ok.ofV T.aFq aCm (fun vs H Q E h=>?_) (fun f cdv A outer s H vs Q E hr h=>?_)
 ·obtain ⟨a,ss,rfl,_⟩:=h;rfl
 obtain ⟨a,ss,rfl,ha,hl,q⟩:=h;refine ⟨_,(aG (aM (cB eU (aO aLm (by rfl) T.fQ dI (aB (cX (aJy rfl) (by rfl) T.aWf aS3 (aB (vv 0) aA)) aA)) (aO bC (by rfl) T.fQ dI (aB (vv 0) aA)) (bH _)))),?_⟩;refine ⟨_,rfl,a,ss,rfl,ha,hl,fun D hD=>⟨D,ss,rfl,aH,_,rfl,a,_,rfl,.inl ((aX hD _).seq ha),rfl,?_⟩⟩;have e:decide (V.int ((mY ss).length:Nat)=V.int (ss.map V.str).length)=decide ((mY ss).length=ss.length):=by
  rw [m7];by_cases z:(mY ss).length=ss.length
  ·rw [z];simp
  ·rw [bAD z,bAD (by intro y;apply z;have:=V.int.inj y;lia)]
 rw [e];exact q _ (aX hD _)
abbrev kinds:List V:=[.str "number",.str "word"]
inductive aD9 (K:bEL) (H:Hp):V→Bool→Prop
 |no {v}:Tk K H v false→aD9 K H v false
 |len {a xs}:SqT K H a xs→xs.length≠2→aD9 K H (.ref a) false
 |two {a x y}:SqT K H a [x,y]→Th K H x→Th K H y→aD9 K H (.ref a) (nameB x && (isS y && inV y kinds))
theorem aOu (K:bEL):Tells (aD9 K):=⟨fun e h=>by
 cases h with
 |no q=>exact .no (Tk.same e q)
 |len q n=>exact .len (e.aV q) n
 |two q x y=>exact .two (e.aV q) (x.same e) (y.same e)⟩
theorem aF0 (T:Txt w K mg) (iZ:Ok P w K mg base 2 "is_name" ["thing"] (aCl K nameB)) (jN:Ok P w K mg base 1 "is_one_of" ["thing","texts"] (aK2 K)):Ok P w K mg base 3 "is_column" ["thing"] (aW3 (aD9 K)):=by
 refine Ok.ofV T.aJe aDx (fun vs H Q E h=>?_) (fun f cdv A outer s H vs Q E hr h=>?_)
 ·obtain ⟨v,b,rfl,_⟩:=h;rfl
 obtain ⟨v,b,rfl,hv,q⟩:=h;obtain ⟨ka,mk,hka⟩:=T.aDy;have aDy:∃u,mg "KINDS"=some u∧RelV (.ref ka) u:=⟨_,mk,rfl⟩;refine ⟨_,(aF (cG (VW.pt (iU (cM (bZ (aO jF (by rfl) T.bQ bM (aB (vv 0) (aB (eQ (v:=.ty "tuple") (by rfl) T.jK fP rfl) aA))))) (gG (bR aAk (aO bC (by rfl) T.fQ dI (aB (vv 0) aA)) aC (bH _))))) (aG (aM jX)) bB) (aG (aM (fJ (aP (iZ.mono (by decide)) hr (by rfl) (aB (aL aW (vv 0) aC (fun _ _=>rfl)) aA)) (iD (aP (jN.mono (by decide)) hr (by rfl) (aB (aL aW (vv 0) aC (fun _ _=>rfl)) (aB (rD (by rfl) aDy) aA)))))))),?_⟩;cases hv with
 |no h=>exact ⟨_,rfl,_,_,rfl,h,_,rfl,dC (q H (Same.refl H))⟩
 |@len a xs ha hn=>
  refine ⟨_,rfl,_,_,rfl,.tup ha,_,rfl,bY ?_⟩;refine ⟨_,rfl,_,_,rfl,.inr ha,rfl,_,rfl,?_⟩;have e:(!decide (V.int (xs.length:Nat)=V.int 2))=true:=by rw [bAD (by intro y;apply hn;have:=V.int.inj y;lia)];rfl
  rw [e];exact dC (q H (Same.refl H))
 |@two a x y ha hx hy=>
  refine ⟨_,rfl,_,_,rfl,.tup ha,_,rfl,bY ?_⟩;refine ⟨_,rfl,_,_,rfl,.inr ha,rfl,_,rfl,bY ?_⟩;refine ⟨_,rfl,a,_,0,_,rfl,rfl,ha,at0 _ _,x,rfl,hx,fun H1 s1=>⟨_,rfl,?_⟩⟩;cases hn:nameB x with
  |false=>rw [hn] at q;exact bY (q H1 s1)
  |true=>rw [hn] at q;refine dC ⟨_,rfl,a,_,1,_,rfl,rfl,s1.aV ha,at1 _ _ _,y,ka,kinds,rfl,hy.same s1,hka _,rfl,q H1 s1⟩
def kindS (v:V):Str:=if whole v then "number" else "word"
def aFu (K:bEL):Sp:=fun vs H Q _=>∃v k,vs=[v,.str k]∧Th K H v∧∀H',Same H H'→Q (.bl (aIi v && decide (kindS v=k))) H'
theorem zR (T:Txt w K mg) (aJi:Ok P w K mg base 2 "is_value" ["thing"] (aCl K aIi)) (aOh:Ok P w K mg base 2 "kind_of" ["value"] (aMh K)):Ok P w K mg base 3 "is_value_of" ["thing","kind"] (aFu K):=by
 refine Ok.ofV T.aCj aAx (fun vs H Q E h=>?_) (fun f cdv A outer s H vs Q E hr h=>?_)
 ·obtain ⟨v,k,rfl,_⟩:=h;rfl
 obtain ⟨v,k,rfl,hv,q⟩:=h;refine ⟨_,(aG (aM (fJ (aP (aJi.mono (by decide)) hr (by rfl) (aB (vv 0) aA)) (iD (cB eU (aP (aOh.mono (by decide)) hr (by rfl) (aB (vv 0) aA)) (vv 1) (bH _)))))),?_⟩;refine ⟨_,rfl,v,rfl,hv,fun H1 s1=>⟨_,rfl,?_⟩⟩;cases hvb:aIi v with
 |false=>rw [hvb] at q;exact bY (q H1 s1)
 |true=>rw [hvb] at q;refine dC ⟨_,rfl,v,rfl,hv.same s1,_,rfl,rfl,?_⟩;have z:decide (V.str (if whole v then "number" else "word")=V.str k)=decide (kindS v=k):=decide_eq_decide.mpr ⟨fun y=>V.str.inj y,fun y=>congrArg V.str y⟩;rw [z];exact q H1 s1
theorem at2 (x y z:V) (r:List V):atI (x::y::z::r) 2=some z:=by unfold atI ixN;simp only [t7];rw [if_pos (by lia),if_pos (by lia)];rfl
theorem aKk {K:bEL} {H:Hp} {x:Str} (h:x.length≤8):Th K H (.str x):=.inl ⟨x,rfl,by lia⟩
def Nm (x:Str):Prop:=nameB (.str x)=true
theorem aPw {x:Str} (h:nameB (.str x)=true):x.length≤8:=by have h:(rW 1 (.str x) && !inV (.str x) words)=true:=h;rw [bAP] at h;obtain ⟨y,e,_,h8,_⟩:=aEj h.1;cases e;exact h8
theorem Nm.th {K:bEL} {H:Hp} {x:Str} (h:Nm x):Th K H (.str x):=aKk (aPw h)
inductive cL {α β:Type} (R:α→β→Prop):List α→List β→Prop
 |nil:cL R [] []
 |cons {a b as bs}:R a b→cL R as bs→cL R (a::as) (b::bs)
theorem cL.len {α β:Type} {R:α→β→Prop} {as:List α} {bs:List β} (h:cL R as bs):as.length=bs.length:=by
 induction h with
 |nil=>rfl
 |cons _ _ ih=>rw [t7,t7,ih]
theorem cL.imp {α β:Type} {R S:α→β→Prop} {as:List α} {bs:List β} (h:cL R as bs) (k:∀a b,R a b→S a b):cL S as bs:=by
 induction h with
 |nil=>exact .nil
 |cons r _ ih=>exact .cons (k _ _ r) ih
theorem cL.mem {α β:Type} {R:α→β→Prop} {as:List α} {bs:List β} (h:cL R as bs) {a:α} (m:a∈as):∃b,b∈bs∧R a b:=by
 induction h with
 |nil=>cases m
 |cons r _ ih=>
  rcases List.mem_cons.mp m with rfl|m
  ·exact ⟨_,t6 ..,r⟩
  ·obtain ⟨b,hb,q⟩:=ih m;exact ⟨b,m8 _ hb,q⟩
theorem cL.app {α β:Type} {R:α→β→Prop} {as cs:List α} {bs ds:List β} (h:cL R as bs) (k:cL R cs ds):cL R (as++cs) (bs++ds):=by
 induction h with
 |nil=>exact k
 |cons r _ ih=>exact .cons r ih
def mW {α:Type} (K:bEL) (H:Hp) (R:V→α→Prop) (v:V) (xs:List α):Prop:=∃a vs,v=.ref a∧SqT K H a vs∧cL R vs xs
theorem mW.same {α:Type} {K:bEL} {H H':Hp} {R S:V→α→Prop} {v:V} {xs:List α} (e:Same H H') (k:∀a b,R a b→S a b) (h:mW K H R v xs):mW K H' S v xs:=by obtain ⟨a,vs,rfl,ha,hr⟩:=h;exact ⟨a,vs,rfl,e.aV ha,hr.imp k⟩
abbrev Hdr:=List (Str × Str)
def IsC (K:bEL) (H:Hp) (v:V) (c:Str × Str):Prop:=∃p,v=.ref p∧SqT K H p [.str c.1,.str c.2]
theorem IsC.same {K:bEL} {H H':Hp} {v:V} {c:Str × Str} (e:Same H H') (h:IsC K H v c):IsC K H' v c:=by obtain ⟨p,rfl,hp⟩:=h;exact ⟨p,rfl,e.aV hp⟩
def jR (K:bEL) (H:Hp) (v:V) (hd:Hdr):Prop:=mW K H (IsC K H) v hd
theorem jR.same {K:bEL} {H H':Hp} {v:V} {hd:Hdr} (e:Same H H') (h:jR K H v hd):jR K H' v hd:=mW.same e (fun _ _ q=>q.same e) h
def look (hd:Hdr) (n:Str):Option Str:=(hd.find? fun c=>decide (c.1=n)).map (·.2)
theorem aEv {n k:Str}:∀{hd:Hdr},look hd n=some k→∃i,hd[i]?=some (n,k)∧∀(j:Nat) (c:Str × Str),j<i→hd[j]?=some c→c.1≠n
 |[],h=>by cases h
 |(m,j)::r,h=>by
  unfold look at h;rw [bBT] at h;by_cases e:m=n
  ·rw [v8 (p:=(m,j).1=n) e] at h;have h':j=k:=bAQ h;subst e h';exact ⟨0,rfl,fun j c hj=>absurd hj (bC1 _)⟩
  ·rw [bAD (p:=(m,j).1=n) e] at h;obtain ⟨i,h1,h2⟩:=aEv (hd:=r) h;refine ⟨i+1,by simpa using h1,fun j' c hj hc=>?_⟩;cases j' with
   |zero=>cases hc;exact e
   |succ j'=>exact h2 j' c (by lia) (by simpa using hc)
theorem cC {α β:Type} {R:α→β→Prop}:∀{as:List α} {bs:List β},cL R as bs→∀{i:Nat} {a:α},as[i]?=some a→∃b,bs[i]?=some b∧R a b
 |_,_,.cons r t,0,_,h1=>by cases h1;exact ⟨_,rfl,r⟩
 |_,_,.cons r t,i+1,a,h1=>by obtain ⟨b,e,q⟩:=cC t (i:=i) (a:=a) (by simpa using h1);exact ⟨b,by simpa using e,q⟩
def aLh (K:bEL):Sp:=fun vs H Q _=>∃vh n hd k,vs=[vh,.str n]∧jR K H vh hd∧look hd n=some k∧Q (.str k) H
theorem aLg (T:Txt w K mg):Ok P w K mg base 1 "kind_in" ["head","name"] (aLh K):=by
 refine Ok.ofV T.aPm aBd (fun vs H Q E h=>?_) (fun f cdv A outer s H vs Q E hr h=>?_)
 ·obtain ⟨vh,n,hd,k,rfl,_⟩:=h;rfl
 obtain ⟨vh,n,hd,k,rfl,⟨a,us,rfl,ha,hu⟩,hk,q⟩:=h;refine ⟨_,(aF (jD PassesOwn.never rfl (mL (vv 0)) (aQ (i:=2) aBd.nd rfl (by trivial)) (aG (cG (bR eU (aL (cH (K:=K)) (vv 2) aC (fun _ _=>rfl)) (vv 1) (bH _)) (aG (aM (aL (cH (K:=K)) (vv 2) aC (fun _ _=>rfl)))) bB))) (aG jP)),?_⟩;obtain ⟨i0,h0,hf⟩:=aEv hk;have hi0:i0<us.length:=by rw [hu.len];exact (List.getElem?_eq_some_iff.mp h0).1
 refine ⟨_,rfl,a,rfl,⟨_,ha⟩,aT5 (xs:=us) (fun i σ H'=>H'=H∧i≤i0∧∃l,σ=[some (.ref a),some (.str n),l]) ⟨rfl,bAL _,_,rfl⟩ (fun i σ H' _ ⟨e,_⟩=>by rw [e];exact ha) ?_ ?_⟩
 ·rintro i x σ H' hx ⟨rfl,hi,l,rfl⟩;obtain ⟨c,hc,p,rfl,hp⟩:=cC hu hx;refine ⟨_,rfl,p,_,0,_,rfl,rfl,hp,at0 _ _,_,rfl,rfl,_,rfl,?_⟩;by_cases e:i=i0
  ·subst e;rw [h0] at hc;cases hc;rw [v8 rfl];exact dC ⟨_,rfl,p,_,1,_,rfl,rfl,hp,at1 _ _ _,q⟩
  ·have hn:=hf i c (by lia) hc;rw [bAD (by intro z;exact hn (V.str.inj z))];exact bY ⟨rfl,by lia,_,rfl⟩
 ·rintro σ H' ⟨rfl,hi,_⟩;lia
theorem aRa {α:Type} {f:α→V} {xs:List α} {i:Nat} {y:V} (h:(xs.map f)[i]?=some y):∃x,xs[i]?=some x∧y=f x:=by
 rw [t8] at h;cases e:xs[i]? with
 |none=>rw [e] at h;cases h
 |some x=>rw [e] at h;cases h;exact ⟨x,rfl,rfl⟩
def Good (hd:Hdr):Prop:=(hd.map (·.1)).Nodup∧1≤hd.length∧hd.length≤8
def aEw (K:bEL):Sp:=fun vs H Q _=>∃v hd,vs=[v]∧jR K H v hd∧hd.length≤1000∧∀D H',Same H H'→H' D=some (.lst ((hd.map (·.1)).map V.str))→Q (.ref D) H'
theorem aFe (T:Txt w K mg):Ok P w K mg base 1 "names_of" ["head"] (aEw K):=by
 refine Ok.ofV T.aLd aG2 (fun vs H Q E h=>?_) (fun f cdv A outer s H vs Q E hr h=>?_)
 ·obtain ⟨v,hd,rfl,_⟩:=h;rfl
 obtain ⟨v,hd,rfl,⟨a,us,rfl,ha,hu⟩,hl,q⟩:=h;refine ⟨_,(aG (aM (cT (N:=["column"]) (by trivial) (iC (by decide +kernel)) rfl (mL (vv 0)) (fun cl s' H' fp=>⟨(aQ (i:=0) (show (["column"]:List Str).Nodup from by decide +kernel) rfl (Or.inl rfl)),eX,(aL (cH (K:=K)) (vv 0) aC (fun _ _=>rfl))⟩)))),?_⟩;have lu:=hu.len;refine aTf us ((hd.map (·.1)).map V.str) (by rw [m7,m7];lia) [none] lA (small (by lia)) (fun R r=>aLf ha (fun R' r'=>⟨_,rfl,r'⟩) R r) (fun i x y ex ey H' R l sm r=>?_) rfl fun D H' sm hD=>q D H' sm hD;obtain ⟨c,hc,p,rfl,hp⟩:=cC hu ex;obtain ⟨n,hn,rfl⟩:=aRa ey;rw [t8,hc] at hn;cases hn;exact ⟨_,rfl,p,_,0,_,rfl,rfl,sm.aV hp,at0 _ _,r H' (Same.refl H')⟩
def plc:Hdr→Str→Nat
 |[],_=>0
 |c::r,n=>if c.1=n then 0 else plc r n+1
theorem aF8 {n k:Str}:∀{hd:Hdr},look hd n=some k→hd[plc hd n]?=some (n,k)∧∀(j:Nat) (c:Str × Str),j<plc hd n→hd[j]?=some c→c.1≠n
 |[],h=>by cases h
 |(m,q)::r,h=>by
  unfold look at h;rw [bBT] at h;by_cases e:m=n
  ·rw [v8 (p:=(m,q).1=n) e] at h;have h':q=k:=bAQ h;subst e h';have z:plc ((m,q)::r) m=0:=if_pos rfl;rw [z];exact ⟨rfl,fun j c hj=>absurd hj (bC1 _)⟩
  ·rw [bAD (p:=(m,q).1=n) e] at h;obtain ⟨h1,h2⟩:=aF8 (hd:=r) h;have z:plc ((m,q)::r) n=plc r n+1:=if_neg e;rw [z];refine ⟨by simpa using h1,fun j c hj hc=>?_⟩;cases j with
   |zero=>cases hc;exact e
   |succ j=>exact h2 j c (by lia) (by simpa using hc)
def rA (K:bEL):Sp:=fun vs H Q _=>∃vh n hd k,vs=[vh,.str n]∧jR K H vh hd∧hd.length≤1000∧look hd n=some k∧∀H',Same H H'→Q (.int (plc hd n:Nat)) H'
theorem aGx (T:Txt w K mg) (lJ:Ok P w K mg base 1 "names_of" ["head"] (aEw K)):Ok P w K mg base 2 "place_of" ["head","name"] (rA K):=by
 refine Ok.ofV T.aJj aIt (fun vs H Q E h=>?_) (fun f cdv A outer s H vs Q E hr h=>?_)
 ·obtain ⟨vh,n,hd,k,rfl,_⟩:=h;rfl
 obtain ⟨vh,n,hd,k,rfl,hI,hl,hk,q⟩:=h;obtain ⟨h1,h2⟩:=aF8 hk;refine ⟨_,(aG (aM (aA8 PySem.F.plainAttrs_list PySem.F.slot_list_index PySem.F.type_list_index aDl (aP (lJ.mono (by decide)) hr (by rfl) (aB (vv 0) aA)) (aB (vv 1) aA)))),?_⟩;refine ⟨_,rfl,vh,hd,rfl,hI,hl,fun D H1 s1 g1=>?_⟩;refine ⟨.inl ⟨rfl,_,SqL.of g1⟩,_,rfl,D,hd.map (·.1),n,plc hd n,rfl,rfl,SqL.of g1,by rw [m7];exact hl,by rw [t8,h1];rfl,fun j m hj hm=>?_,q H1 s1⟩;rw [t8] at hm;obtain ⟨c,hc,rfl⟩:=Option.map_eq_some_iff.mp hm;exact h2 j c hj hc
theorem aM8 {n:Str} {ss:List Str}:inV (.str n) (ss.map V.str)=decide (n∈ss):=by
 unfold inV;rw [bCD,bDB,decide_eq_true_eq];constructor
 ·rintro ⟨v,hv,e⟩;obtain ⟨z,hz,rfl⟩:=List.mem_map.mp hv;have e2:(z == n)=true:=e;have e3:z=n:=by simpa using e2
  rw [←e3];exact hz
 ·intro h;refine ⟨.str n,List.mem_map.mpr ⟨n,h,rfl⟩,?_⟩;show (n == n)=true;simp
theorem aHw {ss:List Str}:(ss.map V.str).all gU=true:=by rw [bB7];intro v hv;obtain ⟨z,_,rfl⟩:=List.mem_map.mp hv;rfl
theorem aMg {z:Str} {j:Int} (h0:0≤j) (h1:j<z.length):∃c,z.cps[j.toNat]?=some c:=
 ⟨_,v5 (by show j.toNat<z.length;lia)⟩
theorem aFw (x y:Str):(x++y).length=x.length+y.length:=by show (x.cps++y.cps).size=_;rw [Array.size_append];rfl
theorem at_of {xs:List V} {j:Int} (h0:0≤j) (h1:j<xs.length):∃v,atI xs j=some v∧v∈xs:=by
 have hj:j.toNat<xs.length:=by lia
 refine ⟨xs[j.toNat],?_,bA9 hj⟩;have e2:atI xs ((j.toNat:Nat):Int)=some xs[j.toNat]:=cI (j0 hj);rw [show ((j.toNat:Nat):Int)=j by lia] at e2;exact e2
def Lets (x:Str):Prop:=∀c∈x.cps,97≤c∧c≤122
theorem aUo:∀k:_root_.Fin 26,inA ⟨#[97+k.val]⟩=true:=by decide +kernel
theorem aW7 {c:Nat} (h1:97≤c) (h2:c≤122):inA ⟨#[c]⟩=true:=by have:=aUo ⟨c - 97,by lia⟩;simp only at this;rw [show 97+(c - 97)=c by lia] at this;exact this
theorem allIn_of {x:Str} (h:Lets x):allIn x=true:=by
 unfold allIn;rw [bB7];intro b hb;obtain ⟨i,hi,rfl⟩:=List.mem_map.mp hb;have hi':i<x.cps.size:=List.mem_range.mp hi;have e:x.cps.getD i 0=x.cps[i]:=by rw [v7,v5 hi'];rfl
 obtain ⟨h1,h2⟩:=h _ (Array.getElem_mem hi');show inA (sgn x i)=true;unfold sgn;rw [e];exact aW7 h1 h2
theorem Lets.add {x y:Str} (hx:Lets x) (hy:Lets y):Lets (x++y):=fun c hc=>by
 have hc:c∈x.cps++y.cps:=hc;rcases Array.mem_append.mp hc with h|h
 ·exact hx c h
 ·exact hy c h
theorem Lets.one {z:Str} {i c:Nat} (hz:Lets z) (h:z.cps[i]?=some c):Lets ⟨#[c]⟩:=fun d hd=>by
 have hd:d∈#[c]:=hd;have e:d=c:=by simpa using hd
 subst e;exact hz _ (Array.mem_of_getElem? h)
theorem aHr:Lets abc:=by
 have h:(abc.cps.all fun c=>decide (97≤c) && decide (c≤122))=true:=by decide +kernel
 intro c hc;have:=(Array.all_eq_true_iff_forall_mem.mp h) c hc;rw [bAP] at this;exact ⟨of_decide_eq_true this.1,of_decide_eq_true this.2⟩
inductive bJ:Str→V→Prop
 |num {i}:bJ "number" (.int i)
 |wrd {x}:Lets x→x.length≤8→bJ "word" (.str x)
def val (c:Nat):Int:=(c:Int) - 96
def num (x:Str):Nat→Int
 |0=>0
 |n+1=>num x n * 27+val (x.cps.getD n 0)
theorem aVr:∀k:_root_.Fin 26,Builtin.Str.occurrences abc ⟨#[97+k.val]⟩ 0 abc.length 1=[k.val]:=by decide +kernel
theorem occ {c:Nat} (h1:97≤c) (h2:c≤122):Builtin.Str.occurrences abc ⟨#[c]⟩ 0 abc.length 1=[c - 97]:=by
 have h:=aVr ⟨c - 97,by lia⟩;have e:97+(c - 97)=c:=by lia
 simpa [e] using h
def Vl (v:V):Prop:=(∃i,v=.int i)∨∃x,v=.str x∧Lets x∧x.length≤8
def nm:V→Int
 |.int i=>i
 |.str x=>num x x.cps.size
 |_=>0
theorem Lets.at {x:Str} (h:Lets x) {i:Nat} (hi:i<x.cps.size):97≤x.cps.getD i 0∧x.cps.getD i 0≤122:=by rw [v7,v5 hi];exact h _ (Array.getElem_mem hi)
theorem Vl.th {K:bEL} {H:Hp} {v:V} (h:Vl v):Th K H v:=by
 rcases h with ⟨i,rfl⟩|⟨x,rfl,_,h8⟩
 ·exact .inr (.inl ⟨i,rfl⟩)
 ·exact .inl ⟨x,rfl,by lia⟩
def aM0:Sp:=fun vs H Q _=>∃x,vs=[.str x]∧Lets x∧Q (.int (num x x.cps.size)) H
def aM5:Sp:=fun vs H Q _=>∃v h,vs=[v,.int h]∧Vl v∧0<h∧Q (.int (nm v % h)) H
theorem aBx (T:Txt w K mg):Ok P w K mg base 1 "word_number" ["word"] aM0:=by
 refine Ok.ofV T.aCg iJ (fun vs H Q E h=>?_) (fun f cdv A outer s H vs Q E hr h=>?_)
 ·obtain ⟨v,rfl,_⟩:=h;rfl
 obtain ⟨x,rfl,hx,q⟩:=h;refine ⟨_,(aF (aY (i:=1) iJ.nd rfl (by trivial) aC) (aF (jD PassesOwn.never rfl (aQo (vv 0)) (aQ (i:=2) iJ.nd rfl (by trivial)) (aG (aY (i:=1) iJ.nd rfl (by trivial) (bK dH (bK dH (bK xD (vv 1) (rD (by rfl) T.aHc)) (aA8 PySem.F.plainAttrs_str PySem.F.slot_str_index PySem.F.type_str_index aQm (rD (by rfl) T.aC4) (aB (vv 2) aA))) aC)))) (aG (aM (vv 1))))),?_⟩;refine ⟨_,rfl,_,rfl,aS6 (x:=x) (fun i σ H'=>H'=H∧∃l,σ=[some (.str x),some (.int (num x i)),l]) ⟨rfl,_,rfl⟩ ?_ ?_⟩
 ·rintro i σ H' hi ⟨rfl,l,rfl⟩;obtain ⟨h1,h2⟩:=hx.at hi;refine ⟨_,rfl,_,_,rfl,rfl,.inr ⟨by decide,by decide⟩,rfl,_,rfl,_,_,_,_,rfl,rfl,occ h1 h2,_,_,rfl,rfl,_,_,rfl,rfl,rfl,some (.str (sgn x i)),?_⟩;have e:num x i * 27+((x.cps.getD i 0 - 97:Nat):Int)+1=num x (i+1):=by show num x i * 27+((x.cps.getD i 0 - 97:Nat):Int)+1=num x i * 27+((x.cps.getD i 0:Int) - 96);lia
  exact congrArg (fun n=>[some (V.str x),some (V.int n),some (V.str (sgn x i))]) e
 ·rintro σ H' ⟨rfl,l,rfl⟩;exact ⟨_,rfl,q⟩
theorem aS9 (T:Txt w K mg) (dX:Ok P w K mg base 1 "is_whole" ["thing"] (nH K)) (aB1:Ok P w K mg base 1 "word_number" ["word"] aM0):Ok P w K mg base 2 "home" ["value","houses"] aM5:=by
 refine Ok.ofV T.aXm aM6 (fun vs H Q E h=>?_) (fun f cdv A outer s H vs Q E hr h=>?_)
 ·obtain ⟨v,h,rfl,_⟩:=h;rfl
 obtain ⟨v,h,rfl,hv,h0,q⟩:=h;refine ⟨_,(aF (aY (i:=2) aM6.nd rfl (by trivial) (aHf (bZ (aP (dX.mono (by decide)) hr (by rfl) (aB (vv 0) aA))) (vv 0) (aP (aB1.mono (by decide)) hr (by rfl) (aB (vv 0) aA)))) (aG (aM (bK qK (vv 2) (vv 1))))),?_⟩;have ht:=hv.th (K:=K) (H:=H);rcases hv with ⟨i,rfl⟩|⟨x,rfl,hx,h8⟩
 ·exact ⟨_,rfl,_,rfl,ht,_,rfl,dC ⟨_,rfl,_,rfl,_,rfl,_,_,rfl,rfl,h0,q⟩⟩
 ·exact ⟨_,rfl,_,rfl,ht,_,rfl,bY ⟨_,rfl,_,rfl,hx,_,rfl,_,rfl,_,_,rfl,rfl,h0,q⟩⟩
def aBy:Sp:=fun vs H Q _=>∃i m:Int,vs=[.int i,.int m]∧Q (.bl (decide (0≤i) && decide (i<m))) H
theorem uE (T:Txt w K mg) (dX:Ok P w K mg base 1 "is_whole" ["thing"] (nH K)):Ok P w K mg base 2 "is_number_below" ["thing","many"] aBy:=by
 refine Ok.ofV T.uW tU (fun vs H Q E h=>?_) (fun f cdv A outer s H vs Q E hr h=>?_)
 ·obtain ⟨i,m,rfl,_⟩:=h;rfl
 obtain ⟨i,m,rfl,q⟩:=h;refine ⟨_,(aG (aM (fJ (aP (dX.mono (by decide)) hr (by rfl) (aB (vv 0) aA)) (iD (aQ0 aAe aRy aC (vv 0) (vv 1)))))),?_⟩;refine ⟨_,rfl,_,rfl,.inr (.inl ⟨i,rfl⟩),_,rfl,dC ?_⟩;refine ⟨_,rfl,_,_,rfl,rfl,_,rfl,?_⟩;cases h0:decide (0≤i) with
 |false=>rw [h0] at q;exact bY q
 |true=>rw [h0] at q;exact dC ⟨_,rfl,_,_,rfl,rfl,q⟩
end
end My
namespace PySem.W
open PySem PySem.Calls PyProof.Rows
def KasT.ev {α:Type} (f:Nat→Nat→Bool):KasT α→α
 |.ret a=>a
 |.ask i j k=>(k (f i j)).ev f
inductive KasT.Low {α:Type} (n:Nat) (P:α→Prop):KasT α→Prop
 |ret {a}:P a→KasT.Low n P (.ret a)
 |ask {i j k}:i<n→j<n→(∀b,KasT.Low n P (k b))→KasT.Low n P (.ask i j k)
theorem KasT.Low.bind {α β:Type} {n:Nat} {P:α→Prop} {R:β→Prop} {t:KasT α} {f:α→KasT β} (h:t.Low n P) (hf:∀a,P a→(f a).Low n R):(t.bind f).Low n R:=by
 induction h with
 |ret h=>exact hf _ h
 |ask a b _ ih=>exact .ask a b ih
theorem KasT.Low.of {α:Type} {n:Nat} {P:α→Prop} {t:KasT α} (h:t.Low n P) (f:Nat→Nat→Bool):P (t.ev f):=by
 induction h with
 |ret h=>exact h
 |@ask i j k a b _ ih=>exact ih (f i j)
theorem aYt {α:Type} {n:Nat} {P:α→Prop} {f:Nat→Nat→Bool} {cmp:Nat→Nat→(Bool→Shared→Prop)→Shared→Prop} {s:Shared} (hc:∀i j C,i<n→j<n→C (f i j) s→cmp i j C s) {t:KasT α} (h:t.Low n P) {Q:α→Shared→Prop} (q:Q (t.ev f) s):t.kasWp cmp Q s:=by
 induction h with
 |ret h=>exact q
 |@ask i j k a b _ ih=>exact hc i j _ a b (ih (f i j) q)
def Pl (n:Nat) (p:Array Nat):Prop:=p.size=n∧∀k,p.getD k 0<n
theorem Pl.perm {n:Nat} {p q:Array Nat} (h:Pl n p) (e:q.Perm p) (h0:0<n):Pl n q:=by
 refine ⟨e.size_eq.trans h.1,fun k=>?_⟩;by_cases hk:k<q.size
 ·have hm:q[k]∈p.toList:=(Array.perm_iff_toList_perm.mp e).mem_iff.mp (by simp);obtain ⟨j,hj,ej⟩:=bB2 hm;have hj':j<p.size:=by simpa using hj
  have:=h.2 j;rw [v7,v5 hj',bDX] at this;rw [v7,v5 hk,bDX,←ej];simpa using this
 ·rw [v7,bB0 (by lia)];exact h0
theorem aEb {n:Nat} {p:Array Nat} (h:Pl n p):∀f m,(kas_asc p f m).Low n (fun r=>m≤r∧r≤m+f)
 |0,m=>.ret ⟨j6 _,j6 _⟩
 |f+1,m=>by
  refine .ask (h.2 _) (h.2 _) fun c=>?_;by_cases e:c=true
  ·rw [if_pos e];exact .ret ⟨j6 _,by lia⟩
  ·rw [if_neg e];have z:=aEb h f (m+1);generalize kas_asc p f (m+1)=t at z
   induction z with
   |ret q=>exact .ret ⟨by lia,by lia⟩
   |ask a b _ ih=>exact .ask a b ih
theorem vI {n:Nat} (h0:0<n):∀(f:Nat) (p:Array Nat) (m q:Nat),Pl n p→(kas_desc f p m q).Low n (fun r=>Pl n r.1)
 |0,p,m,q,h=>.ret h
 |f+1,p,m,q,h=>by
  refine .ask (h.2 _) (h.2 _) fun c=>?_;by_cases e:c=true
  ·rw [if_pos e];by_cases e2:q > 0
   ·rw [if_pos e2];exact vI h0 f _ _ _ (h.perm (mirror_perm _ _ _ _) h0)
   ·rw [if_neg e2];exact vI h0 f _ _ _ h
  ·rw [if_neg e];refine .ask (h.2 _) (h.2 _) fun d=>?_;by_cases e3:d=true
   ·rw [if_pos e3];exact .ret h
   ·rw [if_neg e3];exact vI h0 f _ _ _ h
theorem aDi {n:Nat} (h0:0<n) {p:Array Nat} (h:Pl n p) (m nrem:Nat):(kas_tail3 m nrem p).Low n (fun r=>Pl n r.2):=by have h':Pl n (kas_rev p 0 m):=h.perm (mirror_perm _ _ _ _) h0;exact (aEb h' _ _).bind fun _ _=>.ret h'
theorem vO {n:Nat} (h0:0<n) {p:Array Nat} (h:Pl n p) (m nrem:Nat):(kas_descPart m nrem p).Low n (fun r=>Pl n r.2):=by
 refine (vI h0 _ _ _ _ h).bind fun r hr=>?_;by_cases e:r.2.2 > 0
 ·rw [if_pos e];exact aDi h0 (hr.perm (mirror_perm _ _ _ _) h0) _ _
 ·rw [if_neg e];exact aDi h0 hr _ _
theorem aPb {n:Nat} (h0:0<n) {p:Array Nat} (h:Pl n p) (nrem:Nat):(kas_count nrem p).Low n (fun r=>Pl n r.2):=by
 refine (aEb h _ _).bind fun m _=>?_;by_cases e:(m == nrem)=true
 ·rw [if_pos e];exact .ret h
 ·rw [if_neg e];by_cases e2:m > 1
  ·rw [if_pos e2];refine .ask (h.2 _) (h.2 _) fun c=>?_;by_cases e3:c=true
   ·rw [if_pos e3];exact .ret h
   ·rw [if_neg e3];exact vO h0 (h.perm (mirror_perm _ _ _ _) h0) _ _
  ·rw [if_neg e2];exact vO h0 h _ _
theorem wV {n:Nat} {p:Array Nat} (h:Pl n p) (k:Nat):∀f l r,(kas_place p k f l r).Low n (fun _=>True)
 |0,l,r=>.ret trivial
 |f+1,l,r=>by
  unfold kas_place;by_cases e:l ≥ r
  ·rw [if_pos e];exact .ret trivial
  ·rw [if_neg e];refine .ask (h.2 _) (h.2 _) fun c=>?_;by_cases e2:c=true
   ·rw [if_pos e2];exact wV h k f _ _
   ·rw [if_neg e2];exact wV h k f _ _
theorem aNc {n:Nat} (h0:0<n):∀(f:Nat) (p:Array Nat) (k:Nat),Pl n p→(kas_bin f p k).Low n (Pl n)
 |0,p,k,h=>.ret h
 |f+1,p,k,h=>(wV h k k 0 k).bind fun l _=>aNc h0 f _ _ (h.perm (bubble_perm _ _ _) h0)
theorem aSk {n:Nat} (h0:0<n):Pl n (List.toArray (List.range n)):=by
 refine ⟨by simp,fun k=>?_⟩;rw [v7,bC4];by_cases h:k<n
 ·rw [bB1 h];exact h
 ·rw [bAO (by simpa using h)];exact h0
theorem vN {n:Nat} (h0:0<n):(kas_sort n).Low n (Pl n):=by
 refine (aPb h0 (aSk h0) n).bind fun r hr=>?_;by_cases e:r.1<n
 ·rw [if_pos e];exact aNc h0 _ _ _ hr
 ·rw [if_neg e];exact .ret hr
def dY (n:Nat) (f:Nat→Nat→Bool):List Nat:=if n<2 then List.range n else ((kas_sort n).ev f).toList
theorem wR (n:Nat) (f:Nat→Nat→Bool):(dY n f).length=n:=by
 unfold dY;by_cases h:n<2
 ·rw [if_pos h,bAM]
 ·rw [if_neg h,v9];exact ((vN (by lia)).of f).1
theorem rG {n:Nat} {f:Nat→Nat→Bool} {i:Nat} (h:i∈dY n f):i<n:=by
 unfold dY at h;by_cases h2:n<2
 ·rw [if_pos h2] at h;exact List.mem_range.mp h
 ·rw [if_neg h2] at h;have z:=(vN (n:=n) (by lia)).of f;obtain ⟨j,hj,e⟩:=bB2 h;have hj':j<((kas_sort n).ev f).size:=by simpa using hj
  have:=z.2 j;rw [v7,v5 hj',bDX] at this;rw [←e];simpa using this
section
variable {prog:Program} {w:World} {A:Around} {E:bEM} {s:Shared} {f:Nat→Nat→Bool}
theorem yK {a:Addr} {vs:List Value} {n:Nat} {P:PySem.Fin→Shared→Prop} (ho:s.heap.get? a=some (seqObj "list" vs.toArray n)) (h64:vs.length<64)
  (hk:2≤vs.length→∀h',(∀b o,b≠a→s.heap.get? b=some o→h'.get? b=some o)→∃κ,(∀(Q:SortKind→Shared→Prop),Q κ { s with heap:=h' }→wpAny (model prog w) A (keyKind' vs.toArray) Q (fun _ _=>False) { s with heap:=h' })∧∀i j (C:Bool→Shared→Prop),i<vs.length→j<vs.length→C (f i j) { s with heap:=h' }→kas_ask prog w A κ vs i j C { s with heap:=h' })
  (h:P (.done (.ret .none)) { s with heap:=sortedHeap s.heap a vs (List.toArray ((dY vs.length f).map fun i=>vs.getD i Value.none)) }) :
  wpAny (model prog w) A (Builtin.«list.sort» ⟨[.ref a],[]⟩) P E s:=by
 rw [list_sort_plain];have ha:a<s.heap.objs.size:=j8 ho;refine c7 (listItems_at ho rfl ?_);refine c7 (listUpdate_at ho rfl ?_ (by rw [j9,sizeLine_eq];lia) (bAL _));obtain ⟨e1,ho1⟩:∃e1,(s.heap.update a (Obj.mapSeq fun _=>#[])).get? a=some (seqObj "list" #[] e1):=⟨_,get?_update_seq ho (fun _=>#[])⟩;refine c7 (seqEpoch_at ho1 rfl ?_);refine c7 (bDP ?_ (by show vs.length≤_;rw [sizeLine_eq];lia));refine c7 (wpAny_newList ?_ (bAL _));refine bAV ?_;have ho6:(((s.heap.update a (Obj.mapSeq fun _=>#[])).push (seqObj "tuple" vs.toArray 0)).push (seqObj "list" #[] 0)).get? a=some (seqObj "list" #[] e1):=by rw [bDQ _ _ _ (by rw [size_push',Heap.size_update];exact m9 (bBB ha)),bDQ _ _ _ (by rw [Heap.size_update];exact m9 ha)];exact ho1
 have keep:∀b o,b≠a→s.heap.get? b=some o→(((s.heap.update a (Obj.mapSeq fun _=>(#[]:Array Value))).push (seqObj "tuple" vs.toArray 0)).push (seqObj "list" #[] 0)).get? b=some o:=fun b o ne q=>by refine d9 _ (d9 _ ?_);rw [bDC _ _ _ _ ne];exact q
 show wpAny (model prog w) A _ P E { s with heap:=((s.heap.update a (Obj.mapSeq fun _=>#[])).push (seqObj "tuple" vs.toArray 0)).push (seqObj "list" #[] 0) };dsimp only;have hsz:vs.toArray.size=vs.length:=by simp
 by_cases h2:vs.toArray.size<2
 ·rw [if_pos h2,if_pos h2];refine c7 (j4 ?_);rw [StateT.run_pure];refine c7 (j4 ?_);dsimp only;refine c7 (seqEpoch_at ho6 rfl ?_);refine c7 (listUpdate_at ho6 rfl ?_ (hsz2:=by rw [Array.size_map];show (pairsOf vs).size≤_;rw [pairsOf_size,sizeLine_eq];lia));simp only [bne_self_eq_false,bA6,if_false];refine j4 ?_;have e:((arrOf (SortSt.mk' general' (vs.toArray.zip vs.toArray) #[] 7 none)).map (·.2))=List.toArray ((dY vs.length f).map fun i=>vs.getD i Value.none):=by
   show ((vs.toArray.zip vs.toArray).map (·.2))=_;unfold dY;rw [if_pos (by lia)]
   match vs,hsz,h2 with
   |[],_,_=>simp
   |[x],_,_=>simp [List.range,List.range.loop]
   |_::_::_,hsz,h2=>rw [hsz,t7,t7] at h2;lia
  rw [e];exact h
 ·rw [if_neg h2,if_neg h2];have h2':2≤vs.length:=by lia
  obtain ⟨κ,hk1,hk2⟩:=hk h2' _ keep;refine c7 (bA4 (hk1 (fun κ' s'=>(kas_sort vs.length).kasWp (kas_ask prog w A κ' vs) (fun p s'=>s'={ s with heap:=((s.heap.update a (Obj.mapSeq fun _=>#[])).push (seqObj "tuple" vs.toArray 0)).push (seqObj "list" #[] 0) }∧p=(kas_sort vs.length).ev f) s') (aYt (n:=vs.length) (P:=Pl vs.length) (f:=f) (cmp:=kas_ask prog w A κ vs) (t:=kas_sort vs.length) hk2 (vN (by lia)) (Q:=fun p s'=>s'={ s with heap:=((s.heap.update a (Obj.mapSeq fun _=>#[])).push (seqObj "tuple" vs.toArray 0)).push (seqObj "list" #[] 0) }∧p=(kas_sort vs.length).ev f) ⟨rfl,rfl⟩)) (fun κ' s0 hk=>?_) fun _ _ x=>x.elim);refine c7 (bA4 (kat_run (Q:=fun st' s'=>∃p:Array Nat,p.size=vs.length∧arrOf st'=p.map (kas_item (vs.toArray.zip vs.toArray))∧failedOf st'=none∧s'={ s with heap:=((s.heap.update a (Obj.mapSeq fun _=>#[])).push (seqObj "tuple" vs.toArray 0)).push (seqObj "list" #[] 0) }∧p=(kas_sort vs.length).ev f)
   rfl h2' h64 (fun p' st' s' a1 a2 a3 a4=>⟨p',a1,a2,a3,a4⟩) hk) ?_ fun _ _ e=>e)
  rintro ⟨⟨⟩,st'⟩ s' ⟨p,hp,har,hf,rfl,rfl⟩;dsimp only;have hout:=kat_snds rfl har;rw [hout];refine c7 (seqEpoch_at ho6 rfl ?_);refine c7 (listUpdate_at ho6 rfl ?_ (bAL _) (by rw [j9,m7,v9,hp,sizeLine_eq];lia));rw [hf];simp only [bne_self_eq_false,bA6,if_false];refine j4 ?_;have e:dY vs.length f=((kas_sort vs.length).ev f).toList:=by unfold dY;rw [if_neg (by lia)]
  rw [e] at h;exact h
theorem aFc {l:Addr} {vs:List Value} {Q:bEM} (hl:s.heap.IsList l vs.toArray) (h64:vs.length<64)
  (hk:2≤vs.length→∀h',(∀b o,s.heap.get? b=some o→h'.get? b=some o)→∃κ,(∀(Q:SortKind→Shared→Prop),Q κ { s with heap:=h' }→wpAny (model prog w) A.in1.in1 (keyKind' vs.toArray) Q (fun _ _=>False) { s with heap:=h' })∧∀i j (C:Bool→Shared→Prop),i<vs.length→j<vs.length→C (f i j) { s with heap:=h' }→kas_ask prog w A.in1.in1 κ vs i j C { s with heap:=h' })
  (h:Q (.ref (s.heap.objs.size+1)) { s with heap:=sortedAll s.heap vs (List.toArray ((dY vs.length f).map fun i=>vs.getD i Value.none)) }) :
  wpAny (model prog w) A (call (.builtin "sorted") [.ref l]) Q E s:=by
 refine Calls.call_function_entry kind_sorted plain_sorted entry_sorted (args_sorted1 _) ?_;unfold Builtin.«sorted»;refine c7 (m:=checkCount "sorted" 1 1 _) (j4 ?_);refine c7 (collect_list hl ?_ (by rw [sizeLine_eq];lia));refine c7 (wpAny_newList ?_ (by rw [sizeLine_eq];lia));have hsz:((s.heap.push (seqObj "list" #[] 0)).update s.heap.objs.size (Obj.mapSeq (·++vs.toArray))).objs.size=s.heap.objs.size+1:=by rw [Heap.size_update,size_push']
 have hoL:(((s.heap.push (seqObj "list" #[] 0)).update s.heap.objs.size (Obj.mapSeq (·++vs.toArray))).push (seqObj "list" vs.toArray 0)).get? (s.heap.objs.size+1)=some (seqObj "list" vs.toArray 0):=by rw [←hsz];exact j5 _ rfl
 have keep:∀b o,s.heap.get? b=some o→(((s.heap.push (seqObj "list" #[] 0)).update s.heap.objs.size (Obj.mapSeq (·++vs.toArray))).push (seqObj "list" vs.toArray 0)).get? b=some o:=fun b o q=>by have hlt:b<s.heap.objs.size:=j8 q;rw [bDQ _ _ _ (by rw [hsz];exact m9 (bBB hlt)),bDC _ _ _ _ (m9 hlt),bDQ _ _ _ (m9 hlt)];exact q
 show wpAny _ _ _ _ _ { s with heap:=((s.heap.push (seqObj "list" #[] 0)).update s.heap.objs.size (Obj.mapSeq (·++vs.toArray))).push (seqObj "list" vs.toArray 0) };rw [hsz];refine c7 (bAV (bAI slot_list_sort ⟨_,hoL,rfl⟩ entry_list_sort (yK (f:=f) (s:={ s with heap:=((s.heap.push (seqObj "list" #[] 0)).update s.heap.objs.size (Obj.mapSeq (·++vs.toArray))).push (seqObj "list" vs.toArray 0) }) hoL h64 (fun h2 h' kp=>hk h2 h' fun b o q=>kp b o (m9 (bBB (j8 q))) (keep b o q)) ⟨_,rfl,?_⟩) (args_list_sort _)));exact j4 ⟨_,rfl,h⟩
end
end PySem.W
namespace PySem.W
open PySem PySem.Calls PyProof.Rows
structure Swo (f:Nat→Nat→Bool):Prop where
 asym:∀{i j},f i j=true→f j i=false
 tr:∀{i j k},f j i=false→f k j=false→f k i=false
def Pre (f:Nat→Nat→Bool) (i j:Nat):Prop:=f j i=false∧(f i j=true∨i<j)
section
variable {f:Nat→Nat→Bool}
theorem Swo.lt1 (S:Swo f) {i j k:Nat} (h1:f i j=true) (h2:f k j=false):f i k=true:=by
 cases e:f i k with
 |true=>rfl
 |false=>have:=S.tr (i:=j) (j:=k) (k:=i) h2 e;rw [h1] at this;cases this
theorem Swo.lt2 (S:Swo f) {i j k:Nat} (h1:f j i=false) (h2:f j k=true):f i k=true:=by
 cases e:f i k with
 |true=>rfl
 |false=>have:=S.tr (i:=k) (j:=i) (k:=j) e h1;rw [h2] at this;cases this
theorem Pre.trans (S:Swo f) {i j k:Nat} (h1:Pre f i j) (h2:Pre f j k):Pre f i k:=by
 refine ⟨S.tr h1.1 h2.1,?_⟩;rcases h1.2 with a|a
 ·exact .inl (S.lt1 a h2.1)
 ·rcases h2.2 with b|b
  ·exact .inl (S.lt2 h1.1 b)
  ·exact .inr (by lia)
theorem Pre.of (S:Swo f) {i j:Nat} (h:f i j=true):Pre f i j:=⟨S.asym h,.inl h⟩
theorem KasT.rP {α β:Type} {f:Nat→Nat→Bool} {g:α→KasT β}:∀t:KasT α,(t.bind g).ev f=(g (t.ev f)).ev f
 |.ret a=>rfl
 |.ask i j k=>KasT.rP (k (f i j))
theorem pU {p:Array Nat} {i j:Nat} (hj:j≤p.size) (k:Nat):(kas_rev p i j).getD k 0=if i≤k∧k<j then p.getD (i+j - 1 - k) 0 else p.getD k 0:=by
 unfold kas_rev;rw [v7,getElem?_mirror_all hj]
 split <;> rw [v7]
theorem aYn {p:Array Nat} {k d:Nat} (hs:k<p.size) (hd:d≤k) (x:Nat):(bubble p k d).getD x 0=if x=k - d then p.getD k 0 else if k - d<x∧x≤k then p.getD (x - 1) 0 else p.getD x 0:=by
 rw [v7,getElem?_bubble hs d hd,v7,v7,v7];by_cases a:x=k - d
 ·rw [if_pos a,if_pos a]
 ·rw [if_neg a,if_neg a];by_cases b:k - d<x∧x≤k
  ·rw [if_pos b,if_pos b]
  ·rw [if_neg b,if_neg b]
structure Ld (N:Nat) (p:Array Nat) (m:Nat):Prop where
 sz:p.size=N
 lo:∀k,k<m→p.getD k 0<m
 hi:∀k,m≤k→k<N→p.getD k 0=k
 pm:p.Perm (List.range N).toArray
def Asc (f:Nat→Nat→Bool) (p:Array Nat) (m:Nat):Prop:=∀i j,i<j→j<m→Pre f (p.getD i 0) (p.getD j 0)
def Fds (f:Nat→Nat→Bool) (p:Array Nat) (m:Nat):Prop:=∀i j,i<j→j<m→Pre f (p.getD j 0) (p.getD i 0)
theorem Ld.rev {N m i j:Nat} {p:Array Nat} (L:Ld N p m) (hij:i≤j) (hj:j≤m) (hm:m≤N):Ld N (kas_rev p i j) m:=by
 have hs:j≤p.size:=by rw [L.sz];lia
 refine ⟨by unfold kas_rev;rw [mirror_size];exact L.sz,fun k hk=>?_,fun k h1 h2=>?_,(mirror_perm _ _ _ _).trans L.pm⟩
 ·rw [pU hs];split
  ·exact L.lo _ (by lia)
  ·exact L.lo _ hk
 ·rw [pU hs,if_neg (by lia)];exact L.hi k h1 h2
theorem aKv (p:Array Nat):∀fu m,m≤(kas_asc p fu m).ev f∧(kas_asc p fu m).ev f≤m+fu∧(∀k,m≤k→k<(kas_asc p fu m).ev f→f (p.getD k 0) (p.getD (k - 1) 0)=false)∧((kas_asc p fu m).ev f<m+fu→f (p.getD ((kas_asc p fu m).ev f) 0) (p.getD ((kas_asc p fu m).ev f - 1) 0)=true)
 |0,m=>⟨j6 _,j6 _,fun k h1 h2=>absurd (show k<m from h2) (by lia),fun h=>absurd (show m<m+0 from h) (by lia)⟩
 |fu+1,m=>by
  show m≤(if f (p.getD m 0) (p.getD (m - 1) 0)=true then KasT.ret m else kas_asc p fu (m+1)).ev f∧(if f (p.getD m 0) (p.getD (m - 1) 0)=true then KasT.ret m else kas_asc p fu (m+1)).ev f≤m+(fu+1)∧(∀k,m≤k→k<(if f (p.getD m 0) (p.getD (m - 1) 0)=true then KasT.ret m else kas_asc p fu (m+1)).ev f→f (p.getD k 0) (p.getD (k - 1) 0)=false)∧((if f (p.getD m 0) (p.getD (m - 1) 0)=true then KasT.ret m else kas_asc p fu (m+1)).ev f<m+(fu+1)→f (p.getD ((if f (p.getD m 0) (p.getD (m - 1) 0)=true then KasT.ret m else kas_asc p fu (m+1)).ev f) 0) (p.getD ((if f (p.getD m 0) (p.getD (m - 1) 0)=true then KasT.ret m else kas_asc p fu (m+1)).ev f - 1) 0)=true);by_cases e:f (p.getD m 0) (p.getD (m - 1) 0)=true
  ·simp only [if_pos e];exact ⟨j6 _,bBN _ _,fun k h1 h2=>absurd (show k<m from h2) (by lia),fun _=>e⟩
  ·simp only [if_neg e];obtain ⟨h1,h2,h3,h4⟩:=aKv p fu (m+1);refine ⟨by lia,by lia,fun k hk hr=>?_,fun h=>h4 (by lia)⟩;by_cases z:k=m
   ·subst z;simpa using e
   ·exact h3 k (by lia) hr
theorem aFd (S:Swo f) {N m:Nat} {p:Array Nat} (L:Ld N p m) (hA:Asc f p m) (h1:1≤m):∀d,m+d≤N→(∀k,m≤k→k<m+d→f (p.getD k 0) (p.getD (k - 1) 0)=false)→Ld N p (m+d)∧Asc f p (m+d)
 |0,_,_=>⟨L,hA⟩
 |d+1,hN,h=>by
  obtain ⟨L',A'⟩:=aFd S L hA h1 d (by lia) fun k a b=>h k a (by lia);have e:p.getD (m+d) 0=m+d:=L.hi _ (by lia) (by lia);have hlt:=L'.lo (m+d - 1) (by lia);have hp:Pre f (p.getD (m+d - 1) 0) (p.getD (m+d) 0):=⟨h _ (by lia) (by lia),.inr (by lia)⟩;refine ⟨⟨L.sz,fun k hk=>?_,fun k a b=>L.hi k (by lia) b,L.pm⟩,fun i j hij hj=>?_⟩
  ·by_cases z:k=m+d
   ·subst z;lia
   ·have:=L'.lo k (by lia);lia
  ·by_cases z:j=m+d
   ·subst z;by_cases y:i=m+d - 1
    ·subst y;exact hp
    ·exact (A' i (m+d - 1) (by lia) (by lia)).trans S hp
   ·exact A' i j hij (by lia)
structure Dsc (f:Nat→Nat→Bool) (N:Nat) (p:Array Nat) (n q:Nat):Prop where
 ld:Ld N p n
 hq:q+1≤n
 hn:n≤N
 a1:∀i j,i<j→j<n - (q+1)→Pre f (p.getD j 0) (p.getD i 0)
 a2:∀i j,i<n - (q+1)→n - (q+1)≤j→j<n→f (p.getD j 0) (p.getD i 0)=true
 a3:∀i j,n - (q+1)≤i→i<j→j<n→f (p.getD i 0) (p.getD j 0)=false∧f (p.getD j 0) (p.getD i 0)=false∧p.getD i 0<p.getD j 0
def qL (p:Array Nat) (n q:Nat):Array Nat:=if q > 0 then kas_rev p (n - (q+1)) n else p
theorem Dsc.close (S:Swo f) {N n q:Nat} {p:Array Nat} (D:Dsc f N p n q):Ld N (qL p n q) n∧Fds f (qL p n q) n∧∀k,k<n→∃k',k'<n∧(qL p n q).getD k 0=p.getD k' 0:=by
 have hq:=D.hq;have hs:n≤p.size:=by rw [D.ld.sz];exact D.hn
 by_cases h:q > 0
 ·unfold qL;rw [if_pos h];refine ⟨D.ld.rev (by lia) (j6 _) D.hn,fun i j hij hj=>?_,fun k hk=>?_⟩
  ·rw [pU hs,pU hs];by_cases a:n - (q+1)≤i
   ·rw [if_pos ⟨by lia,hj⟩,if_pos ⟨a,by lia⟩];obtain ⟨h1,h2,h3⟩:=D.a3 (n - (q+1)+n - 1 - j) (n - (q+1)+n - 1 - i) (by lia) (by lia) (by lia);exact ⟨h2,.inr h3⟩
   ·rw [if_neg (show ¬ (n - (q+1)≤i∧i<n) by lia)];by_cases b:n - (q+1)≤j
    ·rw [if_pos ⟨b,hj⟩];exact .of S (D.a2 i _ (by lia) (by lia) (by lia))
    ·rw [if_neg (by lia)];exact D.a1 i j hij (by lia)
  ·rw [pU hs]
   split
   ·exact ⟨_,by lia,rfl⟩
   ·exact ⟨k,hk,rfl⟩
 ·have e:q=0:=by lia
  subst e;unfold qL;rw [if_neg h];refine ⟨D.ld,fun i j hij hj=>?_,fun k hk=>⟨k,hk,rfl⟩⟩;by_cases b:n - 1≤j
  ·exact .of S (D.a2 i j (by lia) (by lia) hj)
  ·exact D.a1 i j hij (by lia)
theorem Dsc.down (S:Swo f) {N n q:Nat} {p:Array Nat} (D:Dsc f N p n q) (hn:n<N) (h:f (p.getD n 0) (p.getD (n - 1) 0)=true):Dsc f N (qL p n q) (n+1) 0:=by
 obtain ⟨L,F,R⟩:=D.close S;have hq:=D.hq;have e:=D.ld.hi n (j6 _) hn;have e':=L.hi n (j6 _) hn;rw [e] at h;have all:∀k,k<n→f n (p.getD k 0)=true:=fun k hk=>by
  by_cases a:n - (q+1)≤k
  ·by_cases z:k=n - 1
   ·subst z;exact h
   ·exact S.lt1 h (D.a3 k (n - 1) a (by lia) (by lia)).1
  ·have:=D.a2 k (n - 1) (by lia) (by lia) (by lia);exact S.lt1 h (S.asym this)
 refine ⟨⟨L.sz,fun k hk=>?_,fun k a b=>L.hi k (by lia) b,L.pm⟩,by lia,hn,fun i j hij hj=>F i j hij (by lia),fun i j hi hj hj2=>?_,fun i j a b c=>by lia⟩
 ·by_cases z:k=n
  ·subst z;lia
  ·have:=L.lo k (by lia);lia
 ·have z:j=n:=by lia
  subst z;obtain ⟨k',hk',ek⟩:=R i (by lia);rw [e',ek];exact all k' hk'
theorem Dsc.flat (S:Swo f) {N n q:Nat} {p:Array Nat} (D:Dsc f N p n q) (hn:n<N) (h1:f (p.getD n 0) (p.getD (n - 1) 0)=false) (h2:f (p.getD (n - 1) 0) (p.getD n 0)=false):Dsc f N p (n+1) (q+1):=by
 have hq:=D.hq;have e:=D.ld.hi n (j6 _) hn;have es:n+1 - (q+1+1)=n - (q+1):=by lia
 rw [e] at h1 h2;refine ⟨⟨D.ld.sz,fun k hk=>?_,fun k a b=>D.ld.hi k (by lia) b,D.ld.pm⟩,by lia,hn,fun i j hij hj=>D.a1 i j hij (by lia),fun i j hi hj hj2=>?_,fun i j a b c=>?_⟩
 ·by_cases z:k=n
  ·subst z;lia
  ·have:=D.ld.lo k (by lia);lia
 ·rw [es] at hi hj;by_cases z:j=n
  ·subst z;rw [e];exact S.lt2 h2 (D.a2 i (j - 1) hi (by lia) (by lia))
  ·exact D.a2 i j hi hj (by lia)
 ·rw [es] at a;by_cases z:j=n
  ·subst z;rw [e];have hl:=D.ld.lo i b;by_cases y:i=j - 1
   ·subst y;exact ⟨h2,h1,hl⟩
   ·obtain ⟨g1,g2,_⟩:=D.a3 i (j - 1) a (by lia) (by lia);exact ⟨S.tr h2 g1,S.tr g2 h1,hl⟩
  ·exact D.a3 i j a b (by lia)
theorem yW (S:Swo f) {N:Nat}:∀(fu:Nat) (p:Array Nat) (n q:Nat),Dsc f N p n q→n+fu≤N→Dsc f N ((kas_desc fu p n q).ev f).1 ((kas_desc fu p n q).ev f).2.1 ((kas_desc fu p n q).ev f).2.2
 |0,p,n,q,D,_=>D
 |fu+1,p,n,q,D,h=>by
  show Dsc f N ((if f (p.getD n 0) (p.getD (n - 1) 0)=true then (if q > 0 then kas_desc fu (kas_rev p (n - (q+1)) n) (n+1) 0 else kas_desc fu p (n+1) 0) else .ask (p.getD (n - 1) 0) (p.getD n 0) fun d=>if d=true then .ret (p,n,q) else kas_desc fu p (n+1) (q+1)).ev f).1 ((if f (p.getD n 0) (p.getD (n - 1) 0)=true then (if q > 0 then kas_desc fu (kas_rev p (n - (q+1)) n) (n+1) 0 else kas_desc fu p (n+1) 0) else .ask (p.getD (n - 1) 0) (p.getD n 0) fun d=>if d=true then .ret (p,n,q) else kas_desc fu p (n+1) (q+1)).ev f).2.1 ((if f (p.getD n 0) (p.getD (n - 1) 0)=true then (if q > 0 then kas_desc fu (kas_rev p (n - (q+1)) n) (n+1) 0 else kas_desc fu p (n+1) 0) else .ask (p.getD (n - 1) 0) (p.getD n 0) fun d=>if d=true then .ret (p,n,q) else kas_desc fu p (n+1) (q+1)).ev f).2.2;by_cases e:f (p.getD n 0) (p.getD (n - 1) 0)=true
  ·have D':=D.down S (by lia) e;unfold qL at D';simp only [if_pos e];by_cases hq:q > 0
   ·simp only [if_pos hq] at D' ⊢;exact yW S fu _ _ _ D' (by lia)
   ·simp only [if_neg hq] at D' ⊢;exact yW S fu _ _ _ D' (by lia)
  ·simp only [if_neg e];show Dsc f N ((if f (p.getD (n - 1) 0) (p.getD n 0)=true then KasT.ret (p,n,q) else kas_desc fu p (n+1) (q+1)).ev f).1 ((if f (p.getD (n - 1) 0) (p.getD n 0)=true then KasT.ret (p,n,q) else kas_desc fu p (n+1) (q+1)).ev f).2.1 ((if f (p.getD (n - 1) 0) (p.getD n 0)=true then KasT.ret (p,n,q) else kas_desc fu p (n+1) (q+1)).ev f).2.2;by_cases e2:f (p.getD (n - 1) 0) (p.getD n 0)=true
   ·simp only [if_pos e2];exact D
   ·simp only [if_neg e2];exact yW S fu _ _ _ (D.flat S (by lia) (by simpa using e) (by simpa using e2)) (by lia)
def aIj (f:Nat→Nat→Bool) (N:Nat) (r:Nat × Array Nat):Prop:=1≤r.1∧r.1≤N∧Ld N r.2 r.1∧Asc f r.2 r.1
theorem aHb (S:Swo f) {N n:Nat} {p:Array Nat} (L:Ld N p n) (F:Fds f p n) (h1:1≤n) (hN:n≤N):aIj f N ((kas_tail3 n N p).ev f):=by
 unfold kas_tail3;rw [KasT.rP];have hs:n≤p.size:=by rw [L.sz];exact hN
 have L':Ld N (kas_rev p 0 n) n:=L.rev (bAL _) (j6 _) hN;have A':Asc f (kas_rev p 0 n) n:=fun i j hij hj=>by rw [pU hs,pU hs,if_pos ⟨bAL _,by lia⟩,if_pos ⟨bAL _,hj⟩];exact F _ _ (by lia) (by lia)
 obtain ⟨g1,g2,g3,_⟩:=aKv (f:=f) (kas_rev p 0 n) (N - n) n;obtain ⟨d,hd⟩:∃d,(kas_asc (kas_rev p 0 n) (N - n) n).ev f=n+d:=⟨(kas_asc (kas_rev p 0 n) (N - n) n).ev f - n,by lia⟩;show aIj f N ((kas_asc (kas_rev p 0 n) (N - n) n).ev f,kas_rev p 0 n);rw [hd] at g2 g3 ⊢;obtain ⟨k1,k2⟩:=aFd S L' A' h1 d (by lia) g3;exact ⟨by show 1≤n+d;lia,by show n+d≤N;lia,k1,k2⟩
theorem xU (S:Swo f) {N n:Nat} {p:Array Nat} (D:Dsc f N p (n+1) 0):aIj f N ((kas_descPart n N p).ev f):=by
 unfold kas_descPart;rw [KasT.rP];have D':=yW S (N - (n+1)) p (n+1) 0 D (by have:=D.hn;lia);generalize (kas_desc (N - (n+1)) p (n+1) 0).ev f=r at D';obtain ⟨L,F,_⟩:=D'.close S;have hq:=D'.hq;unfold qL at L F;by_cases h:r.2.2 > 0
 ·simp only [if_pos h] at L F ⊢;exact aHb S L F (by lia) D'.hn
 ·simp only [if_neg h] at L F ⊢;exact aHb S L F (by lia) D'.hn
theorem fZ {N k:Nat} (h:k<N):(List.range N).toArray.getD k 0=k:=by rw [v7,bC4,bB1 h];rfl
theorem aSa (S:Swo f) {N:Nat} (h1:1≤N):aIj f N ((kas_count N (List.range N).toArray).ev f):=by
 unfold kas_count;rw [KasT.rP];have L1:Ld N (List.range N).toArray 1:=⟨by simp,fun k hk=>by rw [fZ (by lia)];exact hk,fun k _ h=>fZ h,.refl _⟩;obtain ⟨g1,g2,g3,g4⟩:=aKv (f:=f) (List.range N).toArray (N - 1) 1;generalize em:(kas_asc (List.range N).toArray (N - 1) 1).ev f=m at g1 g2 g3 g4;obtain ⟨d,rfl⟩:∃d,m=1+d:=⟨m - 1,by lia⟩;obtain ⟨L,A⟩:=aFd S L1 (fun i j hij hj=>by lia) (j6 _) d (by lia) g3;by_cases e:(1+d == N)=true
 ·simp only [if_pos e];exact ⟨g1,by show 1+d≤N;lia,L,A⟩
 ·simp only [if_neg e];have hlt:1+d<N:=by
   have:1+d≠N:=by simpa using e
   lia
  have hd:=g4 (by lia);have e1:(List.range N).toArray.getD (1+d) 0=1+d:=fZ hlt;have e2:(List.range N).toArray.getD (1+d - 1) 0=d:=by rw [fZ (by lia)];lia
  rw [e1,e2] at hd;by_cases hm:1+d > 1
  ·simp only [if_pos hm];show aIj f N ((if f ((List.range N).toArray.getD 0 0) ((List.range N).toArray.getD (1+d - 1) 0)=true then KasT.ret (1+d,(List.range N).toArray) else kas_descPart (1+d) N (kas_rev (List.range N).toArray 0 (1+d))).ev f);rw [e2,fZ (show 0<N by lia)];by_cases e3:f 0 d=true
   ·simp only [if_pos e3];exact ⟨g1,by show 1+d≤N;lia,L,A⟩
   ·simp only [if_neg e3];have e3:f 0 d=false:=by simpa using e3
    have L':Ld N (kas_rev (List.range N).toArray 0 (1+d)) (1+d):=L.rev (bAL _) (j6 _) (by lia);have hs:1+d≤(List.range N).toArray.size:=by simp;lia
    have at':∀k,k<1+d→(kas_rev (List.range N).toArray 0 (1+d)).getD k 0=d - k:=fun k hk=>by rw [pU hs,if_pos ⟨bAL _,hk⟩,fZ (by lia)];lia
    have up:∀i j,i<j→j<1+d→f j i=false:=fun i j hij hj=>by have:=(A i j hij hj).1;rw [fZ (by lia),fZ (by lia)] at this;exact this
    have all:∀k,k<1+d→f (1+d) k=true:=fun k hk=>by
     by_cases z:k=d
     ·subst z;exact hd
     ·refine S.lt1 hd ?_;by_cases y:k=0
      ·subst y;exact e3
      ·exact S.tr e3 (up 0 k (by lia) hk)
    refine xU S ⟨⟨L'.sz,fun k hk=>?_,fun k a b=>L'.hi k (by lia) b,L'.pm⟩,by lia,by lia,fun i j hij hj=>?_,fun i j hi hj hj2=>?_,fun i j a b c=>by lia⟩
    ·by_cases z:k=1+d
     ·subst z;rw [L'.hi _ (j6 _) hlt];lia
     ·have:=L'.lo k (by lia);lia
    ·rw [at' i (by lia),at' j (by lia)];exact ⟨up _ _ (by lia) (by lia),.inr (by lia)⟩
    ·have z:j=1+d:=by lia
     subst z;rw [L'.hi _ (j6 _) hlt,at' i (by lia)];exact all _ (by lia)
  ·have z:d=0:=by lia
   subst z;simp only [if_neg hm];refine xU S ⟨⟨L1.sz,fun k hk=>by rw [fZ (by lia)];exact hk,fun k a b=>fZ b,L1.pm⟩,by lia,by lia,fun i j hij hj=>by lia,fun i j hi hj hj2=>?_,fun i j a b c=>by lia⟩;have z:j=1:=by lia
   have y:i=0:=by lia
   subst z y;rw [fZ (by lia),fZ (by lia)];exact hd
theorem aAo (S:Swo f) {p:Array Nat} {k:Nat} (A:Asc f p k):∀fu l r,l≤r→r≤k→r - l≤fu→(∀i,i<l→f (p.getD k 0) (p.getD i 0)=false)→(∀i,r≤i→i<k→f (p.getD k 0) (p.getD i 0)=true) →
  (kas_place p k fu l r).ev f≤k∧(∀i,i<(kas_place p k fu l r).ev f→f (p.getD k 0) (p.getD i 0)=false)∧∀i,(kas_place p k fu l r).ev f≤i→i<k→f (p.getD k 0) (p.getD i 0)=true
 |0,l,r,h1,h2,h3,a,b=>by
  have z:l=r:=by lia
  subst z;exact ⟨h2,a,b⟩
 |fu+1,l,r,h1,h2,h3,a,b=>by
  unfold kas_place;by_cases e:l ≥ r
  ·have z:l=r:=by lia
   subst z;simp only [if_pos e];exact ⟨h2,a,b⟩
  ·simp only [if_neg e];show ((if f (p.getD k 0) (p.getD ((l+r) / 2) 0)=true then kas_place p k fu l ((l+r) / 2) else kas_place p k fu ((l+r) / 2+1) r).ev f≤k∧_);by_cases c:f (p.getD k 0) (p.getD ((l+r) / 2) 0)=true
   ·have hb:∀i,(l+r) / 2≤i→i<k→f (p.getD k 0) (p.getD i 0)=true:=fun i h1 h2=>by
     by_cases z:i=(l+r) / 2
     ·subst z;exact c
     ·exact S.lt1 c (A _ i (by lia) h2).1
    have:=aAo S A fu l ((l+r) / 2) (by lia) (by lia) (by lia) a hb;simpa only [KasT.ev,if_pos c] using this
   ·have c':f (p.getD k 0) (p.getD ((l+r) / 2) 0)=false:=by simpa using c
    have ha:∀i,i<(l+r) / 2+1→f (p.getD k 0) (p.getD i 0)=false:=fun i h=>by
     by_cases z:i=(l+r) / 2
     ·subst z;exact c'
     ·exact S.tr (A i _ (by lia) (by lia)).1 c'
    have:=aAo S A fu ((l+r) / 2+1) r (by lia) h2 (by lia) ha b;simpa only [KasT.ev,if_neg c] using this
theorem aRk (S:Swo f) {N:Nat}:∀(fu:Nat) (p:Array Nat) (k:Nat),Ld N p k→Asc f p k→1≤k→k+fu=N→Ld N ((kas_bin fu p k).ev f) N∧Asc f ((kas_bin fu p k).ev f) N
 |0,p,k,L,A,_,e=>by
  have z:k=N:=by lia
  subst z;exact ⟨L,A⟩
 |fu+1,p,k,L,A,h1,e=>by
  unfold kas_bin;rw [KasT.rP];obtain ⟨g1,g2,g3⟩:=aAo S A k 0 k (bAL _) (j6 _) (by lia) (fun i h=>by lia) (fun i h h'=>by lia);generalize (kas_place p k k 0 k).ev f=l at g1 g2 g3;have hs:k<p.size:=by rw [L.sz];lia
  have ek:p.getD k 0=k:=L.hi k (j6 _) (by lia);have bt:=fun x=>aYn (p:=p) (k:=k) (d:=k - l) hs (by lia) x;have ez:k - (k - l)=l:=by lia
  rw [ez] at bt;refine aRk S fu _ (k+1) ⟨by rw [bubble_size];exact L.sz,fun x hx=>?_,fun x a b=>?_,(bubble_perm _ _ _).trans L.pm⟩ (fun i j hij hj=>?_) (by lia) (by lia)
  ·rw [bt];by_cases a:x=l
   ·rw [if_pos a];lia
   ·rw [if_neg a];by_cases b:l<x∧x≤k
    ·rw [if_pos b];have:=L.lo (x - 1) (by lia);lia
    ·rw [if_neg b];have:=L.lo x (by lia);lia
  ·rw [bt,if_neg (by lia),if_neg (by lia)];exact L.hi x (by lia) b
  ·rw [bt i,bt j];by_cases i1:i=l
   ·rw [if_pos i1,if_neg (by lia),if_pos (by lia)];exact .of S (g3 _ (by lia) (by lia))
   ·rw [if_neg i1];by_cases i2:l<i∧i≤k
    ·rw [if_pos i2,if_neg (by lia),if_pos (by lia)];exact A _ _ (by lia) (by lia)
    ·rw [if_neg i2];by_cases j1:j=l
     ·rw [if_pos j1];have:=L.lo i (by lia);exact ⟨g2 i (by lia),.inr (by lia)⟩
     ·rw [if_neg j1];by_cases j2:l<j∧j≤k
      ·rw [if_pos j2];exact A _ _ (by lia) (by lia)
      ·rw [if_neg j2];exact A _ _ hij (by lia)
theorem aUj (S:Swo f) {N:Nat} (h1:1≤N):Ld N ((kas_sort N).ev f) N∧Asc f ((kas_sort N).ev f) N:=by
 unfold kas_sort;rw [KasT.rP];have R:=aSa S h1;generalize (kas_count N (List.range N).toArray).ev f=r at R;obtain ⟨r1,r2,L,A⟩:=R;by_cases e:r.1<N
 ·simp only [if_pos e];have z:max r.1 1=r.1:=by lia
  rw [z];exact aRk S _ _ _ L A r1 (by lia)
 ·simp only [if_neg e];have z:r.1=N:=by lia
  rw [z] at L A;exact ⟨L,A⟩
end
theorem KasT.Low.same {α:Type} {n:Nat} {P:α→Prop} {t:KasT α} (h:t.Low n P) {f g:Nat→Nat→Bool} (e:∀i j,i<n→j<n→f i j=g i j):t.ev f=t.ev g:=by
 induction h with
 |ret h=>rfl
 |@ask i j k a b _ ih=>show (k (f i j)).ev f=(k (g i j)).ev g;rw [e i j a b];exact ih (g i j)
theorem aLw {n:Nat} {f g:Nat→Nat→Bool} (e:∀i j,i<n→j<n→f i j=g i j):dY n f=dY n g:=by
 unfold dY;by_cases h:n<2
 ·rw [if_pos h,if_pos h]
 ·rw [if_neg h,if_neg h,(vN (by lia)).same e]
theorem aG8 {n:Nat} {f:Nat→Nat→Bool} (S:Swo f):(dY n f).Perm (List.range n)∧(dY n f).Pairwise (Pre f):=by
 unfold dY;by_cases h:n<2
 ·rw [if_pos h];refine ⟨.refl _,?_⟩
  match n,h with
  |0,_=>exact .nil
  |1,_=>exact List.pairwise_singleton _ _
 ·rw [if_neg h];obtain ⟨L,A⟩:=aUj S (show 1≤n by lia);generalize (kas_sort n).ev f=p at L A;refine ⟨?_,List.pairwise_iff_getElem.mpr fun i j hi hj hij=>?_⟩
  ·have:=Array.perm_iff_toList_perm.mp L.pm;simpa using this
  ·have hi':i<p.size:=by simpa using hi
   have hj':j<p.size:=by simpa using hj
   have:=A i j hij (by rw [←L.sz];exact hj');rw [v7,v7,v5 hi',v5 hj'] at this;simpa using this
end PySem.W
namespace PySem.W
open PySem PySem.Calls PyProof.Rows
section
variable {prog:Program} {w:World} {A:Around} {E:bEM} {s:Shared} {f:Nat→Nat→Bool}
end
end PySem.W
namespace PySem.W
open PySem PySem.Calls PyProof.Rows
theorem aAz {pos:Pos} {a b:Int} {c cv:Value} (l:List Value) (h:TriplesOk l) (hf:codeAmong pos (l++[rawInt a,rawInt b,c])=some cv):codeAmong pos l=some cv∨cv=c:=by
 fun_induction TriplesOk l with
 |case1=>
  simp only [bCF,codeAmong,rawInt] at hf
  split at hf
  ·exact .inr (bAQ hf).symm
  ·cases hf
 |case2 a' t b' u x rest ih=>
  simp only [List.cons_append,codeAmong] at hf ⊢
  split at hf
  ·rename_i hc;rw [if_pos hc];exact .inl hf
  ·rename_i hc;rw [if_neg hc];exact ih h hf
 |case3 l h1 h2=>exact h.elim
section
variable {prog:Program} {w:World} {A:Around} {E:bEM} {s:Shared}
end
end PySem.W
namespace L2
open PySem PySem.Spec PyProof.Rows
def BM (mg:bEO) (base:Heap):Prop:=∃bm ob,mg "__builtins__"=some (.ref bm)∧bm≠builtinsNs∧base.get? bm=some ob∧ob.cls=.type "module"∧ob.dict=some builtinsNs∧ob.data=.plain
section
variable {X:Cx} {bEP:bEN} {σ:List (Option V)} {H:Hp} {s:Shared}
end
def ExO (a:Addr) (o:Obj):HO:=.ext fun h=>h.get? a=some o
theorem aXb {P:Program} {w:World} {H:Hp} {h:Heap} {a:Addr} {o:Obj} (e:h.get? a=some o):cW P w H h a (ExO a o):=⟨e,⟨o,e⟩,fun _ _ e1 k=>k o e1⟩
def bAu (g x y:Str) (p0 p1 p2 p3:Pos):Expr:=.Call (.Name g p0) [.Name x p1,.Name y p2] [] p3
structure aXj (qual g x y:Str) (params:Arguments) (bd:Expr) (scope:Scope):Prop where
 body:∃p0 p1 p2 p3,bd=bAu g x y p0 p1 p2 p3
 bind:∀(cp c':Addr) (pm ctv v:Value),bindArgs (PySem.W.kla_fn "<lambda>" qual params bd scope [(y,cp)] pm (.ref c') ctv) ⟨[v],[]⟩=pure [(x,v)]
 co:scope.isCoroutine=false
 gen:scope.isGenerator=false
 kind:scope.kind=.function
 cell:∀z∈scope.names,z.2≠.cell
 hx:scope.names.lookup x=some .local
 hy:scope.names.lookup y=some .free
 hg:scope.names.lookup g=some .globalImplicit
 dx:(x == ("__debug__":Str))=false
 dy:(y == ("__debug__":Str))=false
 dg:(g == ("__debug__":Str))=false
 cy:(y == ("__classdict__":Str))=false
 xy:(y == x)=false
def vU (H:Hp) (f:Addr) (qual g x y:Str) (v:V):Prop:=∃(params:Arguments) (body:Expr) (scope:Scope) (cp c':Addr) (pm ctv:Value) (oc ol:Obj) (u:Value) (vs:Array Value) (t:Tok),
 aXj qual g x y params body scope∧H f=some (ExO f (PySem.W.kla_obj "<lambda>" qual params body scope [(y,cp)] pm c' ctv))∧H cp=some (ExO cp ol)∧(∀h:Heap,h.get? cp=some ol→h.IsCell cp (some u))∧RelV v u∧H c'=some (ExO c' oc)∧oc.data=.fields vs∧vs[1]?=some (.str qual t)
theorem vU.same {H H':Hp} {f:Addr} {qual g x y:Str} {v:V} (L:vU H f qual g x y v) (s:Same H H'):vU H' f qual g x y v:=by obtain ⟨pa,bo,sc,cp,c',pm,ctv,oc,ol,u,vs,t,S,h1,h2,h3,h4,h5,h6,h7⟩:=L;exact ⟨pa,bo,sc,cp,c',pm,ctv,oc,ol,u,vs,t,S,s _ _ h1,s _ _ h2,h3,h4,s _ _ h5,h6,h7⟩
section
variable {X:Cx}
theorem aTv {bEP:bEN} {σ:St} {H:Hp} {s:Shared} {Q:VK} {f ga:Addr} {qual g x y:Str} {v a:V} {ua:Value} {k:Nat} {fd:FuncData} {ps:List Str} {sp:Sp}
  (L:vU H f qual g x y v) (hr:Room (k+1) X.A) (hm:X.mg g=some (.ref ga)) (hk:PySem.W.keepIn X.K (.ref ga)=true) (hb:Binds X.K fd ps []) (F:fV X.prog X.w X.K X.mg X.base CX0 k ga fd ps sp)
  (I:Inv X bEP σ H s) (r:RelV a ua) (h:sp [a,v] H Q E0):wpAny (model X.prog X.w) X.A (call (.ref f) [ua]) (EP X bEP σ Q) X.xe s:=by
 obtain ⟨pa,bo,sc,cp,c',pm,ctv,oc,ol,u,vs,t,S,h1,h2,h3,h4,h5,h6,h7⟩:=L;have e1:s.heap.get? f=some _:=(I.hok f _ h1).1;have e2:s.heap.get? cp=some ol:=(I.hok cp _ h2).1;have e5:s.heap.get? c'=some oc:=(I.hok c' _ h5).1;refine bCQ (PySem.W.kla_callFunE hr.depth e1 rfl S.co S.gen rfl ⟨c',oc,vs,t,rfl,e5,h6,h7⟩ ?_);rw [S.bind];refine j4 (bD1 S.cell (fun z hz=>?_) (fun h₁ hns hsb=>⟨I.nolimit.fresh _ hsb,?_⟩) S.kind)
 ·have e:z=(x,ua):=by simpa using hz
  rw [e];exact S.hx
 have kp:∀b o,s.heap.get? b=some o→h₁.get? b=some o:=fun b o e=>hsb.extBut b o (m9 (j8 e)) (d9 _ e);have szz:s.heap.objs.size≤h₁.objs.size:=by have:=hsb.1;rw [bAT] at this;lia
 refine PySem.W.kla_codeExpr ?_;obtain ⟨p0,p1,p2,p3,rfl⟩:=S.body;have hG:h₁.Ns mainGlobals X.mg:=(I.mod.glob.keeps I.bk).keeps kp;refine bBE (bC6 S.kind S.hg (Calls.loadGlobal_global hG hm ?_) S.dg);refine PySem.W.callWith_K (h₀:=X.base) I.ok.mod.kin hk (bBU (wpAny_Name (wpAny_loadName_local S.kind S.hx hns (v:=ua) (by simp) ?_) S.dx)) rfl rfl;refine bBU (wpAny_Name (wpAny_loadName_free S.kind S.hy (c:=cp) (by simp [newEnv,PySem.W.kla_fn]) (v:=u) (h3 h₁ (kp _ _ e2)) ?_ S.cy) S.dy);have kin:X.K.In h₁:=I.kIn.keeps kp;refine bDN ⟨kin,?_⟩;generalize henv:newEnv _ s.heap.objs.size _ _ _ _ _ _ _=env;have hfr:env.frame=some s.heap.objs.size:=by rw [←henv];rfl
 have hkd:env.scope.kind≠.module:=by rw [←henv];show sc.kind≠_;rw [S.kind];decide
 have fresh:X.base.get? s.heap.objs.size=none:=bC5 (bAR I.ok.bsz I.sz);have hfresh:H s.heap.objs.size=none:=I.hok.fresh (j6 _);have E1:aEq X.prog X.w X.K X.mg X.base (X.A.deeper env) (env::X.stack) { s with heap:=h₁,toks:=s.toks+1 } H:=by
  refine ⟨Around.frames_deeper I.ok.frames,I.ok.mod,fun b o e=>⟨kp _ _ (I.bs b o e).1,(I.bs b o e).2⟩,bAR (bAR I.ok.bsz I.sz) szz,.cons hkd hfr hns fresh ?_,?_,I.hok.kept kp,I.bare⟩
  ·exact I.stack.of_keeps fun b o e _=>⟨o,kp _ _ e,rfl⟩
  ·intro b hb;unfold frs at hb;rw [bCR,hfr] at hb;rcases List.mem_cons.mp hb with e|hb
   ·rw [e];exact hfresh
   ·exact I.rJ b hb
 have r2:Vals [a,v] [ua,u]:=.cons r (.cons h4 .nil);have hl:([ua,u]++([]:List Value)).length=ps.length:=by rw [bBF,←r2.length];exact F.len _ _ _ _ h
 refine bCQ (bBM (F.run (X.A.deeper env) (env::X.stack) _ H ⟨[ua,u],[]⟩ [ua,u] [a,v] Q E0 (hr.deeper env) E1 (by simpa using hb { s with heap:=h₁,toks:=s.toks+1 } [ua,u] kin hl) r2 h) fun rr s' hq=>?_);cases rr with
 |error e=>exact hq.elim
 |ok fl=>
  cases fl with
  |next=>exact False.elim hq
  |brk=>exact False.elim hq
  |cont=>exact False.elim hq
  |ret uu=>
   obtain ⟨v',H',os,bare,un,hok,rel,q⟩:=hq;refine I.after (Q:=Q) (u:=uu) (s':=s') ⟨v',H',os,bare,?_,hok,rel,q⟩;have neL:∀b o,s.heap.get? b=some o→b≠s.heap.objs.size:=fun b o e=>m9 (j8 e);have fe:frs (env::X.stack)=s.heap.objs.size::frs X.stack:=by unfold frs;rw [bCR,hfr]
   rw [fe] at un;exact ⟨fun b o e n hb hx=>un.keep b o (kp b o e) n (fun z=>(List.mem_cons.mp z).elim (neL b o e) hb) hx,fun b o e n hb hx=>un.slot b o (kp b o e) n (m8 _ hb) hx,fun b o e n hx=>un.free b o (kp b o e) n hx,fun b o e hx=>un.there b o (kp b o e) hx,un.tups,un.frzs,un.tbls⟩
def aQ1 (P:Program) (w:World) (K:bEL) (mg:bEO) (base:Heap) (k:Nat) (te:TE) (t:TA):TE:=fun σ H Q=>te σ H fun v H1=>∃(f:Addr) (qual g x y:Str) (z:V) (ps:List Str) (sp:Sp),v=.ref f∧vU H1 f qual g x y z∧Ok P w K mg base k g ps sp ∧
 t σ H1 fun vs H2=>∃a,vs=[a]∧vU H2 f qual g x y z∧sp [a,z] H2 Q E0
theorem aPx {n:Str} {p pos:Pos} {e:Expr} {es:List Expr} {te:TE} {t:TA} {k:Nat} (hr:Room (k+1) X.A) (hf:PE X (.Name n p) te) (ha:PA X (e::es) t)
  (he:starEach (e::es) X.env=(false,eval e X.env)::starEach es X.env:=by rfl) (hpl:(backTo pos (starEach es X.env)).any (·.1)=false:=by rfl) :
  PE X (.Call (.Name n p) (e::es) [] pos) (aQ1 X.prog X.w X.K X.mg X.base k te t):=by
 intro bEP s σ H Q I h;refine bBE (thn (hf bEP s σ H _ I h) fun u s1 ⟨v,H1,I1,r1,q1⟩=>?_);obtain ⟨f,qual,g,x,y,z,ps,sp,rfl,L,G,q⟩:=q1;obtain rfl:u=Value.ref f:=r1;obtain ⟨ga,fd,hm,hk,hb,F⟩:=G;have hh:=ha pos bEP s1 σ H1 _ I1 q;rw [he] at hh ⊢;refine PySem.W.callWith_of (P:=fun h=>∃pa bo sc cl pm c' ctv,h.get? f=some (PySem.W.kla_obj "<lambda>" qual pa bo sc cl pm c' ctv)) (by show ((false || (backTo pos (starEach es X.env)).any (·.1)) || false)=false;rw [hpl];rfl) (fun h ⟨pa,bo,sc,cl,pm,c',ctv,eh⟩=>⟨.frame,.inl rfl,(PySem.W.Looks.ld (part:=none) eh).andThen .now⟩) (bD0 (thn hh fun us s2 ⟨vs,H2,I2,r,q2⟩=>?_));obtain ⟨a,rfl,L2,q3⟩:=q2;cases r with
 |cons r rn=>cases rn;refine ⟨?_,aTv L2 hr hm hk hb F I2 r q3⟩;obtain ⟨pa,bo,sc,cp,c',pm,ctv,oc,ol,u,vs,t,S,h1,_⟩:=L2;exact ⟨pa,bo,sc,_,pm,c',ctv,(I2.hok f _ h1).1⟩
end
section
variable {X:Cx} {bEP:bEN} {σ:List (Option V)} {H:Hp} {s:Shared}
theorem aPg {params:Arguments} {body:Expr} {scope:Scope} {pos:Pos} {c P:Addr} {clos:List (Str × Addr)} {Q:bEM} {E:bEM}
  (I:Inv X bEP σ H s) (hcode:X.env.code=.ref c) (CH:PySem.W.CodeHd X.base c P) (hP:H P=some (.tab (X.env.qual++"<lambda>"))) (hbm:BM X.mg X.base) (hcl:closureFor scope X.env=pure clos) (hdef:defaultsOf params X.env=([],[]))
  (q:∀f c' pm ctv H' h' tk,Inv X bEP σ H' { s with heap:=h',toks:=tk }→Same H H'→s.heap.objs.size≤f→H' f=none→H' c'=some (.own P)→H' P=some (.tab (X.env.qual++"<lambda>"))→h'.get? f=some (PySem.W.kla_obj "<lambda>" (X.env.qual++"<lambda>") params body scope clos pm c' ctv)→h'.CodeRec (.ref c') (X.env.qual++"<lambda>")→Q (.ref f) { s with heap:=h',toks:=tk }) :
  wpAny (model X.prog X.w) X.A (eval (.Lambda params body scope pos) X.env) Q E s:=by
 obtain ⟨ps,hp,ht,hcodes⟩:=I.hok P _ hP;have hg:s.heap.Ns mainGlobals X.mg:=I.mod.glob.keeps I.bk;obtain ⟨bm,ob,b1,b2,b3,b4,b5,b6⟩:=hbm;have bG:bm≠mainGlobals:=fun z=>by obtain ⟨o,es,ep,e,d,_⟩:=I.mod.glob;rw [z,e] at b3;cases b3;rw [d] at b6;cases b6
 have bP:bm≠P:=fun z=>by have:=(I.bs bm ob b3).2;rw [z,hP] at this;cases this
 have gP:mainGlobals≠P:=fun z=>by obtain ⟨o,es,ep,e,d,_⟩:=I.mod.glob;have:=(I.bs _ o e).2;rw [z,hP] at this;cases this
 have hB:s.heap.BuiltinsAt X.mg P:=⟨bm,ob,b1,b2,bG,bP,I.bk _ _ b3,b4,b5,b6⟩;refine PySem.W.kla_eval hdef ?_;cases hca:codeAmong pos ps.toList with
 |some cv=>obtain ⟨c',oc,vs,t,rfl,a2,a3,a4,a5⟩:=hcodes pos cv hca;refine PySem.W.kla_makeFunctionHit (mg:=X.mg) hcl I.ok.glob hg hcode (CH.keeps I.bk) hp ht hca hB fun ctv h' tk hk hsz=>?_;exact q _ c' _ ctv H _ tk (I.kept (t':=tk) fun b o e=>d9 _ (hk b o e)) (fun _ _ e=>e) hsz (I.hok.fresh hsz) a2 hP (j5 _ rfl) ⟨c',oc,vs,t,rfl,d9 _ (hk _ _ a3),a4,a5⟩
 |none=>
  refine PySem.W.kla_makeFunction (mg:=X.mg) hcl I.ok.glob hg hcode (CH.keeps I.bk) hp ht hca gP hB fun c' ctv h' tk hx hge hlt hrec htb=>?_;obtain ⟨c2,oc,vs,t,e2,hoc,hd,hv⟩:=hrec;cases e2;have nc:H c'=none:=I.hok.fresh hge;have neP:∀b u,b≠P→H b=some u→∀o,s.heap.get? b=some o→(h'.push (PySem.W.kla_obj "<lambda>" (X.env.qual++"<lambda>") params body scope clos ((X.mg "__name__").getD .none) c' ctv)).get? b=some o:=fun b u hb _ o e=>d9 _ (hx b o hb e);have kp:∀b o,b≠P→s.heap.get? b=some o→(h'.push (PySem.W.kla_obj "<lambda>" (X.env.qual++"<lambda>") params body scope clos ((X.mg "__name__").getD .none) c' ctv)).get? b=some o:=fun b o hb e=>d9 _ (hx b o hb e);have nPn:∀b,H b=none→b≠P:=fun b e z=>by rw [z,hP] at e;cases e
  have upne:∀{b u},H b=some u→upd H c' (.own P) b=some u:=fun {b u} e=>by rw [aK (aU e nc)];exact e
  refine q _ c' _ ctv (upd H c' (.own P)) _ tk (I.step (g':=s.gens) (d':=s.drawn) (ch:=[]) (fun _ z=>nomatch z) (fun b o _ _ _ e n=>kp b o (nPn b n) e) (fun b o _ _ _ e n=>⟨o.slots,kp b o (nPn b n) e⟩) (fun b o _ e n=>?_) (fun b o _ e=>?_)
   (fun b xs e=>upne e) (fun b o u e=>upne e) (fun b qs e=>⟨#[],by rw [upne e];simp⟩) (fun m hm=>?_) (fun b u e=>?_) I.bare) (fun b o e=>upne e) (bCX (bB6 hge hlt)) (by rw [aK (bBL hlt)];exact I.hok.fresh (bCX (bB6 hge hlt))) aH (upne hP) (j5 _ rfl) ⟨c',oc,vs,t,rfl,d9 _ hoc,hd,hv⟩
  ·rw [aK (m9 (bAA (j8 e) hge))];exact n
  ·by_cases z:b=P
   ·subst z;exact ⟨_,d9 _ htb⟩
   ·exact ⟨o,kp b o z e⟩
  ·obtain ⟨o,es,ep,e,r⟩:=hm;exact ⟨o,es,ep,kp _ o (nPn _ I.free) e,r⟩
  ·by_cases z:b=c'
   ·subst z;rw [aH] at e;cases e;exact ⟨oc,d9 _ hoc⟩
   ·rw [aK z] at e;by_cases y:b=P
    ·subst y;rw [hP] at e;cases e;refine ⟨_,d9 _ htb,by rw [bCS];exact TriplesOk_snoc _ _ _ _ ht,fun pos' cv' hf=>?_⟩;rw [bCS] at hf;rcases PySem.W.aAz _ ht hf with hf|rfl
     ·obtain ⟨c2,oc2,vs2,t2,rfl,a2,a3,a4,a5⟩:=hcodes pos' cv' hf;exact ⟨c2,oc2,vs2,t2,rfl,upne a2,kp _ _ (fun z=>by rw [z,hP] at a2;cases a2) a3,a4,a5⟩
     ·exact ⟨c',oc,vs,t,rfl,aH,d9 _ hoc,hd,hv⟩
    ·refine (I.hok b u e).stay (fun d v hd' r=>kp d v ?_ r) (fun d r=>upne r) fun d xs r=>upne r;rcases hd' with rfl|r'
     ·exact y
     ·intro z;rw [z,hP] at r';cases r'
open Classical in
noncomputable def aCh (S:Addr→Prop) (h:Heap) (H:Hp):Hp:=fun b=>if S b then (h.get? b).map (ExO b) else H b
open Classical in
noncomputable def aCw (S:Addr→Prop) (H Z:Hp):Hp:=fun b=>if S b then H b else Z b
theorem oV {S:Addr→Prop} {h:Heap} {b:Addr} {o:Obj} (hb:S b) (e:h.get? b=some o):aCh S h H b=some (ExO b o):=by unfold aCh;rw [if_pos hb,e];rfl
theorem dF {S:Addr→Prop} {h:Heap} {b:Addr} (hb:¬ S b):aCh S h H b=H b:=by unfold aCh;rw [if_neg hb]
theorem aAi {S:Addr→Prop} {Z:Hp} {b:Addr} (hb:S b):aCw S H Z b=H b:=by unfold aCw;rw [if_pos hb]
theorem gH {S:Addr→Prop} {Z:Hp} {b:Addr} (hb:¬ S b):aCw S H Z b=Z b:=by unfold aCw;rw [if_neg hb]
structure aAh (X:Cx) (H:Hp) (h:Heap) (S:Addr→Prop):Prop where
 there:∀b,S b→∃o,h.get? b=some o
 own:∀d a o,¬ S a→H a=some o→H d=some (.own a)→¬ S d
 own2:∀d a o,S a→H a=some o→(∃e,o=.own e)∨(H d=some (.own a)→S d)
 tup:∀d xs,H d=some (.tup xs)→¬ S d
 frz:∀d o u,H d=some (.frz o u)→¬ S d
 tbl:∀d ps,H d=some (.tbl ps)→¬ S d
 base:∀b o,X.base.get? b=some o→¬ S b
 frs:∀b∈frs X.stack,¬ S b
theorem aAh.hok {S:Addr→Prop} (p:aAh X H s.heap S) (I:Inv X bEP σ H s):HOk X.prog X.w (aCh S s.heap H) s.heap:=by
 intro b o e;by_cases hb:S b
 ·obtain ⟨ob,eo⟩:=p.there b hb;rw [oV hb eo] at e;cases e;exact aXb eo
 ·rw [dF hb] at e;refine (I.hok b o e).stay (fun _ _ _ q=>q) (fun d q=>?_) fun d xs q=>?_
  ·rw [dF (p.own d b o hb e q)];exact q
  ·rw [dF (p.tup d xs q)];exact q
theorem aAh.env0 {S:Addr→Prop} (p:aAh X H s.heap S) (I:Inv X bEP σ H s):aEq X.prog X.w X.K X.mg X.base X.A X.stack s (aCh S s.heap H):=
 ⟨I.ok.frames,I.ok.mod,fun b o e=>⟨(I.bs b o e).1,by rw [dF (p.base b o e)];exact (I.bs b o e).2⟩,bAR I.ok.bsz I.sz,I.stack,fun b hb=>by rw [dF (p.frs b hb)];exact I.rJ b hb,p.hok I,I.bare⟩
theorem aAh.after {S:Addr→Prop} {Q:VK} {u:Value} {s':Shared} (p:aAh X H s.heap S) (I:Inv X bEP σ H s) (h:CE X.stack X.prog X.w (aCh S s.heap H) s (fun v Z=>Same (aCh S s.heap H) Z∧∀H4,Same H H4→Q v H4) u s'):EP X bEP σ Q u s':=by
 obtain ⟨v,Z,os,bare,un,hok,rel,sm,q⟩:=h;have ex:∀b o,S b→s.heap.get? b=some o→s'.heap.get? b=some o:=fun b o hb e=>(hok b _ (sm _ _ (oV hb e))).1;have same:Same H (aCw S H Z):=fun b o e=>by
  by_cases hb:S b
  ·rw [aAi hb];exact e
  ·rw [gH hb];exact sm _ _ (by rw [dF hb];exact e)
 refine I.after (Q:=Q) ⟨v,aCw S H Z,os,bare,⟨fun b o e n hb hx=>?_,fun b o e n hb hx=>?_,fun b o e n hx=>?_,un.there,fun b xs e=>?_,fun b o u e=>?_,fun b ps e=>?_⟩,fun b o e=>?_,rel,q _ same⟩
 ·by_cases hs:S b
  ·exact ex b o hs e
  ·exact un.keep b o e (by rw [dF hs];exact n) hb hx
 ·exact un.slot b o e (by rw [dF (p.frs b hb)];exact n) hb hx
 ·by_cases hs:S b
  ·rw [aAi hs];exact n
  ·rw [gH hs];exact un.free b o e (by rw [dF hs];exact n) hx
 ·rw [gH (p.tup b xs e)];exact un.tups b xs (by rw [dF (p.tup b xs e)];exact e)
 ·rw [gH (p.frz b o u e)];exact un.frzs b o u (by rw [dF (p.frz b o u e)];exact e)
 ·rw [gH (p.tbl b ps e)];exact un.tbls b ps (by rw [dF (p.tbl b ps e)];exact e)
 ·by_cases hs:S b
  ·rw [aAi hs] at e;rcases p.own2 b b o hs e with ⟨x,rfl⟩|_
   ·obtain ⟨ob,eo⟩:=p.there b hs;exact ⟨ob,ex b ob hs eo⟩
   ·by_cases ho:∃x,o=.own x
    ·obtain ⟨x,rfl⟩:=ho;obtain ⟨ob,eo⟩:=p.there b hs;exact ⟨ob,ex b ob hs eo⟩
    ·refine (I.hok b o e).stay (fun c u hc eu=>?_) (fun d q=>same _ _ q) fun d xs q=>same _ _ q;rcases hc with rfl|hc
     ·exact ex _ _ hs eu
     ·rcases p.own2 c b o hs e with z|z
      ·exact absurd z ho
      ·exact ex _ _ (z hc) eu
  ·rw [gH hs] at e;refine (hok b o e).stay (fun _ _ _ q=>q) (fun d q=>?_) fun d xs q=>?_
   ·by_cases hd:S d
    ·obtain ⟨ob,eo⟩:=p.there d hd;rw [sm _ _ (oV hd eo)] at q;cases q
    ·rw [gH hd];exact q
   ·by_cases hd:S d
    ·obtain ⟨ob,eo⟩:=p.there d hd;rw [sm _ _ (oV hd eo)] at q;cases q
    ·rw [gH hd];exact q
end
section
variable {X:Cx}
def aRo (X:Cx) (iy:Nat) (P:Addr) (g x y:Str) (sp:Sp) (t:TA):TE:=fun σ H Q=>t σ H fun vs H1=>∃z,σ[iy]?=some (some z)∧H1 P=some (.tab (X.env.qual++"<lambda>")) ∧
 ∀f H2,vU H2 f (X.env.qual++"<lambda>") g x y z→(∀a xs,SqT X.K H1 a xs→SqT X.K H2 a xs)→sp (vs++[.ref f]) H2 (fun r H3=>Same H2 H3∧∀H4,Same H1 H4→Q r H4) E0
theorem aJl {fn g x y:Str} {p pos lpos:Pos} {e1 e2 e3:Expr} {te1 te2 te3:TE} {params:Arguments} {body:Expr} {scope:Scope} {iy k:Nat} {c P cp fa:Addr} {fd:FuncData} {ps:List Str} {sp:Sp}
  (F:fV X.prog X.w X.K X.mg X.base CX0 k fa fd ps sp) (hr:Room k X.A) (hgl:Gl X fn) (hm:X.mg fn=some (.ref fa)) (hk:PySem.W.keepIn X.K (.ref fa)=true) (hb:Binds X.K fd ps [])
  (h1:PE X e1 te1) (h2:PE X e2 te2) (h3:PE X e3 te3)
  (hcode:X.env.code=.ref c) (CH:PySem.W.CodeHd X.base c P) (hbm:BM X.mg X.base) (S:aXj (X.env.qual++"<lambda>") g x y params body scope) (hN:X.N[iy]?=some y) (hyc:X.env.kindOf y=some .cell) (hcp:X.env.cells.lookup y=some cp) (hfn:X.fn y=true) (hcl:closureFor scope X.env=pure [(y,cp)]) (hdef:defaultsOf params X.env=([],[]))
  (hdb:(fn == ("__debug__":Str))=false:=by decide)
  (he1:starEach [e1,e2,e3,.Lambda params body scope lpos] X.env=[(false,eval e1 X.env),(false,eval e2 X.env),(false,eval e3 X.env),(false,eval (.Lambda params body scope lpos) X.env)]:=by rfl)
  (he2:starEach [e2,e3,.Lambda params body scope lpos] X.env=[(false,eval e2 X.env),(false,eval e3 X.env),(false,eval (.Lambda params body scope lpos) X.env)]:=by rfl) :
  PE X (.Call (.Name fn p) [e1,e2,e3,.Lambda params body scope lpos] [] pos) (aRo X iy P g x y sp (dR te1 (dR te2 (dR te3 aBw)))):=by
 intro bEP s σ H Q I h;refine bBE (nY I hgl hm ?_ hdb);refine PySem.W.callWith_K (h₀:=X.base) I.ok.mod.kin hk ?_ (by rw [he1,he2]) (by rw [he2];rfl);rw [he1];refine bBU (thn (h1 bEP s σ H _ I h) fun u1 s1 ⟨v1,H1,I1,r1,q1⟩=>?_);refine bBU (thn (h2 bEP s1 σ H1 _ I1 q1) fun u2 s2 ⟨v2,H2,I2,r2,q2⟩=>?_);refine bBU (thn (h3 bEP s2 σ H2 _ I2 q2) fun u3 s3 ⟨v3,H3,I3,r3,q3⟩=>?_);obtain ⟨z,hz,hP,q⟩:=q3;refine bBU (aPg I3 hcode CH hP hbm hcl hdef fun f c' pm ctv H' h' tk I4 s4 hsz hf hc' hP' ef ecd=>bDN ⟨I4.kIn,?_⟩);generalize hs4:({ s3 with heap:=h',toks:=tk }:Shared)=s4' at I4;have hh:s4'.heap=h':=by rw [←hs4]
 rw [←hh] at ef ecd;obtain ⟨m,hn,hl⟩:=I4.loc;obtain ⟨u,ru,lk⟩:=hl iy y z hN hz (.inr (.inl hyc));have hcell:s4'.heap.IsCell cp (some u):=by
  rcases lk with ⟨k',_⟩|⟨_,c2,e,hc⟩
  ·rw [hyc] at k';cases k'
  ·rw [hcp] at e;cases e;exact hc
 obtain ⟨ol,eol,dol⟩:=id hcell;obtain ⟨c2,oc,vs,t,ec2,eoc,doc,hv⟩:=ecd;cases ec2;have hcpn:H' cp=none:=I4.freeC y cp hcp;obtain ⟨v0,ov,eov,_⟩:=I3.cell y cp hcp;have ltf:cp<f:=bAA (j8 eov) hsz;have PO:aAh X H' s4'.heap (fun b=>b=f∨b=cp∨b=P∨H' b=some (.own P)):=by
  refine ⟨fun b hb=>?_,fun d a o ha eo ed hd=>?_,fun d a o ha eo=>?_,fun d xs e hd=>?_,fun d o u e hd=>?_,fun d ps e hd=>?_,fun b o e hd=>?_,fun b hb hd=>?_⟩
  ·rcases hb with rfl|rfl|rfl|hb
   ·exact ⟨_,ef⟩
   ·exact ⟨_,eol⟩
   ·obtain ⟨ps,e,_⟩:=I4.hok _ _ hP';exact ⟨_,e⟩
   ·exact I4.hok _ _ hb
  ·rcases hd with rfl|rfl|rfl|hd
   ·rw [hf] at ed;cases ed
   ·rw [hcpn] at ed;cases ed
   ·rw [hP'] at ed;cases ed
   ·rw [hd] at ed;cases ed;exact ha (.inr (.inr (.inl rfl)))
  ·rcases ha with rfl|rfl|rfl|ha
   ·rw [hf] at eo;cases eo
   ·rw [hcpn] at eo;cases eo
   ·exact .inr fun q=>.inr (.inr (.inr q))
   ·rw [ha] at eo;cases eo;exact .inl ⟨_,rfl⟩
  ·rcases hd with rfl|rfl|rfl|hd
   ·rw [hf] at e;cases e
   ·rw [hcpn] at e;cases e
   ·rw [hP'] at e;cases e
   ·rw [hd] at e;cases e
  ·rcases hd with rfl|rfl|rfl|hd
   ·rw [hf] at e;cases e
   ·rw [hcpn] at e;cases e
   ·rw [hP'] at e;cases e
   ·rw [hd] at e;cases e
  ·rcases hd with rfl|rfl|rfl|hd
   ·rw [hf] at e;cases e
   ·rw [hcpn] at e;cases e
   ·rw [hP'] at e;cases e
   ·rw [hd] at e;cases e
  ·have hbn:=(I4.bs b o e).2;have hlt:b<X.s₀.heap.objs.size:=bAA (j8 e) I.ok.bsz;rcases hd with rfl|rfl|rfl|hd
   ·exact absurd (bAA hlt (bAR I3.sz hsz)) (bBI _)
   ·exact absurd (bAA hlt (I.ok.cab y _ hfn hcp)) (bBI _)
   ·rw [hP'] at hbn;cases hbn
   ·rw [hd] at hbn;cases hbn
  ·have hbn:=I4.rJ b hb;rcases hd with rfl|rfl|rfl|hd
   ·obtain ⟨_,o,eo,_⟩:=I3.stack.mem hb;exact absurd (bAA (j8 eo) hsz) (bBI _)
   ·rcases List.mem_cons.mp (I4.aFx _ hb) with e|hb'
    ·obtain ⟨o,es,ep,eo,ed,_⟩:=hn;rw [←e,eol] at eo;cases eo;rw [dol] at ed;cases ed
    ·obtain ⟨_,o,eo,_⟩:=I.ok.funs.mem hb';exact absurd (bAA (j8 eo) (I.ok.cab y _ hfn hcp)) (bBI _)
   ·rw [hP'] at hbn;cases hbn
   ·rw [hd] at hbn;cases hbn
 have LA:vU (aCh (fun b=>b=f∨b=cp∨b=P∨H' b=some (.own P)) s4'.heap H') f (X.env.qual++"<lambda>") g x y z:=
  ⟨params,body,scope,cp,c',pm,ctv,oc,ol,u,vs,t,S,oV (.inl rfl) ef,oV (.inr (.inl rfl)) eol,fun h e=>⟨ol,e,dol⟩,ru,oV (.inr (.inr (.inr hc'))) eoc,doc,hv⟩
 have hq:=q f _ LA fun b xs e=>by
  rcases s4.aV e with (e|⟨ob,e⟩)|e
  ·exact .inl (.inl (by rw [dF (PO.tup b xs e)];exact e))
  ·exact .inl (.inr ⟨ob,by rw [dF (PO.frz b ob _ e)];exact e⟩)
  ·exact .inr e
 have r:Vals [v1,v2,v3,.ref f] [u1,u2,u3,.ref f]:=.cons r1 (.cons r2 (.cons r3 (.cons rfl .nil)));have hlen:([u1,u2,u3,Value.ref f]++([]:List Value)).length=ps.length:=by rw [bBF,←r.length];exact F.len _ _ _ _ hq
 refine bCQ (bBM (F.run X.A X.stack s4' (aCh (fun b=>b=f∨b=cp∨b=P∨H' b=some (.own P)) s4'.heap H') ⟨[u1,u2,u3,.ref f],[]⟩ [u1,u2,u3,.ref f] [v1,v2,v3,.ref f] _ E0 hr (PO.env0 I4) (by simpa using hb s4' [u1,u2,u3,.ref f] I4.kIn hlen) r hq) fun rr s' hq'=>?_);cases rr with
 |error e=>exact hq'.elim
 |ok fl=>
  cases fl with
  |next=>exact False.elim hq'
  |brk=>exact False.elim hq'
  |cont=>exact False.elim hq'
  |ret uu=>obtain ⟨v',Z,os,bare,un,hok,rel,sm,qq⟩:=hq';exact PO.after I4 ⟨v',Z,os,bare,un,hok,rel,sm,fun H4 s5=>qq H4 (s4.trans s5)⟩
theorem aNo {n:Str} {p pos:Pos} {e:Expr} {es:List Expr} {te:TE} {t:TA} {P:Program} {w:World} {K:bEL} {mg:bEO} {base:Heap} {k:Nat} (hr:Room (k+1) X.A) (hf:VE X (.Name n p) te) (ha:VA X (e::es) t) (hp:cU e=true:=by rfl) (hpl:(backTo pos (starEach es X.env)).any (·.1)=false:=by rfl)
  (h1:X.prog=P:=by rfl) (h2:X.w=w:=by rfl) (h3:X.K=K:=by rfl) (h4:X.mg=mg:=by rfl) (h5:X.base=base:=by rfl) :
  VE X (.Call (.Name n p) (e::es) [] pos) (aQ1 P w K mg base k te t):=by
 subst h1 h2 h3 h4 h5;exact ⟨aPx hr hf.1 ha.1 (aN hp) hpl⟩
theorem aJx {fn g x y:Str} {p pos lpos:Pos} {e1 e2 e3:Expr} {te1 te2 te3:TE} {params:Arguments} {body:Expr} {scope:Scope} {iy k:Nat} {c P cp:Addr} {ps:List Str} {sp:Sp}
  (G:Ok X.prog X.w X.K X.mg X.base k fn ps sp) (hr:Room k X.A) (hgl:Gl X fn) (h1:VE X e1 te1) (h2:VE X e2 te2) (h3:VE X e3 te3)
  (hcode:X.env.code=.ref c) (CH:PySem.W.CodeHd X.base c P) (hbm:BM X.mg X.base) (S:aXj (X.env.qual++"<lambda>") g x y params body scope) (hN:X.N[iy]?=some y) (hyc:X.env.kindOf y=some .cell) (hcp:X.env.cells.lookup y=some cp) (hfn:X.fn y=true) (hcl:closureFor scope X.env=pure [(y,cp)]) (hdef:defaultsOf params X.env=([],[]))
  (hp1:cU e1=true:=by rfl) (hp2:cU e2=true:=by rfl) (hp3:cU e3=true:=by rfl) (hdb:(fn == ("__debug__":Str))=false:=by decide)
  (hl:starEach [.Lambda params body scope lpos] X.env=[(false,eval (.Lambda params body scope lpos) X.env)]:=by rfl) :
  VE X (.Call (.Name fn p) [e1,e2,e3,.Lambda params body scope lpos] [] pos) (aRo X iy P g x y sp (dR te1 (dR te2 (dR te3 aBw)))):=by
 obtain ⟨fa,fd,g1,g2,g3,g4⟩:=G;refine ⟨aJl g4 hr hgl g1 g2 g3 h1.1 h2.1 h3.1 hcode CH hbm S hN hyc hcp hfn hcl hdef hdb ?_ ?_⟩
 ·rw [aN hp1,aN hp2,aN hp3,hl]
 ·rw [aN hp2,aN hp3,hl]
end
end L2
namespace HT
open PySem PySem.Spec PyProof.Rows L2
section
variable {prog:Program} {w:World} {A:Around} {E:bEM} {s:Shared}
theorem rY {t sl:Addr} {items:Array Value} {vl vu:Value} {lo hi:Option Int} {Q:bEM} (ht:IsTup s.heap t items) (hs:s.heap.IsSliceOf sl vl vu .none) (pl:IsPart vl lo) (pu:IsPart vu hi)
  (hw:sIx items.size 0 lo=0∧sIx items.size items.size hi=items.size) (h:Q (.ref t) s):wpAny (model prog w) A (getItem (.ref t) (.ref sl)) Q E s:=by
 obtain ⟨os,hos,hcs,hds⟩:=id hs;have hTs:s.TypeIs (.ref sl) "slice":=⟨os,hos,hcs⟩;obtain ⟨⟨cls,dd,data,slt⟩,ho,hc,n,hd⟩:=id ht;simp only at hc hd;subst hc hd;unfold getItem
 try with_reducible refine bAV ?_
 first|refine c7 (j4 ?_)|skip
 refine c7 (wpAny_sequenceKey ht.typeIs (by decide) ?_);refine c7 (bAH (name:=Str.ofString "__getitem__") ht.typeIs bB3
  (bAI bB3 ht.typeIs entry_tuple_getitem ?_ (args_tuple_getitem _ _)))
 show wpAny _ _ (Builtin.Tuple.tupleItemsOf (.ref t) >>= _) _ _ s;refine c7 (tupleItemsOf_ ht ?_);refine c7 (bDO hTs ?_);rw [if_pos (by decide)];refine c7 (mX hs pl pu ?_);have hyes:((((sIx items.size 0 lo:Nat):Int) == 0 && (1:Int) == 1 && (sIx items.size items.size hi - sIx items.size 0 lo) == items.size)=true):=by rw [hw.1,hw.2];simp
 show wpAny _ _ (if (((sIx items.size 0 lo:Nat):Int) == 0 && (1:Int) == 1 && (sIx items.size items.size hi - sIx items.size 0 lo) == items.size)=true then _ else _) _ _ s;rw [if_pos hyes];obtain ⟨hp,g,d,tk,os'⟩:=s;wp_walk using AutoSeq1.wpAny_loadPart' ho;exact ⟨_,rfl,j4 h⟩
end
end HT
namespace L2
open PySem PySem.Spec PyProof.Rows
def bAt (K:bEL):V→Option Int→Option Int→Hp→VK→Prop:=fun x lo hi H Q=>∃a xs,x=.ref a∧SqT K H a xs∧∀p H',Same H H'→SqT K H' p (pJ xs lo hi)→Q (.ref p) H'
theorem rO {X:Cx}:SlR X (bAt X.K):=by
 intro bEP s σ H x v vl vu lo hi sl Q I rx hs pl pu h;obtain ⟨a,xs,rfl,hx,q⟩:=h;by_cases hw:HT.sIx xs.length 0 lo=0∧HT.sIx xs.length xs.length hi=xs.length
 ·cases rx;obtain ⟨its,r,ht,hz⟩:=I.tuple hx;have hlen:its.toArray.size=xs.length:=by rw [j9];exact r.length.symm
  refine ⟨"tuple",_,PyProof.Rows.slot_tuple_getitem.lookup,ht.typeIs,?_⟩;refine HT.rY ht hs pl pu (by rw [hlen];exact hw) ⟨.ref a,H,I,rfl,q a H (Same.refl H) ?_⟩;have e:pJ xs lo hi=xs:=by unfold pJ;rw [hw.1,hw.2,List.drop_zero,Nat.sub_zero,bB8]
  rw [e];exact hx
 ·exact aD8 bEP s σ H _ v vl vu lo hi sl Q I rx hs pl pu ⟨a,xs,rfl,hx,hw,fun p H' s' g'=>q p H' s' (SqT.of g')⟩
end L2
namespace L2
open PySem PySem.Spec PyProof.Rows
section
variable {X:Cx}
end
inductive PH (P:Program) (w:World):List DictEntry→List (Str × Value)→Prop
 |nil:PH P w [] []
 |cons {e:DictEntry} {kv:Str × Value} {es:List DictEntry} {kvs:List (Str × Value)}:(strKind P w).is kv.1 e.key=true→e.hash=(strKind P w).hash kv.1→e.val=kv.2→PH P w es kvs→PH P w (e::es) (kv::kvs)
end L2
namespace PySem
theorem yQ:typeLookup (.type "tuple") "keys"=pure none:=am_miss_of_fast (by decide +kernel)
theorem aBl:typeLookup (.type "list") "keys"=pure none:=am_miss_of_fast (by decide +kernel)
section
variable {prog:Program} {w:World} {A:Around} {E:bEM} {s:Shared}
theorem aFb {a:Addr} {o:Obj} {xs:Array Value} {k:Nat} {Q:Option Value→Shared→Prop} (hx:s.heap.get? a=some o) (hc:o.cls=.type "tuple") (hdat:o.data=.seq xs k) (hd:o.dict=none) (hA:A.handled=none)
  (h:∀h' tk,(∀b u,s.heap.get? b=some u→h'.get? b=some u)→Q none { s with heap:=h',toks:=tk }):wpAny (model prog w) A (getAttr? (.ref a) "keys") Q E s:=by
 obtain ⟨c,dct,dat,sl⟩:=o;simp only at hc hdat hd;subst hc hdat hd;obtain ⟨hp,g,d,tk,os⟩:=s;have hT:∀tk',(⟨hp,g,d,tk',os⟩:Shared).TypeIs (.ref a) "tuple":=fun _=>⟨_,hx,rfl⟩;have f1:=sub_AttributeError;have f3:=F.slot_tuple_getattribute.lookup;have f4:=F.slot_tuple_getattribute.bind (.ref a);have f5:=am_tuple_getattr_none;unfold getAttr? getAttrBy? getAttrBy
 repeat (any_goals (first|assumption|exact hT _|((with_reducible show wpAny _ _ (call (Value.builtin "tuple.__getattribute__") _ _) _ _ _);refine call_meets F.slot_tuple_getattribute (hT _) am_entry_tuple_getattribute (F.args_tuple_getattribute_2 _ _) (meets_getattribute_miss_tuple a xs k sl "keys" _ yQ (by decide +kernel) (by size_fits)) ⟨hx,hA,fun h' tk' e hx'=>?_⟩)|wp_step))
 obtain ⟨t',u',he⟩:=hx'.there;show wpAny _ _ (getattributeRaised _ _ _ _ _ _ _) _ _ _;unfold getattributeRaised
 repeat (any_goals (first|assumption|wp_step))
 exact h _ _ hx'.keeps
end
end PySem
namespace PySem
theorem gO:entryFor table "dict.update.loop"=some Builtin.«dict.update.loop»:=entryFor_of_tree (by kernel_rfl)
theorem cD:plainId "dict.update.loop"=true:=by decide +kernel
section
variable {prog:Program} {w:World} {κ:Type} [DecidableEq κ] {knd:KeyKind prog w κ}
def pZ (knd:KeyKind prog w κ) (h:Heap) (v:Value) (kv:κ × Value):Prop:=∃p key,v=.ref p∧PyProof.Rows.IsTup h p #[key,kv.2]∧knd.is kv.1 key=true
theorem pZ.at {h h':Heap} {v:Value} {kv:κ × Value} (x:pZ knd h v kv) (k:∀p,v=.ref p→∀o,h.get? p=some o→h'.get? p=some o):pZ knd h' v kv:=by obtain ⟨p,key,rfl,⟨o,ho,r⟩,hk⟩:=x;exact ⟨p,key,rfl,⟨o,k p rfl o ho,r⟩,hk⟩
theorem pG {A:Around} {R:Result→Shared→Prop} {I:Addr} {fp wr:List Addr} {n:Nat} {P:Nat→Value→Prop} {St:Nat→Heap→Prop} (W:Walks prog w A.in1 I fp wr n P St) (D:Addr) (hD:D∉fp)
  (kvs:List (κ × Value)) (hlen:kvs.length=n) (hb:n≤1000) (hP:∀i v,P i v→∀p,v=.ref p→p∉D::wr) :
  ∀(k i:Nat) (s:Shared) (t:Tok),i+k=n→St i s.heap→s.heap.DictOf knd D (merged [] (kvs.take i))→(∀j v kv,P j v→kvs[j]?=some kv→pZ knd s.heap v kv) →
   (∀h' tk,(∀b o,b∉D::wr→s.heap.get? b=some o→h'.get? b=some o)→h'.DictOf knd D (merged [] kvs)→R (.ok (.ret .none)) { s with heap:=h',toks:=tk }) →
   codeAny (model prog w) A (.builtin "dict.update.loop" ⟨[.ref D,.ref I,.int (i:Nat) t,.none],[]⟩) R s:=by
 have hDw:D∉wr:=fun q=>hD (W.sub _ q);intro k
 induction k with
 |zero=>
  intro i s t hi st hd hp q;obtain rfl:i=n:=by lia
  refine bBG gO ?_;rw [bBD cD _];show wpAny _ A.in1 (pyNext (.ref I) >>= _) _ _ _;refine c7 (W.done s _ _ st fun h' tk kp=>?_);show wpAny _ _ (Builtin.Dict.addKeywords D [] >>= _) _ _ _;refine c7 (j4 (j4 (q h' tk (fun b o nb e=>kp b o (fun z=>nb (m8 _ z)) e) ?_)));rw [bAW (bEA hlen)] at hd;exact hd.at fun o e=>kp D o hDw e
 |succ k ih=>
  intro i s t hi st hd hp q;refine bBG gO ?_;rw [bBD cD _];show wpAny _ A.in1 (pyNext (.ref I) >>= _) _ _ _;refine c7 (W.item i s _ _ (by lia) st fun v h1 tk1 hv st1 kp1=>?_);have hlt:i<kvs.length:=by lia
  have hkv:=j0 hlt;have hd1:h1.DictOf knd D (merged [] (kvs.take i)):=hd.at fun o e=>kp1 D o hDw e;have hp1:∀j v kv,P j v→kvs[j]?=some kv→pZ knd h1 v kv:=fun j v kv pj e=>(hp j v kv pj e).at fun p ev o eo=>kp1 p o (fun z=>hP j v pj p ev (m8 _ z)) eo;obtain ⟨p,key,rfl,⟨⟨oc,od,ox,osl⟩,ho,hc,m,hx⟩,hk⟩:=hp1 i v _ hv hkv;simp only at hc hx;subst hc hx;have hml:(merged [] (kvs.take i)).length≤i:=by have:=merged_length_le [] (kvs.take i);rw [bAE] at this;simp only [bBH] at this;lia
  obtain ⟨hp0,g,d,tk,os⟩:=s;have hT:(⟨h1,g,d,tk1,os⟩:Shared).TypeIs (.ref p) "tuple":=⟨_,ho,rfl⟩;have hpi:∀(Q:List Value→Shared→Prop) (E:bEM),Q [key,kvs[i].2] ⟨h1,g,d,tk1,os⟩→wpAny (model prog w) A.in1 (Builtin.Dict.pairItems (.ref p)) Q E ⟨h1,g,d,tk1,os⟩:=by intro Q E h;unfold Builtin.Dict.pairItems;wp_walk;exact h
  show wpAny _ A.in1 (holding [.ref p] _ >>= _) _ _ ⟨h1,g,d,tk1,os⟩;refine c7 (bAV (c7 (wpAny_tryCatch (hpi _ _ ?_))));show wpAny _ A.in1 (holding [key,kvs[i].2] (dictSet D key kvs[i].2)) _ _ ⟨h1,g,d,tk1,os⟩;refine bAV (wpAny_dictSet_pairs (s:=⟨h1,g,d,tk1,os⟩) hk hd1 (fun h2 hd2 sb2=>?_) (bAR hml (bAR (by lia) (show 1000≤sizeLine by decide))));have e1:merged [] (kvs.take (i+1))=stored (merged [] (kvs.take i)) kvs[i].1 kvs[i].2:=merged_take_succ [] kvs i _ hkv;rw [←e1] at hd2;refine j4 ⟨bCI cD _,?_⟩;have kp2:∀b o,b∉D::wr→hp0.get? b=some o→h2.get? b=some o:=fun b o nb e=>by rw [sb2.2 b (fun z=>nb (by rw [z];exact t6))];exact kp1 b o (fun z=>nb (m8 _ z)) e
  refine ih (i+1) _ _ (by lia) (W.frame _ _ _ st1 fun b hb o e=>?_) hd2 (fun j v kv pj e=>(hp1 j v kv pj e).at fun p' ev o eo=>?_) fun h' tk' kp hd'=>q h' tk' (fun b o nb e=>kp b o nb (kp2 b o nb e)) hd'
  ·rw [sb2.2 b (fun z=>hD (by rw [←z];exact hb))];exact e
  ·rw [sb2.2 p' (fun z=>hP j v pj p' ev (by rw [z];exact t6))];exact eo
end
end PySem
namespace PySem
section
variable {prog:Program} {w:World} {κ:Type} [DecidableEq κ] {knd:KeyKind prog w κ} {A:Around} {E:bEM} {s:Shared}
theorem yJ {t:Addr} {its:Array Value} {kvs:List (κ × Value)} {Q:bEM} (hh:A.handled=none) (ht:PyProof.Rows.IsTup s.heap t its) (hd:∀o,s.heap.get? t=some o→o.dict=none) (hlen:kvs.length=its.size) (hb:its.size≤1000)
  (hp:∀(j:Nat) (v:Value) (kv:κ × Value),its[j]?=some v→kvs[j]?=some kv→pZ knd s.heap v kv)
  (q:∀h' tk,h'.DictOf knd s.heap.objs.size (merged [] kvs)→(∀b o,s.heap.get? b=some o→h'.get? b=some o)→Q (.ref s.heap.objs.size) { s with heap:=h',toks:=tk }) :
  wpAny (model prog w) A (call (.type "dict") [.ref t]) Q E s:=by
 refine callType_codes (Q₁:=fun obj s₁=>obj=.ref s.heap.objs.size∧s₁={ s with heap:=s.heap.push { cls:=.type "dict",data:=.dict #[] } }) F.kt_called_dict (F.kt_typeCall_dict_1 _) F.entry_dict_init (kt_code_dict_new _ ⟨rfl,rfl⟩) ?_;rintro obj s₁ ⟨rfl,rfl⟩;have hnew:(s.heap.push { cls:=.type "dict",data:=.dict #[] }).DictOf knd s.heap.objs.size []:=Heap.DictOf.new s.heap;obtain ⟨o,ho,hc,n,hx⟩:=id ht;have hod:=hd o ho;have ho1:(s.heap.push { cls:=.type "dict",data:=.dict #[] }).get? t=some o:=d9 _ ho;have hT:Shared.TypeIs { s with heap:=s.heap.push { cls:=.type "dict",data:=.dict #[] } } (.ref t) "tuple":=⟨o,ho1,hc⟩;have hlt:t<s.heap.objs.size:=j8 ho;refine ⟨hnew.typeIs,F.args_dict_init_2 _ _,?_⟩;unfold Builtin.«dict.__init__»;refine c7 ?_;unfold Builtin.Dict.selfAndRest;refine c7 (bDU hnew.typeIs ?_);show wpAny _ _ (pure (s.heap.objs.size,[Value.ref t])) _ _ _;refine j4 ?_;show wpAny _ _ (Builtin.Dict.updateFrom "dict.__init__" s.heap.objs.size (.ref t) [] .none) _ _ _;unfold Builtin.Dict.updateFrom;refine c7 (bDO hT ?_);rw [if_pos (by decide)];refine c7 (aFb ho1 hc hx hod (by first|exact hh|simp [hh]) fun h2 tk2 kp2=>?_);rw [if_pos (show (none:Option Value).isNone=true from rfl)];have ho2:h2.get? t=some o:=kp2 _ _ ho1;have ht2:h2.IsTuple t its:=⟨o,ho2,hc,n,hx⟩;refine c7 (bCM (c7 (bDI ht2 ?_)));have hs1:(s.heap.push { cls:=.type "dict",data:=.dict #[] }).objs.size=s.heap.objs.size+1:=bAT ..;have hs2:s.heap.objs.size<h2.objs.size:=by obtain ⟨od,_,_,hg,_⟩:=id hnew;exact j8 (kp2 _ _ hg)
 refine j4 ⟨bCI cD _,?_⟩;have hne:t≠h2.objs.size:=m9 (bCO hlt hs2);refine pG (knd:=knd) (Walks.tuple (by first|exact hh|simp [hh]) _ t hne its) s.heap.objs.size ?_ kvs hlen hb ?_ its.size 0 _ _ (by lia) ⟨⟨_,j5 _ rfl,rfl,rfl⟩,ht2.push _⟩ ?_ ?_ fun h' tk kp hd'=>?_
 ·simp only [bAB,v6,or_false,not_or];exact ⟨m9 hs2,bBL hlt⟩
 ·intro j v e p ev;have hj:j<kvs.length:=by rw [hlen];exact (Array.getElem?_eq_some_iff.mp e).1
  obtain ⟨p',key,ev',⟨o',ho',_⟩,_⟩:=hp j v _ e (j0 hj);rw [ev] at ev';cases ev';have:=j8 ho';simp only [bAB,v6,or_false,not_or];exact ⟨m9 this,m9 (bCO this hs2)⟩
 ·exact (hnew.at fun o e=>kp2 _ _ e).at fun o e=>d9 _ e
 ·intro j v kv e ek;exact (hp j v kv e ek).at fun p _ o eo=>d9 _ (kp2 _ _ (d9 _ eo))
 ·refine ⟨rfl,q h' tk hd' fun b o e=>kp b o ?_ (d9 _ (kp2 _ _ (d9 _ e)))⟩;have:=j8 e;simp only [bAB,v6,or_false,not_or];exact ⟨m9 this,m9 (bCO this hs2)⟩
end
end PySem
namespace PySem
open PySem.Calls PyProof.Rows
section
variable {prog:Program} {w:World} {κ:Type} [DecidableEq κ] {knd:PySem.KeyKind prog w κ} {A:Around} {E:bEM} {s:Shared}
end
end PySem
namespace L2
open PySem PySem.Spec PyProof.Rows
section
variable {X:Cx}
abbrev aIm (K:bEL) (H:Hp):List V→List (Key × V)→Prop:=Paired fun u kv=>∃p,u=.ref p∧SqT K H p [kV kv.1,kv.2]
theorem aRi {bEP:bEN} {σ:L2.St} {H:Hp} {s:Shared} (I:Inv X bEP σ H s) {us:List V} {kvs:List (Key × V)} (h:aIm X.K H us kvs):∀{its:List Value},Vals us its →
  ∃vs:List (Key × Value),KV kvs vs∧vs.length=its.length∧∀(j:Nat) (v:Value) (kv:Key × Value),its[j]?=some v→vs[j]?=some kv→pZ (bL X.prog X.w) s.heap v kv:=by
 induction h with
 |nil=>intro its hv;cases hv;exact ⟨[],.nil,rfl,fun j v kv e _=>by simp at e⟩
 |@cons u kv us kvs r t ih=>
  intro its hv;cases hv with
  |cons q z=>
   obtain ⟨p,rfl,hp⟩:=r;cases q;obtain ⟨ks,rv,pl,hz⟩:=I.tuple hp;obtain ⟨vs,h1,h2,h3⟩:=ih z;obtain ⟨key,val,rfl,rk,rx⟩:=vals2 rv;refine ⟨(kv.1,val)::vs,.cons ⟨rfl,rx⟩ h1,by rw [t7,t7,h2],fun j v kv' e e'=>?_⟩;cases j with
   |zero=>cases e;cases e';exact ⟨p,key,rfl,pl,xT rk⟩
   |succ j=>exact h3 j v kv' (by simpa using e) (by simpa using e')
def aYy (K:bEL):List V→Hp→VK→Prop:=fun xs H Q=>∃t us kvs,xs=[.ref t]∧SqT K H t us∧aIm K H us kvs∧us.length≤1000∧∀p H',H p=none→Same H H'→H' p=some (.dK (iY [] kvs))→Q (.ref p) H'
theorem zU (hc:X.calm=true):cJ X (.type "dict") (aYy X.K):=by intro bEP s σ H xs us Q I r h;obtain ⟨t,us,kvs,rfl,ht,hp,hl,q⟩:=h;obtain ⟨u,rfl,ru⟩:=vals1 r;cases ru;obtain ⟨its,rv,⟨tp,nd⟩,hz⟩:=I.bAs ht;have e1:=rv.length;obtain ⟨vs,h1,h2,h3⟩:=aRi I hp rv;have lk:=KV.length h1;refine yJ (knd:=bL X.prog X.w) (kvs:=vs) (I.ok.hd hc) tp nd (by rw [j9];exact h2) (by rw [j9];lia) (fun j v kv e e'=>h3 j v kv (by simpa using e) e') fun h' tk hd kp=>?_;have hf:H s.heap.objs.size=none:=I.hok.fresh (j6 _);refine ⟨.ref s.heap.objs.size,_,I.laid (t':=tk) (o:=.dK (iY [] kvs)) kp (j6 _) ?_,rfl,q _ _ hf (aX hf _) aH⟩;have lm:=jJ kvs [];simp only [bBH] at lm;exact ⟨small (by lia),beq_eq_false_iff_ne.mpr (Ne.symm (m9 I.big)),_,KV.merge h1 .nil,hd⟩
theorem nU:∀(kvs acc:List (Key × V)),((acc++kvs).map (·.1)).Nodup→iY acc kvs=acc++kvs
 |[],acc,_=>by simp [iY]
 |kv::r,acc,h=>by
  have hn:pX acc kv.1=none:=by
   cases e:pX acc kv.1 with
   |none=>rfl
   |some v=>exfalso;have:=aUv e;rw [bA5,List.nodup_append] at h;exact h.2.2 _ this _ (by rw [bAN];exact t6 ..) rfl
  show iY (putK acc kv.1 kv.2) r=_;rw [aPs _ hn,nU r _ (by rw [bCC];exact h),bCC];rfl
end
section
variable {X:Cx} {e st:Expr} {te ts:TE} {pos p2:Pos}
end
section
variable {X:Cx} {o i value:Expr} {td ty tv:TE} {pos pos':Pos}
theorem aMz (hu:X.A.units+1<cLine) (ho:VE X o td) (hi:VE X i ty) (hv:VE X value tv) (hs:swapsWith value (some (.Subscript o i pos')) pos.line X.env=pure false:=by rfl):VS X (.Assign [.Subscript o i pos'] value pos) (aV1 td ty tv):=⟨aUq hu ho.1 hi.1 hv.1 hs⟩
end
theorem aQu {X:Cx} {pos:Pos} {o i:Expr} {to ti:TE} {t:aVs} (ho:VE X o to) (hi:VE X i ti) (hs:aW9 X t)
  (ha:∀v,assign (.Subscript o i pos) X.env v=(do
   let ov ←holding [v] (eval o X.env)
   let iv ←holding [v,ov] (eval i X.env)
   standAt pos
   holding [v,ov,iv] (setItem ov iv v)
   release [v,ov,iv] []):=by intro _;rfl):VG X (.Subscript o i pos) (aY8 to ti t):=⟨aW8 ho.1 hi.1 hs ha⟩
theorem aGr {X:Cx}:MtR X "list.reverse" aG9:=aK4
end L2
namespace PySem
abbrev pI (t:Addr) (i:Nat):Obj:={ cls:=.type "list_iterator",data:=.fields #[.ref t,.int (i:Int) 0] }
section
variable {prog:Program} {w:World} {A:Around} {E:bEM} {s:Shared}
theorem tX {it t:Addr} {i:Nat} {its:Array Value} {x:Value} {Q:bEM} (ho:s.heap.get? it=some (pI t i)) (ht:s.heap.IsList t its) (hx:its[i]?=some x)
  (q:∀h',h'.get? it=some (pI t (i+1))→Heap.SameBut it s.heap h'→Q x { s with heap:=h' }):wpAny (model prog w) A (Builtin.SmallTypes.nextOf (.ref it)) Q E s:=by
 have hT:s.TypeIs (.ref it) "list_iterator":=⟨_,ho,rfl⟩;obtain ⟨ol,hol,_,nl,hdl⟩:=ht;unfold Builtin.SmallTypes.nextOf;refine c7 (bAH (name:=Str.ofString "__next__") hT slot_listiter_next (bAI slot_listiter_next hT entry_listiter_next ?_ (args_listiter_next _)));refine c7 (m:=field (.ref it) 0) (bAG ho rfl (x:=.ref t) rfl ?_);refine (if_neg (show ¬ ((Value.ref t == Value.none)=true) from v4)).symm ▸ ?_;refine c7 (m:=field (.ref it) 1) (bAG ho rfl (x:=.int i 0) rfl ?_);refine c7 (m:=seqItems? (.ref t)) (bAX hol hdl ?_);simp only [bAY,hx];refine c7 (bBQ ho rfl (by simp) (j4 ⟨x,rfl,j4 (q _ ?_ (bBJ ..))⟩));exact bAU _ ho rfl
end
section
variable {prog:Program} {w:World} {κ:Type} [DecidableEq κ] {knd:KeyKind prog w κ}
end
end PySem
namespace PySem
section
variable {prog:Program} {w:World} {A:Around} {E:bEM} {s:Shared}
end
section
variable {prog:Program} {w:World} {κ:Type} [DecidableEq κ] {knd:KeyKind prog w κ} {A:Around} {E:bEM} {s:Shared}
end
end PySem
namespace L2
open PySem PySem.Spec PyProof.Rows
section
variable {X:Cx} {a b:Expr} {ta:TA} {pos p pos2 p2:Pos}
end
end L2
namespace PySem
section
variable {prog:Program} {w:World} {A:Around} {E:bEM} {s:Shared}
theorem pM {it t:Addr} {i:Nat} {its:Array Value} {Q:bEM} (hh:A.handled=none) (ho:s.heap.get? it=some (pI t i)) (ht:s.heap.IsList t its) (hx:its[i]?=none)
  (q:∀h' e,Heap.ExtBut it s.heap h'→(∃o,h'.get? e=some o∧o.cls=.type "StopIteration")→E (.ref e) { s with heap:=h' }):wpAny (model prog w) A (Builtin.SmallTypes.nextOf (.ref it)) Q E s:=by
 have hT:s.TypeIs (.ref it) "list_iterator":=⟨_,ho,rfl⟩;obtain ⟨ol,hol,_,nl,hdl⟩:=ht;unfold Builtin.SmallTypes.nextOf;refine c7 (bAH (name:=Str.ofString "__next__") hT slot_listiter_next (bAI slot_listiter_next hT entry_listiter_next ?_ (args_listiter_next _)));refine c7 (m:=field (.ref it) 0) (bAG ho rfl (x:=.ref t) rfl ?_);refine (if_neg (show ¬ ((Value.ref t == Value.none)=true) from v4)).symm ▸ ?_;refine c7 (m:=field (.ref it) 1) (bAG ho rfl (x:=.int i 0) rfl ?_);refine c7 (m:=seqItems? (.ref t)) (bAX hol hdl ?_);simp only [bAY,hx];refine c7 (bCM (c7 (bBQ ho rfl (by simp) ?_)));unfold Builtin.SmallTypes.stopIteration;refine c7 ?_;simp only [newExc,newTuple];refine c7 (bAJ ?_ (by size_fits));refine c7 (m:=firstArgMember _ _) (bD2 (a:=Value.none) (by first|rfl|(simp only [firstArgMember];rfl)) ?_);refine bAJ ?_ (by size_fits);simp only [raiseNew];refine c7 (bDZ ?_);first|rw [show A.in1.handled=none from hh]|rw [hh]
 refine c7 (j4 (bEG ?_));exact q _ _ (((bBJ ..).extBut.push _).push _) ⟨_,j5 _ rfl,rfl⟩
theorem aJ8 {z TI TO i1 i2 t u:Addr} {k:Nat} {xs ys:Array Value} {x y a b:Value} {Q:Option Value→Shared→Prop} (D:oK z TI TO i1 i2)
  (hz:s.heap.get? z=some (gQ .none TI TO)) (hTI:s.heap.get? TI=some (dO (.ref i1) (.ref i2))) (hTO:s.heap.get? TO=some (dO a b))
  (g1:s.heap.get? i1=some (pI t k)) (g2:s.heap.get? i2=some (pI u k)) (ht:s.heap.IsList t xs) (hu:s.heap.IsList u ys) (hx:xs[k]?=some x) (hy:ys[k]?=some y)
  (t1:t≠z) (t2:t≠TO) (t3:t≠i1) (t4:t≠i2) (u1:u≠z) (u2:u≠TO) (u3:u≠i1) (u4:u≠i2)
  (q:∀h',h'.get? z=some (gQ (rawInt s.heap.objs.size) TI TO)→h'.get? TO=some (dO x y)→h'.get? i1=some (pI t (k+1))→h'.get? i2=some (pI u (k+1))→h'.get? s.heap.objs.size=some (dO x y) →
   (∀c o,c≠z→c≠TO→c≠i1→c≠i2→s.heap.get? c=some o→h'.get? c=some o)→Q (some (.ref s.heap.objs.size)) { s with heap:=h' }) :
  wpAny (model prog w) A (pyNext (.ref z)) Q E s:=by
 have hT:s.TypeIs (.ref z) "zip":=⟨_,hz,rfl⟩;unfold pyNext;refine c7 (bBV (bAH (name:=Str.ofString "__next__") hT F.slot_zip_next (bAI F.slot_zip_next hT F.entry_zip_next ?_ (F.args_zip_next_1 _))));refine c7 (m:=field (.ref z) 2) (bAG hz rfl (x:=.bool false) rfl ?_);refine c7 (m:=field (.ref z) 3) (bAG hz rfl (x:=.ref TI) rfl (c7 (bAX hTI rfl ?_)));refine c7 (m:=Builtin.SmallTypes.ownedTupleIsFree (.ref z)) ?_;unfold Builtin.SmallTypes.ownedTupleIsFree;refine c7 (bAG hz rfl (x:=.none) rfl (j4 ?_));simp only [if_true];refine c7 (bCM (c7 (bAG hz rfl (x:=.ref TO) rfl (c7 (bAK hz (by simp) fun h1 z1 s1=>?_)))));replace z1:h1.get? z=some (gQ .ellipsis TI TO):=z1;refine c7 ?_;simp only [bC9,bDG,bCE,bC7];refine c7 (c7 (bCH ?_));refine c7 (m:=Builtin.SmallTypes.nextOf (.ref i1)) (tX (s:={ s with heap:=h1 }) (s1.extBut _ _ D.h3 g1) (ht.extBut s1.extBut t1) hx fun h2 g12 s2=>j4 ?_);have TO2:h2.get? TO=some (dO a b):=s2.extBut _ _ D.h8 (s1.extBut _ _ D.h2 hTO);refine c7 (bAX TO2 rfl (c7 (vJ (s:={ s with heap:=h2 }) TO2 fun h3 TO3 s3=>c7 (bDL (j4 ?_)))));replace TO3:h3.get? TO=some (dO x b):=TO3;refine c7 (c7 (bCH ?_));refine c7 (m:=Builtin.SmallTypes.nextOf (.ref i2)) (tX (s:={ s with heap:=h3 }) (s3.extBut _ _ D.h9.symm (s2.extBut _ _ D.h10.symm (s1.extBut _ _ D.h4 g2))) (((hu.extBut s1.extBut u1).extBut s2.extBut u3).extBut s3.extBut u2) hy fun h4 g24 s4=>j4 ?_);have TO4:h4.get? TO=some (dO x b):=s4.extBut _ _ D.h9 TO3;refine c7 (bAX TO4 rfl (c7 (vJ (s:={ s with heap:=h4 }) TO4 fun h5 TO5 s5=>c7 (bDL (j4 (j4 ?_))))));replace TO5:h5.get? TO=some (dO x y):=TO5;refine c7 (bAX TO5 rfl (c7 (bDP ?_)));have hsz:h5.objs.size=s.heap.objs.size:=by rw [s5.1,s4.1,s3.1,s2.1,s1.1]
 have z5:h5.get? z=some (gQ .ellipsis TI TO):=s5.extBut _ _ D.h2.symm (s4.extBut _ _ D.h4.symm (s3.extBut _ _ D.h2.symm (s2.extBut _ _ D.h3.symm z1)));have kp:∀c o,c≠z→c≠TO→c≠i1→c≠i2→s.heap.get? c=some o→h5.get? c=some o:=fun c o c1 c2 c3 c4 e=>s5.extBut _ _ c2 (s4.extBut _ _ c4 (s3.extBut _ _ c2 (s2.extBut _ _ c3 (s1.extBut _ _ c1 e))));have g15:h5.get? i1=some (pI t (k+1)):=s5.extBut _ _ D.h8.symm (s4.extBut _ _ D.h10 (s3.extBut _ _ D.h8.symm g12));have g25:h5.get? i2=some (pI u (k+1)):=s5.extBut _ _ D.h9.symm g24;refine c7 (m:=Builtin.SmallTypes.ownedTupleHandOut (.ref z) (.ref h5.objs.size)) ?_;unfold Builtin.SmallTypes.ownedTupleHandOut;have z6:(h5.push (dO x y)).get? z=some (gQ .ellipsis TI TO):=d9 _ z5;refine c7 (bAK z6 (by simp) fun h7 z7 s7=>?_);replace z7:h7.get? z=some (gQ (rawInt h5.objs.size) TI TO):=z7;refine bAK z7 (by simp) fun h8 z8 s8=>?_;replace z8:h8.get? z=some (gQ (rawInt h5.objs.size) TI TO):=z8;have up:∀c o,c≠z→h5.get? c=some o→h8.get? c=some o:=fun c o c1 e=>s8.extBut _ _ c1 (s7.extBut _ _ c1 (d9 _ e));have nz:h5.objs.size≠z:=bBL (j8 z5);have T8:h8.get? h5.objs.size=some (dO x y):=s8.extBut _ _ nz (s7.extBut _ _ nz (j5 _ rfl));rw [hsz] at z8 T8;refine j4 ⟨_,rfl,j4 ?_⟩;show Q (some (.ref h5.objs.size)) _;rw [hsz];exact q h8 z8 (up _ _ D.h2 TO5) (up _ _ D.h3 g15) (up _ _ D.h4 g25) T8 fun c o c1 c2 c3 c4 e=>up c o c1 (kp c o c1 c2 c3 c4 e)
theorem aPj {z TI TO i1 i2 t u:Addr} {k:Nat} {xs ys:Array Value} {x a b:Value} {Q:Option Value→Shared→Prop} (hh:A.handled=none) (D:oK z TI TO i1 i2)
  (hz:s.heap.get? z=some (gQ .none TI TO)) (hTI:s.heap.get? TI=some (dO (.ref i1) (.ref i2))) (hTO:s.heap.get? TO=some (dO a b))
  (g1:s.heap.get? i1=some (pI t k)) (g2:s.heap.get? i2=some (pI u k)) (ht:s.heap.IsList t xs) (hu:s.heap.IsList u ys) (hx:xs[k]?=some x) (hy:ys[k]?=none) (t1:t≠z) (u1:u≠z) (u2:u≠TO) (u3:u≠i1)
  (q:∀h',(∀c o,c≠z→c≠TO→c≠i1→c≠i2→s.heap.get? c=some o→h'.get? c=some o)→Q none { s with heap:=h' }) :
  wpAny (model prog w) A (pyNext (.ref z)) Q E s:=by
 have hT:s.TypeIs (.ref z) "zip":=⟨_,hz,rfl⟩;unfold pyNext;refine c7 (bBV (bAH (name:=Str.ofString "__next__") hT F.slot_zip_next (bAI F.slot_zip_next hT F.entry_zip_next ?_ (F.args_zip_next_1 _))));refine c7 (m:=field (.ref z) 2) (bAG hz rfl (x:=.bool false) rfl ?_);refine c7 (m:=field (.ref z) 3) (bAG hz rfl (x:=.ref TI) rfl (c7 (bAX hTI rfl ?_)));refine c7 (m:=Builtin.SmallTypes.ownedTupleIsFree (.ref z)) ?_;unfold Builtin.SmallTypes.ownedTupleIsFree;refine c7 (bAG hz rfl (x:=.none) rfl (j4 ?_));simp only [if_true];refine c7 (bCM (c7 (bAG hz rfl (x:=.ref TO) rfl (c7 (bAK hz (by simp) fun h1 z1 s1=>?_)))));replace z1:h1.get? z=some (gQ .ellipsis TI TO):=z1;refine c7 ?_;simp only [bC9,bDG,bCE,bC7];refine c7 (c7 (bCH ?_));refine c7 (m:=Builtin.SmallTypes.nextOf (.ref i1)) (tX (s:={ s with heap:=h1 }) (s1.extBut _ _ D.h3 g1) (ht.extBut s1.extBut t1) hx fun h2 g12 s2=>j4 ?_);have TO2:h2.get? TO=some (dO a b):=s2.extBut _ _ D.h8 (s1.extBut _ _ D.h2 hTO);refine c7 (bAX TO2 rfl (c7 (vJ (s:={ s with heap:=h2 }) TO2 fun h3 TO3 s3=>c7 (bDL (j4 ?_)))));replace TO3:h3.get? TO=some (dO x b):=TO3;refine c7 (c7 (bCH ?_));refine c7 (m:=Builtin.SmallTypes.nextOf (.ref i2)) (pM (s:={ s with heap:=h3 }) hh (s3.extBut _ _ D.h9.symm (s2.extBut _ _ D.h10.symm (s1.extBut _ _ D.h4 g2))) (((hu.extBut s1.extBut u1).extBut s2.extBut u3).extBut s3.extBut u2) hy fun h4 e s4 he=>?_);obtain ⟨oe,hoe,hce⟩:=he;have z4:h4.get? z=some (gQ .ellipsis TI TO):=s4 _ _ D.h4.symm (s3.extBut _ _ D.h2.symm (s2.extBut _ _ D.h3.symm z1));have hez:e≠z:=fun x=>by subst x;rw [z4] at hoe;cases hoe;simp at hce
 refine bAK z4 (by simp) fun h5 _ s5=>?_;refine c7 (bCL (T:="StopIteration") (b:=true) ⟨oe,s5.extBut _ _ hez hoe,hce⟩ isSubtype_stop ?_);exact j4 (q _ fun c o c1 c2 c3 c4 x=>s5.extBut _ _ c1 (s4 _ _ c4 (s3.extBut _ _ c2 (s2.extBut _ _ c3 (s1.extBut _ _ c1 x)))))
theorem aLr {z TI TO i1 i2 t:Addr} {k:Nat} {xs:Array Value} {a b:Value} {Q:Option Value→Shared→Prop} (hh:A.handled=none) (D:oK z TI TO i1 i2)
  (hz:s.heap.get? z=some (gQ .none TI TO)) (hTI:s.heap.get? TI=some (dO (.ref i1) (.ref i2))) (hTO:s.heap.get? TO=some (dO a b))
  (g1:s.heap.get? i1=some (pI t k)) (ht:s.heap.IsList t xs) (hx:xs[k]?=none) (t1:t≠z)
  (q:∀h',(∀c o,c≠z→c≠TO→c≠i1→c≠i2→s.heap.get? c=some o→h'.get? c=some o)→Q none { s with heap:=h' }) :
  wpAny (model prog w) A (pyNext (.ref z)) Q E s:=by
 have hT:s.TypeIs (.ref z) "zip":=⟨_,hz,rfl⟩;unfold pyNext;refine c7 (bBV (bAH (name:=Str.ofString "__next__") hT F.slot_zip_next (bAI F.slot_zip_next hT F.entry_zip_next ?_ (F.args_zip_next_1 _))));refine c7 (m:=field (.ref z) 2) (bAG hz rfl (x:=.bool false) rfl ?_);refine c7 (m:=field (.ref z) 3) (bAG hz rfl (x:=.ref TI) rfl (c7 (bAX hTI rfl ?_)));refine c7 (m:=Builtin.SmallTypes.ownedTupleIsFree (.ref z)) ?_;unfold Builtin.SmallTypes.ownedTupleIsFree;refine c7 (bAG hz rfl (x:=.none) rfl (j4 ?_));simp only [if_true];refine c7 (bCM (c7 (bAG hz rfl (x:=.ref TO) rfl (c7 (bAK hz (by simp) fun h1 z1 s1=>?_)))));replace z1:h1.get? z=some (gQ .ellipsis TI TO):=z1;refine c7 ?_;simp only [bC9,bDG,bCE,bC7];refine c7 (c7 (bCH ?_));refine c7 (m:=Builtin.SmallTypes.nextOf (.ref i1)) (pM (s:={ s with heap:=h1 }) hh (s1.extBut _ _ D.h3 g1) (ht.extBut s1.extBut t1) hx fun h2 e s2 he=>?_);obtain ⟨oe,hoe,hce⟩:=he;have z2:h2.get? z=some (gQ .ellipsis TI TO):=s2 _ _ D.h3.symm z1;have hez:e≠z:=fun x=>by subst x;rw [z2] at hoe;cases hoe;simp at hce
 refine bAK z2 (by simp) fun h3 _ s3=>?_;refine c7 (bCL (T:="StopIteration") (b:=true) ⟨oe,s3.extBut _ _ hez hoe,hce⟩ isSubtype_stop ?_);exact j4 (q _ fun c o c1 _ c3 _ x=>s3.extBut _ _ c1 (s2 _ _ c3 (s1.extBut _ _ c1 x)))
abbrev zM1 (h:Heap) (t:Addr):Heap:=h.push (pI t 0)
abbrev zM2 (h:Heap) (t u:Addr):Heap:=(zM1 h t).push (pI u 0)
abbrev zM3 (h:Heap) (t u:Addr):Heap:=(zM2 h t u).push (dO (.ref h.objs.size) (.ref (zM1 h t).objs.size))
abbrev zM4 (h:Heap) (t u:Addr):Heap:=(zM3 h t u).push (dO .none .none)
abbrev zM5 (h:Heap) (t u:Addr):Heap:=(zM4 h t u).push (gQ .none (zM2 h t u).objs.size (zM3 h t u).objs.size)
theorem aJg (t u:Addr) (xs ys:Array Value):Meets (Builtin.«zip.__new__» ⟨[.type "zip",.ref t,.ref u],[]⟩)
  (fun _ R s=>s.heap.IsList t xs∧s.heap.IsList u ys∧R (.ok (.ret (.ref (zM4 s.heap t u).objs.size))) { s with heap:=zM5 s.heap t u }):=
 .of_wp fun prog w A R s h=>by
  obtain ⟨hp,g,d,tk,os⟩:=s;obtain ⟨a1,a2,h⟩:=h;have hsub:=sub_zip;have b1:Heap.IsList (Shared.heap ⟨hp,g,d,tk,os⟩) t xs:=a1;have b2:Heap.IsList (Shared.heap ⟨hp.push { cls:=.type "list_iterator",data:=.fields #[.ref t,.int 0 0] },g,d,tk,os⟩) u ys:=by obtain ⟨o,ho,r⟩:=a2;exact ⟨o,d9 _ ho,r⟩
  wp_walk using bBW b1,bBW b2;exact ⟨_,rfl,h⟩
theorem aJk {t u:Addr} {xs ys:Array Value} {Q:bEM} (ht:s.heap.IsList t xs) (hu:s.heap.IsList u ys) (q:Q (.ref (zM4 s.heap t u).objs.size) { s with heap:=zM5 s.heap t u }) :
  wpAny (model prog w) A (call (.type "zip") [.ref t,.ref u]) Q E s:=by
 refine callType_new F.called_zip (by decide) (F.typeCall_zip_2 _ _) (F.newCall_zip_2 _ _) (fun obj=>F.args_object_init_3 obj _ _) F.entry_zip_new (aJg t u xs ys) ⟨ht,hu,?_⟩;exact ⟨⟨_,j5 _ rfl,rfl⟩,q⟩
end
end PySem
namespace L2
open PySem PySem.Spec PyProof.Rows
section
variable {X:Cx} {bEP:bEN} {σ:St} {H:Hp} {s:Shared}
end
def Itw (K:bEL) (t u:Addr) (xs ys:List V):It:=
 ⟨fun i H=>SqL K H t xs∧SqL K H u ys∧i<xs.length∧i<ys.length,fun i H v H'=>∃T a b,H T=none∧v=.ref T∧H'=upd H T (.tup [a,b])∧xs[i]?=some a∧ys[i]?=some b,fun i H=>SqL K H t xs∧SqL K H u ys∧i=ys.length∧ys.length≤xs.length⟩
def wtn (z TI TO i1 i2 t u:Addr) (i:Nat) (h:Heap):Prop:=
 h.get? z=some (gQ .none TI TO)∧h.get? TI=some (dO (.ref i1) (.ref i2))∧(∃a b,h.get? TO=some (dO a b))∧h.get? i1=some (pI t i)∧h.get? i2=some (pI u i)
theorem aKz {P:Program} {w:World} {K:bEL} {elts:List Expr} {kt:Nat} {pos:Pos} {z TI TO i1 i2 t u:Addr} {xs ys:List V} (D:oK z TI TO i1 i2) :
  Turn P w K (.Tuple elts kt pos) (Itw K t u xs ys) [z,TI,TO,i1,i2] z (wtn z TI TO i1 i2 t u) where
 mem:=by simp
 obj:=fun i h st b hb=>by
  obtain ⟨e1,e2,⟨a,c,e3⟩,e4,e5⟩:=st;simp only [bAB,v6,or_false] at hb;rcases hb with rfl|rfl|rfl|rfl|rfl
  ·exact ⟨_,e1,fun v z=>by cases (show Data.fields _=Data.cell v from z)⟩
  ·exact ⟨_,e2,fun v z=>by cases (show Data.seq _ _=Data.cell v from z)⟩
  ·exact ⟨_,e3,fun v z=>by cases (show Data.seq _ _=Data.cell v from z)⟩
  ·exact ⟨_,e4,fun v z=>by cases (show Data.fields _=Data.cell v from z)⟩
  ·exact ⟨_,e5,fun v z=>by cases (show Data.fields _=Data.cell v from z)⟩
 keep:=fun i h h' st k=>by obtain ⟨e1,e2,⟨a,c,e3⟩,e4,e5⟩:=st;exact ⟨k z (by simp) _ e1,k TI (by simp) _ e2,⟨a,c,k TO (by simp) _ e3⟩,k i1 (by simp) _ e4,k i2 (by simp) _ e5⟩
 item:=by
  intro X hP hw hK hc i bEP s σ H E I hf st hg;subst hP hw hK;obtain ⟨e1,e2,⟨a0,c0,e3⟩,e4,e5⟩:=st;obtain ⟨ht,hu,l1,l2⟩:=hg;obtain ⟨its,rv,pt,hz⟩:=I.list ht;obtain ⟨jts,rw',pu,hz'⟩:=I.list hu;obtain ⟨x,hx,rx⟩:=rv.get (j0 l1);obtain ⟨y,hy,ry⟩:=rw'.get (j0 l2);have fz:=hf z (by simp);have fO:=hf TO (by simp);have f1:=hf i1 (by simp);have f2:=hf i2 (by simp);refine aJ8 D e1 e2 e3 e4 e5 pt.isList pu.isList (by simpa using hx) (by simpa using hy) (I.jE ht fz) (I.jE ht fO) (I.jE ht f1) (I.jE ht f2)
   (I.jE hu fz) (I.jE hu fO) (I.jE hu f1) (I.jE hu f2) fun h' a1 a2 a3 a4 a5 kp=>?_
  refine ⟨_,rfl,?_⟩;have fT:H s.heap.objs.size=none:=I.hok.fresh (j6 _);have I1:Inv X bEP σ (upd H s.heap.objs.size (.tup [xs[i],ys[i]])) { s with heap:=h' }:=by
   refine I.drawn (ch:=[z,TO,i1,i2]) (its:=[x,y]) (fun b hb=>?_) (fun b o hb e=>?_) (j6 _) (.cons rx (.cons ry .nil)) (small (by simp)) (.of a5 rfl ⟨_,a5,rfl,_,rfl⟩) (fun b hb=>?_)
   ·refine hf b ?_;simp only [bAB,v6,or_false] at hb ⊢;rcases hb with h|h|h|h <;> simp [h]
   ·simp only [bAB,v6,or_false,not_or] at hb;exact kp b o hb.1 hb.2.1 hb.2.2.1 hb.2.2.2 e
   ·simp only [bAB,v6,or_false] at hb;rcases hb with rfl|rfl|rfl|rfl
    ·exact ⟨_,a1⟩
    ·exact ⟨_,a2⟩
    ·exact ⟨_,a3⟩
    ·exact ⟨_,a4⟩
  have nT:∀b∈[z,TI,TO,i1,i2],b≠s.heap.objs.size:=fun b hb=>by
   have e:∃o,s.heap.get? b=some o:=by
    simp only [bAB,v6,or_false] at hb;rcases hb with rfl|rfl|rfl|rfl|rfl
    ·exact ⟨_,e1⟩
    ·exact ⟨_,e2⟩
    ·exact ⟨_,e3⟩
    ·exact ⟨_,e4⟩
    ·exact ⟨_,e5⟩
   obtain ⟨o,e⟩:=e;exact m9 (j8 e)
  refine bEF (s:={ s with heap:=h' }) a1 fun h2 z2 s2=>?_;obtain ⟨g0,g1,g2,g3,g4,g5⟩:=fz;have I2:Inv X bEP σ (upd H s.heap.objs.size (.tup [xs[i],ys[i]])) { s with heap:=h2 }:=Inv.turned (s:={ s with heap:=h' }) I1 (t':=s.toks) (it:=z) (fun b o hb e=>(s2.2 b hb).trans e) (by rw [aK (nT z (by simp))];exact g0) g1 g3 g4 g5;refine ⟨.ref s.heap.objs.size,_,I2,rfl,⟨_,_,_,fT,rfl,rfl,j0 l1,j0 l2⟩,?_,fun b hb=>by rw [aK (nT b hb)];exact (hf b hb).1⟩;exact ⟨z2,s2.extBut _ _ D.h1 (kp TI _ D.h1 D.h5 D.h6 D.h7 e2),⟨_,_,s2.extBut _ _ D.h2 a2⟩,s2.extBut _ _ D.h3 a3,s2.extBut _ _ D.h4 a4⟩
 done:=by
  intro X hP hw hK hc i bEP s σ H E I hf st hg;subst hP hw hK;obtain ⟨e1,e2,⟨a0,c0,e3⟩,e4,e5⟩:=st;obtain ⟨ht,hu,hl,hle⟩:=hg;obtain ⟨its,rv,pt,hz⟩:=I.list ht;obtain ⟨jts,rw',pu,hz'⟩:=I.list hu;have hlen:=rv.length;have hlen':=rw'.length;have fz:=hf z (by simp);have fO:=hf TO (by simp);have f1:=hf i1 (by simp);refine (fun (go:∀h',(∀c o,c≠z→c≠TO→c≠i1→c≠i2→s.heap.get? c=some o→h'.get? c=some o)→_)=>?_:_→_) (fun h' kp=>(⟨rfl,?_⟩:(none:Option Value)=none∧Inv X bEP σ H { s with heap:=h' }))
  ·cases hx:its[i]? with
   |none=>exact aLr (I.ok.hd hc) D e1 e2 e3 e4 pt.isList (by simpa using hx) (I.jE ht fz) fun h' kp=>go h' kp
   |some x=>exact aPj (I.ok.hd hc) D e1 e2 e3 e4 e5 pt.isList pu.isList (by simpa using hx) (by simp;lia) (I.jE ht fz) (I.jE hu fz) (I.jE hu fO) (I.jE hu f1) fun h' kp=>go h' kp
  refine Inv.aFa (ch:=[z,TO,i1,i2]) I (fun b hb=>hf b ?_) fun b o hb e=>?_
  ·simp only [bAB,v6,or_false] at hb ⊢;rcases hb with h|h|h|h <;> simp [h]
  ·simp only [bAB,v6,or_false,not_or] at hb;exact kp b o hb.1 hb.2.1 hb.2.2.1 hb.2.2.2 e
 self:=fun _ _ _ _ _ st h=>bDW st.1 h
section
variable {X:Cx}
def aKp (K:bEL) (ta:TA):TI:=fun σ H R=>ta σ H fun vs H1=>∃t u xs ys,vs=[.ref t,.ref u]∧SqL K H1 t xs∧SqL K H1 u ys∧R (Itw K t u xs ys) H1
theorem aRw {elts:List Expr} {kt:Nat} {tp:Pos} {a b:Expr} {ta:TA} {p pos:Pos} (hg:Gl X "zip") (hm:X.mg "zip"=none) (ha:PA X [a,b] ta) (hs:starEach [a,b] X.env=(false,eval a X.env)::starEach [b] X.env:=by rfl)
  (hs2:starEach [b] X.env=[(false,eval b X.env)]:=by rfl):PI X (.Tuple elts kt tp) (.Call (.Name "zip" p) [a,b] [] pos) (aKp X.K ta):=by
 intro bEP s σ H R I h;refine Call_ (oY I hg hm aQt (bBK (thn (ha pos bEP s σ H _ I h) fun us s1 ⟨vs,H1,I1,r1,q1⟩=>?_) hs (by rw [hs2];rfl)));obtain ⟨t,u,xs,ys,e,ht,hu,q⟩:=q1;subst e;obtain ⟨its,rv,pt,hz⟩:=I1.list ht;obtain ⟨jts,rw',pu,hz'⟩:=I1.list hu;cases r1 with
 |cons r rr=>
  cases rr with
  |cons r' rr'=>
   cases rr';cases r;cases r';refine aJk pt.isList pu.isList ?_;have z1:(zM1 s1.heap t).objs.size=s1.heap.objs.size+1:=bAT ..;have z2:(zM2 s1.heap t u).objs.size=s1.heap.objs.size+2:=by rw [bAT,z1]
   have z3:(zM3 s1.heap t u).objs.size=s1.heap.objs.size+3:=by rw [bAT,z2]
   have z4:(zM4 s1.heap t u).objs.size=s1.heap.objs.size+4:=by rw [bAT,z3]
   have D:oK (zM4 s1.heap t u).objs.size (zM2 s1.heap t u).objs.size (zM3 s1.heap t u).objs.size s1.heap.objs.size (zM1 s1.heap t).objs.size:=by constructor <;> (show (_:Nat)≠(_:Nat);rw [Ne];intro h;simp only [z1,z2,z3,z4] at h;lia)
   have g5:(zM5 s1.heap t u).get? (zM4 s1.heap t u).objs.size=some (gQ .none (zM2 s1.heap t u).objs.size (zM3 s1.heap t u).objs.size):=j5 _ rfl;have g4:(zM5 s1.heap t u).get? (zM3 s1.heap t u).objs.size=some (dO .none .none):=d9 _ (j5 _ rfl);have g3:(zM5 s1.heap t u).get? (zM2 s1.heap t u).objs.size=some (dO (.ref s1.heap.objs.size) (.ref (zM1 s1.heap t).objs.size)):=d9 _ (d9 _ (j5 _ rfl));have g2:(zM5 s1.heap t u).get? (zM1 s1.heap t).objs.size=some (pI u 0):=d9 _ (d9 _ (d9 _ (j5 _ rfl)));have g1:(zM5 s1.heap t u).get? s1.heap.objs.size=some (pI t 0):=d9 _ (d9 _ (d9 _ (d9 _ (j5 _ rfl))));have I2:Inv X bEP σ H1 { s1 with heap:=zM5 s1.heap t u }:=I1.kept (t':=s1.toks) fun b o e=>d9 _ (d9 _ (d9 _ (d9 _ (d9 _ e))));refine bDW (s:={ s1 with heap:=zM5 s1.heap t u }) g5 ⟨_,_,_,_,H1,rfl,I2,aKz (xs:=xs) (ys:=ys) D,⟨g5,g3,⟨_,_,g4⟩,g1,g2⟩,fun b hb=>?_,q⟩;have hb':s1.heap.objs.size≤b:=by
    simp only [bAB,v6,or_false] at hb;rcases hb with rfl|rfl|rfl|rfl|rfl
    ·rw [z4];exact bBN ..
    ·rw [z2];exact bBN ..
    ·rw [z3];exact bBN ..
    ·exact j6 _
    ·rw [z1];exact bBN ..
   exact I1.aFh hb' (I1.hok.fresh hb')
theorem aSu {elts:List Expr} {kt:Nat} {tp:Pos} {a b:Expr} {t:TA} {p pos:Pos} (hg:Gl X "zip") (hm:X.mg "zip"=none) (ha:VA X [a,b] t) (hp:cU a=true:=by rfl) (hp2:cU b=true:=by rfl) :
  VI X (.Tuple elts kt tp) (.Call (.Name "zip" p) [a,b] [] pos) (aKp X.K t):=⟨aRw hg hm ha.1 (aN hp) (aN (es:=[]) hp2)⟩
end
theorem aH4 {K:bEL} {t u:Addr} {xs ys:List V} {H:Hp} {σ0:L2.St} {te:TE} {Q:VK} (ht:SqL K H t xs) (hu:SqL K H u ys) (hle:ys.length≤xs.length) (h2:Ps2 σ0 σ0) (hsz:ys.length≤1000) (zs:List V) (hzl:zs.length=ys.length)
  (he:∀(i:Nat) (x y z:V),xs[i]?=some x→ys[i]?=some y→zs[i]?=some z→∀H' R,Same H H'→(∀H2,Same H' H2→R z H2)→te ((σ0.set 0 (some x)).set 1 (some y)) H' R)
  (q:∀D H',Same H H'→H' D=some (.lst zs)→Q (.ref D) H'):uJ (Itw K t u xs ys) H σ0 (aKj K 2 (sJ (cO 0) (sJ (cO 1) aO3))) nG te Q:=by
 intro D hD;refine ⟨fun i m σ' H' vs=>m=ys.length - i∧i≤ys.length∧Same H H'∧H' D=some (.lst vs)∧vs=zs.take i∧Ps2 σ0 σ',⟨ys.length,by simp,bAL _,aX hD _,aH,rfl,h2⟩,?_⟩;rintro i m σ' H' vs ⟨rfl,hi,sm,gD,rfl,hps⟩;refine ⟨gD,?_⟩;by_cases hlt:i<ys.length
 ·right;refine ⟨⟨sm.seq ht,sm.seq hu,by lia,hlt⟩,?_⟩;rintro v H2 ⟨T,a,b,hT,rfl,rfl,ha,hb⟩;have s2:Same H' (L2.upd H' T (.tup [a,b])):=aX hT _;refine hg2 (SqT.of aH) hps fun σ2 hps2 hat=>?_;have hat':σ2=_:=hat;subst hat';dsimp only [nG];rw [if_pos rfl];have hiz:i<zs.length:=by lia
  refine he i a b zs[i] ha hb (j0 hiz) _ _ (sm.trans s2) fun H3 s3=>?_;have gD3:H3 D=some (.lst (zs.take i)):=s3 _ _ (s2 _ _ gD);refine ⟨gD3,bB6 (show (zs.take i).length≤1000 by rw [bAE];lia) (by decide),ys.length - (i+1),by lia,rfl,by lia,lH hD (sm.trans (s2.trans s3)),aH,?_,hps2⟩;rw [bBC,j0 hiz];rfl
 ·left;have e:i=ys.length:=by lia
  subst e;rw [bAW (by lia)] at gD;exact ⟨⟨sm.seq ht,sm.seq hu,rfl,hle⟩,q D H' sm gD⟩
theorem wM {J:It} {H:Hp} {xs:List V} {σ0:L2.St} {te:TE} {Q:VK} (go:∀H' i x,Same H H'→xs[i]?=some x→J.go i H'∧∀y H2,J.yld i H' y H2→H2=H'∧y=x) (stop:∀H',Same H H'→J.stop xs.length H') (h1:Ps1 σ0 σ0) (hsz:xs.length≤1000)
  (zs:List V) (hzl:zs.length=xs.length) (he:∀(i:Nat) (x z:V),xs[i]?=some x→zs[i]?=some z→∀H' R l,Same H H'→(∀H2,Same H' H2→R z H2)→te ((σ0.set 0 l).set 0 (some x)) H' R)
  (q:∀D H',Same H H'→H D=none→H' D=some (.lst zs)→Q (.ref D) H'):uJ J H σ0 (cO 0) nG te Q:=by
 intro D hD;refine ⟨fun i m σ' H' vs=>m=xs.length - i∧i≤xs.length∧Same H H'∧H' D=some (.lst vs)∧vs=zs.take i∧Ps1 σ0 σ',⟨xs.length,by simp,bAL _,aX hD _,aH,rfl,h1⟩,?_⟩;rintro i m σ' H' vs ⟨rfl,hi,sm,gD,rfl,hps⟩;refine ⟨gD,?_⟩;by_cases hlt:i<xs.length
 ·right;obtain ⟨g1,g2⟩:=go H' i xs[i] sm (j0 hlt);refine ⟨g1,fun v H2 hy=>?_⟩;obtain ⟨rfl,rfl⟩:=g2 v H2 hy;refine hg1 (i:=i) hps fun σ2 hps2 hat=>?_;obtain ⟨l,rfl⟩:=hat;dsimp only [nG];rw [if_pos rfl];have hiz:i<zs.length:=by lia
  refine he i _ zs[i] (j0 hlt) (j0 hiz) _ _ l sm fun H3 s3=>?_;refine ⟨s3 _ _ gD,bB6 (show (zs.take i).length≤1000 by rw [bAE];lia) (by decide),xs.length - (i+1),by lia,rfl,by lia,lH hD (sm.trans s3),aH,?_,hps2⟩;rw [bBC,j0 hiz];rfl
 ·left;have e:i=xs.length:=by lia
  subst e;rw [bAW (by lia)] at gD;exact ⟨stop H' sm,q D H' sm hD gD⟩
theorem aQ4 {X:Cx} {K:bEL} {scope:Scope} {N:List Str} {tl:TA} {te:TE} {tt:TT} {g:TG} {σ:L2.St} {H:Hp} {Q:VK} (σ0:L2.St) (cap:Cap X scope N σ σ0) (h:tl σ H fun vs H1=>∃t u xs ys,vs=[.ref t,.ref u]∧SqL K H1 t xs∧SqL K H1 u ys∧uJ (Itw K t u xs ys) H1 σ0 g tt te Q):jW X scope N (aKp K tl) g tt te σ H Q:=⟨σ0,cap,h⟩
def sU (ts:List (Addr × Str)) (H:Hp):Prop:=∀p∈ts,H p.1=some (.tab p.2)
def lW:List (Addr × Str)→Addr→Option Str
 |[],_=>none
 |p::r,b=>if b=p.1 then some p.2 else lW r b
theorem aCu {b:Addr}:∀{ts:List (Addr × Str)},(∀p∈ts,b≠p.1)→lW ts b=none
 |[],_=>rfl
 |p::r,h=>by unfold lW;rw [if_neg (h p t6)];exact aCu fun q hq=>h q (m8 _ hq)
theorem qQ {b:Addr} {q:Str}:∀{ts:List (Addr × Str)},lW ts b=some q→∃p∈ts,p.1=b∧p.2=q
 |p::r,h=>by
  unfold lW at h;by_cases e:b=p.1
  ·rw [if_pos e] at h;exact ⟨p,t6,e.symm,bAQ h⟩
  ·rw [if_neg e] at h;obtain ⟨p',h1,h2⟩:=qQ h;exact ⟨p',m8 _ h1,h2⟩
theorem aLz:∀{ts:List (Addr × Str)},(ts.map (·.1)).Nodup→∀{p:Addr × Str},p∈ts→lW ts p.1=some p.2
 |p::r,nd,q,hq=>by
  rw [bAN,bDH] at nd;unfold lW;rcases List.mem_cons.mp hq with rfl|hq
  ·rw [if_pos rfl]
  ·rw [if_neg fun z=>nd.1 (by rw [←z];exact List.mem_map.mpr ⟨q,hq,rfl⟩)];exact aLz nd.2 hq
theorem aOt {P:Program} {w:World} {K:bEL} {mg mb:bEO} {CX:CXT} {k:Nat} {fa a:Addr} {fd:FuncData} {x:Str} {sp:Sp} {s₁:Shared} {vs:List Value} {ns:List Int}
  (KX:K.In s₁.heap) (hns:s₁.heap.Ns mainGlobals mg) (hb:s₁.heap.Ns builtinsNs mb) (hbb:∀x:Str,x≠"__name__"→mb x=bootBuiltins x) (hlim:s₁.heap.NoLimit) (hg:s₁.gens=#[])
  (ha:s₁.heap.get? a=some { cls:=.type "list",data:=.seq vs.toArray }) (hi:IntsAre vs ns) (hl:ns.length≤sizeLine) (hr:Room k callerA)
  (ts:List (Addr × Str)) (hts:∀p∈ts,s₁.heap.get? p.1=some { cls:=.none,data:=.fields #[] }∧isCodeTable s₁.heap p.1∧K.lookup p.1=none) (hnd:(ts.map (·.1)).Nodup) (hbm:BM mg s₁.heap)
  (F:∀base:Heap,K.In base→base.Ns mainGlobals mg→BM mg base→fV P w K mg base CX k fa fd [x] sp) (hbind:∀(s:Shared) (u:Value),BindsTo s fd ⟨[u],[]⟩ [(x,u)])
  (hsp:∀H:Hp,sU ts H→SqL K H a (ns.map V.int)→sp [.ref a] H (fun v H'=>v=.bl true∧sU ts H') fun _ _ _=>False)
  (hCX:∀H e s',CX [] H s₁ (fun _ _ _=>False) e s'→False) :
  codeAny (model P w) callerA (.call (.ref fa) ⟨[.ref a],[]⟩) (fun r s'=>r=.ok (.ret (.bool true))∧OldK s₁.heap s'.heap∧s'.os=s₁.os∧AllBare s'.gens) s₁:=by
 have rv:=aCs hi;have lenV:=hi.length;have core:∀H:Hp,sU ts H→(∀b,(∀p∈ts,b≠p.1)→H b=none∨∃o xs,H b=some (.frz o (.lst xs)))→SqL K H a (ns.map V.int)→HOk P w H s₁.heap→(∀b,H b≠none→b=a∨∃p∈ts,b=p.1)→(H a≠none→K.lookup a=none) →
   codeAny (model P w) callerA (.call (.ref fa) ⟨[.ref a],[]⟩) (fun r s'=>r=.ok (.ret (.bool true))∧OldK s₁.heap s'.heap∧s'.os=s₁.os∧AllBare s'.gens) s₁:=by
  intro H hT hO hS hok hA hK;have base_of:∀{b:Addr} {o:Obj},s₁.heap.get? b=some o→H b=none→(aB8 s₁.heap H).get? b=some o:=fun e n=>aRf e n;have noA:∀{b:Addr} {o:Obj} {es:Array DictEntry} {ep:Nat},s₁.heap.get? b=some o→o.data=.dict es ep→H b=none:=fun {b o es ep} e d=>by
   cases q:H b with
   |none=>rfl
   |some u=>
    rcases hA b (by rw [q];simp) with e'|⟨p,hp,e'⟩
    ·subst e';rw [ha] at e;cases e;have d':Data.seq vs.toArray _=Data.dict es ep:=d;cases d'
    ·subst e';rw [(hts p hp).1] at e;cases e;have d':Data.fields _=Data.dict es ep:=d;cases d'
  have nsK:∀{b:Addr} {m:bEO},s₁.heap.Ns b m→(aB8 s₁.heap H).Ns b m:=fun {b m} ⟨o,es,ep,e,d,r⟩=>⟨o,es,ep,base_of e (noA e d),d,r⟩;have hKb:K.In (aB8 s₁.heap H):=fun b o e=>base_of (KX b o e) (by
   cases q:H b with
   |none=>rfl
   |some u=>
    rcases hA b (by rw [q];simp) with e'|⟨p,hp,e'⟩
    ·subst e';rw [hK (by rw [q];simp)] at e;cases e
    ·subst e';rw [(hts p hp).2.2] at e;cases e)
  have hbm':BM mg (aB8 s₁.heap H):=by
   obtain ⟨bm,ob,b1,b2,b3,b4,b5,b6⟩:=hbm;refine ⟨bm,ob,b1,b2,base_of b3 ?_,b4,b5,b6⟩;cases q:H bm with
   |none=>rfl
   |some u=>
    rcases hA bm (by rw [q];simp) with e'|⟨p,hp,e'⟩
    ·rw [e',ha] at b3;cases b3;cases (show Data.seq vs.toArray _=Data.plain from b6)
    ·rw [e',(hts p hp).1] at b3;cases b3;cases (show Data.fields _=Data.plain from b6)
  have hM:Mod K mg (aB8 s₁.heap H):=⟨hKb,nsK hns,⟨mb,nsK hb,hbb⟩,let ⟨mc,h1,h2⟩:=hlim;⟨mc,nsK h1,h2⟩⟩;have e0:aEq P w K mg (aB8 s₁.heap H) callerA [] s₁ H:=⟨rfl,hM,fun b o e=>aT7 e,bEA (aNs _ _),trivial,fun b hb=>absurd (show b∈([]:List Addr) from hb) (by simp),hok,.of_eq hg⟩;refine bBM ((F _ hKb (nsK hns) hbm').run callerA [] s₁ H ⟨[.ref a],[]⟩ [.ref a] [.ref a] _ _ hr e0 (hbind s₁ (.ref a)) (.cons rfl .nil) (hsp H hT hS)) fun r s' h=>?_;cases r with
  |error e=>exact (hCX H e s' h).elim
  |ok fl=>
   cases fl with
   |next=>exact False.elim h
   |brk=>exact False.elim h
   |cont=>exact False.elim h
   |ret u=>
    obtain ⟨v,H',os,bare,un,hok',r',q⟩:=h;obtain ⟨q',qT⟩:=(show v=.bl true∧sU ts H' from q);subst q';obtain rfl:u=Value.bool true:=r';have kp:∀b o,s₁.heap.get? b=some o→(∀p∈ts,b≠p.1)→s'.heap.get? b=some o:=fun b o e hb=>by
     cases q:H b with
     |none=>exact un.keep b o e q (by intro z;exact absurd (show b∈([]:List Addr) from z) (by simp)) (by simp)
     |some u=>
      rcases hO b hb with z|⟨ob,xs,z⟩
      ·rw [q] at z;cases z
      ·have z2:=un.frzs b ob _ z;obtain ⟨e1,_⟩:=hok b _ z;obtain ⟨e2,_⟩:=hok' b _ z2;rw [e] at e1;cases e1;exact e2
    refine ⟨rfl,⟨fun b o e=>?_,fun b o e=>?_⟩,os,bare⟩
    ·by_cases hb:∃p∈ts,b=p.1
     ·obtain ⟨p,hp,rfl⟩:=hb;obtain ⟨ps,e1,_⟩:=hok' p.1 _ (qT p hp);rw [(hts p hp).1] at e;cases e;exact .inr (.inl ⟨(hts p hp).2.1,rfl,#[],ps,rfl,by rw [e1];simp⟩)
     ·exact .inl (kp b o e fun p hp z=>hb ⟨p,hp,z⟩)
    ·by_cases hb:∃p∈ts,b=p.1
     ·obtain ⟨p,hp,rfl⟩:=hb;obtain ⟨ps,e1,_⟩:=hok' p.1 _ (qT p hp);exact ⟨_,e1⟩
     ·exact ⟨o,kp b o e fun p hp z=>hb ⟨p,hp,z⟩⟩
 have aT:∀p∈ts,p.1≠a:=fun p hp z=>by have:=(hts p hp).1;rw [z,ha] at this;cases this
 have tlk:∀p∈ts,lW ts p.1=some p.2:=fun p hp=>aLz hnd hp;have tno:∀b,(∀p∈ts,b≠p.1)→lW ts b=none:=fun b hb=>aCu hb;have tok:∀(H:Hp) (p:Addr × Str),p∈ts→cW P w H s₁.heap p.1 (.tab p.2):=fun H p hp=>⟨#[],(hts p hp).1,trivial,fun pos cv z=>by cases z⟩;cases hk:K.lookup a with
 |some o=>
  have e:=KX a o hk;rw [ha] at e;cases e;refine core (fun b=>(lW ts b).map .tab) (fun p hp=>by show (lW ts p.1).map _=_;rw [tlk p hp];rfl) (fun b hb=>.inl (by show (lW ts b).map _=_;rw [tno b hb];rfl)) (.inr ⟨_,vs.toArray,_,hk,rfl,rfl,rfl,by rw [j9,lenV];exact hl,by simpa using rv⟩) (fun b u z=>?_) (fun b z=>?_) fun z=>?_
  ·obtain ⟨qn,hq,rfl⟩:=Option.map_eq_some_iff.mp (show (lW ts b).map .tab=some u from z);obtain ⟨p,hp,e1,e2⟩:=qQ hq;subst e1 e2;exact tok _ p hp
  ·refine .inr ?_;cases hq:lW ts b with
   |none=>exact absurd (show (lW ts b).map HO.tab=none by rw [hq];rfl) z
   |some qn=>obtain ⟨p,hp,e1,_⟩:=qQ hq;exact ⟨p,hp,e1.symm⟩
  ·exact absurd (show (lW ts a).map HO.tab=none by rw [tno a fun p hp z=>aT p hp z.symm];rfl) z
 |none=>
  refine core (fun b=>if b=a then some (.frz { cls:=.type "list",data:=.seq vs.toArray } (.lst (ns.map V.int))) else (lW ts b).map .tab) (fun p hp=>by show (if p.1=a then _ else (lW ts p.1).map HO.tab)=_;rw [if_neg (aT p hp),tlk p hp];rfl) (fun b hb=>?_) (.inl (.inr ⟨{ cls:=.type "list",data:=.seq vs.toArray },if_pos rfl⟩)) (fun b u z=>?_) (fun b z=>?_) fun _=>hk
  ·by_cases h:b=a
   ·exact .inr ⟨_,_,if_pos h⟩
   ·exact .inl (by show (if b=a then _ else (lW ts b).map HO.tab)=_;rw [if_neg h,tno b hb];rfl)
  ·by_cases hb:b=a
   ·have z':=(if_pos hb).symm.trans z;cases z';subst hb;exact ⟨ha,by rw [m7];exact hl,vs,_,rv,ha⟩
   ·have z':(lW ts b).map HO.tab=some u:=(if_neg hb).symm.trans z;obtain ⟨qn,hq,rfl⟩:=Option.map_eq_some_iff.mp z';obtain ⟨p,hp,e1,e2⟩:=qQ hq;subst e1 e2;exact tok _ p hp
  ·by_cases hb:b=a
   ·exact .inl hb
   ·refine .inr ?_;cases hq:lW ts b with
    |none=>exact absurd (show (if b=a then _ else (lW ts b).map HO.tab)=none by rw [if_neg hb,hq];rfl) z
    |some qn=>obtain ⟨p,hp,e1,_⟩:=qQ hq;exact ⟨p,hp,e1.symm⟩
theorem aPz {l:PySem.W.OpenLaw} {n k:Nat} {q:Program} {loose:List Str} {XP:(bEO)→Heap→Prop} {YP:World→Heap→Prop} {d:DefRec} {K:Params→bEL} {CX:World→CXT} {sp:World→Sp} {x:Str}
  (hn:l.most=some n) (hn2:n≤sizeLine) (hdf:d.params.defaults=[]) (hr:Room k callerA)
  (ts:List (Addr × Str)) (hnd:(ts.map (·.1)).Nodup)
  (hY:∀(w:World) (h:Heap),YP w h→(K w.params).In h∧∀p∈ts,h.get? p.1=some { cls:=.none,data:=.fields #[] })
  (hC:∀(w:World),∀p∈ts,(∃c,PySem.W.codeHdIn (K w.params) c p.1=true)∧(K w.params).lookup p.1=none)
  (F:∀(w:World) (mg:bEO) (fa:Addr) (h:Heap),(K w.params).In h→h.Ns mainGlobals mg→mg d.name=some (.ref fa) →
   ∃fd:FuncData,(∀(s:Shared) (u:Value),BindsTo s fd ⟨[u],[]⟩ [(x,u)]) ∧
    ∀base:Heap,(K w.params).In base→base.Ns mainGlobals mg→BM mg base→fV l.prog w (K w.params) mg base (CX w) k fa fd [x] (sp w))
  (hsp:∀(w:World) (H:Hp) (a:Addr) (ns:List Int),ns.length≤n→sU ts H→SqL (K w.params) H a (ns.map V.int)→sp w [.ref a] H (fun v H'=>v=.bl true∧sU ts H') fun _ _ _=>False)
  (hCX:∀(w:World) (H:Hp) (s:Shared) (e:Value) (s':Shared),CX w [] H s (fun _ _ _=>False) e s'→False) :
  PySem.W.WalkO q loose XP YP l.row.toRowW d [] (fun f vs=>PySem.call f vs):=by
 refine Att.aGq hn hdf fun w s₀ s₁ mg mb fa o pm cd doc a vs ns G Y ho hd hcd hmg hobj hints hlen hg=>?_;obtain ⟨KX,hTab⟩:=hY w _ Y;obtain ⟨fd,hb,hF⟩:=F w mg fa _ KX G.T.g hmg;refine aOt KX G.T.g G.T.b G.T.builtins G.T.nolimit hg hobj hints (bAR hlen hn2) hr ts (fun p hp=>⟨hTab p hp,?_,(hC w p hp).2⟩) hnd G.T.bmain hF hb (fun H hO hS=>hsp w H a ns hlen hO hS) fun H e s'=>hCX w H s₁ e s';obtain ⟨c,hc⟩:=(hC w p hp).1;exact Heap.TableAt.isCodeTable ((PySem.W.codeHd_of_K KX hc).tab (hTab p hp))
def mZ (K:bEL) (H:Hp) (u:V) (r:List V):Prop:=∃a,u=.ref a∧SqT K H a r
theorem mZ.same {K:bEL} {H H':Hp} {u:V} {r:List V} (e:Same H H') (h:mZ K H u r):mZ K H' u r:=by obtain ⟨a,rfl,ha⟩:=h;exact ⟨a,rfl,e.aV ha⟩
def KdV:Bool→V→Prop
 |true,x=>∃i,x=.int i
 |false,x=>∃z,x=.str z
def KdR (ks:List Bool) (r:List V):Prop:=Al2 KdV ks r
def rlt:List V→List V→Bool
 |.int a::xs,.int b::ys=>if (a == b)=true then rlt xs ys else decide (a<b)
 |.str a::xs,.str b::ys=>if (a == b)=true then rlt xs ys else decide (a.cps.toList<b.cps.toList)
 |_,_=>false
def srt (rs:List (List V)):List (List V):=(PySem.W.dY rs.length fun i j=>rlt (rs.getD i []) (rs.getD j [])).map fun i=>rs.getD i []
theorem aE4 (rs:List (List V)):(srt rs).length=rs.length:=by unfold srt;rw [m7,PySem.W.wR]
theorem vB {rs:List (List V)} {r:List V} (h:r∈srt rs):r∈rs:=by
 obtain ⟨i,hi,rfl⟩:=List.mem_map.mp h;have:=PySem.W.rG hi;have e:rs.getD i []=rs[i]:=by simp [this]
 rw [e];exact bA9 this
theorem Al2.get {α β:Type} {R:α→β→Prop} {as:List α} {bs:List β} (h:Al2 R as bs) {i:Nat} {a:α} {b:β} (h1:as[i]?=some a) (h2:bs[i]?=some b):R a b:=by obtain ⟨b',e,r⟩:=h.at h1;rw [h2] at e;cases e;exact r
theorem Al2.of {α β:Type} {R:α→β→Prop}:∀{as:List α} {bs:List β},as.length=bs.length→(∀(i:Nat) (a:α) (b:β),as[i]?=some a→bs[i]?=some b→R a b)→Al2 R as bs
 |[],[],_,_=>.nil
 |a::as,b::bs,hl,h=>.cons (h 0 a b rfl rfl) (Al2.of (by simpa using hl) fun i x y h1 h2=>h (i+1) x y (by simpa using h1) (by simpa using h2))
section
variable {prog:Program} {w:World} {A:Around} {s:Shared} {b:Bool} {Q:Bool→Shared→Prop}
theorem aTj (ks:List Bool):∀{r1 r2:List V} {i1 i2:List Value},KdR ks r1→KdR ks r2→Vals r1 i1→Vals r2 i2→∀i:Nat,Q (rlt r1 r2) s→PySem.W.KatLex prog w A b false Q (i1.zip i2) i s:=by
 induction ks with
 |nil=>intro r1 r2 i1 i2 h1 h2 v1 v2 i q;cases h1;cases h2;cases v1;cases v2;exact q
 |cons k ks ih=>
  intro r1 r2 i1 i2 h1 h2 v1 v2 i q;cases h1 with
  |cons a1 t1=>
   cases h2 with
   |cons a2 t2=>
    cases v1 with
    |cons p1 w1=>
     cases v2 with
     |cons p2 w2=>
      cases k with
      |true=>
       obtain ⟨x,rfl⟩:=a1;obtain ⟨y,rfl⟩:=a2;obtain ⟨t,rfl⟩:=p1;obtain ⟨u,rfl⟩:=p2;refine (bEC x t y u) prog w _ _ ?_;unfold rlt at q;by_cases e:(x == y)=true
       ·rw [e,if_pos rfl];rw [if_pos e] at q;exact ih t1 t2 w1 w2 (i+1) q
       ·rw [if_neg e] at q;rw [Bool.not_eq_true] at e;rw [e,if_neg (by decide)];cases hb:(b && i == 0) with
        |true=>exact oneLt_int q
        |false=>exact PySem.W.kat_one _ _ (lt_int q)
      |false=>
       obtain ⟨x,rfl⟩:=a1;obtain ⟨y,rfl⟩:=a2;obtain ⟨t,rfl⟩:=p1;obtain ⟨u,rfl⟩:=p2;refine (bDJ x t y u) prog w _ _ ?_;unfold rlt at q;by_cases e:(x == y)=true
       ·rw [e,if_pos rfl];rw [if_pos e] at q;exact ih t1 t2 w1 w2 (i+1) q
       ·rw [if_neg e] at q;rw [Bool.not_eq_true] at e;rw [e,if_neg (by decide)];cases hb:(b && i == 0) with
        |true=>exact oneLt_str q
        |false=>exact PySem.W.kat_one _ _ (lt_str q)
end
section
variable {X:Cx}
def aRs (K:bEL):List V→Hp→VK→Prop:=fun xs H Q=>∃(l:Addr) (us:List V) (rs:List (List V)) (ks:List Bool),xs=[.ref l]∧SqL K H l us∧Al2 (mZ K H) us rs∧us.length<64∧ks≠[]∧(∀r∈rs,KdR ks r) ∧
 ∀D H' us',H D=none→Same H H'→H' D=some (.lst us')→Al2 (mZ K H) us' (srt rs)→Q (.ref D) H'
theorem aNl {bEP:bEN} {σ:L2.St} {H:Hp} {s:Shared} {h':Heap} {k:Bool} {ks:List Bool} (I:Inv X bEP σ H s) (kp:∀b o,s.heap.get? b=some o→h'.get? b=some o):∀{us:List V} {rs:List (List V)} {its:List Value},Al2 (mZ X.K H) us rs→Vals us its→(∀r∈rs,KdR (k::ks) r) →
  ∃fs,PySem.W.KatTups h' its fs∧fs.length=its.length∧∀f∈fs,∀M:Model,PySem.W.Looks M h' (typeOf f) (.type (if k=true then "int" else "str"))
 |_,_,_,.nil,.nil,_=>⟨[],.nil,rfl,fun f h=>by cases h⟩
 |_,_,_,.cons (b:=r) hr t,.cons q z,hk=>by
  obtain ⟨fs,h1,h2,h3⟩:=aNl I kp t z fun r m=>hk r (m8 _ m);obtain ⟨a,rfl,ha⟩:=hr;cases q;obtain ⟨ks',rv,⟨o,ho,hc,n,hd⟩,_⟩:=I.tuple ha;have hkr:=hk r (t6 ..);cases hkr with
  |cons hx _=>
   cases rv with
   |@cons _ f _ fr rx _=>
    refine ⟨f::fs,.cons (kp _ _ ho) hc hd (by simp) h1,by rw [t7,t7,h2],fun g hg M=>?_⟩;rcases List.mem_cons.mp hg with rfl|hg
    ·cases k with
     |true=>obtain ⟨i,rfl⟩:=hx;obtain ⟨tk,rfl⟩:=rx;exact .now
     |false=>obtain ⟨i,rfl⟩:=hx;obtain ⟨tk,rfl⟩:=rx;exact .now
    ·exact h3 g hg M
theorem gF:cJ X (.builtin "sorted") (aRs X.K):=by
 intro bEP s σ H xs us0 Q I r h;obtain ⟨l,us,rs,ks,rfl,hl,hr,h64,hne,hk,q⟩:=h;obtain ⟨u,rfl,ru⟩:=vals1 r;cases ru;obtain ⟨its,rv,pl,hz⟩:=I.list hl;have e1:=rv.length;have e2:=hr.len;obtain ⟨k,ks',rfl⟩:∃k ks',ks=k::ks':=by
  cases ks with
  |nil=>exact absurd rfl hne
  |cons k ks'=>exact ⟨k,ks',rfl⟩
 refine PySem.W.aFc (f:=fun i j=>rlt (rs.getD i []) (rs.getD j [])) pl.isList (by lia) (fun h2 h' kp=>?_) ?_
 ·obtain ⟨fs,t1,t2,t3⟩:=aNl I kp hr rv hk;refine ⟨_,fun Q hq=>PySem.W.kat_kind (s:={ s with heap:=h' }) (T:=.type (if k=true then "int" else "str")) t1 (by lia) (fun v hv=>t3 v hv _) (by simp) hq,fun i j C hi hj hC=>?_⟩;have row:∀{i:Nat},i<its.length→∃a o r xs n,its.getD i Value.none=.ref a∧h'.get? a=some o∧o.data=.seq (List.toArray xs) n∧Vals r xs∧rs.getD i []=r∧KdR (k::ks') r:=fun {i} hi=>by
   have hiu:i<us.length:=by lia
   have hir:i<rs.length:=by lia
   obtain ⟨a,ea,ha⟩:=hr.get (j0 hiu) (j0 hir);obtain ⟨v,hv,rx⟩:=rv.get (j0 hiu);rw [ea] at rx;cases rx;obtain ⟨xs,rr,⟨o,ho,hc,n,hd⟩,_⟩:=I.tuple ha;refine ⟨a,o,rs[i],xs,n,?_,kp _ _ ho,hd,rr,by simp [hir],hk _ (bA9 hir)⟩;rw [j7,hv];rfl
  obtain ⟨a,o,r1,x1,n1,g1,g2,g3,g4,g5,g6⟩:=row hi;obtain ⟨b,o',r2,x2,n2,g1',g2',g3',g4',g5',g6'⟩:=row hj;show wpAny _ _ (keyLt' _ (its.getD i Value.none) (its.getD j Value.none)) C _ _;rw [g1,g1'];refine PySem.W.kat_lt (s:={ s with heap:=h' }) g2 g3 g2' g3' ?_;have hsz:decide ((List.toArray x1).size<(List.toArray x2).size)=false:=by rw [j9,j9];have:=g4.length;have:=g4'.length;have:=Al2.len g6;have:=Al2.len g6';exact bAD (by lia)
  rw [hsz];refine aTj (k::ks') g6 g6' g4 g4' 0 ?_;have hC:C (rlt (rs.getD i []) (rs.getD j [])) { s with heap:=h' }:=hC;rw [g5,g5'] at hC;exact hC
 ·obtain ⟨e,he⟩:=sortedAll_at s.heap its (List.toArray ((PySem.W.dY its.length fun i j=>rlt (rs.getD i []) (rs.getD j [])).map fun i=>its.getD i Value.none));have hf:H (s.heap.objs.size+1)=none:=I.hok.fresh (bCW _);have el:its.length=rs.length:=by lia
  refine ⟨.ref (s.heap.objs.size+1),_,I.laid (t':=s.toks) (o:=.lst ((PySem.W.dY rs.length fun i j=>rlt (rs.getD i []) (rs.getD j [])).map fun i=>us.getD i .non)) (fun b o q=>sortedAll_old q) (bCW _) ?_,rfl,q _ _ _ hf (aX hf _) aH ?_⟩
  ·refine ⟨small (by rw [m7,PySem.W.wR];lia),_,e,?_,he⟩;rw [el];have aux:∀L:List Nat,(∀i∈L,i<us.length)→Vals (L.map fun i=>us.getD i .non) (L.map fun i=>its.getD i Value.none):=by
    intro L
    induction L with
    |nil=>intro _;exact .nil
    |cons i L ih=>intro hL;have hi:=hL i (t6 ..);obtain ⟨v,hv,rx⟩:=rv.get (j0 hi);refine .cons ?_ (ih fun j hj=>hL j (m8 _ hj));show RelV (us.getD i .non) (its.getD i Value.none);rw [j7,j0 hi,j7,hv];exact rx
   exact aux _ fun i hi=>by have:=PySem.W.rG hi;lia
  ·unfold srt;have aux:∀L:List Nat,(∀i∈L,i<us.length)→Al2 (mZ X.K H) (L.map fun i=>us.getD i .non) (L.map fun i=>rs.getD i []):=by
    intro L
    induction L with
    |nil=>intro _;exact .nil
    |cons i L ih=>
     intro hL;have hi:=hL i (t6 ..);have hir:i<rs.length:=by lia
     refine .cons ?_ (ih fun j hj=>hL j (m8 _ hj));show mZ X.K H (us.getD i .non) (rs.getD i []);rw [j7,j0 hi,j7,j0 hir];exact hr.get (j0 hi) (j0 hir)
   exact aux _ fun i hi=>by have:=PySem.W.rG hi;lia
end
def kvlt:V→V→Bool
 |.int a,.int b=>decide (a<b)
 |.str a,.str b=>decide (a.cps.toList<b.cps.toList)
 |_,_=>false
section
variable {X:Cx} {bEP:bEN} {σ:List (Option V)} {H:Hp} {s:Shared}
end
section
variable {X:Cx}
end
section
variable {P:Program} {w:World} {K:bEL} {mg:bEO} {base:Heap}
def aQy (K:bEL) (mg:bEO) (x:Str) (Pt:Addr):Prop:=∃f o fd c,mg x=some (.ref f)∧K.lookup f=some o∧o.data=.func fd∧fd.code=.ref c∧PySem.W.codeHdIn K c Pt=true
theorem Ok.bA3 {x:Str} {st:Stmt} {N ps:List Str} {k:Nat} {sp:Sp} {Pt:Addr} (D:Dn K mg x st ps) (C:aQy K mg x Pt) (hK:K.In base) (S:aJ N ps (aD st)) (len:∀vs H Q E,sp vs H Q E→vs.length=ps.length)
  (hbody:∀(f c:Addr) (A:Around) (outer:List Env) (s:Shared) (H:Hp) (vs:List V) (Q:VK) (E:XK),PySem.W.CodeHd base c Pt→Room k (A.deeper (envOfC x (aD st) s.heap.objs.size f (.ref c)))→sp vs H Q E →
   ∃t,VSs (vR CX0 P w K mg base N x (aD st) f (.ref c) A outer s H E).nox (dB st) t∧t { nx:=fun _ H'=>Q .non H',rt:=Q } (start N vs) H):Ok P w K mg base (k+1) x ps sp:=by
 obtain ⟨f,fd,F,B,m⟩:=D;obtain ⟨f',o',fd',c,m',lk',hd',hc',hh⟩:=C;rw [m] at m';cases m';refine ⟨f,fd,m,F.kp,B,?_⟩;obtain ⟨oc,od,kV,doc,pm,an,cdv,ct,osl,rfl,lk,hcd⟩:=F.ex;rw [lk] at lk';cases lk';cases hd';have e:cdv=.ref c:=hc';subst e;refine aSg lk hcd S len fun A outer s H vs Q E hr hsp=>?_;obtain ⟨t,h,q⟩:=hbody f c A outer s H vs Q E (PySem.W.codeHd_of_K hK hh) hr hsp;exact ⟨t,h.1.nox,q⟩
end
section
variable {X:Cx}
end
end L2
namespace My
open PySem PySem.Spec PyProof.Rows L2
section
variable {P:Program} {w:World} {K:bEL} {mg:bEO} {base:Heap}
def vlt:V→V→Bool
 |.int a,.int b=>decide (a<b)
 |.str a,.str b=>decide (a.cps.toList<b.cps.toList)
 |_,_=>false
def aEy (k:Str):Prop:=k = "number"∨k = "word"
def qC:Str:="are_cuts.<locals>.<lambda>"
def aL2 (P:Program) (w:World) (K:bEL) (mg:bEO) (base:Heap) (k:Nat):Sp:=fun vs H Q _=>∃(a:Addr) (lo hi:Nat) (f:Addr) (xs:List V) (qual g x y:Str) (z:V) (ps:List Str) (sp:Sp),vs=[.ref a,.int (lo:Nat),.int (hi:Nat),.ref f]∧SqT K H a xs∧lo≤xs.length∧xs.length≤hi∧hi≤1000∧vU H f qual g x y z∧Ok P w K mg base k g ps sp ∧
 (∀v∈xs,∀(H':Hp) (R:VK),Same H H'→(∀H2,Same H' H2→R (.bl true) H2)→sp [v,z] H' R E0)∧∀H',Same H H'→Q (.bl true) H'
theorem yM {k:Nat} (T:Txt w K mg):Ok P w K mg base (k+2) "is_tuple_of" ["thing","least","most","is_part"] (aL2 P w K mg base k):=by
 refine Ok.ofV T.sW qJ (fun vs H Q E h=>?_) (fun f cdv A outer s H vs Q E hr h=>?_)
 ·obtain ⟨a,lo,hi,f,xs,qual,g,x,y,z,ps,sp,rfl,_⟩:=h;rfl
 obtain ⟨a,lo,hi,g,xs,qual,gn,x,y,z,ps,sp,rfl,ha,h1,h2,h1000,hL,hG,hsp,q⟩:=h;refine ⟨_,(aF (cG (VW.pt (iU (cM (bZ (aO jF (by rfl) T.bQ bM (aB (vv 0) (aB (eQ (v:=.ty "tuple") (by rfl) T.jK fP rfl) aA))))) (gG (cM (zQ aAe aAe (vv 1) (aO bC (by rfl) T.fQ dI (aB (vv 0) aA)) (vv 2)))))) (aG (aM jX)) bB) (aG (aM (aO (lU rfl) (by rfl) T.aBn sZ (aB (cT (N:=["part","is_part"]) (by trivial) (iW (aD fM) rfl (by decide +kernel)) rfl (mL (vv 0)) (fun cl s' H' fp=>⟨(aQ (i:=0) (show (["part","is_part"]:List Str).Nodup from by decide +kernel) rfl (Or.inl rfl)),eX,(aNo (P:=P) (w:=w) (K:=K) (mg:=mg) (base:=base) hr (vv 1) (aB (vv 0) aA))⟩)) aA))))),?_⟩;refine ⟨_,rfl,_,_,rfl,.tup ha,_,rfl,bY ?_⟩;refine ⟨_,rfl,_,rfl,_,_,rfl,.inr ha,_,_,rfl,rfl,_,rfl,?_⟩;have e1:decide ((lo:Int)≤(xs.length:Int))=true:=v8 (by lia);have e2:decide ((xs.length:Int)≤(hi:Int))=true:=v8 (by lia);rw [e1];refine dC ⟨_,rfl,_,_,rfl,rfl,_,rfl,?_⟩;rw [e2];refine bY ?_;dsimp only [sS,uT,tCB,dR];refine aDf xs (fun _=>.bl true) [none,some (.ref g)] ?_ (small (by lia)) (fun R r=>aLf ha (fun R' r'=>⟨_,rfl,r'⟩) R r) (fun v hv H' R l sm r=>?_) rfl fun D H' sm hD=>?_
 ·exact uN 3 (by decide +kernel) rfl rfl (by trivial)
 ·exact ⟨_,rfl,g,qual,gn,x,y,z,ps,sp,rfl,hL.same sm,hG,_,rfl,v,rfl,hL.same sm,hsp v hv H' R sm r⟩
 ·refine ⟨D,xs.map fun _=>true,rfl,SqL.of (by rw [hD,bC0];rfl),?_⟩;rw [show (xs.map fun _=>true).all id=true by rw [List.all_map];exact List.all_eq_true.mpr fun _ _=>rfl];exact q H' sm
def aQc (K:bEL):Sp:=fun vs H Q _=>∃(p:Addr) (v:V) (h m:Int),vs=[.ref p,.int m]∧SqT K H p [v,.int h]∧0≤h∧h<m∧∀H',Same H H'→Q (.bl true) H'
theorem aO8 (T:Txt w K mg) (iM:Ok P w K mg base 2 "is_number_below" ["thing","many"] aBy):Ok P w K mg base 3 "is_cut" ["thing","houses"] (aQc K):=by
 refine Ok.ofV T.aR7 aN2 (fun vs H Q E h=>?_) (fun f cdv A outer s H vs Q E hr h=>?_)
 ·obtain ⟨p,v,h,m,rfl,_⟩:=h;rfl
 obtain ⟨p,v,h,m,rfl,hp,h0,h1,q⟩:=h;refine ⟨_,(aG (aM (fJ (aO jF (by rfl) T.bQ bM (aB (vv 0) (aB (eQ (v:=.ty "tuple") (by rfl) T.jK fP rfl) aA))) (fJ (cB eU (aO bC (by rfl) T.fQ dI (aB (vv 0) aA)) aC (bH _)) (iD (aP (iM.mono (by decide)) hr (by rfl) (aB (aL aW (vv 0) aC (fun _ _=>rfl)) (aB (vv 1) aA)))))))),?_⟩;refine ⟨_,rfl,_,_,rfl,.tup hp,_,rfl,dC ⟨_,rfl,_,_,rfl,.inr hp,rfl,_,rfl,?_⟩⟩;refine dC ⟨_,rfl,p,_,1,_,rfl,rfl,hp,at1 _ _ _,_,rfl,h,m,rfl,?_⟩;rw [v8 h0,v8 h1];exact q H (Same.refl H)
theorem aS0 {x g y:Str} {env:Env} {cp:Addr} (h:env.cells.lookup y=some cp):closureFor { kind:=.function,names:=[(x,.local),(y,.free),(g,.globalImplicit)],isGenerator:=false,isCoroutine:=false,more:=[] } env=pure [(y,cp)]:=by
 have e0:cellOf env y=pure cp:=by unfold cellOf;rw [h]
 simp [closureFor,e0]
def fH (K:bEL) (H:Hp) (v:V) (c:V × Int):Prop:=∃p,v=.ref p∧SqT K H p [c.1,.int c.2]
theorem fH.same {K:bEL} {H H':Hp} {v:V} {c:V × Int} (e:Same H H') (h:fH K H v c):fH K H' v c:=by obtain ⟨p,rfl,hp⟩:=h;exact ⟨p,rfl,e.aV hp⟩
structure qO (kd:Str) (m:Int) (h0:Int) (cs:List (V × Int)):Prop where
 first:0≤h0∧h0<m
 each:∀c∈cs,bJ kd c.1∧0≤c.2∧c.2<m
 up:(cs.map (·.1)).Pairwise fun a b=>vlt a b=true
 few:cs.length≤7
theorem eY {kd:Str} {v:V} (h:bJ kd v):aIi v=true∧kindS v=kd:=by
 cases h with
 |num=>exact ⟨rfl,rfl⟩
 |@wrd x hx h8=>refine ⟨?_,rfl⟩;show (false || (decide (0≤x.length) && (decide (x.length≤8) && allIn x)))=true;rw [allIn_of hx,v8 h8];rfl
theorem lC {kd:Str} {v:V} (h:bJ kd v):Vl v:=by
 cases h with
 |num=>exact .inl ⟨_,rfl⟩
 |wrd hx h8=>exact .inr ⟨_,rfl,hx,h8⟩
theorem aYf {a b:V} {H:Hp} {Q:VK} (h:vlt a b=true) (q:Q (.bl true) H):aZc a b H Q:=by
 unfold vlt at h
 split at h
 ·exact .inl ⟨_,_,rfl,rfl,by rw [h];exact q⟩
 ·exact .inr ⟨_,_,rfl,rfl,by rw [h];exact q⟩
 ·cases h
def aMu (K:bEL) (Pt:Addr):Sp:=fun vs H Q _=>∃(v:V) (kd:Str) (m h0:Int) (cs:List (V × Int)),vs=[v,.str kd,.int m]∧mW K H (fH K H) v ((.non,h0)::cs)∧aEy kd∧qO kd m h0 cs∧H Pt=some (.tab qC)∧∀H',Same H H'→Q (.bl true) H'
theorem aIx (T:Txt w K mg) {Pt:Addr} (C:aQy K mg "are_cuts" Pt) (hK:K.In base) (hbm:BM mg base) (mR:Ok P w K mg base 5 "is_tuple_of" ["thing","least","most","is_part"] (aL2 P w K mg base 3)) (aR1:Ok P w K mg base 3 "is_cut" ["thing","houses"] (aQc K))
  (fU:Ok P w K mg base 3 "is_value_of" ["thing","kind"] (aFu K)):Ok P w K mg base 6 "are_cuts" ["thing","kind","houses"] (aMu K Pt):=by
 refine Ok.bA3 T.aLc C hK xO (fun vs H Q E h=>?_) (fun f c A outer s H vs Q E CH hr h=>?_)
 ·obtain ⟨v,kd,m,h0,cs,rfl,_⟩:=h;rfl
 obtain ⟨v,kd,m,h0,cs,rfl,⟨a,us,rfl,ha,hu⟩,hkd,ok,hP,q⟩:=h;have hu':=vK hr;refine ⟨_,(aF (cG (VW.pt (iU (cM (bZ (aJx (iy:=2) mR hr (by rfl) (vv 0) aC (rD (by rfl) T.xZ) rfl CH hbm ⟨⟨_,_,_,_,rfl⟩,fun _ _ _ _ _=>rfl,rfl,rfl,rfl,by decide +kernel,rfl,rfl,rfl,by decide +kernel,by decide +kernel,by decide +kernel,by decide +kernel,by decide +kernel⟩ rfl rfl rfl rfl (aS0 rfl) rfl))) (gG (bR aTp (aL aW (aL aW (vv 0) aC (fun _ _=>rfl)) aC (fun _ _=>rfl)) wC (bH _))))) (aG (aM jX)) bB) (aF (aNh (i0:=3) xO.nd rfl (by trivial) (N:=["cut"]) (by trivial) (iC (by decide +kernel)) rfl (mL (dN rO (vv 0) (eO aC) fX)) (fun cl s' H' fp=>⟨(aQ (i:=0) (show (["cut"]:List Str).Nodup from by decide +kernel) rfl (Or.inl rfl)),eX,(aL (cH (K:=K)) (vv 0) aC (fun _ _=>rfl))⟩)) (aF (cG (cM (bZ (aO (lU rfl) (by rfl) T.aBn sZ (aB (cT (N:=["low","kind"]) (by trivial) (iW (aD oZ) rfl (by decide +kernel)) rfl (kJ (vv 3)) (fun cl s' H' fp=>⟨(aQ (i:=0) (show (["low","kind"]:List Str).Nodup from by decide +kernel) rfl (Or.inl rfl)),eX,(aP (fU.mono (by decide)) hr (by rfl) (aB (vv 0) (aB (vv 1) aA)))⟩)) aA)))) (aG (aM jX)) bB) (aG (aM (aO (lU rfl) (by rfl) T.aBn sZ (aB (cT (N:=["low","after"]) (by trivial) (iC (by decide +kernel)) rfl (aSu (by rfl) T.aVy (aB (vv 3) (aB (dN aHt (vv 3) (eO aC) fX) aA))) (fun cl s' H' fp=>⟨(rR (K:=K) (n:=2) rfl (bI (aQ (i:=0) (show (["low","after"]:List Str).Nodup from by decide +kernel) rfl (Or.inl rfl)) (bI (aQ (i:=1) (show (["low","after"]:List Str).Nodup from by decide +kernel) rfl (Or.inl rfl)) gC))),eX,(cB aX3 (vv 0) (vv 1) (bH _))⟩)) aA))))))),?_⟩;have lu:=hu.len;have few:=ok.few;rw [t7] at lu;refine ⟨_,rfl,.int m,rfl,hP,fun lf H2 hL hT=>⟨a,1,8,lf,us,_,_,_,_,_,_,_,rfl,hT _ _ ha,by lia,by lia,by decide,hL,aR1,fun v hv H' R sm r=>?_,fun H3 s3=>⟨s3,fun H4 s4=>?_⟩⟩⟩
 ·obtain ⟨c,hc,p,rfl,hp⟩:=hu.mem hv;have hb:0≤c.2∧c.2<m:=by
   rcases List.mem_cons.mp hc with rfl|hc
   ·exact ok.first
   ·exact (ok.each c hc).2
  exact ⟨p,c.1,c.2,m,rfl,sm.aV (hT _ _ hp),hb.1,hb.2,fun H2 s2=>r H2 s2⟩
 obtain ⟨u0,ut,rfl,⟨p0,rfl,hp0⟩,hut⟩:∃u0 ut,us=u0::ut∧fH K H u0 (.non,h0)∧cL (fH K H) ut cs:=by
  cases hu with
  |cons r t=>exact ⟨_,_,rfl,r,t⟩
 refine ⟨_,rfl,bY ?_⟩;refine ⟨_,rfl,a,_,0,_,rfl,rfl,s4.aV ha,at0 _ _,p0,_,0,_,rfl,rfl,s4.aV hp0,at0 _ _,rfl,_,rfl,bY ?_⟩;dsimp only [sS,cO,aCf,yI];have lt:=hut.len;refine lK [none] lA ⟨_,rfl,_,rfl,a,_,rfl,s4.aV ha,fun ts H5 s5 g5=>?_⟩;rw [show (1:Int)=((1:Nat):Int) from rfl,mV,List.drop_one,List.tail_cons] at g5;refine ⟨ts,rfl,⟨_,g5⟩,wM (tE fun H' s'=>s'.aV g5) (lO fun H' s'=>s'.aV g5) ⟨none,rfl⟩ (by lia) (cs.map (·.1)) (by rw [m7];lia) (fun i x z ex ez H' R l sm r=>?_) fun L H6 s6 nL gL=>?_⟩
 ·obtain ⟨c',hc',p',rfl,hp'⟩:=cC hut ex;rw [t8,hc'] at ez;cases ez;exact ⟨_,rfl,p',_,0,_,rfl,rfl,(s4.trans (s5.trans sm)).aV hp',at0 _ _,r H' (Same.refl _)⟩
 have allT:∀n:Nat,(List.replicate n true).all id=true:=fun n=>List.all_eq_true.mpr fun b hb=>(bBR hb);dsimp only [aN6,aX4,tB,tCB,dR,List.set];refine aHg [none,some (.str kd)] (uN 1 (by decide +kernel) rfl rfl (by trivial)) ⟨_,rfl,L,rfl,⟨_,SqL.of gL⟩,wM (aK8 fun H' s'=>SqL.of (s' _ _ gL)) (aBf fun H' s'=>SqL.of (s' _ _ gL)) ⟨none,rfl⟩ (by rw [m7];lia) (List.replicate cs.length (.bl true)) (by rw [bC2,m7]) (fun i x z ex ez H' R l sm r=>?_) fun D H7 s7 _ g7=>?_⟩
 ·rw [t8] at ex;obtain ⟨c',hc',rfl⟩:=Option.map_eq_some_iff.mp ex;have ez':=bBR (w6 ez);subst ez';have hk:=(ok.each c' (w6 hc')).1;obtain ⟨v1,v2⟩:=eY hk;refine ⟨_,rfl,_,rfl,c'.1,kd,rfl,(lC hk).th,fun H2 s2=>?_⟩;rw [v1,v2,v8 rfl];exact r H2 s2
 refine ⟨D,List.replicate cs.length true,rfl,SqL.of (by rw [g7,bDK]),?_⟩;rw [allT];refine ⟨_,rfl,bY ?_⟩;dsimp only [sS,uT,tCB,dR];have gL7:=s7 _ _ gL;refine aQ4 [none,none] rQ ⟨_,rfl,_,rfl,_,rfl,L,_,rfl,SqL.of gL7,fun L2' H8 _ s8 g8=>?_⟩;rw [show (1:Int)=((1:Nat):Int) from rfl,mV] at g8;refine ⟨L,L2',_,_,rfl,SqL.of (s8 _ _ gL7),SqL.of g8,aH4 (SqL.of (s8 _ _ gL7)) (SqL.of g8) (by rw [bA8];lia) ⟨none,none,rfl⟩ (by rw [bA8,m7];lia) (List.replicate ((cs.map (·.1)).drop 1).length (.bl true)) (by rw [bC2]) (fun i x y z ex ey ez H' R sm r=>?_) fun D2 H9 s9 g9=>?_⟩
 ·have ez':=bBR (w6 ez);subst ez';rw [List.getElem?_drop] at ey;obtain ⟨hi,rfl⟩:=List.getElem?_eq_some_iff.mp ex;obtain ⟨hj,rfl⟩:=List.getElem?_eq_some_iff.mp ey;exact ⟨_,rfl,_,rfl,aYf ((List.pairwise_iff_getElem.mp ok.up) i (1+i) hi hj (by lia)) (r H' (Same.refl _))⟩
 ·refine ⟨D2,List.replicate ((cs.map (·.1)).drop 1).length true,rfl,SqL.of (by rw [g9,bDK]),?_⟩;rw [allT];exact q H9 (s4.trans (s5.trans (s6.trans (s7.trans (s8.trans s9)))))
def aPe (hd:Hdr):Prop:=Good hd∧∀c∈hd,Nm c.1∧aEy c.2
def aI0 (K:bEL):Sp:=fun vs H Q _=>∃(v:V) (hd:Hdr),vs=[v]∧jR K H v hd∧aPe hd∧∀H',Same H H'→Q (.bl true) H'
def dJ (K:bEL) (H:Hp) (D:Addr) (rs:List (List V)):Prop:=∃us,H D=some (.lst us)∧cL (mZ K H) us rs
theorem dJ.same {H H':Hp} {D:Addr} {rs:List (List V)} (e:Same H H') (h:dJ K H D rs):dJ K H' D rs:=by obtain ⟨us,h1,h2⟩:=h;exact ⟨us,e _ _ h1,h2.imp fun _ _ r=>r.same e⟩
theorem aHu (T:Txt w K mg) (aH5:Ok P w K mg base 3 "is_column" ["thing"] (aW3 (aD9 K))) (mR:Ok P w K mg base 4 "is_tuple_of" ["thing","least","most","is_part"] (aG4 P w K mg base 3))
  (aFz:Ok P w K mg base 1 "are_unlike" ["names"] (aCz K)) (lJ:Ok P w K mg base 1 "names_of" ["head"] (aEw K)):Ok P w K mg base 5 "is_head" ["thing"] (aI0 K):=by
 refine Ok.ofV T.aN4 aK0 (fun vs H Q E h=>?_) (fun f cdv A outer s H vs Q E hr h=>?_)
 ·obtain ⟨v,hd,rfl,_⟩:=h;rfl
 obtain ⟨v,hd,rfl,⟨a,us,rfl,ha,hu⟩,hok,q⟩:=h;obtain ⟨fa,mf,hf⟩:=aH5.held;have yC:∃u,mg "is_column"=some u∧RelV (.ref fa) u:=⟨_,mf,rfl⟩;refine ⟨_,(aG (aM (fJ (aP (mR.mono (by decide)) hr (by rfl) (aB (vv 0) (aB aC (aB (rD (by rfl) T.zW) (aB (rD (by rfl) yC) aA))))) (iD (aP (aFz.mono (by decide)) hr (by rfl) (aB (aP (lJ.mono (by decide)) hr (by rfl) (aB (vv 0) aA)) aA)))))),?_⟩;have lu:=hu.len;have l1:=hok.1.2.1;have l2:=hok.1.2.2;have hall:us.all (fun _=>true)=true:=List.all_eq_true.mpr fun _ _=>rfl;have ht:aC0 K (aD9 K) 1 8 H (.ref a) true:=by
  have:=aC0.yes (K:=K) (R:=aD9 K) (lo:=1) (hi:=8) (H:=H) (fun _=>true) ha (by lia) (by lia) (fun x hx=>by
   obtain ⟨c,hc,p,rfl,hp⟩:=hu.mem hx;obtain ⟨hn,hk⟩:=hok.2 c hc;have hth:Th K H (.str c.2):=aKk (by rcases hk with e|e <;> rw [e] <;> decide +kernel);have z:=aD9.two (K:=K) (H:=H) hp hn.th hth;have e:(nameB (.str c.1) && (isS (.str c.2) && inV (.str c.2) kinds))=true:=by rw [show nameB (.str c.1)=true from hn];rcases hk with e|e <;> rw [e] <;> decide +kernel
   rw [e] at z;exact z)
  rw [hall] at this;exact this
 refine ⟨_,rfl,_,1,8,fa,_,_,_,rfl,by decide,hf,aOu K,ht,fun H1 s1=>⟨_,rfl,dC ?_⟩⟩;refine ⟨_,rfl,.ref a,hd,rfl,jR.same s1 ⟨a,us,rfl,ha,hu⟩,by lia,fun D H2 s2 hD=>?_⟩;refine ⟨D,hd.map (·.1),rfl,SqL.of hD,by rw [m7];lia,fun H3 s3=>?_⟩;rw [v8 ((aOb _).mpr hok.1.1)];exact q H3 ((s1.trans s2).trans s3)
def aBp (hd:Hdr) (r:List V):Prop:=cL (fun c v=>bJ c.2 v) hd r
def aEd (K:bEL):Sp:=fun vs H Q _=>∃(vh v:V) (hd:Hdr) (r:List V),vs=[vh,v]∧jR K H vh hd∧hd.length≤1000∧mZ K H v r∧aBp hd r∧∀H',Same H H'→Q (.bl true) H'
theorem aJz (T:Txt w K mg) (fU:Ok P w K mg base 3 "is_value_of" ["thing","kind"] (aFu K)):Ok P w K mg base 4 "is_row" ["head","thing"] (aEd K):=by
 refine Ok.ofV T.aQe aNx (fun vs H Q E h=>?_) (fun f cdv A outer s H vs Q E hr h=>?_)
 ·obtain ⟨vh,v,hd,r,rfl,_⟩:=h;rfl
 obtain ⟨vh,v,hd,r,rfl,⟨b,cs,rfl,hb,hc⟩,hl,⟨a,rfl,ha⟩,hr',q⟩:=h;have lc:=hc.len;have lr:=hr'.len;refine ⟨_,(aF (cG (VW.pt (iU (cM (bZ (aO jF (by rfl) T.bQ bM (aB (vv 1) (aB (eQ (v:=.ty "tuple") (by rfl) T.jK fP rfl) aA))))) (gG (bR aAk (aO bC (by rfl) T.fQ dI (aB (vv 1) aA)) (aO bC (by rfl) T.fQ dI (aB (vv 0) aA)) (bH _))))) (aG (aM jX)) bB) (aG (aM (aO (lU rfl) (by rfl) T.aBn sZ (aB (cT (N:=["value","column"]) (by trivial) (iC (by decide +kernel)) rfl (aU2 (by rfl) T.aVy (aB (vv 1) (aB (vv 0) aA))) (fun cl s' H' fp=>⟨(rR (K:=K) (n:=2) rfl (bI (aQ (i:=0) (show (["value","column"]:List Str).Nodup from by decide +kernel) rfl (Or.inl rfl)) (bI (aQ (i:=1) (show (["value","column"]:List Str).Nodup from by decide +kernel) rfl (Or.inl rfl)) gC))),eX,(aP (fU.mono (by decide)) hr (by rfl) (aB (vv 0) (aB (aL (cH (K:=K)) (vv 1) aC (fun _ _=>rfl)) aA)))⟩)) aA))))),?_⟩;refine ⟨_,rfl,_,_,rfl,.tup ha,_,rfl,bY ?_⟩;refine ⟨_,rfl,_,_,rfl,.inr ha,_,rfl,_,_,rfl,.inr hb,rfl,_,rfl,?_⟩;have e:(!decide (V.int (r.length:Nat)=V.int (cs.length:Nat)))=false:=by rw [show r.length=cs.length by lia];simp
 rw [e];refine bY ?_;dsimp only [sS,uT,tCB,dR];refine aR8 r cs (fun _ _=>.bl true) [none,none] rQ (small (by lia)) (by lia) ha hb (fun R r=>⟨_,rfl,_,rfl,r⟩) (fun i x c ex ec H' R l1 l2 sm r'=>?_) rfl rfl fun D H' sm hD=>?_
 ·obtain ⟨c',hc',p,rfl,hp⟩:=cC hc ec;obtain ⟨x',hx',hk⟩:=cC hr' hc';rw [ex] at hx';cases hx';obtain ⟨v1,v2⟩:=eY hk;refine ⟨_,rfl,_,rfl,p,_,1,_,rfl,rfl,sm.aV hp,at1 _ _ _,x,c'.2,rfl,(lC hk).th,fun H1 s1=>?_⟩;rw [v1,v2,v8 rfl];exact r' H1 s1
 ·have ez:List.zipWith (fun _ _:V=>V.bl true) r cs=(List.replicate r.length true).map V.bl:=by rw [bDK];refine List.eq_replicate_iff.mpr ⟨by rw [bD8];lia,fun b hb'=>?_⟩;obtain ⟨i,hi,rfl⟩:=bB2 hb';rw [List.getElem_zipWith]
  refine ⟨D,List.replicate r.length true,rfl,SqL.of (by rw [hD,ez]),?_⟩;rw [show (List.replicate r.length true).all id=true from List.all_eq_true.mpr fun b hb'=>bBR hb'];exact q H' sm
def aJa (K:bEL):Sp:=fun vs H Q _=>∃(vh:V) (hd:Hdr) (n:Str),vs=[vh,.str n]∧jR K H vh hd∧hd.length≤1000∧Nm n∧n∈hd.map (·.1)∧∀H',Same H H'→Q (.bl true) H'
theorem yL (T:Txt w K mg) (iZ:Ok P w K mg base 2 "is_name" ["thing"] (aCl K nameB)) (lJ:Ok P w K mg base 1 "names_of" ["head"] (aEw K)):Ok P w K mg base 3 "is_column_in" ["head","thing"] (aJa K):=by
 refine Ok.ofV T.aAl yG (fun vs H Q E h=>?_) (fun f cdv A outer s H vs Q E hr h=>?_)
 ·obtain ⟨vh,hd,n,rfl,_⟩:=h;rfl
 obtain ⟨vh,hd,n,rfl,hI,hl,hn,hm,q⟩:=h;refine ⟨_,(aG (aM (fJ (aP (iZ.mono (by decide)) hr (by rfl) (aB (vv 1) aA)) (iD (cB wA (vv 1) (aP (lJ.mono (by decide)) hr (by rfl) (aB (vv 0) aA)) (by with_unfolding_all rfl)))))),?_⟩;refine ⟨_,rfl,_,rfl,hn.th,fun H1 s1=>⟨_,rfl,?_⟩⟩;rw [show nameB (.str n)=true from hn];refine dC ⟨_,rfl,_,rfl,vh,hd,rfl,hI.same s1,hl,fun D H2 s2 hD=>?_⟩;refine ⟨D,_,rfl,.inl (SqL.of hD),rfl,aHw,?_⟩;show Q (.bl (inV (.str n) _)) H2;rw [aM8,v8 hm];exact q H2 (s1.trans s2)
inductive Plc where
 |copies
 |keys (n:Str)
 |spans (n:Str) (h0:Int) (cs:List (V × Int))
def oW (K:bEL) (H:Hp) (v:V):Plc→Prop
 |.copies=>∃a,v=.ref a∧SqT K H a [.str "copies"]
 |.keys n=>∃a,v=.ref a∧SqT K H a [.str "keys",.str n]
 |.spans n h0 cs=>∃a vc,v=.ref a∧SqT K H a [.str "spans",.str n,vc]∧mW K H (fH K H) vc ((.non,h0)::cs)
theorem oW.same {K:bEL} {H H':Hp} {v:V} {pl:Plc} (e:Same H H') (h:oW K H v pl):oW K H' v pl:=by
 cases pl with
 |copies=>obtain ⟨a,rfl,ha⟩:=h;exact ⟨a,rfl,e.aV ha⟩
 |keys n=>obtain ⟨a,rfl,ha⟩:=h;exact ⟨a,rfl,e.aV ha⟩
 |spans n h0 cs=>obtain ⟨a,vc,rfl,ha,hc⟩:=h;exact ⟨a,vc,rfl,e.aV ha,mW.same e (fun _ _ q=>q.same e) hc⟩
def aVj (hd:Hdr) (m:Int):Plc→Prop
 |.copies=>True
 |.keys n=>Nm n∧∃k,look hd n=some k
 |.spans n h0 cs=>Nm n∧∃k,look hd n=some k∧aEy k∧qO k m h0 cs
theorem zP {hd:Hdr} {n k:Str} (h:look hd n=some k):n∈hd.map (·.1):=by obtain ⟨i,h1,_⟩:=aEv h;exact List.mem_map.mpr ⟨_,w6 h1,rfl⟩
theorem aRu {c:Bool} {p q:Prop} (h:c=true) (hp:p):if c=true then p else q:=by rw [if_pos h];exact hp
theorem sI {c:Bool} {p q:Prop} (h:c=false) (hq:q):if c=true then p else q:=by rw [if_neg (by rw [h];exact v4)];exact hq
def aV9 (K:bEL) (Pt:Addr):Sp:=fun vs H Q _=>∃(v vh:V) (m:Int) (hd:Hdr) (pl:Plc),vs=[v,vh,.int m]∧oW K H v pl∧jR K H vh hd∧hd.length≤1000∧aVj hd m pl∧H Pt=some (.tab qC)∧∀H',Same H H'→Q (.bl true) H'
theorem th8 {K:bEL} {H:Hp} {x:Str} (h:x.length≤8):Th K H (.str x):=aKk h
theorem aCe (T:Txt w K mg) {Pt:Addr} (jN:Ok P w K mg base 1 "is_one_of" ["thing","texts"] (aK2 K)) (qM:Ok P w K mg base 3 "is_column_in" ["head","thing"] (aJa K)) (xM:Ok P w K mg base 1 "kind_in" ["head","name"] (aLh K)) (aJp:Ok P w K mg base 6 "are_cuts" ["thing","kind","houses"] (aMu K Pt)):Ok P w K mg base 7 "is_placing" ["thing","head","houses"] (aV9 K Pt):=by
 refine Ok.ofV T.aD5 aBz (fun vs H Q E h=>?_) (fun f cdv A outer s H vs Q E hr h=>?_)
 ·obtain ⟨v,vh,m,hd,pl,rfl,_⟩:=h;rfl
 obtain ⟨v,vh,m,hd,pl,rfl,hpl,hI,hl,hok,hP,q⟩:=h;refine ⟨_,(aF (cG (VW.pt (iU (cM (bZ (aO jF (by rfl) T.bQ bM (aB (vv 0) (aB (eQ (v:=.ty "tuple") (by rfl) T.jK fP rfl) aA))))) (gG (bR eU (aO bC (by rfl) T.fQ dI (aB (vv 0) aA)) aC (bH _))))) (aG (aM jX)) bB) (aF (cG (bZ (aP (jN.mono (by decide)) hr (by rfl) (aB (aL aW (vv 0) aC (fun _ _=>rfl)) (aB (cV (aB bA aA)) aA)))) (aG (aM (cB eU (aO bC (by rfl) T.fQ dI (aB (vv 0) aA)) aC (bH _)))) bB) (aF (cG (bZ (aP (jN.mono (by decide)) hr (by rfl) (aB (aL aW (vv 0) aC (fun _ _=>rfl)) (aB (cV (aB bA aA)) aA)))) (aG (aM (fJ (cB eU (aO bC (by rfl) T.fQ dI (aB (vv 0) aA)) aC (bH _)) (iD (aP (qM.mono (by decide)) hr (by rfl) (aB (vv 1) (aB (aL aW (vv 0) aC (fun _ _=>rfl)) aA))))))) bB) (aF (cG (VW.pt (iU (cM (bZ (aP (jN.mono (by decide)) hr (by rfl) (aB (aL aW (vv 0) aC (fun _ _=>rfl)) (aB (cV (aB bA aA)) aA))))) (iU (bR aAk (aO bC (by rfl) T.fQ dI (aB (vv 0) aA)) aC (bH _)) (gG (cM (bZ (aP (qM.mono (by decide)) hr (by rfl) (aB (vv 1) (aB (aL aW (vv 0) aC (fun _ _=>rfl)) aA))))))))) (aG (aM jX)) bB) (aG (aM (aP (aJp.mono (by decide)) hr (by rfl) (aB (aL aW (vv 0) aC (fun _ _=>rfl)) (aB (aP (xM.mono (by decide)) hr (by rfl) (aB (vv 1) (aB (aL aW (vv 0) aC (fun _ _=>rfl)) aA))) (aB (vv 2) aA)))))))))),?_⟩;cases pl with
 |copies=>obtain ⟨a,rfl,ha⟩:=hpl;refine ⟨_,rfl,_,_,rfl,.tup ha,_,rfl,bY ⟨_,rfl,_,_,rfl,.inr ha,rfl,_,rfl,bY ?_⟩⟩;refine ⟨_,rfl,a,_,0,_,rfl,rfl,ha,at0 _ _,by show 1≤sizeLine;decide,fun t1 H1 _ s1 g1=>⟨_,t1,_,rfl,th8 (by decide +kernel),SqT.of g1,rfl,_,rfl,aRu (by decide +kernel) ?_⟩⟩;refine ⟨_,rfl,_,_,rfl,.inr (s1.aV ha),rfl,?_⟩;exact q H1 s1
 |keys n=>obtain ⟨a,rfl,ha⟩:=hpl;obtain ⟨hn,k,hk⟩:=hok;refine ⟨_,rfl,_,_,rfl,.tup ha,_,rfl,bY ⟨_,rfl,_,_,rfl,.inr ha,rfl,_,rfl,bY ?_⟩⟩;refine ⟨_,rfl,a,_,0,_,rfl,rfl,ha,at0 _ _,by show 1≤sizeLine;decide,fun t1 H1 _ s1 g1=>⟨_,t1,_,rfl,th8 (by decide +kernel),SqT.of g1,rfl,_,rfl,sI (by decide +kernel) ?_⟩⟩;refine ⟨_,rfl,a,_,0,_,rfl,rfl,s1.aV ha,at0 _ _,by show 1≤sizeLine;decide,fun t2 H2 _ s2 g2=>⟨_,t2,_,rfl,th8 (by decide +kernel),SqT.of g2,rfl,_,rfl,aRu (by decide +kernel) ?_⟩⟩;have s12:=s1.trans s2;refine ⟨_,rfl,_,_,rfl,.inr (s12.aV ha),rfl,_,rfl,dC ?_⟩;exact ⟨_,rfl,_,rfl,a,_,1,_,rfl,rfl,s12.aV ha,at1 _ _ _,vh,hd,n,rfl,hI.same s12,hl,hn,zP hk,fun H' s'=>q H' (s12.trans s')⟩
 |spans n h0 cs=>obtain ⟨a,vc,rfl,ha,hc⟩:=hpl;obtain ⟨hn,k,hk,hkd,hcs⟩:=hok;refine ⟨_,rfl,_,_,rfl,.tup ha,_,rfl,bY ⟨_,rfl,_,_,rfl,.inr ha,rfl,_,rfl,bY ?_⟩⟩;refine ⟨_,rfl,a,_,0,_,rfl,rfl,ha,at0 _ _,by show 1≤sizeLine;decide,fun t1 H1 _ s1 g1=>⟨_,t1,_,rfl,th8 (by decide +kernel),SqT.of g1,rfl,_,rfl,sI (by decide +kernel) ?_⟩⟩;refine ⟨_,rfl,a,_,0,_,rfl,rfl,s1.aV ha,at0 _ _,by show 1≤sizeLine;decide,fun t2 H2 _ s2 g2=>⟨_,t2,_,rfl,th8 (by decide +kernel),SqT.of g2,rfl,_,rfl,sI (by decide +kernel) ?_⟩⟩;have s12:=s1.trans s2;refine ⟨_,rfl,a,_,0,_,rfl,rfl,s12.aV ha,at0 _ _,by show 1≤sizeLine;decide,fun t3 H3 _ s3 g3=>⟨_,t3,_,rfl,th8 (by decide +kernel),SqT.of g3,rfl,_,rfl,sI (by decide +kernel) ?_⟩⟩;have s13:=s12.trans s3;refine ⟨_,rfl,_,_,rfl,.inr (s13.aV ha),rfl,_,rfl,bY ?_⟩;refine ⟨_,rfl,_,rfl,a,_,1,_,rfl,rfl,s13.aV ha,at1 _ _ _,vh,hd,n,rfl,hI.same s13,hl,hn,zP hk,fun H4 s4=>⟨_,rfl,bY ?_⟩⟩;have s14:=s13.trans s4;refine ⟨_,rfl,a,_,2,_,rfl,rfl,s14.aV ha,at2 _ _ _ _,_,rfl,_,rfl,a,_,1,_,rfl,rfl,s14.aV ha,at1 _ _ _,vh,n,hd,k,rfl,hI.same s14,hk,_,rfl,?_⟩;exact ⟨vc,k,m,h0,cs,rfl,mW.same s14 (fun _ _ z=>z.same s14) hc,hkd,hcs,s14 _ _ hP,fun H' s'=>q H' (s14.trans s')⟩
def aHe (K:bEL):Sp:=fun vs H Q _=>∃(L:Addr) (vh:V) (hd:Hdr) (rows:List (List V)),vs=[.ref L,vh]∧jR K H vh hd∧hd.length≤1000∧dJ K H L rows∧rows.length≤1000∧(∀r∈rows,aBp hd r)∧∀H',Same H H'→Q (.bl true) H'
theorem aHy (T:Txt w K mg) (aA6:Ok P w K mg base 4 "is_row" ["head","thing"] (aEd K)):Ok P w K mg base 5 "are_rows" ["thing","head"] (aHe K):=by
 refine Ok.ofV T.aJs aGc (fun vs H Q E h=>?_) (fun f cdv A outer s H vs Q E hr h=>?_)
 ·obtain ⟨L,vh,hd,rows,rfl,_⟩:=h;rfl
 obtain ⟨L,vh,hd,rows,rfl,hI,hl,⟨us,gL,hu⟩,hn,hok,q⟩:=h;refine ⟨_,(aG (aM (fJ (aO aO4 (by rfl) T.bQ bM (aB (vv 0) (aB (eQ (v:=.ty "list") (by rfl) T.aD2 yX rfl) aA))) (iD (aO (lU rfl) (by rfl) T.aBn sZ (aB (cT (N:=["row","head"]) (by trivial) (iW (aD oO) rfl (by decide +kernel)) rfl (kJ (vv 0)) (fun cl s' H' fp=>⟨(aQ (i:=0) (show (["row","head"]:List Str).Nodup from by decide +kernel) rfl (Or.inl rfl)),eX,(aP (aA6.mono (by decide)) hr (by rfl) (aB (vv 1) (aB (vv 0) aA)))⟩)) aA)))))),?_⟩;have lu:=hu.len;refine ⟨_,rfl,L,us,rfl,SqL.of gL,_,rfl,dC ?_⟩;dsimp only [uT,tCB,dR];refine aHg [none,some vh] (uN 1 (by decide +kernel) rfl rfl (by trivial)) ⟨_,rfl,L,rfl,⟨_,SqL.of gL⟩,wM (aK8 fun H' s'=>SqL.of (s' _ _ gL)) (aBf fun H' s'=>SqL.of (s' _ _ gL)) ⟨none,rfl⟩ (by lia) (List.replicate us.length (.bl true)) (by rw [bC2]) (fun i x z ex ez H' R l sm r=>?_) fun D H7 s7 _ g7=>?_⟩
 ·have ez':=bBR (w6 ez);subst ez';obtain ⟨r',hr',hx⟩:=cC hu ex;exact ⟨_,rfl,_,rfl,vh,x,hd,r',rfl,hI.same sm,hl,hx.same sm,hok r' (w6 hr'),fun H2 s2=>r H2 s2⟩
 ·refine ⟨D,List.replicate us.length true,rfl,SqL.of (by rw [g7,bDK]),?_⟩;rw [show (List.replicate us.length true).all id=true from List.all_eq_true.mpr fun b hb'=>bBR hb'];exact q H7 s7
structure Tb where
 hd:Hdr
 pl:Plc
 rows:List (List V)
def lV (K:bEL) (H:Hp) (v:V) (vh vp:V) (L:Addr) (t:Tb):Prop:=∃a,v=.ref a∧SqT K H a [vh,vp,.ref L]∧jR K H vh t.hd∧oW K H vp t.pl∧dJ K H L t.rows
structure pH (m:Int) (t:Tb):Prop where
 hd:aPe t.hd
 pl:aVj t.hd m t.pl
 few:t.rows.length≤60
 rows:∀r∈t.rows,aBp t.hd r
def aV7 (K:bEL) (Pt:Addr):Sp:=fun vs H Q _=>∃(v vh vp:V) (L:Addr) (m:Int) (t:Tb),vs=[v,.int m]∧lV K H v vh vp L t∧pH m t∧H Pt=some (.tab qC)∧∀H',Same H H'→Q (.bl true) H'
theorem aJf (T:Txt w K mg) {Pt:Addr} (aPl:Ok P w K mg base 5 "is_head" ["thing"] (aI0 K)) (aEz:Ok P w K mg base 7 "is_placing" ["thing","head","houses"] (aV9 K Pt)) (aKf:Ok P w K mg base 5 "are_rows" ["thing","head"] (aHe K)):Ok P w K mg base 8 "is_table" ["thing","houses"] (aV7 K Pt):=by
 refine Ok.ofV T.aKi aG6 (fun vs H Q E h=>?_) (fun f cdv A outer s H vs Q E hr h=>?_)
 ·obtain ⟨v,vh,vp,L,m,t,rfl,_⟩:=h;rfl
 obtain ⟨v,vh,vp,L,m,t,rfl,⟨a,rfl,ha,hI,hpl,hR⟩,ok,hP,q⟩:=h;have l8:=ok.hd.1.2.2;have few:=ok.few;refine ⟨_,(aF (cG (VW.pt (iU (cM (bZ (aO jF (by rfl) T.bQ bM (aB (vv 0) (aB (eQ (v:=.ty "tuple") (by rfl) T.jK fP rfl) aA))))) (iU (bR aAk (aO bC (by rfl) T.fQ dI (aB (vv 0) aA)) aC (bH _)) (gG (cM (bZ (aP (aPl.mono (by decide)) hr (by rfl) (aB (aL aW (vv 0) aC (fun _ _=>rfl)) aA)))))))) (aG (aM jX)) bB) (aG (aM (fJ (aP (aEz.mono (by decide)) hr (by rfl) (aB (aL aW (vv 0) aC (fun _ _=>rfl)) (aB (aL aW (vv 0) aC (fun _ _=>rfl)) (aB (vv 1) aA)))) (iD (aP (aKf.mono (by decide)) hr (by rfl) (aB (aL aW (vv 0) aC (fun _ _=>rfl)) (aB (aL aW (vv 0) aC (fun _ _=>rfl)) aA)))))))),?_⟩;refine ⟨_,rfl,_,_,rfl,.tup ha,_,rfl,bY ⟨_,rfl,_,_,rfl,.inr ha,rfl,_,rfl,bY ?_⟩⟩;refine ⟨_,rfl,a,_,0,_,rfl,rfl,ha,at0 _ _,vh,t.hd,rfl,hI,ok.hd,fun H1 s1=>⟨_,rfl,bY ?_⟩⟩;refine ⟨_,rfl,a,_,1,_,rfl,rfl,s1.aV ha,at1 _ _ _,_,rfl,a,_,0,_,rfl,rfl,s1.aV ha,at0 _ _,_,rfl,vp,vh,m,t.hd,t.pl,rfl,hpl.same s1,hI.same s1,by lia,ok.pl,s1 _ _ hP,fun H2 s2=>⟨_,rfl,dC ?_⟩⟩;have s12:=s1.trans s2;exact ⟨_,rfl,a,_,2,_,rfl,rfl,s12.aV ha,at2 _ _ _ _,_,rfl,a,_,0,_,rfl,rfl,s12.aV ha,at0 _ _,L,vh,t.hd,t.rows,rfl,hI.same s12,by lia,hR.same s12,by lia,ok.rows,fun H3 s3=>q H3 (s12.trans s3)⟩
end
end My
namespace L2
open PySem PySem.Spec PyProof.Rows
section
variable {X:Cx} {bEP:bEN} {σ:L2.St} {H:Hp} {s:Shared} {d:Addr} {o:Obj} {kvs:List (Key × V)}
theorem aTy {u u':HO} (ok:HOk X.prog X.w H s.heap) (hd:H d=some u) (nt:∀xs,u≠.tup xs) (no:∀a,u≠.own a) (h:cW X.prog X.w H s.heap d u'):HOk X.prog X.w (upd H d u') s.heap:=by
 have st:∀{b v},cW X.prog X.w H s.heap b v→cW X.prog X.w (upd H d u') s.heap b v:=fun {b v} z=>z.stay (fun _ _ _ q=>q) (fun c q=>by
  rw [aK (fun e=>by subst e;rw [hd] at q;exact no _ (bAQ q))];exact q) fun c xs q=>by
  rw [aK (fun e=>by subst e;rw [hd] at q;exact nt _ (bAQ q))];exact q
 intro b v e;by_cases hb:b=d
 ·subst hb;rw [aH] at e;cases e;exact st h
 ·rw [aK hb] at e;exact st (ok b v e)
theorem Inv.setd {u u':HO} (I:Inv X bEP σ H s) (hd:H d=some u) (nt:∀xs,u≠.tup xs) (no:∀a,u≠.own a) (nb:∀ps,u≠.tbl ps) (nf:∀ob v,X.H₀ d≠some (.frz ob v)) (h:cW X.prog X.w H s.heap d u'):Inv X bEP σ (upd H d u') s:=by
 have ne:∀{b},H b=none→upd H d u' b=none:=fun {b} e=>by rw [aK (fun z=>by subst z;rw [hd] at e;cases e)];exact e
 refine ⟨I.ok,I.os,I.bare,⟨I.base.keep,I.base.slot,fun b ob e n hx=>ne (I.base.free b ob e n hx),I.base.there,fun b xs e=>?_,fun b ob v e=>?_,fun b ps e=>?_⟩,I.loc,I.cell,ne I.free,fun x c e=>ne (I.freeC x c e),fun p hp=>?_,aTy I.hok hd nt no h,I.len⟩
 ·have q:=I.base.tups b xs e;rw [aK (fun z=>by subst z;rw [hd] at q;exact nt _ (bAQ q))];exact q
 ·have q:=I.base.frzs b ob v e;rw [aK (fun z=>by subst z;exact nf _ _ e)];exact q
 ·obtain ⟨more,q⟩:=I.base.tbls b ps e;refine ⟨more,?_⟩;rw [aK (fun z=>by subst z;rw [hd] at q;exact nb _ (bAQ q))];exact q
 ·obtain ⟨h1,h2,h3⟩:=I.pin p hp;exact ⟨h1,ne h2,h3⟩
end
theorem aNf {P:Program} {w:World} {H:Hp} {h:Heap} {d:Addr} {o:Obj} {kvs:List (Key × V)} {es:Array DictEntry} {ep:Nat} (hep:o.data=.dict es ep) (ok:cW P w H h d (.frz o (.dK kvs))):∃vs,KV kvs vs∧h.DictAt (bL P w) d vs ep:=by obtain ⟨ho,_,_,vs,rel,⟨o',es',ep',h1,h2,h3,h4⟩⟩:=ok;rw [ho] at h1;cases h1;rw [hep] at h3;cases h3;exact ⟨vs,rel,o,es,ho,h2,hep,h4⟩
section
variable {X:Cx} {tg:Expr}
def aZ9 (d:Addr) (kvs:List (Key × V)) (D:Ends):Ends:={ nx:=fun σ H=>(∃o,H d=some (.frz o (.dK kvs)))∧D.nx σ (upd H d (.dK kvs)),rt:=fun v H=>(∃o,H d=some (.frz o (.dK kvs)))∧D.rt v (upd H d (.dK kvs)) }
def aZp (X:Cx) (t:TS):TS:=fun D σ H=>∃d kvs,H d=some (.dK kvs)∧((∀ob u,X.H₀ d≠some (.frz ob u))→t (aZ9 d kvs D) σ H)
theorem aUt {st:Stmt} {t:TS} (h:VS X st t):VS X st (aZp X t):=⟨by
 intro bEP s σ H D I ⟨d,kvs,hd,q⟩;have nf:∀ob u,X.H₀ d≠some (.frz ob u):=fun ob u e=>by have:=I.base.frzs d ob u e;rw [hd] at this;cases this
 have thaw:∀{σ' H' s' o},Inv X bEP σ' H' s'→H' d=some (.frz o (.dK kvs))→Inv X bEP σ' (upd H' d (.dK kvs)) s':=fun {σ' H' s' o} I' ho=>I'.setd ho (fun _ z=>by cases z) (fun _ z=>by cases z) (fun _ z=>by cases z) nf (I'.hok d _ ho).2;refine thn (h.1 bEP s σ H _ I (q nf)) fun f s' hf=>?_;cases f with
 |next=>obtain ⟨σ',H',I',⟨o,ho⟩,q'⟩:=hf;exact ⟨σ',_,thaw I' ho,q'⟩
 |brk=>obtain ⟨_,_,_,z⟩:=hf;exact z.elim
 |cont=>obtain ⟨_,_,_,z⟩:=hf;exact z.elim
 |ret u=>obtain ⟨v,σ',H',I',r,⟨o,ho⟩,q'⟩:=hf;exact ⟨v,σ',_,thaw I' ho,r,q'⟩⟩
end
end L2
namespace PySem
section
variable {prog:Program} {w:World} {K:Type} [DecidableEq K] {knd:HeapKind prog w K} {A:Around} {E:bEM} {s:Shared}
end
end PySem
namespace L2
open PySem PySem.Spec PyProof.Rows
section
variable {X:Cx}
end
end L2
namespace PySem
section
variable {prog:Program} {w:World} {A:Around} {E:bEM} {s:Shared}
end
end PySem
namespace L2
open PySem PySem.Spec PyProof.Rows
section
variable {X:Cx} {tg:Expr}
end
end L2
namespace PySem
section
variable {prog:Program} {w:World} {A:Around} {E:bEM} {s:Shared}
theorem aT3 {it d:Addr} {i ep:Nat} {od:Obj} {es:Array DictEntry} {k0 v0:Value} {Q:Option Value→Shared→Prop} (ki:IsItemIter s.heap it d i es.size ep k0 v0) (gd:s.heap.get? d=some od) (dd:od.data=.dict es ep) (lt:i<es.size)
  (q:∀h',IsItemIterOut h' it d (i+1) es.size ep es[i].key es[i].val s.heap.objs.size→h'.get? s.heap.objs.size=some { cls:=.type "tuple",data:=.seq #[es[i].key,es[i].val] }→h'.objs.size=s.heap.objs.size+1 →
   (∀b o,b≠it→s.heap.get? b=some o→h'.get? b=some o)→Q (some (.ref s.heap.objs.size)) { s with heap:=h' }):wpAny (model prog w) A (pyNext (.ref it)) Q E s:=by
 have ty:s.TypeIs (.ref it) "dict_itemiterator":=⟨_,ki,rfl⟩;have li:it<s.heap.objs.size:=j8 ki;unfold pyNext;refine c7 (bBV (bAH (name:="__next__") ty F.slot_dict_itemiterator_next (bAI F.slot_dict_itemiterator_next ty F.entry_dict_itemiterator_next (c7 (j4 (c7 (c7 ?_)))) (F.args_dict_itemiterator_next_1 _))));refine c7 (bCA ty (j4 (c7 (bC8 ki rfl ?_))));rw [show Builtin.Dict_items.ownsTuple "dict_itemiterator"=true from by decide];simp only [if_true];have nz:¬ ((Value.ref d == Value.none)=true):=v4;show wpAny _ _ (ite ((Value.ref d == Value.none)=true) _ _) _ _ _;rw [if_neg nz];refine c7 (j4 (c7 (bEI gd dd ?_)));rw [if_neg (by simp)];refine c7 (j4 (c7 (wpAny_dictEpoch gd dd ?_)));rw [if_neg (by simp)];have ni:¬ ((i:Int)<0):=by lia
 refine j4 ?_;simp only [ni,if_false,bAY,v5 lt];refine c7 (c7 (bCA ty (j4 (c7 (bDR ty ?_)))));show wpAny _ _ (setField (.ref it) 3 (rawInt ((i:Int)+1)) >>= _) _ _ s;refine c7 (bAK ki (by simp) fun h1 e1 s1=>?_);have f1:IsItemIter h1 it d (i+1) es.size ep k0 v0:=by
  have z:((i+1:Nat):Int)=(i:Int)+1:=by lia
  unfold IsItemIter;rw [z];simpa [rawInt] using e1
 have ty1:Shared.TypeIs { s with heap:=h1 } (.ref it) "dict_itemiterator":=⟨_,f1,rfl⟩;refine c7 (bAV (c7 (bDR ty1 (c7 (bDR ty1 ?_)))));have sz1:h1.objs.size=s.heap.objs.size:=s1.1;show wpAny _ _ (Builtin.Dict_items.pairFromOwner (.ref it) 6 es[i].key es[i].val) _ _ { s with heap:=h1 };unfold Builtin.Dict_items.pairFromOwner;refine c7 (bDP ?_);have f2:IsItemIter (h1.push { cls:=.type "tuple",data:=.seq #[es[i].key,es[i].val] }) it d (i+1) es.size ep k0 v0:=d9 _ f1;have t2:(h1.push { cls:=.type "tuple",data:=.seq #[es[i].key,es[i].val] }).get? s.heap.objs.size=some { cls:=.type "tuple",data:=.seq #[es[i].key,es[i].val] }:=by rw [←sz1];exact j5 _ rfl
 have sz2:(h1.push { cls:=.type "tuple",data:=.seq #[es[i].key,es[i].val] }).objs.size=s.heap.objs.size+1:=by rw [bAT,sz1]
 have k2:∀b o,b≠it→s.heap.get? b=some o→(h1.push { cls:=.type "tuple",data:=.seq #[es[i].key,es[i].val] }).get? b=some o:=fun b o hb e=>d9 _ (s1.extBut b o hb e);rw [show ({ s with heap:=h1 }:Shared).heap.objs.size=s.heap.objs.size from sz1];show wpAny _ _ (Builtin.Dict_items.ownedTupleIsFree (.ref it) >>= _) _ _ { s with heap:=h1.push { cls:=.type "tuple",data:=.seq #[es[i].key,es[i].val] } };generalize h1.push { cls:=.type "tuple",data:=.seq #[es[i].key,es[i].val] }=h2 at f2 t2 sz2 k2 ⊢;unfold Builtin.Dict_items.ownedTupleIsFree;refine c7 (c7 (bAG f2 rfl (x:=.none) rfl (j4 ?_)));simp only [if_true];refine c7 (bAG f2 rfl (x:=k0) rfl (c7 (bAG f2 rfl (x:=v0) rfl (c7 (bAK f2 (by simp) fun h3 e3 s3=>?_)))));have f3:IsItemIter h3 it d (i+1) es.size ep es[i].key v0:=e3;refine c7 (bAK f3 (by simp) fun h4 e4 s4=>?_);have f4:IsItemIter h4 it d (i+1) es.size ep es[i].key es[i].val:=e4;refine c7 (bAK f4 (by simp) fun h5 e5 s5=>?_);have f5:IsItemIterOut h5 it d (i+1) es.size ep es[i].key es[i].val s.heap.objs.size:=e5;refine c7 (bAK f5 (by simp) fun h6 e6 s6=>?_);have f6:IsItemIterOut h6 it d (i+1) es.size ep es[i].key es[i].val s.heap.objs.size:=e6;have go:∀b o,b≠it→h2.get? b=some o→h6.get? b=some o:=fun b o hb e=>s6.extBut b o hb (s5.extBut b o hb (s4.extBut b o hb (s3.extBut b o hb e)));have sz6:h6.objs.size=s.heap.objs.size+1:=by have a3:h3.objs.size=h2.objs.size:=s3.1;have a4:h4.objs.size=h3.objs.size:=s4.1;have a5:h5.objs.size=h4.objs.size:=s5.1;have a6:h6.objs.size=h5.objs.size:=s6.1;lia
 exact c7 (bDL (j4 (j4 ⟨_,rfl,j4 (q h6 f6 (go _ _ (bBL li) t2) sz6 fun b o hb e=>go b o hb (k2 b o hb e))⟩)))
theorem aJo {it d:Addr} {ep:Nat} {od:Obj} {es:Array DictEntry} {k0 v0:Value} {Q:Option Value→Shared→Prop} (hh:A.handled=none) (ki:IsItemIter s.heap it d es.size es.size ep k0 v0) (gd:s.heap.get? d=some od) (dd:od.data=.dict es ep)
  (q:∀h',Heap.ExtBut it s.heap h'→Q none { s with heap:=h' }):wpAny (model prog w) A (pyNext (.ref it)) Q E s:=by
 have ty:s.TypeIs (.ref it) "dict_itemiterator":=⟨_,ki,rfl⟩;unfold pyNext;refine c7 (bBV (bAH (name:="__next__") ty F.slot_dict_itemiterator_next (bAI F.slot_dict_itemiterator_next ty F.entry_dict_itemiterator_next (c7 (j4 (c7 (c7 ?_)))) (F.args_dict_itemiterator_next_1 _))));refine c7 (bCA ty (j4 (c7 (bC8 ki rfl ?_))));rw [show Builtin.Dict_items.ownsTuple "dict_itemiterator"=true from by decide];simp only [if_true];have nz:¬ ((Value.ref d == Value.none)=true):=v4;show wpAny _ _ (ite ((Value.ref d == Value.none)=true) _ _) _ _ _;rw [if_neg nz];refine c7 (j4 (c7 (bEI gd dd ?_)));rw [if_neg (by simp)];refine c7 (j4 (c7 (wpAny_dictEpoch gd dd ?_)));rw [if_neg (by simp)];have ni:¬ ((es.size:Int)<0):=by lia
 refine j4 ?_;simp only [ni,if_false,bAY,bB0 (j6 es.size)];refine c7 (c7 (bCA ty (j4 ?_)));show wpAny _ _ (setField (.ref it) 2 .none >>= _) _ _ s;refine c7 (bBQ ki rfl (by simp) ?_);show wpAny _ _ (newExc (.type "StopIteration") [] >>= _) _ _ _;refine c7 ?_;simp only [newExc,newTuple,raiseNew];refine c7 (bAJ ?_ (by size_fits));refine c7 (m:=firstArgMember _ _) (bD2 (a:=Value.none) (by simp only [firstArgMember];rfl) ?_);refine bAJ (c7 (bDZ ?_)) (by size_fits);rw [show A.in1.handled=none from hh];refine c7 (j4 (bEG ?_));refine c7 (bCL (T:="StopIteration") (b:=true) ⟨_,j5 _ rfl,rfl⟩ isSubtype_stop ?_);exact j4 (q _ (((bBJ ..).extBut.push _).push _))
theorem aSs {d:Addr} {Q:bEM} (nd:(d == sysModules)=false) (ty:s.TypeIs (.ref d) "dict")
  (q:Q (.ref s.heap.objs.size) { s with heap:=s.heap.push { cls:=.type "dict_items",data:=.fields #[.ref d] } }):wpAny (model prog w) A (call (.builtin "dict.items") [.ref d]) Q E s:=by
 refine bAI F.slot_dict_items ty F.entry_dict_items ?_ (F.args_dict_items_1 _);unfold Builtin.«dict.items» Builtin.Dict.noArgs;refine c7 (c7 (bDU ty ?_));show wpAny _ _ (pure d) _ _ s;refine j4 ?_;show wpAny _ _ (Builtin.Dict.showsAll d >>= _) _ _ _;unfold Builtin.Dict.showsAll;rw [if_neg (show ¬ (d == sysModules)=true by rw [nd];exact v4)];exact c7 (j4 (c7 (bAJ (j4 ⟨_,rfl,q⟩))))
theorem aH1 {v d:Addr} {ep:Nat} {od:Obj} {es:Array DictEntry} {Q:bEM} (hv:s.heap.IsItemsView v d) (gd:s.heap.get? d=some od) (dd:od.data=.dict es ep)
  (q:Q (.ref s.heap.objs.size) { s with heap:=s.heap.push { cls:=.type "dict_itemiterator",data:=.fields #[.none,.bool false,.ref d,.int 0 0,.int es.size 0,.int ep 0,.none,.none] } }):wpAny (model prog w) A (pyIter (.ref v)) Q E s:=by
 obtain ⟨ov,g1,g2,g3⟩:=id hv;refine bDS hv.typeIs F.slot_dict_items_iter (bAI F.slot_dict_items_iter hv.typeIs F.entry_dict_items_iter ?_ (F.args_dict_items_iter_1 _));unfold Builtin.«dict_items.__iter__» Builtin.Dict_items.dictOf;refine c7 (j4 (c7 (c7 (bAG g1 g3 (x:=.ref d) rfl (j4 ?_)))));refine c7 ?_;unfold Builtin.Dict_items.newIterator;refine c7 (bEI gd dd (c7 (wpAny_dictEpoch gd dd ?_)));rw [show Builtin.Dict_items.ownsTuple "dict_itemiterator"=true from by decide];simp only [if_true];refine bAJ (j4 ⟨_,rfl,"dict_itemiterator",_,⟨_,j5 _ rfl,rfl⟩,F.slot_dict_itemiterator_next.lookup,?_⟩) (by simp only [sizeOk,Builtin.Dict_items.ownedTupleFields,j9,bAC,t7,bBH,sizeLine_eq];lia);simpa [rawInt,Builtin.Dict_items.ownedTupleFields] using q
end
end PySem
namespace PySem
open Builtin in
theorem aAt:entryFor table "dict_itemiterator.__iter__"=some Builtin.«dict_keyiterator.__iter__»:=entryFor_alias (id':="dict_keyiterator.__iter__") (by kernel_rfl) rfl (by decide +kernel) (by kernel_rfl)
end PySem
namespace L2
open PySem PySem.Spec PyProof.Rows
section
variable {X:Cx}
end
def aLo (d:Addr) (o:Obj) (kvs:List (Key × V)):It:=
 ⟨fun i H=>H d=some (.frz o (.dK kvs))∧i<kvs.length,fun i H x H'=>∃T kv,H T=none∧x=.ref T∧kvs[i]?=some kv∧H'=upd H T (.tup [kV kv.1,kv.2]),fun i H=>H d=some (.frz o (.dK kvs))∧i=kvs.length⟩
theorem aZ7 {kvs:List (Key × V)} {vs:List (Key × Value)} (r:KV kvs vs):∀{i:Nat} {kv:Key × V},kvs[i]?=some kv→∃q,vs[i]?=some q∧kv.1=q.1∧RelV kv.2 q.2:=by
 unfold KV at r
 induction r with
 |nil=>intro i kv h;cases h
 |cons a _ ih=>
  intro i kv h;cases i with
  |zero=>cases h;exact ⟨_,rfl,a⟩
  |succ i=>exact ih h
theorem aT2 {P:Program} {w:World} {n:Str} {key:Value} (h:(bL P w).is (Sum.inr n) key=true):∃t,key=.str n t:=by
 cases key with
 |str x t=>
  have e:x=n:=by simpa [bL,uX,Value.isStrOf] using h
  exact ⟨t,by rw [e]⟩
 |_=>exact absurd (show false=true from h) v4
theorem aIl {P:Program} {w:World} {K:bEL} {elts:List Expr} {kt:Nat} {pos:Pos} (d it:Addr) (o:Obj) (kvs:List (Key × V)) (es:Array DictEntry) (ep:Nat) (hep:o.data=.dict es ep) (hk:∀kv∈kvs,∃n,kv.1=Sum.inr n) :
  Turn P w K (.Tuple elts kt pos) (aLo d o kvs) [it] it (fun i h=>∃k0 v0,IsItemIter h it d i kvs.length ep k0 v0) where
 mem:=by simp
 obj:=fun i h st b hb=>by
  have e:b=it:=by simpa using hb
  subst e;obtain ⟨k0,v0,h1⟩:=st;exact ⟨_,h1,fun v z=>by cases (show Data.fields _=Data.cell v from z)⟩
 keep:=fun i h h' st k=>by obtain ⟨k0,v0,h1⟩:=st;exact ⟨k0,v0,k it (by simp) _ h1⟩
 item:=by
  intro X hP hw hK hc i bEP s σ H E I hf st hg;subst hP hw hK;obtain ⟨k0,v0,st⟩:=st;obtain ⟨hd,hi⟩:=hg;obtain ⟨vs,rel,od,es',gd,_,hep',_,hpr,_⟩:=aNf hep (I.hok d _ hd);have go:s.heap.get? d=some o:=(I.hok d _ hd).1;rw [go] at gd;cases gd;rw [hep] at hep';cases hep';have lk:es.size=kvs.length:=by rw [KV.length rel,←hpr.length,v9]
  have hkv:kvs[i]?=some kvs[i]:=j0 hi;obtain ⟨x,hx,e1,e3⟩:=aZ7 rel hkv;have hie:i<es.size:=by lia
  obtain ⟨ek1,ek2⟩:=hpr.get? (i:=i) (e:=es[i]) (k:=x.1) (v:=x.2) (by rw [bB5];exact v5 hie) hx;obtain ⟨n,en⟩:=hk _ (bA9 hi);rw [←e1,en] at ek1;obtain ⟨t,ek1⟩:=aT2 ek1;have fit:=hf it (by simp);rw [←lk] at st;refine aT3 st go hep hie fun h' a1 a2 a3 kp=>?_;rw [ek1,ek2] at a1 a2;refine ⟨_,rfl,?_⟩;have fT:H s.heap.objs.size=none:=I.hok.fresh (j6 _);have nit:it≠s.heap.objs.size:=m9 (j8 st);have ekv:kV kvs[i].1=.str n:=by rw [en];rfl
  have I1:Inv X bEP σ (upd H s.heap.objs.size (.tup [kV kvs[i].1,kvs[i].2])) { s with heap:=h' }:=by
   rw [ekv];refine I.drawn (ch:=[it]) (its:=[.str n t,x.2]) (fun b hb=>?_) (fun b o hb e=>kp b o (by simpa using hb) e) (j6 _) (.cons ⟨t,rfl⟩ (.cons e3 .nil)) (small (by simp)) (.of a2 rfl ⟨_,a2,rfl,_,rfl⟩) (fun b hb=>?_)
   ·have:b=it:=by simpa using hb
    rw [this];exact fit
   ·have:b=it:=by simpa using hb
    rw [this];exact ⟨_,a1⟩
  refine wpAny_letOwnedTupleGo_items (s:={ s with heap:=h' }) a1 fun h2 z2 s2=>?_;obtain ⟨g0,g1,g2,g3,g4,g5⟩:=fit;have I2:Inv X bEP σ (upd H s.heap.objs.size (.tup [kV kvs[i].1,kvs[i].2])) { s with heap:=h2 }:=Inv.turned (s:={ s with heap:=h' }) I1 (t':=s.toks) (it:=it) (fun b o hb e=>(s2.2 b hb).trans e) (by rw [aK nit];exact g0) g1 g3 g4 g5;refine ⟨.ref s.heap.objs.size,_,I2,rfl,⟨_,kvs[i],fT,rfl,hkv,rfl⟩,⟨_,_,by rw [←lk];exact z2⟩,fun b hb=>?_⟩;have:b=it:=by simpa using hb
  rw [this,aK nit];exact g0
 done:=by
  intro X hP hw hK hc i bEP s σ H E I hf st hg;subst hP hw hK;obtain ⟨k0,v0,st⟩:=st;obtain ⟨f0,f1,f2,f3,f4,f5⟩:=hf it (by simp);obtain ⟨hd,hi⟩:=hg;obtain ⟨vs,rel,od,es',gd,_,hep',_,hpr,_⟩:=aNf hep (I.hok d _ hd);have go:s.heap.get? d=some o:=(I.hok d _ hd).1;rw [go] at gd;cases gd;rw [hep] at hep';cases hep';have lk:es.size=kvs.length:=by rw [KV.length rel,←hpr.length,v9]
  rw [hi,←lk] at st;exact aJo (I.ok.hd hc) st go hep fun h' eb=>⟨rfl,I.turned (t':=s.toks) (fun b o hb e=>eb b o hb e) f0 f1 f3 f4 f5⟩
 self:=fun A i s Q E st h=>by obtain ⟨k0,v0,st⟩:=st;have ty:s.TypeIs (.ref it) "dict_itemiterator":=⟨_,st,rfl⟩;refine bDS ty PySem.F.slot_dict_itemiterator_iter (bAI PySem.F.slot_dict_itemiterator_iter ty PySem.aAt ?_ (PySem.F.args_dict_itemiterator_iter_1 _));show wpAny _ _ (ret (.ref it)) _ _ s;exact j4 ⟨_,rfl,"dict_itemiterator",_,ty,PySem.F.slot_dict_itemiterator_next.lookup,h⟩
section
variable {X:Cx}
def aMb (te:TE):TI:=fun σ H R=>te σ H fun v H1=>∃d kvs,v=.ref d∧H1 d=some (.dK kvs)∧(∀kv∈kvs,∃n,kv.1=Sum.inr n)∧(∀ob u,X.H₀ d≠some (.frz ob u))∧∀o,R (aLo d o kvs) (upd H1 d (.frz o (.dK kvs)))
theorem aCt {elts:List Expr} {kt:Nat} {tp apos cpos:Pos} {e:Expr} {te:TE} (h:VE X e te) (hbase:attributeBase e "items" X.env (eval e X.env)=eval e X.env:=by rfl) (hline:(apos.endLine == cpos.line)=true:=by rfl) :
  VI X (.Tuple elts kt tp) (.Call (.Attribute e "items" apos) [] [] cpos) (aMb (X:=X) te):=⟨by
 intro bEP s σ H R I hh;refine wpAny_Call_method0_late hbase hline (thn (h.1 bEP s σ H _ I hh) fun v s1 ⟨x,H1,I1,r1,q1⟩=>?_);obtain ⟨d,kvs,e,hd,hk,nf,q⟩:=q1;subst e;cases r1;obtain ⟨z,hm,vs,rel,⟨o,es,ep,h1,h2,h3,h4,hpr,h6⟩⟩:=aM7 I1.hok hd;have lk:es.size=kvs.length:=by rw [KV.length rel,←hpr.length,v9]
 have ty:s1.TypeIs (.ref d) "dict":=(show s1.heap.DictOf (bL X.prog X.w) d vs from ⟨o,es,ep,h1,h2,h3,h4,hpr,h6⟩).typeIs;obtain ⟨y1,y2⟩:=aLu (T:="dict") I1 (show RelV (.ref d) (.ref d) from rfl) (.inr (.inr (.inl ⟨rfl,.inl ⟨kvs,hd⟩⟩)));refine ⟨"dict","dict.items",PySem.F.plainAttrs_dict,PySem.F.slot_dict_items,PySem.F.type_dict_items,y1,y2,bCY rfl (PySem.evalArgs_none ?_)⟩;refine aSs hm ty ?_;have I2:Inv X bEP σ (upd H1 d (.frz o (.dK kvs))) s1:=I1.setd hd (fun _ z=>by cases z) (fun _ z=>by cases z) (fun _ z=>by cases z) nf ⟨h1,I1.hok d _ hd⟩;have I3:Inv X bEP σ (upd H1 d (.frz o (.dK kvs))) { s1 with heap:=s1.heap.push { cls:=.type "dict_items",data:=.fields #[.ref d] } }:=I2.kept (t':=s1.toks) fun b o e=>d9 _ e;have gv:(s1.heap.push { cls:=.type "dict_items",data:=.fields #[.ref d] }).IsItemsView s1.heap.objs.size d:=⟨_,j5 _ rfl,rfl,rfl⟩;have gd:(s1.heap.push { cls:=.type "dict_items",data:=.fields #[.ref d] }).get? d=some o:=d9 _ h1;generalize s1.heap.push { cls:=.type "dict_items",data:=.fields #[.ref d] }=hp at I3 gv gd ⊢;refine aH1 (s:={ s1 with heap:=hp }) gv gd h3 ?_;refine ⟨hp.objs.size,[hp.objs.size],_,_,_,rfl,I3.kept (t':=s1.toks) fun b o e=>d9 _ e,aIl d _ o kvs es ep h3 hk,?_,fun b hb=>?_,q o⟩
 ·rw [←lk];exact ⟨_,_,j5 _ rfl⟩
 ·have e:b=hp.objs.size:=by simpa using hb
  subst e;exact I3.aFh (j6 _) (I3.hok.fresh (j6 _))⟩
end
theorem aKg {d:Addr} {o:Obj} {kvs:List (Key × V)} {g:TG} {tb:TS} {D:Ends} {σ:L2.St} {H:Hp} (Pv:Nat→L2.St→Hp→Prop) (h0:Pv 0 σ H) (hl:∀i σ H,i≤kvs.length→Pv i σ H→H d=some (.frz o (.dK kvs)))
  (hs:∀i kv T σ H,kvs[i]?=some kv→Pv i σ H→H T=none→g (.ref T) σ (upd H T (.tup [kV kv.1,kv.2])) fun σ2 H2=>tb { D with nx:=Pv (i+1),ct:=Pv (i+1),bk:=D.nx } σ2 H2) (hd:∀σ H,Pv kvs.length σ H→D.nx σ H) :
  ∃W:Nat→Nat→L2.St→Hp→Prop,(∃m,W 0 m σ H)∧∀i m σ H,W i m σ H →
   ((aLo d o kvs).stop i H∧D.nx σ H)∨((aLo d o kvs).go i H∧∃N:L2.St→Hp→Prop,(∀σ' H',N σ' H'→∃m',m'<m∧W (i+1) m' σ' H')∧∀x H',(aLo d o kvs).yld i H x H'→g x σ H' fun σ2 H2=>tb { D with nx:=N,ct:=N,bk:=D.nx } σ2 H2):=by
 refine ⟨fun i m σ H=>m=kvs.length - i∧i≤kvs.length∧Pv i σ H,⟨kvs.length,by simp,bAL _,h0⟩,?_⟩;rintro i m σ H ⟨rfl,hi,p⟩;have q:=hl i σ H hi p;by_cases hlt:i<kvs.length
 ·right;refine ⟨⟨q,hlt⟩,Pv (i+1),fun σ' H' h=>⟨kvs.length - (i+1),by lia,rfl,by lia,h⟩,?_⟩;rintro x H' ⟨T,kv,hT,rfl,hkv,rfl⟩;exact hs i kv T σ H hkv p hT
 ·left;have e:i=kvs.length:=by lia
  subst e;exact ⟨⟨q,rfl⟩,hd σ H p⟩
section
variable {X:Cx}
def aX1 (X:Cx) (t:TE):TE:=fun σ H Q=>∃d kvs,H d=some (.dK kvs)∧((∀ob u,X.H₀ d≠some (.frz ob u))→t σ H fun v H'=>(∃o,H' d=some (.frz o (.dK kvs)))∧Q v (upd H' d (.dK kvs)))
theorem aTk {e:Expr} {t:TE} (h:VE X e t):VE X e (aX1 X t):=⟨by
 intro bEP s σ H Q I ⟨d,kvs,hd,q⟩;have nf:∀ob u,X.H₀ d≠some (.frz ob u):=fun ob u e=>by have:=I.base.frzs d ob u e;rw [hd] at this;cases this
 refine thn (h.1 bEP s σ H _ I (q nf)) fun u s' ⟨v,H',I',r,⟨o,ho⟩,q'⟩=>?_;exact ⟨v,_,I'.setd ho (fun _ z=>by cases z) (fun _ z=>by cases z) (fun _ z=>by cases z) nf (I'.hok d _ ho).2,r,q'⟩⟩
end
theorem aGw {K:bEL} {d:Addr} {o:Obj} {kvs:List (Key × V)} {H:Hp} {σ0:L2.St} {te:TE} {Q:VK} (hd:H d=some (.frz o (.dK kvs))) (h2:Ps2 σ0 σ0) (hsz:kvs.length≤1000)
  (Rel:Addr→Nat→Hp→V→Prop) (st:∀{D i H1 H2 y},Same H1 H2→Rel D i H1 y→Rel D i H2 y) (su:∀{D i H1 ys zs y},H1 D=some (.lst ys)→Rel D i H1 y→Rel D i (L2.upd H1 D (.lst zs)) y)
  (he:∀(i:Nat) (kv:Key × V),kvs[i]?=some kv→∀H' R D ys,Same H H'→H D=none→H' D=some (.lst ys)→(∀y H2,Same H' H2→Rel D i H2 y→R y H2)→te ((σ0.set 0 (some (kV kv.1))).set 1 (some kv.2)) H' R)
  (q:∀D H' ys,Same H H'→H D=none→H' D=some (.lst ys)→ys.length=kvs.length→(∀i y,ys[i]?=some y→Rel D i H' y)→Q (.ref D) H'):uJ (aLo d o kvs) H σ0 (aKj K 2 (sJ (cO 0) (sJ (cO 1) aO3))) nG te Q:=by
 intro D hD;refine ⟨fun i m σ' H' ys=>m=kvs.length - i∧i≤kvs.length∧Same H H'∧H' D=some (.lst ys)∧ys.length=i∧Ps2 σ0 σ'∧∀j y,ys[j]?=some y→Rel D j H' y,⟨kvs.length,by simp,bAL _,aX hD _,aH,rfl,h2,fun j y e=>by cases e⟩,?_⟩;rintro i m σ' H' ys ⟨rfl,hi,sm,gD,ly,hps,hr⟩;refine ⟨gD,?_⟩;by_cases hlt:i<kvs.length
 ·right;refine ⟨⟨sm _ _ hd,hlt⟩,?_⟩;rintro x H2 ⟨T,kv,hT,rfl,hkv,rfl⟩;have s2:Same H' (L2.upd H' T (.tup [kV kv.1,kv.2])):=aX hT _;refine hg2 (SqT.of aH) hps fun σ2 hps2 hat=>?_;have hat':σ2=_:=hat;subst hat';dsimp only [nG];rw [if_pos rfl];refine he i kv hkv _ _ D ys (sm.trans s2) hD (s2 _ _ gD) fun y H3 s3 hy=>?_;have gD3:H3 D=some (.lst ys):=s3 _ _ (s2 _ _ gD);have s03:=sm.trans (s2.trans s3);refine ⟨gD3,bB6 (show ys.length≤1000 by lia) (by decide),kvs.length - (i+1),by lia,rfl,by lia,lH hD s03,aH,by rw [bAC,ly];rfl,hps2,fun j z e=>?_⟩;by_cases hj:j<ys.length
  ·rw [bB4 hj] at e;exact su gD3 (st (s2.trans s3) (hr j z e))
  ·rw [bBX (by lia)] at e;have ej:j - ys.length=0:=by have:=(List.getElem?_eq_some_iff.mp e).1;simpa using this
   rw [ej] at e;cases e;have:j=i:=by lia
   rw [this];exact su gD3 hy
 ·left;have e:i=kvs.length:=by lia
  subst e;exact ⟨⟨sm _ _ hd,rfl⟩,q D H' ys sm hD gD ly hr⟩
theorem aSn {X:Cx} {scope:Scope} {N:List Str} {tl:TE} {te:TE} {tt:TT} {g:TG} {σ:L2.St} {H:Hp} {Q:VK} (σ0:L2.St) (cap:Cap X scope N σ σ0) (h:tl σ H fun v H1=>∃d kvs,v=.ref d∧H1 d=some (.dK kvs)∧(∀kv∈kvs,∃n,kv.1=Sum.inr n)∧(∀ob u,X.H₀ d≠some (.frz ob u))∧∀o,uJ (aLo d o kvs) (upd H1 d (.frz o (.dK kvs))) σ0 g tt te Q):jW X scope N (aMb (X:=X) tl) g tt te σ H Q:=⟨σ0,cap,h⟩
section
variable {X:Cx}
def aS4:List V→Hp→VK→Prop:=fun xs H Q=>∃(d:Addr) (kvs:List (Key × V)),xs=[.ref d,.ty "dict"]∧H d=some (.dK kvs)∧Q (.bl true) H
theorem aIf:cJ X (.builtin "isinstance") aS4:=by intro bEP s σ H xs us Q I r h;obtain ⟨d,kvs,rfl,hd,q⟩:=h;obtain ⟨u,v,rfl,rx,rT⟩:=r.two;obtain rfl:v=Value.type "dict":=rT;obtain rfl:u=Value.ref d:=rx;obtain ⟨z,hm,vs,rel,dof⟩:=aM7 I.hok hd;obtain ⟨o,ho,hc⟩:=(show s.TypeIs (.ref d) "dict" from dof.typeIs);exact call_isinstance (isinstance_true F.isi_meta_dict F.isi_self_dict) ⟨⟨o,ho,hc⟩,⟨.bl true,H,I,rfl,q⟩⟩
end
end L2
namespace PySem
section
variable {prog:Program} {w:World} {A:Around} {E:bEM} {s:Shared}
theorem aG5 {a:Addr} {o:Obj} {xs:Array Value} {k:Nat} {Q:Option Value→Shared→Prop} (hx:s.heap.get? a=some o) (hc:o.cls=.type "list") (hdat:o.data=.seq xs k) (hd:o.dict=none) (hA:A.handled=none)
  (h:∀h' tk,(∀b u,s.heap.get? b=some u→h'.get? b=some u)→Q none { s with heap:=h',toks:=tk }):wpAny (model prog w) A (getAttr? (.ref a) "keys") Q E s:=by
 obtain ⟨c,dct,dat,sl⟩:=o;simp only at hc hdat hd;subst hc hdat hd;obtain ⟨hp,g,d,tk,os⟩:=s;have hT:∀tk',(⟨hp,g,d,tk',os⟩:Shared).TypeIs (.ref a) "list":=fun _=>⟨_,hx,rfl⟩;have f1:=sub_AttributeError;have f3:=F.slot_list_getattribute.lookup;have f4:=F.slot_list_getattribute.bind (.ref a);have f5:=am_list_getattr_none;unfold getAttr? getAttrBy? getAttrBy
 repeat (any_goals (first|assumption|exact hT _|((with_reducible show wpAny _ _ (call (Value.builtin "list.__getattribute__") _ _) _ _ _);refine call_meets F.slot_list_getattribute (hT _) am_entry_list_getattribute (F.args_list_getattribute_2 _ _) (meets_getattribute_miss_list a xs k sl "keys" _ aBl (by decide +kernel) (by size_fits)) ⟨hx,hA,fun h' tk' e hx'=>?_⟩)|wp_step))
 obtain ⟨t',u',he⟩:=hx'.there;show wpAny _ _ (getattributeRaised _ _ _ _ _ _ _) _ _ _;unfold getattributeRaised
 repeat (any_goals (first|assumption|wp_step))
 exact h _ _ hx'.keeps
end
section
variable {prog:Program} {w:World} {κ:Type} [DecidableEq κ] {knd:KeyKind prog w κ} {A:Around} {E:bEM} {s:Shared}
theorem wY {t:Addr} {its:Array Value} {kvs:List (κ × Value)} {Q:bEM} (hh:A.handled=none) {o:Obj} {n:Nat} (ho:s.heap.get? t=some o) (hc:o.cls=.type "list") (hx:o.data=.seq its n) (hod:o.dict=none) (hlen:kvs.length=its.size) (hb:its.size≤1000)
  (hp:∀(j:Nat) (v:Value) (kv:κ × Value),its[j]?=some v→kvs[j]?=some kv→pZ knd s.heap v kv)
  (q:∀h' tk,h'.DictOf knd s.heap.objs.size (merged [] kvs)→(∀b o,s.heap.get? b=some o→h'.get? b=some o)→Q (.ref s.heap.objs.size) { s with heap:=h',toks:=tk }) :
  wpAny (model prog w) A (call (.type "dict") [.ref t]) Q E s:=by
 refine callType_codes (Q₁:=fun obj s₁=>obj=.ref s.heap.objs.size∧s₁={ s with heap:=s.heap.push { cls:=.type "dict",data:=.dict #[] } }) F.kt_called_dict (F.kt_typeCall_dict_1 _) F.entry_dict_init (kt_code_dict_new _ ⟨rfl,rfl⟩) ?_;rintro obj s₁ ⟨rfl,rfl⟩;have hnew:(s.heap.push { cls:=.type "dict",data:=.dict #[] }).DictOf knd s.heap.objs.size []:=Heap.DictOf.new s.heap;have ho1:(s.heap.push { cls:=.type "dict",data:=.dict #[] }).get? t=some o:=d9 _ ho;have hT:Shared.TypeIs { s with heap:=s.heap.push { cls:=.type "dict",data:=.dict #[] } } (.ref t) "list":=⟨o,ho1,hc⟩;have hlt:t<s.heap.objs.size:=j8 ho;refine ⟨hnew.typeIs,F.args_dict_init_2 _ _,?_⟩;unfold Builtin.«dict.__init__»;refine c7 ?_;unfold Builtin.Dict.selfAndRest;refine c7 (bDU hnew.typeIs ?_);show wpAny _ _ (pure (s.heap.objs.size,[Value.ref t])) _ _ _;refine j4 ?_;show wpAny _ _ (Builtin.Dict.updateFrom "dict.__init__" s.heap.objs.size (.ref t) [] .none) _ _ _;unfold Builtin.Dict.updateFrom;refine c7 (bDO hT ?_);rw [if_pos (by decide)];refine c7 (aG5 ho1 hc hx hod (by first|exact hh|simp [hh]) fun h2 tk2 kp2=>?_);rw [if_pos (show (none:Option Value).isNone=true from rfl)];have ho2:h2.get? t=some o:=kp2 _ _ ho1;have ht2:h2.IsList t its:=⟨o,ho2,hc,n,hx⟩;refine c7 (bCM (c7 (bBW ht2 ?_)));have hs1:(s.heap.push { cls:=.type "dict",data:=.dict #[] }).objs.size=s.heap.objs.size+1:=bAT ..;have hs2:s.heap.objs.size<h2.objs.size:=by obtain ⟨od,_,_,hg,_⟩:=id hnew;exact j8 (kp2 _ _ hg)
 refine j4 ⟨bCI cD _,?_⟩;have hne:t≠h2.objs.size:=m9 (bCO hlt hs2);refine pG (knd:=knd) (Walks.list (by first|exact hh|simp [hh]) _ t hne its) s.heap.objs.size ?_ kvs hlen hb ?_ its.size 0 _ _ (by lia) ⟨⟨_,j5 _ rfl,rfl,rfl⟩,ht2.push _⟩ ?_ ?_ fun h' tk kp hd'=>?_
 ·simp only [bAB,v6,or_false,not_or];exact ⟨m9 hs2,bBL hlt⟩
 ·intro j v e p ev;have hj:j<kvs.length:=by rw [hlen];exact (Array.getElem?_eq_some_iff.mp e).1
  obtain ⟨p',key,ev',⟨o',ho',_⟩,_⟩:=hp j v _ e (j0 hj);rw [ev] at ev';cases ev';have:=j8 ho';simp only [bAB,v6,or_false,not_or];exact ⟨m9 this,m9 (bCO this hs2)⟩
 ·exact (hnew.at fun o e=>kp2 _ _ e).at fun o e=>d9 _ e
 ·intro j v kv e ek;exact (hp j v kv e ek).at fun p _ o eo=>d9 _ (kp2 _ _ (d9 _ eo))
 ·refine ⟨rfl,q h' tk hd' fun b o e=>kp b o ?_ (d9 _ (kp2 _ _ (d9 _ e)))⟩;have:=j8 e;simp only [bAB,v6,or_false,not_or];exact ⟨m9 this,m9 (bCO this hs2)⟩
end
end PySem
namespace L2
open PySem PySem.Spec PyProof.Rows
section
variable {X:Cx}
def aXc (K:bEL):List V→Hp→VK→Prop:=fun xs H Q=>∃t us kvs,xs=[.ref t]∧H t=some (.lst us)∧aIm K H us kvs∧us.length≤1000∧∀p H',H p=none→Same H H'→H' p=some (.dK (iY [] kvs))→Q (.ref p) H'
theorem aLb (hc:X.calm=true):cJ X (.type "dict") (aXc X.K):=by intro bEP s σ H xs us Q I r h;obtain ⟨t,us,kvs,rfl,ht,hp,hl,q⟩:=h;obtain ⟨u,rfl,ru⟩:=vals1 r;cases ru;obtain ⟨hz,its,n,rv,ho⟩:=I.hok t _ ht;have e1:=rv.length;obtain ⟨vs,h1,h2,h3⟩:=aRi I hp rv;have lk:=KV.length h1;refine wY (knd:=bL X.prog X.w) (kvs:=vs) (I.ok.hd hc) ho rfl rfl rfl (by rw [j9];exact h2) (by rw [j9];lia) (fun j v kv e e'=>h3 j v kv (by simpa using e) e') fun h' tk hd kp=>?_;have hf:H s.heap.objs.size=none:=I.hok.fresh (j6 _);refine ⟨.ref s.heap.objs.size,_,I.laid (t':=tk) (o:=.dK (iY [] kvs)) kp (j6 _) ?_,rfl,q _ _ hf (aX hf _) aH⟩;have lm:=jJ kvs [];simp only [bBH] at lm;exact ⟨small (by lia),beq_eq_false_iff_ne.mpr (Ne.symm (m9 I.big)),_,KV.merge h1 .nil,hd⟩
end
end L2
namespace My
open PySem PySem.Spec PyProof.Rows L2
section
variable {P:Program} {w:World} {K:bEL} {mg:bEO} {base:Heap}
def aVx (k:Str):Bool:=decide (k = "number")
def knds (hd:Hdr):List Bool:=hd.map fun c=>aVx c.2
theorem aGm {X:Cx} {K:bEL} (h:X.K=K:=by rfl):cJ X (.builtin "sorted") (aRs K):=by subst h;exact gF
theorem aI4 {X:Cx} {K:bEL} (h:X.K=K:=by rfl):cJ X (.type "list") (aRz K):=by subst h;exact aA1
theorem none_of {H H':Hp} {D:Addr} (e:Same H H') (h:H' D=none):H D=none:=by
 cases g:H D with
 |none=>rfl
 |some o=>rw [e _ _ g] at h;cases h
def But (d:Addr) (H H':Hp):Prop:=∀b o,b≠d→H b=some o→H' b=some o
section
variable {K:bEL} {H H':Hp} {d:Addr} {kvs:List (Key × V)}
def eE (H:Hp) (d:Addr):Prop:=(∀xs,H d≠some (.tup xs))∧(∀ob xs,H d≠some (.frz ob (.tup xs)))∧∀xs,H d≠some (.lst xs)
theorem eE.dK (h:H d=some (.dK kvs)):eE H d:=⟨fun _ z=>(by rw [h] at z;cases z),fun _ _ z=>(by rw [h] at z;cases z),fun _ z=>(by rw [h] at z;cases z)⟩
theorem eE.fz {o:Obj} (h:H d=some (.frz o (.dK kvs))):eE H d:=⟨fun _ z=>(by rw [h] at z;cases z),fun _ _ z=>(by rw [h] at z;cases z),fun _ z=>(by rw [h] at z;cases z)⟩
theorem But.aV {a:Addr} {xs:List V} (b:But d H H') (hd:eE H d) (h:SqT K H a xs):SqT K H' a xs:=by
 rcases h with (h|⟨o,h⟩)|h
 ·exact .inl (.inl (b _ _ (fun z=>hd.1 _ (z ▸ h)) h))
 ·exact .inl (.inr ⟨o,b _ _ (fun z=>hd.2.1 _ _ (z ▸ h)) h⟩)
 ·exact .inr h
theorem But.lst {a:Addr} {xs:List V} (b:But d H H') (hd:eE H d) (h:H a=some (.lst xs)):H' a=some (.lst xs):=b _ _ (fun z=>hd.2.2 _ (z ▸ h)) h
theorem But.hdr {v:V} {hr:Hdr} (b:But d H H') (hd:eE H d) (h:jR K H v hr):jR K H' v hr:=by obtain ⟨a,us,rfl,ha,hu⟩:=h;exact ⟨a,us,rfl,b.aV hd ha,hu.imp fun _ _ ⟨p,e,hp⟩=>⟨p,e,b.aV hd hp⟩⟩
theorem But.pl {v:V} {pl:Plc} (b:But d H H') (hd:eE H d) (h:oW K H v pl):oW K H' v pl:=by
 cases pl with
 |copies=>obtain ⟨a,rfl,ha⟩:=h;exact ⟨a,rfl,b.aV hd ha⟩
 |keys n=>obtain ⟨a,rfl,ha⟩:=h;exact ⟨a,rfl,b.aV hd ha⟩
 |spans n h0 cs=>obtain ⟨a,vc,rfl,ha,⟨c,us,rfl,hc,hu⟩⟩:=h;exact ⟨a,_,rfl,b.aV hd ha,c,us,rfl,b.aV hd hc,hu.imp fun _ _ ⟨p,e,hp⟩=>⟨p,e,b.aV hd hp⟩⟩
theorem But.rows {L:Addr} {rs:List (List V)} (b:But d H H') (hd:eE H d) (h:dJ K H L rs):dJ K H' L rs:=by obtain ⟨us,h1,h2⟩:=h;exact ⟨us,b.lst hd h1,h2.imp fun _ _ ⟨p,e,hp⟩=>⟨p,e,b.aV hd hp⟩⟩
theorem But.tb {v vh vp:V} {L:Addr} {t:Tb} (b:But d H H') (hd:eE H d) (h:lV K H v vh vp L t):lV K H' v vh vp L t:=by obtain ⟨a,rfl,ha,h1,h2,h3⟩:=h;exact ⟨a,rfl,b.aV hd ha,b.hdr hd h1,b.pl hd h2,b.rows hd h3⟩
theorem But.upd {u:HO}:But d H (L2.upd H d u):=fun b o hb h=>by rw [aK hb];exact h
theorem But.same {H2:Hp} (b:But d H H') (s:Same H' H2):But d H H2:=fun c o hc h=>s _ _ (b c o hc h)
theorem But.thaw {H2:Hp} (b:But d H H2) (hd:H d=some (.dK kvs)):Same H (L2.upd H2 d (.dK kvs)):=fun c o h=>by
 by_cases e:c=d
 ·rw [e,aH,←hd,←e];exact h
 ·rw [aK e];exact b c o e h
end
structure En where
 n:Str
 v:V
 vh:V
 vp:V
 L:Addr
 t:Tb
def enK (es:List En):List (Key × V):=es.map fun e=>(Sum.inr e.n,e.v)
structure lL (K:bEL) (H:Hp) (d:Addr) (es:List En):Prop where
 at_:H d=some (.dK (enK es))
 nd:(es.map (·.n)).Nodup
 few:es.length≤60
 nm:∀e∈es,Nm e.n
 tb:∀e∈es,lV K H e.v e.vh e.vp e.L e.t
theorem lV.same {K:bEL} {H H':Hp} {v vh vp:V} {L:Addr} {t:Tb} (s:Same H H') (h:lV K H v vh vp L t):lV K H' v vh vp L t:=by obtain ⟨a,rfl,ha,h1,h2,h3⟩:=h;exact ⟨a,rfl,s.aV ha,h1.same s,h2.same s,h3.same s⟩
theorem lL.same {K:bEL} {H H':Hp} {d:Addr} {es:List En} (s:Same H H') (h:lL K H d es):lL K H' d es:=⟨s _ _ h.at_,h.nd,h.few,h.nm,fun e he=>(h.tb e he).same s⟩
theorem aQj {es:List En} {i:Nat} {kv:Key × V} (h:(enK es)[i]?=some kv):∃e,es[i]?=some e∧kv=(Sum.inr e.n,e.v):=by unfold enK at h;rw [t8] at h;obtain ⟨e,he,rfl⟩:=Option.map_eq_some_iff.mp h;exact ⟨e,he,rfl⟩
theorem aMt {es:List En}:∀kv∈enK es,∃n,kv.1=Sum.inr n:=fun kv h=>by unfold enK at h;obtain ⟨e,_,rfl⟩:=List.mem_map.mp h;exact ⟨_,rfl⟩
theorem uZ {es:List En}:(enK es).length=es.length:=m7 _
def aL6 (K:bEL) (Pt:Addr):Sp:=fun vs H Q _=>∃(d:Addr) (m:Int) (es:List En),vs=[.int m,.ref d]∧1≤m∧m≤6∧lL K H d es∧(∀e∈es,pH m e.t)∧H Pt=some (.tab qC)∧∀H',Same H H'→Q .non H'
theorem aF2 (T:Txt w K mg) {Pt:Addr} (dX:Ok P w K mg base 1 "is_whole" ["thing"] (nH K)) (iZ:Ok P w K mg base 2 "is_name" ["thing"] (aCl K nameB)) (aLv:Ok P w K mg base 8 "is_table" ["thing","houses"] (aV7 K Pt)):Ok P w K mg base 9 "need_town" ["houses","tables"] (aL6 K Pt):=by
 refine Ok.ofV T.aHa oF (fun vs H Q E h=>?_) (fun f cdv A outer s H vs Q E hr h=>?_)
 ·obtain ⟨d,m,es,rfl,_⟩:=h;rfl
 obtain ⟨d,m,es,rfl,m1,m6,hE,hok,hP,q⟩:=h;refine ⟨_,(aF (cG (VW.pt (iU (cM (bZ (aP (dX.mono (by decide)) hr (by rfl) (aB (vv 0) aA)))) (iU (cM (zQ aAe aAe aC (vv 0) (rD (by rfl) T.aB2))) (gG (cM (bZ (aO aIf (by rfl) T.bQ bM (aB (vv 1) (aB (eQ (v:=.ty "dict") (by rfl) T.aE3 yZ rfl) aA))))))))) (aG jP) bB) (aG (aUt (jD PassesOwn.never rfl (aCt (vv 1)) (aAw rfl (bI (aQ (i:=2) oF.nd rfl (by trivial)) (bI (aQ (i:=3) oF.nd rfl (by trivial)) gC))) (aG (cG (VW.pt (iU (cM (bZ (aP (iZ.mono (by decide)) hr (by rfl) (aB (vv 2) aA)))) (gG (cM (bZ (aP (aLv.mono (by decide)) hr (by rfl) (aB (vv 3) (aB (vv 0) aA)))))))) (aG jP) bB)))))),?_⟩;refine ⟨_,rfl,_,rfl,.inr (.inl ⟨m,rfl⟩),_,rfl,bY ?_⟩;refine ⟨_,rfl,_,_,rfl,rfl,_,rfl,?_⟩;rw [v8 m1];refine dC ⟨_,_,rfl,rfl,_,rfl,?_⟩;rw [v8 m6];refine bY ⟨_,rfl,d,_,rfl,hE.at_,_,rfl,bY ?_⟩;refine ⟨d,enK es,hE.at_,fun nf=>⟨_,rfl,d,_,rfl,hE.at_,aMt,nf,fun o=>?_⟩⟩;have hPd:Pt≠d:=fun z=>by rw [z,hE.at_] at hP;cases hP
 have b0:But d H (L2.upd H d (.frz o (.dK (enK es)))):=But.upd;have g0:L2.upd H d (.frz o (.dK (enK es))) d=some (.frz o (.dK (enK es))):=aH;generalize L2.upd H d (.frz o (.dK (enK es)))=B at b0 g0 ⊢;refine aKg (fun i σ H'=>Same B H'∧∃l1 l2,σ=[some (.int m),some (.ref d),l1,l2]) ⟨Same.refl B,_,_,rfl⟩ (fun i σ H' _ p=>p.1 _ _ g0) (fun i kv Tp σ H' ek p hT=>?_) fun σ H' p=>?_
 ·obtain ⟨sm,l1,l2,rfl⟩:=p;obtain ⟨en,he,rfl⟩:=aQj ek;have hm:=w6 he;have sT:Same H' (L2.upd H' Tp (.tup [kV (Sum.inr en.n),en.v])):=aX hT _;have bT:But d H (L2.upd H' Tp (.tup [kV (Sum.inr en.n),en.v])):=(b0.same sm).same sT;refine ⟨Tp,_,rfl,SqT.of aH,rfl,_,_,rfl,_,_,rfl,rfl,?_⟩;refine ⟨_,rfl,_,rfl,(hE.nm en hm).th,fun H2 s2=>⟨_,rfl,?_⟩⟩;rw [show nameB (kV (Sum.inr en.n,en.v).fst)=true from hE.nm en hm];refine bY ?_;have b2:=bT.same s2;refine ⟨_,rfl,_,rfl,en.v,en.vh,en.vp,en.L,m,en.t,rfl,b2.tb (eE.dK hE.at_) (hE.tb en hm),hok en hm,b2 _ _ hPd hP,fun H3 s3=>⟨_,rfl,bY ?_⟩⟩;exact ⟨sm.trans (sT.trans (s2.trans s3)),_,_,rfl⟩
 ·obtain ⟨sm,l1,l2,rfl⟩:=p;exact ⟨⟨o,sm _ _ g0⟩,q _ ((b0.same sm).thaw hE.at_)⟩
def uC (e:En) (v:V) (L:Addr):En:={ e with v:=v,L:=L,t:={ e.t with rows:=srt e.t.rows } }
def wG (K:bEL) (Pt:Addr):Sp:=fun vs H Q _=>∃(d:Addr) (m:Int) (es:List En),vs=[.int m,.ref d]∧1≤m∧m≤6∧lL K H d es∧(∀e∈es,pH m e.t)∧H Pt=some (.tab qC) ∧
 ∀d' H' es',H d'=none→Same H H'→lL K H' d' es'→cL (fun e e'=>∃v L,e'=uC e v L∧H L=none) es es'→Q (.ref d') H'
theorem aZz {kd:Str} {v:V} (h:bJ kd v):KdV (aVx kd) v:=by
 cases h with
 |num=>exact ⟨_,rfl⟩
 |wrd _ _=>exact ⟨_,rfl⟩
theorem aAr {hd:Hdr} {r:List V} (h:aBp hd r):KdR (knds hd) r:=by
 unfold aBp at h;unfold KdR knds
 induction h with
 |nil=>exact .nil
 |cons a _ ih=>exact .cons (aZz a) ih
theorem zE {hd:Hdr} (h:Good hd):knds hd≠[]:=fun z=>by have e:=congrArg List.length z;unfold knds at e;rw [m7] at e;have:=h.2.1;rw [e] at this;exact absurd this (by decide)
theorem jO {α β:Type} {R:α→β→Prop} {as:List α} {bs:List β} (h:cL R as bs):Al2 R as bs:=by
 induction h with
 |nil=>exact .nil
 |cons r _ ih=>exact .cons r ih
theorem vH {α β:Type} {R:α→β→Prop} {as:List α} {bs:List β} (h:Al2 R as bs):cL R as bs:=by
 induction h with
 |nil=>exact .nil
 |cons r _ ih=>exact .cons r ih
def PlR (K:bEL) (H0:Hp) (es:List En) (D:Addr) (i:Nat) (H:Hp) (y:V):Prop:=∃e v L tp,es[i]?=some e∧y=.ref tp∧SqT K H tp [.str e.n,v]∧lV K H v e.vh e.vp L { e.t with rows:=srt e.t.rows }∧L≠D∧H0 L=none
theorem lV.mU {K:bEL} {H:Hp} {D L:Addr} {ys zs:List V} {v vh vp:V} {t:Tb} (gD:H D=some (.lst ys)) (hne:L≠D) (h:lV K H v vh vp L t):lV K (L2.upd H D (.lst zs)) v vh vp L t:=by
 obtain ⟨a,rfl,ha,⟨b,us,rfl,hb,hu⟩,h2,⟨ws,h3,h4⟩⟩:=h;refine ⟨a,rfl,SqT.mU gD ha,⟨b,us,rfl,SqT.mU gD hb,hu.imp fun _ _ ⟨p,e,hp⟩=>⟨p,e,SqT.mU gD hp⟩⟩,?_,⟨ws,by rw [aK hne];exact h3,h4.imp fun _ _ ⟨p,e,hp⟩=>⟨p,e,SqT.mU gD hp⟩⟩⟩;cases hpl:t.pl with
 |copies=>rw [hpl] at h2;obtain ⟨a2,rfl,ha2⟩:=h2;exact ⟨a2,rfl,SqT.mU gD ha2⟩
 |keys n=>rw [hpl] at h2;obtain ⟨a2,rfl,ha2⟩:=h2;exact ⟨a2,rfl,SqT.mU gD ha2⟩
 |spans n h0 cs=>rw [hpl] at h2;obtain ⟨a2,vc,rfl,ha2,⟨c,us,rfl,hc,hu⟩⟩:=h2;exact ⟨a2,_,rfl,SqT.mU gD ha2,c,us,rfl,SqT.mU gD hc,hu.imp fun _ _ ⟨p,e,hp⟩=>⟨p,e,SqT.mU gD hp⟩⟩
theorem aMv {K:bEL} {H0 H:Hp} {D:Addr}:∀{es:List En} {ys:List V},ys.length=es.length→(∀(i:Nat) (y:V),ys[i]?=some y→PlR K H0 es D i H y) →
  ∃es',cL (fun e e'=>∃v L,e'=uC e v L∧H0 L=none) es es'∧cL (fun y (e':En)=>∃tp,y=.ref tp∧SqT K H tp [.str e'.n,e'.v]) ys es'∧∀e'∈es',lV K H e'.v e'.vh e'.vp e'.L e'.t
 |[],[],_,_=>⟨[],.nil,.nil,fun e h=>by cases h⟩
 |en::es,y::ys,hl,h=>by
  obtain ⟨es',a1,a2,a3⟩:=aMv (es:=es) (ys:=ys) (Nat.succ.inj hl) fun i y hy=>by obtain ⟨e,v,L,tp,he,r⟩:=h (i+1) y (by simpa using hy);exact ⟨e,v,L,tp,by simpa using he,r⟩
  obtain ⟨e,v,L,tp,he,rfl,ht,hb,_,hL⟩:=h 0 y rfl;cases he;refine ⟨uC en v L::es',.cons ⟨v,L,rfl,hL⟩ a1,.cons ⟨tp,rfl,ht⟩ a2,fun e' h'=>?_⟩;rcases List.mem_cons.mp h' with rfl|h'
  ·exact hb
  ·exact a3 e' h'
theorem aWo {K:bEL} {H:Hp} {ys:List V} {es':List En} (h:cL (fun y (e':En)=>∃tp,y=.ref tp∧SqT K H tp [.str e'.n,e'.v]) ys es'):aIm K H ys (enK es'):=by
 unfold enK
 induction h with
 |nil=>exact .nil
 |cons r _ ih=>exact .cons r ih
theorem aH7 {H0:Hp} {es es':List En} (h:cL (fun e e'=>∃v L,e'=uC e v L∧H0 L=none) es es'):es'.map (·.n)=es.map (·.n):=by
 induction h with
 |nil=>rfl
 |cons r _ ih=>obtain ⟨v,L,rfl,_⟩:=r;rw [bAN,bAN,ih];rfl
theorem xK (T:Txt w K mg) {Pt:Addr} (aGi:Ok P w K mg base 9 "need_town" ["houses","tables"] (aL6 K Pt)):Ok P w K mg base 10 "placed_tables" ["houses","tables"] (wG K Pt):=by
 refine Ok.ofV T.yR wX (fun vs H Q E h=>?_) (fun f cdv A outer s H vs Q E hr h=>?_)
 ·obtain ⟨d,m,es,rfl,_⟩:=h;rfl
 obtain ⟨d,m,es,rfl,m1,m6,hE,hok,hP,q⟩:=h;refine ⟨_,(aF (jL (aP (aGi.mono (by decide)) hr (by rfl) (aB (vv 0) (aB (vv 1) aA)))) (aG (aM (cX (aLb rfl) (by rfl) T.aE3 yZ (aB (aTk (cT (N:=["name","table"]) (by trivial) (iC (by decide +kernel)) rfl (aCt (vv 1)) (fun cl s' H' fp=>⟨(rR (K:=K) (n:=2) rfl (bI (aQ (i:=0) (show (["name","table"]:List Str).Nodup from by decide +kernel) rfl (Or.inl rfl)) (bI (aQ (i:=1) (show (["name","table"]:List Str).Nodup from by decide +kernel) rfl (Or.inl rfl)) gC))),eX,(cV (aB (vv 0) (aB (cV (aB (aL (cH (K:=K)) (vv 1) aC (fun _ _=>rfl)) (aB (aL (cH (K:=K)) (vv 1) aC (fun _ _=>rfl)) (aB (aO (aGm (K:=K)) (by rfl) T.jQ gK (aB (aL (cH (K:=K)) (vv 1) aC (fun _ _=>rfl)) aA)) aA)))) aA)))⟩))) aA))))),?_⟩;refine ⟨_,rfl,_,rfl,d,m,es,rfl,m1,m6,hE,hok,hP,fun H1 s1=>?_⟩;have hE1:=hE.same s1;dsimp only [uT,tCB,dR];refine ⟨d,enK es,hE1.at_,fun nf=>aSn [none,none] rQ ⟨_,rfl,d,_,rfl,hE1.at_,aMt,nf,fun o=>?_⟩⟩;have b0:But d H1 (L2.upd H1 d (.frz o (.dK (enK es)))):=But.upd;have g0:L2.upd H1 d (.frz o (.dK (enK es))) d=some (.frz o (.dK (enK es))):=aH;have n0:∀b,L2.upd H1 d (.frz o (.dK (enK es))) b=none→H1 b=none:=fun b h=>by
  by_cases e:b=d
  ·rw [e,aH] at h;cases h
  ·rw [aK e] at h;exact h
 generalize L2.upd H1 d (.frz o (.dK (enK es)))=B at b0 g0 n0 ⊢;refine aGw g0 ⟨none,none,rfl⟩ (by rw [uZ];have:=hE.few;lia) (PlR K H es) ?_ ?_ (fun i kv ek H' R D ys sm hD gD r=>?_) fun D H' ys sm hD gD ly hy=>?_
 ·rintro D i H2 H3 y s2 ⟨e,v,L,tp,he,rfl,ht,hb,hne⟩;exact ⟨e,v,L,tp,he,rfl,s2.aV ht,hb.same s2,hne⟩
 ·rintro D i H2 ys zs y gD ⟨e,v,L,tp,he,rfl,ht,hb,hne,h0⟩;exact ⟨e,v,L,tp,he,rfl,SqT.mU gD ht,hb.mU gD hne,hne,h0⟩
 ·obtain ⟨en,he,rfl⟩:=aQj ek;have hm:=w6 he;have hok1:=hok en hm;obtain ⟨a,ev,ha,h1,h2,⟨us,h3,h4⟩⟩:=(b0.same sm).tb (eE.dK hE1.at_) (hE1.tb en hm);have lu:=h4.len;have few:=hok1.few;refine ⟨_,rfl,_,rfl,a,_,0,_,ev,rfl,ha,at0 _ _,_,rfl,a,_,1,_,ev,rfl,ha,at1 _ _ _,_,rfl,a,_,2,_,ev,rfl,ha,at2 _ _ _ _,en.L,us,en.t.rows,knds en.t.hd,rfl,SqL.of h3,jO h4,by lia,zE hok1.hd.1,fun r hr'=>aAr (hok1.rows r hr'),fun L' H2 us' hN s2 g2 h5=>?_⟩;refine ⟨by show 3≤sizeLine;decide,fun t1 H3 _ s3 g3=>⟨by show 2≤sizeLine;decide,fun t2 H4 _ s4 g4=>r _ H4 (s2.trans (s3.trans s4)) ?_⟩⟩;have s24:=s2.trans (s3.trans s4);refine ⟨en,.ref t1,L',t2,he,rfl,SqT.of g4,⟨t1,rfl,s4.aV (SqT.of g3),h1.same s24,h2.same s24,⟨us',(s3.trans s4) _ _ g2,(vH h5).imp fun _ _ z=>z.same s24⟩⟩,fun z=>?_,none_of s1 (n0 _ (none_of sm hN))⟩;rw [z,gD] at hN;cases hN
 ·rw [uZ] at ly;obtain ⟨es',a1,a2,a3⟩:=aMv ly hy;have bD:=b0.same sm;refine ⟨⟨o,sm _ _ g0⟩,?_⟩;have nz:eE H' d:=eE.fz (sm _ _ g0);have bz:But d H' (L2.upd H' d (.dK (enK es))):=But.upd;have s05:Same H1 (L2.upd H' d (.dK (enK es))):=bD.thaw hE1.at_;have gD5:=bz.lst nz gD;have a2':cL (fun y (e':En)=>∃tp,y=.ref tp∧SqT K (L2.upd H' d (.dK (enK es))) tp [.str e'.n,e'.v]) ys es':=a2.imp fun y e' ⟨tp,ey,ht⟩=>⟨tp,ey,bz.aV nz ht⟩;have hdn:H D=none:=none_of s1 (n0 _ hD);generalize L2.upd H' d (.dK (enK es))=H5 at bz s05 gD5 a2';have le:=a2.len;have la:=a1.len;have fw:=hE.few;refine ⟨D,ys,enK es',rfl,gD5,aWo a2',by lia,fun p H6 hN s6 g6=>?_⟩;have ndn:(es'.map (·.n)).Nodup:=by rw [aH7 a1];exact hE.nd
  have ndk:((enK es').map (·.1)).Nodup:=by unfold enK;rw [bC0];exact List.pairwise_map.mpr ((List.pairwise_map.mp ndn).imp fun {a b} hab z=>hab (Sum.inr.inj z))
  rw [nU _ [] (by rw [bCF];exact ndk),bCF] at g6;refine q p H6 es' (none_of s1 (none_of s05 hN)) (s1.trans (s05.trans s6)) ⟨g6,ndn,by lia,fun e' h'=>?_,fun e' h'=>(bz.tb nz (a3 e' h')).same s6⟩ a1;have:e'.n∈es.map (·.n):=by rw [←aH7 a1];exact bCG h'
  obtain ⟨e0,h0,e1⟩:=List.mem_map.mp this;rw [←e1];exact hE.nm e0 h0
end
end My
namespace L2
open PySem PySem.Spec PyProof.Rows
section
variable {X:Cx} {scope:Scope} {N:List Str} {wi:TI} {te:TE} {σ:L2.St} {H:Hp} {Q:VK}
theorem aCy {tt:TT} (xs:List V) (p:Nat→Bool) (σ0:L2.St) (cap:Cap X scope N σ σ0) (hsz:xs.length≤sizeLine)
  (hw:∀R:It→Hp→Prop,(∀J:It,(∀H' i x,Same H H'→xs[i]?=some x→J.go i H'∧∀y H2,J.yld i H' y H2→H2=H'∧y=x)→(∀H',Same H H'→J.stop xs.length H')→R J H)→wi σ H R)
  (ht:∀(i:Nat) (x:V),xs[i]?=some x→∀H' R l,Same H H'→(∀H2,Same H' H2→R (p i) H2)→tt ((σ0.set 0 l).set 0 (some x)) H' R) (h0:σ0[0]?=some none)
  (q:∀D H',H D=none→Same H H'→H' D=some (.lst (sel p 0 xs))→Q (.ref D) H') :
  jW X scope N wi (cO 0) tt (uP 0) σ H Q:=by
 refine ⟨σ0,cap,hw _ fun J go stop D hD=>?_⟩;refine ⟨fun i m σ' H' ys=>i≤xs.length∧m=xs.length - i∧(∃l,σ'=σ0.set 0 l)∧Same H H'∧H' D=some (.lst ys)∧ys=sel p 0 (xs.take i),⟨xs.length,bAL _,rfl,⟨none,kZ h0⟩,aX hD _,aH,rfl⟩,?_⟩;rintro i m σ' H' ys ⟨hi,rfl,⟨l,rfl⟩,sm,hL,rfl⟩;refine ⟨hL,?_⟩;by_cases hlt:i<xs.length
 ·right;obtain ⟨g1,g2⟩:=go H' i xs[i] sm (j0 hlt);refine ⟨g1,fun x H2 hy=>?_⟩;obtain ⟨rfl,rfl⟩:=g2 x H2 hy;unfold cO;dsimp only;have hj:0<σ0.length:=by
   by_cases z:0<σ0.length
   ·exact z
   ·rw [bAO (by lia)] at h0;cases h0
  have tk:sel p 0 (xs.take (i+1))=sel p 0 (xs.take i)++(if p i then [xs[i]] else []):=by rw [bBC,j0 hlt];show sel p 0 (xs.take i++[xs[i]])=_;rw [aBi,bAE,bDA,Nat.min_eq_left (bCX hlt)]
  refine ht i xs[i] (j0 hlt) _ _ l sm fun H3 s3=>?_;cases hp:p i with
  |true=>
   rw [if_pos rfl];refine ⟨xs[i],by rw [bBZ,bDM hj],s3 _ _ hL,?_,xs.length - (i+1),by lia,hlt,rfl,⟨some xs[i],by rw [bBZ]⟩,?_,aH,?_⟩
   ·have:=aD3 p 0 (xs.take i);rw [bAE] at this;lia
   ·intro b o e;rw [aK (aU e hD)];exact s3 _ _ (sm _ _ e)
   ·rw [tk,hp];rfl
  |false=>rw [if_neg (by simp)];refine ⟨s3 _ _ hL,xs.length - (i+1),by lia,hlt,rfl,⟨some xs[i],by rw [bBZ]⟩,sm.trans s3,s3 _ _ hL,?_⟩;rw [tk,hp];simp
 ·left;have e:i=xs.length:=by lia
  subst e;refine ⟨stop _ sm,?_⟩;rw [bB8] at hL;exact q D _ hD sm hL
end
end L2
namespace My
open PySem PySem.Spec PyProof.Rows L2
section
variable {P:Program} {w:World} {K:bEL} {mg:bEO} {base:Heap}
section
variable {X:Cx}
def aWv:R2:=fun x y H Q=>(∃a b,x=.int a∧y=.int b∧Q (.bl (!decide (b<a))) H)∨∃a b:Str,x=.str a∧y=.str b∧Q (.bl (!decide (b.cps.toList<a.cps.toList))) H
theorem aQp:OpR X (compareOp .LtE) aWv:=by
 intro bEP s σ H x y v u Q I rx ry h;rcases h with ⟨a,b,rfl,rfl,q⟩|⟨a,b,rfl,rfl,q⟩
 ·obtain ⟨t,rfl⟩:=rx;obtain ⟨t',rfl⟩:=ry;refine PyProof.Rows.le_int ?_;rw [show decide (a≤b)=!decide (b<a) by by_cases h:b<a <;> simp [h] <;> lia];exact ⟨.bl _,H,I,rfl,q⟩
 ·obtain ⟨t,rfl⟩:=rx;obtain ⟨t',rfl⟩:=ry;exact P.le_str ⟨.bl _,H,I,rfl,q⟩
end
theorem aO6 {X:Cx} {tg a b:Expr} {t:TA} {p pos:Pos} (hg:Gl X "range") (hm:X.mg "range"=none) (ha:VA X [a,b] t) (hp:cU a=true:=by rfl) (hp2:cU b=true:=by rfl):VI X tg (.Call (.Name "range" p) [a,b] [] pos) (aV6 t):=⟨aPd hg hm ha.1 (by rw [aN hp,aN (es:=[]) hp2];rfl) (by rw [aN (es:=[]) hp2];rfl)⟩
def tW (K:bEL):Sp:=fun vs H Q _=>∃(d:Addr) (es:List En) (e:En),vs=[.ref d,.str e.n]∧lL K H d es∧e∈es∧∀H',Same H H'→Q e.v H'
theorem aNe:∀{es:List En} {e:En},(es.map (·.n)).Nodup→e∈es→pX (enK es) (Sum.inr e.n)=some e.v
 |[],e,nd,h=>by cases h
 |a::es,e,nd,h=>by
  rw [bAN,bDH] at nd;rcases List.mem_cons.mp h with rfl|h
  ·exact pW rfl
  ·have:a.n≠e.n:=fun z=>nd.1 (z ▸ bCG h);show pX ((Sum.inr a.n,a.v)::enK es) (Sum.inr e.n)=_;rw [pL (fun z=>this (Sum.inr.inj z))];exact aNe nd.2 h
theorem aGh (T:Txt w K mg) (iZ:Ok P w K mg base 2 "is_name" ["thing"] (aCl K nameB)):Ok P w K mg base 3 "table_in" ["placed","name"] (tW K):=by
 refine Ok.ofV T.aJ7 aHv (fun vs H Q E h=>?_) (fun f cdv A outer s H vs Q E hr h=>?_)
 ·obtain ⟨d,es,e,rfl,_⟩:=h;rfl
 obtain ⟨d,es,e,rfl,hE,he,q⟩:=h;have hu:=vK hr;refine ⟨_,(aF (cG (VW.pt (iU (cM (bZ (aP (iZ.mono (by decide)) hr (by rfl) (aB (vv 1) aA)))) (gG (aOz hu (vv 1) (vv 0))))) (aG jP) bB) (aG (aM (aEn hu (vv 0) (vv 1) (fun _ _=>rfl))))),?_⟩;refine ⟨_,rfl,_,rfl,(hE.nm e he).th,fun H1 s1=>⟨_,rfl,?_⟩⟩;rw [show nameB (.str e.n)=true from hE.nm e he];refine bY ?_;have hv:=aNe hE.nd he;refine ⟨_,rfl,_,rfl,d,_,rfl,.inl ⟨_,Sum.inr e.n,.inl (s1 _ _ hE.at_),rfl,rfl⟩,_,rfl,?_⟩;rw [hv];refine bY ?_;exact ⟨_,rfl,_,rfl,d,e.v,rfl,.inl ⟨_,Sum.inr e.n,.inl (s1 _ _ hE.at_),rfl,hv.symm⟩,q H1 s1⟩
theorem aW2 {kd:Str} {a b:V} {H:Hp} {Q:VK} (ha:bJ kd a) (hb:bJ kd b) (q:Q (.bl (!vlt b a)) H):aWv a b H Q:=by
 cases ha with
 |num=>cases hb;exact .inl ⟨_,_,rfl,rfl,q⟩
 |wrd _ _=>cases hb;exact .inr ⟨_,_,rfl,rfl,q⟩
def dU (v:V):List (V × Int)→Nat→Nat→Nat
 |[],_,n=>n
 |c::t,p,n=>dU v t (p+1) (if vlt v c.1=true then n else p)
theorem wU (v:V):∀(l:List (V × Int)) (c:V × Int) (p n:Nat),dU v (l++[c]) p n=if vlt v c.1=true then dU v l p n else p+l.length
 |[],c,p,n=>by show (if _ then _ else _)=_;rfl
 |a::l,c,p,n=>by
  show dU v (l++[c]) (p+1) _=_;rw [wU v l c];show (if _ then dU v l (p+1) _ else p+1+l.length)=if _ then dU v l (p+1) _ else p+(l.length+1)
  rw [show p+1+l.length=p+(l.length+1) by lia]
theorem uI (v:V) (l:List (V × Int)):dU v l 1 0≤l.length:=by
 suffices ∀(l:List (V × Int)) (p n:Nat),n≤p+l.length - 1∨n=0→dU v l p n≤p+l.length - 1∨dU v l p n=0 by rcases this l 1 0 (.inr rfl) with h|h <;> lia
 intro l
 induction l with
 |nil=>intro p n h;exact h
 |cons c t ih=>
  intro p n h;have:=ih (p+1) (if vlt v c.1=true then n else p) (by
   rw [t7] at h
   split
   ·rcases h with h|h
    ·left;lia
    ·right;exact h
   ·left;lia)
  rw [t7];rcases this with h|h
  ·left;show dU v t (p+1) _≤_;lia
  ·right;exact h
def aBm (K:bEL):Sp:=fun vs H Q _=>∃(vc v:V) (kd:Str) (h0:Int) (cs:List (V × Int)),vs=[vc,v]∧mW K H (fH K H) vc ((.non,h0)::cs)∧cs.length≤7∧bJ kd v∧(∀c∈cs,bJ kd c.1)∧Q (.int (dU v cs 1 0:Nat)) H
theorem aPa (T:Txt w K mg):Ok P w K mg base 1 "cut_of" ["cuts","value"] (aBm K):=by
 refine Ok.ofV T.aSy rN (fun vs H Q E h=>?_) (fun f cdv A outer s H vs Q E hr h=>?_)
 ·obtain ⟨vc,v,kd,h0,cs,rfl,_⟩:=h;rfl
 obtain ⟨vc,v,kd,h0,cs,rfl,⟨a,us,rfl,ha,hu⟩,l7,hk,hks,q⟩:=h;refine ⟨_,(aF (aY (i:=2) rN.nd rfl (by trivial) aC) (aF (jD PassesOwn.never rfl (aO6 (by rfl) T.jY (aB aC (aB (aO bC (by rfl) T.fQ dI (aB (vv 0) aA)) aA))) (aQ (i:=3) rN.nd rfl (by trivial)) (aG (cG (bR aQp (aL aW (aL aW (vv 0) (vv 3) (fun _ _=>rfl)) aC (fun _ _=>rfl)) (vv 1) (bH _)) (aG (aY (i:=2) rN.nd rfl (by trivial) (vv 3))) bB))) (aG (aM (vv 2))))),?_⟩;have lu:=hu.len;rw [t7] at lu;have lt:us.length≤8:=by lia
 refine ⟨_,rfl,_,_,rfl,.inr ha,1,us.length,rfl,⟨by decide,by decide,by lia,by lia⟩,?_⟩;rw [show ((us.length:Int) - 1).toNat=cs.length by lia];refine jC (fun i σ H'=>H'=H∧∃l,σ=[some (.ref a),some v,some (.int (dU v (cs.take i) 1 0:Nat)),l]) ⟨rfl,_,rfl⟩ (fun i σ H' hi p=>?_) fun σ H' p=>?_
 ·obtain ⟨rfl,l,rfl⟩:=p;have hi1:i+1<us.length:=by lia
  obtain ⟨c,hc,pc,epc,hpc⟩:=cC hu (j0 hi1);rw [List.getElem?_cons_succ] at hc;have e:atI us (1+(i:Int))=some (.ref pc):=by rw [show (1+(i:Int))=((i+1:Nat):Int) by lia,←epc];exact cI (j0 hi1)
  have hck:=hks c (w6 hc);have tk:cs.take (i+1)=cs.take i++[c]:=by rw [bBC,hc];rfl
  have hlt:(cs.take i).length=i:=by rw [bAE];lia
  refine ⟨_,rfl,_,rfl,a,us,_,_,rfl,rfl,ha,e,pc,_,0,_,rfl,rfl,hpc,at0 _ _,_,rfl,aW2 hck hk ⟨_,rfl,?_⟩⟩;have sn:=wU v (cs.take i) c 1 0;rw [←tk,hlt] at sn;cases hv:vlt v c.1 with
  |true=>rw [hv,if_pos rfl] at sn;exact bY ⟨rfl,some (.int (1+(i:Int))),by rw [sn];rfl⟩
  |false=>rw [hv,if_neg v4] at sn;refine dC ⟨_,rfl,rfl,some (.int (1+(i:Int))),?_⟩;rw [sn,show (((1+i:Nat)):Int)=1+(i:Int) by lia];rfl
 ·obtain ⟨rfl,l,rfl⟩:=p;rw [bAW (j6 _)];exact ⟨_,rfl,q⟩
def dG (hd:Hdr) (m:Int) (r:List V) (house:Int):Plc→Bool
 |.copies=>true
 |.keys n=>decide (nm (r.getD (plc hd n) .non) % m=house)
 |.spans n h0 cs=>decide ((((.non,h0)::cs).map (·.2)).getD (dU (r.getD (plc hd n) .non) cs 1 0) 0=house)
def aDw (K:bEL):Sp:=fun vs H Q _=>∃(vh vp vr:V) (house m:Int) (hd:Hdr) (pl:Plc) (r:List V),vs=[vh,vp,vr,.int house,.int m]∧jR K H vh hd∧aPe hd∧oW K H vp pl∧aVj hd m pl∧mZ K H vr r∧aBp hd r∧0<m∧∀H',Same H H'→Q (.bl (dG hd m r house pl)) H'
theorem aMi {hd:Hdr} {r:List V} (h:aBp hd r) {n k:Str} (hk:look hd n=some k):∃v,r[plc hd n]?=some v∧r.getD (plc hd n) .non=v∧bJ k v:=by obtain ⟨h1,_⟩:=aF8 hk;obtain ⟨v,hv,ok⟩:=cC h h1;exact ⟨v,hv,by rw [j7,hv];rfl,ok⟩
theorem aFj (T:Txt w K mg) (aJ3:Ok P w K mg base 2 "place_of" ["head","name"] (rA K)) (aWh:Ok P w K mg base 2 "home" ["value","houses"] aM5) (zO:Ok P w K mg base 1 "cut_of" ["cuts","value"] (aBm K)):Ok P w K mg base 3 "stands_at" ["head","placing","row","house","houses"] (aDw K):=by
 refine Ok.ofV T.aI6 oM (fun vs H Q E h=>?_) (fun f cdv A outer s H vs Q E hr h=>?_)
 ·obtain ⟨vh,vp,vr,house,m,hd,pl,r,rfl,_⟩:=h;rfl
 obtain ⟨vh,vp,vr,house,m,hd,pl,r,rfl,hI,hok,hpl,plok,⟨ra,rfl,hra⟩,hr',m0,q⟩:=h;have l8:=hok.1.2.2;refine ⟨_,(aF (cG (bR eU (aL aW (vv 1) aC (fun _ _=>rfl)) bA (bH _)) (aG (aM jX)) bB) (aF (aY (i:=5) oM.nd rfl (by trivial) (aL aW (vv 2) (aP (aJ3.mono (by decide)) hr (by rfl) (aB (vv 0) (aB (aL aW (vv 1) aC (fun _ _=>rfl)) aA))) (fun _ _=>rfl))) (aF (cG (bR eU (aL aW (vv 1) aC (fun _ _=>rfl)) bA (bH _)) (aG (aM (cB eU (aP (aWh.mono (by decide)) hr (by rfl) (aB (vv 5) (aB (vv 4) aA))) (vv 3) (bH _)))) bB) (aF (aY (i:=6) oM.nd rfl (by trivial) (aL aW (vv 1) aC (fun _ _=>rfl))) (aG (aM (cB eU (aL aW (aL aW (vv 6) (aP (zO.mono (by decide)) hr (by rfl) (aB (vv 6) (aB (vv 5) aA))) (fun _ _=>rfl)) aC (fun _ _=>rfl)) (vv 3) (bH _)))))))),?_⟩;cases pl with
 |copies=>obtain ⟨a,rfl,ha⟩:=hpl;exact ⟨_,rfl,a,_,0,_,rfl,rfl,ha,at0 _ _,rfl,_,rfl,dC (q H (Same.refl H))⟩
 |keys n=>
  obtain ⟨a,rfl,ha⟩:=hpl;obtain ⟨hn,k,hk⟩:=plok;obtain ⟨v,hv,hg,okv⟩:=aMi hr' hk;refine ⟨_,rfl,a,_,0,_,rfl,rfl,ha,at0 _ _,rfl,_,rfl,sI (by decide +kernel) ?_⟩;refine ⟨_,rfl,_,rfl,_,rfl,a,_,1,_,rfl,rfl,ha,at1 _ _ _,vh,n,hd,k,rfl,hI,by lia,hk,fun H1 s1=>?_⟩;refine ⟨ra,r,_,v,rfl,rfl,s1.aV hra,cI hv,?_⟩;refine ⟨_,rfl,a,_,0,_,rfl,rfl,s1.aV ha,at0 _ _,rfl,_,rfl,aRu (by decide +kernel) ?_⟩;refine ⟨_,rfl,_,rfl,v,m,rfl,lC okv,m0,_,rfl,rfl,?_⟩;have e:decide (V.int (nm v % m)=V.int house)=dG hd m r house (.keys n):=by show _=decide (nm (r.getD (plc hd n) .non) % m=house);rw [hg];exact decide_eq_decide.mpr ⟨fun z=>V.int.inj z,fun z=>congrArg V.int z⟩
  rw [e];exact q H1 s1
 |spans n h0 cs=>
  obtain ⟨a,vc,rfl,ha,hc⟩:=hpl;obtain ⟨hn,k,hk,hkd,hcs⟩:=plok;obtain ⟨v,hv,hg,okv⟩:=aMi hr' hk;refine ⟨_,rfl,a,_,0,_,rfl,rfl,ha,at0 _ _,rfl,_,rfl,sI (by decide +kernel) ?_⟩;refine ⟨_,rfl,_,rfl,_,rfl,a,_,1,_,rfl,rfl,ha,at1 _ _ _,vh,n,hd,k,rfl,hI,by lia,hk,fun H1 s1=>?_⟩;refine ⟨ra,r,_,v,rfl,rfl,s1.aV hra,cI hv,?_⟩;refine ⟨_,rfl,a,_,0,_,rfl,rfl,s1.aV ha,at0 _ _,rfl,_,rfl,sI (by decide +kernel) ?_⟩;refine ⟨_,rfl,a,_,2,_,rfl,rfl,s1.aV ha,at2 _ _ _ _,?_⟩;have hc1:=mW.same s1 (fun _ _ z=>z.same s1) hc;obtain ⟨ca,us,ec,hca,hus⟩:=id hc1;subst ec;have lu:=hus.len;rw [t7] at lu;have nle:=uI v cs;obtain ⟨c,hcc,pc,epc,hpc⟩:=cC hus (j0 (show dU v cs 1 0<us.length by lia));refine ⟨_,rfl,_,rfl,_,rfl,.ref ca,v,k,h0,cs,rfl,hc1,hcs.few,okv,fun c hc=>(hcs.each c hc).1,ca,us,_,.ref pc,rfl,rfl,hca,cI (by rw [j0 (show dU v cs 1 0<us.length by lia),epc]),pc,_,1,_,rfl,rfl,hpc,at1 _ _ _,_,rfl,rfl,?_⟩;have e:decide (V.int c.2=V.int house)=dG hd m r house (.spans n h0 cs):=by show _=decide ((((.non,h0)::cs).map (·.2)).getD (dU (r.getD (plc hd n) .non) cs 1 0) 0=house);rw [hg,j7,t8,hcc];exact decide_eq_decide.mpr ⟨fun z=>V.int.inj z,fun z=>congrArg V.int z⟩
  rw [e];exact q H1 s1
theorem oJ {α:Type} {p:Nat→Bool} {p':α→Bool}:∀{k:Nat} {xs:List α},(∀(i:Nat) (x:α),xs[i]?=some x→p (k+i)=p' x)→sel p k xs=xs.filter p'
 |_,[],_=>rfl
 |k,x::r,h=>by have h0:=h 0 x rfl;rw [Nat.add_zero] at h0;show (if p k then x::sel p (k+1) r else sel p (k+1) r)=_;rw [List.filter_cons,h0,oJ (k:=k+1) (xs:=r) fun i y e=>by rw [show k+1+i=k+(i+1) by lia];exact h (i+1) y (by simpa using e)]
theorem aI2 {α β:Type} {R:α→β→Prop} {p:Nat→Bool} {as:List α} {bs:List β} (h:cL R as bs):∀k,cL R (sel p k as) (sel p k bs):=by
 induction h with
 |nil=>exact fun _=>.nil
 |@cons a b as bs r _ ih=>
  intro k;show cL R (if p k then a::sel p (k+1) as else sel p (k+1) as) (if p k then b::sel p (k+1) bs else sel p (k+1) bs)
  split
  ·exact .cons r (ih _)
  ·exact ih _
theorem aNd {X:Cx} {scope:Scope} {x y z y3:Str} {σ:L2.St} {u v u3:V} (i j k:Nat) (hf:(y,NameKind.free)∈scope.names) (hg:(z,NameKind.free)∈scope.names) (hf3:(y3,NameKind.free)∈scope.names) (hi:X.N[i]?=some y) (hj:X.N[j]?=some z) (hk:X.N[k]?=some y3) (hs:σ[i]?=some (some u)) (ht:σ[j]?=some (some v)) (hs3:σ[k]?=some (some u3)) (hv:Vis X.env.scope y) (hw:Vis X.env.scope z) (hv3:Vis X.env.scope y3):Cap X scope [x,y,z,y3] σ [none,some u,some v,some u3]:=
 ⟨rfl,fun n q r h1 h2=>by
  match n,h1,h2 with
  |0,_,h2=>cases h2
  |1,h1,h2=>cases h1;cases h2;exact ⟨hf,i,hi,hs,hv⟩
  |2,h1,h2=>cases h1;cases h2;exact ⟨hg,j,hj,ht,hw⟩
  |3,h1,h2=>cases h1;cases h2;exact ⟨hf3,k,hk,hs3,hv3⟩
  |n+4,h1,_=>cases h1⟩
def aC5 (K:bEL):Sp:=fun vs H Q _=>∃(v vh vp:V) (L:Addr) (t:Tb) (house m:Int),vs=[v,.int house,.int m]∧lV K H v vh vp L t∧pH m t∧0≤house∧house<m ∧
 ∀D' H',H D'=none→Same H H'→dJ K H' D' (t.rows.filter fun r=>dG t.hd m r house t.pl)→Q (.ref D') H'
theorem aKo (T:Txt w K mg) (iM:Ok P w K mg base 2 "is_number_below" ["thing","many"] aBy) (aIu:Ok P w K mg base 3 "stands_at" ["head","placing","row","house","houses"] (aDw K)):Ok P w K mg base 4 "rows_at" ["table","house","houses"] (aC5 K):=by
 refine Ok.ofV T.aNq aJ0 (fun vs H Q E h=>?_) (fun f cdv A outer s H vs Q E hr h=>?_)
 ·obtain ⟨v,vh,vp,L,t,house,m,rfl,_⟩:=h;rfl
 obtain ⟨v,vh,vp,L,t,house,m,rfl,hT,ok,h0,hm,q⟩:=h;refine ⟨_,(aF (cG (cM (bZ (aP (iM.mono (by decide)) hr (by rfl) (aB (vv 1) (aB (vv 2) aA))))) (aG jP) bB) (aG (aM (cT (N:=["row","house","houses","table"]) (by trivial) (iW (aD rM) rfl (by decide +kernel)) rfl (kJ (aL (cH (K:=K)) (vv 0) aC (fun _ _=>rfl))) (fun cl s' H' fp=>⟨(aQ (i:=0) (show (["row","house","houses","table"]:List Str).Nodup from by decide +kernel) rfl (Or.inl rfl)),(aBb (bZ (aP (aIu.mono (by decide)) hr (by rfl) (aB (aL (cH (K:=K)) (vv 3) aC (fun _ _=>rfl)) (aB (aL (cH (K:=K)) (vv 3) aC (fun _ _=>rfl)) (aB (vv 0) (aB (vv 1) (aB (vv 2) aA)))))))),(vv 0)⟩))))),?_⟩;refine ⟨_,rfl,_,rfl,house,m,rfl,_,rfl,?_⟩;rw [v8 h0,v8 hm];refine bY ?_;obtain ⟨a,rfl,ha,hI,hpl,⟨us,hL,hu⟩⟩:=hT;have lu:=hu.len;have fw:=ok.few;have m0:0<m:=by lia
 refine aCy us (fun i=>dG t.hd m (t.rows.getD i []) house t.pl) [none,some (.int house),some (.int m),some (.ref a)] ?_ (small (by lia)) (fun R r=>aNg (fun H' sm=>SqL.of (sm _ _ hL)) (fun R' r'=>⟨_,rfl,a,_,2,_,rfl,rfl,ha,at2 _ _ _ _,r'⟩) R r) (fun i u ex H' R l sm rr=>?_) rfl fun D' H' hN sm hD'=>?_
 ·exact aNd 1 2 0 (by decide +kernel) (by decide +kernel) (by decide +kernel) rfl rfl rfl rfl rfl rfl (by trivial) (by trivial) (by trivial)
 ·obtain ⟨r,er,hr'⟩:=cC hu ex;have hkr:=ok.rows r (w6 er);have eg:t.rows.getD i []=r:=by rw [j7,er];rfl
  rw [eg] at rr;refine ⟨_,rfl,a,_,0,_,rfl,rfl,sm.aV ha,at0 _ _,_,rfl,a,_,1,_,rfl,rfl,sm.aV ha,at1 _ _ _,_,rfl,_,rfl,_,rfl,vh,vp,u,house,m,t.hd,t.pl,r,rfl,hI.same sm,ok.hd,hpl.same sm,ok.pl,hr'.same sm,hkr,m0,fun H2 s2=>⟨_,rfl,rr H2 s2⟩⟩
 ·refine q D' H' hN sm ⟨_,hD',?_⟩;have e:(t.rows.filter fun r=>dG t.hd m r house t.pl)=sel (fun i=>dG t.hd m (t.rows.getD i []) house t.pl) 0 t.rows:=(oJ fun i r er=>by rw [bDA,j7,er];rfl).symm;rw [e];exact (aI2 hu 0).imp fun _ _ r=>r.same sm
def uB (K:bEL) (H:Hp) (C x:Addr) (m:Int) (d:Addr) (es:List En):Prop:=(∃dx,H x=some (.ins C dx [("placed",.ref d),("house_count",.int m)]))∧lL K H d es∧∀e∈es,pH m e.t
theorem uB.same {H H':Hp} {C x d:Addr} {m:Int} {es:List En} (s:Same H H') (h:uB K H C x m d es):uB K H' C x m d es:=by obtain ⟨⟨dx,h1⟩,h2,h3⟩:=h;exact ⟨⟨dx,s _ _ h1⟩,h2.same s,h3⟩
theorem eE.ins {H:Hp} {x C dx:Addr} {fs:List (Str × V)} (h:H x=some (.ins C dx fs)):eE H x:=⟨fun _ z=>(by rw [h] at z;cases z),fun _ _ z=>(by rw [h] at z;cases z),fun _ z=>(by rw [h] at z;cases z)⟩
theorem aC8 {α β:Type} {R:α→β→Prop} {as:List α} {bs:List β} (h:cL R as bs) {b:β} (hb:b∈bs):∃a∈as,R a b:=by
 induction h with
 |nil=>cases hb
 |cons r _ ih=>
  rcases List.mem_cons.mp hb with rfl|hb
  ·exact ⟨_,t6,r⟩
  ·obtain ⟨a,h1,h2⟩:=ih hb;exact ⟨a,m8 _ h1,h2⟩
theorem pH.sorted {m:Int} {t:Tb} (h:pH m t):pH m { t with rows:=srt t.rows }:=⟨h.hd,h.pl,by show (srt t.rows).length≤60;rw [aE4];exact h.few,fun r hr=>h.rows r (vB hr)⟩
def aMd (K:bEL) (C Pt:Addr):Sp:=fun vs H Q _=>∃(H0:Hp) (x dx d:Addr) (m:Int) (es:List En),vs=[.ref x,.int m,.ref d]∧H x=some (.ins C dx [])∧H0 x=none∧Same H0 H∧1≤m∧m≤6∧lL K H0 d es∧(∀e∈es,pH m e.t)∧H0 Pt=some (.tab qC) ∧
 ∀d' H' es',H0 d'=none→Same H0 H'→uB K H' C x m d' es'→cL (fun e e'=>∃v L,e'=uC e v L∧H0 L=none) es es'→Q .non H'
theorem aSb (T:Txt w K mg) {C Pt:Addr} (c:Cls K C) (D:iR K C "__init__" "Town.__init__" fY ["self","houses","tables"]) (n1:bN K C "placed") (n2:bN K C "house_count") (jT:Ok P w K mg base 10 "placed_tables" ["houses","tables"] (wG K Pt)):OkM P w K mg base C 11 "__init__" ["self","houses","tables"] (aMd K C Pt):=by
 refine OkM.ofV c D wO (fun vs H Q E h=>?_) (fun f cdv A outer s H vs Q E hr h=>?_)
 ·obtain ⟨_,x,dx,d,m,es,rfl,_⟩:=h;rfl
 obtain ⟨H0,x,dx,d,m,es,rfl,hx,hN,s0,m1,m6,hE,ok,hP,q⟩:=h;refine ⟨_,(aF (aBk (K:=K) (vv 0) (aP (jT.mono (by decide)) hr (by rfl) (aB (vv 1) (aB (vv 2) aA)))) (aG (aBk (K:=K) (vv 0) (vv 1)))),?_⟩;refine ⟨_,rfl,_,rfl,d,m,es,rfl,m1,m6,hE.same s0,ok,s0 _ _ hP,fun d' H1 es' hd' s1 hE' a1=>?_⟩;have hx1:=s1 _ _ hx;refine ⟨_,rfl,x,C,dx,[],rfl,hx1,c,n1,by decide,?_⟩;refine ⟨_,rfl,_,rfl,x,C,dx,_,rfl,aH,c,n2,by show 1<1000;decide,?_⟩;have nx:eE H1 x:=eE.ins hx1;have dne:d'≠x:=fun z=>by rw [z,hx] at hd';cases hd'
 have b1:But x H1 (L2.upd (L2.upd H1 x (.ins C dx [("placed",.ref d')])) x (.ins C dx [("placed",.ref d'),("house_count",.int m)])):=fun b o hb h=>by rw [aK hb,aK hb];exact h
 have s2:Same H0 (L2.upd (L2.upd H1 x (.ins C dx [("placed",.ref d')])) x (.ins C dx [("placed",.ref d'),("house_count",.int m)])):=fun b o h=>b1 _ _ (fun z=>by rw [z,hN] at h;cases h) (s1 _ _ (s0 _ _ h));refine q d' _ es' (none_of s0 hd') s2 ⟨⟨dx,aH⟩,⟨b1 _ _ dne hE'.at_,hE'.nd,hE'.few,hE'.nm,fun e he=>b1.tb nx (hE'.tb e he)⟩,fun e he=>?_⟩ (a1.imp fun e e' ⟨v,L,e1,e2⟩=>⟨v,L,e1,none_of s0 e2⟩);obtain ⟨e0,h0,v,L,rfl,_⟩:=aC8 a1 he;exact (ok e0 h0).sorted
def aAf (K:bEL) (C:Addr):Sp:=fun vs H Q _=>∃(x d:Addr) (m:Int) (es:List En) (e:En),vs=[.ref x,.str e.n]∧uB K H C x m d es∧e∈es∧∀H',Same H H'→Q e.vp H'
theorem aGs (T:Txt w K mg) {C:Addr} (c:Cls K C) (D:iR K C "placing" "Town.placing" iG ["self","name"]) (n1:bN K C "placed") (cZ:Ok P w K mg base 3 "table_in" ["placed","name"] (tW K)):OkM P w K mg base C 4 "placing" ["self","name"] (aAf K C):=by
 refine OkM.ofV c D yF (fun vs H Q E h=>?_) (fun f cdv A outer s H vs Q E hr h=>?_)
 ·obtain ⟨x,d,m,es,e,rfl,_⟩:=h;rfl
 obtain ⟨x,d,m,es,e,rfl,⟨⟨dx,hx⟩,hE,ok⟩,he,q⟩:=h;refine ⟨_,(aG (aM (aL (cH (K:=K)) (aP (cZ.mono (by decide)) hr (by rfl) (aB (jA (K:=K) (vv 0)) (aB (vv 1) aA))) aC (fun _ _=>rfl)))),?_⟩;obtain ⟨a,ev,ha,h1,h2,h3⟩:=hE.tb e he;exact ⟨_,rfl,x,C,dx,_,_,rfl,hx,c,n1,rfl,_,rfl,d,es,e,rfl,hE,he,fun H1 s1=>⟨a,_,1,_,ev,rfl,s1.aV ha,at1 _ _ _,q H1 s1⟩⟩
def vD (K:bEL) (C:Addr):Sp:=fun vs H Q _=>∃(x d:Addr) (m:Int) (es:List En) (e:En),vs=[.ref x,.str e.n]∧uB K H C x m d es∧e∈es∧∀L H',H L=none→Same H H'→dJ K H' L e.t.rows→Q (.ref L) H'
theorem aO9 (T:Txt w K mg) {C:Addr} (c:Cls K C) (D:iR K C "whole" "Town.whole" kO ["self","name"]) (n1:bN K C "placed") (cZ:Ok P w K mg base 3 "table_in" ["placed","name"] (tW K)):OkM P w K mg base C 4 "whole" ["self","name"] (vD K C):=by
 refine OkM.ofV c D aCn (fun vs H Q E h=>?_) (fun f cdv A outer s H vs Q E hr h=>?_)
 ·obtain ⟨x,d,m,es,e,rfl,_⟩:=h;rfl
 obtain ⟨x,d,m,es,e,rfl,⟨⟨dx,hx⟩,hE,ok⟩,he,q⟩:=h;refine ⟨_,(aG (aM (cX (aI4 (K:=K)) (by rfl) T.aD2 yX (aB (aL (cH (K:=K)) (aP (cZ.mono (by decide)) hr (by rfl) (aB (jA (K:=K) (vv 0)) (aB (vv 1) aA))) aC (fun _ _=>rfl)) aA)))),?_⟩;obtain ⟨a,ev,ha,h1,h2,⟨us,h3,h4⟩⟩:=hE.tb e he;have lu:=h4.len;have fw:=(ok e he).few;refine ⟨_,rfl,x,C,dx,_,_,rfl,hx,c,n1,rfl,_,rfl,d,es,e,rfl,hE,he,fun H1 s1=>⟨a,_,2,_,ev,rfl,s1.aV ha,at2 _ _ _ _,e.L,us,rfl,.inl (SqL.of (s1 _ _ h3)),fun L H2 hN s2 g2=>q L H2 (none_of s1 hN) (s1.trans s2) ⟨us,g2,h4.imp fun _ _ r=>r.same (s1.trans s2)⟩⟩⟩
end
end My
namespace L2
open PySem PySem.Spec PyProof.Rows
abbrev M61:Int:=2305843009213693951
def jZ (H:Hp) (a:Addr):Prop:=∃s:Int,H a=some (.lst [.int s])∧True
structure Fx (a:Addr) (H H':Hp):Prop where
 same:∀b o,b≠a→H b=some o→H' b=some o
 st:jZ H' a
theorem Fx.trans {a:Addr} {H H1 H2:Hp} (f:Fx a H H1) (g:Fx a H1 H2):Fx a H H2:=⟨fun b o n e=>g.same b o n (f.same b o n e),g.st⟩
theorem jZ.same {a:Addr} {H H':Hp} (h:jZ H a) (e:Same H H'):jZ H' a:=by obtain ⟨s,h1,h2⟩:=h;exact ⟨s,e _ _ h1,h2⟩
theorem Fx.of {a:Addr} {H H':Hp} (h:jZ H a) (e:Same H H'):Fx a H H':=⟨fun b o _ q=>e b o q,h.same e⟩
theorem Fx.refl {a:Addr} {H:Hp} (h:jZ H a):Fx a H H:=.of h (Same.refl H)
theorem Fx.sm {a:Addr} {H H1 H2:Hp} (f:Fx a H H1) (e:Same H1 H2):Fx a H H2:=f.trans (.of f.st e)
theorem jZ.ne {a p:Addr} {H:Hp} (h:jZ H a) (f:H p=none):p≠a:=by obtain ⟨s,h1,_⟩:=h;exact (aU h1 f).symm
theorem Fx.aV {K:bEL} {a p:Addr} {H H':Hp} {xs:List V} (f:Fx a H H') (h:jZ H a) (e:SqT K H p xs):SqT K H' p xs:=by
 obtain ⟨s,h1,_⟩:=h;rcases e with (e|⟨o,e⟩)|e
 ·exact .inl (.inl (f.same p _ (aIb e h1 (by intro z;cases z)) e))
 ·exact .inl (.inr ⟨o,f.same p _ (aIb e h1 (by intro z;cases z)) e⟩)
 ·exact .inr e
theorem Fx.upd {a D:Addr} {H H':Hp} {o:HO} (f:Fx a H H') (hD:H D=none) (ne:D≠a):Fx a H (L2.upd H' D o):=⟨fun b u n e=>by rw [aK (aU e hD)];exact f.same b u n e,by obtain ⟨s,h1,h2⟩:=f.st;exact ⟨s,by rw [aK ne.symm];exact h1,h2⟩⟩
theorem Fx.free {a p:Addr} {H H':Hp} (f:Fx a H H') (h:H' p=none):H p=none:=by
 cases e:H p with
 |none=>rfl
 |some o=>
  by_cases z:p=a
  ·subst z;obtain ⟨s,hs,_⟩:=f.st;rw [hs] at h;cases h
  ·rw [f.same p o z e] at h;cases h
theorem aSc {a:Addr} {H:Hp} (h:jZ H a):aYp (Fx a) H:=⟨fun D o hD=>.of h (aX hD o),fun a b=>a.trans b,fun D o H' hD f=>f.upd hD (h.ne hD),fun D H1 H2 xs hD _ e f=>f.same _ _ (h.ne hD) e⟩
end L2
namespace My
open PySem PySem.Spec PyProof.Rows L2
section
variable {P:Program} {w:World} {K:bEL} {mg:bEO} {base:Heap}
def aL8 (K:bEL):Sp:=fun vs H Q _=>∃(a:Addr) (ns:List Int),vs=[.ref a]∧SqL K H a (ns.map V.int)∧ns.length≤63∧∀c H',Same H H'→0≤c→c<M61→Q (.int c) H'
theorem aFf (T:Txt w K mg):Ok P w K mg base 1 "_law_seed" ["_law_script"] (aL8 K):=by
 refine Ok.ofV T.aI8 iH (fun vs H Q E h=>?_) (fun f cdv A outer s H vs Q E hr h=>?_)
 ·obtain ⟨a,ns,rfl,_⟩:=h;rfl
 obtain ⟨a,ns,rfl,ha,h63,q⟩:=h;refine ⟨_,(aF (aY (i:=1) iH.nd rfl (by trivial) aC) (aF (jD PassesOwn.never rfl (aVg (by rfl) T.aGj (aB (vv 0) aA)) (aAw rfl (bI (aQ (i:=2) iH.nd rfl (by trivial)) (bI (aQ (i:=3) iH.nd rfl (by trivial)) gC))) (aG (aY (i:=1) iH.nd rfl (by trivial) (bK qK (bK dH (bK dH (bK dH (bK xD (vv 1) aC) (bK qK (vv 3) (bK aFp aC aC))) (bK xD aC (vv 2))) aC) aC)))) (aG (aM (vv 1))))),?_⟩;refine ⟨_,rfl,a,ns.map V.int,rfl,ha,aPt (fun i σ H'=>Same H H'∧∃(c:Int) (l2 l3:Option V),0≤c∧c<M61∧σ=[some (.ref a),some (.int c),l2,l3]) ⟨Same.refl H,7,_,_,by decide,by decide,rfl⟩ (fun i σ H' _ ⟨e,_⟩=>e.seq ha) ?_ ?_⟩
 ·rintro i σ H' x Tp H'' ex ⟨sm,c,l2,l3,c0,c1,rfl⟩ hT rfl;obtain ⟨z,hz,rfl⟩:=aRa ex;refine ⟨Tp,_,rfl,SqT.of aH,rfl,_,_,rfl,_,_,rfl,rfl,?_⟩;refine ⟨_,rfl,_,_,rfl,rfl,.inr ⟨by decide,by decide⟩,_,rfl,_,_,rfl,rfl,⟨by decide,by decide,by decide⟩,_,_,rfl,rfl,(by show (0:Int)<10 ^ 30;decide),_,_,rfl,rfl,_,rfl,_,_,rfl,rfl,.inl ⟨by decide,by decide⟩,_,_,rfl,rfl,_,_,rfl,rfl,_,_,rfl,rfl,(by show (0:Int)<2305843009213693951;decide),?_⟩;exact ⟨sm.trans (aX hT _),_,_,_,Int.emod_nonneg _ (by decide),Int.emod_lt_of_pos _ (by decide),rfl⟩
 ·rintro σ H' ⟨sm,c,l2,l3,c0,c1,rfl⟩;exact ⟨_,rfl,q c H' sm c0 c1⟩
def oN:Sp:=fun vs H Q _=>∃(a:Addr) (m:Int),vs=[.ref a,.int m]∧jZ H a∧(0<m∧m<2 ^ 64)∧∀c H',Fx a H H'→0≤c→c<m→Q (.int c) H'
theorem aEa (T:Txt w K mg):Ok P w K mg base 1 "_law_next" ["_law_state","_law_many"] oN:=by
 refine Ok.ofV T.aGo aF6 (fun vs H Q E h=>?_) (fun f cdv A outer s H vs Q E hr h=>?_)
 ·obtain ⟨a,m,rfl,_⟩:=h;rfl
 obtain ⟨a,m,rfl,⟨st,hs,s0⟩,⟨hm,hm2⟩,q⟩:=h;refine ⟨_,(aF (wZ (bK qK (bK dH (bK xD (aL bV (vv 0) aC (fun _ _=>rfl)) aC) aC) aC) (aQu (vv 0) aC set_list)) (aG (aM (bK qK (bK aS5 (aL bV (vv 0) aC (fun _ _=>rfl)) aC) (vv 1))))),?_⟩;refine ⟨_,rfl,a,_,0,_,rfl,rfl,SqL.of hs,at0 _ _,_,_,rfl,rfl,.inr ⟨by decide,by decide⟩,_,_,rfl,rfl,_,_,rfl,rfl,(by show (0:Int)<2305843009213693951;decide),?_⟩;refine ⟨_,rfl,a,_,0,0,rfl,rfl,hs,rfl,?_⟩;refine ⟨_,rfl,a,[.int ((st * 1181783497276652981+12345678910987) % 2305843009213693951)],0,_,rfl,rfl,SqL.of aH,at0 _ _,_,_,rfl,rfl,⟨by decide,by decide⟩,_,rfl,_,_,rfl,rfl,hm,?_⟩;exact q _ _ ⟨fun b o n h=>by rw [aK n];exact h,(st * 1181783497276652981+12345678910987) % 2305843009213693951,aH,trivial⟩ (Int.emod_nonneg _ (by lia)) (Int.emod_lt_of_pos _ hm)
def aG7:Sp:=fun vs H Q _=>∃a:Addr,vs=[.ref a]∧jZ H a∧∀i H',Fx a H H'→Q (.int i) H'
theorem aCi (T:Txt w K mg) (aR:Ok P w K mg base 1 "_law_next" ["_law_state","_law_many"] oN):Ok P w K mg base 2 "_law_great" ["_law_state"] aG7:=by
 refine Ok.ofV T.aE8 jM (fun vs H Q E h=>?_) (fun f cdv A outer s H vs Q E hr h=>?_)
 ·obtain ⟨a,rfl,_⟩:=h;rfl
 obtain ⟨a,rfl,hs,q⟩:=h;refine ⟨_,(aF (aY (i:=1) jM.nd rfl (by trivial) aC) (aF (jD PassesOwn.never rfl (gJ (by rfl) T.jY (aB aC aA)) (aQ (i:=2) jM.nd rfl (by trivial)) (aG (aY (i:=1) jM.nd rfl (by trivial) (bK dH (bK xD (vv 1) (bK aFp aC aC)) (aP (aR.mono (by decide)) hr (by rfl) (aB (vv 0) (aB (bK aFp aC aC) aA))))))) (aG (aM (aL bV (dM (aB (vv 1) (aB (bK aKw aC (vv 1)) aA))) (aP (aR.mono (by decide)) hr (by rfl) (aB (vv 0) (aB aC aA))) (fun _ _=>rfl)))))),?_⟩;refine ⟨_,rfl,by decide,by decide,jC (n:=4) (fun i σ H'=>Fx a H H'∧∃(c:Int) (l2:Option V),σ=[some (.ref a),some (.int c),l2]) ⟨.refl hs,0,_,rfl⟩ ?_ ?_⟩
 ·rintro i σ H' hi ⟨fx,c,l2,rfl⟩;refine ⟨_,rfl,_,_,rfl,rfl,⟨by decide,by decide,by decide⟩,_,_,rfl,rfl,.inr ⟨by decide,by decide⟩,_,rfl,_,_,rfl,rfl,⟨by decide,by decide,by decide⟩,a,_,rfl,fx.st,(by show (0:Int)<10 ^ 15∧(10:Int) ^ 15<2 ^ 64;decide),fun d H1 f1 _ _=>?_⟩;exact ⟨_,_,rfl,rfl,fx.trans f1,_,_,rfl⟩
 ·rintro σ H' ⟨fx,c,l2,rfl⟩;refine ⟨_,rfl,_,rfl,_,_,rfl,rfl,(by show 2≤sizeLine;decide),fun p H1 fp s1 g1=>?_⟩;refine ⟨_,rfl,a,2,rfl,fx.st.same s1,by decide,fun d H2 f2 d0 d1=>?_⟩;obtain ⟨v,hv,mv⟩:=at_of (xs:=[.int c,.int (0 - c)]) d0 (by show d<2;lia);refine ⟨p,_,_,v,rfl,rfl,SqL.of (f2.same _ _ (fx.st.ne fp) g1),hv,?_⟩;simp only [bAB,v6,or_false] at mv;rcases mv with rfl|rfl
  ·exact q _ _ ((fx.sm s1).trans f2)
  ·exact q _ _ ((fx.sm s1).trans f2)
abbrev aKl:List V:=[.str "",.str "a",.str "b",.str "ab"]
def zF:Sp:=fun vs H Q _=>∃(a:Addr) (kd:Str),vs=[.ref a,.str kd]∧jZ H a∧aEy kd∧∀v H',Fx a H H'→bJ kd v→Q v H'
theorem aJu {v:V} (h:v∈aKl):bJ "word" v:=by
 simp only [aKl,bAB,v6,or_false] at h;have le:∀x:Str,(x.cps.all fun c=>decide (97≤c) && decide (c≤122))=true→Lets x:=fun x hx c hc=>by have:=(Array.all_eq_true_iff_forall_mem.mp hx) c hc;rw [bAP] at this;exact ⟨of_decide_eq_true this.1,of_decide_eq_true this.2⟩
 rcases h with rfl|rfl|rfl|rfl
 ·exact .wrd (le _ (by decide +kernel)) (by decide +kernel)
 ·exact .wrd (le _ (by decide +kernel)) (by decide +kernel)
 ·exact .wrd (le _ (by decide +kernel)) (by decide +kernel)
 ·exact .wrd (le _ (by decide +kernel)) (by decide +kernel)
theorem aB7 (T:Txt w K mg) (aR:Ok P w K mg base 1 "_law_next" ["_law_state","_law_many"] oN) (aEr:Ok P w K mg base 2 "_law_great" ["_law_state"] aG7):Ok P w K mg base 3 "_law_value" ["_law_state","_law_kind"] zF:=by
 refine Ok.ofV T.aFn fK (fun vs H Q E h=>?_) (fun f cdv A outer s H vs Q E hr h=>?_)
 ·obtain ⟨a,kd,rfl,_⟩:=h;rfl
 obtain ⟨a,kd,rfl,hs,hk,q⟩:=h;refine ⟨_,(aF (aY (i:=2) fK.nd rfl (by trivial) (aP (aR.mono (by decide)) hr (by rfl) (aB (vv 0) (aB aC aA)))) (aF (cG (bR eU (vv 1) bA (bH _)) (aG (aM (aL bV (dM (aB (bK aKw (aP (aR.mono (by decide)) hr (by rfl) (aB (vv 0) (aB aC aA))) aC) (aB (aP (aEr.mono (by decide)) hr (by rfl) (aB (vv 0) aA)) aA))) (cX aDp (by rfl) T.aRt aK1 (aB (cB eU (vv 2) aC (bH _)) aA)) (fun _ _=>rfl)))) bB) (aF (cG (bR aRy (vv 2) aC (bH _)) (aG (aM (aL bV (dM (aB bA (aB bA (aB bA (aB bA aA))))) (bK qK (vv 2) aC) (fun _ _=>rfl)))) bB) (aF (aY (i:=3) fK.nd rfl (by trivial) bA) (aF (jD PassesOwn.never rfl (gJ (by rfl) T.jY (aB (aP (aR.mono (by decide)) hr (by rfl) (aB (vv 0) (aB aC aA))) aA)) (aQ (i:=4) fK.nd rfl (by trivial)) (aG (aY (i:=3) fK.nd rfl (by trivial) (bK oU (vv 3) (qP bA (aP (aR.mono (by decide)) hr (by rfl) (aB (vv 0) (aB aC aA))) (fun _ _=>rfl)))))) (aG (aM (vv 3)))))))),?_⟩;refine ⟨_,rfl,a,10,rfl,hs,by decide,fun way H1 f1 w0 w1=>?_⟩;rcases hk with rfl|rfl
 ·refine ⟨_,rfl,rfl,_,rfl,dC ?_⟩;refine ⟨_,rfl,a,4,rfl,f1.st,by decide,fun d H2 f2 d0 d1=>?_⟩;refine ⟨_,_,rfl,rfl,_,rfl,a,rfl,f2.st,fun g H3 f3=>?_⟩;refine ⟨(by show 2≤sizeLine;decide),fun p H4 _ s4 g4=>?_⟩;have fx:=(f1.trans (f2.trans f3)).sm s4;refine ⟨_,rfl,rfl,.inr ⟨_,rfl,?_⟩⟩;by_cases e:way=9
  ·rw [v8 (congrArg V.int e)];exact ⟨p,_,_,_,rfl,rfl,SqL.of g4,cI (j:=1) rfl,q _ _ fx .num⟩
  ·rw [bAD (by intro z;exact e (V.int.inj z))];exact ⟨p,_,_,_,rfl,rfl,SqL.of g4,cI (j:=0) rfl,q _ _ fx .num⟩
 ·refine ⟨_,rfl,rfl,_,rfl,bY ?_⟩;refine ⟨_,rfl,_,_,rfl,rfl,_,rfl,aJn (fun _=>?_) (fun _=>?_)⟩
  ·refine ⟨(by show 4≤sizeLine;decide),fun p H4 _ s4 g4=>?_⟩;obtain ⟨v,hv,mv⟩:=at_of (xs:=aKl) (j:=way % 4) (by lia) (by show way % 4<4;lia);exact ⟨_,rfl,_,_,rfl,rfl,(by show (0:Int)<4;decide),p,_,_,v,rfl,rfl,SqL.of g4,hv,q _ _ (f1.sm s4) (aJu mv)⟩
  ·refine ⟨_,rfl,a,9,rfl,f1.st,by decide,fun n H2 f2 n0 n1=>?_⟩;refine ⟨_,rfl,by lia,by lia,jC (n:=n.toNat) (fun i σ H'=>Fx a H H'∧∃(x:Str) (l4:Option V),σ=[some (.ref a),some (.str "word"),some (.int way),some (.str x),l4]∧x.length≤i∧Lets x) ⟨f1.trans f2,_,_,rfl,by decide +kernel,fun d hd=>by simp [show (("":Str).cps)=#[] from rfl] at hd⟩ ?_ ?_⟩
   ·rintro i σ H' hi ⟨fx,x,l4,rfl,hl,hx⟩;have al:abc.length=26:=by decide +kernel
    refine ⟨_,rfl,_,rfl,a,26,rfl,fx.st,by decide,fun d H3 f3 d0 d1=>?_⟩;obtain ⟨ch,hch⟩:=aMg (z:=abc) d0 (by rw [al];exact d1);refine ⟨_,_,_,rfl,rfl,d0,(by lia),(by rw [al];exact d1),hch,_,_,rfl,rfl,?_,fx.trans f3,_,_,rfl,?_,hx.add (aHr.one hch)⟩
    ·show x.length+1≤sizeLine;exact small (by lia)
    ·rw [aFw];show x.length+1≤i+1;lia
   ·rintro σ H' ⟨fx,x,l4,rfl,hl,hx⟩;exact ⟨_,rfl,q _ _ fx (.wrd hx (by lia))⟩
def aC9:Sp:=fun vs H Q _=>vs=[]∧∀p H',H p=none→Same H H'→H' p=some (.lst words)→Q (.ref p) H'
theorem aCd (T:Txt w K mg):Ok P w K mg base 1 "_law_words" [] aC9:=by
 refine Ok.ofV T.aFm sX (fun vs H Q E h=>?_) (fun f cdv A outer s H vs Q E hr h=>?_)
 ·obtain ⟨rfl,_⟩:=h;rfl
 obtain ⟨rfl,q⟩:=h;refine ⟨_,(aF (aY (i:=0) sX.nd rfl (by trivial) (dM (aB bA (aB bA (aB bA (aB bA (aB bA (aB bA (aB bA (aB bA (aB bA aA))))))))))) (aG (aM (bK aBv (vv 0) (dM (aB bA (aB bA (aB bA (aB bA (aB bA (aB bA (aB bA (aB bA aA))))))))))))),?_⟩;refine ⟨(by show 9≤sizeLine;decide),fun p1 H1 _ s1 g1=>?_⟩;refine ⟨_,rfl,(by show 8≤sizeLine;decide),fun p2 H2 _ s2 g2=>?_⟩;exact ⟨p1,p2,_,_,rfl,rfl,s2 _ _ g1,g2,(by show 9+8≤sizeLine;decide),fun p H3 f3 s3 g3=>q p H3 ((s1.trans s2).free f3) (s1.trans (s2.trans s3)) g3⟩
def uU (ns:List Str):Prop:=ns.length=17∧(∀n∈ns,Nm n)∧ns.Nodup
theorem uU.rev {ns:List Str} (h:uU ns):uU ns.reverse:=⟨by rw [List.length_reverse];exact h.1,fun n hn=>h.2.1 n (List.mem_reverse.mp hn),List.pairwise_reverse.mpr (h.2.2.imp fun q=>Ne.symm q)⟩
theorem aYm:∀j:_root_.Fin 26,abc.cps[j.val]?=some (97+j.val):=by decide +kernel
theorem aUs {j:Nat} (h:j<26):abc.cps[j]?=some (97+j):=aYm ⟨j,h⟩
def sgl (o:Nat):List Str:=(List.range 17).map fun k=>⟨#[97+(o+k)]⟩
theorem aMp:∀o:_root_.Fin 10,((sgl o.val).all fun n=>nameB (.str n))=true∧(Txt.slice abc (some (o.val:Int)) (some ((o.val:Int)+17))).cps.size=17∧((List.range 17).all fun i=>decide (sgn (Txt.slice abc (some (o.val:Int)) (some ((o.val:Int)+17))) i=⟨#[97+(o.val+i)]⟩))=true:=by decide +kernel
theorem aRq {a b:Nat} (h:(⟨#[a]⟩:Str)=⟨#[b]⟩):a=b:=by have:=congrArg (fun x:Str=>x.cps.toList) h;simpa using this
theorem aRj {o:Nat} (h:o<10):uU (sgl o):=by
 refine ⟨by simp [sgl],fun n hn=>?_,?_⟩
 ·have:=(aMp ⟨o,h⟩).1;rw [bB7] at this;exact this n hn
 ·refine List.pairwise_map.mpr (bDE ?_ List.nodup_range);intro k l _ _ ne e;have:=aRq e;exact ne (by lia)
theorem aUp {o:Nat} (h:o<10):((List.range (Txt.slice abc (some (o:Int)) (some ((o:Int)+17))).cps.size).map fun i=>V.str (sgn (Txt.slice abc (some (o:Int)) (some ((o:Int)+17))) i))=(sgl o).map V.str:=by obtain ⟨_,h2,h3⟩:=aMp ⟨o,h⟩;have h2:(Txt.slice abc (some (o:Int)) (some ((o:Int)+17))).cps.size=17:=h2;rw [h2];unfold sgl;rw [bC0];refine List.map_congr_left fun i hi=>?_;rw [bB7] at h3;have:=of_decide_eq_true (h3 i hi);show V.str _=V.str _;exact congrArg V.str this
def stm (b:Str) (a o:Nat):Nat→List Str:=fun i=>(List.range i).map fun k=>put b a (97+(o+k))
theorem aXn {b:Str} {a o:Nat} (hb:Lets b) (hl:b.length≤7) (ha:a≤b.length) (ho:o<10) (hw:∀w∈words,inV w ((stm b a o 17).map V.str)=false):uU (stm b a o 17):=by
 refine ⟨by simp [stm],fun n hn=>?_,?_⟩
 ·obtain ⟨k,hk,rfl⟩:=List.mem_map.mp hn;have hk:=List.mem_range.mp hk;have hin:inV (.str (put b a (97+(o+k)))) words=false:=by
   cases e:inV (.str (put b a (97+(o+k)))) words with
   |false=>rfl
   |true=>
    exfalso;unfold inV at e;rw [bDB] at e;obtain ⟨v,hv,ev⟩:=e;have hvs:∃z:Str,v=.str z:=by simp only [words,bAB,v6,or_false] at hv;rcases hv with rfl|rfl|rfl|rfl|rfl|rfl|rfl|rfl|rfl|rfl|rfl|rfl|rfl|rfl|rfl|rfl|rfl <;> exact ⟨_,rfl⟩
    obtain ⟨z,rfl⟩:=hvs;have e2:(z == put b a (97+(o+k)))=true:=ev;have e3:z=put b a (97+(o+k)):=by simpa using e2
    have:=hw _ hv;rw [aM8,decide_eq_false_iff_not] at this;exact this (by rw [e3];exact hn)
  show ((decide (1≤(put b a (97+(o+k))).length) && (decide ((put b a (97+(o+k))).length≤8) && allIn (put b a (97+(o+k))))) && !inV (.str (put b a (97+(o+k)))) words)=true;have hL:Lets (put b a (97+(o+k))):=fun c hc=>by
   rcases aU0 ha hc with rfl|z
   ·lia
   ·exact hb c z
  rw [aUy ha,v8 (p:=1≤b.length+1) (by lia),v8 (p:=b.length+1≤8) (by lia),allIn_of hL,hin];rfl
 ·refine List.pairwise_map.mpr (bDE ?_ List.nodup_range);intro k l _ _ ne e;have:=aT1 ha e;exact ne (by lia)
def aPu:Sp:=fun vs H Q _=>∃a:Addr,vs=[.ref a,.int 17]∧jZ H a∧∀p H' ns,Fx a H H'→H p=none→H' p=some (.lst (ns.map V.str))→uU ns→Q (.ref p) H'
theorem aB3 (T:Txt w K mg) (aR:Ok P w K mg base 1 "_law_next" ["_law_state","_law_many"] oN) (aE5:Ok P w K mg base 1 "_law_words" [] aC9):Ok P w K mg base 2 "_law_names" ["_law_state","_law_many"] aPu:=by
 refine Ok.ofV T.aEu cA (fun vs H Q E h=>?_) (fun f cdv A outer s H vs Q E hr h=>?_)
 ·obtain ⟨a,rfl,_⟩:=h;rfl
 obtain ⟨a,rfl,hs,q⟩:=h;refine ⟨_,(aF (aY (i:=2) cA.nd rfl (by trivial) bA) (aF (aY (i:=3) cA.nd rfl (by trivial) (aP (aR.mono (by decide)) hr (by rfl) (aB (vv 0) (aB (bK aKw aC (vv 1)) aA)))) (aF (aY (i:=4) cA.nd rfl (by trivial) bA) (aF (jD PassesOwn.never rfl (gJ (by rfl) T.jY (aB (aP (aR.mono (by decide)) hr (by rfl) (aB (vv 0) (aB aC aA))) aA)) (aQ (i:=5) cA.nd rfl (by trivial)) (aG (aY (i:=4) cA.nd rfl (by trivial) (bK oU (vv 4) (qP (vv 2) (aP (aR.mono (by decide)) hr (by rfl) (aB (vv 0) (aB aC aA))) (fun _ _=>rfl)))))) (aF (aY (i:=6) cA.nd rfl (by trivial) (aP (aR.mono (by decide)) hr (by rfl) (aB (vv 0) (aB (bK dH (aO vW (by rfl) T.fQ dI (aB (vv 4) aA)) aC) aA)))) (aF (aY (i:=7) cA.nd rfl (by trivial) (dM aA)) (aF (jD PassesOwn.never rfl (gJ (by rfl) T.jY (aB (vv 1) aA)) (aQ (i:=5) cA.nd rfl (by trivial)) (aG (jL (aA8 PySem.F.plainAttrs_list PySem.F.slot_list_append PySem.F.type_list_append pC (vv 7) (aB (bK oU (bK oU (dN aE1 (vv 4) fX (eO (vv 6))) (qP (vv 2) (bK dH (vv 3) (vv 5)) (fun _ _=>rfl))) (dN aE1 (vv 4) (eO (vv 6)) fX)) aA))))) (aF (cG (bZ (aO (aRn rfl) (by rfl) T.aZb aYg (aB (cT (N:=["_law_word","_law_names_here"]) (by trivial) (iW (aD kY) rfl (by decide +kernel)) rfl (kJ (aYj (aE5.mono (by decide)) hr (by rfl))) (fun cl s' H' fp=>⟨(aQ (i:=0) (show (["_law_word","_law_names_here"]:List Str).Nodup from by decide +kernel) rfl (Or.inl rfl)),eX,(cB (aJm (K:=K)) (vv 0) (vv 1) (by with_unfolding_all rfl))⟩)) aA))) (aG (aY (i:=7) cA.nd rfl (by trivial) (cX (aJ6 rfl) (by rfl) T.aD2 yX (aB (dN aE1 (vv 2) (eO (vv 3)) (eO (bK dH (vv 3) (vv 1)))) aA)))) bB) (aF (cG (bR eU (aP (aR.mono (by decide)) hr (by rfl) (aB (vv 0) (aB aC aA))) aC (bH _)) (aG (jL (aY0 PySem.F.plainAttrs_list PySem.F.slot_list_reverse PySem.F.type_list_reverse aGr (vv 7)))) bB) (aG (aM (vv 7)))))))))))),?_⟩;have al:abc.length=26:=by decide +kernel
 refine ⟨_,rfl,_,rfl,_,_,rfl,rfl,a,10,rfl,hs,by decide,fun od H1 f1 o0 o1=>?_⟩;obtain ⟨o,rfl⟩:∃o:Nat,od=o:=⟨od.toNat,by lia⟩;have ho:o<10:=by lia
 refine ⟨_,rfl,a,8,rfl,f1.st,by decide,fun n H2 f2 n0 n1=>?_⟩;refine ⟨_,rfl,by lia,by lia,jC (n:=n.toNat) (fun i σ H'=>Fx a H H'∧∃(x:Str) (l5:Option V),σ=[some (.ref a),some (.int 17),some (.str abc),some (.int (o:Nat)),some (.str x),l5,none,none]∧x.length≤i∧Lets x) ⟨f1.trans f2,_,_,rfl,by decide +kernel,fun d hd=>by simp [show (("":Str).cps)=#[] from rfl] at hd⟩ ?_ ?_⟩
 ·rintro i σ H' hi ⟨fx,x,l5,rfl,hl,hx⟩;refine ⟨_,rfl,_,rfl,_,rfl,a,26,rfl,fx.st,by decide,fun d H3 f3 d0 d1=>?_⟩;obtain ⟨ch,hch⟩:=aMg (z:=abc) d0 (by rw [al];exact d1);refine ⟨_,_,_,rfl,rfl,d0,(by lia),(by rw [al];exact d1),hch,_,_,rfl,rfl,?_,fx.trans f3,_,_,rfl,?_,hx.add (aHr.one hch)⟩
  ·show x.length+1≤sizeLine;exact small (by lia)
  ·rw [aFw];show x.length+1≤i+1;lia
 rintro σ H3 ⟨f3,b,l5,rfl,hl,hb⟩;have hb7:b.length≤7:=by lia
 refine ⟨_,rfl,_,rfl,_,rfl,small (by lia),_,_,rfl,rfl,a,_,rfl,f3.st,(by show (0:Int)<(b.length:Int)+1∧(b.length:Int)+1<2 ^ 64;lia),fun ai H4 f4 a0 a1=>?_⟩;obtain ⟨at',rfl⟩:∃at':Nat,ai=at':=⟨ai.toNat,by lia⟩;have ha:at'≤b.length:=by have:(at':Int)<(b.length:Int)+1:=a1;lia
 have fx4:=f3.trans f4;refine ⟨(by show 0≤sizeLine;decide),fun p H5 fp s5 g5=>?_⟩;have fp0:H p=none:=fx4.free fp;have npa:p≠a:=hs.ne fp0;refine ⟨_,rfl,_,rfl,by decide,by decide,jC (n:=17) (fun i σ H'=>Fx a H H'∧H' p=some (.lst ((stm b at' o i).map V.str))∧∃l5,σ=[some (.ref a),some (.int 17),some (.str abc),some (.int (o:Nat)),some (.str b),l5,some (.int (at':Nat)),some (.ref p)]) ⟨fx4.sm s5,g5,_,rfl⟩ ?_ ?_⟩
 ·rintro i σ H' hi ⟨fx,gp,l5,rfl⟩;have s1:=Txt.slice_le b none (some ((at':Nat):Int));have s2:=Txt.slice_le b (some ((at':Nat):Int)) none;have ej:((o:Int)+(0+(i:Int))).toNat=o+i:=by lia
  have hch:abc.cps[((o:Int)+(0+(i:Int))).toNat]?=some (97+(o+i)):=by rw [ej];exact aUs (by lia)
  refine ⟨_,rfl,.inl ⟨rfl,_,SqL.of gp⟩,_,rfl,_,rfl,_,rfl,_,rfl,small (by lia),_,rfl,_,rfl,_,rfl,_,_,rfl,rfl,_,_,_,rfl,rfl,(by show 0≤(o:Int)+(0+(i:Int));lia),(by show (o:Int)+(0+(i:Int))<2 ^ 63;lia),(by rw [al];show (o:Int)+(0+(i:Int))<26;lia),hch,_,_,rfl,rfl,?_,_,rfl,_,rfl,_,rfl,_,rfl,small (by lia),_,_,rfl,rfl,?_,?_⟩
  ·show (Txt.slice b none (some ((at':Nat):Int))).length+1≤sizeLine;exact small (by lia)
  ·rw [aFw];show (Txt.slice b none (some ((at':Nat):Int))).length+1+_≤sizeLine;exact small (by lia)
  refine ⟨p,_,_,rfl,rfl,gp,?_,fx.upd fp0 npa,?_,_,rfl⟩
  ·rw [m7];exact nF (by simp [stm];lia)
  ·rw [aH];unfold stm;rw [List.range_succ,bA5,bA5];rfl
 rintro σ H6 ⟨f6,g6,l5',rfl⟩;dsimp only [aCf,aN6,tB,tCB,dR];refine aNv (K:=K) (fun us=>us=words) (fun i _ y=>∃w',words[i]?=some w'∧y=.bl (inV w' ((stm b at' o 17).map V.str))) (fun _ h=>h) (fun _ h=>h) [none,some (.ref p)] ?_ rfl (fun R r=>⟨rfl,fun W H7 _ s7 g7=>r W H7 _ s7 g7 rfl⟩) (fun us e=>by subst e;exact small (by decide)) (fun us e i x ex H' R l sm r=>?_) fun us e D H7 ys s7 g7 hly hR=>?_
 ·exact uN 7 (by decide +kernel) rfl rfl (by trivial)
 ·subst e;have fl:gU x=true:=by have:=aBh;rw [bB7] at this;exact this x (w6 ex)
  exact ⟨_,rfl,_,rfl,p,_,rfl,.inl (SqL.of (sm _ _ g6)),fl,aHw,r _ _ (Same.refl _) ⟨x,ex,rfl⟩⟩
 subst e;have ey:ys=(words.map fun w'=>inV w' ((stm b at' o 17).map V.str)).map V.bl:=by
  rw [bC0];refine bBY fun i=>?_;by_cases hi:i<ys.length
  ·obtain ⟨w',h1,h2⟩:=hR i ys[i] (j0 hi);rw [j0 hi,t8,h1,h2];rfl
  ·rw [bAO (by lia),bAO (by rw [m7];lia)]
 rw [ey] at g7;refine ⟨D,_,rfl,SqL.of g7,_,rfl,?_⟩;have f7:=f6.sm s7;refine aJn (fun c=>?_) (fun c=>?_)
 ·refine ⟨_,rfl,_,rfl,_,rfl,_,rfl,_,rfl,_,_,rfl,rfl,_,rfl,abc,rfl,small (by rw [al];decide),?_⟩;refine ⟨_,rfl,?_,fun p2 H8 fp2 s8 g8=>?_⟩
  ·have:=Txt.slice_le abc (some (o:Int)) (some ((o:Int)+17));rw [al] at this;exact bAR this (by decide)
  have g8':H8 p2=some (.lst ((sgl o).map V.str)):=by rw [g8];exact congrArg (fun z=>some (HO.lst z)) (aUp ho)
  have f8:=f7.sm s8;have fp20:H p2=none:=f7.free fp2;refine ⟨_,rfl,a,2,rfl,f8.st,by decide,fun d H9 f9 d0 d1=>?_⟩;have g9:=f9.same _ _ (hs.ne fp20) g8';refine ⟨rfl,_,rfl,aJn (fun _=>?_) (fun _=>?_)⟩
  ·refine ⟨_,rfl,.inl ⟨rfl,_,SqL.of g9⟩,p2,_,rfl,rfl,g9,?_⟩;refine ⟨_,rfl,q p2 _ (sgl o).reverse ((f8.trans f9).upd fp20 (hs.ne fp20)) fp20 ?_ (aRj ho).rev⟩;rw [aH,List.map_reverse]
  ·exact ⟨_,rfl,q p2 _ (sgl o) (f8.trans f9) fp20 g9 (aRj ho)⟩
 ·have hw:∀w'∈words,inV w' ((stm b at' o 17).map V.str)=false:=fun w' hw'=>by
   cases e:inV w' ((stm b at' o 17).map V.str) with
   |false=>rfl
   |true=>exfalso;apply c;rw [bDB];exact ⟨true,List.mem_map.mpr ⟨w',hw',e⟩,rfl⟩
  have hn:=aXn hb hb7 ha ho hw;refine ⟨_,rfl,a,2,rfl,f7.st,by decide,fun d H9 f9 d0 d1=>?_⟩;have g9:=f9.same _ _ npa (s7 _ _ g6);refine ⟨rfl,_,rfl,aJn (fun _=>?_) (fun _=>?_)⟩
  ·refine ⟨_,rfl,.inl ⟨rfl,_,SqL.of g9⟩,p,_,rfl,rfl,g9,?_⟩;refine ⟨_,rfl,q p _ (stm b at' o 17).reverse ((f7.trans f9).upd fp0 npa) fp0 ?_ hn.rev⟩;rw [aH,List.map_reverse]
  ·exact ⟨_,rfl,q p _ (stm b at' o 17) (f7.trans f9) fp0 g9 hn⟩
def aIe (K:bEL):Sp:=fun vs H Q _=>∃(a N:Addr) (ns:List Str),vs=[.ref a,.ref N]∧jZ H a∧H N=some (.lst (ns.map V.str))∧N≠a∧uU ns∧∀v H' hd,Fx a H H'→jR K H' v hd→aPe hd→hd.length≤7→Q v H'
theorem aWz {α:Type} {l:List α} (h:l.Nodup) {i j:Nat} {x:α} (h1:l[i]?=some x) (h2:l[j]?=some x):i=j:=by
 have hp:=List.pairwise_iff_getElem.mp h;obtain ⟨hi,e1⟩:=List.getElem?_eq_some_iff.mp h1;obtain ⟨hj,e2⟩:=List.getElem?_eq_some_iff.mp h2;rcases Nat.lt_trichotomy i j with q|q|q
 ·exact absurd (e1.trans e2.symm) (hp i j hi hj q)
 ·exact q
 ·exact absurd (e2.trans e1.symm) (hp j i hj hi q)
theorem aZt {α:Type} {l:List α} (h:∀(i j:Nat) (x:α),l[i]?=some x→l[j]?=some x→i=j):l.Nodup:=by refine List.pairwise_iff_getElem.mpr fun i j hi hj hij e=>?_;have:=h i j l[i] (j0 hi) (by rw [j0 hj,e]);lia
theorem aS1 {ns:List Str} (hn:uU ns) {st:Nat} {hd:Hdr} (hl:hd.length≤8) (h:∀(j:Nat) (c:Str × Str),hd[j]?=some c→ns[3+(st+j) % 8]?=some c.1):(hd.map (·.1)).Nodup:=by
 refine aZt fun i j x h1 h2=>?_;have g:∀k,(hd.map (·.1))[k]?=some x→k<hd.length∧ns[3+(st+k) % 8]?=some x:=fun k hk=>by
  rw [t8] at hk;cases e:hd[k]? with
  |none=>rw [e] at hk;cases hk
  |some c=>rw [e] at hk;cases hk;exact ⟨(List.getElem?_eq_some_iff.mp e).1,h k c e⟩
 obtain ⟨l1,g1⟩:=g i h1;obtain ⟨l2,g2⟩:=g j h2;have:=aWz hn.2.2 g1 g2;lia
theorem aF4 (T:Txt w K mg) (aR:Ok P w K mg base 1 "_law_next" ["_law_state","_law_many"] oN):Ok P w K mg base 2 "_law_head" ["_law_state","_law_names_here"] (aIe K):=by
 refine Ok.ofV T.aIk iK (fun vs H Q E h=>?_) (fun f cdv A outer s H vs Q E hr h=>?_)
 ·obtain ⟨a,N,ns,rfl,_⟩:=h;rfl
 obtain ⟨a,N,ns,rfl,hs,hN,nN,hn,q⟩:=h;refine ⟨_,(aF (aY (i:=2) iK.nd rfl (by trivial) (aP (aR.mono (by decide)) hr (by rfl) (aB (vv 0) (aB aC aA)))) (aF (aY (i:=3) iK.nd rfl (by trivial) (dM aA)) (aF (jD PassesOwn.never rfl (gJ (by rfl) T.jY (aB (bK dH aC (bK xD (aP (aR.mono (by decide)) hr (by rfl) (aB (vv 0) (aB aC aA))) (bK dH aC (cX aDp (by rfl) T.aRt aK1 (aB (cB eU (aP (aR.mono (by decide)) hr (by rfl) (aB (vv 0) (aB aC aA))) aC (bH _)) aA))))) aA)) (aQ (i:=4) iK.nd rfl (by trivial)) (aF (aY (i:=5) iK.nd rfl (by trivial) (aL bV (dM (aB bA (aB bA (aB bA aA)))) (aP (aR.mono (by decide)) hr (by rfl) (aB (vv 0) (aB aC aA))) (fun _ _=>rfl))) (aG (jL (aA8 PySem.F.plainAttrs_list PySem.F.slot_list_append PySem.F.type_list_append pC (vv 3) (aB (cV (aB (aL bV (vv 1) (bK dH aC (bK qK (bK dH (vv 2) (vv 4)) aC)) (fun _ _=>rfl)) (aB (vv 5) aA))) aA)))))) (aG (aM (cX pN (by rfl) T.jK fP (aB (vv 3) aA))))))),?_⟩;have l17:=hn.1;refine ⟨_,rfl,a,8,rfl,hs,by decide,fun st0 H1 f1 st00 st01=>?_⟩;obtain ⟨st,rfl⟩:∃st:Nat,st0=st:=⟨st0.toNat,by lia⟩;refine ⟨(by show 0≤sizeLine;decide),fun p H2 fp s2 g2=>?_⟩;have f2:=f1.sm s2;have fp0:H p=none:=f1.free fp;have npa:p≠a:=hs.ne fp0;refine ⟨_,rfl,a,4,rfl,f2.st,by decide,fun m H3 f3 m0 m1=>?_⟩;refine ⟨_,rfl,a,8,rfl,f3.st,by decide,fun e H4 f4 e0 e1=>?_⟩;have f4':=f2.trans (f3.trans f4);have g4:=f4.same _ _ npa (f3.same _ _ npa g2);refine ⟨rfl,.inr ⟨_,rfl,?_⟩⟩;have bnd:∃z:Nat,1+m * (1+(if decide (V.int e=V.int 0) then 1 else 0))=(z:Int)∧1≤z∧z≤7:=by
  cases decide (V.int e=V.int 0)
  ·exact ⟨(1+m).toNat,by simp;lia,by lia,by lia⟩
  ·exact ⟨(1+m * 2).toNat,by simp;lia,by lia,by lia⟩
 obtain ⟨z,ez,z1,z7⟩:=bnd;refine ⟨_,_,rfl,rfl,_,_,rfl,rfl,.inl ⟨by lia,by lia⟩,_,_,rfl,rfl,?_⟩;refine ⟨(z:Int),?_,by lia,by lia,?_⟩
 ·show [V.int (1+m * (1+(if decide (V.int e=V.int 0) then 1 else 0)))]=_;rw [ez]
 rw [bAY];refine jC (n:=z) (fun i σ H'=>Fx a H H'∧∃(us:List V) (hd:Hdr) (l4 l5:Option V),H' p=some (.lst us)∧hd.length=i∧cL (IsC K H') us hd∧(∀(j:Nat) (c:Str × Str),hd[j]?=some c→ns[3+(st+j) % 8]?=some c.1∧aEy c.2)∧σ=[some (.ref a),some (.ref N),some (.int (st:Nat)),some (.ref p),l4,l5]) ⟨f4',[],[],_,_,g4,rfl,.nil,fun j c h=>by simp at h,rfl⟩ ?_ ?_
 ·rintro i σ H' hi ⟨fx,us,hd,l4,l5,gp,hl,hu,hc,rfl⟩;have lu:=hu.len;refine ⟨(by show 3≤sizeLine;decide),fun p1 H5 fp1 s5 g5=>?_⟩;refine ⟨_,rfl,a,3,rfl,fx.st.same s5,by decide,fun d H6 f6 d0 d1=>?_⟩;obtain ⟨kv,hkv,mkv⟩:=at_of (xs:=[.str "number",.str "number",.str "word"]) d0 (by show d<3;lia);obtain ⟨kd,rfl,hkd⟩:∃kd:Str,kv=.str kd∧aEy kd:=by
   simp only [bAB,v6,or_false] at mkv;rcases mkv with rfl|rfl|rfl
   ·exact ⟨_,rfl,.inl rfl⟩
   ·exact ⟨_,rfl,.inl rfl⟩
   ·exact ⟨_,rfl,.inr rfl⟩
  have f6':=(fx.sm s5).trans f6;refine ⟨p1,_,_,_,rfl,rfl,SqL.of (f6.same _ _ (fx.st.ne fp1) g5),hkv,?_⟩;have gp6:=f6.same _ _ npa (s5 _ _ gp);have hN6:=f6'.same _ _ nN hN;have hu6:cL (IsC K H6) us hd:=hu.imp fun _ _ ⟨p',ep,hp⟩=>⟨p',ep,f6.aV (fx.st.same s5) (s5.aV hp)⟩;have hix:3+(st+i) % 8<ns.length:=by lia
  refine ⟨_,rfl,.inl ⟨rfl,_,SqL.of gp6⟩,?_⟩;refine ⟨_,rfl,_,rfl,_,rfl,_,_,rfl,rfl,_,_,rfl,rfl,(by show (0:Int)<8;decide),_,_,rfl,rfl,N,_,_,.str ns[3+(st+i) % 8],rfl,rfl,SqL.of hN6,?_,_,rfl,(by show 2≤sizeLine;decide),fun t H7 ft s7 g7=>?_⟩
  ·have e8:(3:Int)+((st:Int)+(0+(i:Int))) % 8=((3+(st+i) % 8:Nat):Int):=by lia
   show atI (ns.map V.str) ((3:Int)+((st:Int)+(0+(i:Int))) % 8)=_;rw [e8];exact cI (by rw [t8,j0 hix];rfl)
  refine ⟨p,_,_,rfl,rfl,s7 _ _ gp6,nF (by lia),?_⟩;have ntp:t≠p:=(aU gp6 ft).symm;refine ⟨(f6'.sm s7).upd fp0 npa,us++[.ref t],hd++[(ns[3+(st+i) % 8],kd)],_,_,aH,by rw [bAC,hl];rfl,?_,fun j c h=>?_,rfl⟩
  ·refine (hu6.imp fun _ _ ⟨p',ep,hp⟩=>⟨p',ep,(s7.aV hp).mU (s7 _ _ gp6)⟩).app (.cons ⟨t,rfl,SqT.of (by rw [aK ntp];exact g7)⟩ .nil)
  ·by_cases hj:j<hd.length
   ·rw [bB4 hj] at h;exact hc j c h
   ·rw [bBX (by lia)] at h;have hj0:j - hd.length=0:=by
     by_cases z0:j - hd.length=0
     ·exact z0
     ·rw [bAO (by simp;lia)] at h;cases h
    rw [hj0] at h;cases h;have:j=i:=by lia
    subst this;exact ⟨j0 hix,hkd⟩
 ·rintro σ H' ⟨fx,us,hd,l4,l5,gp,hl,hu,hc,rfl⟩;refine ⟨_,rfl,p,us,rfl,SqL.of gp,fun t H5 _ s5 g5=>q _ _ hd (fx.sm s5) ⟨t,us,rfl,SqT.of g5,hu.imp fun _ _ h=>h.same s5⟩ ⟨⟨aS1 hn (by lia) fun j c h=>(hc j c h).1,by lia,by lia⟩,fun c hcm=>?_⟩ (by lia)⟩;obtain ⟨j,hj,e⟩:=bB2 hcm;have h2:=hc j c (by rw [j0 hj,e]);exact ⟨hn.2.1 _ (w6 h2.1),h2.2⟩
def TK (K:bEL) (H H':Hp):Prop:=∀p xs,SqT K H p xs→SqT K H' p xs
theorem _root_.L2.Fx.tk {K:bEL} {a:Addr} {H H':Hp} (f:Fx a H H') (h:jZ H a):TK K H H':=fun _ _ e=>f.aV h e
theorem TK.of {K:bEL} {H H':Hp} (s:Same H H'):TK K H H':=fun _ _ e=>s.aV e
theorem IsC.tk {K:bEL} {H H':Hp} {v:V} {c:Str × Str} (e:TK K H H') (h:IsC K H v c):IsC K H' v c:=by obtain ⟨p,rfl,hp⟩:=h;exact ⟨p,rfl,e _ _ hp⟩
theorem aMr {α:Type} {K:bEL} {H H':Hp} {R S:V→α→Prop} {v:V} {xs:List α} (e:TK K H H') (k:∀a b,R a b→S a b) (h:mW K H R v xs):mW K H' S v xs:=by obtain ⟨a,vs,rfl,ha,hr⟩:=h;exact ⟨a,vs,rfl,e _ _ ha,hr.imp k⟩
theorem jR.tk {K:bEL} {H H':Hp} {v:V} {hd:Hdr} (e:TK K H H') (h:jR K H v hd):jR K H' v hd:=aMr e (fun _ _ q=>q.tk e) h
theorem aQa {hd:Hdr} (nd:(hd.map (·.1)).Nodup) {c:Str × Str} (h:c∈hd):look hd c.1=some c.2:=by
 induction hd with
 |nil=>cases h
 |cons x r ih=>
  rw [bAN,bDH] at nd;unfold look;rw [bBT];rcases List.mem_cons.mp h with rfl|h
  ·rw [v8 rfl];rfl
  ·have ne:¬ x.1=c.1:=fun z=>nd.1 (by rw [z];exact List.mem_map.mpr ⟨c,h,rfl⟩);rw [bAD ne];exact ih nd.2 h
theorem aAc {α β:Type} {R:α→β→Prop}:∀{as:List α} {bs:List β},as.length=bs.length→(∀(i:Nat) (a:α) (b:β),as[i]?=some a→bs[i]?=some b→R a b)→cL R as bs
 |[],[],_,_=>.nil
 |[],_::_,h,_=>by cases h
 |_::_,[],h,_=>by cases h
 |a::as,b::bs,h,k=>.cons (k 0 a b rfl rfl) (aAc (by simpa using h) fun i x y e1 e2=>k (i+1) x y (by simpa using e1) (by simpa using e2))
theorem pO {α:Type}:∀(k:Nat) (xs:List α),sel (fun _=>true) k xs=xs
 |_,[]=>rfl
 |k,x::r=>by show (if true=true then x::sel (fun _=>true) (k+1) r else _)=_;rw [if_pos rfl,pO (k+1) r]
theorem nJ {R:Nat→V→Prop} {n:Nat} {ys:List V} (h:sE R (List.range n) ys):ys.length=n∧∀(i:Nat) (y:V),ys[i]?=some y→R i y:=by
 have aux:∀{is:List Nat} {ys:List V},sE R is ys→∀(i:Nat) (y:V),ys[i]?=some y→∃j,is[i]?=some j∧R j y:=by
  intro is ys h
  induction h with
  |nil=>intro i y e;simp at e
  |cons r _ ih=>
   intro i y e;cases i with
   |zero=>cases e;exact ⟨_,rfl,r⟩
   |succ i=>obtain ⟨j,h1,h2⟩:=ih i y (by simpa using e);exact ⟨j,by simpa using h1,h2⟩
 have l:=h.len;rw [bAM] at l;refine ⟨l.symm,fun i y e=>?_⟩;obtain ⟨j,h1,h2⟩:=aux h i y e;have hi:i<n:=by have:=(List.getElem?_eq_some_iff.mp e).1;lia
 rw [bB1 hi] at h1;cases h1;exact h2
theorem aZh {ks:List Bool} {r:List V} (h:KdR ks r):∀x∈r,(∃i,x=.int i)∨∃z,x=.str z:=by
 unfold KdR at h
 induction h with
 |nil=>intro x hx;cases hx
 |@cons b y _ _ h _ ih=>
  intro x hx;rcases List.mem_cons.mp hx with rfl|hx
  ·cases b with
   |true=>exact .inl h
   |false=>exact .inr h
  ·exact ih x hx
def aD1 (K:bEL):Sp:=fun vs H Q _=>∃(a:Addr) (vh:V) (hd:Hdr),vs=[.ref a,vh]∧jZ H a∧jR K H vh hd∧aPe hd∧∀t H' r,Fx a H H'→H' t=some (.tup r)→aBp hd r→Q (.ref t) H'
theorem aGf (T:Txt w K mg) (iQ:Ok P w K mg base 3 "_law_value" ["_law_state","_law_kind"] zF):Ok P w K mg base 4 "_law_row" ["_law_state","_law_head_here"] (aD1 K):=by
 refine Ok.ofV T.aKd aH9 (fun vs H Q E h=>?_) (fun f cdv A outer s H vs Q E hr h=>?_)
 ·obtain ⟨a,vh,hd,rfl,_⟩:=h;rfl
 obtain ⟨a,vh,hd,rfl,hs,⟨b,us,rfl,hb,hu⟩,⟨hgd,hok⟩,q⟩:=h;refine ⟨_,(aG (aM (cX pN (by rfl) T.jK fP (aB (cT (N:=["_law_name","_law_kind","_law_state"]) (by trivial) (iW (aD nQ) rfl (by decide +kernel)) rfl (mL (vv 1)) (fun cl s' H' fp=>⟨(rR (K:=K) (n:=2) rfl (bI (aQ (i:=0) (show (["_law_name","_law_kind","_law_state"]:List Str).Nodup from by decide +kernel) rfl (Or.inl rfl)) (bI (aQ (i:=1) (show (["_law_name","_law_kind","_law_state"]:List Str).Nodup from by decide +kernel) rfl (Or.inl rfl)) gC))),eX,(aP (iQ.mono (by decide)) hr (by rfl) (aB (vv 2) (aB (vv 1) aA)))⟩)) aA)))),?_⟩;have lu:=hu.len;have l8:=hgd.2.2;dsimp only [uT,tCB,dR];refine lK [none,none,some (.ref a)] ?_ ⟨_,rfl,b,rfl,⟨_,hb⟩,aHd (Fx a) (aSc hs) us (fun _=>true) (fun i _ y=>∃c',hd[i]?=some c'∧bJ c'.2 y) (fun _ _ h=>h) (fun _ _ _ h=>h) (fun i σ=>∃c',hd[i]?=some c'∧At2 [none,none,some (.ref a)] (.str c'.1) (.str c'.2) σ) (Ps2 [none,none,some (.ref a)]) ⟨none,none,rfl⟩ (small (by lia)) _ (tE fun H' f'=>f'.aV hs hb) (lO fun H' f'=>f'.aV hs hb) (fun i x σ' H' Q' ex hps f' qq=>?_) (fun i x σ2 ex hA H' R f' r=>r H' (Fx.refl f'.st)) (fun i x σ2 ex hA hp H' R f' r=>?_) fun D H6 ys f6 fD g6 hys=>?_⟩
 ·refine ⟨rfl,fun i y v h1 h2=>?_⟩
  match i,h1,h2 with
  |0,_,h2=>cases h2
  |1,_,h2=>cases h2
  |2,h1,h2=>cases h1;cases h2;exact ⟨by decide +kernel,0,rfl,rfl,by trivial⟩
  |i+3,h1,_=>cases h1
 ·obtain ⟨c',hc',p',rfl,hp'⟩:=cC hu ex;exact hg2 (f'.aV hs hp') hps fun σ2 h1 h2=>qq σ2 h1 ⟨c',hc',h2⟩
 ·obtain ⟨c',hc',rfl⟩:=hA;exact ⟨_,rfl,_,rfl,a,c'.2,rfl,f'.st,(hok c' (w6 hc')).2,fun v H2 f2 hv=>r v H2 f2 ⟨c',hc',hv⟩⟩
 ·rw [pO] at hys;obtain ⟨l1,l2⟩:=nJ hys;refine ⟨D,_,rfl,SqL.of g6,fun t H3 _ s3 g3=>q t H3 ys (f6.sm s3) g3 (aAc (by lia) fun i k y ek ey=>?_)⟩;obtain ⟨c',hc',hv⟩:=l2 i y ey;rw [hc'] at ek;cases ek;exact hv
theorem aP2 {X:Cx} {o e:Expr} {apos cpos:Pos} {td ty:TE} (hu:X.A.units+1<cLine) (ho:VE X o td) (he:VE X e ty) (m:M1 X o "get" apos e cpos:=by exact ⟨rfl,rfl,rfl,rfl⟩):VE X (.Call (.Attribute o "get" apos) [e] [] cpos) (aP6 td ty):=⟨aP0 hu ho.1 he.1 m⟩
theorem aY1 {X:Cx} {i o:Expr} {td ty:TE} {pos:Pos} (hu:X.A.units+1<cLine) (hi:VE X i ty) (ho:VE X o td) (h1:behindInMarks .In o=false:=by first|exact nobehind _ (by decide) (by decide)|rfl):VT X (.Compare i [.In] [o] pos) (tB (bAi ty td)):=⟨aRm (aW0 hu hi.1 ho.1) h1⟩
def aDt:Sp:=fun _ _ _ _=>False
structure cP (K:bEL) (H:Hp) (C x:Addr) (m:Int) (d dm:Addr) (es:List En):Prop where
 at_:∃dx,H x=some (.ins C dx [("placed",.ref d),("house_count",.int m),("moves",.ref dm)])
 ens:lL K H d es
 ok:∀e∈es,pH m e.t
 mv:H dm=some (.dK [])
theorem cP.same {H H':Hp} {C x d dm:Addr} {m:Int} {es:List En} (s:Same H H') (h:cP K H C x m d dm es):cP K H' C x m d dm es:=
 ⟨let ⟨dx,h1⟩:=h.at_;⟨dx,s _ _ h1⟩,h.ens.same s,h.ok,s _ _ h.mv⟩
def aH8 (K:bEL) (C Pt:Addr):Sp:=fun vs H Q _=>∃(H0:Hp) (x dx d:Addr) (m:Int) (es:List En),vs=[.ref x,.int m,.ref d]∧H x=some (.ins C dx [])∧H0 x=none∧Same H0 H∧1≤m∧m≤6∧lL K H0 d es∧(∀e∈es,pH m e.t)∧H0 Pt=some (.tab qC) ∧
 ∀d' dm H' es',H0 d'=none→H0 dm=none→Same H0 H'→cP K H' C x m d' dm es'→cL (fun e e'=>∃v L,e'=uC e v L∧H0 L=none) es es'→Q .non H'
theorem aOa (T:Txt w K mg) {C Pt:Addr} (c:Cls K C) (D:iR K C "__init__" "Store.__init__" fG ["self","houses","tables"]) (n1:bN K C "placed") (n2:bN K C "house_count") (n3:bN K C "moves") (jT:Ok P w K mg base 10 "placed_tables" ["houses","tables"] (wG K Pt)):OkM P w K mg base C 11 "__init__" ["self","houses","tables"] (aH8 K C Pt):=by
 refine OkM.ofV c D vG (fun vs H Q E h=>?_) (fun f cdv A outer s H vs Q E hr h=>?_)
 ·obtain ⟨_,x,dx,d,m,es,rfl,_⟩:=h;rfl
 obtain ⟨H0,x,dx,d,m,es,rfl,hx,hN,s0,m1,m6,hE,ok,hP,q⟩:=h;refine ⟨_,(aF (aBk (K:=K) (vv 0) (aP (jT.mono (by decide)) hr (by rfl) (aB (vv 1) (aB (vv 2) aA)))) (aF (aBk (K:=K) (vv 0) (vv 1)) (aG (aBk (K:=K) (vv 0) aR6)))),?_⟩;refine ⟨_,rfl,_,rfl,d,m,es,rfl,m1,m6,hE.same s0,ok,s0 _ _ hP,fun d' H1 es' hd' s1 hE' a1=>?_⟩;have hx1:=s1 _ _ hx;refine ⟨_,rfl,x,C,dx,[],rfl,hx1,c,n1,by decide,?_⟩;refine ⟨_,rfl,_,rfl,x,C,dx,_,rfl,aH,c,n2,by show 1<1000;decide,?_⟩;have nx:eE H1 x:=eE.ins hx1;have dne:d'≠x:=fun z=>by rw [z,hx] at hd';cases hd'
 have b1:But x H1 (L2.upd (L2.upd H1 x (.ins C dx (iT "placed" (.ref d') []))) x (.ins C dx (iT "house_count" (.int m) (iT "placed" (.ref d') [])))):=fun b o hb h=>by rw [aK hb,aK hb];exact h
 have g1:L2.upd (L2.upd H1 x (.ins C dx (iT "placed" (.ref d') []))) x (.ins C dx (iT "house_count" (.int m) (iT "placed" (.ref d') []))) x=some (.ins C dx [("placed",.ref d'),("house_count",.int m)]):=aH;have fr:∀{b},L2.upd (L2.upd H1 x (.ins C dx (iT "placed" (.ref d') []))) x (.ins C dx (iT "house_count" (.int m) (iT "placed" (.ref d') []))) b=none→H1 b=none:=fun {b} h=>by
  by_cases z:b=x
  ·rw [z,aH] at h;cases h
  ·rw [aK z,aK z] at h;exact h
 generalize L2.upd (L2.upd H1 x (.ins C dx (iT "placed" (.ref d') []))) x (.ins C dx (iT "house_count" (.int m) (iT "placed" (.ref d') [])))=H2 at b1 g1 fr ⊢;refine fun dm H3 hdm s3 g3=>?_;refine ⟨_,rfl,x,C,dx,_,rfl,s3 _ _ g1,c,n3,by show 2<1000;decide,?_⟩;have b3:But x H1 (L2.upd H3 x (.ins C dx [("placed",.ref d'),("house_count",.int m),("moves",.ref dm)])):=fun b o hb h=>by rw [aK hb];exact s3 _ _ (b1 _ _ hb h)
 have ndm:dm≠x:=fun z=>by rw [z,g1] at hdm;cases hdm
 have s2:Same H0 (L2.upd H3 x (.ins C dx [("placed",.ref d'),("house_count",.int m),("moves",.ref dm)])):=fun b o h=>b3 _ _ (fun z=>by rw [z,hN] at h;cases h) (s1 _ _ (s0 _ _ h));refine q d' dm _ es' (none_of s0 hd') (none_of (s0.trans s1) (fr hdm)) s2 ⟨⟨dx,aH⟩,⟨b3 _ _ dne hE'.at_,hE'.nd,hE'.few,hE'.nm,fun e he=>b3.tb nx (hE'.tb e he)⟩,fun e he=>?_,by rw [aK ndm];exact g3⟩ (a1.imp fun e e' ⟨v,L,e1,e2⟩=>⟨v,L,e1,none_of s0 e2⟩);obtain ⟨e0,h0,v,L,rfl,_⟩:=aC8 a1 he;exact (ok e0 h0).sorted
def aNi (K:bEL) (C Ct Pt:Addr):Sp:=fun vs H Q _=>∃(x d dm:Addr) (m:Int) (es:List En),vs=[.ref x]∧cP K H C x m d dm es∧1≤m∧m≤6∧H Pt=some (.tab qC)∧∀y d' H' es',H y=none→H d'=none→Same H H'→uB K H' Ct y m d' es'→cL (fun e e'=>∃v L,e'=uC e v L∧H L=none) es es'→Q (.ref y) H'
theorem aPy (T:Txt w K mg) {C Ct Pt:Addr} (c:Cls K C) (D:iR K C "town" "Store.town" kI ["self"]) (n1:bN K C "placed") (n2:bN K C "house_count") (GC_Town:OkC P w K mg base Ct 11 "Town" ["self","houses","tables"] (aMd K Ct Pt)):OkM P w K mg base C 13 "town" ["self"] (aNi K C Ct Pt):=by
 refine OkM.ofV c D aCo (fun vs H Q E h=>?_) (fun f cdv A outer s H vs Q E hr h=>?_)
 ·obtain ⟨x,d,dm,m,es,rfl,_⟩:=h;rfl
 obtain ⟨x,d,dm,m,es,rfl,hS,m1,m6,hP,q⟩:=h;refine ⟨_,(aG (aM (aMm (GC_Town.mono (by decide)) hr (by rfl) (aB (jA (K:=K) (vv 0)) (aB (jA (K:=K) (vv 0)) aA))))),?_⟩;obtain ⟨dx,hx⟩:=hS.at_;refine ⟨_,rfl,x,C,dx,_,_,rfl,hx,c,n2,rfl,_,rfl,x,C,dx,_,_,rfl,hx,c,n1,rfl,fun y dy hy hdy hne=>?_⟩;refine ⟨H,y,dy,d,m,es,rfl,aH,hy,lH hy (aX hdy _),m1,m6,hS.ens,hS.ok,hP,fun d' H1 es' hd' s1 hT a1=>⟨rfl,?_⟩⟩;exact q y d' H1 es' hy hd' s1 hT a1
def aMx (K:bEL) (C:Addr):Sp:=fun vs H Q _=>∃(x d dm:Addr) (m:Int) (es:List En) (e:En) (n:Str) (h0:Int) (cs:List (V × Int)),vs=[.ref x,.str e.n]∧cP K H C x m d dm es∧e∈es∧e.t.pl=.spans n h0 cs∧∀H',Same H H'→Q e.v H'
theorem aP3 (T:Txt w K mg) {C:Addr} (c:Cls K C) (D:iR K C "cut_table" "Store.cut_table" eG ["self","name"]) (n1:bN K C "placed") (cZ:Ok P w K mg base 3 "table_in" ["placed","name"] (tW K)):OkM P w K mg base C 4 "cut_table" ["self","name"] (aMx K C):=by
 refine OkM.ofV c D lM (fun vs H Q E h=>?_) (fun f cdv A outer s H vs Q E hr h=>?_)
 ·obtain ⟨x,d,dm,m,es,e,n,h0,cs,rfl,_⟩:=h;rfl
 obtain ⟨x,d,dm,m,es,e,n,h0,cs,rfl,hS,he,epl,q⟩:=h;refine ⟨_,(aF (aY (i:=2) lM.nd rfl (by trivial) (aP (cZ.mono (by decide)) hr (by rfl) (aB (jA (K:=K) (vv 0)) (aB (vv 1) aA)))) (aF (cG (bR aAk (aL aW (aL aW (vv 2) aC (fun _ _=>rfl)) aC (fun _ _=>rfl)) bA (bH _)) (aG jP) bB) (aG (aM (vv 2))))),?_⟩;obtain ⟨dx,hx⟩:=hS.at_;refine ⟨_,rfl,x,C,dx,_,_,rfl,hx,c,n1,rfl,_,rfl,d,es,e,rfl,hS.ens,he,fun H1 s1=>?_⟩;obtain ⟨a,ev,ha,h1,h2,h3⟩:=(hS.ens.tb e he).same s1;rw [epl] at h2;obtain ⟨b,vc,eb,hb,hc⟩:=h2;refine ⟨_,rfl,a,_,1,_,ev,rfl,ha,at1 _ _ _,b,_,0,_,eb,rfl,hb,at0 _ _,rfl,_,rfl,sI (by decide) ?_⟩;exact ⟨_,rfl,q H1 s1⟩
def aHs (K:bEL) (C:Addr):Sp:=fun vs H Q _=>∃(x d dm:Addr) (m:Int) (es:List En) (n:Str),vs=[.ref x,.str n]∧cP K H C x m d dm es∧Q .non H
theorem aO5 (T:Txt w K mg) {C:Addr} (c:Cls K C) (D:iR K C "need_still" "Store.need_still" dW ["self","name"]) (n3:bN K C "moves"):OkM P w K mg base C 1 "need_still" ["self","name"] (aHs K C):=by
 refine OkM.ofV c D rZ (fun vs H Q E h=>?_) (fun f cdv A outer s H vs Q E hr h=>?_)
 ·obtain ⟨x,d,dm,m,es,n,rfl,_⟩:=h;rfl
 obtain ⟨x,d,dm,m,es,n,rfl,hS,q⟩:=h;have hu:=vK hr;refine ⟨_,(aG (cG (aY1 hu (vv 1) (jA (K:=K) (vv 0))) (aG jP) bB)),?_⟩;obtain ⟨dx,hx⟩:=hS.at_;exact ⟨_,rfl,_,rfl,x,C,dx,_,_,rfl,hx,c,n3,rfl,dm,none,rfl,.inl ⟨_,Sum.inr n,.inl hS.mv,rfl,rfl⟩,_,rfl,bY q⟩
def aCv (K:bEL) (C:Addr):Sp:=fun vs H Q _=>∃(x d dm:Addr) (m:Int) (es:List En) (e:En),vs=[.ref x,.str e.n]∧cP K H C x m d dm es∧e∈es∧∀H',Same H H'→Q .non H'
theorem aJ1 (T:Txt w K mg) {C:Addr} (c:Cls K C) (D:iR K C "moving" "Store.moving" iI ["self","name"]) (n1:bN K C "placed") (n3:bN K C "moves") (cZ:Ok P w K mg base 3 "table_in" ["placed","name"] (tW K)):OkM P w K mg base C 4 "moving" ["self","name"] (aCv K C):=by
 refine OkM.ofV c D yU (fun vs H Q E h=>?_) (fun f cdv A outer s H vs Q E hr h=>?_)
 ·obtain ⟨x,d,dm,m,es,e,rfl,_⟩:=h;rfl
 obtain ⟨x,d,dm,m,es,e,rfl,hS,he,q⟩:=h;have hu:=vK hr;refine ⟨_,(aF (jL (aP (cZ.mono (by decide)) hr (by rfl) (aB (jA (K:=K) (vv 0)) (aB (vv 1) aA)))) (aG (aM (aP2 hu (jA (K:=K) (vv 0)) (vv 1))))),?_⟩;obtain ⟨dx,hx⟩:=hS.at_;refine ⟨_,rfl,x,C,dx,_,_,rfl,hx,c,n1,rfl,_,rfl,d,es,e,rfl,hS.ens,he,fun H1 s1=>?_⟩;exact ⟨_,rfl,x,C,dx,_,_,rfl,s1 _ _ hx,c,n3,rfl,dm,rfl,.inl ⟨_,.inl (s1 _ _ hS.mv)⟩,_,rfl,none,.inl ⟨_,Sum.inr e.n,.inl (s1 _ _ hS.mv),rfl,rfl⟩,q H1 s1⟩
def aA9 (K:bEL) (C:Addr):Sp:=fun vs H Q _=>∃(x d dm:Addr) (m house:Int) (es:List En) (e:En),vs=[.ref x,.str e.n,.int house]∧cP K H C x m d dm es∧e∈es∧0≤house∧house<m∧∀L H',H L=none→Same H H'→dJ K H' L (e.t.rows.filter fun r=>dG e.t.hd m r house e.t.pl)→Q (.ref L) H'
theorem aIc (T:Txt w K mg) {C:Addr} (c:Cls K C) (D:iR K C "stands" "Store.stands" eZ ["self","name","house"]) (n1:bN K C "placed") (n2:bN K C "house_count") (cZ:Ok P w K mg base 3 "table_in" ["placed","name"] (tW K)) (aOr:Ok P w K mg base 4 "rows_at" ["table","house","houses"] (aC5 K)) (GM_Store_moving:OkM P w K mg base C 4 "moving" ["self","name"] (aCv K C)) (aI9:Ok P w K mg base 1 "span_rows" ["table","number"] aDt) (aLe:Ok P w K mg base 1 "is_above" ["row","mark"] aDt):OkM P w K mg base C 5 "stands" ["self","name","house"] (aA9 K C):=by
 refine OkM.ofV c D gA (fun vs H Q E h=>?_) (fun f cdv A outer s H vs Q E hr h=>?_)
 ·obtain ⟨x,d,dm,m,house,es,e,rfl,_⟩:=h;rfl
 obtain ⟨x,d,dm,m,house,es,e,rfl,hS,he,h0,hm,q⟩:=h;refine ⟨_,(aF (aY (i:=3) gA.nd rfl (by trivial) (aP (cZ.mono (by decide)) hr (by rfl) (aB (jA (K:=K) (vv 0)) (aB (vv 1) aA)))) (aF (aY (i:=4) gA.nd rfl (by trivial) (aP (aOr.mono (by decide)) hr (by rfl) (aB (vv 3) (aB (vv 2) (aB (jA (K:=K) (vv 0)) aA))))) (aF (aY (i:=5) gA.nd rfl (by trivial) (mC (GM_Store_moving.mono (by decide)) hr (vv 0) (aB (vv 1) aA))) (aF (cG (VW.pt (iU (bR aPv (vv 5) wC (bH _)) (gG (bR aAk (aL aW (vv 5) aC (fun _ _=>rfl)) (vv 2) (bH _))))) (aG (aM (vv 4))) bB) (aG (aM (aO gF (by rfl) T.jQ gK (aB (bK dH (vv 4) (cT (N:=["row","move"]) (by trivial) (iW (aD eZ) rfl (by decide +kernel)) rfl (kJ (aP (aI9.mono (by decide)) hr (by rfl) (aB (vv 3) (aB (aL aW (vv 5) aC (fun _ _=>rfl)) aA)))) (fun cl s' H' fp=>⟨(aQ (i:=0) (show (["row","move"]:List Str).Nodup from by decide +kernel) rfl (Or.inl rfl)),(aBb (cM (bZ (aP (aLe.mono (by decide)) hr (by rfl) (aB (vv 0) (aB (aL (cH (K:=K)) (vv 1) aC (fun _ _=>rfl)) aA)))))),(vv 0)⟩))) aA)))))))),?_⟩;obtain ⟨dx,hx⟩:=hS.at_;refine ⟨_,rfl,x,C,dx,_,_,rfl,hx,c,n1,rfl,_,rfl,d,es,e,rfl,hS.ens,he,fun H1 s1=>?_⟩;refine ⟨_,rfl,_,rfl,_,rfl,x,C,dx,_,_,rfl,s1 _ _ hx,c,n2,rfl,e.v,e.vh,e.vp,e.L,e.t,house,m,rfl,(hS.ens.tb e he).same s1,hS.ok e he,h0,hm,fun L H2 hN s2 hR=>?_⟩;refine ⟨_,rfl,x,dx,_,rfl,s2 _ _ (s1 _ _ hx),rfl,_,rfl,x,d,dm,m,es,e,rfl,hS.same (s1.trans s2),he,fun H3 s3=>?_⟩;refine ⟨_,rfl,rfl,_,rfl,dC ?_⟩;exact ⟨_,rfl,q L H3 (none_of s1 hN) (s1.trans (s2.trans s3)) (hR.same s3)⟩
theorem fH.tk {H H':Hp} {v:V} {c:V × Int} (e:TK K H H') (h:fH K H v c):fH K H' v c:=by obtain ⟨p,rfl,hp⟩:=h;exact ⟨p,rfl,e _ _ hp⟩
theorem oW.tk {H H':Hp} {v:V} {pl:Plc} (e:TK K H H') (h:oW K H v pl):oW K H' v pl:=by
 cases pl with
 |copies=>obtain ⟨a,rfl,ha⟩:=h;exact ⟨a,rfl,e _ _ ha⟩
 |keys n=>obtain ⟨a,rfl,ha⟩:=h;exact ⟨a,rfl,e _ _ ha⟩
 |spans n h0 cs=>obtain ⟨a,vc,rfl,ha,hc⟩:=h;exact ⟨a,vc,rfl,e _ _ ha,aMr e (fun _ _ z=>z.tk e) hc⟩
structure KP (K:bEL) (S:Addr→Prop) (H H':Hp):Prop where
 st:∀b o,S b→H b=some o→H' b=some o
 tk:TK K H H'
section
variable {S:Addr→Prop} {H H':Hp}
theorem KP.same (s:Same H H'):KP K S H H':=⟨fun b o _ h=>s b o h,.of s⟩
theorem KP.trans {H2:Hp} (k:KP K S H H') (l:KP K S H' H2):KP K S H H2:=⟨fun b o h e=>l.st b o h (k.st b o h e),fun p xs e=>l.tk p xs (k.tk p xs e)⟩
theorem KP.mU {D:Addr} {ys zs:List V} (hD:H D=some (.lst ys)) (n:¬ S D):KP K S H (L2.upd H D (.lst zs)):=⟨fun b o h e=>by have hb:b≠D:=fun z=>n (z ▸ h);rw [aK hb];exact e,fun p xs e=>SqT.mU hD e⟩
theorem KP.bAm {D:Addr} {u:HO} (hD:eE H D) (n:¬ S D):KP K S H (L2.upd H D u):=⟨fun b o h e=>by have hb:b≠D:=fun z=>n (z ▸ h);rw [aK hb];exact e,fun p xs e=>But.aV But.upd hD e⟩
theorem KP.fx {a:Addr} (f:Fx a H H') (h:jZ H a) (n:¬ S a):KP K S H H':=⟨fun b o hb e=>f.same b o (fun z=>n (z ▸ hb)) e,f.tk h⟩
theorem KP.mono {S':Addr→Prop} (k:KP K S H H') (h:∀b,S' b→S b):KP K S' H H':=⟨fun b o s e=>k.st b o (h b s) e,k.tk⟩
theorem dJ.kp {L:Addr} {rs:List (List V)} (k:KP K S H H') (s:S L) (h:dJ K H L rs):dJ K H' L rs:=by obtain ⟨us,h1,h2⟩:=h;exact ⟨us,k.st _ _ s h1,h2.imp fun _ _ ⟨p,e,hp⟩=>⟨p,e,k.tk _ _ hp⟩⟩
end
theorem lV.kp {S:Addr→Prop} {H H':Hp} {v vh vp:V} {L:Addr} {t:Tb} (k:KP K S H H') (s:S L) (h:lV K H v vh vp L t):lV K H' v vh vp L t:=by obtain ⟨a,ev,ha,c1,c2,c3⟩:=h;exact ⟨a,ev,k.tk _ _ ha,c1.tk k.tk,c2.tk k.tk,c3.kp k s⟩
theorem lL.kp {S:Addr→Prop} {H H':Hp} {d:Addr} {es:List En} (k:KP K S H H') (sd:S d) (sL:∀e∈es,S e.L) (h:lL K H d es):lL K H' d es:=⟨k.st _ _ sd h.at_,h.nd,h.few,h.nm,fun e he=>(h.tb e he).kp k (sL e he)⟩
theorem zX {n:Nat} (h:n<1000):n<sizeLine:=bAA h (by decide)
theorem aUx {κ:Type} [DecidableEq κ] {A B:List (κ × V)} {k:κ} {v v':V} (hA:∀kv∈A,kv.1≠k) (hB:∀kv∈B,kv.1≠k):putK (A++(k,v)::B) k v'=A++(k,v')::B:=by
 have hm:∀{L:List (κ × V)},(∀kv∈L,kv.1≠k)→L.map (fun kv=>if kv.1=k then (kv.1,v') else kv)=L:=fun {L} h=>by
  conv=>rhs;rw [←List.map_id L]
  exact List.map_congr_left fun kv hkv=>by rw [if_neg (h kv hkv)];rfl
 unfold putK;rw [if_pos (List.any_eq_true.mpr ⟨(k,v),bAF _ t6,v8 rfl⟩),bA5,bAN,hm hA,hm hB,if_pos rfl]
theorem aM1 {l1 l2:List En} {e e':En} (nd:((l1++e::l2).map (·.n)).Nodup) (hn:e'.n=e.n):putK (enK (l1++e::l2)) (Sum.inr e.n) e'.v=enK (l1++e'::l2):=by
 rw [bA5,bAN] at nd;obtain ⟨_,n2,n3⟩:=List.nodup_append.mp nd;have n4:=(List.nodup_cons.mp n2).1;unfold enK;rw [bA5,bAN,bA5,bAN,hn];refine aUx (fun kv hkv z=>?_) fun kv hkv z=>?_
 ·obtain ⟨x,hx,rfl⟩:=List.mem_map.mp hkv;exact n3 _ (bCG hx) _ t6 (Sum.inr.inj z)
 ·obtain ⟨x,hx,rfl⟩:=List.mem_map.mp hkv;exact n4 (by rw [←Sum.inr.inj z];exact bCG hx)
theorem cP.put {H:Hp} {C x d dm:Addr} {m:Int} {l1 l2:List En} {e e':En} (h:cP K H C x m d dm (l1++e::l2)) (hn:e'.n=e.n) (tb:lV K H e'.v e'.vh e'.vp e'.L e'.t) (ok:pH m e'.t):KP K (fun b=>b≠d) H (L2.upd H d (.dK (enK (l1++e'::l2))))∧cP K (L2.upd H d (.dK (enK (l1++e'::l2)))) C x m d dm (l1++e'::l2):=by
 have nz:=eE.dK h.ens.at_;have b:But d H (L2.upd H d (.dK (enK (l1++e'::l2)))):=But.upd;have sub:∀y∈l1++e'::l2,y=e'∨y∈l1++e::l2:=fun y hy=>by
  rcases List.mem_append.mp hy with h|h
  ·exact .inr (bCN _ h)
  ·rcases List.mem_cons.mp h with h|h
   ·exact .inl h
   ·exact .inr (bAF _ (m8 _ h))
 have ens:=h.ens;have enm:(l1++e'::l2).map (·.n)=(l1++e::l2).map (·.n):=by rw [bA5,bA5,bAN,bAN,hn]
 obtain ⟨dx,hx⟩:=h.at_;have n1:x≠d:=fun z=>by rw [z,ens.at_] at hx;cases hx
 refine ⟨.bAm nz fun z=>z rfl,⟨dx,b _ _ n1 hx⟩,⟨aH,by rw [enm];exact ens.nd,?_,fun y hy=>?_,fun y hy=>?_⟩,fun y hy=>?_,?_⟩
 ·have:=congrArg List.length enm;rw [m7,m7] at this;rw [this];exact ens.few
 ·rcases sub y hy with rfl|hy
  ·rw [hn];exact ens.nm e (bAF _ t6)
  ·exact ens.nm y hy
 ·rcases sub y hy with rfl|hy
  ·exact b.tb nz tb
  ·exact b.tb nz (ens.tb y hy)
 ·rcases sub y hy with rfl|hy
  ·exact ok
  ·exact h.ok y hy
 ·have n2:dm≠d:=fun z=>by have e1:=h.mv;rw [z,ens.at_] at e1;injection e1 with e1;injection e1 with e2;have e3:=congrArg List.length e2;rw [uZ,bAC,t7] at e3;simp at e3
  exact b _ _ n2 h.mv
def aCq (K:bEL):Sp:=fun vs H Q _=>∃(v vh vp:V) (L R:Addr) (t:Tb) (rows:List (List V)),vs=[v,.ref R]∧lV K H v vh vp L t∧aPe t.hd∧dJ K H R rows∧rows.length≤60∧(∀r∈rows,aBp t.hd r)∧∀v' L' H',H L'=none→Same H H'→lV K H' v' vh vp L' { t with rows:=srt rows }→Q v' H'
theorem aE2 (T:Txt w K mg):Ok P w K mg base 1 "with_rows" ["table","rows"] (aCq K):=by
 refine Ok.ofV T.aHx aEp (fun vs H Q E h=>?_) (fun f cdv A outer s H vs Q E hr h=>?_)
 ·obtain ⟨v,vh,vp,L,R,t,rows,rfl,_⟩:=h;rfl
 obtain ⟨v,vh,vp,L,R,t,rows,rfl,⟨a,rfl,ha,h1,h2,h3⟩,hd,hR,few,okr,q⟩:=h;refine ⟨_,(aG (aM (bK rH (dN aD8 (vv 0) fX (eO aC)) (cV (aB (aO gF (by rfl) T.jQ gK (aB (vv 1) aA)) aA))))),?_⟩;obtain ⟨us,gR,hus⟩:=hR;have lu:=hus.len;refine ⟨_,rfl,_,rfl,a,_,rfl,ha,by show ¬ (HT.sIx 3 0 none=0∧HT.sIx 3 3 (some 2)=3);decide,fun p H1 s1 g1=>?_⟩;rw [show pJ [vh,vp,.ref L] none (some 2)=[vh,vp] from vM _ 2] at g1;refine ⟨_,rfl,R,us,rows,knds t.hd,rfl,SqL.of (s1 _ _ gR),jO (hus.imp fun _ _ z=>z.same s1),by lia,zE hd.1,fun r hr'=>aAr (okr r hr'),fun L' H2 us2 hL' s2 g2 h5=>?_⟩;refine ⟨by show 1≤sizeLine;decide,fun p2 H3 _ s3 g3=>?_⟩;refine ⟨p,p2,_,_,rfl,rfl,SqT.of (s3 _ _ (s2 _ _ g1)),SqT.of g3,by show 3≤sizeLine;decide,fun r H4 s4 g4=>?_⟩;have s04:=s1.trans (s2.trans (s3.trans s4));exact q _ L' H4 (none_of s1 hL') s04 ⟨r,rfl,g4,h1.same s04,h2.same s04,us2,s4 _ _ (s3 _ _ g2),(vH h5).imp fun _ _ z=>z.same (s2.trans (s3.trans s4))⟩
def aR2 (K:bEL) (C:Addr):Sp:=fun vs H Q _=>∃(x d dm:Addr) (m:Int) (l1 l2:List En) (e:En) (vr:V) (r:List V),vs=[.ref x,.str e.n,vr]∧cP K H C x m d dm (l1++e::l2)∧mZ K H vr r∧aBp e.t.hd r∧e.t.rows.length<60∧∀v L H',KP K (fun b=>b≠d) H H'→H L=none→cP K H' C x m d dm (l1++{ e with v:=v,L:=L,t:={ e.t with rows:=srt (e.t.rows++[r]) } }::l2)→Q .non H'
theorem aTm (T:Txt w K mg) {C:Addr} (c:Cls K C) (D:iR K C "put" "Store.put" mF ["self","name","row"]) (n1:bN K C "placed") (cZ:Ok P w K mg base 3 "table_in" ["placed","name"] (tW K)) (aA6:Ok P w K mg base 4 "is_row" ["head","thing"] (aEd K)) (aHi:Ok P w K mg base 1 "with_rows" ["table","rows"] (aCq K)):OkM P w K mg base C 5 "put" ["self","name","row"] (aR2 K C):=by
 refine OkM.ofV c D uH (fun vs H Q E h=>?_) (fun f cdv A outer s H vs Q E hr h=>?_)
 ·obtain ⟨x,d,dm,m,l1,l2,e,vr,r,rfl,_⟩:=h;rfl
 obtain ⟨x,d,dm,m,l1,l2,e,vr,r,rfl,hS,hr',okr,few,q⟩:=h;have hu:=vK hr;refine ⟨_,(aF (aY (i:=3) uH.nd rfl (by trivial) (aP (cZ.mono (by decide)) hr (by rfl) (aB (jA (K:=K) (vv 0)) (aB (vv 1) aA)))) (aF (cG (cM (bZ (aP (aA6.mono (by decide)) hr (by rfl) (aB (aL aW (vv 3) aC (fun _ _=>rfl)) (aB (vv 2) aA))))) (aG jP) bB) (aG (aMz hu (jA (K:=K) (vv 0)) (vv 1) (aP (aHi.mono (by decide)) hr (by rfl) (aB (vv 3) (aB (bK aBv (aL aW (vv 3) aC (fun _ _=>rfl)) (dM (aB (vv 2) aA))) aA))))))),?_⟩;obtain ⟨dx,hx⟩:=hS.at_;have he:e∈l1++e::l2:=bAF _ t6;have ok:=hS.ok e he;have l8:=ok.hd.1.2.2;refine ⟨_,rfl,x,C,dx,_,_,rfl,hx,c,n1,rfl,_,rfl,d,_,e,rfl,hS.ens,he,fun H1 s1=>?_⟩;obtain ⟨a,ev,ha,h1,h2,⟨us,h3,h4⟩⟩:=(hS.ens.tb e he).same s1;have lu:=h4.len;refine ⟨_,rfl,a,_,0,_,ev,rfl,ha,at0 _ _,_,rfl,e.vh,vr,e.t.hd,r,rfl,h1,by lia,hr'.same s1,okr,fun H2 s2=>⟨_,rfl,bY ?_⟩⟩;have s02:=s1.trans s2;refine ⟨_,rfl,_,rfl,a,_,2,_,ev,rfl,s2.aV ha,at2 _ _ _ _,_,rfl,by show 1≤sizeLine;decide,fun p H3 hp s3 g3=>?_⟩;refine ⟨e.L,p,us,_,rfl,rfl,s3 _ _ (s2 _ _ h3),g3,small (by show _+1≤1000;lia),fun R H4 hR s4 g4=>?_⟩;have s04:=s02.trans (s3.trans s4);have hRows:dJ K H4 R (e.t.rows++[r]):=⟨_,g4,cL.app (h4.imp fun _ _ z=>z.same (s2.trans (s3.trans s4))) (.cons (hr'.same s04) .nil)⟩;refine ⟨e.v,e.vh,e.vp,e.L,R,e.t,_,rfl,(hS.ens.tb e he).same s04,ok.hd,hRows,by rw [bAC];show _+1≤60;lia,fun y hy=>?_,fun v' L' H5 hL' s5 hT=>?_⟩
 ·rcases List.mem_append.mp hy with hy|hy
  ·exact ok.rows y hy
  ·rw [List.mem_singleton.mp hy];exact okr
 have s05:=s04.trans s5;have hS5:=hS.same s05;have tbo:pH m { e.t with rows:=srt (e.t.rows++[r]) }:=⟨ok.hd,ok.pl,by show (srt _).length≤60;rw [aE4,bAC];show _+1≤60;lia,fun y hy=>by
  rcases List.mem_append.mp (vB hy) with hy|hy
  ·exact ok.rows y hy
  ·rw [List.mem_singleton.mp hy];exact okr⟩
 obtain ⟨e',ee⟩:∃e':En,e'={ e with v:=v',L:=L',t:={ e.t with rows:=srt (e.t.rows++[r]) } }:=⟨_,rfl⟩;obtain ⟨k1,k2⟩:=hS5.put (e':=e') (by rw [ee]) (by rw [ee];exact hT) (by rw [ee];exact tbo);have few5:=hS5.ens.few;refine ⟨_,rfl,x,C,dx,_,_,rfl,s05 _ _ hx,c,n1,rfl,_,rfl,d,_,rfl,aOg.k (k:=Sum.inr e.n) hS5.ens.at_ (by rw [uZ];exact zX (by lia)),?_⟩;have ek:putK (enK (l1++e::l2)) (Sum.inr e.n) v'=enK (l1++e'::l2):=by have:=aM1 (e':=e') hS.ens.nd (by rw [ee]);rw [ee] at this ⊢;exact this
 rw [ek];rw [ee] at k1 k2 ⊢;exact q v' L' _ ((KP.same s05).trans k1) (none_of s04 hL') k2
def aDh (K:bEL):Sp:=fun vs H Q _=>∃(v vh vp vc:V) (L:Addr) (t:Tb) (n:Str) (h0 k0:Int) (cs ks:List (V × Int)),vs=[v,vc]∧lV K H v vh vp L t∧t.pl=.spans n h0 cs∧mW K H (fH K H) vc ((.non,k0)::ks)∧∀v' vp' H',Same H H'→lV K H' v' vh vp' L { t with pl:=.spans n k0 ks }→Q v' H'
theorem aDz (T:Txt w K mg):Ok P w K mg base 1 "with_cuts" ["table","cuts"] (aDh K):=by
 refine Ok.ofV T.aI7 aFs (fun vs H Q E h=>?_) (fun f cdv A outer s H vs Q E hr h=>?_)
 ·obtain ⟨v,vh,vp,vc,L,t,n,h0,k0,cs,ks,rfl,_⟩:=h;rfl
 obtain ⟨v,vh,vp,vc,L,t,n,h0,k0,cs,ks,rfl,⟨a,rfl,ha,h1,h2,h3⟩,epl,hc,q⟩:=h;rw [epl] at h2;obtain ⟨b,vo,rfl,hb,_⟩:=h2;refine ⟨_,(aG (aM (cV (aB (aL aW (vv 0) aC (fun _ _=>rfl)) (aB (bK rH (dN aD8 (aL aW (vv 0) aC (fun _ _=>rfl)) fX (eO aC)) (cV (aB (vv 1) aA))) (aB (aL aW (vv 0) aC (fun _ _=>rfl)) aA)))))),?_⟩;refine ⟨_,rfl,a,_,0,_,rfl,rfl,ha,at0 _ _,_,rfl,a,_,1,_,rfl,rfl,ha,at1 _ _ _,?_⟩;refine ⟨_,rfl,b,_,rfl,hb,by show ¬ (HT.sIx 3 0 none=0∧HT.sIx 3 3 (some 2)=3);decide,fun p H1 s1 g1=>?_⟩;rw [show pJ [.str "spans",.str n,vo] none (some 2)=[.str "spans",.str n] from vM _ 2] at g1;refine ⟨_,rfl,by show 1≤sizeLine;decide,fun p2 H2 _ s2 g2=>?_⟩;refine ⟨p,p2,_,_,rfl,rfl,SqT.of (s2 _ _ g1),SqT.of g2,by show 3≤sizeLine;decide,fun r H3 s3 g3=>?_⟩;have s03:=s1.trans (s2.trans s3);refine ⟨_,rfl,a,_,2,_,rfl,rfl,s03.aV ha,at2 _ _ _ _,by show 3≤sizeLine;decide,fun p4 H4 _ s4 g4=>?_⟩;have s04:=s03.trans s4;exact q _ (.ref r) H4 s04 ⟨p4,rfl,SqT.of g4,h1.same s04,⟨r,vc,rfl,s4.aV g3,hc.same s04 fun _ _ z=>z.same s04⟩,h3.same s04⟩
def rF (kd:Str) (cs:List (V × Int)) (v:V):Bool:=decide (cs.length+1<8) && (decide (kindS v=kd) && !inV v (.non::cs.map (·.1)))
def aRx (K:bEL):Sp:=fun vs H Q _=>∃(v vh vp vl:V) (L:Addr) (t:Tb) (n kd:Str) (h0:Int) (cs:List (V × Int)),vs=[v,vl]∧lV K H v vh vp L t∧t.pl=.spans n h0 cs∧look t.hd n=some kd∧(∀c∈cs,bJ kd c.1)∧cs.length≤7∧Vl vl∧∀H',Same H H'→Q (.bl (rF kd cs vl)) H'
theorem zB {v:V} (h:Vl v):aIi v=true∧gU v=true:=by
 rcases h with ⟨i,rfl⟩|⟨x,rfl,h1,h2⟩
 ·exact ⟨(eY bJ.num).1,rfl⟩
 ·exact ⟨(eY (bJ.wrd h1 h2)).1,rfl⟩
theorem aCk (T:Txt w K mg) (fU:Ok P w K mg base 3 "is_value_of" ["thing","kind"] (aFu K)) (xM:Ok P w K mg base 1 "kind_in" ["head","name"] (aLh K)):Ok P w K mg base 4 "may_cut_at" ["table","low"] (aRx K):=by
 refine Ok.ofV T.aFt mQ (fun vs H Q E h=>?_) (fun f cdv A outer s H vs Q E hr h=>?_)
 ·obtain ⟨v,vh,vp,vl,L,t,n,kd,h0,cs,rfl,_⟩:=h;rfl
 obtain ⟨v,vh,vp,vl,L,t,n,kd,h0,cs,rfl,⟨a,rfl,ha,h1,h2,h3⟩,epl,hk,hks,l7,hv,q⟩:=h;rw [epl] at h2;obtain ⟨b,vo,rfl,hb,⟨cc,us,rfl,hcc,hus⟩⟩:=h2;refine ⟨_,(aF (aY (i:=2) mQ.nd rfl (by trivial) (aL aW (aL aW (vv 0) aC (fun _ _=>rfl)) aC (fun _ _=>rfl))) (aF (aY (i:=3) mQ.nd rfl (by trivial) (aL aW (aL aW (vv 0) aC (fun _ _=>rfl)) aC (fun _ _=>rfl))) (aF (cG (VW.pt (iU (bR aZ8 (aO bC (by rfl) T.fQ dI (aB (vv 3) aA)) (rD (by rfl) T.xZ) (bH _)) (gG (cM (bZ (aP (fU.mono (by decide)) hr (by rfl) (aB (vv 1) (aB (aP (xM.mono (by decide)) hr (by rfl) (aB (aL aW (vv 0) aC (fun _ _=>rfl)) (aB (vv 2) aA))) aA)))))))) (aG (aM jX)) bB) (aG (aM (cB pB (vv 1) (cT (N:=["cut"]) (by trivial) (iC (by decide +kernel)) rfl (mL (vv 3)) (fun cl s' H' fp=>⟨(aQ (i:=0) (show (["cut"]:List Str).Nodup from by decide +kernel) rfl (Or.inl rfl)),eX,(aL (cH (K:=K)) (vv 0) aC (fun _ _=>rfl))⟩)) (by with_unfolding_all rfl))))))),?_⟩;have lu:=hus.len;rw [t7] at lu;refine ⟨_,rfl,a,_,1,_,rfl,rfl,ha,at1 _ _ _,b,_,1,_,rfl,rfl,hb,at1 _ _ _,?_⟩;refine ⟨_,rfl,a,_,1,_,rfl,rfl,ha,at1 _ _ _,b,_,2,_,rfl,rfl,hb,at2 _ _ _ _,?_⟩;refine ⟨_,rfl,cc,_,rfl,.inr hcc,_,_,rfl,rfl,_,rfl,?_⟩;by_cases h8:cs.length+1<8
 ·rw [show decide (((us.length:Nat):Int) ≥ 8)=false from bAD (by lia)];obtain ⟨v1,v2⟩:=zB hv;refine bY ⟨_,rfl,_,rfl,a,_,0,_,rfl,rfl,ha,at0 _ _,_,rfl,vh,n,t.hd,kd,rfl,h1,hk,vl,kd,rfl,hv.th,fun H1 s1=>⟨_,rfl,?_⟩⟩;rw [v1,Bool.true_and];by_cases hkd:kindS vl=kd
  ·rw [v8 hkd];refine bY ?_;refine ⟨_,rfl,?_⟩;dsimp only [sS,cO,aCf,yI,uT];refine lK [none] lA ⟨_,rfl,cc,rfl,⟨_,s1.aV hcc⟩,wM (tE fun H' s'=>(s1.trans s').aV hcc) (lO fun H' s'=>(s1.trans s').aV hcc) ⟨none,rfl⟩ (by lia) (((.non,h0)::cs).map (·.1)) (by rw [m7,t7];lia) (fun i x z ex ez H' R l sm r=>?_) fun D H6 s6 nL gL=>?_⟩
   ·obtain ⟨c',hc',p',rfl,hp'⟩:=cC hus ex;rw [t8,hc'] at ez;cases ez;exact ⟨_,rfl,p',_,0,_,rfl,rfl,(s1.trans sm).aV hp',at0 _ _,r H' (Same.refl _)⟩
   refine ⟨D,_,rfl,.inl (SqL.of gL),v2,?_,?_⟩
   ·rw [bAN,bEK,List.all_eq_true.mpr fun y hy=>?_];rfl;obtain ⟨c',hc',rfl⟩:=List.mem_map.mp hy;exact (zB (lC (hks c' hc'))).2
   ·rw [if_pos rfl];have e:rF kd cs vl=!inV vl (((.non,h0)::cs).map (·.1)):=by unfold rF;rw [v8 h8,v8 hkd];rfl
    rw [←e];exact q H6 (s1.trans s6)
  ·rw [bAD hkd];have e:rF kd cs vl=false:=by unfold rF;rw [bAD hkd,Bool.false_and,Bool.and_false]
   rw [e] at q;exact dC (q H1 s1)
 ·rw [show decide (((us.length:Nat):Int) ≥ 8)=true from v8 (by lia)];have e:rF kd cs vl=false:=by unfold rF;rw [bAD h8,Bool.false_and]
  rw [e] at q;exact dC (q H (Same.refl H))
theorem aOd {kd:Str} {a b c:V} (ha:bJ kd a) (hb:bJ kd b) (hc:bJ kd c) (h1:vlt a b=true) (h2:vlt b c=true):vlt a c=true:=by
 cases ha with
 |num=>cases hb;cases hc;exact v8 (Int.lt_trans (of_decide_eq_true h1) (of_decide_eq_true h2))
 |wrd _ _=>cases hb;cases hc;exact v8 (List.lt_trans (of_decide_eq_true h1) (of_decide_eq_true h2))
theorem aXx {kd:Str} {a b:V} (ha:bJ kd a) (hb:bJ kd b) (h:vlt a b=false) (ne:a≠b):vlt b a=true:=by
 cases ha with
 |num=>cases hb;have h:=of_decide_eq_false h;exact v8 (by have:_≠_:=fun z=>ne (congrArg V.int z);lia)
 |@wrd x _ _=>
  cases hb with
  |@wrd y _ _=>have h:=of_decide_eq_false h;refine v8 (Decidable.byContradiction fun h'=>ne ?_);have e:x.cps.toList=y.cps.toList:=List.le_antisymm h' h;cases x;cases y;exact congrArg V.str (congrArg Str.mk (Array.toList_inj.mp e))
theorem aBs {kd:Str} {v:V} {cs:List (V × Int)} (hv:bJ kd v) (hk:∀c∈cs,bJ kd c.1) (up:(cs.map (·.1)).Pairwise fun a b=>vlt a b=true):∀k,k≤cs.length→dU v (cs.take k) 1 0≤k∧∀(i:Nat) (c:V × Int),i<k→cs[i]?=some c→(i<dU v (cs.take k) 1 0↔vlt v c.1=false)
 |0,_=>⟨j6 _,fun i c h=>absurd h (bC1 _)⟩
 |k+1,h=>by
  obtain ⟨h1,h2⟩:=aBs hv hk up k (by lia);have hc:cs[k]?=some cs[k]:=j0 (by lia);have tk:cs.take (k+1)=cs.take k++[cs[k]]:=by rw [bBC,hc];rfl
  have lk:(cs.take k).length=k:=by rw [bAE];lia
  rw [tk,wU,lk];have hck:=hk _ (w6 hc);cases hq:vlt v cs[k].1 with
  |true=>
   rw [if_pos rfl];refine ⟨by lia,fun i c hi ei=>?_⟩;by_cases e:i=k
   ·subst e;rw [hc] at ei;cases ei;rw [hq];exact ⟨fun z=>absurd z (by lia),fun z=>by cases z⟩
   ·exact h2 i c (by lia) ei
  |false=>
   rw [if_neg v4];refine ⟨by lia,fun i c hi ei=>⟨fun _=>?_,fun _=>by lia⟩⟩;by_cases e:i=k
   ·subst e;rw [hc] at ei;cases ei;exact hq
   ·cases hz:vlt v c.1 with
    |false=>rfl
    |true=>
     have hci:=hk c (w6 ei);have li:i<(cs.map (·.1)).length:=by rw [m7];lia
     have lk':k<(cs.map (·.1)).length:=by rw [m7];lia
     have hp:=List.pairwise_iff_getElem.mp up i k li lk' (by lia);rw [List.getElem_map,List.getElem_map] at hp;have ec:cs[i]=c:=(List.getElem?_eq_some_iff.mp ei).2;rw [ec] at hp;rw [aOd hv hci hck hz hp] at hq;cases hq
theorem xW {α:Type} {p:α→Bool}:∀{l:List α} {N:Nat},N≤l.length→(∀(i:Nat) (c:α),l[i]?=some c→(i<N↔p c=true))→l.filter p=l.take N
 |[],N,_,_=>by rw [List.take_nil];rfl
 |a::l,0,h,hp=>by rw [List.take_zero];refine List.filter_eq_nil_iff.mpr fun c hc=>?_;obtain ⟨i,hi⟩:=List.mem_iff_getElem?.mp hc;exact fun z=>absurd ((hp i c hi).mpr z) (bC1 _)
 |a::l,N+1,h,hp=>by rw [List.filter_cons,if_pos ((hp 0 a rfl).mp (Nat.succ_pos _)),bD9];exact congrArg _ (xW (by simpa using h) fun i c e=>⟨fun z=>(hp (i+1) c (by simpa using e)).mp (by lia),fun z=>by have:=(hp (i+1) c (by simpa using e)).mpr z;lia⟩)
def atH (v:V) (h0:Int) (cs:List (V × Int)):Int:=(((.non,h0)::cs).map (·.2)).getD (dU v cs 1 0) 0
def tL (v:V) (h0:Int) (cs:List (V × Int)):List (V × Int):=cs.take (dU v cs 1 0)++(v,atH v h0 cs)::cs.drop (dU v cs 1 0)
theorem aP8 {kd:Str} {v:V} (h:bJ kd v):eqV v v=true:=by
 cases h with
 |num=>exact v8 rfl
 |wrd _ _=>exact v8 rfl
theorem aXh {kd:Str} {m h0:Int} {v:V} {cs:List (V × Int)} (ok:qO kd m h0 cs):0≤atH v h0 cs∧atH v h0 cs<m:=by
 have hl:=uI v cs;have hlt:dU v cs 1 0<((V.non,h0)::cs).length:=by rw [t7];lia
 have e0:atH v h0 cs=(((V.non,h0)::cs)[dU v cs 1 0]).2:=by unfold atH;rw [j7,t8,j0 hlt];rfl
 rw [e0];have hm:=bA9 hlt;generalize ((V.non,h0)::cs)[dU v cs 1 0]=c at hm;rcases List.mem_cons.mp hm with rfl|hc
 ·exact ok.first
 ·exact (ok.each c hc).2
theorem aL0 {kd:Str} {m h0:Int} {v:V} {cs:List (V × Int)} (ok:qO kd m h0 cs) (hv:bJ kd v) (l8:cs.length+1<8) (nin:inV v (.non::cs.map (·.1))=false):qO kd m h0 (tL v h0 cs):=by
 have hk:∀c∈cs,bJ kd c.1:=fun c hc=>(ok.each c hc).1;obtain ⟨hN,hS⟩:=aBs hv hk ok.up cs.length (j6 _);rw [bB8] at hN hS;have ne:∀c∈cs,c.1≠v:=fun c hc z=>by have:inV v (.non::cs.map (·.1))=true:=List.any_eq_true.mpr ⟨c.1,m8 _ (bCG hc),by rw [z];exact aP8 hv⟩;rw [this] at nin;cases nin
 unfold tL;have hA:=aXh (v:=v) ok;generalize atH v h0 cs=ah at hA ⊢;generalize dU v cs 1 0=Nn at hN hS ⊢;have up:=ok.up;rw [←List.take_append_drop Nn cs,bA5] at up;obtain ⟨u1,u2,u3⟩:=List.pairwise_append.mp up;have tA:∀c∈cs.take Nn,vlt c.1 v=true:=fun c hc=>by
  obtain ⟨i,hi⟩:=List.mem_iff_getElem?.mp hc;have hlt:i<Nn:=by have:=(List.getElem?_eq_some_iff.mp hi).1;rw [bAE] at this;lia
  rw [List.getElem?_take,if_pos hlt] at hi;have hm:=w6 hi;exact aXx hv (hk c hm) ((hS i c (by have:=(List.getElem?_eq_some_iff.mp hi).1;lia) hi).mp hlt) (ne c hm).symm
 have dA:∀c∈cs.drop Nn,vlt v c.1=true:=fun c hc=>by
  obtain ⟨i,hi⟩:=List.mem_iff_getElem?.mp hc;rw [List.getElem?_drop] at hi;cases hz:vlt v c.1 with
  |true=>rfl
  |false=>exact absurd ((hS (Nn+i) c (by have:=(List.getElem?_eq_some_iff.mp hi).1;lia) hi).mpr hz) (by lia)
 refine ⟨ok.first,fun c hc=>?_,?_,?_⟩
 ·rcases List.mem_append.mp hc with hc|hc
  ·exact ok.each c (bD3 hc)
  ·rcases List.mem_cons.mp hc with rfl|hc
   ·exact ⟨hv,hA⟩
   ·exact ok.each c (List.mem_of_mem_drop hc)
 ·rw [bA5,bAN];refine List.pairwise_append.mpr ⟨u1,List.pairwise_cons.mpr ⟨fun b hb=>?_,u2⟩,fun a ha b hb=>?_⟩
  ·obtain ⟨c,hc,rfl⟩:=List.mem_map.mp hb;exact dA c hc
  ·rcases List.mem_cons.mp hb with rfl|hb
   ·obtain ⟨c,hc,rfl⟩:=List.mem_map.mp ha;exact tA c hc
   ·exact u3 a ha b hb
 ·rw [bAC,t7,bAE,bA8];lia
theorem hinit (T:Txt w K mg) (fI:Addr):∀(X:Cx),X.N=(["self","act"]:List Str)→X.env.scope=aD mJ→X.mg=mg→VSs X (dB mJ) (aCf (aMe (tVI X.K fI (dR (uP 0) (dR (uP 1) aBw)))) (aPo X.K fI (uP 0) (uP 1))):=by
 intro X hN hs hm;have v0:∀{pos:Pos},VE X (.Name "self" pos) (uP 0):=fun {pos}=>vv 0 (by rw [hN];rfl) (by left;rw [hs];rfl);have v1:∀{pos:Pos},VE X (.Name "act" pos) (uP 1):=fun {pos}=>vv 1 (by rw [hN];rfl) (by left;rw [hs];rfl);have g:Gl X "ValueError":=by show X.env.scope.names.lookup _=_;rw [hs];rfl
 exact aF ⟨aMc (aRh (fI:=fI) g (by rw [hm];exact T.aEg) (aY3 v0.1 (aY3 v1.1 aSx)))⟩ (aG ⟨aWr v0.1 v1.1⟩)
theorem aCp {α β:Type} {R:α→β→Prop} {as:List α} {bs:List β} (h:cL R as bs):∀n,cL R (as.take n) (bs.take n):=by
 induction h with
 |nil=>intro n;rw [List.take_nil,List.take_nil];exact .nil
 |cons r _ ih=>
  intro n;cases n with
  |zero=>exact .nil
  |succ n=>exact .cons r (ih n)
theorem zV {α β:Type} {R:α→β→Prop} {as:List α} {bs:List β} (h:cL R as bs):∀n,cL R (as.drop n) (bs.drop n):=by
 induction h with
 |nil=>intro n;rw [List.drop_nil,List.drop_nil];exact .nil
 |cons r t ih=>
  intro n;cases n with
  |zero=>exact .cons r t
  |succ n=>exact ih n
theorem aH3 {v:V} {kd:Str} (h:Vl v) (e:kindS v=kd):bJ kd v:=by
 rcases h with ⟨i,rfl⟩|⟨x,rfl,h1,h2⟩
 ·have:=(eY (bJ.num (i:=i))).2;rw [←e,this];exact .num
 ·have:=(eY (bJ.wrd h1 h2)).2;rw [←e,this];exact .wrd h1 h2
def vQ (K:bEL) (C CN:Addr):Sp:=fun vs H Q E=>∃(x d dm:Addr) (m:Int) (l1 l2:List En) (e:En) (vl:V) (n kd:Str) (h0:Int) (cs:List (V × Int)),vs=[.ref x,.str e.n,vl]∧cP K H C x m d dm (l1++e::l2)∧e.t.pl=.spans n h0 cs∧look e.t.hd n=some kd∧Vl vl ∧
 (rF kd cs vl=true→∀v vp H',KP K (fun b=>b≠d) H H'→cP K H' C x m d dm (l1++{ e with v:=v,vp:=vp,t:={ e.t with pl:=.spans n h0 (tL vl h0 cs) } }::l2)→Q .non H') ∧
 (rF kd cs vl=false→∀a H',Same H H'→E (.ref CN) (some a) H')
theorem aN1 (T:Txt w K mg) {C CN S:Addr} (hx_NoSpan:ExT K mg mJ "NoSpan" "ShardError.__init__" CN S) (c:Cls K C) (D:iR K C "split" "Store.split" jH ["self","name","low"]) (n1:bN K C "placed") (GM_Store_cut_table:OkM P w K mg base C 4 "cut_table" ["self","name"] (aMx K C)) (GM_Store_need_still:OkM P w K mg base C 1 "need_still" ["self","name"] (aHs K C)) (aFy:Ok P w K mg base 4 "may_cut_at" ["table","low"] (aRx K)) (zO:Ok P w K mg base 1 "cut_of" ["cuts","value"] (aBm K)) (aF9:Ok P w K mg base 1 "with_cuts" ["table","cuts"] (aDh K)):yH P w K mg base C 6 "split" ["self","name","low"] (vQ K C CN):=by
 refine yH.ofV c D fB (fun vs H Q E h=>?_) (fun f cdv A outer s H vs Q E hr h=>?_)
 ·obtain ⟨x,d,dm,m,l1,l2,e,vl,n,kd,h0,cs,rfl,_⟩:=h;rfl
 obtain ⟨x,d,dm,m,l1,l2,e,vl,n,kd,h0,cs,rfl,hS,epl,hk,hv,qT,qF⟩:=h;have hu:=vK hr;have hinit:=fun {fI:Addr}=>hinit T fI;refine ⟨_,(aF (aY (i:=3) fB.nd rfl (by trivial) (mC (GM_Store_cut_table.mono (by decide)) hr (vv 0) (aB (vv 1) aA))) (aF (jL (mC (GM_Store_need_still.mono (by decide)) hr (vv 0) (aB (vv 1) aA))) (aF (cG (cM (bZ (aP (aFy.mono (by decide)) hr (by rfl) (aB (vv 3) (aB (vv 2) aA))))) (aG (aP4 hx_NoSpan (fun fI fd F=>aUc (k:=0) F aUi hinit) (hr.mono (by decide)) aOj rfl (by rfl) (aB wC aA))) bB) (aF (aY (i:=4) fB.nd rfl (by trivial) (aL aW (aL aW (vv 3) aC (fun _ _=>rfl)) aC (fun _ _=>rfl))) (aF (aY (i:=5) fB.nd rfl (by trivial) (aP (zO.mono (by decide)) hr (by rfl) (aB (vv 4) (aB (vv 2) aA)))) (aF (aY (i:=6) fB.nd rfl (by trivial) (bK dH (vv 5) aC)) (aG (aMz hu (jA (K:=K) (vv 0)) (vv 1) (aP (aF9.mono (by decide)) hr (by rfl) (aB (vv 3) (aB (bK rH (bK rH (dN rO (vv 4) fX (eO (vv 6))) (cV (aB (cV (aB (vv 2) (aB (aL aW (aL aW (vv 4) (vv 5) (fun _ _=>rfl)) aC (fun _ _=>rfl)) aA))) aA))) (dN rO (vv 4) (eO (vv 6)) fX)) aA))))))))))),?_⟩;obtain ⟨dx,hx⟩:=hS.at_;have he:e∈l1++e::l2:=bAF _ t6;have ok:=hS.ok e he;have okp:=ok.pl;rw [epl] at okp;obtain ⟨hnn,k',hk',hkd,okc⟩:=okp;have:k'=kd:=by rw [hk] at hk';exact (bAQ hk').symm
 subst this;have hks:∀c∈cs,bJ k' c.1:=fun c hc=>(okc.each c hc).1;refine ⟨_,rfl,x,dx,_,rfl,hx,rfl,_,rfl,x,d,dm,m,_,e,n,h0,cs,rfl,hS,he,epl,fun H1 s1=>?_⟩;refine ⟨_,rfl,x,dx,_,rfl,s1 _ _ hx,rfl,_,rfl,x,d,dm,m,_,e.n,rfl,hS.same s1,?_⟩;have tb1:=(hS.ens.tb e he).same s1;refine ⟨_,rfl,_,rfl,e.v,e.vh,e.vp,vl,e.L,e.t,n,k',h0,cs,rfl,tb1,epl,hk,hks,okc.few,hv,fun H2 s2=>⟨_,rfl,?_⟩⟩;have s02:=s1.trans s2;cases hm:rF k' cs vl with
 |false=>exact dC ⟨rfl,fun a dx' n1 n2 ne=>qF hm a _ (s02.trans (aX n2 _))⟩
 |true=>
  refine bY ?_;have hm':=hm;unfold rF at hm';rw [bAP,bAP] at hm';have l8:=of_decide_eq_true hm'.1;have okv:=aH3 hv (of_decide_eq_true hm'.2.1);have nin:inV vl (.non::cs.map (·.1))=false:=by simpa using hm'.2.2
  obtain ⟨a,ev,ha,h1,h2,h3⟩:=(hS.ens.tb e he).same s02;have h2':=h2;rw [epl] at h2';obtain ⟨b,vo,eb,hb,hcc⟩:=h2';obtain ⟨cc,us,eo,hcu,hus⟩:=id hcc;refine ⟨_,rfl,a,_,1,_,ev,rfl,ha,at1 _ _ _,b,_,2,_,eb,rfl,hb,at2 _ _ _ _,?_⟩;refine ⟨_,rfl,_,rfl,vo,vl,k',h0,cs,rfl,hcc,okc.few,okv,hks,?_⟩;refine ⟨_,rfl,_,_,rfl,rfl,?_⟩;have hN:=uI vl cs;have lu:=hus.len;rw [t7] at lu;have hN':dU vl cs 1 0<us.length:=by lia
  obtain ⟨c0,hc0,pc,epc,hpc⟩:=cC hus (j0 hN');have eA:c0.2=atH vl h0 cs:=by unfold atH;rw [j7,t8,hc0];rfl
  have eI:((.non,h0)::cs).take (dU vl cs 1 0+1)++[(vl,c0.2)]++((.non,h0)::cs).drop (dU vl cs 1 0+1)=(.non,h0)::tL vl h0 cs:=by unfold tL;rw [eA,bD9,List.drop_succ_cons,bCC];rfl
  generalize dU vl cs 1 0=Nn at hN hN' hc0 eI epc ⊢;have eN:((Nn:Nat):Int)+1=((Nn+1:Nat):Int):=rfl;refine ⟨_,rfl,_,rfl,_,rfl,_,rfl,cc,us,eo,hcu,fun p1 H3 s3 g3=>?_⟩;rw [eN,vM] at g3;refine ⟨_,rfl,_,rfl,_,rfl,cc,us,_,us[Nn],eo,rfl,s3.aV hcu,cI (j0 hN'),pc,_,1,_,epc,rfl,s3.aV hpc,at1 _ _ _,by show 2≤sizeLine;decide,fun t1 H4 _ s4 g4=>⟨by show 1≤sizeLine;decide,fun t2 H5 _ s5 g5=>?_⟩⟩;have s35:=s4.trans s5;refine ⟨p1,t2,_,_,rfl,rfl,s35.aV g3,SqT.of g5,small (by rw [bAE];show _+1≤1000;have:=okc.few;lia),fun p6 H6 s6 g6=>?_⟩;have s26:=s3.trans (s35.trans s6);refine ⟨_,rfl,_,rfl,_,rfl,cc,us,eo,s26.aV hcu,fun p7 H7 s7 g7=>?_⟩;rw [eN,mV] at g7;refine ⟨p6,p7,_,_,rfl,rfl,s7.aV g6,g7,small (by rw [bAC,bAE,bA8];show _+1+_≤1000;have:=okc.few;lia),fun p8 H8 s8 g8=>?_⟩;have s28:=s26.trans (s7.trans s8);have s08:=s02.trans s28;have hks8:mW K H8 (fH K H8) (.ref p8) ((.non,h0)::tL vl h0 cs):=⟨p8,_,rfl,g8,by rw [←eI];have hu8:cL (fH K H8) us ((.non,h0)::cs):=hus.imp fun _ _ z=>z.same s28;exact cL.app (cL.app (aCp hu8 _) (.cons ⟨t1,rfl,SqT.of (s8 _ _ (s7 _ _ (s6 _ _ (s5 _ _ g4))))⟩ .nil)) (zV hu8 _)⟩
  refine ⟨e.v,e.vh,e.vp,.ref p8,e.L,e.t,n,h0,h0,cs,tL vl h0 cs,rfl,(hS.ens.tb e he).same s08,epl,hks8,fun v' vp' H9 s9 hT=>?_⟩;have s09:=s08.trans s9;have hS9:=hS.same s09;have tbo:pH m { e.t with pl:=.spans n h0 (tL vl h0 cs) }:=⟨ok.hd,⟨hnn,k',hk,hkd,aL0 okc okv l8 nin⟩,ok.few,ok.rows⟩;obtain ⟨e',ee⟩:∃e':En,e'={ e with v:=v',vp:=vp',t:={ e.t with pl:=.spans n h0 (tL vl h0 cs) } }:=⟨_,rfl⟩;obtain ⟨k1,k2⟩:=hS9.put (e':=e') (by rw [ee]) (by rw [ee];exact hT) (by rw [ee];exact tbo);have few9:=hS9.ens.few;refine ⟨_,rfl,x,C,dx,_,_,rfl,s09 _ _ hx,c,n1,rfl,_,rfl,d,_,rfl,aOg.k (k:=Sum.inr e.n) hS9.ens.at_ (by rw [uZ];exact zX (by lia)),?_⟩;have ek:putK (enK (l1++e::l2)) (Sum.inr e.n) v'=enK (l1++e'::l2):=by have:=aM1 (e':=e') hS.ens.nd (by rw [ee]);rw [ee] at this ⊢;exact this
  rw [ek];rw [ee] at k1 k2 ⊢;exact qT hm v' vp' _ ((KP.same s09).trans k1) k2
end
end My
namespace L2
open PySem PySem.Spec PyProof.Rows
def aV2 (K:bEL) (n:Nat) (t:TGs):TG:=fun v σ H Q=>∃a xs,v=.ref a∧SqL K H a xs∧xs.length=n∧t xs σ H Q
theorem aUk {X:Cx} {pos:Pos} {es:List Expr} {k:Nat} {t:TGs} {n:Nat} (hc:X.calm=true) (h:PGs X es t)
  (hn:(assignEach es X.env).length=n:=by rfl) (hst:(assignEach es X.env).findIdx? (·.1)=none:=by rfl):PG X (.Tuple es k pos) (aV2 X.K n t):=by
 intro bEP s σ H v u Q I r hw;obtain ⟨a,xs,e1,hq,hl,hw⟩:=hw;subst e1;cases r;obtain ⟨its,rv,ht,hz⟩:=I.list hq;have hsz:(assignEach es X.env).length=its.toArray.size:=by rw [hn,←hl,rv.length,j9]
 rw [arm_assign_Tuple];refine c7 (bDD ?_);unfold unpack;rw [hsz,hst];refine c7 (bAV (PySem.W.kun_itemsOf (I.ok.hd hc) ht.isList fun h' hx=>?_));have I1:Inv X bEP σ H { s with heap:=h' }:=I.kept (t':=s.toks) fun b o e=>hx b o (m9 (j8 e)) e;exact h bEP _ σ H xs _ Q I1 (by simpa using rv) hw
theorem aMy {X:Cx} {pos:Pos} {es:List Expr} {k:Nat} {t:TGs} {n:Nat} (hc:X.calm=true) (h:VGs X es t) (hn:(assignEach es X.env).length=n:=by rfl) (hst:(assignEach es X.env).findIdx? (·.1)=none:=by rfl):VG X (.Tuple es k pos) (aV2 X.K n t):=⟨aUk hc h.1 hn hst⟩
theorem aQ5 {k:Bool} {a b:V} (ha:KdV k a) (hb:KdV k b) (h:kvlt a b=true):kvlt b a=false:=by
 cases k with
 |true=>obtain ⟨x,rfl⟩:=ha;obtain ⟨y,rfl⟩:=hb;have:=of_decide_eq_true (show decide (x<y)=true from h);exact bAD (by lia)
 |false=>obtain ⟨x,rfl⟩:=ha;obtain ⟨y,rfl⟩:=hb;have:=of_decide_eq_true (show decide (x.cps.toList<y.cps.toList)=true from h);exact bAD (List.lt_asymm this)
theorem aX5 {k:Bool} {a b c:V} (ha:KdV k a) (hb:KdV k b) (hc:KdV k c) (h1:kvlt b a=false) (h2:kvlt c b=false):kvlt c a=false:=by
 cases k with
 |true=>obtain ⟨x,rfl⟩:=ha;obtain ⟨y,rfl⟩:=hb;obtain ⟨z,rfl⟩:=hc;have:=of_decide_eq_false (show decide (y<x)=false from h1);have:=of_decide_eq_false (show decide (z<y)=false from h2);exact bAD (by lia)
 |false=>obtain ⟨x,rfl⟩:=ha;obtain ⟨y,rfl⟩:=hb;obtain ⟨z,rfl⟩:=hc;have e1:=of_decide_eq_false (show decide (y.cps.toList<x.cps.toList)=false from h1);have e2:=of_decide_eq_false (show decide (z.cps.toList<y.cps.toList)=false from h2);exact bAD (List.not_lt.mpr (List.le_trans (List.not_lt.mp e1) (List.not_lt.mp e2)))
theorem aSe {k:Bool} {a b:V} (ha:KdV k a) (hb:KdV k b) (h1:kvlt a b=false) (h2:kvlt b a=false):a=b:=by
 cases k with
 |true=>obtain ⟨x,rfl⟩:=ha;obtain ⟨y,rfl⟩:=hb;have:=of_decide_eq_false (show decide (x<y)=false from h1);have:=of_decide_eq_false (show decide (y<x)=false from h2);rw [show x=y by lia]
 |false=>obtain ⟨x,rfl⟩:=ha;obtain ⟨y,rfl⟩:=hb;have e1:=of_decide_eq_false (show decide (x.cps.toList<y.cps.toList)=false from h1);have e2:=of_decide_eq_false (show decide (y.cps.toList<x.cps.toList)=false from h2);have e:x.cps.toList=y.cps.toList:=List.le_antisymm (List.not_lt.mp e2) (List.not_lt.mp e1);obtain ⟨⟨xs⟩⟩:=x;obtain ⟨⟨ys⟩⟩:=y;have:xs=ys:=e;rw [this]
theorem lG {k:Bool} {ks:List Bool} {a b:V} {r q:List V} (ha:KdV k a) (hb:KdV k b):rlt (a::r) (b::q)=if a=b then rlt r q else kvlt a b:=by
 cases k with
 |true=>
  obtain ⟨x,rfl⟩:=ha;obtain ⟨y,rfl⟩:=hb;show (if (x == y)=true then rlt r q else decide (x<y))=_;by_cases e:x=y
  ·subst e;rw [if_pos (by simp),if_pos rfl]
  ·rw [if_neg (by simpa using e),if_neg (by intro z;exact e (V.int.inj z))];rfl
 |false=>
  obtain ⟨x,rfl⟩:=ha;obtain ⟨y,rfl⟩:=hb;show (if (x == y)=true then rlt r q else decide (x.cps.toList<y.cps.toList))=_;by_cases e:x=y
  ·subst e;rw [if_pos (by simp),if_pos rfl]
  ·rw [if_neg (by simpa using e),if_neg (by intro z;exact e (V.str.inj z))];rfl
theorem aIq:∀{ks:List Bool} {a b:List V},KdR ks a→KdR ks b→rlt a b=true→rlt b a=false
 |_,_,_,.nil,.nil,h=>by cases (show false=true from h)
 |_,x::a,y::b,.cons (as:=ks) ha ta,.cons hb tb,h=>by
  rw [lG (ks:=ks) ha hb] at h;rw [lG (ks:=ks) hb ha];by_cases e:x=y
  ·rw [if_pos e] at h;rw [if_pos e.symm];exact aIq ta tb h
  ·rw [if_neg e] at h;rw [if_neg (Ne.symm e)];exact aQ5 ha hb h
theorem aS2:∀{ks:List Bool} {a b c:List V},KdR ks a→KdR ks b→KdR ks c→rlt b a=false→rlt c b=false→rlt c a=false
 |_,_,_,_,.nil,.nil,.nil,_,_=>rfl
 |_,x::a,y::b,z::c,.cons (as:=ks) ha ta,.cons hb tb,.cons hc tc,h1,h2=>by
  rw [lG (ks:=ks) hb ha] at h1;rw [lG (ks:=ks) hc hb] at h2;rw [lG (ks:=ks) hc ha];by_cases e1:y=x
  ·subst e1;rw [if_pos rfl] at h1;by_cases e2:z=y
   ·subst e2;rw [if_pos rfl] at h2 ⊢;exact aS2 ta tb tc h1 h2
   ·rw [if_neg e2] at h2 ⊢;exact h2
  ·rw [if_neg e1] at h1;by_cases e2:z=y
   ·subst e2;rw [if_neg e1];exact h1
   ·rw [if_neg e2] at h2;by_cases e3:z=x
    ·subst e3;exact absurd (aSe hc hb h2 h1) e2
    ·rw [if_neg e3];exact aX5 ha hb hc h1 h2
theorem aKe:∀{ks:List Bool} {a b:List V},KdR ks a→KdR ks b→rlt a b=false→rlt b a=false→a=b
 |_,_,_,.nil,.nil,_,_=>rfl
 |_,x::a,y::b,.cons (as:=ks) ha ta,.cons hb tb,h1,h2=>by
  rw [lG (ks:=ks) ha hb] at h1;rw [lG (ks:=ks) hb ha] at h2;by_cases e:x=y
  ·subst e;rw [if_pos rfl] at h1 h2;rw [aKe ta tb h1 h2]
  ·rw [if_neg e] at h1;rw [if_neg (Ne.symm e)] at h2;exact absurd (aSe ha hb h1 h2) e
theorem getD_mem {α:Type} {l:List α} {d:α} (hd:d∈l) (i:Nat):l.getD i d∈l:=by
 by_cases h:i<l.length
 ·rw [j7,j0 h];exact bA9 h
 ·rw [j7,bAO (by lia)];exact hd
theorem range_getD {α:Type} (l:List α) (d:α):(List.range l.length).map (fun i=>l.getD i d)=l:=by
 refine bBY fun i=>?_;by_cases h:i<l.length
 ·rw [t8,bB1 h,j0 h,Option.map_some,j7,j0 h];rfl
 ·rw [bAO (by simpa using h),bAO (by lia)]
theorem aZk {α:Type} {lt:α→α→Bool} (l:List α) (d:α) {n:Nat} (hn:n=l.length) (asym:∀a∈l,∀b∈l,lt a b=true→lt b a=false) (tr:∀a∈l,∀b∈l,∀c∈l,lt b a=false→lt c b=false→lt c a=false) (R:α→α→Prop) (hR:l.Pairwise R) :
  ((PySem.W.dY n fun i j=>lt (l.getD i d) (l.getD j d)).map fun i=>l.getD i d).Perm l∧((PySem.W.dY n fun i j=>lt (l.getD i d) (l.getD j d)).map fun i=>l.getD i d).Pairwise fun a b=>lt b a=false∧(lt a b=true∨R a b):=by
 subst hn;cases l with
 |nil=>
  have e:PySem.W.dY ([]:List α).length (fun i j=>lt (([]:List α).getD i d) (([]:List α).getD j d))=[]:=by have:=PySem.W.wR ([]:List α).length (fun i j=>lt (([]:List α).getD i d) (([]:List α).getD j d));exact List.length_eq_zero_iff.mp this
  rw [e];exact ⟨.nil,.nil⟩
 |cons x0 l0=>
  generalize hl:x0::l0=l at asym tr hR;have hx:x0∈l:=by rw [←hl];exact t6
  have same:PySem.W.dY l.length (fun i j=>lt (l.getD i d) (l.getD j d))=PySem.W.dY l.length (fun i j=>lt (l.getD i x0) (l.getD j x0)):=PySem.W.aLw fun i j hi hj=>by rw [j7,j7,j7,j7,j0 hi,j0 hj];rfl
  have S:PySem.W.Swo fun i j=>lt (l.getD i x0) (l.getD j x0):=⟨fun {i j} h=>asym _ (getD_mem hx i) _ (getD_mem hx j) h,fun {i j k} h1 h2=>tr _ (getD_mem hx i) _ (getD_mem hx j) _ (getD_mem hx k) h1 h2⟩;obtain ⟨p1,p2⟩:=PySem.W.aG8 (n:=l.length) S;rw [←same] at p1 p2;have low:∀i∈PySem.W.dY l.length (fun i j=>lt (l.getD i d) (l.getD j d)),i<l.length:=fun i hi=>PySem.W.rG hi;refine ⟨?_,?_⟩
  ·have:=p1.map fun i=>l.getD i d;rw [range_getD] at this;exact this
  ·refine List.pairwise_map.mpr (bDE ?_ p2);rintro i j hi hj ⟨h1,h2⟩;have li:=low i hi;have lj:=low j hj;have ei:l.getD i x0=l.getD i d:=by rw [j7,j7,j0 li];rfl
   have ej:l.getD j x0=l.getD j d:=by rw [j7,j7,j0 lj];rfl
   dsimp only at h1 h2;rw [ei,ej] at h1 h2;refine ⟨h1,?_⟩;rcases h2 with h2|h2
   ·exact .inl h2
   ·right;have:=List.pairwise_iff_getElem.mp hR i j li lj h2;rw [j7,j7,j0 li,j0 lj];exact this
theorem aTg {α:Type} (l:List α):l.Pairwise fun _ _=>True:=List.pairwise_of_forall fun _ _=>trivial
theorem lB {ks:List Bool} {rs:List (List V)} (h:∀r∈rs,KdR ks r):(srt rs).Perm rs∧(srt rs).Pairwise fun a b=>rlt b a=false:=by obtain ⟨h1,h2⟩:=aZk (lt:=rlt) rs [] rfl (fun a ha b hb=>aIq (h a ha) (h b hb)) (fun a ha b hb c hc=>aS2 (h a ha) (h b hb) (h c hc)) (fun _ _=>True) (aTg _);exact ⟨h1,h2.imp fun z=>z.1⟩
theorem wK {α:Type} {lt:α→α→Bool}:∀{l m:List α},l.Perm m→(∀a∈l,∀b∈l,lt a b=false→lt b a=false→a=b)→l.Pairwise (fun a b=>lt b a=false)→m.Pairwise (fun a b=>lt b a=false)→l=m
 |[],m,p,_,_,_=>(List.perm_nil.mp p.symm).symm
 |a::l,[],p,_,_,_=>absurd (List.perm_nil.mp p) (by simp)
 |a::l,b::m,p,anti,hl,hm=>by
  rw [List.pairwise_cons] at hl hm;have ma:a∈b::m:=p.subset t6;have mb:b∈a::l:=p.symm.subset t6;have e:a=b:=by
   rcases List.mem_cons.mp ma with z|z
   ·exact z
   ·rcases List.mem_cons.mp mb with y|y
    ·exact y.symm
    ·exact anti a t6 b mb (hm.1 a z) (hl.1 b y)
  subst e;rw [wK (List.Perm.cons_inv p) (fun x hx y hy=>anti x (m8 _ hx) y (m8 _ hy)) hl.2 hm.2]
theorem aHo {ks:List Bool} {rs qs:List (List V)} (h:∀r∈rs,KdR ks r) (p:rs.Perm qs):srt rs=srt qs:=by have hq:∀r∈qs,KdR ks r:=fun r hr=>h r (p.symm.subset hr);obtain ⟨a1,a2⟩:=lB h;obtain ⟨b1,b2⟩:=lB hq;have hm:∀r∈srt rs,KdR ks r:=fun r hr=>h r (a1.subset hr);exact wK (lt:=rlt) (a1.trans (p.trans b1.symm)) (fun a ha b hb=>aKe (hm a ha) (hm b hb)) a2 b2
end L2
namespace My
open PySem PySem.Spec PyProof.Rows L2
section
variable {P:Program} {w:World} {K:bEL} {mg:bEO} {base:Heap}
theorem aKx {ks:List Bool} {rs:List (List V)} (h:∀r∈rs,KdR ks r) (p:List V→Bool):srt (rs.filter p)=(srt rs).filter p:=by obtain ⟨p1,s1⟩:=lB h;obtain ⟨p2,s2⟩:=lB (rs:=rs.filter p) fun r hr=>h r (List.mem_filter.mp hr).1;refine wK (lt:=rlt) (p2.trans (p1.filter p).symm) (fun a ha b hb h1 h2=>?_) s2 (s1.filter p);exact aKe (h a (List.mem_filter.mp (vB ha)).1) (h b (List.mem_filter.mp (vB hb)).1) h1 h2
theorem aFr (T:Txt w K mg):Ok P w K mg base 1 "_law_spot" ["_law_head_here","_law_name"] (rA K):=by
 refine Ok.ofV T.aGu aEt (fun vs H Q E h=>?_) (fun f cdv A outer s H vs Q E hr h=>?_)
 ·obtain ⟨vh,n,hd,k,rfl,_⟩:=h;rfl
 obtain ⟨vh,n,hd,k,rfl,⟨b,us,rfl,hb,hu⟩,hl,hk,q⟩:=h;obtain ⟨h1,h2⟩:=aF8 hk;refine ⟨_,(aG (aM (aA8 PySem.F.plainAttrs_list PySem.F.slot_list_index PySem.F.type_list_index aDl (cT (N:=["_law_column","_law_kind"]) (by trivial) (iC (by decide +kernel)) rfl (mL (vv 0)) (fun cl s' H' fp=>⟨(rR (K:=K) (n:=2) rfl (bI (aQ (i:=0) (show (["_law_column","_law_kind"]:List Str).Nodup from by decide +kernel) rfl (Or.inl rfl)) (bI (aQ (i:=1) (show (["_law_column","_law_kind"]:List Str).Nodup from by decide +kernel) rfl (Or.inl rfl)) gC))),eX,(vv 0)⟩)) (aB (vv 1) aA)))),?_⟩;have lu:=hu.len;dsimp only [uT,tBM];refine lK [none,none] rQ ⟨_,rfl,b,rfl,⟨_,hb⟩,aHd Same (aNk H) us (fun _=>true) (fun i _ y=>∃c',hd[i]?=some c'∧y=.str c'.1) (fun _ _ h=>h) (fun _ _ _ h=>h) (fun i σ=>∃c',hd[i]?=some c'∧At2 [none,none] (.str c'.1) (.str c'.2) σ) (Ps2 [none,none]) ⟨none,none,rfl⟩ (small (by lia)) _ (tE fun H' s'=>s'.aV hb) (lO fun H' s'=>s'.aV hb) (fun i x σ' H' Q' ex hps s' qq=>?_) (fun i x σ2 ex hA H' R s' r=>r H' (Same.refl _)) (fun i x σ2 ex hA hp H' R s' r=>?_) fun D H6 ys s6 fD g6 hys=>?_⟩
 ·obtain ⟨c',hc',p',rfl,hp'⟩:=cC hu ex;exact hg2 (s'.aV hp') hps fun σ2 h1 h2=>qq σ2 h1 ⟨c',hc',h2⟩
 ·obtain ⟨c',hc',rfl⟩:=hA;exact ⟨_,rfl,r _ _ (Same.refl H') ⟨c',hc',rfl⟩⟩
 ·rw [pO] at hys;obtain ⟨l1,l2⟩:=nJ hys;have ey:ys=(hd.map (·.1)).map V.str:=bBY fun i=>by
   cases ez:ys[i]? with
   |some z=>obtain ⟨c',hc',rfl⟩:=l2 i z ez;rw [t8,t8,hc'];rfl
   |none=>have:=List.getElem?_eq_none_iff.mp ez;exact (bAO (by rw [m7,m7];lia)).symm
  subst ey;refine ⟨.inl ⟨rfl,_,SqL.of g6⟩,_,rfl,D,hd.map (·.1),n,plc hd n,rfl,rfl,SqL.of g6,by rw [m7];exact hl,by rw [t8,h1];rfl,fun j m hj hm=>?_,q H6 s6⟩;rw [t8] at hm;obtain ⟨c,hc,rfl⟩:=Option.map_eq_some_iff.mp hm;exact h2 j c hj hc
theorem aQ3 {X:Cx} {scope:Scope} {x x2 y:Str} {σ:L2.St} {u:V} (i:Nat) (hf:(y,NameKind.free)∈scope.names) (hi:X.N[i]?=some y) (hs:σ[i]?=some (some u)) (hv:Vis X.env.scope y):Cap X scope [x,x2,y] σ [none,none,some u]:=
 ⟨rfl,fun n q r h1 h2=>by
  match n,h1,h2 with
  |0,_,h2=>cases h2
  |1,_,h2=>cases h2
  |2,h1,h2=>cases h1;cases h2;exact ⟨hf,i,hi,hs,hv⟩
  |n+3,h1,_=>cases h1⟩
theorem aAj {α β:Type} (p:Nat→Bool):∀(k:Nat) (l:List α) (m:List β),l.length=m.length→(sel p k l).length=(sel p k m).length
 |_,[],[],_=>rfl
 |k,a::l,b::m,h=>by
  have ih:=aAj p (k+1) l m (by simpa using h);unfold sel;cases p k with
  |true=>simpa using ih
  |false=>simpa using ih
theorem aXi {kd:Str} {a b:V} {H:Hp} {Q:VK} (ha:bJ kd a) (hb:bJ kd b) (q:Q (.bl (!vlt b a)) H):aWv a b H Q:=by
 cases ha with
 |num=>cases hb;exact .inl ⟨_,_,rfl,rfl,q⟩
 |wrd _ _=>cases hb;exact .inr ⟨_,_,rfl,rfl,q⟩
def aBj (K:bEL):Sp:=fun vs H Q _=>∃(vc v:V) (kd:Str) (m h0:Int) (cs:List (V × Int)),vs=[vc,v]∧mW K H (fH K H) vc ((.non,h0)::cs)∧qO kd m h0 cs∧bJ kd v∧∀H',Same H H'→Q (.int (dU v cs 1 0:Nat)) H'
theorem aFi (T:Txt w K mg):Ok P w K mg base 1 "_law_span" ["_law_cuts","_law_value_here"] (aBj K):=by
 refine Ok.ofV T.aIw aD0 (fun vs H Q E h=>?_) (fun f cdv A outer s H vs Q E hr h=>?_)
 ·obtain ⟨vc,v,kd,m,h0,cs,rfl,_⟩:=h;rfl
 obtain ⟨vc,v,kd,m,h0,cs,rfl,⟨a,us,rfl,ha,hu⟩,ok,hv,q⟩:=h;have hk:∀c∈cs,bJ kd c.1:=fun c hc=>(ok.each c hc).1;have few:=ok.few;refine ⟨_,(aG (aM (aO bC (by rfl) T.fQ dI (aB (cT (N:=["_law_low","_law_house","_law_value_here"]) (by trivial) (iW (aD mG) rfl (by decide +kernel)) rfl (mL (dN rO (vv 0) (eO aC) fX)) (fun cl s' H' fp=>⟨(rR (K:=K) (n:=2) rfl (bI (aQ (i:=0) (show (["_law_low","_law_house","_law_value_here"]:List Str).Nodup from by decide +kernel) rfl (Or.inl rfl)) (bI (aQ (i:=1) (show (["_law_low","_law_house","_law_value_here"]:List Str).Nodup from by decide +kernel) rfl (Or.inl rfl)) gC))),(aBb (bR aQp (vv 0) (vv 2) (bH _))),(vv 0)⟩)) aA)))),?_⟩;obtain ⟨u0,ut,rfl,_,hut⟩:∃u0 ut,us=u0::ut∧fH K H u0 (.non,h0)∧cL (fH K H) ut cs:=by
  cases hu with
  |cons r t=>exact ⟨_,_,rfl,r,t⟩
 have lt:=hut.len;dsimp only [uT,tCB,dR];refine lK [none,none,some v] (aQ3 1 (by decide +kernel) rfl rfl (by trivial)) ⟨_,rfl,_,rfl,a,_,rfl,ha,fun ts H5 s5 g5=>?_⟩;rw [show (1:Int)=((1:Nat):Int) from rfl,mV,List.drop_one,List.tail_cons] at g5;refine ⟨ts,rfl,⟨_,g5⟩,aHd Same (aNk H5) ut (fun i=>!vlt v (cs.getD i (.non,0)).1) (fun _ _ _=>True) (fun _ _ h=>h) (fun _ _ _ h=>h) (fun i σ=>∃c,cs[i]?=some c∧At2 [none,none,some v] c.1 (.int c.2) σ) (Ps2 [none,none,some v]) ⟨none,none,rfl⟩ (small (by lia)) _ (tE fun H' s'=>s'.aV g5) (lO fun H' s'=>s'.aV g5) (fun i x σ' H' Q' ex hps s' qq=>?_) (fun i x σ2 ex hA H' R s' rr=>?_) (fun i x σ2 ex hA hp H' R s' rr=>?_) fun D H6 ys s6 fD g6 hys=>?_⟩
 ·obtain ⟨c,hc,p,rfl,hp⟩:=cC hut ex;exact hg2 ((s5.trans s').aV hp) hps fun σ2 h1 h2=>qq σ2 h1 ⟨c,hc,h2⟩
 ·obtain ⟨c,hc,rfl⟩:=hA;refine ⟨_,rfl,_,rfl,aXi (hk c (w6 hc)) hv ⟨_,rfl,?_⟩⟩;have e:(!vlt v (cs.getD i (.non,0)).1)=!vlt v c.1:=by rw [j7,hc];rfl
  rw [e] at rr;exact rr H' (Same.refl _)
 ·obtain ⟨c,hc,rfl⟩:=hA;exact ⟨_,rfl,rr _ H' (Same.refl _) trivial⟩
 ·have l1:=hys.len;rw [aAj _ 0 (List.range ut.length) cs (by rw [bAM];lia),oJ (p':=fun c=>!vlt v c.1) fun i c e=>by rw [bDA,j7,e];rfl] at l1;obtain ⟨hN,hS⟩:=aBs hv hk ok.up cs.length (j6 _);rw [bB8] at hN hS;rw [xW (N:=dU v cs 1 0) hN fun i c e=>⟨fun z=>by rw [(hS i c (List.getElem?_eq_some_iff.mp e).1 e).mp z];rfl,fun z=>(hS i c (List.getElem?_eq_some_iff.mp e).1 e).mpr (by simpa using z)⟩,bAE] at l1;refine ⟨D,_,rfl,.inl (SqL.of g6),?_⟩;rw [show ys.length=dU v cs 1 0 by lia];exact q H6 (s5.trans s6)
def aDo (K:bEL) (H:Hp) (M:Addr) (vh vp:V) (R:Addr) (t:Tb):Prop:=H M=some (.lst [vh,vp,.ref R,.non])∧jR K H vh t.hd∧oW K H vp t.pl∧dJ K H R t.rows
theorem aDo.same {H H':Hp} {M R:Addr} {vh vp:V} {t:Tb} (s:Same H H') (h:aDo K H M vh vp R t):aDo K H' M vh vp R t:=⟨s _ _ h.1,h.2.1.same s,h.2.2.1.same s,h.2.2.2.same s⟩
def aC1 (K:bEL):Sp:=fun vs H Q _=>∃(M R:Addr) (vh vp:V) (t:Tb) (m house:Int) (n:Str) (h0:Int) (cs:List (V × Int)),vs=[.ref M,.int m,.int house]∧aDo K H M vh vp R t∧pH m t∧t.pl=.spans n h0 cs∧∀L H',H L=none→Same H H'→dJ K H' L ((srt t.rows).filter fun r=>dG t.hd m r house t.pl)→Q (.ref L) H'
theorem aB6 (T:Txt w K mg) (qD:Ok P w K mg base 1 "_law_spot" ["_law_head_here","_law_name"] (rA K)) (aI1:Ok P w K mg base 1 "_law_home" ["_law_value_here","_law_houses"] aDt) (qY:Ok P w K mg base 1 "_law_span" ["_law_cuts","_law_value_here"] (aBj K)):Ok P w K mg base 2 "_law_stood" ["_law_table","_law_houses","_law_house"] (aC1 K):=by
 refine Ok.ofV T.aEe dZ (fun vs H Q E h=>?_) (fun f cdv A outer s H vs Q E hr h=>?_)
 ·obtain ⟨M,R,vh,vp,t,m,house,n,h0,cs,rfl,_⟩:=h;rfl
 obtain ⟨M,R,vh,vp,t,m,house,n,h0,cs,rfl,⟨gM,hI,hpl,⟨us,gR,hus⟩⟩,ok,epl,q⟩:=h;have hpl':=hpl;rw [epl] at hpl';obtain ⟨b,vo,rfl,hb,hcc⟩:=hpl';obtain ⟨cc,cu,rfl,hcu,hcs⟩:=id hcc;have okp:=ok.pl;rw [epl] at okp;obtain ⟨hnn,kd,hk,hkd,okc⟩:=okp;have l8:=ok.hd.1.2.2;have lu:=hus.len;have few:=ok.few;refine ⟨_,(aF (wZ (vv 0) (aMy rfl (bI (aQ (i:=3) dZ.nd rfl (by trivial)) (bI (aQ (i:=4) dZ.nd rfl (by trivial)) (bI (aQ (i:=5) dZ.nd rfl (by trivial)) (bI (aQ (i:=6) dZ.nd rfl (by trivial)) gC)))))) (aF (cG (bR eU (aL aW (vv 4) aC (fun _ _=>rfl)) bA (bH _)) (aG (aM (aO gF (by rfl) T.jQ gK (aB (vv 5) aA)))) bB) (aF (aY (i:=7) dZ.nd rfl (by trivial) (aP (qD.mono (by decide)) hr (by rfl) (aB (vv 3) (aB (aL aW (vv 4) aC (fun _ _=>rfl)) aA)))) (aF (cG (bR eU (aL aW (vv 4) aC (fun _ _=>rfl)) bA (bH _)) (aG (aM (aO gF (by rfl) T.jQ gK (aB (cT (N:=["_law_row_here","_law_house","_law_houses","_law_spot_here"]) (by trivial) (iW (aD iB) rfl (by decide +kernel)) rfl (kJ (vv 5)) (fun cl s' H' fp=>⟨(aQ (i:=0) (show (["_law_row_here","_law_house","_law_houses","_law_spot_here"]:List Str).Nodup from by decide +kernel) rfl (Or.inl rfl)),(aBb (bR eU (aP (aI1.mono (by decide)) hr (by rfl) (aB (aL (cH (K:=K)) (vv 0) (vv 3) (fun _ _=>rfl)) (aB (vv 2) aA))) (vv 1) (bH _))),(vv 0)⟩)) aA)))) bB) (aG (aM (aO gF (by rfl) T.jQ gK (aB (cT (N:=["_law_row_here","_law_house","_law_placing","_law_spot_here"]) (by trivial) (iW (aD iB) rfl (by decide +kernel)) rfl (kJ (vv 5)) (fun cl s' H' fp=>⟨(aQ (i:=0) (show (["_law_row_here","_law_house","_law_placing","_law_spot_here"]:List Str).Nodup from by decide +kernel) rfl (Or.inl rfl)),(aBb (bR eU (aL (cH (K:=K)) (aL (cH (K:=K)) (aL (cH (K:=K)) (vv 2) aC (fun _ _=>rfl)) (aP (qY.mono (by decide)) hr (by rfl) (aB (aL (cH (K:=K)) (vv 2) aC (fun _ _=>rfl)) (aB (aL (cH (K:=K)) (vv 0) (vv 3) (fun _ _=>rfl)) aA))) (fun _ _=>rfl)) aC (fun _ _=>rfl)) (vv 1) (bH _))),(vv 0)⟩)) aA)))))))),?_⟩;refine ⟨_,rfl,M,_,rfl,SqL.of gM,rfl,_,_,rfl,_,_,rfl,_,_,rfl,_,_,rfl,rfl,?_⟩;refine ⟨_,rfl,b,_,0,_,rfl,rfl,hb,at0 _ _,rfl,_,rfl,sI (by decide) ?_⟩;refine ⟨_,rfl,_,rfl,b,_,1,_,rfl,rfl,hb,at1 _ _ _,vh,n,t.hd,kd,rfl,hI,by lia,hk,fun H1 s1=>?_⟩;refine ⟨_,rfl,b,_,0,_,rfl,rfl,s1.aV hb,at0 _ _,rfl,_,rfl,sI (by decide) ?_⟩;dsimp only [cO,aCf,yI,uT,tCB,dR,List.set,sS];refine aCy us (fun i=>dG t.hd m (t.rows.getD i []) house t.pl) [none,some (.int house),some (.ref b),some (.int (plc t.hd n:Nat))] (aNd 2 4 7 (by decide +kernel) (by decide +kernel) (by decide +kernel) rfl rfl rfl rfl rfl rfl (by trivial) (by trivial) (by trivial)) (small (by lia)) (fun R' r'=>aNg (fun H' sm=>SqL.of (sm _ _ (s1 _ _ gR))) (fun R'' r''=>⟨_,rfl,r''⟩) R' r') (fun i u ex H' R' l sm rr=>?_) rfl fun D7 H7 hN7 s7 g7=>?_
 ·obtain ⟨r,er,ru,rfl,hru⟩:=cC hus ex;have okr:=ok.rows r (w6 er);obtain ⟨v,hv,hg,okv⟩:=aMi okr hk;have eg:t.rows.getD i []=r:=by rw [j7,er];rfl
  rw [eg,epl] at rr;have s':=s1.trans sm;refine ⟨_,rfl,b,_,2,_,rfl,rfl,s'.aV hb,at2 _ _ _ _,_,rfl,b,_,2,_,rfl,rfl,s'.aV hb,at2 _ _ _ _,_,rfl,_,rfl,ru,r,_,v,rfl,rfl,s'.aV hru,cI hv,.ref cc,v,kd,m,h0,cs,rfl,mW.same s' (fun _ _ z=>z.same s') hcc,okc,okv,fun H2 s2=>?_⟩;have hN:=uI v cs;have lc:=hcs.len;rw [t7] at lc;have hlt:dU v cs 1 0<cu.length:=by lia
  obtain ⟨c0,hc0,pc,epc,hpc⟩:=cC hcs (j0 hlt);refine ⟨cc,cu,_,cu[dU v cs 1 0],rfl,rfl,(s'.trans s2).aV hcu,cI (j0 hlt),pc,_,1,_,epc,rfl,(s'.trans s2).aV hpc,at1 _ _ _,_,rfl,rfl,_,rfl,?_⟩;have e:decide (V.int c0.2=V.int house)=dG t.hd m r house (.spans n h0 cs):=by show _=decide ((((.non,h0)::cs).map (·.2)).getD (dU (r.getD (plc t.hd n) .non) cs 1 0) 0=house);rw [hg,j7,t8,hc0];exact decide_eq_decide.mpr ⟨fun z=>V.int.inj z,fun z=>congrArg V.int z⟩
  rw [e];exact rr H2 s2
 have hF7:cL (mZ K H7) (sel (fun i=>dG t.hd m (t.rows.getD i []) house t.pl) 0 us) (t.rows.filter fun r=>dG t.hd m r house t.pl):=by have eF:(t.rows.filter fun r=>dG t.hd m r house t.pl)=sel (fun i=>dG t.hd m (t.rows.getD i []) house t.pl) 0 t.rows:=(oJ fun i r er=>by rw [bDA,j7,er];rfl).symm;rw [eF];exact (aI2 hus 0).imp fun _ _ r=>r.same (s1.trans s7)
 have lF:=hF7.len;have lf:(t.rows.filter fun r=>dG t.hd m r house t.pl).length≤t.rows.length:=List.length_filter_le _ _;have hkd':∀r∈t.rows,KdR (knds t.hd) r:=fun r hr'=>aAr (ok.rows r hr');refine ⟨D7,_,_,knds t.hd,rfl,SqL.of g7,jO hF7,by lia,zE ok.hd.1,fun r hr'=>hkd' r (List.mem_filter.mp hr').1,fun L8 H8 us8 hL8 s8 g8 h8=>?_⟩;rw [aKx hkd'] at h8;exact q L8 H8 (none_of (s1.trans s7) hL8) (s1.trans (s7.trans s8)) ⟨us8,g8,(vH h8).imp fun _ _ z=>z.same s8⟩
end
end My
namespace PySem
def Ris (xs:Array Nat):Prop:=∀a b (ha:a<xs.size) (hb:b<xs.size),a<b→xs[a]<xs[b]
theorem aBe {xs:Array Nat} {j:Nat} (hp:Ris xs):∀(fuel lo hi:Nat),hi - lo≤fuel→lo≤hi→hi≤xs.size→(∀k (h:k<xs.size),k<lo→xs[k]<j)→(∀k (h:k<xs.size),hi≤k→j≤xs[k]) →
  SetTable.below.go xs j fuel lo hi≤xs.size∧(∀k (h:k<xs.size),k<SetTable.below.go xs j fuel lo hi→xs[k]<j)∧∀k (h:k<xs.size),SetTable.below.go xs j fuel lo hi≤k→j≤xs[k]
 |0,lo,hi,hf,h1,h2,h3,h4=>by
  have e:lo=hi:=by lia
  subst e;exact ⟨h2,h3,h4⟩
 |fuel+1,lo,hi,hf,h1,h2,h3,h4=>by
  unfold SetTable.below.go
  split
  ·rename_i hlt;have hm:(lo+hi) / 2<hi:=by lia
   have hm':lo≤(lo+hi) / 2:=by lia
   have hms:(lo+hi) / 2<xs.size:=by lia
   dsimp only;rw [v7,v5 hms,bDX]
   split
   ·rename_i hc;refine aBe hp fuel _ _ (by lia) (by lia) h2 (fun k hk hlo=>?_) h4;by_cases e:k=(lo+hi) / 2
    ·subst e;exact hc
    ·exact bCO (hp k _ hk hms (by lia)) hc
   ·rename_i hc;refine aBe hp fuel _ _ (by lia) (by lia) (by lia) h3 fun k hk hhi=>?_;by_cases e:k=(lo+hi) / 2
    ·subst e;lia
    ·exact bAR (Nat.le_of_not_lt hc) (bCX (hp _ k hms hk (by lia)))
  ·have e:lo=hi:=by lia
   subst e;exact ⟨h2,h3,h4⟩
theorem vP {xs:Array Nat} (hp:Ris xs) (j:Nat):SetTable.below xs j≤xs.size∧(∀k (h:k<xs.size),k<SetTable.below xs j→xs[k]<j)∧∀k (h:k<xs.size),SetTable.below xs j≤k→j≤xs[k]:=
 aBe hp xs.size 0 xs.size (by lia) (bAL _) (j6 _) (fun k _ h=>absurd h (bC1 _)) (fun k h1 h2=>absurd h1 (by lia))
theorem aB5 {α:Type} (xs:Array α) (p:Nat) (x:α) (hp:p≤xs.size):(SetTable.insertAt xs p x).toList=xs.toList.take p++x::xs.toList.drop p:=by unfold SetTable.insertAt;rw [bCS,bEJ,Array.toList_extract,Array.toList_extract];simp only [List.extract_eq_drop_take,List.drop_zero,Nat.sub_zero,bCC,List.singleton_append];have e:(xs.toList.drop p).take (xs.size - p)=xs.toList.drop p:=bAW (by rw [bA8,v9];exact j6 _);rw [e]
theorem aHm {xs:Array Nat}:Ris xs↔xs.toList.Pairwise (·<·):=by
 rw [List.pairwise_iff_getElem];unfold Ris;constructor
 ·intro h i j hi hj hij;exact h i j (by simpa using hi) (by simpa using hj) hij
 ·intro h a b ha hb hab;exact h a b (by simpa using ha) (by simpa using hb) hab
theorem aAa {xs:Array Nat} {j:Nat} (hp:Ris xs) (hn:xs[SetTable.below xs j]?≠some j):Ris (SetTable.insertAt xs (SetTable.below xs j) j):=by
 obtain ⟨b1,b2,b3⟩:=vP hp j;rw [aHm,aB5 _ _ _ b1,List.pairwise_append,List.pairwise_cons];have pw:=aHm.mp hp;have below:∀a∈xs.toList.take (SetTable.below xs j),a<j:=fun a ha=>by
  obtain ⟨i,hi,rfl⟩:=bB2 ha;rw [List.getElem_take];rw [bAE] at hi;have hi':i<xs.toList.length:=by lia
  exact b2 i (by simpa using hi') (by lia)
 have above:∀a∈xs.toList.drop (SetTable.below xs j),j<a:=fun a ha=>by
  obtain ⟨i,hi,rfl⟩:=bB2 ha;rw [List.getElem_drop];rw [bA8] at hi;have hs':SetTable.below xs j+i<xs.toList.length:=by lia
  have hs:SetTable.below xs j+i<xs.size:=by simpa using hs'
  have h1:=b3 _ hs (bBN _ _);rw [Array.getElem_toList];rcases Nat.lt_or_eq_of_le h1 with h|h
  ·exact h
  ·exfalso;cases i with
   |zero=>exact hn ((v5 hs).trans (congrArg some h.symm))
   |succ i=>
    have hb:SetTable.below xs j<xs.size:=by lia
    have h2:=b3 _ hb (j6 _);have h3:=hp _ _ hb hs (by lia);lia
 refine ⟨pw.sublist (List.take_sublist _ _),⟨above,pw.sublist (List.drop_sublist _ _)⟩,fun a ha b hb=>?_⟩;rcases List.mem_cons.mp hb with rfl|hb
 ·exact below a ha
 ·exact bCO (below a ha) (above b hb)
theorem aK9 {t:SetTable} {j:Nat} (h:t.slot j=.empty):t.place[SetTable.below t.place j]?≠some j:=by unfold SetTable.slot at h;intro e;simp [e] at h
theorem aFk {t:SetTable} (hd:t.dummies=#[]) (j:Nat):t.slot j≠.dummy:=by
 unfold SetTable.slot;rw [hd];dsimp only
 split
 ·intro z;cases z
 ·have:SetTable.has #[] j=false:=by unfold SetTable.has;simp
  rw [this];intro z;cases z
theorem aH2 {t:SetTable} {g:Nat→Int} {h:Int} (hd:t.dummies=#[]):∀(fuel:Nat) (p:SetTable.Probe) (j:Nat) (dm:Option Nat),p.dummy=none→SetTable.probe.go t g h fuel p=some (.empty j dm)→dm=none∧t.slot j=.empty
 |0,p,j,dm,_,e=>by cases e
 |fuel+1,p,j,dm,hp,e=>by
  unfold SetTable.probe.go at e;have adv:∀q:SetTable.Probe,q.dummy=none→(t.advance q).dummy=none:=fun q hq=>by
   unfold SetTable.advance
   split
   ·exact hq
   ·exact hq
  split at e
  ·rename_i hs;cases e;exact ⟨hp,hs⟩
  ·rename_i hs;exact absurd hs (aFk hd _)
  ·split at e
   ·cases e
   ·exact aH2 hd fuel _ j dm (adv p hp) e
theorem aG0 {t:SetTable} {h:Int} {j:Nat} {b:Bool} (hd:t.dummies=#[]) (e:t.freeSlot h=some (j,b)):t.place[SetTable.below t.place j]?≠some j:=by
 unfold SetTable.freeSlot at e
 split at e
 ·rename_i j' dm hq;unfold SetTable.probe at hq;obtain ⟨rfl,hs⟩:=aH2 hd _ _ _ _ rfl hq;cases e;exact aK9 hs
 ·cases e
def TabOk (b:Bool) (t:SetTable):Prop:=(b=false→t.led=true)∧t.dummies=#[]∧7≤t.mask∧(t.plain=true→Ris t.place)
theorem TabOk.stand {b:Bool} {t:SetTable} {n:Nat} (h:TabOk b t) (hn:1≤n):TabOk b (t.standIn n):=⟨h.1,rfl,by show 7≤4 * n+4;lia,fun z=>by cases z⟩
theorem TabOk.off {b:Bool} {t:SetTable} (h:TabOk b t):TabOk b { t with plain:=false }:=⟨h.1,h.2.1,h.2.2.1,fun z=>by cases z⟩
theorem TabOk.new {b:Bool} {t:SetTable} {es:Array (Int × Value)} {h:Int} {x:Value} (ok:TabOk b t):TabOk b (layNew t es h x).2.1:=by
 unfold layNew
 split
 ·rename_i slot wd e;have hs:=aG0 ok.2.1 e;dsimp only [SetTable.put];have hdm:(if SetTable.has t.dummies slot=true then SetTable.eraseAt t.dummies (SetTable.below t.dummies slot) else t.dummies)=#[]:=by
   rw [ok.2.1];have:SetTable.has #[] slot=false:=by unfold SetTable.has;simp
   rw [this];rfl
  rw [hdm];unfold SetTable.orStandIn
  split
  ·exact ⟨ok.1,rfl,ok.2.2.1,fun z=>aAa (ok.2.2.2 z) hs⟩
  ·refine TabOk.stand (t:={ t with place:=_,dummies:=#[] }) ⟨ok.1,rfl,ok.2.2.1,fun z=>aAa (ok.2.2.2 z) hs⟩ ?_;unfold SetTable.insertAt;simp only [Array.size_append,Array.size_push,Array.size_extract];lia
 ·exact ok.stand (Nat.succ_le_succ (bAL _))
theorem TabOk.room {b:Bool} {t:SetTable} {n:Nat} (ok:TabOk b t) (hf:t.fits n=true) (hn:n≤4):t.tooFull=false:=by unfold SetTable.fits at hf;rw [bAP,beq_iff_eq] at hf;unfold SetTable.tooFull SetTable.fill;rw [hf.1,ok.2.1];have:=ok.2.2.1;simp only [Array.size_empty,Nat.add_zero,decide_eq_false_iff_not];lia
theorem xN {α β:Type} {R:α→β→Prop} {bs' bs:List β} (p:bs'.Perm bs):∀{as:List α},Paired R as bs→∃as',Paired R as' bs'∧as'.Perm as:=by
 induction p with
 |nil=>intro as h;exact ⟨as,h,.refl _⟩
 |cons x _ ih=>
  intro as h;cases h with
  |cons r t=>obtain ⟨as',h1,h2⟩:=ih t;exact ⟨_,.cons r h1,h2.cons _⟩
 |swap x y l=>
  intro as h;cases h with
  |cons r t=>
   cases t with
   |cons r2 t2=>exact ⟨_,.cons r2 (.cons r t2),.swap ..⟩
 |trans _ _ ih1 ih2=>intro as h;obtain ⟨a1,h1,h2⟩:=ih2 h;obtain ⟨a2,h3,h4⟩:=ih1 h1;exact ⟨a2,h3,h4.trans h2⟩
theorem aIg {α β:Type} {R:α→β→Prop} {as:List α} {bs:List β} {a:α} {b:β} (h:Paired R as bs) (r:R a b):Paired R (as++[a]) (bs++[b]):=by
 induction h with
 |nil=>exact .cons r .nil
 |cons q _ ih=>exact .cons q ih
theorem aGa {α β:Type} {R:α→β→Prop} {as:List α} {bs:List β} (h:Paired R as bs):∀a∈as,∃b∈bs,R a b:=by
 induction h with
 |nil=>intro a ha;cases ha
 |cons q _ ih=>
  intro a ha;rcases List.mem_cons.mp ha with rfl|ha
  ·exact ⟨_,t6,q⟩
  ·obtain ⟨b,hb,r⟩:=ih a ha;exact ⟨b,m8 _ hb,r⟩
theorem xX {α β:Type} {R:α→β→Prop} {as:List α} {bs:List β} (h:Paired R as bs):∀b∈bs,∃a∈as,R a b:=by
 induction h with
 |nil=>intro a ha;cases ha
 |cons q _ ih=>
  intro b hb;rcases List.mem_cons.mp hb with rfl|hb
  ·exact ⟨_,t6,q⟩
  ·obtain ⟨a,ha,r⟩:=ih b hb;exact ⟨a,m8 _ ha,r⟩
section
variable {prog:Program} {w:World} {κ:Type} [DecidableEq κ] {knd:KeyKind prog w κ} {A:Around} {E:bEM} {s:Shared}
def byT (w:World):Bool:=w.params.followText "set-order"
abbrev ElK (knd:KeyKind prog w κ):κ→Int × Value→Prop:=fun k e=>knd.is k e.2=true∧e.1=knd.hash k∧e.2.scannable=true
def oG (knd:KeyKind prog w κ) (h:Heap) (D:Addr) (kl:List κ):Prop:=∃o es ep t,h.get? D=some o∧o.ExactSet∧o.data=.set es ep t∧t.fits es.size=true∧TabOk (byT w) t∧Paired (ElK knd) kl es.toList
theorem oG.at {h h':Heap} {D:Addr} {kl:List κ} (x:oG knd h D kl) (e:∀o,h.get? D=some o→h'.get? D=some o):oG knd h' D kl:=by obtain ⟨o,es,ep,t,ho,r⟩:=x;exact ⟨o,es,ep,t,e o ho,r⟩
theorem aR4 {D:Addr} {kl:List κ} {k:κ} {x:Value} {Q:Bool→Shared→Prop} (hkey:knd.is k x=true) (hsc:x.scannable=true) (hS:oG knd s.heap D kl) (hroom:kl.length<4)
  (h:∀h' kl' b,Heap.SameBut D s.heap h'→oG knd h' D kl'→kl'.Perm (if k∈kl then kl else kl++[k])→Q b { s with heap:=h' }):wpAny (model prog w) A (setAddHashed D x (knd.hash k)) Q E s:=by
 obtain ⟨o,es,ep,t,ho,hex,hd,hf,tab,pr⟩:=hS;have hn:kl.length=es.size:=by rw [Paired.length pr,v9]
 have hel:ElemsOf knd es.toList:=fun e he=>by obtain ⟨k',_,r1,r2,r3⟩:=xX pr e he;exact ⟨⟨k',r1,r2⟩,r3⟩
 have hb:es.size<scanBound:=by unfold scanBound;lia
 unfold setAddHashed setAddHashedIn;refine bAV (c7 (bCP ho hd hf ?_));dsimp only;rw [byScan_of hsc hb hel];simp only [↓reduceIte];unfold setAddByScan;refine c7 (c7 (bCM (c7 (wpAny_setScan_of hkey ho hd hf hel ?_))));cases hr:List.findIdx? (fun e=>knd.is k e.2) es.toList with
 |some j=>
  dsimp only;obtain ⟨hj,hpj,_⟩:=List.findIdx?_eq_some_iff_getElem.mp hr;obtain ⟨k',hk',r1,_⟩:=xX pr _ (bA9 hj);have hin:k∈kl:=by rw [knd.inj _ k k' hpj r1];exact hk'
  refine j4 (j4 ?_);have e:s={ s with heap:=s.heap }:=by cases s;rfl
  rw [e];exact h s.heap kl _ (Heap.SameBut.refl D s.heap) ⟨o,es,ep,t,ho,hex,hd,hf,tab,pr⟩ (by rw [if_pos hin])
 |none=>
  dsimp only;have hout:k∉kl:=fun z=>by obtain ⟨e,he,r1,_⟩:=aGa pr k z;have:=List.findIdx?_eq_none_iff.mp hr e he;rw [r1] at this;cases this
  have hgw:∀(b:Bool) {s₁:Shared} {Q':Unit→Shared→Prop},Q' () s₁→wpAny (model prog w) A (match b with|true=>rule "set.scan.the-table-gave-way"|false=>pure ()) Q' E s₁:=fun b s₁ Q' hq=>match b with
   |true=>bCM hq
   |false=>j4 hq
  have hperm:=layNew_perm t es (knd.hash k) x;have hfits:=layNew_fits t es (knd.hash k) x;have htab:TabOk (byT w) (layNew t es (knd.hash k) x).2.1:=tab.new;generalize hL:layNew t es (knd.hash k) x=L at hperm hfits htab ⊢;obtain ⟨es1,t1,wasDummy,gave⟩:=L;dsimp only at hperm hfits htab ⊢;rw [bEJ] at hperm;obtain ⟨kl',pr',pm⟩:=xN hperm (aIg pr (show ElK knd k (knd.hash k,x) from ⟨hkey,rfl,hsc⟩));have hsz:es1.size=es.size+1:=by rw [←v9,hperm.length_eq,bAC,v9];rfl
  refine c7 (hgw _ ?_);have fin:∀t2:SetTable,TabOk (byT w) t2→t2.fits es1.size=true→∀(R:Option Bool→Shared→Prop),(∀h',Heap.SameBut D s.heap h'→oG knd h' D kl'→R (some true) { s with heap:=h' }) →
    wpAny (model prog w) A (storeSet D es1 t2) (fun _ s₁=>t2.tooFull=false∧R (some true) s₁) E s:=fun t2 h2 f2 R hR=>by
   refine wpAny_storeSet_of ho hd ⟨h2.room f2 (by lia),?_⟩ (fits_of_scanBound (by unfold scanBound;lia));have hg:=bAU (Obj.putSet es1 t2) ho (by rw [putSet_of es1 t2 hd];rfl);rw [putSet_of es1 t2 hd] at hg;exact hR _ (bBJ s.heap D (Obj.putSet es1 t2)) ⟨_,es1,ep+1,t2,hg,hex,rfl,f2,h2,pr'⟩
  have hend:∀h',Heap.SameBut D s.heap h'→oG knd h' D kl'→Q true { s with heap:=h' }:=fun h' sb q=>h h' kl' true sb q (by rw [if_neg hout];exact pm)
  split
  ·refine c7 ?_;rw [hashByValue_scannable 8 hsc];refine j4 ?_;refine c7 (bA4 (fin (if plainKind x=true then t1 else { t1 with plain:=false }) (by split;exact htab;exact htab.off) (by split;exact hfits;exact SetTable.fits_plain_off hfits) (fun r s₁=>wpAny (model prog w) A (match r with|some b=>pure b|none=>unsupported "x") Q E s₁) fun h' sb q=>j4 (hend h' sb q)) (fun _ s₁ ⟨tf,q⟩=>?_) fun _ _ z=>z);rw [tf];simp only [Bool.and_false,bA6,↓reduceIte];exact j4 q
  ·refine c7 (j4 ?_);simp only [↓reduceIte];refine c7 (bA4 (fin t1 htab hfits (fun r s₁=>wpAny (model prog w) A (match r with|some b=>pure b|none=>unsupported "x") Q E s₁) fun h' sb q=>j4 (hend h' sb q)) (fun _ s₁ ⟨tf,q⟩=>?_) fun _ _ z=>z);rw [tf];simp only [Bool.and_false,bA6,↓reduceIte];exact j4 q
def Ded (kl xs:List κ):Prop:=kl.Nodup∧(∀k,k∈kl↔k∈xs)∧kl.length≤xs.length
theorem Ded.more {kl kl' xs:List κ} {k:κ} (h:Ded kl xs) (p:kl'.Perm (if k∈kl then kl else kl++[k])):Ded kl' (xs++[k]):=by
 obtain ⟨h1,h2,h3⟩:=h;by_cases hk:k∈kl
 ·rw [if_pos hk] at p;refine ⟨p.nodup_iff.mpr h1,fun y=>?_,by rw [p.length_eq,bAC];lia⟩;rw [p.mem_iff,h2,List.mem_append,bED];exact ⟨.inl,fun z=>z.elim id fun e=>e ▸ (h2 k).mp hk⟩
 ·rw [if_neg hk] at p;refine ⟨p.nodup_iff.mpr (List.nodup_append.mpr ⟨h1,by simp,fun a ha b hb e=>?_⟩),fun y=>?_,by rw [p.length_eq,bAC,bAC];exact Nat.add_le_add_right h3 _⟩
  ·rw [bED] at hb;exact hk (hb ▸ e ▸ ha)
  ·rw [p.mem_iff,List.mem_append,List.mem_append,h2]
theorem aPn {A:Around} {R:Result→Shared→Prop} {I:Addr} {fp wr:List Addr} {n:Nat} {P:Nat→Value→Prop} {St:Nat→Heap→Prop} (W:Walks prog w A.in1 I fp wr n P St) (D:Addr) (hD:D∉fp)
  (ks:List κ) (hks:ks.length=n) (hval:∀i v,P i v→∃k,ks[i]?=some k∧knd.is k v=true∧v.scannable=true) (hb:n≤4) :
  ∀(k i:Nat) (s:Shared) (kl:List κ),i+k=n→St i s.heap→oG knd s.heap D kl→Ded kl (ks.take i) →
   (∀h' tk kl',(∀b o,b∉D::wr→s.heap.get? b=some o→h'.get? b=some o)→oG knd h' D kl'→Ded kl' ks→R (.ok (.ret .none)) { s with heap:=h',toks:=tk }) →
   codeAny (model prog w) A (.builtin "set.update.loop" ⟨[.ref D,.ref I],[]⟩) R s:=by
 have hDw:D∉wr:=fun q=>hD (W.sub _ q);intro k
 induction k with
 |zero=>
  intro i s kl hi st hS dd q;obtain rfl:i=n:=by lia
  refine bBG bBO ?_;rw [bBD bAZ _];show wpAny _ A.in1 (pyNext (.ref I) >>= _) _ _ _;refine c7 (W.done s _ _ st fun h' tk kp=>?_);rw [bAW (bEA hks)] at dd;exact j4 (q h' tk kl (fun b o nb e=>kp b o (fun z=>nb (m8 _ z)) e) (hS.at fun o e=>kp D o hDw e) dd)
 |succ k ih=>
  intro i s kl hi st hS dd q;refine bBG bBO ?_;rw [bBD bAZ _];show wpAny _ A.in1 (pyNext (.ref I) >>= _) _ _ _;refine c7 (W.item i s _ _ (by lia) st fun v h1 tk1 hP st1 kp1=>?_);obtain ⟨kk,ek,hkv,hsc⟩:=hval i v hP;have hS1:oG knd h1 D kl:=hS.at fun o e=>kp1 D o hDw e;show wpAny _ A.in1 (holding [v] (setAdd D v) >>= _) _ _ _;refine c7 (bAV ?_);unfold setAdd;refine bAV (c7 (knd.pyHash hkv ?_));have lt:(ks.take i).length=i:=by rw [bAE];lia
  refine aR4 hkv hsc hS1 (by have:=dd.2.2;lia) fun h2 kl2 b2 sb2 hS2 pm=>?_;have et:ks.take (i+1)=ks.take i++[kk]:=by rw [bBC,ek];rfl
  have kp2:∀b o,b∉D::wr→s.heap.get? b=some o→h2.get? b=some o:=fun b o nb e=>by rw [sb2.2 b (fun z=>nb (by rw [z];exact t6))];exact kp1 b o (fun z=>nb (m8 _ z)) e
  refine j4 ⟨bCI bAZ _,ih (i+1) _ kl2 (by lia) (W.frame _ _ _ st1 fun b hb o e=>?_) hS2 (by rw [et];exact dd.more pm) fun h' tk kl' kp hS' d'=>q h' tk kl' (fun b o nb e=>kp b o nb (kp2 b o nb e)) hS' d'⟩;rw [sb2.2 b (fun z=>hD (by rw [←z];exact hb))];exact e
theorem aP5 {h:Heap} {D:Addr} (hg:h.get? D=some (aZ (!byT w))):oG knd h D []:=by refine ⟨_,#[],0,_,hg,⟨rfl,rfl,rfl⟩,rfl,rfl,⟨fun e=>?_,rfl,j6 _,fun _=>fun a b ha=>absurd ha (by show ¬ (a<0);lia)⟩,.nil⟩;show (!byT w)=true;rw [e];rfl
theorem aGn (a:Value) {Q₁:bEM} (h:Q₁ (.ref s.heap.objs.size) { s with heap:=s.heap.push (aZ (!byT w)) }):codeAny (model prog w) A (.call (.builtin "set.__new__") ⟨[.type "set",a],[]⟩) (wants Q₁ E) s:=by have hsub:=sub_set_self;refine bD7 (show wpAny _ A.in1 (do checkBuiltinCall "set.__new__" ⟨[.type "set",a],[]⟩;again (.builtin "set.__new__" ⟨[.type "set",a],[]⟩)) _ _ s from c7 (bD2 (F.newCall_set_1 a) (j4 ⟨bCI F.plain_set_new _,bBG F.entry_set_new ?_⟩)));rw [bBD F.plain_set_new _];unfold Builtin.«set.__new__» Builtin.Frozenset.newClass;obtain ⟨hp,g,d,tk,os⟩:=s;dsimp only;wp_walk;refine bCV (j4 ?_);dsimp only;simp only [newObj];exact c7 (wpAny_alloc (j4 (j4 h)))
theorem aOf {A:Around} {R:Fin→Shared→Prop} {E:bEM} {s:Shared} {l:Addr} {its:Array Value} {ks:List κ} (hh:A.handled=none) (hl:s.heap.IsList l its) (hlen:ks.length=its.size)
  (hval:∀(i:Nat) (v:Value),its[i]?=some v→∃k,ks[i]?=some k∧knd.is k v=true∧v.scannable=true) (hb:its.size≤4)
  (q:∀h' tk kl,oG knd h' s.heap.objs.size kl→Ded kl ks→(∀b o,b<s.heap.objs.size→s.heap.get? b=some o→h'.get? b=some o)→R (.done (.ret .none)) { s with heap:=h',toks:=tk }) :
  wpAny (model prog w) A (Builtin.«set.__init__» ⟨[.ref s.heap.objs.size,.ref l],[]⟩) R E { s with heap:=s.heap.push (aZ (!byT w)) }:=by
 obtain ⟨⟨oc,od,ox,osl⟩,hol,hcl,nl,hdl⟩:=id hl;simp only at hcl hdl;subst hcl hdl;have hS:(s.heap.push (aZ (!byT w))).get? s.heap.objs.size=some (aZ (!byT w)):=j5 _ rfl;have hT:Shared.TypeIs { s with heap:=s.heap.push (aZ (!byT w)) } (.ref s.heap.objs.size) "set":=⟨_,hS,rfl⟩;have hol':(s.heap.push (aZ (!byT w))).get? l=some { cls:=.type "list",dict:=od,data:=.seq its nl,slots:=osl }:=d9 _ hol;have f1:=F.sub_list_set;have f2:=F.sub_list_frozenset;have f3:(Value.type "list" == Value.type "dict")=false:=by decide
 have hl1:(s.heap.push (aZ (!byT w))).IsList l its:=⟨_,hol',rfl,nl,rfl⟩;have hlt:l<s.heap.objs.size:=j8 hol;unfold Builtin.«set.__init__» noKeywords Builtin.Frozenset.updateFrom;generalize hPI:pyIter=PI;wp_walk;subst hPI;refine bBW hl1 ?_;refine c7 (wpAny_runValue ?_);have hz:(s.heap.push (aZ (!byT w))).objs.size=s.heap.objs.size+1:=bAT ..;have hne:l≠(s.heap.push (aZ (!byT w))).objs.size:=by rw [hz];exact m9 (bBB hlt)
 have hSf:s.heap.objs.size∉[(s.heap.push (aZ (!byT w))).objs.size,l]:=by rw [hz];simp only [bAB,v6,or_false,not_or];exact ⟨m9 (bCJ _),bBL hlt⟩
 refine aPn (Walks.list (by first|exact hh|simp [hh]) _ l hne its) s.heap.objs.size hSf ks hlen hval hb its.size 0 _ [] (by lia) ⟨⟨_,j5 _ rfl,rfl,rfl⟩,hl1.push _⟩ ?_ ⟨List.nodup_nil,fun k=>by simp,bAL _⟩ fun h' tk kl kp hS' dd=>?_
 ·have hg:((s.heap.push (aZ (!byT w))).push { cls:=.type "list_iterator",data:=.fields #[.ref l,.int 0 0] }).get? s.heap.objs.size=some (aZ (!byT w)):=d9 _ hS;exact aP5 hg
 ·refine j4 (j4 (q h' tk kl hS' dd fun b o hb' e=>kp b o ?_ (d9 _ (d9 _ e))));rw [hz];simp only [bAB,v6,or_false,not_or];exact ⟨m9 hb',m9 (bBB hb')⟩
theorem aNy {l:Addr} {its:Array Value} {ks:List κ} {Q:bEM} (hh:A.handled=none) (hl:s.heap.IsList l its) (hlen:ks.length=its.size)
  (hval:∀(i:Nat) (v:Value),its[i]?=some v→∃k,ks[i]?=some k∧knd.is k v=true∧v.scannable=true) (hb:its.size≤4)
  (q:∀h' tk kl,oG knd h' s.heap.objs.size kl→Ded kl ks→(∀b o,b<s.heap.objs.size→s.heap.get? b=some o→h'.get? b=some o)→Q (.ref s.heap.objs.size) { s with heap:=h',toks:=tk }) :
  wpAny (model prog w) A (call (.type "set") [.ref l]) Q E s:=by
 have ft:=F.called_set;obtain ⟨c,tl,hmro⟩:=ft.mro;have g1:=ft.made;have g2:=ft.sub;have g3:=ft.notType;have g4:=ft.canCreate;have g5:=F.typeCall_set_1 (.ref l);refine bCQ (bD7 (show wpAny _ _ (callAny (.type "set") _) _ _ _ from j4 ⟨Code.quiet_builtin _ (by decide +kernel),bBG F.entry_type_call ?_⟩));rw [Around.under_plain (weight_type_call_type "set" [.ref l] []) (by rfl)]
 repeat (any_goals (first|assumption|wp_step))
 refine bBM (aGn (.ref l) (Q₁:=fun obj s1=>obj=.ref s.heap.objs.size∧s1={ s with heap:=s.heap.push (aZ (!byT w)) }) (E:=E) ⟨rfl,rfl⟩) fun r s1 hr=>?_;rcases r with e|fl
 ·exact hr
 rcases fl with _|_|_|obj
 ·exact hr.elim
 ·exact hr.elim
 ·exact hr.elim
 obtain ⟨rfl,rfl⟩:=hr;have hT:Shared.TypeIs { s with heap:=s.heap.push (aZ (!byT w)) } (.ref s.heap.objs.size) "set":=⟨_,j5 _ rfl,rfl⟩;have g6:=ft.init.lookup;have g7:=ft.init.bind (.ref s.heap.objs.size)
 repeat (any_goals (first|assumption|wp_step))
 refine bBM (bCB (R:=wants (fun r s2=>r=.none∧∃h' tk kl,s2={ s with heap:=h',toks:=tk }∧oG knd h' s.heap.objs.size kl∧Ded kl ks∧∀b o,b<s.heap.objs.size→s.heap.get? b=some o→h'.get? b=some o) E)
  ft.init.plain F.entry_set_init (check_set_init_1 hT (aOf (by first|exact hh|simp [hh]) hl hlen hval hb fun h' tk kl x dd kp=>⟨rfl,h',tk,kl,rfl,x,dd,kp⟩))) fun r2 s2 hr2=>?_
 rcases r2 with e|fl
 ·exact hr2
 rcases fl with _|_|_|v
 ·exact hr2.elim
 ·exact hr2.elim
 ·exact hr2.elim
 obtain ⟨rfl,h',tk,kl,rfl,x,dd,kp⟩:=hr2
 repeat (any_goals (first|assumption|wp_step))
 exact q h' tk kl x dd kp
end
end PySem
namespace PySem
section
variable {prog:Program} {w:World} {A:Around} {E:bEM} {s:Shared}
theorem uG {α:Type}:∀(l:List α) (i:Nat) (h:i<l.length),(l[i]::l.eraseIdx i).Perm l
 |x::l,0,_=>.refl _
 |x::l,i+1,h=>by have ih:=uG l i (Nat.lt_of_succ_lt_succ h);exact (List.Perm.swap x _ (l.eraseIdx i)).trans (ih.cons x)
theorem aEs {src:Source} {n:Nat} {Q:Nat→Shared→Prop} (hn:n≠0) (h:∀i dr,i<n→Q i { s with drawn:=dr }):wpAny (model prog w) A (choose src n) Q E s:=
 fun _ _ _=>⟨hn,h _ _ (Nat.mod_lt _ (Nat.pos_of_ne_zero hn))⟩
theorem pF {α:Type}:∀(n:Nat) (xs:List α) (s:Shared) (Q:List α→Shared→Prop),xs.length=n→(∀ys dr,ys.Perm xs→Q ys { s with drawn:=dr })→wpAny (model prog w) A (drawOrder n xs) Q E s
 |0,xs,s,Q,hl,h=>by have e:xs=[]:=bD4 hl;subst e;unfold drawOrder;exact j4 (h [] s.drawn (.refl _))
 |n+1,xs,s,Q,hl,h=>by
  cases xs with
  |nil=>cases hl
  |cons x xs=>unfold drawOrder;refine c7 (aEs (by rw [hl];lia) fun i dr hi=>?_);rw [j0 hi];dsimp only;refine c7 (pF n _ _ _ (by rw [bEE hi,hl];rfl) fun ys dr' p=>j4 ?_);refine h _ dr' ?_;have e:=uG _ _ hi;exact (p.cons _).trans e
theorem aMo {α:Type} (next:Nat→Nat):∀(fuel k:Nat) (left:List α) (out:Array α),left.length=fuel→(pickOrder.go next fuel k left out).toList.Perm (out.toList++left)
 |0,k,left,out,h=>by have e:left=[]:=bD4 h;subst e;unfold pickOrder.go;rw [bBF]
 |fuel+1,k,left,out,h=>by have hlt:next k % left.length<left.length:=Nat.mod_lt _ (by lia);unfold pickOrder.go;rw [j0 hlt];dsimp only;refine (aMo next fuel (k+1) _ _ (by rw [bEE hlt,h];rfl)).trans ?_;rw [bEJ,bCC];exact List.Perm.append_left _ (uG _ _ hlt)
theorem wB {α:Type} (next:Nat→Nat) (xs:Array α):(pickOrder next xs).toList.Perm xs.toList:=by unfold pickOrder;exact aMo next xs.size 0 xs.toList #[] (by rw [v9])
end
theorem bU:Slot "set_iterator" "__next__" "set_iterator.__next__":=.of (owner:="set_iterator") (n:="__next__") (by rw [typeLookup_type,builtinLookup_eq_fast];kernel_rfl) (by decide +kernel) (by decide +kernel) (by decide +kernel) (by first|exact .inl (by decide +kernel)|exact .inr (by decide +kernel)) (by rw [isSubtype_type];kernel_rfl)
theorem qW:Slot "set_iterator" "__iter__" "set_iterator.__iter__":=.of (owner:="set_iterator") (n:="__iter__") (by rw [typeLookup_type,builtinLookup_eq_fast];kernel_rfl) (by decide +kernel) (by decide +kernel) (by decide +kernel) (by first|exact .inl (by decide +kernel)|exact .inr (by decide +kernel)) (by rw [isSubtype_type];kernel_rfl)
theorem fW:entryFor table "set_iterator.__next__"=some Builtin.«set_iterator.__next__»:=entryFor_of_tree (by kernel_rfl)
theorem yD:entryFor table "set_iterator.__iter__"=some Builtin.«dict_keyiterator.__iter__»:=entryFor_alias (id':="dict_keyiterator.__iter__") (by kernel_rfl) rfl (by decide +kernel) (by kernel_rfl)
theorem zK:entryFor table "set.__iter__"=some Builtin.«frozenset.__iter__»:=entryFor_alias (id':="frozenset.__iter__") (by kernel_rfl) rfl (by decide +kernel) (by kernel_rfl)
theorem aAd:Manifest.owners.lookup (String.ofList ['r','o','t','a','r','e','t','i','_','t','e','s'].reverse)=some Manifest.sig_set_iterator:=by kernel_rfl
theorem gZ (a:Value):argsOk "set_iterator.__next__" ⟨[a],[]⟩:=by unfold argsOk;rw [signature?_of (id:="set_iterator.__next__") (n:=['_','_','t','x','e','n','_','_']) (o:=['r','o','t','a','r','e','t','i','_','t','e','s']) (by kernel_rfl) aAd];kernel_rfl
theorem aBc (a:Value):argsOk "set_iterator.__iter__" ⟨[a],[]⟩:=by unfold argsOk;rw [signature?_of (id:="set_iterator.__iter__") (n:=['_','_','r','e','t','i','_','_']) (o:=['r','o','t','a','r','e','t','i','_','t','e','s']) (by kernel_rfl) aAd];kernel_rfl
section
variable {prog:Program} {w:World} {A:Around} {E:bEM} {s:Shared}
def fC (h:Heap) (I:Addr) (first:Value) (i:Nat) (D:Addr) (n ep:Nat):Prop:=h.get? I=some { cls:=.type "set_iterator",data:=.fields #[first,.int i 0,.ref D,.int n 0,.int ep 0] }
def vA (h:Heap) (D:Addr) (es:Array (Int × Value)) (ep:Nat) (t:SetTable):Prop:=∃o,h.get? D=some o∧o.ExactSet∧o.data=.set es ep t∧t.fits es.size=true
def aEc (prog:Program) (w:World) (D:Addr) (es:Array (Int × Value)) (ep:Nat) (t:SetTable) (slot i:Nat) (r:Option (Value × Nat)):Prop:=
 ∀(A:Around) (E:bEM) (s:Shared) (Q:Option (Value × Nat)→Shared→Prop),vA s.heap D es ep t→Q r s→wpAny (model prog w) A (setNext D slot i ep) Q E s
theorem aDr {I D:Addr} {es:Array (Int × Value)} {ep slot i next:Nat} {t:SetTable} {x:Value} {Q:Option Value→Shared→Prop} (ki:fC s.heap I (.int slot 0) i D es.size ep) (so:vA s.heap D es ep t) (hne:D≠I)
  (nx:aEc prog w D es ep t slot i (some (x,next)))
  (q:∀h',fC h' I (.int next 0) (i+1) D es.size ep→(∀b o,b≠I→s.heap.get? b=some o→h'.get? b=some o)→Q (some x) { s with heap:=h' }):wpAny (model prog w) A (pyNext (.ref I)) Q E s:=by
 have ty:s.TypeIs (.ref I) "set_iterator":=⟨_,ki,rfl⟩;obtain ⟨o,ho,hex,hd,hf⟩:=id so;unfold pyNext;refine c7 (bBV (bAH (name:="__next__") ty bU (bAI bU ty fW (c7 (j4 (c7 (bC8 ki rfl ?_)))) (gZ _))));show wpAny _ _ (setEntries D >>= _) _ _ s;refine c7 (bCU ho hd hf ?_);dsimp only;rw [if_neg (by simp)];simp only [bAY];refine c7 (nx _ _ _ _ so ?_);dsimp only;refine c7 (bAK ki (by simp) fun h1 e1 s1=>?_);have f1:fC h1 I (.int next 0) i D es.size ep:=by simpa [rawInt,fC] using e1
 refine c7 (bAK f1 (by simp) fun h2 e2 s2=>?_);have f2:fC h2 I (.int next 0) (i+1) D es.size ep:=by
  have z:((i+1:Nat):Int)=(i:Int)+1:=by lia
  unfold fC;rw [z];simpa [rawInt] using e2
 exact j4 ⟨_,rfl,j4 (q h2 f2 fun b o hb e=>s2.extBut b o hb (s1.extBut b o hb e))⟩
theorem aDm {I D:Addr} {es:Array (Int × Value)} {ep slot i:Nat} {t:SetTable} {Q:Option Value→Shared→Prop} (hh:A.handled=none) (ki:fC s.heap I (.int slot 0) i D es.size ep) (so:vA s.heap D es ep t)
  (nx:aEc prog w D es ep t slot i none) (q:∀h',(∀b o,b≠I→s.heap.get? b=some o→h'.get? b=some o)→Q none { s with heap:=h' }):wpAny (model prog w) A (pyNext (.ref I)) Q E s:=by
 have ty:s.TypeIs (.ref I) "set_iterator":=⟨_,ki,rfl⟩;obtain ⟨o,ho,hex,hd,hf⟩:=id so;unfold pyNext;refine c7 (bBV (bAH (name:="__next__") ty bU (bAI bU ty fW (c7 (j4 (c7 (bC8 ki rfl ?_)))) (gZ _))));show wpAny _ _ (setEntries D >>= _) _ _ s;refine c7 (bCU ho hd hf ?_);dsimp only;rw [if_neg (by simp)];simp only [bAY];refine c7 (nx _ _ _ _ so ?_);dsimp only;refine c7 (bBQ ki rfl (by simp) ?_);refine c7 ?_;simp only [newExc,newTuple,raiseNew];refine c7 (bAJ ?_ (by size_fits));refine c7 (m:=firstArgMember _ _) (bD2 (a:=Value.none) (by simp only [firstArgMember];rfl) ?_);refine bAJ (c7 (bDZ ?_)) (by size_fits);rw [show A.in1.handled=none from hh];refine c7 (j4 (bEG ?_));refine c7 (bCL (T:="StopIteration") (b:=true) ⟨_,j5 _ rfl,rfl⟩ isSubtype_stop ?_);exact j4 (q _ (((bBJ ..).extBut.push _).push _))
theorem aLt {I D T:Addr} {es:Array (Int × Value)} {ep i j:Nat} {t:SetTable} {pl:Array Value} {e:Int × Value} {Q:Option Value→Shared→Prop} (ki:fC s.heap I (.ref T) i D es.size ep) (so:vA s.heap D es ep t) (tp:s.heap.get? T=some { cls:=.type "tuple",data:=.seq pl })
  (hj:pl[i]?=some (.int j 0)) (he:es[j]?=some e)
  (q:∀h',fC h' I (.ref T) (i+1) D es.size ep→(∀b o,b≠I→s.heap.get? b=some o→h'.get? b=some o)→Q (some e.2) { s with heap:=h' }):wpAny (model prog w) A (pyNext (.ref I)) Q E s:=by
 have ty:s.TypeIs (.ref I) "set_iterator":=⟨_,ki,rfl⟩;obtain ⟨o,ho,hex,hd,hf⟩:=id so;unfold pyNext;refine c7 (bBV (bAH (name:="__next__") ty bU (bAI bU ty fW (c7 (j4 (c7 (bC8 ki rfl ?_)))) (gZ _))));show wpAny _ _ (setEntries D >>= _) _ _ s;refine c7 (bCU ho hd hf ?_);dsimp only;rw [if_neg (by simp)];simp only [bAY];refine c7 (bAX tp rfl ?_);dsimp only;rw [hj];dsimp only;unfold setNextDrawn;refine c7 (c7 (bCP ho hd hf ?_));dsimp only;rw [if_neg (by simp)];refine c7 (j4 ?_);simp only [bAY,he];refine j4 (c7 (bAK ki (by simp) fun h2 e2 s2=>?_));have f2:fC h2 I (.ref T) (i+1) D es.size ep:=by
  have z:((i+1:Nat):Int)=(i:Int)+1:=by lia
  unfold fC;rw [z];simpa [rawInt] using e2
 exact j4 ⟨_,rfl,j4 (q h2 f2 fun b o hb e=>s2.extBut b o hb e)⟩
theorem aJ5 {I D T:Addr} {es:Array (Int × Value)} {ep i:Nat} {t:SetTable} {pl:Array Value} {Q:Option Value→Shared→Prop} (hh:A.handled=none) (ki:fC s.heap I (.ref T) i D es.size ep) (so:vA s.heap D es ep t) (tp:s.heap.get? T=some { cls:=.type "tuple",data:=.seq pl })
  (hj:pl[i]?=none) (q:∀h',(∀b o,b≠I→s.heap.get? b=some o→h'.get? b=some o)→Q none { s with heap:=h' }):wpAny (model prog w) A (pyNext (.ref I)) Q E s:=by
 have ty:s.TypeIs (.ref I) "set_iterator":=⟨_,ki,rfl⟩;obtain ⟨o,ho,hex,hd,hf⟩:=id so;unfold pyNext;refine c7 (bBV (bAH (name:="__next__") ty bU (bAI bU ty fW (c7 (j4 (c7 (bC8 ki rfl ?_)))) (gZ _))));show wpAny _ _ (setEntries D >>= _) _ _ s;refine c7 (bCU ho hd hf ?_);dsimp only;rw [if_neg (by simp)];simp only [bAY];refine c7 (bAX tp rfl ?_);dsimp only;rw [hj];dsimp only;refine c7 (bAK ki (by simp) fun h2 e2 s2=>?_);refine c7 (bBQ e2 rfl (by simp) ?_);refine c7 ?_;simp only [newExc,newTuple,raiseNew];refine c7 (bAJ ?_ (by size_fits));refine c7 (m:=firstArgMember _ _) (bD2 (a:=Value.none) (by simp only [firstArgMember];rfl) ?_);refine bAJ (c7 (bDZ ?_)) (by size_fits);rw [show A.in1.handled=none from hh];refine c7 (j4 (bEG ?_));refine c7 (bCL (T:="StopIteration") (b:=true) ⟨_,j5 _ rfl,rfl⟩ isSubtype_stop ?_);refine j4 (q _ fun b o hb e=>((((bBJ ..).extBut.push _).push _)) b o hb (s2.extBut b o hb e))
theorem aDd {D:Addr} {es:Array (Int × Value)} {ep slot i:Nat} {t:SetTable} (hb:byT w=true):aEc prog w D es ep t slot i (((pickOrder (w.params.setOrder D ep) es)[i]?).map fun e=>(e.2,slot)):=by intro A E s Q so q;obtain ⟨o,ho,hex,hd,hf⟩:=so;have hb':(⟨(model prog w).prog,(model prog w).w.params⟩:Setting).params.followText "set-order"=true:=hb;unfold setNext setsByText setWalk;refine c7 (bCP ho hd hf ?_);dsimp only;refine c7 (c7 (bCV (j4 ?_)));rw [if_pos hb',if_neg (by simp)];refine c7 (c7 (bCP ho hd hf ?_));dsimp only;unfold setsByText;refine c7 (c7 (bCV (j4 ?_)));rw [if_pos hb'];exact c7 (bCV (j4 (j4 q)))
theorem aBa {D:Addr} {es:Array (Int × Value)} {ep slot i:Nat} {t:SetTable} (hb:byT w=false) (hl:t.led=true) (hp:t.plain=true∨es.size≤1) :
  aEc prog w D es ep t slot i (match es[SetTable.below t.place slot]?,t.place[SetTable.below t.place slot]? with|some (_,x),some j=>some (x,j+1)|_,_=>none):=by
 intro A E s Q so q;obtain ⟨o,ho,hex,hd,hf⟩:=so;have hb':(⟨(model prog w).prog,(model prog w).w.params⟩:Setting).params.followText "set-order"=false:=hb;unfold setNext setsByText;refine c7 (bCP ho hd hf ?_);dsimp only;refine c7 (c7 (bCV (j4 ?_)));rw [if_neg (by rw [hb'];exact v4)]
 split
 ·rename_i hd';have z:(!t.plain && decide (es.size > 1))=true:=hd';rw [bAP,decide_eq_true_eq] at z;rcases hp with h|h
  ·rw [h] at z;cases z.1
  ·lia
 ·refine c7 (show wpAny _ _ (if (!t.led && !es.isEmpty)=true then unsupported "set:maker-not-led" else pure ()) _ _ _ from ?_);rw [if_neg (by rw [hl];exact v4)];exact j4 (j4 q)
theorem wF {I D:Addr} {first:Value} {n ep i:Nat} {Q:bEM} (ki:fC s.heap I first i D n ep) (h:Q (.ref I) s):wpAny (model prog w) A (pyIter (.ref I)) Q E s:=by have ty:s.TypeIs (.ref I) "set_iterator":=⟨_,ki,rfl⟩;refine bDS ty qW (bAI qW ty yD ?_ (aBc _));show wpAny _ _ (ret (.ref I)) _ _ s;exact j4 ⟨_,rfl,"set_iterator",_,ty,bU.lookup,h⟩
theorem vA.at {h h':Heap} {D:Addr} {es:Array (Int × Value)} {ep:Nat} {t:SetTable} (x:vA h D es ep t) (e:∀o,h.get? D=some o→h'.get? D=some o):vA h' D es ep t:=by obtain ⟨o,ho,r⟩:=x;exact ⟨o,e o ho,r⟩
theorem aK5 {I D:Addr} {es:Array (Int × Value)} {ep:Nat} {t:SetTable} (hb:byT w=true) (hh:A.handled=none) (hne:D≠I) :
  Walks prog w A I [I,D] [I] es.size (fun i v=>((pickOrder (w.params.setOrder D ep) es).toList.map (·.2))[i]?=some v) (fun i h=>fC h I (.int (0:Nat) 0) i D es.size ep∧vA h D es ep t) where
 sub:=fun b hb=>by simp at hb;simp [hb]
 frame:=fun _ _ _ st hk=>⟨hk I (by simp) _ st.1,st.2.at fun o e=>hk D (by simp) o e⟩
 item:=fun i s Q E hi st hQ=>by
  have hl:(pickOrder (w.params.setOrder D ep) es).size=es.size:=by rw [←v9,(wB _ es).length_eq,v9]
  have hi':i<(pickOrder (w.params.setOrder D ep) es).size:=by lia
  have nx:=aDd (prog:=prog) (D:=D) (es:=es) (ep:=ep) (slot:=0) (i:=i) (t:=t) hb;rw [v5 hi'] at nx;refine aDr st.1 st.2 hne nx fun h' k' kp=>?_;exact hQ _ h' s.toks (by rw [t8,bB5,v5 hi'];rfl) ⟨k',st.2.at fun o e=>kp D o hne e⟩ fun b o hb e=>kp b o (fun z=>hb (by simp [z])) e
 done:=fun s Q E st hQ=>by
  have hl:(pickOrder (w.params.setOrder D ep) es).size=es.size:=by rw [←v9,(wB _ es).length_eq,v9]
  have nx:=aDd (prog:=prog) (D:=D) (es:=es) (ep:=ep) (slot:=0) (i:=es.size) (t:=t) hb;rw [bB0 (by lia)] at nx;exact aDm hh st.1 st.2 nx fun h' kp=>hQ h' s.toks fun b o hb e=>kp b o (fun z=>hb (by simp [z])) e
 self:=fun _ _ _ _ st hQ=>wF st.1 hQ
theorem aGy {I D:Addr} {es:Array (Int × Value)} {ep:Nat} {t:SetTable} (hb:byT w=false) (hl:t.led=true) (hp:t.plain=true∨es.size≤1) (hr:Ris t.place) (hsz:t.place.size=es.size) (hh:A.handled=none) (hne:D≠I) :
  Walks prog w A I [I,D] [I] es.size (fun i v=>(es.toList.map (·.2))[i]?=some v) (fun i h=>∃slot,fC h I (.int (slot:Nat) 0) i D es.size ep∧vA h D es ep t∧SetTable.below t.place slot=i) where
 sub:=fun b hb=>by simp at hb;simp [hb]
 frame:=fun _ _ _ ⟨sl,s1,s2,s3⟩ hk=>⟨sl,hk I (by simp) _ s1,s2.at fun o e=>hk D (by simp) o e,s3⟩
 item:=fun i s Q E hi ⟨sl,s1,s2,s3⟩ hQ=>by
  have nx:=aBa (prog:=prog) (D:=D) (es:=es) (ep:=ep) (slot:=sl) (i:=i) (t:=t) hb hl hp;have hi':i<t.place.size:=by lia
  rw [s3,v5 hi,v5 hi'] at nx;refine aDr s1 s2 hne nx fun h' k' kp=>?_;refine hQ _ h' s.toks (by rw [t8,bB5,v5 hi];rfl) ⟨_,k',s2.at fun o e=>kp D o hne e,?_⟩ fun b o hb e=>kp b o (fun z=>hb (by simp [z])) e;obtain ⟨b1,b2,b3⟩:=vP hr (t.place[i]+1);have h1:i<SetTable.below t.place (t.place[i]+1):=Nat.lt_of_not_le fun z=>by have:=b3 i hi' z;lia
  rcases Nat.lt_or_eq_of_le (Nat.succ_le_of_lt h1) with h2|h2
  ·exfalso;have hk:i+1<t.place.size:=by lia
   have h3:=b2 (i+1) hk h2;have h4:=hr i (i+1) hi' hk (bCJ _);lia
  ·exact h2.symm
 done:=fun s Q E ⟨sl,s1,s2,s3⟩ hQ=>by have nx:=aBa (prog:=prog) (D:=D) (es:=es) (ep:=ep) (slot:=sl) (i:=es.size) (t:=t) hb hl hp;rw [s3,bB0 (j6 _)] at nx;exact aDm hh s1 s2 nx fun h' kp=>hQ h' s.toks fun b o hb e=>kp b o (fun z=>hb (by simp [z])) e
 self:=fun _ _ _ _ ⟨_,s1,_⟩ hQ=>wF s1 hQ
theorem aHz {I D T:Addr} {es:Array (Int × Value)} {ep:Nat} {t:SetTable} {ys:List Nat} (hy:ys.Perm (List.range es.size)) (hh:A.handled=none) (hne:D≠I) (hnT:T≠I) :
  Walks prog w A I [I,D,T] [I] es.size (fun i v=>((ys.map fun j=>es.getD j (0,.none)).map (·.2))[i]?=some v) (fun i h=>fC h I (.ref T) i D es.size ep∧vA h D es ep t∧h.get? T=some { cls:=.type "tuple",data:=.seq (ys.map fun j=>rawInt (j:Nat)).toArray }) where
 sub:=fun b hb=>by simp at hb;simp [hb]
 frame:=fun _ _ _ st hk=>⟨hk I (by simp) _ st.1,st.2.1.at fun o e=>hk D (by simp) o e,hk T (by simp) _ st.2.2⟩
 item:=fun i s Q E hi st hQ=>by
  have hyl:ys.length=es.size:=by rw [hy.length_eq,bAM]
  have hi':i<ys.length:=by lia
  have hj:ys[i]<es.size:=List.mem_range.mp (hy.mem_iff.mp (bA9 hi'));refine aLt (j:=ys[i]) st.1 st.2.1 st.2.2 (by rw [bC4,t8,j0 hi'];rfl) (v5 hj) fun h' k' kp=>?_;refine hQ _ h' s.toks ?_ ⟨k',st.2.1.at fun o e=>kp D o hne e,kp T _ hnT st.2.2⟩ fun b o hb e=>kp b o (fun z=>hb (by simp [z])) e;rw [t8,t8,j0 hi'];show some (es.getD ys[i] (0,.none)).2=some es[ys[i]].2;rw [v7,v5 hj];rfl
 done:=fun s Q E st hQ=>by
  have hyl:ys.length=es.size:=by rw [hy.length_eq,bAM]
  exact aJ5 hh st.1 st.2.1 st.2.2 (by rw [bC4,t8,bAO (by lia)];rfl) fun h' kp=>hQ h' s.toks fun b o hb e=>kp b o (fun z=>hb (by simp [z])) e
 self:=fun _ _ _ _ st hQ=>wF st.1 hQ
theorem aSi {D:Addr} {es:Array (Int × Value)} {ep:Nat} {t:SetTable} {Q:bEM} (hh:A.handled=none) (so:vA s.heap D es ep t) (tab:TabOk (byT w) t) (hn:es.size≤1000)
  (h:∀I fp (order:List (Int × Value)) St h1 dr,(∀b o,s.heap.get? b=some o→h1.get? b=some o)→Walks prog w A I fp [I] es.size (fun i v=>(order.map (·.2))[i]?=some v) St→St 0 h1→(∀b∈fp,b=D∨s.heap.objs.size≤b)→s.heap.objs.size≤I→order.Perm es.toList →
   Q (.ref I) { s with heap:=h1,drawn:=dr }):wpAny (model prog w) A (pyIter (.ref D)) Q E s:=by
 obtain ⟨o,ho,hex,hd,hf⟩:=id so;have ty:s.TypeIs (.ref D) "set":=⟨o,ho,hex.1⟩;refine bDS ty F.slot_set_iter (bAI F.slot_set_iter ty zK ?_ (F.args_set_iter_1 _));unfold Builtin.«frozenset.__iter__» Builtin.Frozenset.slot0 slotArgs;simp only [List.isEmpty_nil,Bool.not_true,bA6,↓reduceIte,bind_assoc,bBH,bne_self_eq_false];unfold Builtin.Frozenset.addrOf Builtin.Frozenset.sizeOf setDrawn setsByText;refine c7 (j4 ?_)
 try dsimp only
 refine c7 (j4 ?_);refine c7 (c7 (bCU ho hd hf (j4 ?_)));refine c7 (c7 (bCP ho hd hf ?_));dsimp only;refine c7 (c7 (bCV (j4 (j4 ?_))));have hlt:D<s.heap.objs.size:=j8 ho;have zr:((0:Nat):Int)=0:=rfl
 split
 ·rename_i hc;refine c7 (pF _ _ _ _ (bAM ..) fun ys dr hy=>?_);refine c7 (bDP ?_ (by rw [m7,hy.length_eq,bAM];exact bAR hn (by decide)));have ho2:({ s with drawn:=dr,heap:=s.heap.push { cls:=.type "tuple",data:=.seq (ys.map fun i=>rawInt (i:Nat)).toArray } }:Shared).heap.get? D=some o:=d9 _ ho;refine c7 (wpAny_setEpoch_of ho2 hd hf ?_);refine c7 ?_;unfold newFields;refine bAJ (j4 ⟨_,rfl,"set_iterator",_,⟨_,j5 _ rfl,rfl⟩,bU.lookup,?_⟩);have hz:(s.heap.push { cls:=.type "tuple",data:=.seq (ys.map fun i=>rawInt (i:Nat)).toArray }).objs.size=s.heap.objs.size+1:=bAT ..;refine h _ [_,D,s.heap.objs.size] (ys.map fun j=>es.getD j (0,.none)) _ _ dr (fun b o e=>d9 _ (d9 _ e)) (aHz (t:=t) (ep:=ep) hy hh ?_ ?_) ⟨?_,?_,?_⟩ (fun b hb=>?_) ?_ ?_
  ·show D≠Array.size _;rw [hz];exact m9 (bBB hlt)
  ·show s.heap.objs.size≠Array.size _;rw [hz];exact m9 (bCJ _)
  ·exact j5 _ rfl
  ·exact ⟨o,d9 _ ho2,hex,hd,hf⟩
  ·exact d9 _ (j5 _ rfl)
  ·simp only [bAB,v6,or_false] at hb;rcases hb with rfl|rfl|rfl
   ·right;rw [hz];exact bCW _
   ·left;rfl
   ·right;exact j6 _
  ·rw [hz];exact bCW _
  ·have e:(List.range es.size).map (fun j=>es.getD j (0,.none))=es.toList:=by
    refine bBY fun j=>?_;rw [t8,show es.toList[j]?=es[j]? from bB5];by_cases hj:j<es.size
    ·rw [bB1 hj,v5 hj];show some (es.getD j (0,.none))=_;rw [v7,v5 hj];rfl
    ·rw [bAO (by rw [bAM];lia),bB0 (by lia)];rfl
   exact (hy.map _).trans (by rw [e])
 ·rename_i hc;refine c7 (j4 (c7 (wpAny_setEpoch_of ho hd hf (c7 ?_))));unfold newFields;refine bAJ (j4 ⟨_,rfl,"set_iterator",_,⟨_,j5 _ rfl,rfl⟩,bU.lookup,?_⟩);have ki:fC (s.heap.push { cls:=.type "set_iterator",data:=.fields [rawInt 0,rawInt 0,Value.ref D,rawInt (es.size:Nat),rawInt (ep:Nat)].toArray }) s.heap.objs.size (.int (0:Nat) 0) 0 D es.size ep:=j5 _ rfl;have so2:vA (s.heap.push { cls:=.type "set_iterator",data:=.fields [rawInt 0,rawInt 0,Value.ref D,rawInt (es.size:Nat),rawInt (ep:Nat)].toArray }) D es ep t:=so.at fun o e=>d9 _ e;have fpk:∀b∈[s.heap.objs.size,D],b=D∨s.heap.objs.size≤b:=fun b hb=>by
   simp only [bAB,v6,or_false] at hb;rcases hb with rfl|rfl
   ·right;exact j6 _
   ·left;rfl
  cases hb:byT w with
  |true=>exact h _ [s.heap.objs.size,D] _ _ _ s.drawn (fun b o e=>d9 _ e) (aK5 (t:=t) (ep:=ep) hb hh (m9 hlt)) ⟨ki,so2⟩ fpk (j6 _) (wB _ es)
  |false=>
   have hl:t.led=true:=tab.1 hb;have hsz:t.place.size=es.size:=by unfold SetTable.fits at hf;rw [bAP,beq_iff_eq] at hf;exact hf.1
   have hp:t.plain=true∨es.size≤1:=by
    have z:¬ (!byT w && (!t.plain && decide (es.size > 1)))=true:=hc;rw [hb] at z;cases hpl:t.plain with
    |true=>exact .inl rfl
    |false=>rw [hpl] at z;right;simpa using z
   have hr:Ris t.place:=by
    rcases hp with z|z
    ·exact tab.2.2.2 z
    ·intro a b ha hb' hab;lia
   refine h _ [s.heap.objs.size,D] es.toList _ _ s.drawn (fun b o e=>d9 _ e) (aGy (t:=t) (ep:=ep) hb hl hp hr hsz hh (m9 hlt)) ⟨0,ki,so2,?_⟩ fpk (j6 _) (.refl _);obtain ⟨_,b2,_⟩:=vP hr 0;rcases Nat.eq_zero_or_pos (SetTable.below t.place 0) with z|z
   ·exact z
   ·by_cases h0:0<t.place.size
    ·exact absurd (b2 0 h0 z) (bC1 _)
    ·have:=(vP hr 0).1;lia
theorem aSz {D:Addr} {Q:Bool→Shared→Prop} (hT:s.TypeIs (.ref D) "set") (h:Q false s):wpAny (model prog w) A (Builtin.List.listLengthHint (.ref D)) Q E s:=by unfold Builtin.List.listLengthHint;refine c7 (wpAny_specialOf hT F.slot_set_len.lookup ?_);generalize hid:("set.__len__":String)=id0;wp_delta;rw [show splitId id0=some ("set","__len__") from by subst hid;decide +kernel];subst hid;refine c7 (bCL (T:="set") (b:=true) hT sub_set_self (wpAny_ite_split (fun hab=>absurd hab (by decide)) (fun _=>wpAny_ite_split (fun _=>?_) (fun hab=>absurd (by decide +kernel) hab))));exact c7 (bDO hT (j4 h))
theorem aKq {D:Addr} {es:Array (Int × Value)} {ep:Nat} {t:SetTable} {R:Result→Shared→Prop} (hh:A.handled=none) (so:vA s.heap D es ep t) (tab:TabOk (byT w) t) (hn:es.size≤1000) (S:Addr) (hSD:S≠D) (res:Value) (hS:s.heap.get? S=some { cls:=.type "list",data:=.seq #[] })
  (hR:∀h' tk dr acc c (order:List (Int × Value)),(∀b o,b≠S→s.heap.get? b=some o→h'.get? b=some o)→h'.get? S=some { cls:=.type "list",dict:=none,data:=.seq acc c,slots:=#[] }→order.Perm es.toList→acc.toList=order.map (·.2)→R (.ok (.ret res)) { s with heap:=h',toks:=tk,drawn:=dr }) :
  wpAny (model prog w) A.in1 (Builtin.List.listExtendWith (.ref S) (.ref D) res) (fun fin s'=>match fin with|.done f=>R (.ok f) s'|.again c'=>c'.quiet=true∧codeAny (model prog w) A c' R s') (fun e s'=>R (.error e) s') s:=by
 obtain ⟨o,ho,hex,hd,hf⟩:=id so;have ty:s.TypeIs (.ref D) "set":=⟨o,ho,hex.1⟩;have hSlt:=j8 hS;unfold Builtin.List.listExtendWith;refine c7 (bDO (T:="set") ty ?_);have h1:Builtin.List.listSameRef (.ref S) (.ref D)=false:=by simp [Builtin.List.listSameRef,hSD]
 simp only [h1,show (Value.type "set" == Value.type "list")=false by decide,show (Value.type "set" == Value.type "tuple")=false by decide,Bool.or_false,bA6,if_false];refine c7 (aSi (A:=A.in1) hh so tab hn fun I fp order St hI dr kpI W st hfp hI1 hperm=>?_);have hSf:S∉fp:=fun z=>(hfp S z).elim hSD fun z=>absurd hSlt (Nat.not_lt.mpr z);have hSI:hI.get? S=some { cls:=.type "list",data:=.seq #[] }:=kpI _ _ hS;have key:∀(h:Heap) (c₁ tk:Nat),St 0 h→(∀b o,b≠S→s.heap.get? b=some o→h.get? b=some o)→h.get? S=some { cls:=.type "list",data:=.seq #[] c₁ } →
   codeAny (model prog w) A (.builtin "list.extend.loop" ⟨[.ref S,.ref I,res],[]⟩) R { s with heap:=h,toks:=tk,drawn:=dr }:=fun h c₁ tk hst hk hS₁=>by
  refine codeAny_extend_loopS W.toS (bAR hn (by decide)) S hSf res es.size 0 _ #[] c₁ rfl (bAL _) hst hS₁ (ItemsOf.nil _) fun s' acc' c' hm hS' hacc=>?_;rw [Moved.eq_with hm];refine hR s'.heap s'.toks dr acc' c' order (fun b o hb e=>hm.heap b o (fun hmem=>?_) (hk b o hb e)) hS' hperm ?_
  ·rcases List.mem_cons.mp hmem with e'|hmem
   ·exact hb e'
   ·rw [List.mem_singleton.mp hmem] at e;exact absurd (j8 e) (Nat.not_lt.mpr hI1)
  ·have ol:order.length=es.size:=by rw [hperm.length_eq,v9]
   refine bBY fun j=>?_;rw [bB5];by_cases hj:j<acc'.size
   ·rw [v5 hj];exact (hacc.2 j _ (v5 hj)).symm
   ·rw [bB0 (by lia),bAO (by rw [m7,ol,←hacc.1];lia)]
 refine c7 (bAV (aSz (s:={ s with heap:=hI,drawn:=dr }) ⟨o,kpI _ _ ho,hex.1⟩ ?_));refine wpAny_ite_split (fun _=>?_) (fun _=>j4 ⟨bCI F.plain_extend_loop _,key hI _ _ st (fun b o _ e=>kpI b o e) hSI⟩);refine c7 (bCM (c7 ?_));show wpAny _ _ (updateSeq S (·.push .none) >>= fun _=>updateSeq S (·.pop)) _ _ _;refine c7 (wpAny_updateSeq hSI rfl ?_);have hS₂:=bAU (Obj.mapSeq (·.push Value.none)) hSI rfl;refine wpAny_updateSeq (hz:=by seq_fits) hS₂ rfl ?_;have hS₃:=bAU (Obj.mapSeq (·.pop)) hS₂ rfl;have oth:∀b o,b≠S→hI.get? b=some o→((hI.update S (Obj.mapSeq (·.push Value.none))).update S (Obj.mapSeq (·.pop))).get? b=some o:=fun b o hb e=>(bA7 _ _ (Ne.symm hb)).trans ((bA7 _ _ (Ne.symm hb)).trans e);exact j4 ⟨bCI F.plain_extend_loop _,key _ _ _ (W.frame 0 _ _ st fun b hb o e=>oth b o (fun z=>hSf (z ▸ hb)) e) (fun b o hb e=>oth b o hb (kpI b o e)) hS₃⟩
end
end PySem
namespace PySem
open PySem.Calls PyProof.Rows
section
variable {prog:Program} {w:World} {κ:Type} [DecidableEq κ] {knd:PySem.KeyKind prog w κ} {A:Around} {E:bEM} {s:Shared}
theorem aJb {D:Addr} {kl:List κ} {R:List Value→Shared→Prop} (hh:A.handled=none) (hS:oG knd s.heap D kl) (hn:kl.length≤1000)
  (h:∀h' tk dr acc kl',(∀b o,s.heap.get? b=some o→h'.get? b=some o)→kl'.Perm kl→Paired (fun k v=>knd.is k v=true) kl' acc→R acc { s with heap:=h',toks:=tk,drawn:=dr }):wpAny (model prog w) A (collect (.ref D)) R E s:=by
 obtain ⟨o,es,ep,t,ho,hex,hd,hf,tab,pr⟩:=hS;have hlt:=j8 ho;have hsz:es.size≤1000:=by rw [←v9,←Paired.length pr];exact hn
 unfold collect;refine c7 (wpAny_runValue (bBG entry_proto_collect' ?_));rw [bBD PySem.F.plain_proto_collect _];show wpAny _ A.in1 (newList [] >>= fun l=>again (.builtin "list.__iadd__" ⟨[l,.ref D],[]⟩)) _ _ s;refine c7 (bAJ (j4 ⟨bCI PySem.F.plain_list_iadd _,bBG entry_list_iadd' ?_⟩));rw [bBD PySem.F.plain_list_iadd _];have hS₁:(s.heap.push { cls:=.type "list",data:=.seq ([]:List Value).toArray }).get? s.heap.objs.size=some { cls:=.type "list",data:=.seq #[] }:=j5 _ rfl;show wpAny _ A.in1 (Builtin.List.listExtendWith (.ref s.heap.objs.size) (.ref D) (.ref s.heap.objs.size)) _ _ _;have key:=aKq (prog:=prog) (w:=w) (A:=A) (s:={ s with heap:=s.heap.push { cls:=.type "list",data:=.seq ([]:List Value).toArray } })
  (R:=fun (q:Result) (s':Shared)=>∃(h':Heap) (tk:Nat) (dr:Drawn) (acc:Array Value) (c:Nat) (order:List (Int × Value)),q=.ok (.ret (.ref s.heap.objs.size))∧s'={ s with heap:=h',toks:=tk,drawn:=dr }∧(∀b o,s.heap.get? b=some o→h'.get? b=some o)∧h'.get? s.heap.objs.size=some { cls:=.type "list",dict:=none,data:=.seq acc c,slots:=#[] }∧order.Perm es.toList∧acc.toList=order.map (·.2))
  hh ⟨o,d9 _ ho,hex,hd,hf⟩ tab hsz s.heap.objs.size (bBL hlt) (.ref s.heap.objs.size) hS₁
  (fun h' tk dr acc c order hk hS' hp ha=>⟨h',tk,dr,acc,c,order,rfl,rfl,fun b o e=>hk b o (m9 (j8 e)) (d9 _ e),hS',hp,ha⟩)
 have fin:∀(h':Heap) (tk:Nat) (dr:Drawn) (acc:Array Value) (c:Nat) (order:List (Int × Value)),(∀b o,s.heap.get? b=some o→h'.get? b=some o)→h'.get? s.heap.objs.size=some { cls:=.type "list",dict:=none,data:=.seq acc c,slots:=#[] }→order.Perm es.toList→acc.toList=order.map (·.2) →
   wpAny (model prog w) A (load s.heap.objs.size >>= fun o=>match o.data with|.seq xs _=>pure xs.toList|_=>unsupported "internal:collect") R E { s with heap:=h',toks:=tk,drawn:=dr }:=fun h' tk dr acc c order hk hS' hp ha=>by
  refine c7 (wpAny_load hS' (j4 ?_));obtain ⟨kl',pr',pm⟩:=xN hp pr;refine h h' tk dr acc.toList kl' hk pm ?_;rw [ha];clear hp ha pm
  induction pr' with
  |nil=>exact .nil
  |cons r _ ih=>exact .cons r.1 ih
 refine bA4 key (fun fn s' x=>?_) fun e s' x=>?_
 ·cases fn with
  |done f=>obtain ⟨h',tk,dr,acc,c,order,e,rfl,hk,hS',hp,ha⟩:=x;cases e;exact fin h' tk dr acc c order hk hS' hp ha
  |again c₁=>refine ⟨x.1,bBM x.2 fun q s₂ y=>?_⟩;obtain ⟨h',tk,dr,acc,c,order,rfl,rfl,hk,hS',hp,ha⟩:=y;exact fin h' tk dr acc c order hk hS' hp ha
 ·obtain ⟨_,_,_,_,_,_,e',_⟩:=x;cases e'
end
end PySem
namespace L2
open PySem PySem.Spec PyProof.Rows PySem.Calls
section
variable {prog:Program} {w:World} {A:Around} {E:bEM} {s:Shared}
theorem aN8 {kl:List Key} {acc:List Value} (h:Paired (fun k v=>(bL prog w).is k v=true) kl acc) (hi:∀k∈kl,∃n,k=Sum.inl n):∃ns:List Int,kl=ns.map Sum.inl∧IntsAre acc ns:=by
 induction h with
 |nil=>exact ⟨[],rfl,.nil⟩
 |@cons k v kl acc r _ ih=>
  obtain ⟨ns,rfl,h2⟩:=ih fun k hk=>hi k (m8 _ hk);obtain ⟨n,rfl⟩:=hi k t6;rcases cR (show uX (Sum.inl n) v=true from r) with ⟨i,t,e,rfl⟩|⟨x,t,e,_⟩
  ·cases e;exact ⟨n::ns,rfl,.cons n t h2⟩
  ·cases e
theorem aNp {kl:List Key} {acc:List Value} (h:Paired (fun k v=>(bL prog w).is k v=true) kl acc) (hi:∀k∈kl,∃n,k=Sum.inr n):∃ns:List Str,kl=ns.map Sum.inr∧StrsAre acc ns:=by
 induction h with
 |nil=>exact ⟨[],rfl,.nil⟩
 |@cons k v kl acc r _ ih=>
  obtain ⟨ns,rfl,h2⟩:=ih fun k hk=>hi k (m8 _ hk);obtain ⟨n,rfl⟩:=hi k t6;rcases cR (show uX (Sum.inr n) v=true from r) with ⟨i,t,e,_⟩|⟨x,t,e,rfl⟩
  ·cases e
  ·cases e;exact ⟨n::ns,rfl,.cons n t h2⟩
def ltK:Key→Key→Prop
 |.inl a,.inl b=>a<b
 |.inr a,.inr b=>a.cps.toList<b.cps.toList
 |_,_=>False
theorem aDq:∀(l:List Str) (p:Str),risingS p l=true→∀x∈l,¬ x.cps.toList<p.cps.toList
 |[],_,_,x,hx=>by cases hx
 |y::r,p,h,x,hx=>by
  unfold risingS at h;rw [bAP,ltCps_eq,Bool.not_eq_true',decide_eq_false_iff_not] at h;rcases List.mem_cons.mp hx with rfl|hx
  ·exact h.1
  ·intro z;have h2:=aDq r y h.2 x hx;exact h.1 (List.lt_of_le_of_lt (show y.cps.toList≤x.cps.toList from h2) z)
theorem vC:∀(l:List Str) (p:Str),risingS p l=true→l.Nodup→l.Pairwise fun a b=>a.cps.toList<b.cps.toList
 |[],_,_,_=>.nil
 |y::r,p,h,nd=>by
  unfold risingS at h;rw [bAP] at h;rw [bDH] at nd;refine .cons (fun x hx=>?_) (vC r y h.2 nd.2);have h1:=aDq r y h.2 x hx;rcases Classical.em (y.cps.toList<x.cps.toList) with z|z
  ·exact z
  ·exfalso;have e:y.cps.toList=x.cps.toList:=List.le_antisymm h1 z;have:y=x:=by cases y;cases x;exact congrArg Str.mk (Array.toList_inj.mp e)
   exact nd.1 (this ▸ hx)
theorem aA0 {vs:List Value} {ns:List Int} (h:IntsAre vs ns):Vals ((ns.map Sum.inl).map kV) vs:=by
 induction h with
 |nil=>exact .nil
 |cons n t _ ih=>exact .cons ⟨t,rfl⟩ ih
theorem zJ {vs:List Value} {ns:List Str} (h:StrsAre vs ns):Vals ((ns.map Sum.inr).map kV) vs:=by
 induction h with
 |nil=>exact .nil
 |cons n t _ ih=>exact .cons ⟨t,rfl⟩ ih
theorem vL {α β:Type} {f:α→β} {l:List α} (h:(l.map f).Nodup):l.Nodup:=List.Pairwise.imp (fun hab e=>hab (congrArg f e)) (List.pairwise_map.mp h)
theorem aLx {D:Addr} {kl:List Key} {Q:bEM} (hh:A.handled=none) (hS:oG (bL prog w) s.heap D kl) (hn:kl.length≤60) (nd:kl.Nodup) (hi:(∀k∈kl,∃n,k=Sum.inl n)∨∀k∈kl,∃n,k=Sum.inr n)
  (q:∀(h1 h':Heap) (tk:Nat) (dr:Drawn) (B:Addr) (vs:List Value) (ks:List Key) (e:Nat),Vals (ks.map kV) vs→ks.Perm kl→ks.Pairwise ltK→h'.get? B=some (seqObj "list" vs.toArray e)→(∀b o,s.heap.get? b=some o→h1.get? b=some o)→(∀b o,h1.get? b=some o→h'.get? b=some o)→h1.objs.size≤B→Q (.ref B) { s with heap:=h',toks:=tk,drawn:=dr }) :
  wpAny (model prog w) A (call (.builtin "sorted") [.ref D]) Q E s:=by
 refine call_function_entry kind_sorted plain_sorted entry_sorted (args_sorted1 _) ?_;unfold Builtin.«sorted»;refine c7 (m:=checkCount "sorted" 1 1 _) (j4 (c7 (aJb (A:=A.in1) hh hS (by lia) fun h' tk dr acc kl' hk pm hp=>?_)));have hl:acc.length=kl.length:=by rw [←Paired.length hp,pm.length_eq]
 have nd':kl'.Nodup:=pm.nodup_iff.mpr nd;have h64:acc.length<64:=by lia
 refine c7 (wpAny_newList ?_ (by rw [sizeLine_eq];lia));have hoL:(h'.push (seqObj "list" acc.toArray 0)).get? h'.objs.size=some (seqObj "list" acc.toArray 0):=j5 _ rfl;have fin:∀(out:Array Value) (ks:List Key),Vals (ks.map kV) out.toList→ks.Perm kl'→ks.Pairwise ltK→Q (.ref h'.objs.size) { s with heap:=sortedHeap (h'.push (seqObj "list" acc.toArray 0)) h'.objs.size acc out,toks:=tk,drawn:=dr }:=fun out ks hv pk pw=>by obtain ⟨e,he⟩:=sortedHeap_at (out:=out) hoL;refine q h' _ tk dr h'.objs.size out.toList ks e hv (pk.trans pm) pw (by rw [Array.toArray_toList];exact he) hk (fun b o hb'=>?_) (j6 _);have hlt:=j8 hb';rw [sortedHeap_old (m9 hlt) (by rw [size_push'];exact bBB hlt)];exact d9 _ hb'
 rcases hi with hi|hi
 ·obtain ⟨ns,rfl,hI⟩:=aN8 hp fun k hk=>hi k (pm.mem_iff.mp hk);refine c7 (bAV (bAI slot_list_sort ⟨_,hoL,rfl⟩ entry_list_sort (list_sort_tree hoL hI h64 fun out ns' a1 a2 a3=>⟨_,rfl,j4 ⟨_,rfl,fin out (ns'.map Sum.inl) (aA0 a1) (a2.map _) ?_⟩⟩) (args_list_sort _)));rw [List.pairwise_map];have n2:ns'.Nodup:=a2.nodup_iff.mpr (vL nd');refine (List.pairwise_and_iff.mpr ⟨a3,n2⟩).imp fun {a b} ⟨h1,h2⟩=>?_;show a<b;lia
 ·obtain ⟨ns,rfl,hI⟩:=aNp hp fun k hk=>hi k (pm.mem_iff.mp hk);refine c7 (bAV (bAI slot_list_sort ⟨_,hoL,rfl⟩ entry_list_sort (list_sort_treeK strKind_oneLt hoL hI.keysOf (fun v₁ v₂ rest e=>keyKind_strs (by rw [←e];exact hI)) h64 fun st' a1 a2=>⟨_,rfl,j4 ⟨_,rfl,?_⟩⟩) (args_list_sort _)));obtain ⟨ss',b1,b2,b3⟩:=sorted_out_str hI a1 a2;refine fin _ (ss'.map Sum.inr) (zJ b1) (b2.map _) ?_;rw [List.pairwise_map];have n2:ss'.Nodup:=b2.nodup_iff.mpr (vL nd');cases ss' with
  |nil=>exact .nil
  |cons y r=>have:=vC (y::r) y (by unfold risingS;rw [bAP,ltCps_eq];exact ⟨by simpa using List.lt_irrefl _,b3⟩) n2;exact this
end
def aRc (P:Program) (w:World) (D:Addr) (kl:List Key):HO:=.ext fun h=>oG (bL P w) h D kl
section
variable {X:Cx} {bEP:bEN} {σ:L2.St} {H:Hp} {s:Shared}
theorem Inv.drew (I:Inv X bEP σ H s) (dr:Drawn):Inv X bEP σ H { s with drawn:=dr }:=⟨I.ok,I.os,I.bare,I.base,I.loc,I.cell,I.free,I.freeC,I.pin,I.hok,I.len⟩
def aZj (P:Program) (w:World) (K:bEL):List V→Hp→VK→Prop:=fun xs H Q=>∃(p:Addr) (ks:List Key),xs=[.ref p]∧SqL K H p (ks.map kV)∧ks.length≤4∧∀D H' kl,H D=none→Same H H'→H' D=some (aRc P w D kl)→Ded kl ks→Q (.ref D) H'
theorem aU7 {k:Key} {v:Value} (h:RelV (kV k) v):(bL X.prog X.w).is k v=true∧v.scannable=true:=by
 cases k with
 |inl n=>obtain ⟨t,rfl⟩:=h;exact ⟨aDs n t,rfl⟩
 |inr n=>obtain ⟨t,rfl⟩:=h;exact ⟨aC7 n t,rfl⟩
theorem aOp (hc:X.calm=true):cJ X (.type "set") (aZj X.prog X.w X.K):=by
 intro bEP s σ H xs us Q I r h;obtain ⟨p,ks,rfl,hq,hl,q⟩:=h;obtain ⟨u,rfl,rx⟩:=r.one;cases rx;obtain ⟨its,rv,pl,hz⟩:=I.list hq;have hlen:=rv.length;rw [m7] at hlen;refine aNy (knd:=bL X.prog X.w) (ks:=ks) (I.ok.hd hc) pl.isList (by rw [j9];exact hlen) (fun i v hv=>?_) (by rw [j9,←hlen];exact hl) fun h' tk kl x dd kp=>?_
 ·have hv':its[i]?=some v:=by simpa using hv
  have hi:i<ks.length:=by rw [hlen];exact (List.getElem?_eq_some_iff.mp hv').1
  obtain ⟨u,hu,ru⟩:=rv.get (i:=i) (x:=kV ks[i]) (by rw [t8,j0 hi];rfl);rw [hv'] at hu;cases hu;exact ⟨ks[i],j0 hi,aU7 ru⟩
 ·have e:∃o,h'.get? s.heap.objs.size=some o:=by obtain ⟨o,_,_,_,ho,_⟩:=x;exact ⟨o,ho⟩
  have hf:H s.heap.objs.size=none:=I.hok.fresh (j6 _);exact ⟨.ref s.heap.objs.size,_,I.laid (t':=tk) (o:=aRc X.prog X.w s.heap.objs.size kl) (fun b o eo=>kp b o (j8 eo) eo) (j6 _) (show oG (bL X.prog X.w) h' s.heap.objs.size kl∧_∧_ from ⟨x,e,fun h1 h2 y k=>y.at k⟩),rfl,q _ _ kl hf (aX hf _) aH dd⟩
def aPr (P:Program) (w:World):List V→Hp→VK→Prop:=fun xs H Q=>∃(D:Addr) (kl:List Key),xs=[.ref D]∧H D=some (aRc P w D kl)∧kl.length≤60∧kl.Nodup∧((∀k∈kl,∃n,k=Sum.inl n)∨∀k∈kl,∃n,k=Sum.inr n) ∧
 ∀(B:Addr) (H':Hp) (ks:List Key),H B=none→Same H H'→H' B=some (.lst (ks.map kV))→ks.Perm kl→ks.Pairwise ltK→Q (.ref B) H'
theorem aEh (hc:X.calm=true):cJ X (.builtin "sorted") (aPr X.prog X.w):=by
 intro bEP s σ H xs us Q I r h;obtain ⟨D,kl,rfl,hD,hl,nd,hi,q⟩:=h;obtain ⟨u,rfl,rx⟩:=r.one;cases rx;have x:oG (bL X.prog X.w) s.heap D kl:=(I.hok D _ hD).1;refine aLx (I.ok.hd hc) x hl nd hi fun h1 h' tk dr B vs ks e hv pm pw ho k1 k2 hB=>?_;have I1:Inv X bEP σ H { s with heap:=h1,toks:=tk }:=I.kept (t':=tk) k1;have I2:=I1.drew dr;have hf:H B=none:=I2.hok.fresh hB;have lk:ks.length≤60:=by rw [pm.length_eq];exact hl
 exact ⟨.ref B,_,I2.laid (t':=tk) (o:=.lst (ks.map kV)) k2 hB ⟨small (by rw [m7];lia),vs,e,hv,ho⟩,rfl,q B _ ks hf (aX hf _) aH pm pw⟩
end
end L2
namespace My
open PySem PySem.Spec PyProof.Rows L2
section
variable {P:Program} {w:World} {K:bEL} {mg:bEO} {base:Heap}
theorem aM2 {X:Cx} {scope:Scope} {x y z:Str} {σ:L2.St} {u v:V} (i j:Nat) (hf:(y,NameKind.free)∈scope.names) (hg:(z,NameKind.free)∈scope.names) (hi:X.N[i]?=some y) (hj:X.N[j]?=some z) (hs:σ[i]?=some (some u)) (ht:σ[j]?=some (some v)) (hv:Vis X.env.scope y) (hw:Vis X.env.scope z):Cap X scope [x,y,z] σ [none,some u,some v]:=
 ⟨rfl,fun n q r h1 h2=>by
  match n,h1,h2 with
  |0,_,h2=>cases h2
  |1,h1,h2=>cases h1;cases h2;exact ⟨hf,i,hi,hs,hv⟩
  |2,h1,h2=>cases h1;cases h2;exact ⟨hg,j,hj,ht,hw⟩
  |n+3,h1,_=>cases h1⟩
theorem aR0 {n i:Nat} {x:V} (e:((List.range n).map fun i:Nat=>V.int (0+(i:Int)))[i]?=some x):i<n∧x=.int (0+(i:Int)):=by
 have hi:i<n:=by have:=(List.getElem?_eq_some_iff.mp e).1;rw [m7,bAM] at this;exact this
 rw [t8,bB1 hi] at e;exact ⟨hi,(bAQ e).symm⟩
theorem aGl {X:Cx} {scope:Scope} {N:List Str} {ta:TA} {te:TE} {tt:TT} {g:TG} {σ:L2.St} {H:Hp} {Q:VK} (σ0:L2.St) (cap:Cap X scope N σ σ0) (h:ta σ H fun vs H1=>∃j:Int,vs=[.int j]∧-(2 ^ 62)≤j∧j<2 ^ 62∧uJ (Itr 0 j.toNat) H1 σ0 g tt te Q):jW X scope N (aRp ta) g tt te σ H Q:=⟨σ0,cap,h⟩
theorem aNa {K:bEL} {H:Hp} {Pr:List V→Prop}:∀{ys:List V},(∀y∈ys,∃r,mZ K H y r∧Pr r)→∃rs,cL (mZ K H) ys rs∧∀r∈rs,Pr r
 |[],_=>⟨[],.nil,fun r h=>by cases h⟩
 |y::ys,h=>by
  obtain ⟨r,h1,h2⟩:=h y t6;obtain ⟨rs,h3,h4⟩:=aNa (ys:=ys) fun z hz=>h z (m8 _ hz);refine ⟨r::rs,.cons h1 h3,fun x hx=>?_⟩;rcases List.mem_cons.mp hx with rfl|hx
  ·exact h2
  ·exact h4 x hx
theorem aMj {k:Str}:∀{ys:List V},(∀y∈ys,bJ k y)→∃ks:List Key,ys=ks.map kV∧∀x∈ks,bJ k (kV x)
 |[],_=>⟨[],rfl,fun x h=>by cases h⟩
 |y::ys,h=>by
  obtain ⟨ks,e,hk⟩:=aMj (ys:=ys) fun z hz=>h z (m8 _ hz);have hy:=h y t6;obtain ⟨x,rfl⟩:∃x,y=kV x:=by
   cases hy with
   |num=>exact ⟨.inl _,rfl⟩
   |wrd _ _=>exact ⟨.inr _,rfl⟩
  refine ⟨x::ks,by rw [e];rfl,fun z hz=>?_⟩;rcases List.mem_cons.mp hz with rfl|hz
  ·exact hy
  ·exact hk z hz
theorem aOv {k:Str} {ks:List Key} (h:∀x∈ks,bJ k (kV x)):(∀x∈ks,∃n,x=Sum.inl n)∨∀x∈ks,∃n,x=Sum.inr n:=by
 by_cases hk:k = "number"
 ·refine .inl fun x hx=>?_;cases x with
  |inl n=>exact ⟨n,rfl⟩
  |inr n=>
   have:=h _ hx;rw [hk] at this;generalize hv:kV (Sum.inr n)=v at this;generalize hkk:("number":Str)=k0 at this;cases this with
   |num=>cases hv
   |wrd _ _=>exact absurd hkk (by decide)
 ·refine .inr fun x hx=>?_;cases x with
  |inr n=>exact ⟨n,rfl⟩
  |inl n=>
   have:=h _ hx;generalize hv:kV (Sum.inl n)=v at this;cases this with
   |num=>exact absurd rfl hk
   |wrd _ _=>cases hv
theorem aW5 {a b:Key} (h:ltK a b):vlt (kV a) (kV b)=true:=by cases a <;> cases b <;> first|exact v8 h|exact absurd h id
def bAw (J:It) (H:Hp) (σ:L2.St) (g:TG) (tb:TS) (D:Ends):Prop:=∃W:Nat→Nat→L2.St→Hp→Prop,(∃m,W 0 m σ H)∧∀i m σ H,W i m σ H →
 (J.stop i H∧D.nx σ H)∨(J.go i H∧∃N:L2.St→Hp→Prop,(∀σ' H',N σ' H'→∃m',m'<m∧W (i+1) m' σ' H')∧∀x H',J.yld i H x H'→g x σ H' fun σ2 H2=>tb { D with nx:=N,ct:=N,bk:=D.nx } σ2 H2)
theorem aUw {g:TG} {tb:TS} {D:Ends} {σ:L2.St} {H:Hp} {tl:TE} (h:tl σ H fun v H1=>∃a,v=.ref a∧(∃xs,SqL K H1 a xs)∧bAw (Itl K a) H1 σ g tb D):aX0 (aC2 K tl) g tb D σ H:=h
def aJd (K:bEL) (C Pt:Addr):Sp:=fun vs H Q _=>∃(a N:Addr) (ns:List Str),vs=[.ref a,.ref N,.int 8]∧jZ H a∧H N=some (.lst (ns.map V.str))∧N≠a∧uU ns∧H Pt=some (.tab qC) ∧
 ∀(t x M R d dm:Addr) (m:Int) (vh vp:V) (tb:Tb) (e:En) (n:Str) (h0:Int) (cs:List (V × Int)) H',Fx a H H'→SqT K H' t [.ref x,.ref M,.int m]→aDo K H' M vh vp R tb→cP K H' C x m d dm [e]→some e.n=ns[0]?→e.t={ tb with rows:=srt tb.rows }→pH m tb→tb.rows.length≤8→tb.pl=.spans n h0 cs→2≤m→m≤4→H M=none→H R=none→H e.L=none→M≠R→e.L≠R→e.L≠M→Q (.ref t) H'
theorem sG (T:Txt w K mg) {C Pt:Addr} (aR:Ok P w K mg base 1 "_law_next" ["_law_state","_law_many"] oN) (aIn:Ok P w K mg base 2 "_law_head" ["_law_state","_law_names_here"] (aIe K)) (iQ:Ok P w K mg base 3 "_law_value" ["_law_state","_law_kind"] zF) (tY:Ok P w K mg base 4 "_law_row" ["_law_state","_law_head_here"] (aD1 K)) (GC_Store:OkC P w K mg base C 11 "Store" ["self","houses","tables"] (aH8 K C Pt)):Ok P w K mg base 13 "_law_spans_begun" ["_law_state","_law_names_here","_law_most"] (aJd K C Pt):=by
 refine Ok.ofV T.tZ bF (fun vs H Q E h=>?_) (fun f cdv A outer s H vs Q E hr h=>?_)
 ·obtain ⟨a,N,ns,rfl,_⟩:=h;rfl
 obtain ⟨a,N,ns,rfl,hs,hN,nN,hn,hPt,q⟩:=h;have hu:=vK hr;have l17:=hn.1;have nPa:Pt≠a:=fun z=>by obtain ⟨_,e,_⟩:=hs;rw [z,e] at hPt;cases hPt
 refine ⟨_,(aF (aY (i:=3) bF.nd rfl (by trivial) (bK dH aC (aP (aR.mono (by decide)) hr (by rfl) (aB (vv 0) (aB aC aA))))) (aF (aY (i:=4) bF.nd rfl (by trivial) (aP (aIn.mono (by decide)) hr (by rfl) (aB (vv 0) (aB (vv 1) aA)))) (aF (wZ (aL aW (vv 4) (aP (aR.mono (by decide)) hr (by rfl) (aB (vv 0) (aB (aO bC (by rfl) T.fQ dI (aB (vv 4) aA)) aA))) (fun _ _=>rfl)) (aAw rfl (bI (aQ (i:=5) bF.nd rfl (by trivial)) (bI (aQ (i:=6) bF.nd rfl (by trivial)) gC)))) (aF (aY (i:=7) bF.nd rfl (by trivial) (dM (aB (cV (aB wC (aB (aP (aR.mono (by decide)) hr (by rfl) (aB (vv 0) (aB (vv 3) aA))) aA))) aA))) (aF (jD PassesOwn.never rfl (kJ (aO (aEh rfl) (by rfl) T.jQ gK (aB (cX (aOp rfl) (by rfl) T.aWf aS3 (aB (cT (N:=["_law_k","_law_state","_law_kind"]) (by trivial) (iW (aD cY) rfl (by decide +kernel)) rfl (gJ (by rfl) T.jY (aB (aP (aR.mono (by decide)) hr (by rfl) (aB (vv 0) (aB aC aA))) aA)) (fun cl s' H' fp=>⟨(aQ (i:=0) (show (["_law_k","_law_state","_law_kind"]:List Str).Nodup from by decide +kernel) rfl (Or.inl rfl)),eX,(aP (iQ.mono (by decide)) hr (by rfl) (aB (vv 1) (aB (vv 2) aA)))⟩)) aA)) aA))) (aQ (i:=8) bF.nd rfl (by trivial)) (aG (jL (aA8 PySem.F.plainAttrs_list PySem.F.slot_list_append PySem.F.type_list_append pC (vv 7) (aB (cV (aB (vv 8) (aB (aP (aR.mono (by decide)) hr (by rfl) (aB (vv 0) (aB (vv 3) aA))) aA))) aA))))) (aF (aY (i:=9) bF.nd rfl (by trivial) (cV (aB bA (aB (vv 5) (aB (cX pN (by rfl) T.jK fP (aB (vv 7) aA)) aA))))) (aF (aNh (i0:=10) bF.nd rfl (by trivial) (N:=["_law_k","_law_state","_law_head_here"]) (by trivial) (iW (aD cY) rfl (by decide +kernel)) rfl (gJ (by rfl) T.jY (aB (aP (aR.mono (by decide)) hr (by rfl) (aB (vv 0) (aB (bK dH (vv 2) aC) aA))) aA)) (fun cl s' H' fp=>⟨(aQ (i:=0) (show (["_law_k","_law_state","_law_head_here"]:List Str).Nodup from by decide +kernel) rfl (Or.inl rfl)),eX,(aP (tY.mono (by decide)) hr (by rfl) (aB (vv 1) (aB (vv 2) aA)))⟩)) (aF (aY (i:=11) bF.nd rfl (by trivial) (aMm (GC_Store.mono (by decide)) hr (by rfl) (aB (vv 3) (aB (aTq (aQ7 (aL bV (vv 1) aC (fun _ _=>rfl)) (cV (aB (vv 4) (aB (vv 9) (aB (vv 10) aA)))) aUg) rfl rfl (by simp) (by decide)) aA)))) (aG (aM (cV (aB (vv 11) (aB (dM (aB (vv 4) (aB (vv 9) (aB (cX aA1 (by rfl) T.aD2 yX (aB (vv 10) aA)) (aB wC aA))))) (aB (vv 3) aA)))))))))))))),?_⟩;refine ⟨_,rfl,a,3,rfl,hs,by decide,fun z3 H1 f1 w0 w1=>⟨_,_,rfl,rfl,?_⟩⟩;obtain ⟨m,em⟩:∃m:Int,m=2+z3:=⟨_,rfl⟩;show cO 3 (V.int (2+z3)) _ _ _;rw [←em];have m2:2≤m:=by lia
 have m4:m≤4:=by lia
 refine ⟨_,rfl,_,rfl,a,N,ns,rfl,f1.st,f1.same _ _ nN hN,nN,hn,fun vh H2 hd f2 hI hok _=>?_⟩;obtain ⟨b,us,rfl,hb,hu'⟩:=id hI;have lu:=hu'.len;have l1:=hok.1.2.1;have l8:=hok.1.2.2;refine ⟨_,rfl,_,rfl,_,rfl,b,us,rfl,.inr hb,a,_,rfl,f2.st,⟨by lia,by lia⟩,fun z H3 f3 z0 z1=>?_⟩;obtain ⟨zi,rfl⟩:∃zi:Nat,z=zi:=⟨z.toNat,by lia⟩;have hz:zi<us.length:=by lia
 obtain ⟨c,hc,pc,epc,hpc⟩:=cC hu' (j0 hz);refine ⟨b,us,_,.ref pc,rfl,rfl,f3.aV f2.st hb,cI (by rw [j0 hz,epc]),?_⟩;have hcm:=w6 hc;have lk:=aQa hok.1.1 hcm;obtain ⟨nmc,kdc⟩:=hok.2 c hcm;refine ⟨pc,_,rfl,f3.aV f2.st hpc,rfl,_,_,rfl,_,_,rfl,rfl,?_⟩;have f13:=f1.trans (f2.trans f3);refine ⟨_,rfl,_,rfl,a,m,rfl,f3.st,⟨by lia,by lia⟩,fun h0 H4 f4 h00 h01=>?_⟩;refine ⟨by show 2≤sizeLine;decide,fun t1 H5 _ s5 g5=>⟨by show 1≤sizeLine;decide,fun Cc H6 hC s6 g6=>?_⟩⟩;have f14:=f13.trans f4;have f16:=(f14.sm s5).sm s6;have nCa:Cc≠a:=(f14.sm s5).st.ne hC;have hC0:H Cc=none:=f14.free (none_of s5 hC);dsimp only [cO,List.set];refine aUw ?_;dsimp only [tCB,dR];refine aGl [none,some (.ref a),some (.str c.2)] (aM2 0 6 (by decide +kernel) (by decide +kernel) rfl rfl rfl rfl (by trivial) (by trivial)) ?_;refine ⟨_,rfl,a,4,rfl,f16.st,by decide,fun z H7 f7 z0' z1'=>?_⟩;refine ⟨z,rfl,by lia,by lia,?_⟩;refine aHd (Fx a) (aSc f7.st) ((List.range z.toNat).map fun i:Nat=>V.int (0+(i:Int))) (fun _=>true) (fun _ _ y=>bJ c.2 y) (fun _ _ h=>h) (fun _ _ _ h=>h) (fun i σ=>∃x,σ=[some x,some (.ref a),some (.str c.2)]) (fun σ=>∃l,σ=[l,some (.ref a),some (.str c.2)]) ⟨none,rfl⟩ (small (by rw [m7,bAM];lia)) (Itr 0 z.toNat) (fun H' i x _ ex=>?_) (fun H' _=>?_) (fun i x σ' H' Q' ex ps f' r=>?_) (fun i x σ2 ex at2 H' R f' r=>r H' (Fx.refl f'.st)) (fun i x σ2 ex at2 _ H' R f' r=>?_) fun L H8 ys f8 fL gL hys=>?_
 ·obtain ⟨hi,rfl⟩:=aR0 ex;exact ⟨hi,fun y H2 hy=>hy⟩
 ·show z.toNat≤_;rw [m7,bAM];exact j6 _
 ·obtain ⟨l,rfl⟩:=ps;exact r _ ⟨some x,rfl⟩ ⟨x,rfl⟩
 ·obtain ⟨x',rfl⟩:=at2;exact ⟨_,rfl,_,rfl,a,c.2,rfl,f'.st,kdc,fun v H2 f2 hv=>r v H2 f2 hv⟩
 rw [pO,m7,bAM] at hys;obtain ⟨ly,hy⟩:=nJ hys;have f18:=f16.trans (f7.trans f8);obtain ⟨ks,rfl,hks⟩:=aMj (k:=c.2) (ys:=ys) fun y hm=>by obtain ⟨i,hi⟩:=List.mem_iff_getElem?.mp hm;exact hy i y hi
 rw [m7] at ly;have gC8:=(f7.trans f8).same _ _ nCa g6;refine ⟨L,ks,rfl,SqL.of gL,by lia,fun D H10 kl hND s10 gD ded=>?_⟩;have hkl:∀x∈kl,bJ c.2 (kV x):=fun x hx=>hks x ((ded.2.1 x).mp hx);have lkl:=ded.2.2;refine ⟨D,kl,rfl,gD,by lia,ded.1,aOv hkl,fun B H11 ks' hNB s11 gB perm pw=>?_⟩;have lks:=perm.length_eq;have f111:=(f18.sm s10).sm s11;have gC11:=s11 _ _ (s10 _ _ gC8);have hB0:H B=none:=f18.free (none_of s10 hNB);have nBa:B≠a:=hs.ne hB0;have nBC:B≠Cc:=fun z=>by rw [z,s10 _ _ gC8] at hNB;cases hNB
 have ht1:SqT K H11 t1 [.non,.int h0]:=s11.aV (s10.aV ((f7.trans f8).aV f16.st (s6.aV (SqT.of g5))));refine ⟨B,rfl,⟨_,SqL.of gB⟩,aHl (xs:=ks'.map kV) (fun i σ H'=>Fx a H H'∧H' B=some (.lst (ks'.map kV))∧∃us' cs l,H' Cc=some (.lst us')∧cL (fH K H') us' ((.non,h0)::cs)∧cs.map (·.1)=(ks'.take i).map kV∧(∀x∈cs,0≤x.2∧x.2<m)∧jR K H' (.ref b) hd∧σ=[some (.ref a),some (.ref N),some (.int 8),some (.int m),some (.ref b),some (.str c.1),some (.str c.2),some (.ref Cc),l,none,none,none]) ⟨f111,gB,_,[],none,gC11,.cons ⟨t1,rfl,ht1⟩ .nil,rfl,fun x hx=>(by cases hx),?_,rfl⟩ (fun i σ H' _ p=>SqL.of p.2.1) (fun i x σ H' ex p=>?_) fun σ H' p=>?_⟩
 ·have h1:jR K H4 (.ref b) hd:=hI.tk ((f3.trans f4).tk f2.st);have h2:jR K H8 (.ref b) hd:=((h1.same s5).same s6).tk ((f7.trans f8).tk f16.st);exact (h2.same s10).same s11
 ·obtain ⟨fx,gB',us',cs,l,gC',hcu,ecs,hcb,hI',rfl⟩:=p;rw [t8] at ex;obtain ⟨key,hkey,rfl⟩:=Option.map_eq_some_iff.mp ex;have lcu:=hcu.len;have lcs:cs.length≤4:=by have:=congrArg List.length ecs;rw [m7,m7,bAE] at this;lia
  rw [t7] at lcu;refine ⟨_,rfl,.inl ⟨rfl,_,SqL.of gC'⟩,_,rfl,_,rfl,_,rfl,a,m,rfl,fx.st,⟨by lia,by lia⟩,fun hh H12 f12' hh0 hh1=>?_⟩;refine ⟨by show 2≤sizeLine;decide,fun t2 H13 hN13 s13 g13=>?_⟩;have gC13:=s13 _ _ (f12'.same _ _ nCa gC');have gB13:=s13 _ _ (f12'.same _ _ nBa gB');have ntC:t2≠Cc:=fun z=>by rw [z,f12'.same _ _ nCa gC'] at hN13;cases hN13
  refine ⟨Cc,_,_,rfl,rfl,gC13,nF (by lia),?_⟩;have kz:KP K (fun b=>b≠Cc) H13 (L2.upd H13 Cc (.lst (us'++[.ref t2]))):=.mU gC13 fun z=>z rfl;refine ⟨((fx.trans f12').sm s13).upd hC0 nCa,by rw [aK nBC];exact gB13,us'++[.ref t2],cs++[(kV key,hh)],some (kV key),aH,?_,?_,fun x hx=>?_,((hI'.tk (f12'.tk fx.st)).same s13).tk kz.tk,rfl⟩
  ·rw [←List.cons_append];exact (hcu.imp fun _ _ ⟨p',ep,hp⟩=>⟨p',ep,(s13.aV (f12'.aV fx.st hp)).mU gC13⟩).app (.cons ⟨t2,rfl,SqT.of (by rw [aK ntC];exact g13)⟩ .nil)
  ·rw [bA5,ecs,bBC,hkey,bA5];rfl
  ·rcases List.mem_append.mp hx with hx|hx
   ·exact hcb x hx
   ·rw [bED] at hx;subst hx;exact ⟨hh0,hh1⟩
 ·obtain ⟨fx,gB',us',cs,l,gC',hcu,ecs,hcb,hI',rfl⟩:=p;rw [m7,bB8] at ecs;have lcs:cs.length=ks'.length:=by have:=congrArg List.length ecs;rw [m7,m7] at this;exact this
  refine ⟨_,rfl,_,rfl,Cc,us',rfl,SqL.of gC',fun t3 H12 _ s12 g12=>⟨by show 3≤sizeLine;decide,fun t4 H13 _ s13 g13=>?_⟩⟩;have s1213:=s12.trans s13;have fx13:=fx.sm s1213;have hpl:oW K H13 (.ref t4) (.spans c.1 h0 cs):=⟨t4,.ref t3,rfl,SqT.of g13,t3,us',rfl,s13.aV (SqT.of g12),hcu.imp fun _ _ z=>z.same s1213⟩;have plok:aVj hd m (.spans c.1 h0 cs):=⟨nmc,c.2,lk,kdc,⟨h00,h01⟩,fun x hx=>⟨by have:x.1∈cs.map (·.1):=bCG hx;rw [ecs] at this;obtain ⟨key,hk1,hk2⟩:=List.mem_map.mp this;rw [←hk2];exact hkl key (perm.mem_iff.mp hk1),hcb x hx⟩,by rw [ecs];exact List.pairwise_map.mpr (pw.imp fun h=>aW5 h),by lia⟩
  have hI13:=hI'.same s1213;clear hcu gB' gC' g12 g13;dsimp only [cO,aCf,yI,List.set];refine aGl [none,some (.ref a),some (.ref b)] (aM2 0 4 (by decide +kernel) (by decide +kernel) rfl rfl rfl rfl (by trivial) (by trivial)) ?_;refine ⟨_,rfl,_,rfl,_,_,rfl,rfl,a,_,rfl,fx13.st,(by show (0:Int)<8+1∧(8:Int)+1<2 ^ 64;decide),fun y H14 f14' y0 y1=>?_⟩;have y1:y<8+1:=y1;refine ⟨y,rfl,by lia,by lia,?_⟩;have hI14:=hI13.tk (f14'.tk (K:=K) fx13.st);refine aHd (Fx a) (aSc f14'.st) ((List.range y.toNat).map fun i:Nat=>V.int (0+(i:Int))) (fun _=>true) (fun _ H' y=>∃r,mZ K H' y r∧aBp hd r) (fun f1 f2 ⟨r,⟨p,e,hp⟩,h⟩=>⟨r,⟨p,e,f2.aV f1.st hp⟩,h⟩) (fun _ _ gD ⟨r,⟨p,e,hp⟩,h⟩=>⟨r,⟨p,e,SqT.mU gD hp⟩,h⟩) (fun i σ=>∃x,σ=[some x,some (.ref a),some (.ref b)]) (fun σ=>∃l,σ=[l,some (.ref a),some (.ref b)]) ⟨none,rfl⟩ (small (by rw [m7,bAM];lia)) (Itr 0 y.toNat) (fun H' i x _ ex=>?_) (fun H' _=>?_) (fun i x σ' H' Q' ex ps f' r=>?_) (fun i x σ2 ex at2 H' R f' r=>r H' (Fx.refl f'.st)) (fun i x σ2 ex at2 _ H' R f' r=>?_) fun L15 H15 ys f15 fL15 gL15 hys=>?_
  ·obtain ⟨hi,rfl⟩:=aR0 ex;exact ⟨hi,fun y H2 hy=>hy⟩
  ·show y.toNat≤_;rw [m7,bAM];exact j6 _
  ·obtain ⟨l,rfl⟩:=ps;exact r _ ⟨some x,rfl⟩ ⟨x,rfl⟩
  ·obtain ⟨x',rfl⟩:=at2;exact ⟨_,rfl,_,rfl,a,.ref b,hd,rfl,f'.st,hI14.tk (f'.tk f14'.st),hok,fun t H2 r' f2 g2 hk=>r _ H2 f2 ⟨r',⟨t,rfl,SqT.of g2⟩,hk⟩⟩
  rw [pO,m7,bAM] at hys;obtain ⟨ly15,hy15⟩:=nJ hys;obtain ⟨rows,hrow,hkd⟩:=aNa (ys:=ys) fun y hm=>by obtain ⟨i,hi⟩:=List.mem_iff_getElem?.mp hm;exact hy15 i y hi
  have lrow:=hrow.len;have f1315:=f14'.trans f15;have fx15:=fx13.trans f1315;have hL0:H L15=none:=fx13.free (f14'.free fL15);have nLa:L15≠a:=hs.ne hL0;have tk15:=f1315.tk (K:=K) fx13.st;have hI15:=hI13.tk tk15;have hpl15:=hpl.tk tk15;have hN15:=fx15.same _ _ nN hN;obtain ⟨n0,hn0⟩:∃n0,ns[0]?=some n0:=⟨_,j0 (by lia)⟩;refine ⟨_,rfl,fun p hp=>?_⟩;have sp:Same H15 (L2.upd H15 p (.dK [])):=aX hp _;have gp:L2.upd H15 p (.dK []) p=some (.dK []):=aH;generalize L2.upd H15 p (.dK [])=H16 at sp gp ⊢;refine ⟨_,rfl,N,_,0,.str n0,rfl,rfl,SqL.of (sp _ _ hN15),cI (j:=0) (by rw [t8,hn0];rfl),_,rfl,_,rfl,_,rfl,by show 3≤sizeLine;decide,fun t17 H17 ht17 s17 g17=>?_⟩;refine ⟨s17 _ _ gp,[(Sum.inr n0,.ref t17)],rfl,by show 1≤15;decide,?_⟩;have em:iY [] [((Sum.inr n0:Key),V.ref t17)]=[(Sum.inr n0,.ref t17)]:=rfl;rw [em];obtain ⟨e0,ee0⟩:∃e0:En,e0=⟨n0,.ref t17,.ref b,.ref t4,L15,⟨hd,.spans c.1 h0 cs,rows⟩⟩:=⟨_,rfl⟩;have s1517:=sp.trans s17;have tbo:pH m ⟨hd,.spans c.1 h0 cs,rows⟩:=⟨hok,plok,by show rows.length≤60;lia,hkd⟩;have nz17:eE H17 p:=eE.dK (s17 _ _ gp);have b17:But p H17 (L2.upd H17 p (.dK [(Sum.inr n0,.ref t17)])):=But.upd;have g18:L2.upd H17 p (.dK [(Sum.inr n0,.ref t17)]) p=some (.dK [(Sum.inr n0,.ref t17)]):=aH;have s1518:Same H15 (L2.upd H17 p (.dK [(Sum.inr n0,.ref t17)])):=lH hp s1517;have g17':L2.upd H17 p (.dK [(Sum.inr n0,.ref t17)]) t17=some (.tup [.ref b,.ref t4,.ref L15]):=b17 _ _ (fun z=>by rw [z,s17 _ _ gp] at g17;cases g17) g17;generalize L2.upd H17 p (.dK [(Sum.inr n0,.ref t17)])=H18 at b17 g18 s1518 g17' ⊢;have hR18:dJ K H18 L15 rows:=⟨ys,s1518 _ _ gL15,hrow.imp fun _ _ z=>z.same s1518⟩;have hE18:lL K H18 p [e0]:=by
   rw [ee0];refine ⟨g18,List.nodup_cons.mpr ⟨(fun h=>by cases h),List.nodup_nil⟩,by show 1≤60;decide,fun y hy=>?_,fun y hy=>?_⟩
   ·rw [List.mem_singleton.mp hy];exact hn.2.1 _ (w6 hn0)
   ·rw [List.mem_singleton.mp hy];exact ⟨t17,rfl,SqT.of g17',hI15.same s1518,hpl15.same s1518,hR18⟩
  have hP18:H18 Pt=some (.tab qC):=s1518 _ _ (fx15.same _ _ nPa hPt);intro x dx hx0 hdx0 hne;refine ⟨H18,x,dx,p,m,[e0],rfl,aH,hx0,lH hx0 (aX hdx0 _),by lia,by lia,hE18,fun y hy=>by rw [List.mem_singleton.mp hy,ee0];exact tbo,hP18,fun d' dm H19 es' hd' hdm s19 hS a1=>⟨rfl,?_⟩⟩;obtain ⟨v',L',rfl,hL'⟩:∃v' L',es'=[uC e0 v' L']∧H18 L'=none:=by
   cases a1 with
   |cons r t=>cases t;obtain ⟨v',L',e1,e2⟩:=r;exact ⟨v',L',by rw [e1],e2⟩
  refine ⟨_,rfl,_,rfl,_,rfl,_,rfl,L15,ys,rfl,.inl (SqL.of (s19 _ _ (s1518 _ _ gL15))),fun R H20 hR s20 gR=>?_⟩;refine ⟨by show 4≤sizeLine;decide,fun M H21 hM s21 gM=>?_⟩;refine ⟨_,rfl,by show 3≤sizeLine;decide,fun t22 H22 _ s22 g22=>?_⟩;have s1522:=s1518.trans (s19.trans (s20.trans (s21.trans s22)));have sb:=s20.trans (s21.trans s22);have fr:∀{b},H18 b=none→H b=none:=fun h=>fx15.free (none_of s1518 h);have hLL:∃us,H19 L'=some (.lst us):=by obtain ⟨_,_,_,_,_,⟨us,h3,_⟩⟩:=hS.ens.tb _ t6;exact ⟨us,h3⟩
  obtain ⟨usL,gLL⟩:=hLL;refine q t22 x M R d' dm m (.ref b) (.ref t4) ⟨hd,.spans c.1 h0 cs,rows⟩ (uC e0 v' L') c.1 h0 cs H22 (fx15.sm s1522) (SqT.of g22) ⟨s22 _ _ gM,hI15.same s1522,hpl15.same s1522,ys,s22 _ _ (s21 _ _ gR),hrow.imp fun _ _ z=>z.same s1522⟩ (hS.same sb) (by rw [ee0];exact hn0.symm) (by rw [ee0];rfl) tbo (by show rows.length≤8;lia) rfl m2 m4 (fr (none_of (s19.trans s20) hM)) (fr (none_of s19 hR)) (fr hL') ?_ ?_ ?_
  ·exact fun z=>by rw [z,gR] at hM;cases hM
  ·exact fun z=>by have z:L'=R:=z;rw [←z,gLL] at hR;cases hR
  ·exact fun z=>by have z:L'=M:=z;rw [←z,s20 _ _ gLL] at hM;cases hM
theorem xY {kd:Str} {v:V} (h:bJ kd v):gU v=true:=by cases h <;> rfl
theorem aQb {H:Hp} {e T C dx:Addr} (n:H e=none) (nT:H T=none):Same H (up2 H e T C dx):=fun b o h=>by unfold up2;rw [aK (aU h n),aK (aU h nT)];exact h
theorem yV {S R:TS} {D:Ends} {σ:L2.St} {H:Hp} (J:L2.St→Hp→Prop) (h1:∀N:L2.St→Hp→Prop,(∀σ' H',J σ' H'→N σ' H')→S { D with nx:=N } σ H) (h2:∀σ' H',J σ' H'→R D σ' H'):aCf S R D σ H:=h1 _ h2
structure Sy (K:bEL) (H:Hp) (C x:Addr) (m:Int) (d dm M R:Addr) (e:En) (vh vp:V) (t:Tb) (n kd:Str) (h0:Int) (cs:List (V × Int)):Prop where
 st:cP K H C x m d dm [e]
 md:aDo K H M vh vp R t
 et:e.t={ t with rows:=srt t.rows }
 ok:pH m t
 pl:t.pl=.spans n h0 cs
 lk:look t.hd n=some kd
 n1:M≠R
 n2:e.L≠R
 n3:e.L≠M
theorem Sy.same {H H':Hp} {C x d dm M R:Addr} {m:Int} {e:En} {vh vp:V} {t:Tb} {n kd:Str} {h0:Int} {cs:List (V × Int)} (s:Same H H') (h:Sy K H C x m d dm M R e vh vp t n kd h0 cs):Sy K H' C x m d dm M R e vh vp t n kd h0 cs:=⟨h.st.same s,h.md.same s,h.et,h.ok,h.pl,h.lk,h.n1,h.n2,h.n3⟩
theorem Sy.cuts {H:Hp} {C x d dm M R:Addr} {m:Int} {e:En} {vh vp:V} {t:Tb} {n kd:Str} {h0:Int} {cs:List (V × Int)} (h:Sy K H C x m d dm M R e vh vp t n kd h0 cs):qO kd m h0 cs∧Nm n∧aEy kd:=by
 have okp:=h.ok.pl;rw [h.pl] at okp;obtain ⟨hnn,k',hk',hkd,okc⟩:=okp;have:k'=kd:=by have:=h.lk;rw [hk'] at this;exact bAQ this
 subst this;exact ⟨okc,hnn,hkd⟩
theorem Sy.epl {H:Hp} {C x d dm M R:Addr} {m:Int} {e:En} {vh vp:V} {t:Tb} {n kd:Str} {h0:Int} {cs:List (V × Int)} (h:Sy K H C x m d dm M R e vh vp t n kd h0 cs):e.t.pl=.spans n h0 cs∧look e.t.hd n=some kd:=by rw [h.et];exact ⟨h.pl,h.lk⟩
def aL9 (K:bEL) (C:Addr):Sp:=fun vs H Q _=>∃(x d dm:Addr) (m:Int) (e:En) (vl:V) (n kd:Str) (h0:Int) (cs:List (V × Int)),vs=[.ref x,.str e.n,vl]∧cP K H C x m d dm [e]∧e.t.pl=.spans n h0 cs∧look e.t.hd n=some kd∧Vl vl∧rF kd cs vl=false∧∀H',Same H H'→Q (.bl true) H'
theorem yO (T:Txt w K mg) {C CN S:Addr} (hx_NoSpan:ExT K mg mJ "NoSpan" "ShardError.__init__" CN S) (f2:PySem.W.mroIn K CN (.ref CN)=some true) (GMX_Store_split:yH P w K mg base C 6 "split" ["self","name","low"] (vQ K C CN)):Ok P w K mg base 7 "_law_refused" ["_law_store","_law_name","_law_low"] (aL9 K C):=by
 refine Ok.ofV T.zL jU (fun vs H Q E h=>?_) (fun f cdv A outer s H vs Q E hr h=>?_)
 ·obtain ⟨x,d,dm,m,e,vl,n,kd,h0,cs,rfl,_⟩:=h;rfl
 obtain ⟨x,d,dm,m,e,vl,n,kd,h0,cs,rfl,hS,epl,hk,hv,hm,q⟩:=h;obtain ⟨⟨fI,fd,xc,F,B⟩,m_NoSpan,kp,h_NoSpan,over⟩:=hx_NoSpan;refine ⟨_,(aF (aY (i:=3) jU.nd rfl (by trivial) bA) (aF (aUu rfl rfl (by rfl) m_NoSpan h_NoSpan (fun bEP σ₀ E ok=>(aG (jL (aPi ok (GMX_Store_split.mono (by decide)) hr (vv 0) (aB (vv 1) (aB (vv 2) aA)))))) (fun e=>(aG (aY (i:=3) jU.nd rfl (by trivial) bA)))) (aG (aM (cB eU (vv 3) bA (bH _)))))),?_⟩;obtain ⟨dx,hx⟩:=hS.at_;refine ⟨rfl,_,rfl,x,dx,_,rfl,hx,rfl,_,rfl,_,rfl,x,d,dm,m,[],[],e,vl,n,kd,h0,cs,rfl,hS,epl,hk,hv,(fun z=>by rw [hm] at z;cases z),fun _ a H1 s1=>?_⟩;refine ⟨CN,a,fI,rfl,rfl,xc,f2,fun Tb dx' n1 nT hTe hd=>?_⟩;exact ⟨_,rfl,rfl,q _ (s1.trans (aQb n1 nT))⟩
theorem wH {n kd:Str}:∀{hd:Hdr},look hd n=some kd→pX (hd.map fun c=>((Sum.inr c.1:Key),V.str c.2)) (Sum.inr n)=some (.str kd)
 |[],h=>by cases h
 |c::hd,h=>by
  unfold look at h;rw [bAN];rw [bBT] at h;by_cases z:c.1=n
  ·rw [v8 z] at h;cases h;rw [z];exact pW rfl
  ·rw [bAD z] at h;rw [pL fun q=>z (Sum.inr.inj q)];exact wH h
theorem aQ2 {H:Hp} {us:List V} {hd:Hdr} (h:cL (IsC K H) us hd):aIm K H us (hd.map fun c=>((Sum.inr c.1:Key),V.str c.2)):=by
 induction h with
 |nil=>exact .nil
 |cons r _ ih=>obtain ⟨p,e,hp⟩:=r;exact .cons ⟨p,e,hp⟩ ih
theorem aV4 {hd:Hdr} (h:Good hd):((hd.map fun c=>((Sum.inr c.1:Key),V.str c.2)).map (·.1)).Nodup:=by rw [bC0];have h1:=h.1;exact List.pairwise_map.mpr ((List.pairwise_map.mp h1).imp fun {a b} hab z=>hab (Sum.inr.inj z))
theorem aMn {kd:Str} {cs:List (V × Int)} {vl:V} (hv:Vl vl) (hk:aEy kd) (b:Bool) (eb:∀x,vl=.str x→b=true) (ei:∀i,vl=.int i→b=false):(decide (V.bl b=V.bl (decide (V.str kd=V.str "word"))) && (!inV vl (.non::cs.map (·.1)) && decide (cs.length+1<8)))=rF kd cs vl:=by
 have e:decide (V.bl b=V.bl (decide (V.str kd=V.str "word")))=decide (kindS vl=kd):=by
  rcases hv with ⟨i,rfl⟩|⟨x,rfl,h1,h2⟩
  ·rw [ei i rfl,(eY (bJ.num (i:=i))).2];rcases hk with rfl|rfl <;> decide
  ·rw [eb x rfl,(eY (bJ.wrd h1 h2)).2];rcases hk with rfl|rfl <;> decide
 rw [e];unfold rF;cases decide (kindS vl=kd) <;> cases inV vl (.non::cs.map (·.1)) <;> cases decide (cs.length+1<8) <;> rfl
def aDe (K:bEL) (C:Addr):Sp:=fun vs H Q _=>∃(x d dm M R:Addr) (m:Int) (e:En) (vh vp vl:V) (t:Tb) (n kd:Str) (h0:Int) (cs:List (V × Int)),vs=[.ref x,.str e.n,.ref M,vl]∧Sy K H C x m d dm M R e vh vp t n kd h0 cs∧Vl vl ∧
 ∀v' vp1 vp2 cs' H',KP K (fun b=>b≠d∧b≠M) H H'→Sy K H' C x m d dm M R { e with v:=v',vp:=vp1,t:={ e.t with pl:=.spans n h0 cs' } } vh vp2 { t with pl:=.spans n h0 cs' } n kd h0 cs'→Q (.bl true) H'
theorem aB9 (T:Txt w K mg) {C CN:Addr} (qY:Ok P w K mg base 1 "_law_span" ["_law_cuts","_law_value_here"] (aBj K)) (aBo:Ok P w K mg base 7 "_law_refused" ["_law_store","_law_name","_law_low"] (aL9 K C)) (GMX_Store_split:yH P w K mg base C 6 "split" ["self","name","low"] (vQ K C CN)):Ok P w K mg base 8 "_law_split" ["_law_store","_law_name","_law_table","_law_low"] (aDe K C):=by
 have GM_Store_split:OkM P w K mg base C 6 "split" ["self","name","low"] (fun vs H Q _=>vQ K C CN vs H Q E0):=GMX_Store_split.calm fun _ _ _ _ h=>h;refine Ok.ofV T.aE0 cQ (fun vs H Q E h=>?_) (fun f cdv A outer s H vs Q E hr h=>?_)
 ·obtain ⟨x,d,dm,M,R,m,e,vh,vp,vl,t,n,kd,h0,cs,rfl,_⟩:=h;rfl
 obtain ⟨x,d,dm,M,R,m,e,vh,vp,vl,t,n,kd,h0,cs,rfl,hY,hv,q⟩:=h;have hu:=vK hr;obtain ⟨gM,hI,hpl,⟨rs,gR,hrs⟩⟩:=id hY.md;have hpl':=hpl;rw [hY.pl] at hpl';obtain ⟨b,vo,rfl,hb,hcc⟩:=hpl';obtain ⟨cc,us,rfl,hcu,hus⟩:=id hcc;obtain ⟨ha,hus2,rfl,hha,hhu⟩:=id hI;obtain ⟨okc,nmn,kdk⟩:=hY.cuts;have lu:=hus.len;rw [t7] at lu;have few:=okc.few;have l8:=hY.ok.hd.1.2.2;have lh:=hhu.len;refine ⟨_,(aF (wZ (vv 2) (aMy rfl (bI (aQ (i:=4) cQ.nd rfl (by trivial)) (bI (aQ (i:=5) cQ.nd rfl (by trivial)) (bI (aQ (i:=6) cQ.nd rfl (by trivial)) (bI (aQ (i:=7) cQ.nd rfl (by trivial)) gC)))))) (aF (aY (i:=8) cQ.nd rfl (by trivial) (aL aW (vv 5) aC (fun _ _=>rfl))) (aF (aY (i:=9) cQ.nd rfl (by trivial) (aEn hu (cX (zU rfl) (by rfl) T.aE3 yZ (aB (vv 4) aA)) (aL aW (vv 5) aC (fun _ _=>rfl)) (fun _ _=>rfl))) (aF (aY (i:=10) cQ.nd rfl (by trivial) (fJ (cB eU (aO pK (by rfl) T.bQ bM (aB (vv 3) (aB (eQ (v:=.ty "str") (by rfl) T.aSf aJr rfl) aA))) (cB eU (vv 9) bA (bH _)) (bH _)) (fJ (cB pB (vv 3) (cT (N:=["_law_cut"]) (by trivial) (iC (by decide +kernel)) rfl (mL (vv 8)) (fun cl s' H' fp=>⟨(aQ (i:=0) (show (["_law_cut"]:List Str).Nodup from by decide +kernel) rfl (Or.inl rfl)),eX,(aL (cH (K:=K)) (vv 0) aC (fun _ _=>rfl))⟩)) (by with_unfolding_all rfl)) (iD (cB aRy (aO bC (by rfl) T.fQ dI (aB (vv 8) aA)) aC (bH _)))))) (aF (cG (cM (bZ (vv 10))) (aG (aM (aP (aBo.mono (by decide)) hr (by rfl) (aB (vv 0) (aB (vv 1) (aB (vv 3) aA)))))) bB) (aF (aY (i:=11) cQ.nd rfl (by trivial) (aP (qY.mono (by decide)) hr (by rfl) (aB (vv 8) (aB (vv 3) aA)))) (aF (wZ (cV (aB bA (aB (aL aW (vv 5) aC (fun _ _=>rfl)) (aB (bK rH (bK rH (dN rO (vv 8) fX (eO (bK dH (vv 11) aC))) (cV (aB (cV (aB (vv 3) (aB (aL aW (aL aW (vv 8) (vv 11) (fun _ _=>rfl)) aC (fun _ _=>rfl)) aA))) aA))) (dN rO (vv 8) (eO (bK dH (vv 11) aC)) fX)) aA)))) (aQu (vv 2) aC set_list)) (aG (aM (cB aPv (mC (GM_Store_split.mono (by decide)) hr (vv 0) (aB (vv 1) (aB (vv 3) aA))) wC (bH _))))))))))),?_⟩;refine ⟨_,rfl,M,_,rfl,SqL.of gM,rfl,_,_,rfl,_,_,rfl,_,_,rfl,_,_,rfl,rfl,?_⟩;refine ⟨_,rfl,b,_,2,_,rfl,rfl,hb,at2 _ _ _ _,?_⟩;refine ⟨_,rfl,ha,hus2,_,rfl,hha,aQ2 hhu,by lia,fun p H1 hp s1 g1=>?_⟩;rw [nU _ [] (by rw [bCF];exact aV4 hY.ok.hd.1),bCF] at g1;refine ⟨_,rfl,b,_,1,_,rfl,rfl,s1.aV hb,at1 _ _ _,p,.str kd,rfl,.inl ⟨_,Sum.inr n,.inl g1,rfl,(wH hY.lk).symm⟩,?_⟩;have hfl:(((V.non,h0)::cs).map (·.1)).all gU=true:=by rw [bAN,bEK,List.all_eq_true.mpr fun y hy=>?_];rfl;obtain ⟨c',hc',rfl⟩:=List.mem_map.mp hy;exact xY (okc.each c' hc').1
 dsimp only [cO,List.set];refine yV (S:=yI _ _) (fun σ H'=>Same H1 H'∧σ=[some (.ref x),some (.str e.n),some (.ref M),some vl,some (.ref ha),some (.ref b),some (.ref R),some .non,some (.ref cc),some (.str kd),some (.bl (rF kd cs vl)),none]) (fun NX hN=>?_) fun σ' H2 hJ=>?_
 ·rcases id hv with ⟨i,ei⟩|⟨y,ey,hy1,hy2⟩
  ·have kf:=aMn (cs:=cs) hv kdk false (fun x z=>by rw [ei] at z;cases z) (fun _ _=>rfl);have v2:=(zB hv).2;subst ei;refine ⟨_,rfl,_,"str",false,rfl,rfl,_,rfl,rfl,rfl,_,rfl,?_⟩;generalize decide (V.bl false=V.bl (decide (V.str kd=V.str "word")))=Z at kf ⊢;cases Z with
   |false=>refine bY (hN _ _ ⟨Same.refl _,?_⟩);rw [←kf];rfl
   |true=>
    refine dC ⟨_,rfl,?_⟩;refine lK [none] lA ⟨_,rfl,cc,rfl,⟨_,s1.aV hcu⟩,wM (tE fun H' s'=>(s1.trans s').aV hcu) (lO fun H' s'=>(s1.trans s').aV hcu) ⟨none,rfl⟩ (by lia) (((.non,h0)::cs).map (·.1)) (by rw [m7,t7];lia) (fun i x z ex ez H' R' l sm r=>?_) fun D H6 s6 nL gL=>?_⟩
    ·obtain ⟨c',hc',p',rfl,hp'⟩:=cC hus ex;rw [t8,hc'] at ez;cases ez;exact ⟨_,rfl,p',_,0,_,rfl,rfl,(s1.trans sm).aV hp',at0 _ _,r H' (Same.refl _)⟩
    refine ⟨D,_,rfl,.inl (SqL.of gL),v2,hfl,_,rfl,?_⟩;rw [if_pos rfl];rw [Bool.true_and] at kf;have kf:(!inV _ (((V.non,h0)::cs).map (·.1)) && decide (cs.length+1<8))=_:=kf;generalize inV _ (((V.non,h0)::cs).map (·.1))=Y at kf ⊢;cases Y with
    |true=>refine bY (hN _ _ ⟨s6,?_⟩);rw [←kf];rfl
    |false=>refine dC ⟨_,rfl,cc,_,rfl,.inr ((s1.trans s6).aV hcu),_,_,rfl,rfl,hN _ _ ⟨s6,?_⟩⟩;rw [←kf];dsimp only;rw [show decide (((us.length:Nat):Int)<8)=decide (cs.length+1<8) from decide_eq_decide.mpr (by lia)];rfl
  ·have kf:=aMn (cs:=cs) hv kdk true (fun _ _=>rfl) (fun i z=>by rw [ey] at z;cases z);have v2:=(zB hv).2;subst ey;refine ⟨_,rfl,_,"str",true,rfl,rfl,_,rfl,rfl,rfl,_,rfl,?_⟩;generalize decide (V.bl true=V.bl (decide (V.str kd=V.str "word")))=Z at kf ⊢;cases Z with
   |false=>refine bY (hN _ _ ⟨Same.refl _,?_⟩);rw [←kf];rfl
   |true=>
    refine dC ⟨_,rfl,?_⟩;refine lK [none] lA ⟨_,rfl,cc,rfl,⟨_,s1.aV hcu⟩,wM (tE fun H' s'=>(s1.trans s').aV hcu) (lO fun H' s'=>(s1.trans s').aV hcu) ⟨none,rfl⟩ (by lia) (((.non,h0)::cs).map (·.1)) (by rw [m7,t7];lia) (fun i x z ex ez H' R' l sm r=>?_) fun D H6 s6 nL gL=>?_⟩
    ·obtain ⟨c',hc',p',rfl,hp'⟩:=cC hus ex;rw [t8,hc'] at ez;cases ez;exact ⟨_,rfl,p',_,0,_,rfl,rfl,(s1.trans sm).aV hp',at0 _ _,r H' (Same.refl _)⟩
    refine ⟨D,_,rfl,.inl (SqL.of gL),v2,hfl,_,rfl,?_⟩;rw [if_pos rfl];rw [Bool.true_and] at kf;have kf:(!inV _ (((V.non,h0)::cs).map (·.1)) && decide (cs.length+1<8))=_:=kf;generalize inV _ (((V.non,h0)::cs).map (·.1))=Y at kf ⊢;cases Y with
    |true=>refine bY (hN _ _ ⟨s6,?_⟩);rw [←kf];rfl
    |false=>refine dC ⟨_,rfl,cc,_,rfl,.inr ((s1.trans s6).aV hcu),_,_,rfl,rfl,hN _ _ ⟨s6,?_⟩⟩;rw [←kf];dsimp only;rw [show decide (((us.length:Nat):Int)<8)=decide (cs.length+1<8) from decide_eq_decide.mpr (by lia)];rfl
 ·obtain ⟨s2,rfl⟩:=hJ;have s02:=s1.trans s2;refine ⟨_,rfl,_,rfl,?_⟩;cases hm:rF kd cs vl with
  |false=>
   refine dC ⟨_,rfl,_,rfl,_,rfl,x,d,dm,m,e,vl,n,kd,h0,cs,rfl,hY.st.same s02,hY.epl.1,hY.epl.2,hv,hm,fun H3 s3=>?_⟩;have e1:({ e with v:=e.v,vp:=e.vp,t:={ e.t with pl:=.spans n h0 cs } }:En)=e:=by rw [←hY.epl.1]
   have e2:({ t with pl:=.spans n h0 cs }:Tb)=t:=by rw [←hY.pl]
   have hq:=q e.v e.vp (.ref b) cs H3 (.same (s02.trans s3));rw [e1,e2] at hq;exact hq (hY.same (s02.trans s3))
  |true=>
   refine bY ?_;have hm':=hm;unfold rF at hm';rw [bAP,bAP] at hm';have l8':=of_decide_eq_true hm'.1;have okv:=aH3 hv (of_decide_eq_true hm'.2.1);have nin:inV vl (.non::cs.map (·.1))=false:=by simpa using hm'.2.2
   refine ⟨_,rfl,_,rfl,.ref cc,vl,kd,m,h0,cs,rfl,mW.same s02 (fun _ _ z=>z.same s02) hcc,okc,okv,fun H3 s3=>?_⟩;have s03:=s02.trans s3;have hNl:=uI vl cs;have hN':dU vl cs 1 0<us.length:=by lia
   obtain ⟨c0,hc0,pc,epc,hpc⟩:=cC hus (j0 hN');have eA:c0.2=atH vl h0 cs:=by unfold atH;rw [j7,t8,hc0];rfl
   have eI:((.non,h0)::cs).take (dU vl cs 1 0+1)++[(vl,c0.2)]++((.non,h0)::cs).drop (dU vl cs 1 0+1)=(.non,h0)::tL vl h0 cs:=by unfold tL;rw [eA,bD9,List.drop_succ_cons,bCC];rfl
   generalize dU vl cs 1 0=Nn at hNl hN' hc0 eI epc ⊢;have eN:((Nn:Nat):Int)+1=((Nn+1:Nat):Int):=rfl;refine ⟨_,rfl,b,_,1,_,rfl,rfl,s03.aV hb,at1 _ _ _,_,rfl,_,rfl,_,_,rfl,rfl,_,rfl,cc,us,rfl,s03.aV hcu,fun p1 H4 s4 g4=>?_⟩;rw [eN,vM] at g4;have s04:=s03.trans s4;refine ⟨_,rfl,_,rfl,_,rfl,cc,us,_,us[Nn],rfl,rfl,s04.aV hcu,cI (j0 hN'),pc,_,1,_,epc,rfl,s04.aV hpc,at1 _ _ _,by show 2≤sizeLine;decide,fun t1 H5 _ s5 g5=>⟨by show 1≤sizeLine;decide,fun t2 H6 _ s6 g6=>?_⟩⟩;refine ⟨p1,t2,_,_,rfl,rfl,(s5.trans s6).aV g4,SqT.of g6,small (by rw [bAE];show _+1≤1000;lia),fun p7 H7 s7 g7=>?_⟩;have s07:=s04.trans (s5.trans (s6.trans s7));refine ⟨_,rfl,_,rfl,_,_,rfl,rfl,_,rfl,cc,us,rfl,s07.aV hcu,fun p8 H8 s8 g8=>?_⟩;rw [eN,mV] at g8;refine ⟨p7,p8,_,_,rfl,rfl,s8.aV g7,g8,small (by rw [bAC,bAE,bA8];show _+1+_≤1000;lia),fun p9 H9 s9 g9=>?_⟩;have s09:=s07.trans (s8.trans s9);have hks9:mW K H9 (fH K H9) (.ref p9) ((.non,h0)::tL vl h0 cs):=⟨p9,_,rfl,g9,by rw [←eI];have hu9:cL (fH K H9) us ((.non,h0)::cs):=hus.imp fun _ _ z=>z.same s09;exact cL.app (cL.app (aCp hu9 _) (.cons ⟨t1,rfl,SqT.of (s9 _ _ (s8 _ _ (s7 _ _ (s6 _ _ g5))))⟩ .nil)) (zV hu9 _)⟩
   refine ⟨by show 3≤sizeLine;decide,fun t10 H10 _ s10 g10=>?_⟩;have s010:=s09.trans s10;have hks10:=mW.same s10 (fun _ _ z=>z.same s10) hks9;refine ⟨_,rfl,M,_,1,1,rfl,rfl,s010 _ _ gM,rfl,?_⟩;dsimp only [List.set];have nMd:M≠d:=fun z=>by have:=hY.st.ens.at_;rw [←z,gM] at this;cases this
   have kM:KP K (fun b=>b≠d∧b≠M) H10 (L2.upd H10 M (.lst [.ref ha,.ref t10,.ref R,.non])):=.mU (s010 _ _ gM) fun z=>z.2 rfl;have kM':KP K (fun b=>b≠M) H10 (L2.upd H10 M (.lst [.ref ha,.ref t10,.ref R,.non])):=.mU (s010 _ _ gM) fun z=>z rfl;have gM11:L2.upd H10 M (.lst [.ref ha,.ref t10,.ref R,.non]) M=some (.lst [.ref ha,.ref t10,.ref R,.non]):=aH;have st10:=hY.st.same s010;have st11:cP K (L2.upd H10 M (.lst [.ref ha,.ref t10,.ref R,.non])) C x m d dm [e]:=by
    obtain ⟨dx,hx⟩:=st10.at_;have nx:x≠M:=fun z=>by rw [z,s010 _ _ gM] at hx;cases hx
    have nm':dm≠M:=fun z=>by have:=st10.mv;rw [z,s010 _ _ gM] at this;cases this
    exact ⟨⟨dx,kM'.st _ _ nx hx⟩,st10.ens.kp kM' nMd.symm (fun y hy=>by rw [List.mem_singleton.mp hy];exact hY.n3),st10.ok,kM'.st _ _ nm' st10.mv⟩
   have hI11:jR K (L2.upd H10 M (.lst [.ref ha,.ref t10,.ref R,.non])) (.ref ha) t.hd:=(hI.same s010).tk kM'.tk;have hpl11:oW K (L2.upd H10 M (.lst [.ref ha,.ref t10,.ref R,.non])) (.ref t10) (.spans n h0 (tL vl h0 cs)):=oW.tk (pl:=.spans n h0 (tL vl h0 cs)) kM'.tk ⟨t10,.ref p9,rfl,SqT.of g10,hks10⟩;have hR11:dJ K (L2.upd H10 M (.lst [.ref ha,.ref t10,.ref R,.non])) R t.rows:=(hY.md.2.2.2.same s010).kp kM' hY.n1.symm;generalize L2.upd H10 M (.lst [.ref ha,.ref t10,.ref R,.non])=H11 at kM kM' gM11 st11 hI11 hpl11 hR11 ⊢;obtain ⟨dx,hx11⟩:=st11.at_;refine ⟨_,rfl,x,dx,_,rfl,hx11,rfl,_,rfl,_,rfl,x,d,dm,m,[],[],e,vl,n,kd,h0,cs,rfl,st11,hY.epl.1,hY.epl.2,hv,(fun _ v' vp' H12 k12 st12=>⟨rfl,?_⟩),fun z=>by rw [hm] at z;cases z⟩;have nRd:R≠d:=fun z=>by have:=hY.st.ens.at_;rw [←z,gR] at this;cases this
   refine q v' vp' (.ref t10) (tL vl h0 cs) H12 ((KP.same s010).trans (kM.trans (k12.mono fun b h=>h.1))) ⟨st12,⟨k12.st _ _ nMd gM11,hI11.tk k12.tk,hpl11.tk k12.tk,hR11.kp k12 nRd⟩,?_,⟨hY.ok.hd,⟨nmn,kd,hY.lk,kdk,aL0 okc okv l8' nin⟩,hY.ok.few,hY.ok.rows⟩,rfl,hY.lk,hY.n1,hY.n2,hY.n3⟩;rw [hY.et]
end
end My
namespace PySem.SeqAt
open PySem PySem.Spec
end PySem.SeqAt
namespace L2
open PySem PySem.Spec PyProof.Rows
section
variable {X:Cx}
theorem aM9 {K:bEL} {H:Hp}:∀{r:List V},(∀x∈r,(∃i,x=.int i)∨∃z,x=.str z)→∀n,Al2 (DEq K H n) r r
 |[],_,_=>.nil
 |x::r,h,n=>.cons (by rcases h x t6 with ⟨i,rfl⟩|⟨z,rfl⟩ <;> cases n <;> first|exact ⟨rfl,rfl⟩|exact .inl ⟨rfl,rfl⟩) (aM9 (fun y hy=>h y (m8 _ hy)) n)
theorem aSp {K:bEL} {H:Hp} {us ws:List V} {rs:List (List V)} (h1:Al2 (mZ K H) us rs) (h2:Al2 (mZ K H) ws rs) (hf:∀r∈rs,∀x∈r,(∃i,x=.int i)∨∃z,x=.str z):Al2 (DEq K H 40) us ws:=by refine Al2.of (h1.len.trans h2.len.symm) fun i u w e1 e2=>?_;obtain ⟨r,er,a,rfl,ha⟩:=h1.at e1;obtain ⟨r',er',b,rfl,hb⟩:=h2.at e2;rw [er] at er';cases er';exact .inr ⟨a,b,r,r,rfl,rfl,ha,hb,aM9 (hf r (w6 er)) 39⟩
def aVn (K:bEL):R2:=fun x y H Q=>∃(a b:Addr) (us ws:List V) (rs:List (List V)),x=.ref a∧y=.ref b∧SqL K H a us∧SqL K H b ws∧Al2 (mZ K H) us rs∧Al2 (mZ K H) ws rs∧(∀r∈rs,∀x∈r,(∃i,x=.int i)∨∃z,x=.str z)∧Q (.bl false) H
theorem aCx (hu:X.A.units+64<cLine):OpR X (compareOp .NotEq) (aVn X.K):=by
 intro bEP s σ H x y v u Q I rx ry h;obtain ⟨a,b,us,ws,rs,rfl,rfl,ha,hb,h1,h2,hf,q⟩:=h;cases rx;cases ry;obtain ⟨its,r1,pl,hz⟩:=I.list ha;obtain ⟨jts,r2,pm,hw⟩:=I.list hb;have d:=aSp h1 h2 hf;have l:=d.len;have l1:=r1.length;have l2:=r2.length;refine SeqAt.RcNeAt.lists (e:=fun _=>true) pl.isList pm.isList (by rw [j9,j9];lia) (by lia) (tV I r1 r2 d fun d q1 q2=>vZ I 40 d q1 q2 (by show X.A.units+1+40<cLine;lia)) _ _ _ _ ?_;first
  |(rw [vY];exact ⟨.bl _,H,I,rfl,q⟩)
  |(simp only [vY];exact ⟨.bl _,H,I,rfl,q⟩)
end
end L2
namespace PySem
section
variable {prog:Program} {w:World} {κ:Type} [DecidableEq κ] {knd:KeyKind prog w κ} {A:Around} {E:bEM} {s:Shared}
open PySem.Spec PySem.Calls PyProof.Rows L2
end
end PySem
namespace L2
open PySem PySem.Spec PyProof.Rows
section
variable {X:Cx}
end
section
variable {P:Program} {w:World}
open AutoSeq1 (wpAny_loadPart')
open MeetsSeq MeetsSeq2 MeetsSeq3
end
section
variable {X:Cx} {bEP:bEN} {σ:L2.St} {H:Hp} {s:Shared}
end
end L2
namespace PySem
namespace LR
end LR
section
variable {prog:Program} {w:World} {A:Around} {E:bEM} {s:Shared}
open PySem.Calls PyProof.Rows
end
end PySem
namespace L2
open PySem PySem.Spec PyProof.Rows
section
variable {X:Cx}
def aX8 (K:bEL):R2:=fun x y H Q=>∃(a b:Addr) (us:List V),x=.ref a∧y=.ref b∧SqL K H a us∧SqL K H b []∧Q (.bl (!us.isEmpty)) H
theorem aSr (hu':X.A.units+64<cLine):OpR X (compareOp .NotEq) (aX8 X.K):=by
 intro bEP s σ H x y v u Q I rx ry h;have hu:X.A.units<cLine:=by lia
 obtain ⟨a,b,us,rfl,rfl,ha,hb,q⟩:=h;cases rx;cases ry;obtain ⟨its,r1,pl,hz⟩:=I.list ha;obtain ⟨jts,r2,pm,hw⟩:=I.list hb;cases r2;cases r1 with
 |nil=>refine SeqAt.RcNeAt.lists (e:=fun _=>true) pl.isList pm.isList rfl hu (fun j h1 h2=>by simp at h1) _ _ _ _ ?_;exact ⟨.bl _,H,I,rfl,q⟩
 |cons r t=>exact SeqAt.RcNeAt.lists_lengths pl.isList pm.isList (by simp) hu _ _ _ _ ⟨.bl _,H,I,rfl,q⟩
end
end L2
namespace My
open PySem PySem.Spec PyProof.Rows L2
section
variable {P:Program} {w:World} {K:bEL} {mg:bEO} {base:Heap}
theorem aZ4 {H H':Hp} {a:Addr} (h:jZ H a) (k:∀o,H a=some o→H' a=some o):jZ H' a:=by obtain ⟨s,e,r⟩:=h;exact ⟨s,k _ e,r⟩
theorem Sy.kp {S:Addr→Prop} {H H':Hp} {C x d dm M R:Addr} {m:Int} {e:En} {vh vp:V} {t:Tb} {n kd:Str} {h0:Int} {cs:List (V × Int)} (k:KP K S H H') (sx:S x) (sd:S d) (sm:S dm) (sM:S M) (sR:S R) (sL:S e.L) (h:Sy K H C x m d dm M R e vh vp t n kd h0 cs):Sy K H' C x m d dm M R e vh vp t n kd h0 cs:=
 ⟨⟨let ⟨dx,h1⟩:=h.st.at_;⟨dx,k.st _ _ sx h1⟩,h.st.ens.kp k sd (fun y hy=>by rw [List.mem_singleton.mp hy];exact sL),h.st.ok,k.st _ _ sm h.st.mv⟩,⟨k.st _ _ sM h.md.1,h.md.2.1.tk k.tk,h.md.2.2.1.tk k.tk,h.md.2.2.2.kp k sR⟩,h.et,h.ok,h.pl,h.lk,h.n1,h.n2,h.n3⟩
theorem Sy.fx {H H':Hp} {a C x d dm M R:Addr} {m:Int} {e:En} {vh vp:V} {t:Tb} {n kd:Str} {h0:Int} {cs:List (V × Int)} (f:Fx a H H') (ha:jZ H a) (nM:M≠a) (nR:R≠a) (nL:e.L≠a) (h:Sy K H C x m d dm M R e vh vp t n kd h0 cs):Sy K H' C x m d dm M R e vh vp t n kd h0 cs:=by
 obtain ⟨sv,hs,_⟩:=id ha;obtain ⟨dx,hx⟩:=h.st.at_;refine h.kp (S:=fun b=>b≠a) (KP.fx f ha fun z=>z rfl) (fun z=>?_) (fun z=>?_) (fun z=>?_) nM nR nL
 ·rw [z,hs] at hx;cases hx
 ·have:=h.st.ens.at_;rw [z,hs] at this;cases this
 ·have:=h.st.mv;rw [z,hs] at this;cases this
structure LI (K:bEL) (H:Hp) (C x:Addr) (m:Int) (d dm M R N W Pt st:Addr) (nms:List Str) (xs:List V) (e:En) (vh vp:V) (t:Tb) (n kd:Str) (h0:Int) (cs:List (V × Int)) (k:Nat):Prop where
 s:jZ H st
 y:Sy K H C x m d dm M R e vh vp t n kd h0 cs
 nm:some e.n=nms[0]?
 fw:t.rows.length≤k
 gN:H N=some (.lst (nms.map V.str))
 gW:H W=some (.lst xs)
 gP:H Pt=some (.tab qC)
 nM:M≠st
 nR:R≠st
 nL:e.L≠st
 nN:N≠st
 nW:W≠st
section
variable {H H':Hp} {C x d dm M R N W Pt st:Addr} {m:Int} {nms:List Str} {xs:List V} {e:En} {vh vp:V} {t:Tb} {n kd:Str} {h0:Int} {cs:List (V × Int)} {k:Nat}
theorem LI.same (s:Same H H') (h:LI K H C x m d dm M R N W Pt st nms xs e vh vp t n kd h0 cs k):LI K H' C x m d dm M R N W Pt st nms xs e vh vp t n kd h0 cs k:=⟨h.s.same s,h.y.same s,h.nm,h.fw,s _ _ h.gN,s _ _ h.gW,s _ _ h.gP,h.nM,h.nR,h.nL,h.nN,h.nW⟩
theorem LI.nP (h:LI K H C x m d dm M R N W Pt st nms xs e vh vp t n kd h0 cs k):Pt≠st:=fun z=>by obtain ⟨_,e,_⟩:=h.s;have:=h.gP;rw [z,e] at this;cases this
theorem LI.fx (f:Fx st H H') (h:LI K H C x m d dm M R N W Pt st nms xs e vh vp t n kd h0 cs k):LI K H' C x m d dm M R N W Pt st nms xs e vh vp t n kd h0 cs k:=⟨f.st,h.y.fx f h.s h.nM h.nR h.nL,h.nm,h.fw,f.same _ _ h.nN h.gN,f.same _ _ h.nW h.gW,f.same _ _ h.nP h.gP,h.nM,h.nR,h.nL,h.nN,h.nW⟩
theorem LI.mono {j:Nat} (hj:k≤j) (h:LI K H C x m d dm M R N W Pt st nms xs e vh vp t n kd h0 cs k):LI K H C x m d dm M R N W Pt st nms xs e vh vp t n kd h0 cs j:=⟨h.s,h.y,h.nm,bAR h.fw hj,h.gN,h.gW,h.gP,h.nM,h.nR,h.nL,h.nN,h.nW⟩
end
theorem aY7 {H0 H H':Hp} {a st:Addr} {xs:List V} (hn:H0 st=none) (s:Same H0 H) (f:Fx st H H') (h:SqL K H0 a xs):SqL K H' a xs:=by
 rcases h with (h|⟨o,h⟩)|h
 ·exact .inl (.inl (f.same _ _ (aU h hn) (s _ _ h)))
 ·exact .inl (.inr ⟨o,f.same _ _ (aU h hn) (s _ _ h)⟩)
 ·exact .inr h
theorem aNw {H:Hp} {us ws:List V} {cs:List (V × Int)} (hf:∀c∈cs,gU c.1=true) (h:cL (fH K H) us cs) (h':cL (fH K H) ws cs):Al2 (DEq K H 39) us ws:=by
 induction h generalizing ws with
 |nil=>cases h';exact .nil
 |cons r _ ih=>
  cases h' with
  |cons r' t'=>obtain ⟨p,rfl,hp⟩:=r;obtain ⟨p',rfl,hp'⟩:=r';exact .cons (.inr ⟨p,p',_,_,rfl,rfl,hp,hp',.cons (.inl ⟨hf _ t6,rfl⟩) (.cons (.inl ⟨rfl,rfl⟩) .nil)⟩) (ih (fun c hc=>hf c (m8 _ hc)) t')
theorem aT9 {H:Hp} {v v':V} {n kd:Str} {m h0:Int} {cs:List (V × Int)} (h:oW K H v (.spans n h0 cs)) (h':oW K H v' (.spans n h0 cs)) (ok:qO kd m h0 cs):∃a b xs ys,v=.ref a∧v'=.ref b∧SqT K H a xs∧SqT K H b ys∧Al2 (DEq K H 40) xs ys:=by
 obtain ⟨a,vc,rfl,ha,⟨c,us,rfl,hc,hu⟩⟩:=h;obtain ⟨b,vd,rfl,hb,⟨c',ws,rfl,hc',hw⟩⟩:=h';refine ⟨a,b,_,_,rfl,rfl,ha,hb,.cons (.inl ⟨rfl,rfl⟩) (.cons (.inl ⟨rfl,rfl⟩) (.cons (.inr ⟨c,c',us,ws,rfl,rfl,hc,hc',aNw (fun x hx=>?_) hu hw⟩) .nil))⟩;rcases List.mem_cons.mp hx with rfl|hx
 ·rfl
 ·exact xY (ok.each x hx).1
theorem aPk {ks:List Bool} {rs:List (List V)} (h:∀r∈rs,KdR ks r):srt (srt rs)=srt rs:=(aHo h (lB h).1.symm).symm
def aL7 (K:bEL) (Pt:Addr):Sp:=fun vs H Q _=>∃(a:Addr) (ns:List Int),vs=[.ref a]∧SqL K H a (ns.map V.int)∧ns.length≤63∧H Pt=some (.tab qC)∧∀H',H' Pt=some (.tab qC)→Q (.bl true) H'
theorem aYd {f:Addr} {fd:FuncData} (F:Fun K "law" "law" aNb f fd) (T:Txt w K mg) {C Ct Pt:Addr} (aGp:Ok P w K mg base 1 "_law_seed" ["_law_script"] (aL8 K)) (aD6:Ok P w K mg base 2 "_law_names" ["_law_state","_law_many"] aPu) (aR:Ok P w K mg base 1 "_law_next" ["_law_state","_law_many"] oN) (iQ:Ok P w K mg base 3 "_law_value" ["_law_state","_law_kind"] zF) (tY:Ok P w K mg base 4 "_law_row" ["_law_state","_law_head_here"] (aD1 K)) (qD:Ok P w K mg base 1 "_law_spot" ["_law_head_here","_law_name"] (rA K)) (uA:Ok P w K mg base 13 "_law_spans_begun" ["_law_state","_law_names_here","_law_most"] (aJd K C Pt)) (aD7:Ok P w K mg base 8 "_law_split" ["_law_store","_law_name","_law_table","_law_low"] (aDe K C)) (aD4:Ok P w K mg base 2 "_law_stood" ["_law_table","_law_houses","_law_house"] (aC1 K)) (GM_Store_put:OkM P w K mg base C 5 "put" ["self","name","row"] (aR2 K C)) (GM_Store_town:OkM P w K mg base C 13 "town" ["self"] (aNi K C Ct Pt)) (GM_Store_stands:OkM P w K mg base C 5 "stands" ["self","name","house"] (aA9 K C)) (GM_Town_placing:OkM P w K mg base Ct 4 "placing" ["self","name"] (aAf K Ct)) (GM_Town_whole:OkM P w K mg base Ct 4 "whole" ["self","name"] (vD K Ct)):fV P w K mg base CX0 15 f fd ["_law_script"] (aL7 K Pt):=by
 refine Fun.okV F iV (fun vs H Q E h=>?_) (fun cdv A outer s H vs Q E hr h=>?_)
 ·obtain ⟨a,ns,rfl,_⟩:=h;rfl
 obtain ⟨a,ns,rfl,ha,hn,hPt,q⟩:=h;have hU:=hr.units;have hu:=vK hr;refine ⟨_,(aF (aY (i:=1) iV.nd rfl (by trivial) (dM (aB (aP (aGp.mono (by decide)) hr (by rfl) (aB (vv 0) aA)) aA))) (aF (aY (i:=2) iV.nd rfl (by trivial) (aP (aD6.mono (by decide)) hr (by rfl) (aB (vv 1) (aB aC aA)))) (aF (wZ (aP (uA.mono (by decide)) hr (by rfl) (aB (vv 1) (aB (vv 2) (aB aC aA)))) (aAw rfl (bI (aQ (i:=3) iV.nd rfl (by trivial)) (bI (aQ (i:=4) iV.nd rfl (by trivial)) (bI (aQ (i:=5) iV.nd rfl (by trivial)) gC))))) (aF (jD PassesOwn.never rfl (kJ (bK aBv (dM (aB aC aA)) (dN aHt (vv 0) fX (eO aC)))) (aQ (i:=6) iV.nd rfl (by trivial)) (aF (aY (i:=1) iV.nd rfl (by trivial) (dM (aB (bK dH (aL bV (vv 1) aC (fun _ _=>rfl)) (bK qK (vv 6) (bK aFp aC aC))) aA))) (aF (cG (bR eU (aP (aR.mono (by decide)) hr (by rfl) (aB (vv 1) (aB aC aA))) aC (bH _)) (aF (aY (i:=7) iV.nd rfl (by trivial) (aP (tY.mono (by decide)) hr (by rfl) (aB (vv 1) (aB (aL bV (vv 4) aC (fun _ _=>rfl)) aA)))) (aF (jL (mC (GM_Store_put.mono (by decide)) hr (vv 3) (aB (aL bV (vv 2) aC (fun _ _=>rfl)) (aB (vv 7) aA)))) (aG (jL (aA8 PySem.F.plainAttrs_list PySem.F.slot_list_append PySem.F.type_list_append pC (aL bV (vv 4) aC (fun _ _=>rfl)) (aB (vv 7) aA)))))) bB) (aF (aY (i:=8) iV.nd rfl (by trivial) (aP (iQ.mono (by decide)) hr (by rfl) (aB (vv 1) (aB (aL bV (dM (aB bA (aB bA (aB (aEn hu (cX (zU rfl) (by rfl) T.aE3 yZ (aB (aL bV (vv 4) aC (fun _ _=>rfl)) aA)) (aL aW (aL bV (vv 4) aC (fun _ _=>rfl)) aC (fun _ _=>rfl)) (fun _ _=>rfl)) aA)))) (aP (aR.mono (by decide)) hr (by rfl) (aB (vv 1) (aB aC aA))) (fun _ _=>rfl)) aA)))) (aF (cG (VW.pt (aYe (bR (aSr hU) (aL bV (vv 4) aC (fun _ _=>rfl)) (dM aA) (bH _)) (aTa (bR eU (aP (aR.mono (by decide)) hr (by rfl) (aB (vv 1) (aB aC aA))) aC (bH _))))) (aG (aY (i:=8) iV.nd rfl (by trivial) (aL aW (aL bV (aL bV (vv 4) aC (fun _ _=>rfl)) (aP (aR.mono (by decide)) hr (by rfl) (aB (vv 1) (aB (aO bC (by rfl) T.fQ dI (aB (aL bV (vv 4) aC (fun _ _=>rfl)) aA)) aA))) (fun _ _=>rfl)) (aP (qD.mono (by decide)) hr (by rfl) (aB (aL bV (vv 4) aC (fun _ _=>rfl)) (aB (aL aW (aL bV (vv 4) aC (fun _ _=>rfl)) aC (fun _ _=>rfl)) aA))) (fun _ _=>rfl)))) bB) (aF (cG (cM (bZ (aP (aD7.mono (by decide)) hr (by rfl) (aB (vv 3) (aB (aL bV (vv 2) aC (fun _ _=>rfl)) (aB (vv 4) (aB (vv 8) aA))))))) (aG (aM jX)) bB) (aF (aY (i:=9) iV.nd rfl (by trivial) (aP7 (GM_Store_town.mono (by decide)) hr (vv 3))) (aF (cG (VW.pt (iU (bR (aXp hU) (mC (GM_Town_placing.mono (by decide)) hr (vv 9) (aB (aL bV (vv 2) aC (fun _ _=>rfl)) aA)) (aL bV (vv 4) aC (fun _ _=>rfl)) (bH _)) (gG (bR (aCx hU) (mC (GM_Town_whole.mono (by decide)) hr (vv 9) (aB (aL bV (vv 2) aC (fun _ _=>rfl)) aA)) (aO gF (by rfl) T.jQ gK (aB (aL bV (vv 4) aC (fun _ _=>rfl)) aA)) (bH _))))) (aG (aM jX)) bB) (aG (jD PassesOwn.never rfl (gJ (by rfl) T.jY (aB (vv 5) aA)) (aQ (i:=10) iV.nd rfl (by trivial)) (aG (cG (bR (aCx hU) (mC (GM_Store_stands.mono (by decide)) hr (vv 3) (aB (aL bV (vv 2) aC (fun _ _=>rfl)) (aB (vv 10) aA))) (aP (aD4.mono (by decide)) hr (by rfl) (aB (vv 4) (aB (vv 5) (aB (vv 10) aA)))) (bH _)) (aG (aM jX)) bB)))))))))))) (aG (aM jX)))))),?_⟩;refine ⟨_,rfl,a,ns,rfl,ha,hn,fun c0 H1 s1 _ _=>⟨by show 1≤sizeLine;decide,fun st H2 hst s2 g2=>?_⟩⟩;have hSt:jZ H2 st:=⟨c0,g2,trivial⟩;refine ⟨_,rfl,st,rfl,hSt,fun N H3 nms f3 hN0 gN hnm=>?_⟩;have nNs:N≠st:=hSt.ne hN0;have hP2:=s2 _ _ (s1 _ _ hPt);have nPs:Pt≠st:=fun z=>by rw [z,g2] at hP2;cases hP2
 have hP3:=f3.same _ _ nPs hP2;refine ⟨_,rfl,_,rfl,st,N,nms,rfl,f3.st,gN,nNs,hnm,hP3,fun t x M R d dm m vh vp tb e n h0 cs H4 f4 ht hM hS hn0 het hok lr8 hpl m2 m4 nM0 nR0 nL0 nMR nLR nLM=>?_⟩;refine ⟨t,_,rfl,ht,rfl,_,_,rfl,_,_,rfl,_,_,rfl,rfl,?_⟩;have f24:=f3.trans f4;obtain ⟨n0,hn0'⟩:∃n0,nms[0]?=some n0:=⟨_,hn0.symm⟩;have okp:=hok.pl;rw [hpl] at okp;obtain ⟨hnn,kd,hlk,hkd,okc⟩:=okp;have gN4:=f4.same _ _ nNs gN;have hP4:=f4.same _ _ nPs hP3;have nNM:N≠M:=aU gN nM0;have nNR:N≠R:=aU gN nR0;refine ⟨by show 1≤sizeLine;decide,fun z5 H5 hz5 s5 g5=>?_⟩;have ha5:SqL K H5 a (ns.map V.int):=s5.seq (aY7 hst s2 f24 (s1.seq ha));refine ⟨_,rfl,_,rfl,a,ns.map V.int,rfl,ha5,fun p6 H6 hp6 s6 g6=>?_⟩;rw [show pJ (ns.map V.int) none (some 16)=(ns.map V.int).take 16 from vM _ 16] at g6;have l16:((ns.map V.int).take 16).length≤16:=by rw [bAE];lia
 refine ⟨z5,p6,_,_,rfl,rfl,s6 _ _ g5,g6,small (by show 1+_≤1000;lia),fun W H7 hW s7 g7=>?_⟩;have s47:=s5.trans (s6.trans s7);obtain ⟨xs,exs⟩:∃xs,xs=[V.int 0]++(ns.map V.int).take 16:=⟨_,rfl⟩;have hxi:∀y∈xs,∃c,y=.int c:=fun y hy=>by
  rw [exs] at hy;rcases List.mem_append.mp hy with hy|hy
  ·exact ⟨0,List.mem_singleton.mp hy⟩
  ·obtain ⟨c,_,rfl⟩:=List.mem_map.mp (bD3 hy);exact ⟨c,rfl⟩
 have lxs:xs.length≤17:=by rw [exs,bAC];show 1+_≤17;lia
 have g7:H7 W=some (.lst xs):=by rw [exs];exact g7
 have hM6:=(s5.trans s6) _ _ hM.1;have nWM:W≠M:=(aU hM6 hW).symm;have nWR:W≠R:=by obtain ⟨us,gR,_⟩:=hM.2.2.2;exact (aU ((s5.trans s6) _ _ gR) hW).symm
 have nWs:W≠st:=((f4.st.same s5).same s6).ne hW;have li0:LI K H7 C x m d dm M R N W Pt st nms xs e vh vp tb n kd h0 cs 8:=⟨f4.st.same s47,⟨hS.same s47,hM.same s47,het,hok,hpl,hlk,nMR,nLR,nLM⟩,hn0,lr8,s47 _ _ gN4,g7,s47 _ _ hP4,f3.st.ne nM0,f3.st.ne nR0,f3.st.ne nL0,nNs,nWs⟩;refine ⟨W,rfl,⟨_,SqL.of g7⟩,aHl (xs:=xs) (fun i σ H'=>∃(st:Addr) (e:En) (vp:V) (t:Tb) (cs:List (V × Int)) (l6 l7 l8 l9 l10:Option V),LI K H' C x m d dm M R N W Pt st nms xs e vh vp t n kd h0 cs (8+i)∧σ=[some (.ref a),some (.ref st),some (.ref N),some (.ref x),some (.ref M),some (.int m),l6,l7,l8,l9,l10]) ⟨st,e,vp,tb,cs,none,none,none,none,none,li0,rfl⟩ (fun i σ H' _ p=>by obtain ⟨st,e,vp,t,cs,l6,l7,l8,l9,l10,li,_⟩:=p;exact SqL.of li.gW) (fun i y σ H8 ey p=>?_) fun σ H8 p=>?_⟩
 ·obtain ⟨st,e,vp,t,cs,l6,l7,l8,l9,l10,li,rfl⟩:=p;obtain ⟨c,rfl⟩:=hxi y (w6 ey);have hi:i<xs.length:=(List.getElem?_eq_some_iff.mp ey).1;obtain ⟨sv,gst,_⟩:=li.s;refine ⟨_,rfl,st,_,0,_,rfl,rfl,SqL.of gst,at0 _ _,_,rfl,_,_,rfl,rfl,⟨by decide,by decide,by decide⟩,_,_,rfl,rfl,(by show (0:Int)<10 ^ 18;decide),_,_,rfl,rfl,by show 1≤sizeLine;decide,fun st2 H9 hst2 s9 g9=>?_⟩;have fr:∀{b o},H8 b=some o→b≠st2:=fun h=>aU h hst2;have li9:LI K H9 C x m d dm M R N W Pt st2 nms xs e vh vp t n kd h0 cs (8+i):=by have l:=li.same s9;obtain ⟨us,gR,_⟩:=li.y.md.2.2.2;obtain ⟨_,_,_,_,_,⟨us2,gL,_⟩⟩:=li.y.st.ens.tb e t6;exact ⟨⟨_,g9,trivial⟩,l.y,l.nm,l.fw,l.gN,l.gW,l.gP,fr li.y.md.1,fr gR,fr gL,fr li.gN,fr li.gW⟩
  clear li gst fr;dsimp only [cO,List.set];refine yV (S:=aN6 _ _ _) (fun σ H'=>∃(e:En) (t:Tb) (l7:Option V),LI K H' C x m d dm M R N W Pt st2 nms xs e vh vp t n kd h0 cs (9+i)∧σ=[some (.ref a),some (.ref st2),some (.ref N),some (.ref x),some (.ref M),some (.int m),some (.int c),l7,l8,l9,l10]) (fun NX hN=>?_) fun σ' H' hJ=>?_
  ·refine ⟨_,rfl,st2,4,rfl,li9.s,by decide,fun z4 H10 f10 _ _=>⟨rfl,_,rfl,?_⟩⟩;have li10:=li9.fx f10;cases decide (V.int z4=V.int 0) with
   |false=>exact bY (hN _ _ ⟨e,t,_,li10.mono (by lia),rfl⟩)
   |true=>
    refine dC ?_;obtain ⟨gM,hI,hpl',⟨us,gR,hus⟩⟩:=id li10.y.md;refine ⟨_,rfl,_,rfl,M,_,0,_,rfl,rfl,SqL.of gM,at0 _ _,st2,vh,t.hd,rfl,li10.s,hI,li10.y.ok.hd,fun tr H11 r f11 g11 hkr=>?_⟩;have li11:=li10.fx f11;obtain ⟨dx,hx11⟩:=li11.y.st.at_;have eL:=li11.y.et;have lR:e.t.rows.length<60:=by rw [eL];show (srt t.rows).length<60;rw [aE4];have:=li11.fw;lia
    refine ⟨_,rfl,x,dx,_,rfl,hx11,rfl,_,rfl,N,_,0,.str e.n,rfl,rfl,SqL.of li11.gN,cI (j:=0) (by rw [t8,←li11.nm];rfl),_,rfl,x,d,dm,m,[],[],e,.ref tr,r,rfl,li11.y.st,⟨tr,rfl,SqT.of g11⟩,by rw [eL];exact hkr,lR,fun v L H12 k12 hL12 hS12=>?_⟩;have gM11:=li11.y.md.1;have nMd:M≠d:=fun z=>by have:=li11.y.st.ens.at_;rw [←z,gM11] at this;cases this
    obtain ⟨us,gR,hus⟩:=id li11.y.md.2.2.2;have nRd:R≠d:=fun z=>by have:=li11.y.st.ens.at_;rw [←z,gR] at this;cases this
    have nNd:N≠d:=fun z=>by have:=li11.y.st.ens.at_;rw [←z,li11.gN] at this;cases this
    have nWd:W≠d:=fun z=>by have:=li11.y.st.ens.at_;rw [←z,li11.gW] at this;cases this
    have nPd:Pt≠d:=fun z=>by have:=li11.y.st.ens.at_;rw [←z,li11.gP] at this;cases this
    have nsd:st2≠d:=fun z=>by obtain ⟨_,e1,_⟩:=li11.s;have:=li11.y.st.ens.at_;rw [←z,e1] at this;cases this
    have gR12:=k12.st _ _ nRd gR;have lus:=hus.len;refine ⟨_,rfl,M,_,2,_,rfl,rfl,SqL.of (k12.st _ _ nMd gM11),at2 _ _ _ _,.inl ⟨rfl,_,SqL.of gR12⟩,_,rfl,R,_,_,rfl,rfl,gR12,nF (by have:=li11.fw;lia),?_⟩;have kR:KP K (fun b=>b≠R) H12 (L2.upd H12 R (.lst (us++[.ref tr]))):=.mU gR12 fun z=>z rfl;have gR13:L2.upd H12 R (.lst (us++[.ref tr])) R=some (.lst (us++[.ref tr])):=aH;generalize L2.upd H12 R (.lst (us++[.ref tr]))=H13 at kR gR13 ⊢;obtain ⟨dx12,hx12⟩:=hS12.at_;have nxR:x≠R:=fun z=>by rw [z,gR12] at hx12;cases hx12
    have ndR:d≠R:=nRd.symm;have nmR:dm≠R:=fun z=>by have:=hS12.mv;rw [z,gR12] at this;cases this
    have nLR':L≠R:=(aU gR hL12).symm;have nLM':L≠M:=(aU gM11 hL12).symm;have hS13:cP K H13 C x m d dm ([]++[{ e with v:=v,L:=L,t:={ e.t with rows:=srt (e.t.rows++[r]) } }]):=⟨⟨dx12,kR.st _ _ nxR hx12⟩,hS12.ens.kp kR ndR (fun y hy=>by rw [List.mem_singleton.mp hy];exact nLR'),hS12.ok,kR.st _ _ nmR hS12.mv⟩;have tk:=fun p xs (h:SqT K H11 p xs)=>kR.tk p xs (k12.tk p xs h);have hkd':∀y∈t.rows++[r],KdR (knds t.hd) y:=fun y hy=>by
     rcases List.mem_append.mp hy with hy|hy
     ·exact aAr (li11.y.ok.rows y hy)
     ·rw [List.mem_singleton.mp hy];exact aAr hkr
    have es:srt (e.t.rows++[r])=srt (t.rows++[r]):=by rw [eL];exact (aHo hkd' ((lB fun y hy=>aAr (li11.y.ok.rows y hy)).1.symm.append_right [r])).symm
    refine hN _ _ ⟨_,{ t with rows:=t.rows++[r] },_,⟨aZ4 li11.s fun o h=>kR.st _ _ (fun z=>li11.nR z.symm) (k12.st _ _ nsd h),⟨hS13,⟨kR.st _ _ li11.y.n1 (k12.st _ _ nMd gM11),li11.y.md.2.1.tk tk,li11.y.md.2.2.1.tk tk,_,gR13,cL.app (hus.imp fun _ _ ⟨p,e,hp⟩=>⟨p,e,tk _ _ hp⟩) (.cons ⟨tr,rfl,tk _ _ (SqT.of g11)⟩ .nil)⟩,?_,⟨li11.y.ok.hd,li11.y.ok.pl,?_,?_⟩,li11.y.pl,li11.y.lk,li11.y.n1,nLR',nLM'⟩,li11.nm,?_,kR.st _ _ nNR (k12.st _ _ nNd li11.gN),kR.st _ _ nWR (k12.st _ _ nWd li11.gW),kR.st _ _ ?_ (k12.st _ _ nPd li11.gP),li11.nM,li11.nR,?_,li11.nN,li11.nW⟩,rfl⟩
    ·show ({ e.t with rows:=srt (e.t.rows++[r]) }:Tb)=_;rw [es,eL]
    ·show (t.rows++[r]).length≤60;rw [bAC];show _+1≤60;have:=li11.fw;lia
    ·intro y hy;rcases List.mem_append.mp hy with hy|hy
     ·exact li11.y.ok.rows y hy
     ·rw [List.mem_singleton.mp hy];exact hkr
    ·show (t.rows++[r]).length≤9+i;rw [bAC];show _+1≤_;have:=li11.fw;lia
    ·exact fun z=>by have:=k12.st _ _ nPd li11.gP;rw [z,gR12] at this;cases this
    ·exact li11.s.ne hL12
  ·obtain ⟨e,t,l7,li,rfl⟩:=hJ;refine yV (S:=yI _ _) (fun σ H'=>∃vl,Vl vl∧LI K H' C x m d dm M R N W Pt st2 nms xs e vh vp t n kd h0 cs (9+i)∧σ=[some (.ref a),some (.ref st2),some (.ref N),some (.ref x),some (.ref M),some (.int m),some (.int c),l7,some vl,l9,l10]) (fun NX hN=>?_) fun σ' H'' hJ=>?_
   ·obtain ⟨gM,hI,hpl',_⟩:=id li.y.md;rw [li.y.pl] at hpl';obtain ⟨b,vo,rfl,hb,_⟩:=hpl';obtain ⟨hh,us,rfl,hhh,hus⟩:=id hI;have lh:=hus.len;have l8h:=li.y.ok.hd.1.2.2;refine ⟨_,rfl,_,rfl,M,_,0,_,rfl,rfl,SqL.of gM,at0 _ _,hh,us,_,rfl,hhh,aQ2 hus,by lia,fun p H10 hp s10 g10=>?_⟩;rw [nU _ [] (by rw [bCF];exact aV4 li.y.ok.hd.1),bCF] at g10;refine ⟨_,rfl,M,_,1,_,rfl,rfl,SqL.of (s10 _ _ gM),at1 _ _ _,b,_,1,_,rfl,rfl,s10.aV hb,at1 _ _ _,p,.str kd,rfl,.inl ⟨_,Sum.inr n,.inl g10,rfl,(wH li.y.lk).symm⟩,?_⟩;refine ⟨by show 3≤sizeLine;decide,fun ls H11 hls s11 g11=>?_⟩;have li11:=(li.same s10).same s11;refine ⟨_,rfl,st2,3,rfl,li11.s,by decide,fun z H12 f12 z0 z1=>?_⟩;have li12:=li11.fx f12;have nls:ls≠st2:=(li.s.same s10).ne hls;obtain ⟨k,hk,ek⟩:∃k,aEy k∧[V.str "number",V.str "word",V.str kd][z.toNat]?=some (.str k):=by
     have:z.toNat=0∨z.toNat=1∨z.toNat=2:=by lia
     rcases this with e|e|e <;> rw [e]
     ·exact ⟨_,.inl rfl,rfl⟩
     ·exact ⟨_,.inr rfl,rfl⟩
     ·exact ⟨_,li.y.cuts.2.2,rfl⟩
    obtain ⟨zi,rfl⟩:∃zi:Nat,z=zi:=⟨z.toNat,by lia⟩;refine ⟨ls,_,_,.str k,rfl,rfl,SqL.of (f12.same _ _ nls g11),cI ek,st2,k,rfl,li12.s,hk,fun v H13 f13 hv=>?_⟩;exact hN _ _ ⟨v,lC hv,li12.fx f13,rfl⟩
   ·obtain ⟨vl,hvl,li,rfl⟩:=hJ;refine yV (S:=aN6 _ _ _) (fun σ H'=>∃vl,Vl vl∧LI K H' C x m d dm M R N W Pt st2 nms xs e vh vp t n kd h0 cs (9+i)∧σ=[some (.ref a),some (.ref st2),some (.ref N),some (.ref x),some (.ref M),some (.int m),some (.int c),l7,some vl,l9,l10]) (fun NX hN=>?_) fun σ' H10 hJ=>?_
    ·obtain ⟨gM,hI,hpl',⟨us,gR,hus⟩⟩:=id li.y.md;have lus:=hus.len;have lfw:=li.fw;refine ⟨_,rfl,M,_,2,_,rfl,rfl,SqL.of gM,at2 _ _ _ _,by show 0≤sizeLine;decide,fun p9 H10 hp9 s10 g10=>⟨R,p9,us,rfl,rfl,SqL.of (s10 _ _ gR),SqL.of g10,_,rfl,?_⟩⟩;have li10:=li.same s10;by_cases hnil:us=[]
     ·rw [hnil];exact bY (bY (hN _ _ ⟨vl,hvl,li10,rfl⟩))
     ·have hpos:0<us.length:=by cases us with
       |nil=>exact absurd rfl hnil
       |cons _ _=>exact Nat.succ_pos _
      rw [show (!us.isEmpty)=true by cases us with
       |nil=>exact absurd rfl hnil
       |cons _ _=>rfl]
      refine dC ⟨_,rfl,st2,3,rfl,li10.s,by decide,fun z3 H11 f11 _ _=>⟨rfl,_,rfl,?_⟩⟩;have li11:=li10.fx f11;cases decide (V.int z3=V.int 0) with
      |false=>exact bY (hN _ _ ⟨vl,hvl,li11,rfl⟩)
      |true=>
       refine dC ?_;have gM11:=li11.y.md.1;have gR11:=f11.same _ _ li.nR (s10 _ _ gR);refine ⟨_,rfl,M,_,2,_,rfl,rfl,SqL.of gM11,at2 _ _ _ _,_,rfl,_,rfl,M,_,2,_,rfl,rfl,SqL.of gM11,at2 _ _ _ _,R,us,rfl,.inl (SqL.of gR11),st2,_,rfl,li11.s,⟨by lia,by lia⟩,fun z H12 f12 z0 z1=>?_⟩;have li12:=li11.fx f12;obtain ⟨zi,rfl⟩:∃zi:Nat,z=zi:=⟨z.toNat,by lia⟩;have hz:zi<us.length:=by lia
       obtain ⟨r,er,ru,eru,hru⟩:=cC hus (j0 hz);refine ⟨R,us,_,us[zi],rfl,rfl,SqL.of (f12.same _ _ li.nR gR11),cI (j0 hz),?_⟩;obtain ⟨gM12,hI12,hpl12,_⟩:=id li12.y.md;rw [li12.y.pl] at hpl12;obtain ⟨b,vo,rfl,hb,_⟩:=hpl12;have l8h:=li.y.ok.hd.1.2.2;refine ⟨_,rfl,M,_,0,_,rfl,rfl,SqL.of gM12,at0 _ _,_,rfl,M,_,1,_,rfl,rfl,SqL.of gM12,at1 _ _ _,b,_,1,_,rfl,rfl,hb,at1 _ _ _,vh,n,t.hd,kd,rfl,hI12,by lia,li.y.lk,fun H13 s13=>?_⟩;obtain ⟨v,hv,_,okv⟩:=aMi (li.y.ok.rows r (w6 er)) li.y.lk;have hru13:SqT K H13 ru r:=s13.aV (f12.aV li11.s (f11.aV li10.s (s10.aV hru)));exact ⟨ru,r,_,v,eru,rfl,hru13,cI hv,hN _ _ ⟨v,lC okv,li12.same s13,rfl⟩⟩
    ·obtain ⟨vl,hvl,li,rfl⟩:=hJ;have atN:∀{e:En},some e.n=nms[0]?→(nms.map V.str)[0]?=some (.str e.n):=fun h=>by rw [t8,←h];rfl
     refine ⟨_,rfl,_,rfl,N,_,0,.str e.n,rfl,rfl,SqL.of li.gN,cI (j:=0) (atN li.nm),_,rfl,_,rfl,x,d,dm,M,R,m,e,vh,vp,vl,t,n,kd,h0,cs,rfl,li.y,hvl,fun v' vp1 vp2 cs' H11 k11 hY11=>⟨_,rfl,bY ?_⟩⟩;have nD:∀{b u},H10 b=some u→(∀kvs,u≠.dK kvs)→b≠d:=fun h hu z=>by rw [z,li.y.st.ens.at_] at h;cases h;exact hu _ rfl
     have li11:LI K H11 C x m d dm M R N W Pt st2 nms xs { e with v:=v',vp:=vp1,t:={ e.t with pl:=.spans n h0 cs' } } vh vp2 { t with pl:=.spans n h0 cs' } n kd h0 cs' (9+i):=by obtain ⟨sv,gs,_⟩:=li.s;refine ⟨⟨sv,k11.st _ _ ⟨nD gs fun _ z=>(by cases z),li.nM.symm⟩ gs,trivial⟩,hY11,li.nm,li.fw,k11.st _ _ ⟨nD li.gN fun _ z=>(by cases z),nNM⟩ li.gN,k11.st _ _ ⟨nD li.gW fun _ z=>(by cases z),nWM⟩ li.gW,k11.st _ _ ⟨nD li.gP fun _ z=>(by cases z),fun z=>?_⟩ li.gP,li.nM,li.nR,li.nL,li.nN,li.nW⟩;have:=li.gP;rw [z,li.y.md.1] at this;cases this
     have nm11:some e.n=nms[0]?:=li.nm;clear nD k11 hY11 li;obtain ⟨e',ee⟩:∃e':En,e'={ e with v:=v',vp:=vp1,t:={ e.t with pl:=.spans n h0 cs' } }:=⟨_,rfl⟩;obtain ⟨t',et⟩:∃t':Tb,t'={ t with pl:=.spans n h0 cs' }:=⟨_,rfl⟩;have en':e'.n=e.n:=by rw [ee]
     have evp:e'.vp=vp1:=by rw [ee]
     rw [←ee,←et] at li11;clear ee et;obtain ⟨okc',_,_⟩:=li11.y.cuts;have okt:=li11.y.ok;have hkd':∀r∈t'.rows,KdR (knds t'.hd) r:=fun r hr'=>aAr (okt.rows r hr');have flt:∀r∈srt t'.rows,∀x∈r,(∃i,x=.int i)∨∃z,x=.str z:=fun r hr' x hx=>aZh (hkd' r (vB hr')) x hx;have few:=okt.few;obtain ⟨dx,hx11⟩:=li11.y.st.at_;refine ⟨_,rfl,x,dx,_,rfl,hx11,rfl,x,d,dm,m,[e'],rfl,li11.y.st,by lia,by lia,li11.gP,fun y d' H12 es' hy hd' s12 hT a1=>?_⟩;obtain ⟨v2,L2',rfl,_⟩:∃v2 L2',es'=[uC e' v2 L2']∧H11 L2'=none:=by
      cases a1 with
      |cons r t=>cases t;obtain ⟨v',L',e1,e2⟩:=r;exact ⟨v',L',by rw [e1],e2⟩
     have li12:=li11.same s12;obtain ⟨⟨dy,hy12⟩,hTE,hTok⟩:=id hT;refine ⟨_,rfl,y,dy,_,rfl,hy12,rfl,_,rfl,N,_,0,.str e.n,rfl,rfl,SqL.of li12.gN,cI (j:=0) (atN nm11),y,d',m,[uC e' v2 L2'],uC e' v2 L2',by show [V.ref y,V.str e.n]=[V.ref y,V.str e'.n];rw [en'],hT,t6,fun H13 s13=>?_⟩;have li13:=li12.same s13;have p1:oW K H13 vp1 (.spans n h0 cs'):=by obtain ⟨_,_,_,_,hp,_⟩:=(li13.y.st.ens.tb e' t6);rw [li13.y.epl.1,evp] at hp;exact hp
     have p2:oW K H13 vp2 (.spans n h0 cs'):=by have:=li13.y.md.2.2.1;rw [li13.y.pl] at this;exact this
     obtain ⟨qa,qb,qx,qy,e1,e2,h1,h2,h3⟩:=aT9 p1 p2 okc';refine ⟨_,rfl,M,_,1,_,rfl,rfl,SqL.of li13.y.md.1,at1 _ _ _,qa,qb,qx,qy,by rw [←e1];exact evp,e2,h1,h2,h3,_,rfl,bY ?_⟩;have hT13:=hT.same s13;refine ⟨_,rfl,y,dy,_,rfl,s13 _ _ hy12,rfl,_,rfl,N,_,0,.str e.n,rfl,rfl,SqL.of li13.gN,cI (j:=0) (atN nm11),y,d',m,[uC e' v2 L2'],uC e' v2 L2',by show [V.ref y,V.str e.n]=[V.ref y,V.str e'.n];rw [en'],hT13,t6,fun Lw H14 hLw s14 hRw=>?_⟩;have li14:=li13.same s14;have hRw:dJ K H14 Lw (srt t'.rows):=by
      have:(uC e' v2 L2').t.rows=srt t'.rows:=by show srt e'.t.rows=_;rw [li11.y.et];exact aPk hkd'
      rw [this] at hRw;exact hRw
     obtain ⟨us,gR,hus⟩:=id li14.y.md.2.2.2;have lus:=hus.len;refine ⟨_,rfl,M,_,2,_,rfl,rfl,SqL.of li14.y.md.1,at2 _ _ _ _,R,us,t'.rows,knds t'.hd,rfl,SqL.of gR,jO hus,by lia,zE okt.hd.1,hkd',fun Lb H15 us4 hLb s15 g15 h15=>?_⟩;obtain ⟨uw,gw,hw⟩:=hRw.same s15;refine ⟨Lw,Lb,uw,us4,srt t'.rows,rfl,rfl,SqL.of gw,SqL.of g15,jO hw,jO ((vH h15).imp fun _ _ z=>z.same s15),flt,_,rfl,bY ?_⟩;have li15:=li14.same s15;refine ⟨_,rfl,m,rfl,by lia,by lia,jC (n:=m.toNat) (fun j σ H'=>Same H15 H'∧∃l10,σ=[some (.ref a),some (.ref st2),some (.ref N),some (.ref x),some (.ref M),some (.int m),some (.int c),l7,some vl,some (.ref y),l10]) ⟨Same.refl _,_,rfl⟩ (fun j σ H16 hj p=>?_) fun σ H16 p=>?_⟩
     ·obtain ⟨s16,l10,rfl⟩:=p;have li16:=li15.same s16;have hh0:0≤(0:Int)+(j:Int):=by lia
      have hhm:(0:Int)+(j:Int)<m:=by lia
      generalize (0:Int)+(j:Int)=house at hh0 hhm;obtain ⟨dx16,hx16⟩:=li16.y.st.at_;refine ⟨_,rfl,x,dx16,_,rfl,hx16,rfl,_,rfl,N,_,0,.str e.n,rfl,rfl,SqL.of li16.gN,cI (j:=0) (atN nm11),_,rfl,x,d,dm,m,house,[e'],e',by show [V.ref x,V.str e.n,V.int house]=[V.ref x,V.str e'.n,V.int house];rw [en'],li16.y.st,t6,hh0,hhm,fun L7 H17 hL7 s17 hR7=>?_⟩;have li17:=li16.same s17;refine ⟨_,rfl,_,rfl,_,rfl,M,R,vh,vp2,t',m,house,n,h0,cs',rfl,li17.y.md,okt,li17.y.pl,fun L8 H18 hL8 s18 hR8=>?_⟩;rw [li17.y.et] at hR7;have hR7:dJ K H17 L7 ((srt t'.rows).filter fun r=>dG t'.hd m r house t'.pl):=hR7;obtain ⟨u7,g7',h7'⟩:=hR7.same s18;obtain ⟨u8,g8',h8'⟩:=hR8;refine ⟨L7,L8,u7,u8,_,rfl,rfl,SqL.of g7',SqL.of g8',jO h7',jO h8',fun r hr'=>flt r (List.mem_filter.mp hr').1,_,rfl,bY ⟨s16.trans (s17.trans s18),_,rfl⟩⟩
     ·obtain ⟨s16,l10,rfl⟩:=p;exact ⟨st2,e',vp2,t',cs',_,_,_,_,_,(li15.same s16).mono (by lia),rfl⟩
 ·obtain ⟨st,e,vp,t,cs,l6,l7,l8,l9,l10,li,rfl⟩:=p;exact q H8 li.gP
theorem aWx {fa Pt:Addr} (T:Txt w K mg) (CT:aQy K mg "are_cuts" Pt) (hmg:mg "law"=some (.ref fa)) :
  ∃fd:FuncData,(∀(s:Shared) (u:Value),BindsTo s fd ⟨[u],[]⟩ [("_law_script",u)])∧∀base:Heap,K.In base→base.Ns mainGlobals mg→BM mg base→fV P w K mg base CX0 15 fa fd ["_law_script"] (aL7 K Pt):=by
 obtain ⟨f,fd,F,B,m⟩:=T.aZ6;have e:fa=f:=by rw [m] at hmg;injection hmg with e;injection e with e;exact e.symm
 subst e;refine ⟨fd,?_,fun base hK _ hbm=>?_⟩
 ·obtain ⟨⟨oc,od,kV,doc,pm,an,cdv,ct,osl,rfl,lk,hcd⟩,kp⟩:=F;exact fun s u=>.of_eq rfl
 ·obtain ⟨Tc,D,m0,m1,m3,m4,m5,m6,a1,a2⟩:=T.aWi;obtain ⟨Sc,DS,q0,q1,q2,q3,q4,q5,q6,q7,b1,b2,b3⟩:=T.aTn;obtain ⟨CN,S,hx,f2⟩:=T.bAp;have c:=D.cls;have cs:=DS.cls;have g1:=aHp (P:=P) (base:=base) T;have g2:=aKs (P:=P) (base:=base) T;have g3:=aLa T g2;have g4:=aIo T g1 g2;have g5:=aK6 T g1;have g6:=aEi (P:=P) (base:=base) T;have nb:=uE T g1;have nms:=aFe (P:=P) (base:=base) T;have vo:=zR T g4 g5;have kin:=aLg (P:=P) (base:=base) T;have cof:=aPa (P:=P) (base:=base) T;have cuts:=aIx T CT hK hbm (yM T) (aO8 T nb) vo;have pl:=aCe T g6 (yL T g3 nms) kin cuts;have irow:=aJz T vo;have tb:=aJf T (aHu T (aF0 T g3 g6) (zZ T) (aB4 T) nms) pl (aHy T irow);have pt:=xK T (aF2 T g1 g3 tb);have tin:=aGh T g3;have ra:=aKo T nb (aFj T (aGx T nms) (aS9 T g1 (aBx T)) cof);have n1:=aEa (P:=P) (base:=base) T;have n2:=aB7 T n1 (aCi T n1);have rw_:=aGf T n2;have spot:=aFr (P:=P) (base:=base) T;have span:=aFi (P:=P) (base:=base) T;have mov:=aJ1 T cs q5 b1 b3 tin;have spl:=aN1 T hx cs q4 b1 (aP3 T cs q1 b1 tin) (aO5 (P:=P) (w:=w) (mg:=mg) (base:=base) T cs q2 b3) (aCk T vo kin) cof (aDz T);have no1:Ok P w K mg base 1 "span_rows" ["table","number"] aDt:=Ok.ofV T.aHh aFl (fun _ _ _ _ h=>h.elim) fun _ _ _ _ _ _ _ _ _ _ h=>h.elim;have no2:Ok P w K mg base 1 "is_above" ["row","mark"] aDt:=Ok.ofV T.aJv aIs (fun _ _ _ _ h=>h.elim) fun _ _ _ _ _ _ _ _ _ _ h=>h.elim;have no3:Ok P w K mg base 1 "_law_home" ["_law_value_here","_law_houses"] aDt:=Ok.ofV T.aHj aEx (fun _ _ _ _ h=>h.elim) fun _ _ _ _ _ _ _ _ _ _ h=>h.elim;exact aYd F T (aFf T) (aB3 T n1 (aCd T)) n1 n2 rw_ spot (sG T n1 (aF4 T n1) n2 rw_ (OkM.make DS (aOa T cs q0 b1 b2 b3 pt))) (aB9 T span (yO T hx f2 spl) spl) (aB6 T spot no3 span) (aTm T cs q3 b1 tin irow (aE2 T)) (aPy T cs q7 b1 b2 (OkM.make D (aSb T c m0 a1 a2 pt))) (aIc T cs q6 b1 b2 tin ra mov no1 no2) (aGs T c m3 a1 tin) (aO9 T c m4 a1 tin)
theorem aQi {Pt:Addr} {H:Hp} {a:Addr} {ns:List Int} {E:XK} (hl:ns.length≤63) (hT:sU [(Pt,qC)] H) (hS:SqL K H a (ns.map V.int)):aL7 K Pt [.ref a] H (fun v H'=>v=.bl true∧sU [(Pt,qC)] H') E:=
 ⟨a,ns,rfl,hS,hl,hT _ (List.mem_singleton.mpr rfl),fun H' h=>⟨rfl,fun p hp=>by rcases List.mem_singleton.mp hp with rfl;exact h⟩⟩
theorem aX6 {h:Heap} {Pt f c:Addr} {o:Obj} {fd:FuncData} (X:K.In h) (G:h.Ns mainGlobals mg) (a:PySem.W.nsIn K mainGlobals "are_cuts"=some (some (.ref f))) (l:K.lookup f=some o) (e1:o.data=.func fd) (e2:fd.code=.ref c) (hh:PySem.W.codeHdIn K c Pt=true):aQy K mg "are_cuts" Pt:=
 ⟨f,o,fd,c,bBS X G a,l,e1,e2,hh⟩
theorem aUf {Pt f c:Addr} {o:Obj} {fd:FuncData} (a:PySem.W.nsIn K mainGlobals "are_cuts"=some (some (.ref f))) (l:K.lookup f=some o) (e1:o.data=.func fd) (e2:fd.code=.ref c) (hh:PySem.W.codeHdIn K c Pt=true) (n:K.lookup Pt=none) :
  ∀p∈[(Pt,qC)],(∃c,PySem.W.codeHdIn K c p.1=true)∧K.lookup p.1=none:=fun p hp=>by
 rcases List.mem_singleton.mp hp with rfl;exact ⟨⟨c,hh⟩,n⟩
theorem aTc {Pt:Addr} {h:Heap} (x:∀P∈[Pt],h.get? P=some (PySem.W.tabObj #[])):∀p∈[(Pt,qC)],h.get? p.1=some { cls:=.none,data:=.fields #[] }:=fun p hp=>by rcases List.mem_singleton.mp hp with rfl;exact x _ (List.mem_singleton.mpr rfl)
theorem aOx {l:PySem.W.OpenLaw} {n k:Nat} {q:Program} {loose:List Str} {XP:(bEO)→Heap→Prop} {YP:World→Heap→Prop} {d:DefRec} {K:Params→bEL} {CX:CXT} {sp:bEL→Sp} {x:Str}
  (hn:l.most=some n) (hn2:n≤sizeLine) (hdf:d.params.defaults=[]) (hr:Room k callerA)
  (ts:List (Addr × Str)) (hnd:(ts.map (·.1)).Nodup)
  (hY:∀(w:World) (h:Heap),YP w h→(K w.params).In h∧∀p∈ts,h.get? p.1=some { cls:=.none,data:=.fields #[] })
  (hC:∀(w:World),∀p∈ts,(∃c,PySem.W.codeHdIn (K w.params) c p.1=true)∧(K w.params).lookup p.1=none)
  (F:∀(w:World) (mg:bEO) (fa:Addr) (h:Heap),(K w.params).In h→h.Ns mainGlobals mg→mg d.name=some (.ref fa) →
   ∃fd:FuncData,(∀(s:Shared) (u:Value),BindsTo s fd ⟨[u],[]⟩ [(x,u)]) ∧
    ∀base:Heap,(K w.params).In base→base.Ns mainGlobals mg→BM mg base→fV l.prog w (K w.params) mg base CX k fa fd [x] (sp (K w.params)))
  (hsp:∀(K:bEL) (H:Hp) (a:Addr) (ns:List Int),ns.length≤n→sU ts H→SqL K H a (ns.map V.int)→sp K [.ref a] H (fun v H'=>v=.bl true∧sU ts H') fun _ _ _=>False)
  (hCX:∀(H:Hp) (s:Shared) (e:Value) (s':Shared),CX [] H s (fun _ _ _=>False) e s'→False) :
  PySem.W.WalkO q loose XP YP l.row.toRowW d [] (fun f vs=>PySem.call f vs):=
 aPz (K:=K) (CX:=fun _=>CX) (sp:=fun w=>sp (K w.params)) hn hn2 hdf hr ts hnd hY hC F (fun w H a ns h1 h2 h3=>hsp (K w.params) H a ns h1 h2 h3) fun _ H s e s'=>hCX H s e s'
end
inductive FA (K:bEL) (n:Str) (s:Stmt) (f:Addr):Prop
 |mk {od an:Option Addr} {sl:Array (Option Value)} {kV dc pm cd ct:Value}:PySem.W.nsIn K mainGlobals n=some (some (.ref f))→K.lookup f=some ⟨.type "function",od,.func (PySem.W.fnOf n n (kW s) (dB s) (aD s) .none kV dc pm an cd ct),sl⟩→PySem.W.codeIn K cd n=true→PySem.W.keepIn K (.ref f)=true→FA K n s f
section
variable {K:bEL} {h:Heap} {mg:bEO} {n:Str} {s:Stmt} {f:Addr} {ps:List Str}
theorem aV5 (X:K.In h) (G:h.Ns mainGlobals mg) (a:FA K n s f):mg n=some (.ref f):=by obtain ⟨a,_,_,_⟩:=a;exact bBS X G a
theorem bO (X:K.In h) (G:h.Ns mainGlobals mg) (a:FA K n s f) (b:∀(kV doc pm:Value) (an:Option Addr) (cdv ct:Value) (us:List Value),us.length=ps.length→bindArgs (PySem.W.fnOf n n (kW s) (dB s) (aD s) .none kV doc pm an cdv ct) ⟨us,[]⟩=pure (ps.zip us)):Dn K mg n s ps:=by have m:=aV5 X G a;obtain ⟨_,l,c,k⟩:=a;exact ⟨f,_,xE l c k,(xE l c k).binds b,m⟩
theorem aZ3 (X:K.In h) (G:h.Ns mainGlobals mg) (a:FA K n s f):∃f o,(∃u,mg n=some u∧RelV (.ref f) u)∧K.lookup f=some o∧o.cls=.type "function":=by have m:=aV5 X G a;obtain ⟨_,l,c,k⟩:=a;exact ⟨f,_,⟨_,m,rfl⟩,l,rfl⟩
end
inductive CA (K:bEL) (x:Str) (C:Addr):Prop
 |mk:PySem.W.nsIn K mainGlobals x=some (some (.ref C))→PySem.W.plainGet K C Str.empty=true→PySem.W.hasDictIn K C=true→PySem.W.plainOver K C=true→PySem.W.findIn K (.ref C) "__setattr__"=some (some (.builtin "object.__setattr__"))→PySem.W.makesIn K C=true→PySem.W.keepIn K (.ref C)=true→CA K x C
theorem aVz {K:bEL} {h:Heap} {mg:bEO} {x:Str} {C:Addr} (X:K.In h) (G:h.Ns mainGlobals mg) (a:CA K x C):aVh K mg x C:=by obtain ⟨a,p1,p2,p3,p4,p5,p6⟩:=a;exact ⟨bBS X G a,⟨p1,p2,p3,p4⟩,p5,p6⟩
inductive MA (K:bEL) (C:Addr) (m qual:Str) (s:Stmt) (f:Addr):Prop
 |mk {od an:Option Addr} {sl:Array (Option Value)} {kV dc pm cd ct:Value}:PySem.W.findIn K (.ref C) m=some (some (.ref f))→PySem.W.isFn K (.ref f)=true→K.lookup f=some ⟨.type "function",od,.func (PySem.W.fnOf m qual (kW s) (dB s) (aD s) .none kV dc pm an cd ct),sl⟩→PySem.W.codeIn K cd qual=true→PySem.W.keepIn K (.ref f)=true→MA K C m qual s f
theorem mD {K:bEL} {C:Addr} {m qual:Str} {s:Stmt} {f:Addr} {ps:List Str} (a:MA K C m qual s f) (b:∀(kV doc pm:Value) (an:Option Addr) (cdv ct:Value) (us:List Value),us.length=ps.length→bindArgs (PySem.W.fnOf m qual (kW s) (dB s) (aD s) .none kV doc pm an cdv ct) ⟨us,[]⟩=pure (ps.zip us)):iR K C m qual s ps:=by obtain ⟨a,i,l,c,k⟩:=a;exact ⟨f,_,⟨a,i,k⟩,xE l c k,(xE l c k).binds b⟩
theorem ln0 {P:List Value→Prop} (h:P []):∀us:List Value,us.length=0→P us
 |[],_=>h
theorem ln1 {P:List Value→Prop} (h:∀a0,P [a0]):∀us:List Value,us.length=1→P us
 |[a0],_=>h a0
theorem ln2 {P:List Value→Prop} (h:∀a0 a1,P [a0,a1]):∀us:List Value,us.length=2→P us
 |[a0,a1],_=>h a0 a1
theorem ln3 {P:List Value→Prop} (h:∀a0 a1 a2,P [a0,a1,a2]):∀us:List Value,us.length=3→P us
 |[a0,a1,a2],_=>h a0 a1 a2
theorem ln4 {P:List Value→Prop} (h:∀a0 a1 a2 a3,P [a0,a1,a2,a3]):∀us:List Value,us.length=4→P us
 |[a0,a1,a2,a3],_=>h a0 a1 a2 a3
theorem ln5 {P:List Value→Prop} (h:∀a0 a1 a2 a3 a4,P [a0,a1,a2,a3,a4]):∀us:List Value,us.length=5→P us
 |[a0,a1,a2,a3,a4],_=>h a0 a1 a2 a3 a4
theorem ln6 {P:List Value→Prop} (h:∀a0 a1 a2 a3 a4 a5,P [a0,a1,a2,a3,a4,a5]):∀us:List Value,us.length=6→P us
 |[a0,a1,a2,a3,a4,a5],_=>h a0 a1 a2 a3 a4 a5
local macro_rules
 |`(tactic| trivial)=>`(tactic| first|exact (fun _ _ _ _ _ _=>ln1 fun _=>rfl)|exact (fun _ _ _ _ _ _=>ln2 fun _ _=>rfl)|exact (fun _ _ _ _ _ _=>ln3 fun _ _ _=>rfl)|exact (fun _ _ _ _ _ _=>ln4 fun _ _ _ _=>rfl)|exact (fun _ _ _ _ _ _=>ln0 rfl)|exact (fun _ _ _ _ _ _=>ln5 fun _ _ _ _ _=>rfl)|exact (fun _ _ _ _ _ _=>ln6 fun _ _ _ _ _ _=>rfl))
inductive XA (K:bEL) (x:Str) (C S fI:Addr):Prop
 |mk {nm q:Str} {N:Addr} {bs bm:List Value} {sn:List Str} {sub:List Value} {ab:Bool} {col:Option Bool} {dd:Option Addr} {k0 k1 k2 k3 k5:Option Value} {cd:ClassData} {od an:Option Addr} {sl:Array (Option Value)} {kV dc pm cdv ct:Value} :
  PySem.W.nsIn K mainGlobals x=some (some (.ref C))→PySem.W.nsIn K mainGlobals "ShardError"=some (some (.ref S)) →
  K.lookup C=some (excClassObj nm q C N bs bm true sn sub ab col dd k0 k1 k2 k3 k5 "ValueError.__new__") →
  bm.contains (.type "ValueError")=true→bm.contains (.type "AttributeError")=false→bm.contains (.type "NameError")=false→bm.contains (.type "BaseException")=true →
  PySem.W.clsIn K C=some cd→(aI3 cd.mro && cd.hasDict)=true →
  PySem.W.findIn K (.ref C) "__init__"=some (some (.ref fI))→PySem.W.typeIn K (.ref fI)=some (.type "function") →
  PySem.W.findIn K (.ref C) "__setattr__"=some (some (.builtin "object.__setattr__"))→PySem.W.findIn K (.ref C) "__getattribute__"=some (some (.builtin "BaseException.__getattribute__")) →
  PySem.W.findIn K (.ref C) "__getattr__"=some none→PySem.W.findIn K (.ref C) "act"=some none→PySem.W.findIn K (.ref C) "__class__"=some (some (.builtin "object.__class__")) →
  K.lookup fI=some ⟨.type "function",od,.func (PySem.W.fnOf "__init__" "ShardError.__init__" (kW mJ) (dB mJ) (aD mJ) .none kV dc pm an cdv ct),sl⟩ →
  PySem.W.codeIn K cdv "ShardError.__init__"=true→PySem.W.keepIn K (.ref fI)=true→PySem.W.keepIn K (.ref C)=true→PySem.W.typeIn K (.ref C)=some (.type "type") →
  PySem.W.mroIn K C (.type "BaseException")=some true→PySem.W.mroIn K C (.ref S)=some true→PySem.W.mroIn K C (.ref C)=some true→XA K x C S fI
theorem bAa {K:bEL} {h:Heap} {mg:bEO} {x:Str} {C S fI:Addr} (X:K.In h) (G:h.Ns mainGlobals mg) (a:XA K x C S fI):∃C S,ExT K mg mJ x "ShardError.__init__" C S∧PySem.W.mroIn K C (.ref C)=some true:=by obtain ⟨y0,y1,y3,r0,r1,r2,r3,y4,r4,y5,y6,y7,y8,y9,y10,y11,y12,y13,y14,y15,y16,y17,y18,y20⟩:=a;exact ⟨C,S,⟨⟨fI,_,⟨⟨_,_,_,_,_,_,_,_,_,_,_,_,_,_,_,y3,r0,r1,r2,r3⟩,y5,y6,by rw [y4];exact r4,y7,y8,y9,y10,y11⟩,xE y12 y13 y14,(xE y12 y13 y14).binds fun _ _ _ _ _ _=>ln2 fun _ _=>rfl⟩,bBS X G y0,y15,⟨y16,by rw [y4];rfl,y17⟩,y18⟩,y20⟩
theorem aXo {K:bEL} {h:Heap} {mg:bEO} (X:K.In h) (G:h.Ns mainGlobals mg) {w:World} {f0 f1 f2 f3 f4 f5 f6 f7 f8 f9 f10 f11 f12 f13 f14 f15 f16 f17 f18 f19 f20 f21 f22 f23 f24 f25 f26 f27 f28 f29 f36 f37 f38 f39 f40 f49 f50 f51 f52 f53 f54 f55 f56 f57 f58 f59 f60 f61 f62 f63 f64:Addr} {lZ:Addr} {eV:Obj} {lY:Array Value} {uQ:Nat} {aKr:Tok} {aIh:Addr} {uL:Obj} {aIv:Array Value} {aRb:Nat} {yE:Tok} {yS:Tok} {aEf:Tok} {aAp:Tok} {aEk:Tok} {C_Town:Addr} {g0 g1 g2 g3 g4 g5:Addr} {C_Store:Addr} {g6 g7 g8 g9 g10 g11 g12 g13:Addr} {xC xS xI:Addr}
  (a0:FA K "is_whole" tD f0)
  (a1:FA K "is_number_below" gY f1)
  (a2:FA K "is_word" xF f2)
  (a3:FA K "is_one_of" qN f3)
  (a4:FA K "is_tuple_of" fM f4)
  (a5:FA K "are_unlike" oX f5)
  (a6:FA K "names_of" uD f6)
  (a7:FA K "is_name" wI f7)
  (a8:FA K "is_value" tG f8)
  (a9:FA K "kind_of" xH f9)
  (a10:FA K "is_value_of" mH f10)
  (a11:FA K "is_column" qU f11)
  (a12:FA K "is_head" xB f12)
  (a13:FA K "is_row" aAb f13)
  (a14:FA K "word_number" mK f14)
  (a15:FA K "home" aK3 f15)
  (a16:FA K "kind_in" xA f16)
  (a17:FA K "place_of" tQ f17)
  (a18:FA K "is_cut" zT f18)
  (a19:FA K "are_cuts" oZ f19)
  (a20:FA K "is_column_in" lD f20)
  (a21:FA K "is_placing" pA f21)
  (a22:FA K "are_rows" oO f22)
  (a23:FA K "is_table" uF f23)
  (a24:FA K "need_town" qG f24)
  (a25:FA K "placed_tables" jV f25)
  (a26:FA K "table_in" sY f26)
  (a27:FA K "cut_of" aAv f27)
  (a28:FA K "stands_at" qH f28)
  (a29:FA K "rows_at" rM f29)
  (a36:FA K "with_rows" qI f36)
  (a37:FA K "with_cuts" rC f37)
  (a38:FA K "may_cut_at" oH f38)
  (a39:FA K "span_rows" rE f39)
  (a40:FA K "is_above" tH f40)
  (a49:FA K "_law_seed" rB f49)
  (a50:FA K "_law_next" pP f50)
  (a51:FA K "_law_words" nZ f51)
  (a52:FA K "_law_names" kY f52)
  (a53:FA K "_law_great" oR f53)
  (a54:FA K "_law_value" oA f54)
  (a55:FA K "_law_head" pQ f55)
  (a56:FA K "_law_row" nQ f56)
  (a57:FA K "_law_home" qZ f57)
  (a58:FA K "_law_span" mG f58)
  (a59:FA K "_law_spot" pR f59)
  (a60:FA K "_law_stood" iB f60)
  (a61:FA K "_law_spans_begun" cY f61)
  (a62:FA K "_law_refused" lE f62)
  (a63:FA K "_law_split" nO f63)
  (a64:FA K "law" aNb f64)
  (q0:PySem.W.nsIn K mainGlobals "QUESTION_WORDS"=some (some (.ref lZ))) (r0:K.lookup lZ=some eV) (t0:eV.cls=.type "tuple") (y0:eV.dict=none) (u0:eV.data=.seq lY uQ) (v0:Vals [.str "and",.str "by",.str "count",.str "down",.str "first",.str "group",.str "join",.str "keep",.str "least",.str "most",.str "named",.str "on",.str "sum",.str "table",.str "up",.str "where",.str "with"] lY.toList)
  (q1:PySem.W.nsIn K mainGlobals "LETTERS"=some (some (.str "abcdefghijklmnopqrstuvwxyz" aKr)))
  (q2:PySem.W.nsIn K mainGlobals "KINDS"=some (some (.ref aIh))) (r2:K.lookup aIh=some uL) (t2:uL.cls=.type "tuple") (y2:uL.dict=none) (u2:uL.data=.seq aIv aRb) (v2:Vals [.str "number",.str "word"] aIv.toList)
  (q3:PySem.W.nsIn K mainGlobals "MOST_LETTERS"=some (some (.int 8 yE)))
  (q4:PySem.W.nsIn K mainGlobals "MOST_COLUMNS"=some (some (.int 8 yS)))
  (q5:PySem.W.nsIn K mainGlobals "WORD_BASE"=some (some (.int 27 aEf)))
  (q6:PySem.W.nsIn K mainGlobals "MOST_HOUSES"=some (some (.int 6 aAp)))
  (q7:PySem.W.nsIn K mainGlobals "MOST_CUTS"=some (some (.int 8 aEk)))
  (z0:PySem.W.nsIn K mainGlobals "ValueError"=some none)
  (z1:PySem.W.nsIn K mainGlobals "all"=some none)
  (z2:PySem.W.nsIn K mainGlobals "any"=some none)
  (z3:PySem.W.nsIn K mainGlobals "bool"=some none)
  (z4:PySem.W.nsIn K mainGlobals "dict"=some none)
  (z5:PySem.W.nsIn K mainGlobals "enumerate"=some none)
  (z6:PySem.W.nsIn K mainGlobals "int"=some none)
  (z7:PySem.W.nsIn K mainGlobals "isinstance"=some none)
  (z8:PySem.W.nsIn K mainGlobals "len"=some none)
  (z9:PySem.W.nsIn K mainGlobals "list"=some none)
  (z10:PySem.W.nsIn K mainGlobals "range"=some none)
  (z11:PySem.W.nsIn K mainGlobals "set"=some none)
  (z12:PySem.W.nsIn K mainGlobals "sorted"=some none)
  (z13:PySem.W.nsIn K mainGlobals "str"=some none)
  (z14:PySem.W.nsIn K mainGlobals "tuple"=some none)
  (z15:PySem.W.nsIn K mainGlobals "zip"=some none)
  (eTown:CA K "Town" C_Town)
  (b0:MA K C_Town "__init__" "Town.__init__" fY g0)
  (b1:MA K C_Town "houses" "Town.houses" sV g1)
  (b2:MA K C_Town "placing" "Town.placing" iG g2)
  (b3:MA K C_Town "whole" "Town.whole" kO g3)
  (b4:MA K C_Town "tables" "Town.tables" sO g4)
  (b5:MA K C_Town "part" "Town.part" xR g5)
  (d0:bN K C_Town "placed")
  (d1:bN K C_Town "house_count")
  (eStore:CA K "Store" C_Store)
  (b6:MA K C_Store "__init__" "Store.__init__" fG g6)
  (b7:MA K C_Store "cut_table" "Store.cut_table" eG g7)
  (b8:MA K C_Store "need_still" "Store.need_still" dW g8)
  (b9:MA K C_Store "put" "Store.put" mF g9)
  (b10:MA K C_Store "split" "Store.split" jH g10)
  (b11:MA K C_Store "moving" "Store.moving" iI g11)
  (b12:MA K C_Store "stands" "Store.stands" eZ g12)
  (b13:MA K C_Store "town" "Store.town" kI g13)
  (d2:bN K C_Store "placed")
  (d3:bN K C_Store "house_count")
  (d4:bN K C_Store "moves")
  (xa:XA K "NoSpan" xC xS xI):Txt w K mg:=
 ⟨bAS X G z0,
  bAS X G z1,
  bAS X G z2,
  bAS X G z3,
  bAS X G z4,
  bAS X G z5,
  bAS X G z6,
  bAS X G z7,
  bAS X G z8,
  bAS X G z9,
  bAS X G z10,
  bAS X G z11,
  bAS X G z12,
  bAS X G z13,
  bAS X G z14,
  bAS X G z15,
  ⟨_,bBS X G q0,fun H=>.inr ⟨_,_,_,r0,t0,y0,u0,by have e:=v0.length;simp only [v9] at e;rw [←e];exact small (by decide),v0⟩⟩,
  ⟨_,bBS X G q1,_,rfl⟩,
  ⟨_,bBS X G q2,fun H=>.inr ⟨_,_,_,r2,t2,y2,u2,by have e:=v2.length;simp only [v9] at e;rw [←e];exact small (by decide),v2⟩⟩,
  ⟨_,bBS X G q3,_,rfl⟩,
  ⟨_,bBS X G q4,_,rfl⟩,
  ⟨_,bBS X G q5,_,rfl⟩,
  ⟨_,bBS X G q6,_,rfl⟩,
  ⟨_,bBS X G q7,_,rfl⟩,
  aZ3 X G a11,
  bO X G a0 (by trivial),
  bO X G a1 (by trivial),
  bO X G a2 (by trivial),
  bO X G a3 (by trivial),
  bO X G a4 (by trivial),
  bO X G a5 (by trivial),
  bO X G a6 (by trivial),
  bO X G a7 (by trivial),
  bO X G a8 (by trivial),
  bO X G a9 (by trivial),
  bO X G a10 (by trivial),
  bO X G a11 (by trivial),
  bO X G a12 (by trivial),
  bO X G a13 (by trivial),
  bO X G a14 (by trivial),
  bO X G a15 (by trivial),
  bO X G a16 (by trivial),
  bO X G a17 (by trivial),
  bO X G a18 (by trivial),
  bO X G a19 (by trivial),
  bO X G a20 (by trivial),
  bO X G a21 (by trivial),
  bO X G a22 (by trivial),
  bO X G a23 (by trivial),
  bO X G a24 (by trivial),
  bO X G a25 (by trivial),
  bO X G a26 (by trivial),
  bO X G a27 (by trivial),
  bO X G a28 (by trivial),
  bO X G a29 (by trivial),
  bO X G a36 (by trivial),
  bO X G a37 (by trivial),
  bO X G a38 (by trivial),
  bO X G a39 (by trivial),
  bO X G a40 (by trivial),
  bO X G a49 (by trivial),
  bO X G a50 (by trivial),
  bO X G a51 (by trivial),
  bO X G a52 (by trivial),
  bO X G a53 (by trivial),
  bO X G a54 (by trivial),
  bO X G a55 (by trivial),
  bO X G a56 (by trivial),
  bO X G a57 (by trivial),
  bO X G a58 (by trivial),
  bO X G a59 (by trivial),
  bO X G a60 (by trivial),
  bO X G a61 (by trivial),
  bO X G a62 (by trivial),
  bO X G a63 (by trivial),
  bO X G a64 (by trivial),
  ⟨C_Town,aVz X G eTown,mD b0 (by trivial),mD b1 (by trivial),mD b2 (by trivial),mD b3 (by trivial),mD b4 (by trivial),mD b5 (by trivial),d0,d1⟩,
  ⟨C_Store,aVz X G eStore,mD b6 (by trivial),mD b7 (by trivial),mD b8 (by trivial),mD b9 (by trivial),mD b10 (by trivial),mD b11 (by trivial),mD b12 (by trivial),mD b13 (by trivial),d2,d3,d4⟩,
  bAa X G xa⟩
end My
open PySem PySem.W PyProof.Rows
namespace PySem.W.Fast
def tw8028209053136926933:=0
def tw12340456575809693221:=0
def tw10244815870627802033:=0
def tw4498441539765123828:=0
def tw11339507850480838707:=0
def tw13956756411583914010:=0
def tw4923874567797607648:=0
def tw5605176200580621541:=0
def tw14623687639422943054:=0
def tw6395145778212236260:=0
def tw7436569316435451344:=0
def tw15005511539041487030:=0
def tw15074642883183589275:=0
def tw9287684613236715888:=0
def tw14255018072032845130:=0
def tw878392770881240500:=0
def tw6168975914622024782:=0
def tw7191928466462622592:=0
def tw5949629453171879437:=0
def tw14491668100839731102:=0
def tw1214454530785477846:=0
def tw3816274442488633431:=0
def tw7727177049422839962:=0
def tw15801227189297998743:=0
def tw12213334269140365280:=0
def tw2798749328037698225:=0
def tw213886827881822076:=0
def tw3591238981766151768:=0
def tw16023782311691548508:=0
def tw12827341822750574089:=0
def tw13374137488730906181:=0
def tw10685548101745862072:=0
def tw11873372430463397030:=0
def tw6751517451991380165:=0
def tw5905292237809103970:=0
def tw17390017646836861947:=0
def tw16544241052100916248:=0
def tw465613998160191670:=0
def tw17810315010373315515:=0
def tw18019720594451466183:=0
def tw3171123210839465901:=0
def tw8742409693662288661:=0
def tw6106560441021397749:=0
def tw11181037315644949497:=0
def tw2958082360745361202:=0
def tw17150940072183667260:=0
def tw14643131588282198774:=0
def tw15681011005260737859:=0
def tw4609226531380728876:=0
def tw1831727285262375190:=0
def tw2448017029030121583:=0
def tw4566426573707270498:=0
def tw3426079777746796666:=0
def tw4306996300004074583:=0
def tw14341039478091546047:=0
def tw9649547953581825173:=0
def tw10012997487161076415:=0
def tw6607162038015225060:=0
def tw11710049628423060555:=0
def tw11883152809780082797:=0
def tw17614231550278796887:=0
def tw10962543831581533975:=0
def tw10724921450155931837:=0
def tw5985693392054313982:=0
def tw8114353181475310673:=0
def tw18440397208816003778:=0
def tw11211661884494127866:=0
def tw10116263946419860983:=0
def tw11583953474324197281:=0
def tw11860302674379681897:=0
def tw9682476124569036786:=0
def tw233861178725013330:=0
def tw17588751147484343787:=0
def tw5636755036494432816:=0
def tw10255765886659195062:=0
def tw10958716230394236640:=0
def tw3759275040687308152:=0
def tw8706306036248529447:=0
def tw5296448243624995549:=0
def tw5369014920252022156:=0
def tw12344791396818767847:=0
def tw12029446801171426503:=0
def tw14003797218689308186:=0
def tw7473051876343060926:=0
def tw8942273383887480162:=0
def tw4793109493543157725:=0
def tw6117533338041260690:=0
def tw10124570007559581734:=0
def tw12992220411123044974:=0
def tw6736600975860029511:=0
def tw14522952047063935644:=0
def tw12878309479728755127:=0
def tw7185052168965926364:=0
def tw11894227295085728744:=0
def tw15733225425335052021:=0
def tw3034837070243736051:=0
def tw8083175325424933874:=0
def tw6136584760249872304:=0
def tw441545039182805877:=0
def tw93765738074235491:=0
def tw12529993613764631743:=0
def tw2929349056486939675:=0
def tw12286368811163691709:=0
def tw13765011269328585380:=0
def tw6522403966180546521:=0
def tw18158048513078803983:=0
def tw14698381164231134028:=0
def tw16325864848698185403:=0
def tw10383480886332930813:=0
def tw1021224617734400584:=0
def tw6014021986994362021:=0
def tw2714595670242392184:=0
def tw6523311156425393132:=0
def tw14407674708402456102:=0
def tw7101171267341488774:=0
def tw15598578818403272244:=0
def tw2414541662980092686:=0
def tw1056576257404515589:=0
def tw9489759000696995593:=0
def tw4319457013265603483:=0
def tw1475180540792542441:=0
def tw2717353059795070811:=0
def tw4959496260638052838:=0
def tw5105174095514913791:=0
def tw3687904601489455038:=0
def tw433274658109116073:=0
def tw5294075592245013317:=0
def tw637575843558627465:=0
def tw17933472728269420415:=0
def tw15646591638807884579:=0
def tw4897806140418647781:=0
def tw16350519719486993740:=0
def tw17010121997280109274:=0
def tw4846850507240825273:=0
def tw2913442359841949781:=0
def tw14001567573021778552:=0
def tw4935360297145930883:=0
def tw10485427858364457294:=0
def tw17189691069113245738:=0
def tw14058252387045313508:=0
def tw7930718815562931560:=0
def tw6805415602899788629:=0
def tw8252157355198516973:=0
def tw10477383706077035025:=0
def tw18022510967504446067:=0
def tw3875348588795310732:=0
def tw11531360201207970137:=0
def tw3943855463962152218:=0
def tw3573412976868386377:=0
def tw10845352443661726850:=0
def tw828396348531200693:=0
def tw15487404701205283117:=0
def tw10174834791814360266:=0
def tw2528086389804231642:=0
def tw10700132831229629712:=0
def tw2670535483171274147:=0
def tw2636832050702119044:=0
def tw9996717966268650339:=0
def tw7960054617430762585:=0
def tw7582698835234771524:=0
end PySem.W.Fast
set_option maxRecDepth 100000 in
set_option maxHeartbeats 0 in
theorem PySem.Challenge.cw_shardask_k61_split_holds : PySem.Challenge.rw_shardask_k61_split.Holds := by
 w_on;o_law;k_head;(case hw=>w_witness2)
 k_fill
 refine My.aOx (l:=PySem.Challenge.rw_shardask_k61_split) (n:=63) (k:=15) (x:="_law_script") (CX:=L2.CX0) (sp:=fun K=>My.aL7 K 254) rfl (by decide) rfl ⟨rfl,by decide,by decide⟩ [(254,My.qC)] (by decide) (fun w h Y=>⟨PySem.W.km_in_of Y,My.aTc (PySem.W.km_tabs_of Y)⟩) ?C ?F (fun K H a ns hl hO hS=>My.aQi hl hO hS) (fun _ _ _ _ z=>z)
 case C=>
  intro w
  refine' My.aUf ?a ?l ?e1 ?e2 ?h ?n
  (case a=>k_is)
  (case l=>k_is)
  (case e1=>rfl)
  (case e2=>rfl)
  (case h=>first|k_is|kernel_rfl|decide +kernel)
  (case n=>first|k_is|kernel_rfl|decide +kernel)
 case F=>
  intro w mg fa h KX G hmg
  have T:My.Txt w (L2.KOf KX) mg:=by
   dsimp only [L2.KOf]
   refine' My.aXo KX G ?a0 ?a1 ?a2 ?a3 ?a4 ?a5 ?a6 ?a7 ?a8 ?a9 ?a10 ?a11 ?a12 ?a13 ?a14 ?a15 ?a16 ?a17 ?a18 ?a19 ?a20 ?a21 ?a22 ?a23 ?a24 ?a25 ?a26 ?a27 ?a28 ?a29 ?a36 ?a37 ?a38 ?a39 ?a40 ?a49 ?a50 ?a51 ?a52 ?a53 ?a54 ?a55 ?a56 ?a57 ?a58 ?a59 ?a60 ?a61 ?a62 ?a63 ?a64 ?q0 ?r0 ?t0 ?y0 ?u0 ?v0 ?q1 ?q2 ?r2 ?t2 ?y2 ?u2 ?v2 ?q3 ?q4 ?q5 ?q6 ?q7 ?z0 ?z1 ?z2 ?z3 ?z4 ?z5 ?z6 ?z7 ?z8 ?z9 ?z10 ?z11 ?z12 ?z13 ?z14 ?z15 ?eTown ?b0 ?b1 ?b2 ?b3 ?b4 ?b5 ?d0 ?d1 ?eStore ?b6 ?b7 ?b8 ?b9 ?b10 ?b11 ?b12 ?b13 ?d2 ?d3 ?d4 ?xa
   (case a0=>(refine' My.FA.mk ?j0 ?l0 ?c0 ?k0);(case j0=>k_is);(case l0=>k_is);(case c0=>k_is);(case k0=>k_is))
   (case a1=>(refine' My.FA.mk ?j1 ?l1 ?c1 ?k1);(case j1=>k_is);(case l1=>k_is);(case c1=>k_is);(case k1=>k_is))
   (case a2=>(refine' My.FA.mk ?j2 ?l2 ?c2 ?k2);(case j2=>k_is);(case l2=>k_is);(case c2=>k_is);(case k2=>k_is))
   (case a3=>(refine' My.FA.mk ?j3 ?l3 ?c3 ?k3);(case j3=>k_is);(case l3=>k_is);(case c3=>k_is);(case k3=>k_is))
   (case a4=>(refine' My.FA.mk ?j4 ?l4 ?c4 ?k4);(case j4=>k_is);(case l4=>k_is);(case c4=>k_is);(case k4=>k_is))
   (case a5=>(refine' My.FA.mk ?j5 ?l5 ?c5 ?k5);(case j5=>k_is);(case l5=>k_is);(case c5=>k_is);(case k5=>k_is))
   (case a6=>(refine' My.FA.mk ?j6 ?l6 ?c6 ?k6);(case j6=>k_is);(case l6=>k_is);(case c6=>k_is);(case k6=>k_is))
   (case a7=>(refine' My.FA.mk ?j7 ?l7 ?c7 ?k7);(case j7=>k_is);(case l7=>k_is);(case c7=>k_is);(case k7=>k_is))
   (case a8=>(refine' My.FA.mk ?j8 ?l8 ?c8 ?k8);(case j8=>k_is);(case l8=>k_is);(case c8=>k_is);(case k8=>k_is))
   (case a9=>(refine' My.FA.mk ?j9 ?l9 ?c9 ?k9);(case j9=>k_is);(case l9=>k_is);(case c9=>k_is);(case k9=>k_is))
   (case a10=>(refine' My.FA.mk ?j10 ?l10 ?c10 ?k10);(case j10=>k_is);(case l10=>k_is);(case c10=>k_is);(case k10=>k_is))
   (case a11=>(refine' My.FA.mk ?j11 ?l11 ?c11 ?k11);(case j11=>k_is);(case l11=>k_is);(case c11=>k_is);(case k11=>k_is))
   (case a12=>(refine' My.FA.mk ?j12 ?l12 ?c12 ?k12);(case j12=>k_is);(case l12=>k_is);(case c12=>k_is);(case k12=>k_is))
   (case a13=>(refine' My.FA.mk ?j13 ?l13 ?c13 ?k13);(case j13=>k_is);(case l13=>k_is);(case c13=>k_is);(case k13=>k_is))
   (case a14=>(refine' My.FA.mk ?j14 ?l14 ?c14 ?k14);(case j14=>k_is);(case l14=>k_is);(case c14=>k_is);(case k14=>k_is))
   (case a15=>(refine' My.FA.mk ?j15 ?l15 ?c15 ?k15);(case j15=>k_is);(case l15=>k_is);(case c15=>k_is);(case k15=>k_is))
   (case a16=>(refine' My.FA.mk ?j16 ?l16 ?c16 ?k16);(case j16=>k_is);(case l16=>k_is);(case c16=>k_is);(case k16=>k_is))
   (case a17=>(refine' My.FA.mk ?j17 ?l17 ?c17 ?k17);(case j17=>k_is);(case l17=>k_is);(case c17=>k_is);(case k17=>k_is))
   (case a18=>(refine' My.FA.mk ?j18 ?l18 ?c18 ?k18);(case j18=>k_is);(case l18=>k_is);(case c18=>k_is);(case k18=>k_is))
   (case a19=>(refine' My.FA.mk ?j19 ?l19 ?c19 ?k19);(case j19=>k_is);(case l19=>k_is);(case c19=>k_is);(case k19=>k_is))
   (case a20=>(refine' My.FA.mk ?j20 ?l20 ?c20 ?k20);(case j20=>k_is);(case l20=>k_is);(case c20=>k_is);(case k20=>k_is))
   (case a21=>(refine' My.FA.mk ?j21 ?l21 ?c21 ?k21);(case j21=>k_is);(case l21=>k_is);(case c21=>k_is);(case k21=>k_is))
   (case a22=>(refine' My.FA.mk ?j22 ?l22 ?c22 ?k22);(case j22=>k_is);(case l22=>k_is);(case c22=>k_is);(case k22=>k_is))
   (case a23=>(refine' My.FA.mk ?j23 ?l23 ?c23 ?k23);(case j23=>k_is);(case l23=>k_is);(case c23=>k_is);(case k23=>k_is))
   (case a24=>(refine' My.FA.mk ?j24 ?l24 ?c24 ?k24);(case j24=>k_is);(case l24=>k_is);(case c24=>k_is);(case k24=>k_is))
   (case a25=>(refine' My.FA.mk ?j25 ?l25 ?c25 ?k25);(case j25=>k_is);(case l25=>k_is);(case c25=>k_is);(case k25=>k_is))
   (case a26=>(refine' My.FA.mk ?j26 ?l26 ?c26 ?k26);(case j26=>k_is);(case l26=>k_is);(case c26=>k_is);(case k26=>k_is))
   (case a27=>(refine' My.FA.mk ?j27 ?l27 ?c27 ?k27);(case j27=>k_is);(case l27=>k_is);(case c27=>k_is);(case k27=>k_is))
   (case a28=>(refine' My.FA.mk ?j28 ?l28 ?c28 ?k28);(case j28=>k_is);(case l28=>k_is);(case c28=>k_is);(case k28=>k_is))
   (case a29=>(refine' My.FA.mk ?j29 ?l29 ?c29 ?k29);(case j29=>k_is);(case l29=>k_is);(case c29=>k_is);(case k29=>k_is))
   (case a36=>(refine' My.FA.mk ?j36 ?l36 ?c36 ?k36);(case j36=>k_is);(case l36=>k_is);(case c36=>k_is);(case k36=>k_is))
   (case a37=>(refine' My.FA.mk ?j37 ?l37 ?c37 ?k37);(case j37=>k_is);(case l37=>k_is);(case c37=>k_is);(case k37=>k_is))
   (case a38=>(refine' My.FA.mk ?j38 ?l38 ?c38 ?k38);(case j38=>k_is);(case l38=>k_is);(case c38=>k_is);(case k38=>k_is))
   (case a39=>(refine' My.FA.mk ?j39 ?l39 ?c39 ?k39);(case j39=>k_is);(case l39=>k_is);(case c39=>k_is);(case k39=>k_is))
   (case a40=>(refine' My.FA.mk ?j40 ?l40 ?c40 ?k40);(case j40=>k_is);(case l40=>k_is);(case c40=>k_is);(case k40=>k_is))
   (case a49=>(refine' My.FA.mk ?j49 ?l49 ?c49 ?k49);(case j49=>k_is);(case l49=>k_is);(case c49=>k_is);(case k49=>k_is))
   (case a50=>(refine' My.FA.mk ?j50 ?l50 ?c50 ?k50);(case j50=>k_is);(case l50=>k_is);(case c50=>k_is);(case k50=>k_is))
   (case a51=>(refine' My.FA.mk ?j51 ?l51 ?c51 ?k51);(case j51=>k_is);(case l51=>k_is);(case c51=>k_is);(case k51=>k_is))
   (case a52=>(refine' My.FA.mk ?j52 ?l52 ?c52 ?k52);(case j52=>k_is);(case l52=>k_is);(case c52=>k_is);(case k52=>k_is))
   (case a53=>(refine' My.FA.mk ?j53 ?l53 ?c53 ?k53);(case j53=>k_is);(case l53=>k_is);(case c53=>k_is);(case k53=>k_is))
   (case a54=>(refine' My.FA.mk ?j54 ?l54 ?c54 ?k54);(case j54=>k_is);(case l54=>k_is);(case c54=>k_is);(case k54=>k_is))
   (case a55=>(refine' My.FA.mk ?j55 ?l55 ?c55 ?k55);(case j55=>k_is);(case l55=>k_is);(case c55=>k_is);(case k55=>k_is))
   (case a56=>(refine' My.FA.mk ?j56 ?l56 ?c56 ?k56);(case j56=>k_is);(case l56=>k_is);(case c56=>k_is);(case k56=>k_is))
   (case a57=>(refine' My.FA.mk ?j57 ?l57 ?c57 ?k57);(case j57=>k_is);(case l57=>k_is);(case c57=>k_is);(case k57=>k_is))
   (case a58=>(refine' My.FA.mk ?j58 ?l58 ?c58 ?k58);(case j58=>k_is);(case l58=>k_is);(case c58=>k_is);(case k58=>k_is))
   (case a59=>(refine' My.FA.mk ?j59 ?l59 ?c59 ?k59);(case j59=>k_is);(case l59=>k_is);(case c59=>k_is);(case k59=>k_is))
   (case a60=>(refine' My.FA.mk ?j60 ?l60 ?c60 ?k60);(case j60=>k_is);(case l60=>k_is);(case c60=>k_is);(case k60=>k_is))
   (case a61=>(refine' My.FA.mk ?j61 ?l61 ?c61 ?k61);(case j61=>k_is);(case l61=>k_is);(case c61=>k_is);(case k61=>k_is))
   (case a62=>(refine' My.FA.mk ?j62 ?l62 ?c62 ?k62);(case j62=>k_is);(case l62=>k_is);(case c62=>k_is);(case k62=>k_is))
   (case a63=>(refine' My.FA.mk ?j63 ?l63 ?c63 ?k63);(case j63=>k_is);(case l63=>k_is);(case c63=>k_is);(case k63=>k_is))
   (case a64=>(refine' My.FA.mk ?j64 ?l64 ?c64 ?k64);(case j64=>k_is);(case l64=>k_is);(case c64=>k_is);(case k64=>k_is))
   (case q0=>k_is)
   (case r0=>k_is)
   (case t0=>rfl)
   (case y0=>rfl)
   (case u0=>rfl)
   (case v0=>repeat (first|exact L2.zY|refine L2.lX rfl ?_|refine L2.lX ⟨_,rfl⟩ ?_))
   (case q1=>k_is)
   (case q2=>k_is)
   (case r2=>k_is)
   (case t2=>rfl)
   (case y2=>rfl)
   (case u2=>rfl)
   (case v2=>repeat (first|exact L2.zY|refine L2.lX rfl ?_|refine L2.lX ⟨_,rfl⟩ ?_))
   (case q3=>k_is)
   (case q4=>k_is)
   (case q5=>k_is)
   (case q6=>k_is)
   (case q7=>k_is)
   (case z0=>k_is)
   (case z1=>k_is)
   (case z2=>k_is)
   (case z3=>k_is)
   (case z4=>k_is)
   (case z5=>k_is)
   (case z6=>k_is)
   (case z7=>k_is)
   (case z8=>k_is)
   (case z9=>k_is)
   (case z10=>k_is)
   (case z11=>k_is)
   (case z12=>k_is)
   (case z13=>k_is)
   (case z14=>k_is)
   (case z15=>k_is)
   (case eTown=>(refine' My.CA.mk ?j ?p1 ?p2 ?p3 ?p4 ?p5 ?p6);(case j=>k_is);(case p1=>first|k_is|kernel_rfl|decide +kernel);(case p2=>first|k_is|kernel_rfl|decide +kernel);(case p3=>first|k_is|kernel_rfl|decide +kernel);(case p4=>first|k_is|kernel_rfl|decide +kernel);(case p5=>first|k_is|kernel_rfl|decide +kernel);(case p6=>first|k_is|kernel_rfl|decide +kernel))
   (case b0=>(refine' My.MA.mk ?j ?i ?l ?c ?k);(case j=>k_is);(case i=>first|k_is|kernel_rfl|decide +kernel);(case l=>k_is);(case c=>k_is);(case k=>k_is))
   (case b1=>(refine' My.MA.mk ?j ?i ?l ?c ?k);(case j=>k_is);(case i=>first|k_is|kernel_rfl|decide +kernel);(case l=>k_is);(case c=>k_is);(case k=>k_is))
   (case b2=>(refine' My.MA.mk ?j ?i ?l ?c ?k);(case j=>k_is);(case i=>first|k_is|kernel_rfl|decide +kernel);(case l=>k_is);(case c=>k_is);(case k=>k_is))
   (case b3=>(refine' My.MA.mk ?j ?i ?l ?c ?k);(case j=>k_is);(case i=>first|k_is|kernel_rfl|decide +kernel);(case l=>k_is);(case c=>k_is);(case k=>k_is))
   (case b4=>(refine' My.MA.mk ?j ?i ?l ?c ?k);(case j=>k_is);(case i=>first|k_is|kernel_rfl|decide +kernel);(case l=>k_is);(case c=>k_is);(case k=>k_is))
   (case b5=>(refine' My.MA.mk ?j ?i ?l ?c ?k);(case j=>k_is);(case i=>first|k_is|kernel_rfl|decide +kernel);(case l=>k_is);(case c=>k_is);(case k=>k_is))
   (case d0=>(unfold L2.bN);k_is)
   (case d1=>(unfold L2.bN);k_is)
   (case eStore=>(refine' My.CA.mk ?j ?p1 ?p2 ?p3 ?p4 ?p5 ?p6);(case j=>k_is);(case p1=>first|k_is|kernel_rfl|decide +kernel);(case p2=>first|k_is|kernel_rfl|decide +kernel);(case p3=>first|k_is|kernel_rfl|decide +kernel);(case p4=>first|k_is|kernel_rfl|decide +kernel);(case p5=>first|k_is|kernel_rfl|decide +kernel);(case p6=>first|k_is|kernel_rfl|decide +kernel))
   (case b6=>(refine' My.MA.mk ?j ?i ?l ?c ?k);(case j=>k_is);(case i=>first|k_is|kernel_rfl|decide +kernel);(case l=>k_is);(case c=>k_is);(case k=>k_is))
   (case b7=>(refine' My.MA.mk ?j ?i ?l ?c ?k);(case j=>k_is);(case i=>first|k_is|kernel_rfl|decide +kernel);(case l=>k_is);(case c=>k_is);(case k=>k_is))
   (case b8=>(refine' My.MA.mk ?j ?i ?l ?c ?k);(case j=>k_is);(case i=>first|k_is|kernel_rfl|decide +kernel);(case l=>k_is);(case c=>k_is);(case k=>k_is))
   (case b9=>(refine' My.MA.mk ?j ?i ?l ?c ?k);(case j=>k_is);(case i=>first|k_is|kernel_rfl|decide +kernel);(case l=>k_is);(case c=>k_is);(case k=>k_is))
   (case b10=>(refine' My.MA.mk ?j ?i ?l ?c ?k);(case j=>k_is);(case i=>first|k_is|kernel_rfl|decide +kernel);(case l=>k_is);(case c=>k_is);(case k=>k_is))
   (case b11=>(refine' My.MA.mk ?j ?i ?l ?c ?k);(case j=>k_is);(case i=>first|k_is|kernel_rfl|decide +kernel);(case l=>k_is);(case c=>k_is);(case k=>k_is))
   (case b12=>(refine' My.MA.mk ?j ?i ?l ?c ?k);(case j=>k_is);(case i=>first|k_is|kernel_rfl|decide +kernel);(case l=>k_is);(case c=>k_is);(case k=>k_is))
   (case b13=>(refine' My.MA.mk ?j ?i ?l ?c ?k);(case j=>k_is);(case i=>first|k_is|kernel_rfl|decide +kernel);(case l=>k_is);(case c=>k_is);(case k=>k_is))
   (case d2=>(unfold L2.bN);k_is)
   (case d3=>(unfold L2.bN);k_is)
   (case d4=>(unfold L2.bN);k_is)
   (case xa=>(refine' My.XA.mk ?y0 ?y1 ?y3 ?r0 ?r1 ?r2 ?r3 ?y4 ?r4 ?y5 ?y6 ?y7 ?y8 ?y9 ?y10 ?y11 ?y12 ?y13 ?y14 ?y15 ?y16 ?y17 ?y18 ?y20);(case y0=>k_is);(case y1=>k_is);(case y3=>k_is);(case r0=>first|rfl|decide +kernel);(case r1=>first|rfl|decide +kernel);(case r2=>first|rfl|decide +kernel);(case r3=>first|rfl|decide +kernel);(case y4=>k_is);(case r4=>first|rfl|decide +kernel);(case y5=>k_is);(case y6=>k_is);(case y7=>k_is);(case y8=>k_is);(case y9=>k_is);(case y10=>k_is);(case y11=>k_is);(case y12=>k_is);(case y13=>k_is);(case y14=>k_is);(case y15=>k_is);(case y16=>k_is);(case y17=>k_is);(case y18=>k_is);(case y20=>k_is))
  have C:L2.aQy (L2.KOf KX) mg "are_cuts" 254:=by
   dsimp only [L2.KOf]
   refine' My.aX6 KX G ?a ?l ?e1 ?e2 ?h
   (case a=>k_is)
   (case l=>k_is)
   (case e1=>rfl)
   (case e2=>rfl)
   (case h=>first|k_is|kernel_rfl|decide +kernel)
  exact My.aWx (P:=PySem.Challenge.rw_shardask_k61_split.prog) T C hmg
