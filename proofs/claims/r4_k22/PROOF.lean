import PyProof.Rows.All
import Wide.All
import OpenK.AllK
import Wide.FinOn
import Lean
import PyProof.EqAt
import PyProof.EqKinds
import PyProof.TupleCall
import PyProof.CallType
import PyProof.WalkLemmas
import PyProof.StrOps
import PyProof.ForAny
import PyProof.IsInstanceH
import PyProof.IsiFacts
import PyProof.IsiFacts2
import PyProof.FactsAll.object
import PyProof.ListMulRoad
import PyProof.FactsAll.tuple_2
import PyProof.StrLawsIdx
import KE.KDictList
import PyProof.Rows.Range3
import PyProof.EnumMake
import PyProof.EnumFor
import PyProof.CompUse
import PyProof.ListStr
import PyProof.NeKinds
import PyProof.IsInstanceT
import PyProof.FString5
import PyProof.Rows.SeqMore2
import PyProof.IsiPairs
import PyProof.StrCalls3
import KE.KSortTup
import KE.KSortKey
import PyProof.Rows.SortStr
import KE.KLam
import KE.KDictOf
import KE.KEqDict
import KE.KDictSum
import PyProof.AttrMissHeap
import PyProof.DictWalks
import PyProof.Rows.TupTab
import PyProof.DictItems
import PyProof.FactsAll.set_1
import KE.KRevIter
import PySem.Challenge.RW_shardask_k22_town_stays
set_option Elab.async false
set_option linter.all false
set_option maxRecDepth 100000
set_option maxHeartbeats 6400000
local macro_rules
  | `(tactic| trivial) => `(tactic| first | exact Or.inl rfl | exact Or.inr rfl | exact Or.inr (Or.inl rfl) | exact Or.inr (Or.inr rfl) | exact ⟨rfl, rfl, rfl, by decide +kernel, rfl, by decide +kernel, by decide +kernel⟩ | exact ⟨by decide +kernel, rfl, by decide +kernel, by decide +kernel⟩ | fail)
namespace L2
open PySem PySem.Spec PyProof.Rows
abbrev Key:=Sum Int Str
def oA:Key→Value→Bool
 |.inl k,v=>Value.isInt k v
 |.inr x,v=>Value.isStrOf x v
def aXc (w:World):Key→Int
 |.inl k=>hashInt k
 |.inr x=>hashStr w x
theorem cD:∀{k:Key} {v:Value},oA k v=true→(∃i t,k=Sum.inl i∧v=Value.int i t)∨(∃x t,k=Sum.inr x∧v=Value.str x t)
 |.inl i,v,h=>by
  obtain ⟨t,e⟩:=Value.isInt_shape (k:=i) (v:=v) h
  exact .inl ⟨i,t,rfl,e⟩
 |.inr x,v,h=>by
  obtain ⟨t,e⟩:=Value.isStrOf_shape (x:=x) (v:=v) h
  exact .inr ⟨x,t,rfl,e⟩
theorem aCc (i:Int) (t:Tok):oA (.inl i) (.int i t)=true:=by simp [oA,Value.isInt]
theorem aB2 (x:Str) (t:Tok):oA (.inr x) (.str x t)=true:=by simp [oA,Value.isStrOf]
theorem aTy (a b:Int):decide ((Sum.inl a:Key)=Sum.inl b)=(a == b):=by
 by_cases e:a=b
 ·subst e;simp
 ·have h:¬ (Sum.inl a:Key)=Sum.inl b:=fun q=>e (Sum.inl.inj q)
  rw [decide_eq_false h]
  exact (beq_eq_false_iff_ne.mpr e).symm
theorem aTe (a b:Str):decide ((Sum.inr a:Key)=Sum.inr b)=decide (a=b):=by
 by_cases e:a=b
 ·subst e;simp
 ·have h:¬ (Sum.inr a:Key)=Sum.inr b:=fun q=>e (Sum.inr.inj q)
  rw [decide_eq_false h,decide_eq_false e]
theorem aTm (a:Int) (b:Str):decide ((Sum.inl a:Key)=Sum.inr b)=false:=decide_eq_false (fun q=>nomatch q)
theorem aS9 (a:Str) (b:Int):decide ((Sum.inr a:Key)=Sum.inl b)=false:=decide_eq_false (fun q=>nomatch q)
def bC (prog:Program) (w:World):PySem.KeyKind prog w Key where
 is:=oA
 hash:=aXc w
 inj:=fun v a b ha hb=>by
  rcases cD ha with ⟨i,t,rfl,rfl⟩|⟨x,t,rfl,rfl⟩
  ·rcases cD hb with ⟨j,u,rfl,e⟩|⟨y,u,rfl,e⟩
   ·injection e with e1 _;rw [e1]
   ·exact nomatch e
  ·rcases cD hb with ⟨j,u,rfl,e⟩|⟨y,u,rfl,e⟩
   ·exact nomatch e
   ·injection e with e1 _;rw [e1]
 byValue:=fun k v h=>by
  rcases cD h with ⟨i,t,rfl,rfl⟩|⟨x,t,rfl,rfl⟩ <;> rfl
 pyHash:=fun hv h=>by
  rcases cD hv with ⟨i,t,rfl,rfl⟩|⟨x,t,rfl,rfl⟩
  ·exact wpAny_pyHash_int h
  ·exact wpAny_pyHash_str h
 eqBool:=fun hu hv h=>by
  rcases cD hu with ⟨i,t,rfl,rfl⟩|⟨x,t,rfl,rfl⟩
  ·rcases cD hv with ⟨j,u,rfl,rfl⟩|⟨y,u,rfl,rfl⟩
   ·rw [aTy] at h;exact wpAny_eqBool_int h
   ·rw [aTm] at h;exact SeqAt.EqAt.int_str i t y u _ _ _ _ h
  ·rcases cD hv with ⟨j,u,rfl,rfl⟩|⟨y,u,rfl,rfl⟩
   ·rw [aS9] at h;exact SeqAt.EqAt.str_int x t j u _ _ _ _ h
   ·rw [aTe] at h;exact wpAny_eqBool_str h
 «strs»:=fun k x t v h=>by
  rcases cD h with ⟨i,u,rfl,e⟩|⟨y,u,rfl,e⟩
  ·exact nomatch e
  ·injection e with e1 _
   subst e1
   cases v <;> rfl
theorem aFs (prog:Program) (w:World) (i:Int) (t:Tok):(bC prog w).is (.inl i) (.int i t)=true:=aCc i t
theorem aE0 (prog:Program) (w:World) (x:Str) (t:Tok):(bC prog w).is (.inr x) (.str x t)=true:=aB2 x t
inductive V where
 |non|bl (b:Bool)|int (i:Int)|str (x:Str)|byt (b:Array UInt8)|flt (b:UInt64)|ref (a:Addr)|ty (n:String)
 deriving DecidableEq
def RelV:V→Value→Prop
 |.non,u=>u=Value.none
 |.bl b,u=>u=Value.bool b
 |.int i,u=>∃t,u=Value.int i t
 |.str x,u=>∃t,u=Value.str x t
 |.byt b,u=>∃t,u=Value.bytes b t
 |.flt b,u=>∃t,u=Value.float b t
 |.ref a,u=>u=Value.ref a
 |.ty n,u=>u=Value.type n
abbrev Vals:List V→List Value→Prop:=Paired RelV
theorem Vals.length {xs:List V} {us:List Value} (r:Vals xs us):xs.length=us.length:=Paired.length r
theorem Vals.get:∀{xs:List V} {us:List Value} {i:Nat} {x:V},Vals xs us→xs[i]?=some x→∃u,us[i]?=some u∧RelV x u
 |_,_,_,_,.nil,e=>by simp at e
 |_,_,0,_,.cons r _,e=>by simp at e;subst e;exact ⟨_,rfl,r⟩
 |_,_,i+1,x,.cons _ t,e=>by
  obtain ⟨u,h1,h2⟩:=Vals.get (i:=i) (x:=x) t (by simpa using e)
  exact ⟨u,by simpa using h1,h2⟩
theorem Vals.set {x:V} {u:Value} (r:RelV x u):∀{xs:List V} {us:List Value} (i:Nat),Vals xs us→Vals (xs.set i x) (us.set i u)
 |_,_,_,.nil=>.nil
 |_,_,0,.cons _ t=>.cons r t
 |_,_,i+1,.cons q t=>.cons q (Vals.set r i t)
theorem Vals.append:∀{xs ys:List V} {us ws:List Value},Vals xs us→Vals ys ws→Vals (xs++ys) (us++ws)
 |_,_,_,_,.nil,s=>s
 |_,_,_,_,.cons r t,s=>.cons r (Vals.append t s)
theorem Vals.take:∀{xs:List V} {us:List Value} (n:Nat),Vals xs us→Vals (xs.take n) (us.take n)
 |_,_,0,_=>.nil
 |_,_,_+1,.nil=>.nil
 |_,_,n+1,.cons r t=>.cons r (Vals.take n t)
theorem Vals.drop:∀{xs:List V} {us:List Value} (n:Nat),Vals xs us→Vals (xs.drop n) (us.drop n)
 |_,_,0,r=>r
 |_,_,_+1,.nil=>.nil
 |_,_,n+1,.cons _ t=>Vals.drop n t
def pP:Option V→Option Value→Prop
 |some v,some u=>RelV v u
 |none,none=>True
 |_,_=>False
def KV {κ:Type}:List (κ × V)→List (κ × Value)→Prop:=Paired fun (p:κ × V) (q:κ × Value)=>p.1=q.1∧RelV p.2 q.2
def kV:Key→V
 |.inl i=>.int i
 |.inr x=>.str x
inductive HO where
  |lst (xs:List V)
  |tup (xs:List V)
  |dK (kvs:List (Key × V))|dT (kvs:List (List Key × V))
  |set (S:Int→Bool) (n:Nat)
  |ins (C dx:Addr) (fs:List (Str × V))
  |own (x:Addr)
  |xd (fs:List (Str × V))
  |met (f x:Addr)
  |rng (lo hi:Int)
  |frz (o:Obj) (u:HO)
  |tbl (ps:Array Value)
  |tab (q:Str)
  |ext (φ:Heap→Prop)
abbrev Hp:=Addr→Option HO
def upd (H:Hp) (a:Addr) (o:HO):Hp:=fun b=>if b=a then some o else H b
theorem aK {H:Hp} {a:Addr} {o:HO}:upd H a o a=some o:=by unfold upd;rw [if_pos rfl]
theorem aM {H:Hp} {a b:Addr} {o:HO} (h:b≠a):upd H a o b=H b:=by unfold upd;rw [if_neg h]
theorem aR2 {H:Hp} {a:Addr} {o u:HO}:upd (upd H a o) a u=upd H a u:=by
 funext b;unfold upd;split <;> rfl
theorem aEp {H:Hp} {a b:Addr} {o u:HO} (h:H a=some o) (h':H b=some u) (d:o≠u):a≠b:=by
 intro e;subst e;rw [h] at h';exact d (Option.some.inj h')
theorem aY {H:Hp} {a b:Addr} {o:HO} (h:H a=some o) (h':H b=none):a≠b:=by
 intro e;subst e;rw [h] at h';cases h'
def xF (h:Heap) (a:Addr) (items:Array Value):Prop:=IsTup h a items∧∀o,h.get? a=some o→o.dict=none
theorem xF.of {h:Heap} {a:Addr} {items:Array Value} {o:Obj} (e:h.get? a=some o) (d:o.dict=none) (x:IsTup h a items):xF h a items:=⟨x,fun o' e'=>by rw [e] at e';cases e';exact d⟩
theorem xF.new (h:Heap) (items:Array Value):xF (h.push { cls:=.type "tuple",data:=.seq items }) h.objs.size items:=.of (Heap.get?_push_size _ rfl) rfl (IsTup.new _ _)
theorem xF.keep {h h':Heap} {a:Addr} {items:Array Value} (x:xF h a items) (k:∀o,h.get? a=some o→h'.get? a=some o):xF h' a items:=by
 obtain ⟨⟨o,e,c⟩,d⟩:=x
 exact .of (k o e) (d o e) ⟨o,k o e,c⟩
section
variable (P:Program) (w:World)
def cT (H:Hp) (h:Heap) (a:Addr):HO→Prop
 |.lst xs=>xs.length≤sizeLine∧∃(its:List Value) (n:Nat),Vals xs its∧h.get? a=some { cls:=.type "list",data:=.seq its.toArray n }
 |.tup xs=>xs.length≤sizeLine∧∃its:List Value,Vals xs its∧xF h a its.toArray
 |.dK kvs=>kvs.length≤sizeLine∧(a == sysModules)=false∧∃vs,KV kvs vs∧h.DictOf (bC P w) a vs
 |.dT kvs=>kvs.length≤sizeLine∧(a == sysModules)=false∧∃xs:List (List Key × Addr × Value),
   Paired (fun (p:List Key × V) (q:List Key × Addr × Value)=>p.1=q.1∧H q.2.1=some (.tup (p.1.map kV))∧RelV p.2 q.2.2) kvs xs ∧
   ∃o es ep,h.get? a=some o∧o.ExactDict∧o.data=.dict es ep∧es.toList=xs.map (entryOfKey (tupleKind (bC P w)))∧(xs.map (·.1)).Nodup
 |.set S n=>h.SetOf (intKind P w) a S n
 |.ins C dx fs=>H dx=some (.own a)∧fs.length≤1000∧dx≠a∧h.get? a=some (PySem.W.instObj C dx) ∧
   ∃mA,h.Ns1 dx mA∧(∀f,pP (fs.lookup f) (mA f))∧PySem.Within mA (fs.map (·.1))
 |.own _=>∃o,h.get? a=some o
 |.xd fs=>∃mA,h.Ns1 a mA∧∀f,pP (fs.lookup f) (mA f)
 |.rng lo hi=>∃t u v,h.get? a=some { cls:=.type "range",data:=.fields #[.int lo t,.int hi u,.int 1 v] }
 |.frz o u=>h.get? a=some o∧cT H h a u
 |.tbl ps=>h.get? a=some { cls:=.none,data:=.fields ps }
 |.tab q=>∃ps:Array Value,h.get? a=some { cls:=.none,data:=.fields ps }∧TriplesOk ps.toList∧∀(pos:Pos) (cv:Value),codeAmong pos ps.toList=some cv→∃(c:Addr) (oc:Obj) (vs:Array Value) (t:Tok),cv=.ref c∧H c=some (.own a)∧h.get? c=some oc∧oc.data=.fields vs∧vs[1]?=some (.str q t)
 |.met f x=>h.get? a=some (PySem.W.methodObj (.ref f) (.ref x))
 |.ext φ=>φ h∧(∃o,h.get? a=some o)∧∀h1 h2:Heap,φ h1→(∀o,h1.get? a=some o→h2.get? a=some o)→φ h2
def HOk (H:Hp) (h:Heap):Prop:=∀a o,H a=some o→cT P w H h a o
end
section
variable {P:Program} {w:World} {H H':Hp} {h h':Heap} {a:Addr} {o:HO}
theorem cT.lt (x:cT P w H h a o):a<h.objs.size:=by
 cases o with
 |lst xs=>obtain ⟨_,_,_,_,e⟩:=x;exact Heap.lt_size e
 |tup xs=>obtain ⟨_,_,_,p⟩:=x;exact p.1.lt
 |dK kvs=>obtain ⟨_,_,_,_,o,_,_,e,_⟩:=x;exact Heap.lt_size e
 |dT kvs=>obtain ⟨_,_,_,_,o,_,_,e,_⟩:=x;exact Heap.lt_size e
 |set S n=>obtain ⟨o,_,_,_,e,_⟩:=x;exact Heap.lt_size e
 |ins C dx fs=>obtain ⟨_,_,_,e,_⟩:=x;exact Heap.lt_size e
 |own y=>obtain ⟨_,e⟩:=x;exact Heap.lt_size e
 |xd fs=>obtain ⟨_,⟨_,_,_,e,_⟩,_⟩:=x;exact Heap.lt_size e
 |rng lo hi=>obtain ⟨_,_,_,e⟩:=x;exact Heap.lt_size e
 |frz ob u=>obtain ⟨e,_⟩:=x;exact Heap.lt_size e
 |tbl ps=>exact Heap.lt_size (show h.get? a=some _ from x)
 |tab q=>obtain ⟨_,e,_⟩:=x;exact Heap.lt_size e
 |met f y=>exact Heap.lt_size (show h.get? a=some _ from x)
 |ext φ=>obtain ⟨_,⟨_,e⟩,_⟩:=x;exact Heap.lt_size e
theorem Paired.aUr {α β:Type} {F G:α→β→Prop}:∀{l₁:List α} {l₂:List β},Paired F l₁ l₂→(∀a b,F a b→G a b)→Paired G l₁ l₂
 |_,_,.nil,_=>.nil
 |_,_,.cons r t,f=>.cons (f _ _ r) (Paired.aUr t f)
theorem cT.stay (x:cT P w H h a o) (k:∀b u,(b=a∨H b=some (.own a))→h.get? b=some u→h'.get? b=some u)
  (ho:∀b,H b=some (.own a)→H' b=some (.own a)) (ht:∀b xs,H b=some (.tup xs)→H' b=some (.tup xs)):cT P w H' h' a o:=by
 induction o with
 |lst xs=>obtain ⟨z,its,n,r,e⟩:=x;exact ⟨z,its,n,r,k _ _ (.inl rfl) e⟩
 |tup xs=>obtain ⟨z,its,r,p⟩:=x;exact ⟨z,its,r,p.keep fun o e=>k _ _ (.inl rfl) e⟩
 |dK kvs=>obtain ⟨z,y,vs,r,ob,es,ep,e,c⟩:=x;exact ⟨z,y,vs,r,ob,es,ep,k _ _ (.inl rfl) e,c⟩
 |dT kvs=>
  obtain ⟨z,y,xs,r,ob,es,ep,e,c⟩:=x
  exact ⟨z,y,xs,Paired.aUr r fun p q z=>⟨z.1,ht _ _ z.2.1,z.2.2⟩,ob,es,ep,k _ _ (.inl rfl) e,c⟩
 |set S n=>obtain ⟨ob,es,ep,t,e,c⟩:=x;exact ⟨ob,es,ep,t,k _ _ (.inl rfl) e,c⟩
 |ins C dx fs=>
  obtain ⟨d,z,ne,e,mA,⟨od,es,ep,e2,c⟩,r⟩:=x
  exact ⟨ho _ d,z,ne,k _ _ (.inl rfl) e,mA,⟨od,es,ep,k _ _ (.inr d) e2,c⟩,r⟩
 |own y=>obtain ⟨ob,e⟩:=x;exact ⟨ob,k _ _ (.inl rfl) e⟩
 |xd fs=>obtain ⟨mA,⟨od,es,ep,e,c⟩,r⟩:=x;exact ⟨mA,⟨od,es,ep,k _ _ (.inl rfl) e,c⟩,r⟩
 |rng lo hi=>obtain ⟨t,u,v,e⟩:=x;exact ⟨t,u,v,k _ _ (.inl rfl) e⟩
 |frz ob u ih=>obtain ⟨e,q⟩:=x;exact ⟨k _ _ (.inl rfl) e,ih q⟩
 |tab q=>obtain ⟨ps,e,t,c⟩:=x;exact ⟨ps,k _ _ (.inl rfl) e,t,fun pos cv q=>let ⟨c',oc,vs,tk,a1,a2,a3,a4⟩:=c pos cv q;⟨c',oc,vs,tk,a1,ho _ a2,k _ _ (.inr a2) a3,a4⟩⟩
 |tbl ps=>
  have e:h.get? a=some { cls:=.none,data:=.fields ps }:=x
  show h'.get? a=some { cls:=.none,data:=.fields ps }
  exact k a _ (.inl rfl) e
 |met f y=>
  have e:h.get? a=some (PySem.W.methodObj (.ref f) (.ref y)):=x
  show h'.get? a=some (PySem.W.methodObj (.ref f) (.ref y))
  exact k a _ (.inl rfl) e
 |ext φ=>obtain ⟨p,⟨o,e⟩,st⟩:=x;exact ⟨st _ _ p fun o q=>k _ _ (.inl rfl) q,⟨o,k _ _ (.inl rfl) e⟩,st⟩
theorem HOk.lt (x:HOk P w H h) (e:H a=some o):a<h.objs.size:=(x a o e).lt
theorem HOk.fresh (x:HOk P w H h) (e:h.objs.size≤a):H a=none:=by
 cases q:H a with
 |none=>rfl
 |some u=>exact absurd (Nat.lt_of_lt_of_le (x.lt q) e) (Nat.lt_irrefl _)
theorem HOk.kept (x:HOk P w H h) (k:∀b u,h.get? b=some u→h'.get? b=some u):HOk P w H h':=fun a o e=>
 (x a o e).stay (fun b u _ q=>k b u q) (fun _ q=>q) fun _ _ q=>q
theorem HOk.laid (x:HOk P w H h) (k:∀b u,h.get? b=some u→h'.get? b=some u) (hp:h.objs.size≤a) (new:cT P w (upd H a o) h' a o):HOk P w (upd H a o) h':=fun b u e=>by
 have hn:=x.fresh hp
 by_cases hb:b=a
 ·subst hb;rw [aK] at e;cases e;exact new
 ·rw [aM hb] at e
  exact (x b u e).stay (fun c v _ q=>k c v q) (fun c q=>by rw [aM (aY q hn)];exact q) fun c xs q=>by rw [aM (aY q hn)];exact q
end
def Rd (H:Hp) (a:Addr) (u:HO):Prop:=H a=some u∨∃o,H a=some (.frz o u)
theorem Rd.ok {P:Program} {w:World} {H:Hp} {h:Heap} {a:Addr} {u:HO} (r:Rd H a u) (x:HOk P w H h):cT P w H h a u:=by
 rcases r with r|⟨o,r⟩
 ·exact x a u r
 ·obtain ⟨_,q⟩:=x a _ r
  exact q
def Mut:Option HO→Prop
 |some (.lst _)=>True
 |some (.dK _)=>True
 |some (.dT _)=>True
 |some (.set _ _)=>True
 |some (.ins _ _ _)=>True
 |some (.ext _)=>True
 |some (.tab _)=>True
 |_=>False
section
variable {P:Program} {w:World} {H:Hp} {h h':Heap} {x e:Addr} {o':HO}
theorem HOk.write (ok:HOk P w H h) (mu:Mut (H x)) (he:e=x∨H e=some (.own x)) (k:∀b u,b≠e→h.get? b=some u→h'.get? b=some u) (heo:∃u,h'.get? e=some u)
  (new:cT P w (upd H x o') h' x o'):HOk P w (upd H x o') h':=fun b u q=>by
 have nown:∀c y,H c=some (.own y)→c≠x:=fun c y r z=>by subst z;rw [r] at mu;exact mu
 have ntup:∀c xs,H c=some (.tup xs)→c≠x:=fun c xs r z=>by subst z;rw [r] at mu;exact mu
 by_cases hb:b=x
 ·subst hb;rw [aK] at q;cases q;exact new
 ·rw [aM hb] at q
  by_cases hbe:b=e
  ·have q':H b=some (.own x):=by
    rcases he with z|z
    ·exact absurd (hbe.trans z) hb
    ·rw [hbe];exact z
   rw [q] at q';cases q'
   obtain ⟨v,hv⟩:=heo
   exact ⟨v,by rw [hbe];exact hv⟩
  ·refine (ok b u q).stay (fun c v hc r=>k c v ?_ r) (fun c r=>by rw [aM (nown c b r)];exact r) fun c xs r=>by rw [aM (ntup c xs r)];exact r
   rcases hc with rfl|hc
   ·exact hbe
   ·rintro rfl
    rcases he with z|z
    ·exact nown c b hc z
    ·rw [hc] at z;cases z;exact hb rfl
end
structure Un (fs ex:List Addr) (H H':Hp) (h h':Heap):Prop where
 keep:∀b o,h.get? b=some o→H b=none→b∉fs→b∉ex→h'.get? b=some o
 slot:∀b o,h.get? b=some o→H b=none→b∈fs→b∉ex→∃sl,h'.get? b=some { o with slots:=sl }
 free:∀b o,h.get? b=some o→H b=none→b∉ex→H' b=none
 there:∀b o,h.get? b=some o→b∉ex→∃o',h'.get? b=some o'
 tups:∀b xs,H b=some (.tup xs)→H' b=some (.tup xs)
 frzs:∀b o u,H b=some (.frz o u)→H' b=some (.frz o u)
 tbls:∀b ps,H b=some (.tbl ps)→∃more,H' b=some (.tbl (ps++more))
section
variable {fs fs' ex ex':List Addr} {H H1 H2:Hp} {h h1 h2 h':Heap} {a x e:Addr} {o:HO}
theorem Un.any (u:Un fs ex H H1 h h1) {b:Addr} {ob:Obj} (q:h.get? b=some ob) (n:H b=none) (hx:b∉ex):∃sl,h1.get? b=some { ob with slots:=sl }:=by
 by_cases hb:b∈fs
 ·exact u.slot b ob q n hb hx
 ·exact ⟨ob.slots,u.keep b ob q n hb hx⟩
theorem Un.kept (k:∀b u,h.get? b=some u→h'.get? b=some u):Un fs ex H H h h':=
 ⟨fun b ob q _ _ _=>k b ob q,fun b ob q _ _ _=>⟨ob.slots,k b ob q⟩,fun _ _ _ n _=>n,fun b ob q _=>⟨ob,k b ob q⟩,fun _ _ q=>q,fun _ _ _ q=>q,fun _ ps q=>⟨#[],by rw [q];simp⟩⟩
theorem Un.refl:Un fs ex H H h h:=Un.kept fun _ _ q=>q
theorem Un.laid (k:∀b u,h.get? b=some u→h'.get? b=some u) (hp:h.objs.size≤a) (hn:H a=none):Un fs ex H (upd H a o) h h' where
 keep:=fun b u q _ _ _=>k b u q
 slot:=fun b u q _ _ _=>⟨u.slots,k b u q⟩
 free:=fun b u q n _=>by rw [aM (Nat.ne_of_lt (Nat.lt_of_lt_of_le (Heap.lt_size q) hp))];exact n
 there:=fun b u q _=>⟨u,k b u q⟩
 tups:=fun b xs q=>by rw [aM (aY q hn)];exact q
 frzs:=fun b u xs q=>by rw [aM (aY q hn)];exact q
 tbls:=fun b ps q=>⟨#[],by rw [aM (aY q hn),q];simp⟩
theorem Un.write (mu:Mut (H x)) (he:e=x∨H e=some (.own x)) (k:∀b u,b≠e→h.get? b=some u→h'.get? b=some u) (heo:∃u,h'.get? e=some u):Un fs ex H (upd H x o) h h':=by
 have hx:∀b,H b=none→b≠x:=fun b n z=>by subst z;rw [n] at mu;exact mu
 have hb:∀b,H b=none→b≠e:=fun b n z=>by
  subst z
  rcases he with r|r
  ·exact hx b n r
  ·rw [n] at r;cases r
 have hm:∀b u,H b=some u→¬ Mut (some u)→b≠x:=fun b u q nm z=>by subst z;rw [q] at mu;exact nm mu
 refine ⟨fun b u q n _ _=>k b u (hb b n) q,fun b u q n _ _=>⟨u.slots,k b u (hb b n) q⟩,fun b u q n _=>by rw [aM (hx b n)];exact n,fun b u q _=>?_,
  fun b xs q=>by rw [aM (hm b _ q fun z=>z)];exact q,fun b u xs q=>by rw [aM (hm b _ q fun z=>z)];exact q,fun b ps q=>⟨#[],by rw [aM (hm b _ q fun z=>z),q];simp⟩⟩
 by_cases hbe:b=e
 ·subst hbe;exact heo
 ·exact ⟨u,k b u hbe q⟩
end
def trk (h:Heap) (H:Hp):List Addr:=(List.range h.objs.size).filter fun a=>(H a).isSome
def aBa (h:Heap) (H:Hp):Heap:=PySem.W.hideAll h (trk h H)
theorem aL3 (h:Heap) (H:Hp):(aBa h H).objs.size=h.objs.size:=PySem.W.hideAll_size _ _
theorem aNz {h:Heap} {H:Hp} {b:Addr} {o:Obj} (e:h.get? b=some o) (n:H b=none):(aBa h H).get? b=some o:=
 PySem.W.hideAll_get _ e fun hm=>by
  have q:(H b).isSome=true:=(List.mem_filter.mp hm).2
  rw [n] at q;simp at q
theorem aQ8 {h:Heap} {H:Hp} {b:Addr} {o:Obj} (e:(aBa h H).get? b=some o):h.get? b=some o∧H b=none:=by
 have e':h.get? b=some o:=PySem.W.of_hideAll (trk h H) e
 refine ⟨e',?_⟩
 cases q:H b with
 |none=>rfl
 |some x=>
  have hm:b∈trk h H:=List.mem_filter.mpr ⟨List.mem_range.mpr (Heap.lt_size e'),by simp [q]⟩
  have z:(aBa h H).get? b=none:=PySem.W.hideAll_none (trk h H) hm
  rw [z] at e;cases e
structure Mod (K:PySem.W.Frag) (mg:Str→Option Value) (base:Heap):Prop where
 kin:K.In base
 glob:base.Ns mainGlobals mg
 blt:∃mb,base.Ns builtinsNs mb∧∀x:Str,x≠"__name__"→mb x=bootBuiltins x
 nolimit:base.NoLimit
structure Cx where
 prog:Program
 w:World
 K:PySem.W.Frag
 mg:Str→Option Value
 base:Heap
 A:Around
 N:List Str
 s₀:Shared
 H₀:Hp
 env:Env
 outer:List Env
 stack:List Env
 ex:List Addr
 fn:Str→Bool
 calm:Bool
 pn:List (Addr × Obj)
 xe:Value→Shared→Prop
def frs (l:List Env):List Addr:=l.filterMap (·.frame)
abbrev Cx.fs (X:Cx):List Addr:=frs X.outer
def Vis (sc:Scope) (x:Str):Prop:=sc.names.lookup x=some .local∨sc.names.lookup x=some .cell∨sc.names.lookup x=some .free
def Loc (sc:Scope) (x:Str):Prop:=sc.names.lookup x=some .local∨sc.names.lookup x=some .cell
def Look (env:Env) (h:Heap) (m:Str→Option Value) (x:Str) (u:Value):Prop:=
 (env.kindOf x=some .local∧m x=some u)∨((env.kindOf x=some .cell∨env.kindOf x=some .free)∧∃c,env.cells.lookup x=some c∧h.IsCell c (some u))
structure Cx.Ok (X:Cx):Prop where
 mod:Mod X.K X.mg X.base
 kind:X.env.scope.kind=.function
 glob:X.env.globals=mainGlobals
 blt:X.env.builtins=builtinsNs
 above:X.s₀.heap.objs.size≤X.env.locals
 inj:∀x y c,X.env.cells.lookup x=some c→X.env.cells.lookup y=some c→x=y
 has:∀x,(X.env.kindOf x=some .cell∨X.env.kindOf x=some .free)→∃c,X.env.cells.lookup x=some c
 cab:∀x c,X.fn x=true→X.env.cells.lookup x=some c→X.s₀.heap.objs.size≤c
 hd:X.calm=true→X.A.handled=none
 frames:X.A.frames=some X.stack
 stk:X.stack=X.outer∨(X.stack=X.env::X.outer∧X.env.frame=some X.env.locals)
 exf:∀b∈X.ex,b≠X.env.locals∧∀x c,X.env.cells.lookup x=some c→c≠b
 bs:∀b o,X.base.get? b=some o→X.s₀.heap.get? b=some o∧X.H₀ b=none
 bsz:X.base.objs.size≤X.s₀.heap.objs.size
 noex:∀b o,X.base.get? b=some o→b∉X.ex
 exfs:∀b∈X.ex,b∉X.fs
 funs:X.s₀.heap.FunFrames X.base X.outer
 frf:∀b∈X.fs,X.H₀ b=none
structure Inv (X:Cx) (pins:List (Addr × Obj)) (σ:List (Option V)) (H:Hp) (s:Shared):Prop where
 ok:X.Ok
 os:s.os=X.s₀.os
 bare:AllBare s.gens
 base:Un X.fs X.ex X.H₀ H X.s₀.heap s.heap
 loc:∃m,s.heap.Ns X.env.locals m∧∀(i:Nat) (x:Str) (v:V),X.N[i]?=some x→σ[i]?=some (some v)→Vis X.env.scope x→∃u,RelV v u∧Look X.env s.heap m x u
 cell:∀x c,X.env.cells.lookup x=some c→∃v,s.heap.IsCell c v
 free:H X.env.locals=none
 freeC:∀x c,X.env.cells.lookup x=some c→H c=none
 pin:∀p∈X.pn++pins,s.heap.get? p.1=some p.2∧H p.1=none∧p.1≠X.env.locals∧p.1∉X.fs∧∀v,p.2.data≠.cell v
 hok:HOk X.prog X.w H s.heap
 len:σ.length=X.N.length
section
variable {X:Cx} {pins:List (Addr × Obj)} {σ:List (Option V)} {H H':Hp} {s:Shared} {h':Heap}
theorem Cx.Ok.nofr (ok:X.Ok) {b:Addr} {o:Obj} (e:X.base.get? b=some o):b∉X.fs:=fun hb=>by
 have:=(ok.funs.mem hb).1
 rw [e] at this;cases this
theorem Inv.bs (I:Inv X pins σ H s):∀b o,X.base.get? b=some o→s.heap.get? b=some o∧H b=none:=fun b o e=>
 ⟨I.base.keep b o (I.ok.bs b o e).1 (I.ok.bs b o e).2 (I.ok.nofr e) (I.ok.noex b o e),I.base.free b o (I.ok.bs b o e).1 (I.ok.bs b o e).2 (I.ok.noex b o e)⟩
theorem Inv.bk (I:Inv X pins σ H s):∀b o,X.base.get? b=some o→s.heap.get? b=some o:=fun b o e=>(I.bs b o e).1
theorem Inv.mod (I:Inv X pins σ H s):Mod X.K X.mg X.base:=I.ok.mod
theorem Inv.kIn (I:Inv X pins σ H s):X.K.In s.heap:=I.ok.mod.kin.keeps I.bk
theorem Inv.nolimit (I:Inv X pins σ H s):s.heap.NoLimit:=I.ok.mod.nolimit.keeps I.bk
theorem Inv.lt (I:Inv X pins σ H s):X.env.locals<s.heap.objs.size:=let ⟨_,hn,_⟩:=I.loc;hn.lt
theorem Inv.sz (I:Inv X pins σ H s):X.s₀.heap.objs.size≤s.heap.objs.size:=Nat.le_trans I.ok.above (Nat.le_of_lt I.lt)
theorem Inv.nofs (I:Inv X pins σ H s) {a:Addr} (h:s.heap.objs.size≤a):a∉X.fs:=fun hb=>by
 obtain ⟨_,o,ho,_⟩:=I.ok.funs.mem hb
 exact absurd (Nat.lt_of_lt_of_le (Heap.lt_size ho) (Nat.le_trans I.sz h)) (Nat.lt_irrefl _)
theorem Inv.cne (I:Inv X pins σ H s):∀x c,X.env.cells.lookup x=some c→c≠X.env.locals:=fun x c e z=>by
 obtain ⟨v,o,ho,hd⟩:=I.cell x c e
 obtain ⟨m,⟨o',es,ep,ho',hd',_⟩,_⟩:=I.loc
 rw [z,ho'] at ho;cases ho;rw [hd'] at hd;cases hd
theorem Inv.funs (I:Inv X pins σ H s):s.heap.FunFrames X.base X.outer:=by
 have all:∀(l:List Env),(∀b∈frs l,b∈X.fs)→X.s₀.heap.FunFrames X.base l→s.heap.FunFrames X.base l:=by
  intro l
  induction l with
  |nil=>intro _ _;trivial
  |cons env r ih=>
   intro hs hl
   obtain ⟨hk,⟨L,o,hf,hn,ho,hd⟩,hr⟩:=hl
   have hL:L∈X.fs:=hs L (by unfold frs;rw [List.filterMap_cons,hf];exact List.mem_cons_self)
   obtain ⟨sl,e⟩:=I.base.slot L o ho (I.ok.frf L hL) hL fun z=>I.ok.exfs L z hL
   exact ⟨hk,⟨L,_,hf,hn,e,hd⟩,ih (fun b hb=>hs b (by unfold frs;rw [List.filterMap_cons,hf];exact List.mem_cons_of_mem _ hb)) hr⟩
 exact all X.outer (fun _ hb=>hb) I.ok.funs
theorem Inv.stack (I:Inv X pins σ H s):s.heap.FunFrames X.base X.stack:=by
 rcases I.ok.stk with e|⟨e,hf⟩
 ·rw [e];exact I.funs
 ·rw [e]
  obtain ⟨m,hn,_⟩:=I.loc
  refine .cons (by rw [I.ok.kind];decide) hf hn ?_ I.funs
  exact Heap.get?_none_of_le (Nat.le_trans I.ok.bsz I.ok.above)
theorem Inv.aD7 (I:Inv X pins σ H s):∀b∈frs X.stack,b∈X.env.locals::X.fs:=fun b hb=>by
 rcases I.ok.stk with e|⟨e,hf⟩
 ·rw [e] at hb;exact List.mem_cons_of_mem _ hb
 ·rw [e] at hb
  unfold frs at hb
  rw [List.filterMap_cons,hf] at hb
  exact hb
theorem Inv.uF (I:Inv X pins σ H s):∀b∈frs X.stack,H b=none:=fun b hb=>by
 rcases List.mem_cons.mp (I.aD7 b hb) with e|hb
 ·rw [e];exact I.free
 ·obtain ⟨_,o,ho,_⟩:=I.ok.funs.mem hb
  exact I.base.free b o ho (I.ok.frf b hb) fun z=>I.ok.exfs b z hb
theorem Inv.step {g':Array GenState} {t':Nat} {d':Drawn} {ch:List Addr} (I:Inv X pins σ H s)
  (hch:∀b∈ch,(b∈X.ex∨X.s₀.heap.objs.size≤b)∧b≠X.env.locals∧(∀x c,X.env.cells.lookup x=some c→c≠b)∧∀p∈X.pn++pins,p.1≠b)
  (keep:∀b o,b≠X.env.locals→b∉X.fs→b∉ch→s.heap.get? b=some o→H b=none→h'.get? b=some o)
  (slot:∀b o,b≠X.env.locals→b∈X.fs→b∉ch→s.heap.get? b=some o→H b=none→∃sl,h'.get? b=some { o with slots:=sl }) (free:∀b o,b∉ch→s.heap.get? b=some o→H b=none→H' b=none)
  (there:∀b o,b∉ch→s.heap.get? b=some o→∃o',h'.get? b=some o')
  (tups:∀b xs,H b=some (.tup xs)→H' b=some (.tup xs)) (frzs:∀b o u,H b=some (.frz o u)→H' b=some (.frz o u)) (tbls:∀b ps,H b=some (.tbl ps)→∃more,H' b=some (.tbl (ps++more)))
  (ns:∀m,s.heap.Ns X.env.locals m→h'.Ns X.env.locals m) (hok:HOk X.prog X.w H' h') (hg:AllBare g') :
  Inv X pins σ H' { s with heap:=h',gens:=g',drawn:=d',toks:=t' }:=by
 have neL:∀b o,X.s₀.heap.get? b=some o→b≠X.env.locals:=fun b o e=>Nat.ne_of_lt (Nat.lt_of_lt_of_le (Heap.lt_size e) I.ok.above)
 have neC:∀b o,X.s₀.heap.get? b=some o→b∉X.ex→b∉ch:=fun b o e hx hb=>by
  rcases (hch b hb).1 with z|z
  ·exact hx z
  ·exact absurd (Nat.lt_of_lt_of_le (Heap.lt_size e) z) (Nat.lt_irrefl _)
 have cellK:∀x c,X.env.cells.lookup x=some c→∀v,s.heap.IsCell c v→h'.IsCell c v:=fun x c e v ⟨o,ho,hd⟩=>by
  have nch:c∉ch:=fun z=>(hch c z).2.2.1 x c e rfl
  by_cases hc:c∈X.fs
  ·obtain ⟨sl,q⟩:=slot c o (I.cne x c e) hc nch ho (I.freeC x c e)
   exact ⟨_,q,hd⟩
  ·exact ⟨o,keep c o (I.cne x c e) hc nch ho (I.freeC x c e),hd⟩
 refine ⟨I.ok,I.os,hg,⟨fun b o e n hb hx=>?_,fun b o e n hb hx=>?_,fun b o e n hx=>?_,fun b o e hx=>?_,fun b xs e=>tups b xs (I.base.tups b xs e),fun b o xs e=>frzs b o xs (I.base.frzs b o xs e),fun b ps e=>?_⟩,?_,fun x c e=>?_,?_,fun x c e=>?_,fun p hp=>?_,hok,I.len⟩
 ·exact keep b o (neL b o e) hb (neC b o e hx) (I.base.keep b o e n hb hx) (I.base.free b o e n hx)
 ·obtain ⟨sl,e1⟩:=I.base.slot b o e n hb hx
  obtain ⟨sl',e2⟩:=slot b _ (neL b o e) hb (neC b o e hx) e1 (I.base.free b o e n hx)
  exact ⟨sl',e2⟩
 ·obtain ⟨o',e1⟩:=I.base.there b o e hx
  exact free b o' (neC b o e hx) e1 (I.base.free b o e n hx)
 ·obtain ⟨o',e1⟩:=I.base.there b o e hx
  exact there b o' (neC b o e hx) e1
 ·obtain ⟨m1,e1⟩:=I.base.tbls b ps e
  obtain ⟨m2,e2⟩:=tbls b _ e1
  exact ⟨m1++m2,by rw [e2,Array.append_assoc]⟩
 ·obtain ⟨m,hn,hl⟩:=I.loc
  refine ⟨m,ns m hn,fun i x v e1 e2 e3=>?_⟩
  obtain ⟨u,r,l⟩:=hl i x v e1 e2 e3
  refine ⟨u,r,?_⟩
  rcases l with l|⟨k,c,e,z⟩
  ·exact .inl l
  ·exact .inr ⟨k,c,e,cellK x c e _ z⟩
 ·obtain ⟨v,z⟩:=I.cell x c e
  exact ⟨v,cellK x c e v z⟩
 ·obtain ⟨m,⟨o,_,_,ho,_⟩,_⟩:=I.loc
  exact free _ o (fun z=>(hch _ z).2.1 rfl) ho I.free
 ·obtain ⟨v,o,ho,hd⟩:=I.cell x c e
  exact free c o (fun z=>(hch c z).2.2.1 x c e rfl) ho (I.freeC x c e)
 ·obtain ⟨e,n,ne,nf,d⟩:=I.pin p hp
  have nch:p.1∉ch:=fun z=>(hch p.1 z).2.2.2 p hp rfl
  exact ⟨keep p.1 p.2 ne nf nch e n,free p.1 p.2 nch e n,ne,nf,d⟩
theorem Inv.un {t':Nat} (I:Inv X pins σ H s) (u:Un X.fs [] H H' s.heap h') (hok:HOk X.prog X.w H' h'):Inv X pins σ H' { s with heap:=h',toks:=t' }:=by
 obtain ⟨m,⟨o,es,ep,ho,r⟩,_⟩:=id I.loc
 obtain ⟨sl,hL⟩:=u.any ho I.free (by simp)
 exact I.step (g':=s.gens) (d':=s.drawn) (ch:=[]) (fun _ z=>nomatch z) (fun b o _ hb _ e n=>u.keep b o e n hb (by simp)) (fun b o _ hb _ e n=>u.slot b o e n hb (by simp)) (fun b o _ e n=>u.free b o e n (by simp)) (fun b o _ e=>u.there b o e (by simp)) u.tups u.frzs u.tbls (fun m' hm=>by
  obtain ⟨o',es',ep',ho',r'⟩:=hm
  rw [ho] at ho';cases ho'
  exact ⟨_,es',ep',hL,r'⟩) hok I.bare
theorem Inv.call {g':Array GenState} {t':Nat} {d':Drawn} {ch:List Addr} (I:Inv X pins σ H s) (u:Un (frs X.stack) ch H H' s.heap h') (hok:HOk X.prog X.w H' h') (hg:AllBare g')
  (hch:∀b∈ch,(b∈X.ex∨X.s₀.heap.objs.size≤b)∧b≠X.env.locals∧(∀x c,X.env.cells.lookup x=some c→c≠b)∧∀p∈X.pn++pins,p.1≠b) :
  Inv X pins σ H' { s with heap:=h',gens:=g',drawn:=d',toks:=t' }:=by
 obtain ⟨m,⟨o,es,ep,ho,r⟩,_⟩:=id I.loc
 obtain ⟨sl,hL⟩:=u.any ho I.free fun z=>(hch _ z).2.1 rfl
 exact I.step (ch:=ch) hch (fun b o hL hb hc e n=>u.keep b o e n (fun z=>(List.mem_cons.mp (I.aD7 b z)).elim hL hb) hc) (fun b o _ _ hc e n=>u.any e n hc) (fun b o hc e n=>u.free b o e n hc) (fun b o hc e=>u.there b o e hc) u.tups u.frzs u.tbls (fun m' hm=>by
  obtain ⟨o',es',ep',ho',r'⟩:=hm
  rw [ho] at ho';cases ho'
  exact ⟨_,es',ep',hL,r'⟩) hok hg
theorem Inv.turned {t':Nat} {it:Addr} (I:Inv X pins σ H s) (k:∀b o,b≠it→s.heap.get? b=some o→h'.get? b=some o) (hn:H it=none) (hL:it≠X.env.locals)
  (h1:it∈X.ex∨X.s₀.heap.objs.size≤it) (h2:∀x c,X.env.cells.lookup x=some c→c≠it) (h3:∀p∈X.pn++pins,p.1≠it):Inv X pins σ H { s with heap:=h',toks:=t' }:=by
 have nit:∀b u,H b=some u→b≠it:=fun b u e z=>by rw [z,hn] at e;cases e
 refine I.step (g':=s.gens) (d':=s.drawn) (ch:=[it]) (fun b hb=>?_) (fun b o _ _ hc e _=>k b o (fun z=>hc (by simp [z])) e) (fun b o _ _ hc e _=>⟨o.slots,k b o (fun z=>hc (by simp [z])) e⟩) (fun _ _ _ _ n=>n)
  (fun b o hc e=>⟨o,k b o (fun z=>hc (by simp [z])) e⟩) (fun _ _ e=>e) (fun _ _ _ e=>e) (fun b ps e=>⟨#[],by rw [e];simp⟩) (fun m hm=>?_) (fun b u e=>?_) I.bare
 ·have e:b=it:=by simpa using hb
  subst e
  exact ⟨h1,hL,h2,h3⟩
 ·obtain ⟨o,es,ep,ho,r⟩:=hm
  exact ⟨o,es,ep,k _ o (Ne.symm hL) ho,r⟩
 ·refine (I.hok b u e).stay (fun c v hc q=>k c v ?_ q) (fun _ q=>q) fun _ _ q=>q
  rcases hc with z|z
  ·rw [z];exact nit b u e
  ·exact nit c _ z
theorem Inv.tok (I:Inv X pins σ H s) (t:Nat):Inv X pins σ H { s with toks:=t }:=I.un (h':=s.heap) (t':=t) Un.refl I.hok
theorem Inv.kept {t':Nat} (I:Inv X pins σ H s) (k:∀b u,s.heap.get? b=some u→h'.get? b=some u):Inv X pins σ H { s with heap:=h',toks:=t' }:=I.un (Un.kept k) (I.hok.kept k)
theorem Inv.laid {a:Addr} {o:HO} {t':Nat} (I:Inv X pins σ H s) (k:∀b u,s.heap.get? b=some u→h'.get? b=some u) (hp:s.heap.objs.size≤a) (new:cT X.prog X.w (upd H a o) h' a o) :
  Inv X pins σ (upd H a o) { s with heap:=h',toks:=t' }:=I.un (Un.laid k hp (I.hok.fresh hp)) (I.hok.laid k hp new)
theorem Inv.write {x e:Addr} {o:HO} {t':Nat} (I:Inv X pins σ H s) (mu:Mut (H x)) (he:e=x∨H e=some (.own x)) (k:∀b u,b≠e→s.heap.get? b=some u→h'.get? b=some u) (heo:∃u,h'.get? e=some u)
  (new:cT X.prog X.w (upd H x o) h' x o):Inv X pins σ (upd H x o) { s with heap:=h',toks:=t' }:=I.un (Un.write mu he k heo) (I.hok.write mu he k heo new)
theorem Inv.aJs {pins':List (Addr × Obj)} (I:Inv X pins σ H s) (h:∀p∈pins',s.heap.get? p.1=some p.2∧H p.1=none∧p.1≠X.env.locals∧p.1∉X.fs∧∀v,p.2.data≠.cell v):Inv X pins' σ H s:=
 ⟨I.ok,I.os,I.bare,I.base,I.loc,I.cell,I.free,I.freeC,fun p hp=>(List.mem_append.mp hp).elim (fun z=>I.pin p (List.mem_append_left _ z)) (h p),I.hok,I.len⟩
theorem aGd {N:List Str} (hN:N.Nodup) {i j:Nat} {x:Str} (a:N[i]?=some x) (b:N[j]?=some x):i=j:=by
 obtain ⟨h1,e1⟩:=List.getElem?_eq_some_iff.mp a
 obtain ⟨h2,e2⟩:=List.getElem?_eq_some_iff.mp b
 exact (List.getElem_inj hN).mp (e1.trans e2.symm)
theorem aBm {M:Model} {A:Around} {E:Value→Shared→Prop} {i:Nat} {x:Str} {v:V} {u:Value} {Q:Unit→Shared→Prop} (I:Inv X pins σ H s) (hN:X.N.Nodup) (hi:X.N[i]?=some x) (hx:Loc X.env.scope x) (r:RelV v u)
  (h:∀s',Inv X pins (σ.set i (some v)) H s'→(∃a,Heap.SameBut a s.heap s'.heap∧(a=X.env.locals∨X.env.cells.lookup x=some a))→Q () s') (hf:X.fn x=true∨X.env.scope.names.lookup x=some .local:=by first|exact .inl rfl|exact .inr rfl|assumption):wpAny M A (storeName X.env x u) Q E s:=by
 obtain ⟨m,hn,hl⟩:=id I.loc
 have hcls:(X.env.scope.kind == .class || (X.env.scope.kind == .module && X.env.locals != X.env.globals))=false:=by rw [I.ok.kind];rfl
 have hiσ:i<σ.length:=by rw [I.len];exact (List.getElem?_eq_some_iff.mp hi).1
 have cne:=I.cne
 have tracked:∀{a:Addr} {h':Heap},(∃o,s.heap.get? a=some o∧H a=none)→Heap.SameBut a s.heap h'→HOk X.prog X.w H h':=fun {a h'} ha hs b ob e=>by
  obtain ⟨_,_,hfree⟩:=ha
  refine (I.hok b ob e).stay (fun c w' hc q=>(hs.2 c ?_).trans q) (fun _ q=>q) fun _ _ q=>q
  rintro rfl
  rcases hc with rfl|hc
  ·rw [hfree] at e;cases e
  ·rw [hfree] at hc;cases hc
 rcases hx with hk|hk
 ·refine wpAny_storeName_local hk hn (fun h' hn' hs=>?_) hcls
  obtain ⟨oL,_,_,hoL,_⟩:=id hn
  refine h _ ⟨I.ok,I.os,I.bare,⟨fun b o e n hb hx=>?_,fun b o e n hb hx=>?_,I.base.free,fun b o e hx=>?_,I.base.tups,I.base.frzs,I.base.tbls⟩,⟨_,hn',fun j y v' e1 e2 e3=>?_⟩,fun y c e=>?_,I.free,I.freeC,fun p hp=>?_,tracked ⟨oL,hoL,I.free⟩ hs,by simpa using I.len⟩ ⟨_,hs,.inl rfl⟩
  ·exact (hs.2 b (Nat.ne_of_lt (Nat.lt_of_lt_of_le (Heap.lt_size e) I.ok.above))).trans (I.base.keep b o e n hb hx)
  ·obtain ⟨sl,e1⟩:=I.base.slot b o e n hb hx
   exact ⟨sl,(hs.2 b (Nat.ne_of_lt (Nat.lt_of_lt_of_le (Heap.lt_size e) I.ok.above))).trans e1⟩
  ·obtain ⟨o',e1⟩:=I.base.there b o e hx
   exact ⟨o',(hs.2 b (Nat.ne_of_lt (Nat.lt_of_lt_of_le (Heap.lt_size e) I.ok.above))).trans e1⟩
  ·by_cases hj:j=i
   ·subst hj
    rw [hi] at e1;cases e1
    rw [List.getElem?_set_self hiσ] at e2
    cases e2
    exact ⟨u,r,.inl ⟨hk,by simp⟩⟩
   ·rw [List.getElem?_set_ne (Ne.symm hj)] at e2
    obtain ⟨u',r',q⟩:=hl j y v' e1 e2 e3
    refine ⟨u',r',?_⟩
    rcases q with ⟨k,e⟩|⟨k,c,e,z⟩
    ·refine .inl ⟨k,?_⟩
     have:y≠x:=fun e=>hj (aGd hN e1 (e ▸ hi))
     simp [this,e]
    ·exact .inr ⟨k,c,e,z.sameBut hs (cne y c e)⟩
  ·obtain ⟨w',z⟩:=I.cell y c e
   exact ⟨w',z.sameBut hs (cne y c e)⟩
  ·obtain ⟨e,n,ne,nf,d⟩:=I.pin p hp
   exact ⟨(hs.2 p.1 ne).trans e,n,ne,nf,d⟩
 ·have hfn:X.fn x=true:=by
   rcases hf with z|z
   ·exact z
   ·rw [z] at hk;cases hk
  obtain ⟨c,hc⟩:=I.ok.has x (.inl hk)
  obtain ⟨w',z⟩:=I.cell x c hc
  refine wpAny_storeName_cell I.ok.kind hk hc z (fun h' hc' hs=>?_)
  obtain ⟨oc,hoc,hocd⟩:=id z
  refine h { s with heap:=h' } ⟨I.ok,I.os,I.bare,⟨fun b o e n hb hx=>?_,fun b o e n hb hx=>?_,I.base.free,fun b o e hx=>?_,I.base.tups,I.base.frzs,I.base.tbls⟩,⟨m,hn.sameBut hs (Ne.symm (cne x c hc)),fun j y v' e1 e2 e3=>?_⟩,fun y c' e=>?_,I.free,I.freeC,fun p hp=>?_,tracked ⟨oc,hoc,I.freeC x c hc⟩ hs,by simpa using I.len⟩ ⟨c,hs,.inr hc⟩
  ·exact (hs.2 b (Nat.ne_of_lt (Nat.lt_of_lt_of_le (Heap.lt_size e) (I.ok.cab x c hfn hc)))).trans (I.base.keep b o e n hb hx)
  ·obtain ⟨sl,e1⟩:=I.base.slot b o e n hb hx
   exact ⟨sl,(hs.2 b (Nat.ne_of_lt (Nat.lt_of_lt_of_le (Heap.lt_size e) (I.ok.cab x c hfn hc)))).trans e1⟩
  ·obtain ⟨o',e1⟩:=I.base.there b o e hx
   exact ⟨o',(hs.2 b (Nat.ne_of_lt (Nat.lt_of_lt_of_le (Heap.lt_size e) (I.ok.cab x c hfn hc)))).trans e1⟩
  ·by_cases hj:j=i
   ·subst hj
    rw [hi] at e1;cases e1
    rw [List.getElem?_set_self hiσ] at e2
    cases e2
    exact ⟨u,r,.inr ⟨.inl hk,c,hc,hc'⟩⟩
   ·rw [List.getElem?_set_ne (Ne.symm hj)] at e2
    obtain ⟨u',r',q⟩:=hl j y v' e1 e2 e3
    refine ⟨u',r',?_⟩
    rcases q with q|⟨k,c',e,z'⟩
    ·exact .inl q
    ·refine .inr ⟨k,c',e,z'.sameBut hs ?_⟩
     rintro rfl
     exact hj (aGd hN e1 (I.ok.inj _ _ _ e hc ▸ hi))
  ·by_cases hcc:c'=c
   ·subst hcc;exact ⟨_,hc'⟩
   ·obtain ⟨w2,z2⟩:=I.cell y c' e
    exact ⟨w2,z2.sameBut hs hcc⟩
  ·obtain ⟨e,n,ne,nf,d⟩:=I.pin p hp
   refine ⟨(hs.2 p.1 ?_).trans e,n,ne,nf,d⟩
   intro q
   rw [q,hoc] at e
   have q':oc=p.2:=Option.some.inj e
   exact d w' (by rw [←q'];exact hocd)
theorem aEu {M:Model} {A:Around} {E:Value→Shared→Prop} {i:Nat} {x:Str} {v:V} {u:Value} {Q:Unit→Shared→Prop} (I:Inv X pins σ H s) (hN:X.N.Nodup) (hi:X.N[i]?=some x) (hx:Loc X.env.scope x) (r:RelV v u)
  (h:∀s',Inv X pins (σ.set i (some v)) H s'→Q () s') (hf:X.fn x=true∨X.env.scope.names.lookup x=some .local:=by first|exact .inl rfl|exact .inr rfl|assumption):wpAny M A (storeName X.env x u) Q E s:=
 aBm I hN hi hx r (fun s' I' _=>h s' I') hf
theorem Inv.call' {s':Shared} {ch:List Addr} (I:Inv X pins σ H s) (ho:s'.os=s.os) (u:Un (frs X.stack) ch H H' s.heap s'.heap) (hok:HOk X.prog X.w H' s'.heap) (hg:AllBare s'.gens)
  (hch:∀b∈ch,(b∈X.ex∨X.s₀.heap.objs.size≤b)∧b≠X.env.locals∧(∀x c,X.env.cells.lookup x=some c→c≠b)∧∀p∈X.pn++pins,p.1≠b):Inv X pins σ H' s':=by
 obtain ⟨h',g',d',t',o'⟩:=s'
 have e:o'=s.os:=ho
 subst e
 exact I.call (g':=g') (t':=t') (d':=d') u hok hg hch
end
abbrev XK:=Value→Option Addr→Hp→Prop
abbrev St:=List (Option V)
abbrev VK:=V→Hp→Prop
abbrev TE:=St→Hp→VK→Prop
abbrev TT:=St→Hp→(Bool→Hp→Prop)→Prop
abbrev TA:=St→Hp→(List V→Hp→Prop)→Prop
structure Ends where
 nx:St→Hp→Prop
 rt:VK
 bk:St→Hp→Prop:=fun _ _=>False
 ct:St→Hp→Prop:=fun _ _=>False
abbrev TS:=Ends→St→Hp→Prop
def EP (X:Cx) (pins:List (Addr × Obj)) (σ:St) (Q:VK) (u:Value) (s':Shared):Prop:=∃v H',Inv X pins σ H' s'∧RelV v u∧Q v H'
def TP (X:Cx) (pins:List (Addr × Obj)) (σ:St) (Q:Bool→Hp→Prop) (b:Bool) (s':Shared):Prop:=∃H',Inv X pins σ H' s'∧Q b H'
def AP (X:Cx) (pins:List (Addr × Obj)) (σ:St) (Q:List V→Hp→Prop) (us:List Value) (s':Shared):Prop:=∃vs H',Inv X pins σ H' s'∧Vals vs us∧Q vs H'
def SP (X:Cx) (pins:List (Addr × Obj)) (D:Ends) (f:Flow) (s':Shared):Prop:=
 match f with
 |.next=>∃σ' H',Inv X pins σ' H' s'∧D.nx σ' H'
 |.brk=>∃σ' H',Inv X pins σ' H' s'∧D.bk σ' H'
 |.cont=>∃σ' H',Inv X pins σ' H' s'∧D.ct σ' H'
 |.ret u=>∃v σ' H',Inv X pins σ' H' s'∧RelV v u∧D.rt v H'
def PE (X:Cx) (e:Expr) (t:TE):Prop:=
 ∀(pins:List (Addr × Obj)) (s:Shared) (σ:St) (H:Hp) (Q:VK),Inv X pins σ H s→t σ H Q→wpAny (model X.prog X.w) X.A (eval e X.env) (EP X pins σ Q) X.xe s
def PT (X:Cx) (e:Expr) (t:TT):Prop:=
 ∀(pins:List (Addr × Obj)) (s:Shared) (σ:St) (H:Hp) (Q:Bool→Hp→Prop),Inv X pins σ H s→t σ H Q→wpAny (model X.prog X.w) X.A (isTrue e X.env (eval e X.env)) (TP X pins σ Q) X.xe s
def PW (X:Cx) (e:Expr) (t:TT):Prop:=
 ∀(whole:Sem Value) (pins:List (Addr × Obj)) (s:Shared) (σ:St) (H:Hp) (Q:Bool→Hp→Prop),Inv X pins σ H s→t σ H Q→wpAny (model X.prog X.w) X.A (isTrue e X.env whole) (TP X pins σ Q) X.xe s
theorem PW.pt {X:Cx} {e:Expr} {t:TT} (h:PW X e t):PT X e t:=h _
def PA (X:Cx) (es:List Expr) (t:TA):Prop:=
 ∀(pos:Pos) (pins:List (Addr × Obj)) (s:Shared) (σ:St) (H:Hp) (Q:List V→Hp→Prop),Inv X pins σ H s→t σ H Q→wpAny (model X.prog X.w) X.A (spliced (backTo pos (starEach es X.env))) (AP X pins σ Q) X.xe s
def PS (X:Cx) (st:Stmt) (t:TS):Prop:=
 ∀(pins:List (Addr × Obj)) (s:Shared) (σ:St) (H:Hp) (D:Ends),Inv X pins σ H s→t D σ H→wpAny (model X.prog X.w) X.A (exec st X.env) (SP X pins D) X.xe s
def PSs (X:Cx) (st:List Stmt) (t:TS):Prop:=
 ∀(pins:List (Addr × Obj)) (s:Shared) (σ:St) (H:Hp) (D:Ends),Inv X pins σ H s→t D σ H→wpAny (model X.prog X.w) X.A (execs st X.env) (SP X pins D) X.xe s
theorem thn {α:Type} {t:Sem α} {Q Q':α→Shared→Prop} {M:Model} {A:Around} {E:Value→Shared→Prop} {s:Shared} (h:wpAny M A t Q E s) (hQ:∀a s,Q a s→Q' a s):wpAny M A t Q' E s:=wpAny_mono h hQ fun _ _ x=>x
section
variable {X:Cx}
def aMl (i:Nat):TE:=fun σ H Q=>∃v,σ[i]?=some (some v)∧Q v H
def tC (v:V):TE:=fun _ H Q=>Q v H
theorem aUk {i:Nat} {x:Str} {pos:Pos} (hN:X.N[i]?=some x) (hv:Vis X.env.scope x) (hd:(x == ("__debug__":Str))=false:=by decide) (hcd:(x == ("__classdict__":Str))=false:=by decide):PE X (.Name x pos) (aMl i):=by
 intro pins s σ H Q I h
 obtain ⟨v,e,h⟩:=h
 obtain ⟨m,hn,hl⟩:=I.loc
 obtain ⟨u,r,l⟩:=hl i x v hN e hv
 have fin:EP X pins σ Q u s:=⟨v,H,I,r,h⟩
 rcases l with ⟨hk,hm⟩|⟨hk,c,hc,hcell⟩
 ·exact wpAny_Name (wpAny_loadName_local I.ok.kind hk hn hm fin) hd
 ·rcases hk with hk|hk
  ·exact wpAny_Name (wpAny_loadName_cell I.ok.kind hk hc hcell fin) hd
  ·exact wpAny_Name (wpAny_loadName_free I.ok.kind hk hc hcell fin hcd) hd
theorem aUy {i j pos}:PE X (.Constant (.int i) j pos) (tC (.int i)):=fun _ _ _ H _ I h=>wpAny_Constant_int ⟨.int i,H,I.tok _,⟨_,rfl⟩,h⟩
theorem aVu {b j pos}:PE X (.Constant (.bool b) j pos) (tC (.bl b)):=fun _ _ _ H _ I h=>Constant_bool ⟨.bl b,H,I,rfl,h⟩
theorem aUi {j pos}:PE X (.Constant .none j pos) (tC .non):=fun _ _ _ H _ I h=>Constant_none ⟨.non,H,I,rfl,h⟩
theorem aUu {x j pos}:PE X (.Constant (.str x) j pos) (tC (.str x)):=fun _ _ _ H _ I h=>Calls.Constant_str ⟨.str x,H,I.tok _,⟨_,rfl⟩,h⟩
def Gl (X:Cx) (x:Str):Prop:=X.env.kindOf x=some .globalImplicit
theorem tG {E:Value→Shared→Prop} {pins:List (Addr × Obj)} {s:Shared} {σ:St} {H:Hp} {x:Str} {u:Value} {pos:Pos} {Q:Value→Shared→Prop} (I:Inv X pins σ H s) (hg:Gl X x) (hm:X.mg x=some u) (h:Q u s)
  (hd:(x == ("__debug__":Str))=false:=by decide):wpAny (model X.prog X.w) X.A (eval (.Name x pos) X.env) Q E s:=
 Calls.Name_function_global I.ok.kind hg (Calls.loadGlobal_global (by rw [I.ok.glob];exact I.mod.glob.keeps I.bk) hm h) hd
theorem lH {E:Value→Shared→Prop} {pins:List (Addr × Obj)} {s:Shared} {σ:St} {H:Hp} {x:Str} {u:Value} {pos:Pos} {Q:Value→Shared→Prop} (I:Inv X pins σ H s) (hg:Gl X x) (hm:X.mg x=none) (hv:bootBuiltins x=some u) (h:Q u s)
  (hn:x≠"__name__":=by decide) (hd:(x == ("__debug__":Str))=false:=by decide):wpAny (model X.prog X.w) X.A (eval (.Name x pos) X.env) Q E s:=by
 obtain ⟨mb,h1,h2⟩:=I.mod.blt
 exact Calls.Name_function_global I.ok.kind hg (Calls.loadGlobal_builtin (by rw [I.ok.glob];exact I.mod.glob.keeps I.bk) hm (by rw [I.ok.blt];exact h1.keeps I.bk) ((h2 x hn).trans hv) h) hd
theorem aRi {x:Str} {v:V} {u:Value} {pos:Pos} (hg:Gl X x) (hm:X.mg x=some u) (r:RelV v u) (hd:(x == ("__debug__":Str))=false:=by decide):PE X (.Name x pos) (tC v):=
 fun _ _ _ H _ I h=>tG I hg hm ⟨v,H,I,r,h⟩ hd
theorem aQx {x:Str} {v:V} {u:Value} {pos:Pos} (hg:Gl X x) (hm:X.mg x=none) (hv:bootBuiltins x=some u) (r:RelV v u) (hn:x≠"__name__":=by decide) (hd:(x == ("__debug__":Str))=false:=by decide):PE X (.Name x pos) (tC v):=
 fun _ _ _ H _ I h=>lH I hg hm hv ⟨v,H,I,r,h⟩ hn hd
variable {a b:Expr} {ta tb:TE} {pos:Pos}
def PC (X:Cx) (op:CmpOp) (a b:Expr) (t:TE):Prop:=
 ∀(pins:List (Addr × Obj)) (s:Shared) (σ:St) (H:Hp) (Q:VK),Inv X pins σ H s→t σ H Q →
  wpAny (model X.prog X.w) X.A (eval a X.env) (fun v s₁=>wpAny (model X.prog X.w) X.A (eval b X.env) (fun u s₂=>wpAny (model X.prog X.w) X.A (compareOp op v u) (EP X pins σ Q) X.xe s₂) X.xe s₁) X.xe s
def tB (t:TE):TT:=fun σ H Q=>t σ H fun x H1=>∃c,x=.bl c∧Q c H1
theorem aU1 {op:CmpOp} {t:TE} (h:PC X op a b t) (h1:behindInMarks op b=false:=by first|exact nobehind _ (by decide) (by decide)|rfl):PT X (.Compare a [op] [b] pos) (tB t):=by
 intro pins s σ H Q I hw
 refine wpAny_isTrue_Compare1 (thn (h pins s σ H _ I hw) fun v s1 h1=>thn h1 fun u s2 h2=>thn h2 fun c s3 ⟨x,H1,I1,r1,q1⟩=>?_) h1
 obtain ⟨d,rfl,q⟩:=q1
 cases r1
 exact wpAny_truthy_bool ⟨H1,I1,q⟩
theorem aT1 {e:Expr} {t:TE} (h:PE X e t) (he:∀whole,isTrue e X.env whole=(do let v ←whole;standAt e.pos;holding [v] (truthy v)):=by intro _;rfl):PT X e (tB t):=by
 intro pins s σ H Q I hw
 refine isTrue_plain (thn (h pins s σ H _ I hw) fun v s1 ⟨x,H1,I1,r1,q1⟩=>?_) (he _)
 obtain ⟨d,rfl,q⟩:=q1
 cases r1
 exact wpAny_truthy_bool ⟨H1,I1,q⟩
variable {tA tB':TT} {rest:List Expr}
def aWq (t u:TT):TT:=fun σ H Q=>t σ H fun c H1=>if c=true then u σ H1 Q else Q false H1
def tOr (t u:TT):TT:=fun σ H Q=>t σ H fun c H1=>if c=true then Q true H1 else u σ H1 Q
def aVd (t:TT):TT:=fun σ H Q=>t σ H fun c H1=>Q (!c) H1
theorem aRp (ha:PT X a tA):PW X (.BoolOp .And [a] pos) tA:=by
 intro wh pins s σ H Q I h
 refine isTrue_and (thn (ha pins s σ H Q I h) fun c s1 e=>?_)
 cases c with
 |true=>exact isTrue_and_nil e
 |false=>exact e
theorem aT8 (ha:PT X a tA):PW X (.BoolOp .Or [a] pos) tA:=by
 intro wh pins s σ H Q I h
 refine isTrue_or (thn (ha pins s σ H Q I h) fun c s1 e=>?_)
 cases c with
 |false=>exact isTrue_or_nil e
 |true=>exact e
theorem aTu (ha:PT X a tA) (hb:PW X (.BoolOp .And (b::rest) pos) tB'):PW X (.BoolOp .And (a::b::rest) pos) (aWq tA tB'):=by
 intro wh pins s σ H Q I h
 refine isTrue_and (thn (ha pins s σ H _ I h) fun c s1 ⟨H1,I1,q1⟩=>?_)
 cases c with
 |true=>exact hb wh pins s1 σ H1 Q I1 q1
 |false=>exact ⟨H1,I1,q1⟩
theorem aVw (ha:PT X a tA) (hb:PW X (.BoolOp .Or (b::rest) pos) tB'):PW X (.BoolOp .Or (a::b::rest) pos) (tOr tA tB'):=by
 intro wh pins s σ H Q I h
 refine isTrue_or (thn (ha pins s σ H _ I h) fun c s1 ⟨H1,I1,q1⟩=>?_)
 cases c with
 |true=>exact ⟨H1,I1,q1⟩
 |false=>exact hb wh pins s1 σ H1 Q I1 q1
theorem aUb (ha:PT X a tA):PT X (.UnaryOp .Not a pos) (aVd tA):=by
 intro pins s σ H Q I h
 exact isTrue_not (ha pins s σ H (fun c H1=>Q (!c) H1) I h)
def aSy (ta tb:TE):TE:=fun σ H Q=>ta σ H fun x H1=>∃c,x=.bl c∧if c=true then tb σ H1 Q else Q (.bl false) H1
def aVy (ta tb:TE):TE:=fun σ H Q=>ta σ H fun x H1=>∃c,x=.bl c∧if c=true then Q (.bl true) H1 else tb σ H1 Q
def aSs (ta:TE):TE:=fun σ H Q=>ta σ H fun x H1=>∃c,x=.bl c∧Q (.bl (!c)) H1
theorem aVg {op} {t:TE} (h:PE X a t):PE X (.BoolOp op [a] pos) t:=fun pins s σ H Q I hw=>BoolOp_one (h pins s σ H Q I hw)
theorem aTl (ha:PE X a ta) (hb:PE X (.BoolOp .And (b::rest) pos) tb):PE X (.BoolOp .And (a::b::rest) pos) (aSy ta tb):=by
 intro pins s σ H Q I h
 refine BoolOp_and (thn (ha pins s σ H _ I h) fun v s1 ⟨x,H1,I1,r1,q1⟩=>?_)
 obtain ⟨c,rfl,q1⟩:=q1
 cases r1
 refine wpAny_truthy_bool ?_
 cases c with
 |true=>exact hb pins s1 σ H1 Q I1 q1
 |false=>exact ⟨.bl false,H1,I1,rfl,q1⟩
theorem aV1 (ha:PE X a ta) (hb:PE X (.BoolOp .Or (b::rest) pos) tb):PE X (.BoolOp .Or (a::b::rest) pos) (aVy ta tb):=by
 intro pins s σ H Q I h
 refine BoolOp_or (thn (ha pins s σ H _ I h) fun v s1 ⟨x,H1,I1,r1,q1⟩=>?_)
 obtain ⟨c,rfl,q1⟩:=q1
 cases r1
 refine wpAny_truthy_bool ?_
 cases c with
 |false=>exact hb pins s1 σ H1 Q I1 q1
 |true=>exact ⟨.bl true,H1,I1,rfl,q1⟩
theorem aU9 (ha:PE X a ta):PE X (.UnaryOp .Not a pos) (aSs ta):=by
 intro pins s σ H Q I h
 refine UnaryOp_ (thn (ha pins s σ H _ I h) fun v s1 ⟨x,H1,I1,r1,q1⟩=>?_)
 obtain ⟨c,rfl,q1⟩:=q1
 cases r1
 exact not_of (wpAny_truthy_bool ⟨.bl (!c),H1,I1,rfl,q1⟩)
def tIf (t:TT) (ta tb:TE):TE:=fun σ H Q=>t σ H fun c H1=>if c=true then ta σ H1 Q else tb σ H1 Q
theorem aO5 {c:Expr} (hc:PT X c tA) (ha:PE X a ta) (hb:PE X b tb):PE X (.IfExp c a b pos) (tIf tA ta tb):=by
 intro pins s σ H Q I h
 refine wpAny_IfExp (thn (hc pins s σ H _ I h) fun d s1 ⟨H1,I1,q1⟩=>?_)
 cases d with
 |true=>exact ha pins s1 σ H1 Q I1 q1
 |false=>exact hb pins s1 σ H1 Q I1 q1
end
def SqL (K:PySem.W.Frag) (H:Hp) (a:Addr) (xs:List V):Prop:=
 Rd H a (.lst xs) ∨
  ∃(o:Obj) (its:Array Value) (n:Nat),K.lookup a=some o∧o.cls=.type "list"∧o.dict=none∧o.data=.seq its n∧its.size≤sizeLine∧Vals xs its.toList
def SqT (K:PySem.W.Frag) (H:Hp) (a:Addr) (xs:List V):Prop:=
 Rd H a (.tup xs) ∨
  ∃(o:Obj) (its:Array Value) (n:Nat),K.lookup a=some o∧o.cls=.type "tuple"∧o.dict=none∧o.data=.seq its n∧its.size≤sizeLine∧Vals xs its.toList
def aXb:Value→Option V
 |.none=>some .non
 |.bool b=>some (.bl b)
 |.int i _=>some (.int i)
 |.str x _=>some (.str x)
 |.bytes b _=>some (.byt b)
 |.float b _=>some (.flt b)
 |.ref a=>some (.ref a)
 |.type n=>some (.ty n)
 |_=>none
theorem RelV.abs {x:V} {u:Value} (r:RelV x u):aXb u=some x:=by
 cases x with
 |non=>cases r;rfl
 |bl _=>cases r;rfl
 |int _=>obtain ⟨t,rfl⟩:=r;rfl
 |str _=>obtain ⟨t,rfl⟩:=r;rfl
 |byt _=>obtain ⟨t,rfl⟩:=r;rfl
 |flt _=>obtain ⟨t,rfl⟩:=r;rfl
 |ref _=>cases r;rfl
 |ty _=>cases r;rfl
theorem RelV.inj {x y:V} {u:Value} (r:RelV x u) (q:RelV y u):x=y:=Option.some.inj (r.abs.symm.trans q.abs)
theorem Vals.inj:∀{xs ys:List V} {us:List Value},Vals xs us→Vals ys us→xs=ys
 |_,_,_,.nil,.nil=>rfl
 |_,_,_,.cons r t,.cons r' t'=>by rw [r.inj r',Vals.inj t t']
section
variable {X:Cx} {pins:List (Addr × Obj)} {σ:St} {H:Hp} {s:Shared} {a:Addr} {xs ys:List V}
theorem SqL.of {K:PySem.W.Frag} (h:H a=some (.lst xs)):SqL K H a xs:=.inl (.inl h)
theorem SqT.of {K:PySem.W.Frag} (h:H a=some (.tup xs)):SqT K H a xs:=.inl (.inl h)
theorem Inv.list (I:Inv X pins σ H s) (h:SqL X.K H a xs):∃its:List Value,Vals xs its∧PlainL s.heap a its.toArray∧xs.length≤sizeLine:=by
 rcases h with h|⟨o,its,n,hk,hc,hd,hs,hz,r⟩
 ·obtain ⟨z,its,n,r,e⟩:=h.ok I.hok
  exact ⟨its,r,⟨_,n,e,rfl,rfl,rfl⟩,z⟩
 ·refine ⟨its.toList,r,⟨o,n,I.kIn a o hk,hc,hd,by simpa using hs⟩,?_⟩
  have e:=r.length
  simp only [Array.length_toList] at e
  lia
theorem Inv.tuple (I:Inv X pins σ H s) (h:SqT X.K H a xs):∃its:List Value,Vals xs its∧IsTup s.heap a its.toArray∧xs.length≤sizeLine:=by
 rcases h with h|⟨o,its,n,hk,hc,hd,hs,hz,r⟩
 ·obtain ⟨z,its,r,p⟩:=h.ok I.hok
  exact ⟨its,r,p.1,z⟩
 ·refine ⟨its.toList,r,⟨o,I.kIn a o hk,hc,n,by simpa using hs⟩,?_⟩
  have e:=r.length
  simp only [Array.length_toList] at e
  lia
theorem Inv.aOn (I:Inv X pins σ H s) (h:SqL X.K H a xs) (h':SqL X.K H a ys):xs=ys:=by
 obtain ⟨its,r,⟨o,n,e,_,_,d⟩,_⟩:=I.list h
 obtain ⟨its',r',⟨o',n',e',_,_,d'⟩,_⟩:=I.list h'
 rw [e] at e';cases e'
 rw [d] at d'
 injection d' with d1 _
 have:its=its':=by simpa using congrArg Array.toList d1
 subst this
 exact r.inj r'
theorem Inv.aLp (I:Inv X pins σ H s) (h:SqT X.K H a xs) (h':SqT X.K H a ys):xs=ys:=by
 obtain ⟨its,r,⟨o,e,_,n,d⟩,_⟩:=I.tuple h
 obtain ⟨its',r',⟨o',e',_,n',d'⟩,_⟩:=I.tuple h'
 rw [e] at e';cases e'
 rw [d] at d'
 injection d' with d1 _
 have:its=its':=by simpa using congrArg Array.toList d1
 subst this
 exact r.inj r'
end
abbrev Cx.wish (X:Cx) (E:Value→Shared→Prop):Cx:={ X with xe:=E }
abbrev Cx.nox (X:Cx):Cx:=X.wish fun _ _=>False
theorem Cx.Ok.wish {X:Cx} (ok:X.Ok) (E:Value→Shared→Prop):(X.wish E).Ok:=
 ⟨ok.mod,ok.kind,ok.glob,ok.blt,ok.above,ok.inj,ok.has,ok.cab,ok.hd,ok.frames,ok.stk,ok.exf,ok.bs,ok.bsz,ok.noex,ok.exfs,ok.funs,ok.frf⟩
theorem Cx.Ok.pF {X:Cx} {E:Value→Shared→Prop} (ok:(X.wish E).Ok):X.Ok:=
 ⟨ok.mod,ok.kind,ok.glob,ok.blt,ok.above,ok.inj,ok.has,ok.cab,ok.hd,ok.frames,ok.stk,ok.exf,ok.bs,ok.bsz,ok.noex,ok.exfs,ok.funs,ok.frf⟩
section
variable {X:Cx} {pins:List (Addr × Obj)} {σ:St} {H:Hp} {s:Shared} {E:Value→Shared→Prop}
theorem Inv.wish (I:Inv X pins σ H s) (E:Value→Shared→Prop):Inv (X.wish E) pins σ H s:=⟨I.ok.wish E,I.os,I.bare,I.base,I.loc,I.cell,I.free,I.freeC,I.pin,I.hok,I.len⟩
theorem Inv.pF (I:Inv (X.wish E) pins σ H s):Inv X pins σ H s:=⟨I.ok.pF,I.os,I.bare,I.base,I.loc,I.cell,I.free,I.freeC,I.pin,I.hok,I.len⟩
theorem SP.pF {D:Ends} {f:Flow} {s':Shared} (h:SP (X.wish E) pins D f s'):SP X pins D f s':=by
 cases f with
 |next=>obtain ⟨σ',H',I,q⟩:=h;exact ⟨σ',H',I.pF,q⟩
 |brk=>obtain ⟨σ',H',I,q⟩:=h;exact ⟨σ',H',I.pF,q⟩
 |cont=>obtain ⟨σ',H',I,q⟩:=h;exact ⟨σ',H',I.pF,q⟩
 |ret u=>obtain ⟨v,σ',H',I,r,q⟩:=h;exact ⟨v,σ',H',I.pF,r,q⟩
theorem PSs.nox {st:List Stmt} {t:TS} (h:PSs X.nox st t):PSs X st t:=fun pins s σ H D I hw=>
 wpAny_mono (h pins s σ H D (I.wish _) hw) (fun _ _ q=>q.pF) fun _ _ z=>False.elim z
end
section
variable {X:Cx} {st:Stmt} {rest:List Stmt} {t u:TS} {e:Expr} {te:TE} {pos:Pos}
def tW:TS:=fun D σ H=>D.nx σ H
def aGb (t u:TS):TS:=fun D σ H=>t { D with nx:=u D } σ H
theorem aR0:PSs X [] tW:=fun _ _ σ H _ I h=>wpAny_execs_nil ⟨σ,H,I,h⟩
theorem aM6 (h1:PS X st t) (h2:PSs X rest u):PSs X (st::rest) (aGb t u):=by
 intro pins s σ H D I h
 refine wpAny_execs_cons (thn (h1 pins s σ H { D with nx:=u D } I h) fun f s1 q=>?_)
 cases f with
 |next=>
  obtain ⟨σ',H',I',q⟩:=q
  exact h2 pins s1 σ' H' D I' q
 |ret v=>exact q
 |brk=>exact q
 |cont=>exact q
theorem aQm (h1:PS X st t):PSs X [st] t:=by
 intro pins s σ H D I h
 refine wpAny_execs_cons (thn (h1 pins s σ H D I h) fun f s1 q=>?_)
 cases f with
 |next=>exact wpAny_execs_nil q
 |ret v=>exact q
 |brk=>exact q
 |cont=>exact q
theorem Inv.quiet {pins:List (Addr × Obj)} {σ:St} {H:Hp} {s:Shared} (I:Inv X pins σ H s):interactive X.env=false:=by simp [interactive,I.ok.kind]
def aSp (te:TE):TS:=fun D σ H=>te σ H fun _ H1=>D.nx σ H1
theorem aQg (he:PE X e te) (hs:swapsWith e none pos.line X.env=pure false:=by rfl):PS X (.Expr e pos) (aSp te):=by
 intro pins s σ H D I h
 exact wpAny_Expr_any (thn (he pins s σ H _ I h) fun v s1 ⟨x,H1,I1,r1,q1⟩=>⟨σ,H1,I1,q1⟩) I.quiet hs
def uW (te:TE):TS:=fun D σ H=>te σ H D.rt
theorem aU2 (he:PE X e te):PS X (.Return (some e) pos) (uW te):=by
 intro pins s σ H D I h
 exact wpAny_Return_some (thn (he pins s σ H _ I h) fun v s1 ⟨x,H1,I1,r1,q1⟩=>⟨x,σ,H1,I1,r1,q1⟩)
def aK6 (c:TT) (t u:TS):TS:=fun D σ H=>c σ H fun b H1=>if b=true then t D σ H1 else u D σ H1
theorem aWw {c:Expr} {a b:List Stmt} {tc:TT} (hc:PT X c tc) (ha:PSs X a t) (hb:PSs X b u):PS X (.If c a b pos) (aK6 tc t u):=by
 intro pins s σ H D I h
 refine wpAny_If (thn (hc pins s σ H _ I h) fun d s1 ⟨H1,I1,q1⟩=>?_)
 cases d with
 |true=>exact ha pins s1 σ H1 D I1 q1
 |false=>exact hb pins s1 σ H1 D I1 q1
def aNf:TS:=fun _ _ _=>False
theorem aP9:PS X st aNf:=fun _ _ _ _ _ _ h=>h.elim
end
abbrev TG:=V→St→Hp→(St→Hp→Prop)→Prop
abbrev TGs:=List V→St→Hp→(St→Hp→Prop)→Prop
def PG (X:Cx) (target:Expr) (t:TG):Prop:=
 ∀(pins:List (Addr × Obj)) (s:Shared) (σ:St) (H:Hp) (v:V) (u:Value) (Q:St→Hp→Prop),Inv X pins σ H s→RelV v u→t v σ H Q →
  wpAny (model X.prog X.w) X.A (assign target X.env u) (fun _ s'=>∃σ' H',Inv X pins σ' H' s'∧Q σ' H') X.xe s
def PGs (X:Cx) (ts:List Expr) (t:TGs):Prop:=
 ∀(pins:List (Addr × Obj)) (s:Shared) (σ:St) (H:Hp) (vs:List V) (us:List Value) (Q:St→Hp→Prop),Inv X pins σ H s→Vals vs us→t vs σ H Q →
  wpAny (model X.prog X.w) X.A (assignInOrder ((assignEach ts X.env).map (·.2)) us) (fun _ s'=>∃σ' H',Inv X pins σ' H' s'∧Q σ' H') X.xe s
abbrev aQy:=V→V→V→Hp→(Hp→Prop)→Prop
def aU7 (X:Cx) (t:aQy):Prop:=
 ∀(pins:List (Addr × Obj)) (s:Shared) (σ:St) (H:Hp) (o i v:V) (ov iv u:Value) (Q:Hp→Prop),Inv X pins σ H s→RelV o ov→RelV i iv→RelV v u→t o i v H Q →
  wpAny (model X.prog X.w) X.A (setItem ov iv u) (fun _ s'=>∃H',Inv X pins σ H' s'∧Q H') X.xe s
section
variable {X:Cx} {pos:Pos}
def cJ (i:Nat):TG:=fun v σ H Q=>Q (σ.set i (some v)) H
theorem aSe {i:Nat} {x:Str} (hN:X.N.Nodup) (hi:X.N[i]?=some x) (hx:Loc X.env.scope x) (hf:X.fn x=true∨X.env.scope.names.lookup x=some .local:=by first|exact .inl rfl|exact .inr rfl|assumption):PG X (.Name x pos) (cJ i):=by
 intro pins s σ H v u Q I r h
 exact wpAny_assign_Name (aEu I hN hi hx r (fun s' I'=>⟨_,H,I',h⟩) hf)
def aMf:TGs:=fun vs σ H Q=>vs=[]∧Q σ H
def qQ (t:TG) (u:TGs):TGs:=fun vs σ H Q=>∃v r,vs=v::r∧t v σ H fun σ' H'=>u r σ' H' Q
theorem aQ0:PGs X [] aMf:=by
 intro pins s σ H vs us Q I r h
 obtain ⟨e,h⟩:=h
 subst e
 cases r
 exact assignInOrder_nil ⟨σ,H,I,h⟩
theorem aM7 {e:Expr} {es:List Expr} {t:TG} {u:TGs} (h1:PG X e t) (h2:PGs X es u)
  (hs:(assignEach (e::es) X.env).map (·.2)=assign e X.env::(assignEach es X.env).map (·.2):=by rfl):PGs X (e::es) (qQ t u):=by
 intro pins s σ H vs us Q I r h
 obtain ⟨v,vr,e1,h⟩:=h
 subst e1
 cases r with
 |cons r rr=>
  rw [hs]
  refine assignInOrder_cons (thn (h1 pins s σ H _ _ _ I r h) fun _ s1 ⟨σ1,H1,I1,q1⟩=>?_)
  exact h2 pins s1 σ1 H1 _ _ Q I1 rr q1
def aI9 (K:PySem.W.Frag) (n:Nat) (t:TGs):TG:=fun v σ H Q=>∃a xs,v=.ref a∧SqT K H a xs∧xs.length=n∧t xs σ H Q
theorem aTg {es:List Expr} {k:Nat} {t:TGs} {n:Nat} (hc:X.calm=true) (h:PGs X es t)
  (hn:(assignEach es X.env).length=n:=by rfl) (hst:(assignEach es X.env).findIdx? (·.1)=none:=by rfl):PG X (.Tuple es k pos) (aI9 X.K n t):=by
 intro pins s σ H v u Q I r hw
 obtain ⟨a,xs,e1,hq,hl,hw⟩:=hw
 subst e1
 cases r
 obtain ⟨its,rv,ht,hz⟩:=I.tuple hq
 refine assign_Tuple_tuple (I.ok.hd hc) ht (by simp [hn,←hl,rv.length]) hst fun h' hx=>?_
 have I1:Inv X pins σ H { s with heap:=h' }:=I.kept (t':=s.toks) fun b o e=>hx b o (Nat.ne_of_lt (Heap.lt_size e)) e
 exact h pins _ σ H xs _ Q I1 (by simpa using rv) hw
def aV9 (to ti:TE) (t:aQy):TG:=fun v σ H Q=>to σ H fun o H1=>ti σ H1 fun i H2=>t o i v H2 fun H3=>Q σ H3
theorem aTz {o i:Expr} {to ti:TE} {t:aQy} (ho:PE X o to) (hi:PE X i ti) (hs:aU7 X t)
  (ha:∀v,assign (.Subscript o i pos) X.env v=(do
   let ov ←holding [v] (eval o X.env)
   let iv ←holding [v,ov] (eval i X.env)
   standAt pos
   holding [v,ov,iv] (setItem ov iv v)
   release [v,ov,iv] []):=by intro _;rfl):PG X (.Subscript o i pos) (aV9 to ti t):=by
 intro pins s σ H v u Q I r h
 rw [ha]
 refine wpAny_bind (wpAny_holding (thn (ho pins s σ H _ I h) fun ov s1 ⟨x,H1,I1,r1,q1⟩=>?_))
 refine wpAny_bind (wpAny_holding (thn (hi pins s1 σ H1 _ I1 q1) fun iv s2 ⟨y,H2,I2,r2,q2⟩=>?_))
 refine wpAny_bind (wpAny_standAt (wpAny_bind (wpAny_holding (thn (hs pins s2 σ H2 x y v ov iv u _ I2 r1 r2 r q2) fun _ s3 ⟨H3,I3,q3⟩=>?_))))
 exact wpAny_release ⟨σ,H3,I3,q3⟩
def aBb (te:TE) (g:TG):TS:=fun D σ H=>te σ H fun x H1=>g x σ H1 D.nx
theorem aVc {tg e:Expr} {te:TE} {g:TG} (he:PE X e te) (hg:PG X tg g) (hs:swapsWithSole [tg] e pos.line X.env=pure false:=by rfl) (hw:swappedStores [tg] e X.env=pure none:=by rfl)
  (h1:(assignEach [tg] X.env).map (·.2)=[assign tg X.env]:=by rfl):PS X (.Assign [tg] e pos) (aBb te g):=by
 intro pins s σ H D I h
 refine wpAny_Assign_stores (thn (he pins s σ H _ I h) fun v s1 ⟨x,H1,I1,r1,q1⟩=>?_) hs hw
 rw [h1]
 exact thn (hg pins s1 σ H1 x v _ I1 r1 q1) fun _ s2 q=>q
theorem aUj {i:Nat} {x:Str} {e:Expr} {te:TE} {pos':Pos} (hN:X.N.Nodup) (hi:X.N[i]?=some x) (hx:Loc X.env.scope x) (he:PE X e te) (hs:swapsWith e (some (.Name x pos')) pos.line X.env=pure false:=by rfl) (hf:X.fn x=true∨X.env.scope.names.lookup x=some .local:=by first|exact .inl rfl|exact .inr rfl|assumption) :
  PS X (.Assign [.Name x pos'] e pos) (aBb te (cJ i)):=by
 intro pins s σ H D I h
 refine wpAny_Assign_Name (thn (he pins s σ H _ I h) fun v s1 ⟨y,H1,I1,r1,q1⟩=>?_) hs
 exact aEu I1 hN hi hx r1 (fun s2 I2=>⟨_,H1,I2,q1⟩) hf
end
section
variable {X:Cx} {pos:Pos}
end
structure It where
 go:Nat→Hp→Prop
 yld:Nat→Hp→V→Hp→Prop
 stop:Nat→Hp→Prop
def qN (X:Cx) (pins:List (Addr × Obj)) (H:Hp) (b:Addr):Prop:=
 H b=none∧b≠X.env.locals∧b∉X.fs∧(b∈X.ex∨X.s₀.heap.objs.size≤b)∧(∀x c,X.env.cells.lookup x=some c→c≠b)∧∀p∈X.pn++pins,p.1≠b
theorem Inv.aA1 {X:Cx} {pins:List (Addr × Obj)} {σ:St} {H H':Hp} {s:Shared} {b:Addr} (I:Inv X pins σ H s) (hb:s.heap.objs.size≤b) (hn:H' b=none):qN X pins H' b:=by
 refine ⟨hn,Nat.ne_of_gt (Nat.lt_of_lt_of_le I.lt hb),I.nofs hb,.inr (Nat.le_trans I.sz hb),fun x c e z=>?_,fun p hp z=>?_⟩
 ·obtain ⟨v,q⟩:=I.cell x c e
  exact absurd (Nat.lt_of_lt_of_le q.lt (by rw [z];exact hb)) (Nat.lt_irrefl _)
 ·exact absurd (Nat.lt_of_lt_of_le (Heap.lt_size (I.pin p hp).1) (by rw [z];exact hb)) (Nat.lt_irrefl _)
structure Turn (P:Program) (w:World) (K:PySem.W.Frag) (tg:Expr) (J:It) (fp:List Addr) (it:Addr) (tn:Nat→Heap→Prop):Prop where
 mem:it∈fp
 obj:∀i h,tn i h→∀b∈fp,∃o,h.get? b=some o∧∀v,o.data≠.cell v
 keep:∀i h h',tn i h→(∀b∈fp,∀o,h.get? b=some o→h'.get? b=some o)→tn i h'
 item:∀(X:Cx),X.prog=P→X.w=w→X.K=K→X.calm=true→∀(i:Nat) (pins:List (Addr × Obj)) (s:Shared) (σ:St) (H:Hp) (E:Value→Shared→Prop),Inv X pins σ H s→(∀b∈fp,qN X pins H b)→tn i s.heap→J.go i H →
  wpAny (model P w) X.A (pyNext (.ref it)) (fun r s1=>∃u,r=some u ∧
   wpAny (model P w) X.A (letOwnedTupleGo tg (.ref it) u) (fun _ s2=>∃x H',Inv X pins σ H' s2∧RelV x u∧J.yld i H x H'∧tn (i+1) s2.heap∧∀b∈fp,H' b=none) E s1) E s
 done:∀(X:Cx),X.prog=P→X.w=w→X.K=K→X.calm=true→∀(i:Nat) (pins:List (Addr × Obj)) (s:Shared) (σ:St) (H:Hp) (E:Value→Shared→Prop),Inv X pins σ H s→(∀b∈fp,qN X pins H b)→tn i s.heap→J.stop i H →
  wpAny (model P w) X.A (pyNext (.ref it)) (fun r s1=>r=none∧Inv X pins σ H s1) E s
 self:∀(A:Around) (i:Nat) (s:Shared) (Q:Value→Shared→Prop) (E:Value→Shared→Prop),tn i s.heap→Q (.ref it) s→wpAny (model P w) A (pyIter (.ref it)) Q E s
abbrev TI:=St→Hp→(It→Hp→Prop)→Prop
def PIE (X:Cx) (pins:List (Addr × Obj)) (σ:St) (tg:Expr) (R:It→Hp→Prop) (itv:Value) (s2:Shared):Prop:=
 ∃(it:Addr) (fp:List Addr) (tn:Nat→Heap→Prop) (J:It) (H':Hp),itv=.ref it∧Inv X pins σ H' s2∧Turn X.prog X.w X.K tg J fp it tn∧tn 0 s2.heap∧(∀b∈fp,qN X pins H' b)∧R J H'
def PI (X:Cx) (tg iter:Expr) (wi:TI):Prop:=
 ∀(pins:List (Addr × Obj)) (s:Shared) (σ:St) (H:Hp) (R:It→Hp→Prop),Inv X pins σ H s→wi σ H R →
  wpAny (model X.prog X.w) X.A (eval iter X.env) (fun v s1=>wpAny (model X.prog X.w) X.A (pyIter v) (PIE X pins σ tg R) X.xe s1) X.xe s
theorem aBi {M:Model} {A:Around} {E:Value→Shared→Prop} {s:Shared} {tg:Expr} {it:Addr} {u:Value} {o:Obj} {n:String} {vs:Array Value} {Q:Unit→Shared→Prop} (ho:s.heap.get? it=some o) (hc:o.cls=.type n) (hd:o.data=.fields vs)
  (hn:["enumerate","zip","dict_itemiterator","dict_reverseitemiterator","odict_iterator","itertools.zip_longest","itertools.pairwise"].contains n=false) (hQ:Q () s):wpAny M A (letOwnedTupleGo tg (.ref it) u) Q E s:=by
 unfold letOwnedTupleGo
 cases tg <;> first
  |exact wpAny_pure hQ
  |(cases u <;> first
    |exact wpAny_pure hQ
    |(refine wpAny_bind (wpAny_load ho ?_);rw [hc,hd];show wpAny M A (if (["enumerate","zip","dict_itemiterator","dict_reverseitemiterator","odict_iterator","itertools.zip_longest","itertools.pairwise"].contains n && vs[0]? == some (rawInt _))=true then _ else _) Q E s;rw [if_neg (by intro h;rw [hn,Bool.false_and] at h;cases h)];exact wpAny_pure hQ))
def Itl (K:PySem.W.Frag) (a:Addr):It:=
 ⟨fun i H=>∃xs x,SqL K H a xs∧xs[i]?=some x,fun i H x H'=>H'=H∧∀xs,SqL K H a xs→xs[i]?=some x,fun i H=>∃xs,SqL K H a xs∧xs.length≤i⟩
def Itt (K:PySem.W.Frag) (a:Addr):It:=
 ⟨fun i H=>∃xs x,SqT K H a xs∧xs[i]?=some x,fun i H x H'=>H'=H∧∀xs,SqT K H a xs→xs[i]?=some x,fun i H=>∃xs,SqT K H a xs∧xs.length≤i⟩
def Itr (lo:Int) (n:Nat):It:=⟨fun i _=>i<n,fun i H x H'=>H'=H∧x=.int (lo+i),fun i _=>n≤i⟩
theorem aMu {P:Program} {w:World} {K:PySem.W.Frag} {tg:Expr} (a it:Addr):Turn P w K tg (Itl K a) [it] it (fun i h=>h.IsListIter it a i) where
 mem:=by simp
 obj:=fun i h st b hb=>by
  have e:b=it:=by simpa using hb
  subst e
  obtain ⟨o,e,c,d⟩:=st
  exact ⟨o,e,fun v z=>by rw [d] at z;cases z⟩
 keep:=fun i h h' st k=>st.at fun o e=>k it (by simp) o e
 item:=by
  intro X hP hw hK hc i pins s σ H E I hf st hg
  subst hP hw hK
  obtain ⟨xs,x,hq,hx⟩:=hg
  obtain ⟨its,rv,p,hz⟩:=I.list hq
  obtain ⟨u,hu,ru⟩:=rv.get hx
  obtain ⟨f0,f1,f2,f3,f4,f5⟩:=hf it (by simp)
  refine wpAny_pyNext_list_item st p.isList (x:=u) (by simpa using hu) fun h' st' sb=>?_
  have I1:Inv X pins σ H { s with heap:=h' }:=I.turned (t':=s.toks) (fun b o hb e=>(sb.2 b hb).trans e) f0 f1 f3 f4 f5
  obtain ⟨o,e,c,d⟩:=id st'
  exact ⟨u,rfl,aBi (s:={ s with heap:=h' }) e c d (by decide) ⟨x,H,I1,ru,⟨rfl,fun ys hy=>by rw [I.aOn hy hq];exact hx⟩,st',fun b hb=>(hf b hb).1⟩⟩
 done:=by
  intro X hP hw hK hc i pins s σ H E I hf st hg
  subst hP hw hK
  obtain ⟨xs,hq,hx⟩:=hg
  obtain ⟨its,rv,p,hz⟩:=I.list hq
  obtain ⟨f0,f1,f2,f3,f4,f5⟩:=hf it (by simp)
  have hl:=rv.length
  exact wpAny_pyNext_list_end (I.ok.hd hc) st p.isList (by simp;lia) fun h' eb=>⟨rfl,I.turned (t':=s.toks) (fun b o hb e=>eb b o hb e) f0 f1 f3 f4 f5⟩
 self:=fun _ _ _ _ _ st h=>wpAny_pyIter_listiter st h
theorem aHi {P:Program} {w:World} {K:PySem.W.Frag} {tg:Expr} (a it:Addr):Turn P w K tg (Itt K a) [it] it (fun i h=>h.IsTupleIter it a i) where
 mem:=by simp
 obj:=fun i h st b hb=>by
  have e:b=it:=by simpa using hb
  subst e
  obtain ⟨o,e,c,d⟩:=st
  exact ⟨o,e,fun v z=>by rw [d] at z;cases z⟩
 keep:=fun i h h' st k=>st.at fun o e=>k it (by simp) o e
 item:=by
  intro X hP hw hK hc i pins s σ H E I hf st hg
  subst hP hw hK
  obtain ⟨xs,x,hq,hx⟩:=hg
  obtain ⟨its,rv,p,hz⟩:=I.tuple hq
  obtain ⟨u,hu,ru⟩:=rv.get hx
  obtain ⟨f0,f1,f2,f3,f4,f5⟩:=hf it (by simp)
  refine wpAny_pyNext_tuple_item st (show s.heap.IsTuple a its.toArray from p) (x:=u) (by simpa using hu) fun h' st' sb=>?_
  have I1:Inv X pins σ H { s with heap:=h' }:=I.turned (t':=s.toks) (fun b o hb e=>(sb.2 b hb).trans e) f0 f1 f3 f4 f5
  obtain ⟨o,e,c,d⟩:=id st'
  exact ⟨u,rfl,aBi (s:={ s with heap:=h' }) e c d (by decide) ⟨x,H,I1,ru,⟨rfl,fun ys hy=>by rw [I.aLp hy hq];exact hx⟩,st',fun b hb=>(hf b hb).1⟩⟩
 done:=by
  intro X hP hw hK hc i pins s σ H E I hf st hg
  subst hP hw hK
  obtain ⟨xs,hq,hx⟩:=hg
  obtain ⟨its,rv,p,hz⟩:=I.tuple hq
  obtain ⟨f0,f1,f2,f3,f4,f5⟩:=hf it (by simp)
  have hl:=rv.length
  exact wpAny_pyNext_tuple_end (I.ok.hd hc) st (show s.heap.IsTuple a its.toArray from p) (by simp;lia) fun h' eb=>⟨rfl,I.turned (t':=s.toks) (fun b o hb e=>eb b o hb e) f0 f1 f3 f4 f5⟩
 self:=fun _ _ _ _ _ st h=>wpAny_pyIter_tupleiter st h
theorem aIr {P:Program} {w:World} {K:PySem.W.Frag} {tg:Expr} (it:Addr) (lo:Int) (n:Nat):Turn P w K tg (Itr lo n) [it] it (fun i h=>IsRangeIter h it (lo+(i:Nat) * 1) ((n:Int) - (i:Nat)) 1) where
 mem:=by simp
 obj:=fun i h st b hb=>by
  have e:b=it:=by simpa using hb
  subst e
  exact ⟨_,st,fun v z=>by
   have z':Data.fields _=Data.cell v:=z
   cases z'⟩
 keep:=fun i h h' st k=>k it (by simp) _ st
 item:=by
  intro X hP hw hK hc i pins s σ H E I hf st hg
  subst hP hw hK
  obtain ⟨f0,f1,f2,f3,f4,f5⟩:=hf it (by simp)
  have W:=Walks.range (prog:=X.prog) (w:=X.w) (I.ok.hd hc) it lo 1 n
  refine W.item i s _ _ hg st fun v h' tk hv st' kk=>?_
  obtain ⟨t,rfl⟩:=hv
  have I1:Inv X pins σ H { s with heap:=h',toks:=tk }:=I.turned (fun b o hb e=>kk b o (by simpa using hb) e) f0 f1 f3 f4 f5
  refine ⟨_,rfl,aBi (s:={ s with heap:=h',toks:=tk }) (n:="range_iterator") st' rfl rfl (by decide) ⟨.int (lo+i),H,I1,⟨t,?_⟩,⟨rfl,rfl⟩,st',fun b hb=>(hf b hb).1⟩⟩
  rw [Int.mul_one]
 done:=by
  intro X hP hw hK hc i pins s σ H E I hf st hg
  subst hP hw hK
  obtain ⟨f0,f1,f2,f3,f4,f5⟩:=hf it (by simp)
  exact wpAny_pyNext_range_end (I.ok.hd hc) st (by have:n≤i:=hg;lia) fun h' eb=>⟨rfl,I.turned (t':=s.toks) (fun b o hb e=>eb b o hb e) f0 f1 f3 f4 f5⟩
 self:=fun _ _ _ _ _ st h=>wpAny_pyIter_rangeiter st h
section
variable {X:Cx} {tg:Expr}
def aF7 (K:PySem.W.Frag) (tl:TE):TI:=fun σ H R=>tl σ H fun x H1=>∃a,x=.ref a∧(∃xs,SqL K H1 a xs)∧R (Itl K a) H1
def aQ7 (K:PySem.W.Frag) (tl:TE):TI:=fun σ H R=>tl σ H fun x H1=>∃a,x=.ref a∧(∃xs,SqT K H1 a xs)∧R (Itt K a) H1
theorem aQi {l:Expr} {tl:TE} (hl:PE X l tl):PI X tg l (aF7 X.K tl):=by
 intro pins s σ H R I h
 refine thn (hl pins s σ H _ I h) fun v s1 ⟨x,H1,I1,r1,q1⟩=>?_
 obtain ⟨a,e,⟨xs,hq⟩,q⟩:=q1
 subst e
 cases r1
 obtain ⟨its,rv,p,hz⟩:=I1.list hq
 refine wpAny_pyIter_list p.isList ?_
 refine ⟨s1.heap.objs.size,[s1.heap.objs.size],_,_,H1,rfl,I1.kept (t':=s1.toks) fun b o e=>Heap.get?_push_of_some _ e,aMu a _,⟨_,Heap.get?_push_size _ rfl,rfl,rfl⟩,fun b hb=>?_,q⟩
 have e:b=s1.heap.objs.size:=by simpa using hb
 subst e
 exact I1.aA1 (Nat.le_refl _) (I1.hok.fresh (Nat.le_refl _))
theorem aTk {l:Expr} {tl:TE} (hl:PE X l tl):PI X tg l (aQ7 X.K tl):=by
 intro pins s σ H R I h
 refine thn (hl pins s σ H _ I h) fun v s1 ⟨x,H1,I1,r1,q1⟩=>?_
 obtain ⟨a,e,⟨xs,hq⟩,q⟩:=q1
 subst e
 cases r1
 obtain ⟨its,rv,p,hz⟩:=I1.tuple hq
 refine wpAny_pyIter_tuple (show s1.heap.IsTuple a its.toArray from p) ?_
 refine ⟨s1.heap.objs.size,[s1.heap.objs.size],_,_,H1,rfl,I1.kept (t':=s1.toks) fun b o e=>Heap.get?_push_of_some _ e,aHi a _,⟨_,Heap.get?_push_size _ rfl,rfl,rfl⟩,fun b hb=>?_,q⟩
 have e:b=s1.heap.objs.size:=by simpa using hb
 subst e
 exact I1.aA1 (Nat.le_refl _) (I1.hok.fresh (Nat.le_refl _))
theorem aGk {pins:List (Addr × Obj)} {σ:St} {H:Hp} {s:Shared} {R:It→Hp→Prop} {E:Value→Shared→Prop} {lo hi:Int} {t u v:Tok} {tk:Nat} (I:Inv X pins σ H s) (h1:-(2 ^ 62)≤lo) (h2:lo<2 ^ 62) (h3:-(2 ^ 62)≤hi) (h4:hi<2 ^ 62)
  (q:R (Itr lo (hi - lo).toNat) H):wpAny (model X.prog X.w) X.A (pyIter (.ref s.heap.objs.size)) (PIE X pins σ tg R) E { s with heap:=s.heap.push { cls:=.type "range",data:=.fields #[.int lo t,.int hi u,.int 1 v] },toks:=tk }:=by
 refine wpAny_pyIter_range (IsRange.new ..) (small_one h1 h2 h3 h4) ?_
 have I1:Inv X pins σ H { s with heap:=s.heap.push { cls:=.type "range",data:=.fields #[.int lo t,.int hi u,.int 1 v] },toks:=tk }:=I.kept fun b o e=>Heap.get?_push_of_some _ e
 refine ⟨(s.heap.push { cls:=.type "range",data:=.fields #[.int lo t,.int hi u,.int 1 v] }).objs.size,[(s.heap.push { cls:=.type "range",data:=.fields #[.int lo t,.int hi u,.int 1 v] }).objs.size],_,_,H,rfl,
  I1.kept (t':=tk) fun b o e=>Heap.get?_push_of_some _ e,aIr _ lo (hi - lo).toNat,?_,fun b hb=>?_,q⟩
 ·have e1:lo+((0:Nat):Int) * 1=lo:=by simp
  have e2:(((hi - lo).toNat:Nat):Int) - ((0:Nat):Int)=Builtin.Range.rangeSize lo hi 1:=by rw [rangeSize_one];split <;> lia
  show IsRangeIter _ _ (lo+((0:Nat):Int) * 1) ((((hi - lo).toNat:Nat):Int) - ((0:Nat):Int)) 1
  rw [e1,e2]
  exact Heap.get?_push_size _ rfl
 ·have e:b=(s.heap.push { cls:=.type "range",data:=.fields #[.int lo t,.int hi u,.int 1 v] }).objs.size:=by simpa using hb
  subst e
  exact I1.aA1 (Nat.le_refl _) (I1.hok.fresh (Nat.le_refl _))
def aPj (ta:TA):TI:=fun σ H R=>ta σ H fun vs H1=>∃j:Int,vs=[.int j]∧-(2 ^ 62)≤j∧j<2 ^ 62∧R (Itr 0 j.toNat) H1
def aS5 (ta:TA):TI:=fun σ H R=>ta σ H fun vs H1=>∃i j:Int,vs=[.int i,.int j]∧(-(2 ^ 62)≤i∧i<2 ^ 62∧-(2 ^ 62)≤j∧j<2 ^ 62)∧R (Itr i (j - i).toNat) H1
theorem aLh {a:Expr} {ta:TA} {p pos:Pos} (hg:Gl X "range") (hm:X.mg "range"=none) (ha:PA X [a] ta) (hs:starEach [a] X.env=[(false,eval a X.env)]:=by rfl):PI X tg (.Call (.Name "range" p) [a] [] pos) (aPj ta):=by
 intro pins s σ H R I h
 refine Call_ (lH I hg hm boot_range (PyProof.Rows.callWith_type1 (thn (ha pos pins s σ H _ I h) fun us s1 ⟨vs,H1,I1,r1,q1⟩=>?_) hs rfl))
 obtain ⟨j,e,q1,q2,q⟩:=q1
 subst e
 cases r1 with
 |cons r rr=>
  cases rr
  obtain ⟨t,rfl⟩:=r
  exact call_range_1 (aGk I1 (by lia) (by lia) q1 q2 (by simpa using q))
theorem aMp {a b:Expr} {ta:TA} {p pos:Pos} (hg:Gl X "range") (hm:X.mg "range"=none) (ha:PA X [a,b] ta) (hs:starEach [a,b] X.env=[(false,eval a X.env),(false,eval b X.env)]:=by rfl) (hs2:starEach [b] X.env=[(false,eval b X.env)]:=by rfl) :
  PI X tg (.Call (.Name "range" p) [a,b] [] pos) (aS5 ta):=by
 intro pins s σ H R I h
 refine Call_ (lH I hg hm boot_range (PyProof.Rows.callWith_type1 (thn (ha pos pins s σ H _ I h) fun us s1 ⟨vs,H1,I1,r1,q1⟩=>?_) (by rw [hs,hs2]) (by rw [hs2];rfl)))
 obtain ⟨i,j,e,⟨q1,q2,q3,q4⟩,q⟩:=q1
 subst e
 cases r1 with
 |cons r rr=>
  cases rr with
  |cons r' rr=>
   cases rr
   obtain ⟨t,rfl⟩:=r
   obtain ⟨t',rfl⟩:=r'
   exact call_range_2 (aGk I1 q1 q2 q3 q4 q)
def aVt (wi:TI) (g:TG) (tb:TS):TS:=fun D σ H=>wi σ H fun J H1=>∃W:Nat→Nat→St→Hp→Prop,(∃m,W 0 m σ H1)∧∀i m σ H,W i m σ H →
 (J.stop i H∧D.nx σ H)∨(J.go i H∧∃N:St→Hp→Prop,(∀σ' H',N σ' H'→∃m',m'<m∧W (i+1) m' σ' H')∧∀x H',J.yld i H x H'→g x σ H' fun σ2 H2=>tb { D with nx:=N,ct:=N,bk:=D.nx } σ2 H2)
def vJ (fp:List Addr) (h:Heap):List (Addr × Obj):=fp.filterMap fun b=>(h.get? b).map fun o=>(b,o)
theorem gY {fp:List Addr} {h:Heap} {b:Addr} {o:Obj} (hb:b∈fp) (e:h.get? b=some o):(b,o)∈vJ fp h:=List.mem_filterMap.mpr ⟨b,hb,by rw [e];rfl⟩
theorem aMj {fp:List Addr} {h:Heap} {p:Addr × Obj} (hp:p∈vJ fp h):p.1∈fp∧h.get? p.1=some p.2:=by
 obtain ⟨b,hb,e⟩:=List.mem_filterMap.mp hp
 cases q:h.get? b with
 |none=>rw [q] at e;cases e
 |some o=>
  rw [q] at e
  have e':(b,o)=p:=Option.some.inj e
  subst e'
  exact ⟨hb,q⟩
theorem Inv.pinned {pins:List (Addr × Obj)} {σ:St} {H:Hp} {s:Shared} {fp:List Addr} (I:Inv X pins σ H s) (hf:∀b∈fp,qN X pins H b) (ho:∀b∈fp,∃o,s.heap.get? b=some o∧∀v,o.data≠.cell v):Inv X (pins++vJ fp s.heap) σ H s:=
 I.aJs fun p hp=>(List.mem_append.mp hp).elim (fun z=>I.pin p (List.mem_append_right _ z)) fun z=>by
  obtain ⟨hb,e⟩:=aMj z
  obtain ⟨f0,f1,f2,_⟩:=hf p.1 hb
  obtain ⟨o,e',d⟩:=ho p.1 hb
  rw [e] at e';cases e'
  exact ⟨e,f0,f1,f2,d⟩
theorem Inv.jP {pins pl:List (Addr × Obj)} {σ:St} {H:Hp} {s:Shared} (I:Inv X (pins++pl) σ H s):Inv X pins σ H s:=I.aJs fun p hp=>I.pin p (List.mem_append_right _ (List.mem_append_left _ hp))
theorem aUv {iter:Expr} {body:List Stmt} {wi:TI} {g:TG} {tb:TS} {pos:Pos} (hp:PassesOwn (model X.prog X.w) X.A X.env X.xe) (hc:X.calm=true) (hi:PI X tg iter wi) (hg:PG X tg g) (hb:PSs X body tb)
  (hs:∀x,foldedSetIterable iter X.env x=pure x:=by intro _;rfl):PS X (.For tg iter body [] pos) (aVt wi g tb):=by
 intro pins s σ H D I h
 refine wpAny_For (thn (hi pins s σ H _ I h) fun v s1 h1=>thn h1 fun itv s2 h2=>?_) hs
 obtain ⟨it,fp,tn,J,H2,e,I2,T,st2,f2,W,⟨m0,w0⟩,turn⟩:=h2
 subst e
 have stat:∀{H':Hp},(∀b∈fp,H' b=none)→∀b∈fp,qN X pins H' b:=fun hn b hb=>⟨hn b hb,(f2 b hb).2⟩
 refine codeAny_forLoop_any (fun n s'=>∃i σ' H',Inv X pins σ' H' s'∧tn i s'.heap∧(∀b∈fp,H' b=none)∧W i n σ' H') ?_ m0 ⟨0,σ,H2,I2,st2,fun b hb=>(f2 b hb).1,w0⟩
 rintro n s3 ⟨i,σ3,H3,I3,st3,fr3,w3⟩
 rcases turn i n σ3 H3 w3 with ⟨stop,qn⟩|⟨go,N,hN,step⟩
 ·refine wpAny_passesOwn hp (thn (T.done X rfl rfl rfl hc i pins s3 σ3 H3 X.xe I3 (stat fr3) st3 stop) fun r s4 ⟨hr,I4⟩=>?_)
  subst hr
  exact wpAny_execs_nil ⟨σ3,H3,I4,qn⟩
 ·refine wpAny_passesOwn hp (thn (T.item X rfl rfl rfl hc i pins s3 σ3 H3 X.xe I3 (stat fr3) st3 go) fun r s4 ⟨u,hr,h4⟩=>?_)
  subst hr
  refine wpAny_passesOwn hp (thn h4 fun _ s5 ⟨x,H5,I5,r5,y5,st5,fr5⟩=>?_)
  have I5':=I5.pinned (stat fr5) (T.obj _ _ st5)
  refine wpAny_passesOwn hp (thn (hg _ s5 σ3 H5 x u _ I5' r5 (step x H5 y5)) fun _ s6 ⟨σ6,H6,I6,q6⟩=>?_)
  refine wpAny_passesOwn hp (thn (hb _ s6 σ6 H6 _ I6 q6) fun f s7 q7=>?_)
  have again:∀{σ7:St} {H7:Hp},Inv X (pins++vJ fp s5.heap) σ7 H7 s7→N σ7 H7→∃m,m<n∧∃i σ' H',Inv X pins σ' H' s7∧tn i s7.heap∧(∀b∈fp,H' b=none)∧W i m σ' H':=fun {σ7 H7} I7 n7=>by
   obtain ⟨m',hm,w7⟩:=hN σ7 H7 n7
   refine ⟨m',hm,i+1,σ7,H7,I7.jP,T.keep _ _ _ st5 fun b hb o e=>(I7.pin (b,o) (List.mem_append_right _ (List.mem_append_right _ (gY hb e)))).1,fun b hb=>?_,w7⟩
   obtain ⟨o,e,d⟩:=T.obj _ _ st5 b hb
   exact (I7.pin (b,o) (List.mem_append_right _ (List.mem_append_right _ (gY hb e)))).2.1
  cases f with
  |next=>obtain ⟨σ7,H7,I7,n7⟩:=q7;exact again I7 n7
  |cont=>obtain ⟨σ7,H7,I7,n7⟩:=q7;exact again I7 n7
  |brk=>obtain ⟨σ7,H7,I7,q7⟩:=q7;exact ⟨σ7,H7,I7.jP,q7⟩
  |ret v=>obtain ⟨x7,σ7,H7,I7,r7,q7⟩:=q7;exact ⟨x7,σ7,H7,I7.jP,r7,q7⟩
end
theorem tH {K:PySem.W.Frag} {a:Addr} {xs:List V} {g:TG} {tb:TS} {D:Ends} {σ:St} {H:Hp} (Pv:Nat→St→Hp→Prop) (h0:Pv 0 σ H) (hl:∀i σ H,i≤xs.length→Pv i σ H→SqL K H a xs)
  (hs:∀i x σ H,xs[i]?=some x→Pv i σ H→g x σ H fun σ2 H2=>tb { D with nx:=Pv (i+1),ct:=Pv (i+1),bk:=D.nx } σ2 H2) (hd:∀σ H,Pv xs.length σ H→D.nx σ H) :
  ∃W:Nat→Nat→St→Hp→Prop,(∃m,W 0 m σ H)∧∀i m σ H,W i m σ H →
   ((Itl K a).stop i H∧D.nx σ H)∨((Itl K a).go i H∧∃N:St→Hp→Prop,(∀σ' H',N σ' H'→∃m',m'<m∧W (i+1) m' σ' H')∧∀x H',(Itl K a).yld i H x H'→g x σ H' fun σ2 H2=>tb { D with nx:=N,ct:=N,bk:=D.nx } σ2 H2):=by
 refine ⟨fun i m σ H=>m=xs.length - i∧i≤xs.length∧Pv i σ H,⟨xs.length,by simp,Nat.zero_le _,h0⟩,?_⟩
 rintro i m σ H ⟨rfl,hi,p⟩
 have q:=hl i σ H hi p
 by_cases hlt:i<xs.length
 ·refine .inr ⟨⟨xs,xs[i],q,by simp [hlt]⟩,Pv (i+1),fun σ' H' p'=>⟨xs.length - (i+1),by lia,rfl,hlt,p'⟩,fun x H' y=>?_⟩
  obtain ⟨e,y⟩:=y
  subst e
  exact hs i x σ _ (y xs q) p
 ·have e:i=xs.length:=by lia
  subst e
  exact .inl ⟨⟨xs,q,Nat.le_refl _⟩,hd σ H p⟩
theorem aSb {K:PySem.W.Frag} {a:Addr} {xs:List V} {g:TG} {tb:TS} {D:Ends} {σ:St} {H:Hp} (Pv:Nat→St→Hp→Prop) (h0:Pv 0 σ H) (hl:∀i σ H,i≤xs.length→Pv i σ H→SqT K H a xs)
  (hs:∀i x σ H,xs[i]?=some x→Pv i σ H→g x σ H fun σ2 H2=>tb { D with nx:=Pv (i+1),ct:=Pv (i+1),bk:=D.nx } σ2 H2) (hd:∀σ H,Pv xs.length σ H→D.nx σ H) :
  ∃W:Nat→Nat→St→Hp→Prop,(∃m,W 0 m σ H)∧∀i m σ H,W i m σ H →
   ((Itt K a).stop i H∧D.nx σ H)∨((Itt K a).go i H∧∃N:St→Hp→Prop,(∀σ' H',N σ' H'→∃m',m'<m∧W (i+1) m' σ' H')∧∀x H',(Itt K a).yld i H x H'→g x σ H' fun σ2 H2=>tb { D with nx:=N,ct:=N,bk:=D.nx } σ2 H2):=by
 refine ⟨fun i m σ H=>m=xs.length - i∧i≤xs.length∧Pv i σ H,⟨xs.length,by simp,Nat.zero_le _,h0⟩,?_⟩
 rintro i m σ H ⟨rfl,hi,p⟩
 have q:=hl i σ H hi p
 by_cases hlt:i<xs.length
 ·refine .inr ⟨⟨xs,xs[i],q,by simp [hlt]⟩,Pv (i+1),fun σ' H' p'=>⟨xs.length - (i+1),by lia,rfl,hlt,p'⟩,fun x H' y=>?_⟩
  obtain ⟨e,y⟩:=y
  subst e
  exact hs i x σ _ (y xs q) p
 ·have e:i=xs.length:=by lia
  subst e
  exact .inl ⟨⟨xs,q,Nat.le_refl _⟩,hd σ H p⟩
theorem iH {lo:Int} {n:Nat} {g:TG} {tb:TS} {D:Ends} {σ:St} {H:Hp} (Pv:Nat→St→Hp→Prop) (h0:Pv 0 σ H)
  (hs:∀i σ H,i<n→Pv i σ H→g (.int (lo+i)) σ H fun σ2 H2=>tb { D with nx:=Pv (i+1),ct:=Pv (i+1),bk:=D.nx } σ2 H2) (hd:∀σ H,Pv n σ H→D.nx σ H) :
  ∃W:Nat→Nat→St→Hp→Prop,(∃m,W 0 m σ H)∧∀i m σ H,W i m σ H →
   ((Itr lo n).stop i H∧D.nx σ H)∨((Itr lo n).go i H∧∃N:St→Hp→Prop,(∀σ' H',N σ' H'→∃m',m'<m∧W (i+1) m' σ' H')∧∀x H',(Itr lo n).yld i H x H'→g x σ H' fun σ2 H2=>tb { D with nx:=N,ct:=N,bk:=D.nx } σ2 H2):=by
 refine ⟨fun i m σ H=>m=n - i∧i≤n∧Pv i σ H,⟨n,by simp,Nat.zero_le _,h0⟩,?_⟩
 rintro i m σ H ⟨rfl,hi,p⟩
 by_cases hlt:i<n
 ·refine .inr ⟨hlt,Pv (i+1),fun σ' H' p'=>⟨n - (i+1),by lia,rfl,hlt,p'⟩,fun x H' y=>?_⟩
  obtain ⟨e,y⟩:=y
  subst e y
  exact hs i σ _ hlt p
 ·have e:i=n:=by lia
  subst e
  exact .inl ⟨Nat.le_refl _,hd σ H p⟩
abbrev R2:=V→V→Hp→VK→Prop
def OpR (X:Cx) (f:Value→Value→Sem Value) (r:R2):Prop:=
 ∀(pins:List (Addr × Obj)) (s:Shared) (σ:St) (H:Hp) (x y:V) (v u:Value) (Q:VK),Inv X pins σ H s→RelV x v→RelV y u→r x y H Q →
  wpAny (model X.prog X.w) X.A (f v u) (EP X pins σ Q) X.xe s
def bW (X:Cx) (f:Value) (r:List V→Hp→VK→Prop):Prop:=
 ∀(pins:List (Addr × Obj)) (s:Shared) (σ:St) (H:Hp) (xs:List V) (us:List Value) (Q:VK),Inv X pins σ H s→Vals xs us→r xs H Q →
  wpAny (model X.prog X.w) X.A (call f us) (EP X pins σ Q) X.xe s
def tOp (r:R2) (ta tb:TE):TE:=fun σ H Q=>ta σ H fun x H1=>tb σ H1 fun y H2=>r x y H2 Q
def rI (C:Int→Int→Prop) (g:Int→Int→V):R2:=fun x y H Q=>∃i j,x=.int i∧y=.int j∧C i j∧Q (g i j) H
def rI0 (g:Int→Int→V):R2:=fun x y H Q=>∃i j,x=.int i∧y=.int j∧Q (g i j) H
section
variable {X:Cx} {a b c:Expr} {ta tb tc:TE} {pos:Pos}
theorem aRg (ha:PE X a ta) (hb:PE X b tb) {pins:List (Addr × Obj)} {s:Shared} {σ:St} {H:Hp} {R:V→V→Hp→Prop} (I:Inv X pins σ H s)
  (h:ta σ H fun x H1=>tb σ H1 fun y H2=>R x y H2) {Q:Value→Shared→Prop} {f:Value→Value→Sem Value}
  (hf:∀v u s2 x y H2,Inv X pins σ H2 s2→RelV x v→RelV y u→R x y H2→wpAny (model X.prog X.w) X.A (f v u) Q X.xe s2) :
  wpAny (model X.prog X.w) X.A (eval a X.env) (fun v s₁=>wpAny (model X.prog X.w) X.A (eval b X.env) (fun u s₂=>wpAny (model X.prog X.w) X.A (f v u) Q X.xe s₂) X.xe s₁) X.xe s:=by
 refine thn (ha pins s σ H _ I h) fun v s1 ⟨x,H1,I1,r1,q1⟩=>?_
 refine thn (hb pins s1 σ H1 _ I1 q1) fun u s2 ⟨y,H2,I2,r2,q2⟩=>?_
 exact hf v u s2 x y H2 I2 r1 r2 q2
theorem aWt {op:Operator} {r:R2} (ho:OpR X (binaryOp op) r) (ha:PE X a ta) (hb:PE X b tb):PE X (.BinOp a op b pos) (tOp r ta tb):=by
 intro pins s σ H Q I h
 exact wpAny_BinOp (aRg ha hb I h fun v u s2 x y H2 I2 rx ry q=>ho pins s2 σ H2 x y v u Q I2 rx ry q)
theorem opI {f:Value→Value→Sem Value} {C:Int→Int→Prop} {g:Int→Int→Int}
  (rule:∀(i j:Int) (t u:Tok) (s:Shared) (Q:Value→Shared→Prop) (E:Value→Shared→Prop),C i j→Q (.int (g i j) s.toks) { s with toks:=s.toks+1 }→wpAny (model X.prog X.w) X.A (f (.int i t) (.int j u)) Q E s) :
  OpR X f (rI C fun i j=>.int (g i j)):=by
 intro pins s σ H x y v u Q I rx ry h
 obtain ⟨i,j,rfl,rfl,hc,q⟩:=h
 obtain ⟨t,rfl⟩:=rx
 obtain ⟨t',rfl⟩:=ry
 exact rule i j t t' s _ _ hc ⟨.int (g i j),H,I.tok _,⟨_,rfl⟩,q⟩
theorem aV2 {f:Value→Value→Sem Value} {g:Int→Int→Int}
  (rule:∀(i j:Int) (t u:Tok) (s:Shared) (Q:Value→Shared→Prop) (E:Value→Shared→Prop),Q (.int (g i j) s.toks) { s with toks:=s.toks+1 }→wpAny (model X.prog X.w) X.A (f (.int i t) (.int j u)) Q E s) :
  OpR X f (rI0 fun i j=>.int (g i j)):=by
 intro pins s σ H x y v u Q I rx ry h
 obtain ⟨i,j,rfl,rfl,q⟩:=h
 obtain ⟨t,rfl⟩:=rx
 obtain ⟨t',rfl⟩:=ry
 exact rule i j t t' s _ _ ⟨.int (g i j),H,I.tok _,⟨_,rfl⟩,q⟩
theorem aTo {f:Value→Value→Sem Value} {g:Int→Int→Bool}
  (rule:∀(i j:Int) (t u:Tok) (s:Shared) (Q:Value→Shared→Prop) (E:Value→Shared→Prop),Q (.bool (g i j)) s→wpAny (model X.prog X.w) X.A (f (.int i t) (.int j u)) Q E s) :
  OpR X f (rI0 fun i j=>.bl (g i j)):=by
 intro pins s σ H x y v u Q I rx ry h
 obtain ⟨i,j,rfl,rfl,q⟩:=h
 obtain ⟨t,rfl⟩:=rx
 obtain ⟨t',rfl⟩:=ry
 exact rule i j t t' s _ _ ⟨.bl (g i j),H,I,rfl,q⟩
def aXj (i j:Int):Prop:=0<j∧j<1073741824
def aXg (i j:Int):Prop:=0≤j∧j≤1000000∧i.natAbs<2 ^ 64
def aTd (i j:Int):Prop:=(-(2 ^ 64)<i∧i<2 ^ 64)∨(-(2 ^ 64)<j∧j<2 ^ 64)
theorem aTd.ok {i j:Int} (h:aTd i j):IntMulOk i j:=by
 rcases h with ⟨h1,h2⟩|⟨h1,h2⟩
 ·exact .of_left (intBits_le_64 h1 h2)
 ·exact .of_right (intBits_le_64 h1 h2)
theorem eG:OpR X (binaryOp .Add) (rI0 fun i j=>.int (i+j)):=aV2 fun _ _ _ _ _ _ _ q=>add_int q
theorem aH4:OpR X (binaryOp .Sub) (rI0 fun i j=>.int (i - j)):=aV2 fun _ _ _ _ _ _ _ q=>sub_int q
theorem uQ:OpR X (binaryOp .Mult) (rI aTd fun i j=>.int (i * j)):=opI fun _ _ _ _ _ _ _ hc q=>mul_int q hc.ok
theorem aJz:OpR X (binaryOp .FloorDiv) (rI aXj fun i j=>.int (i / j)):=opI fun i j _ _ _ _ _ hc q=>by
 have h1:(0:Int)<j:=hc.1
 have h2:j<1073741824:=hc.2
 exact floordiv_int (by lia) (by rw [Int.fdiv_eq_ediv_of_nonneg i (by lia)];exact q) (.inl (PyProof.noPylong_small (by lia)))
theorem oV:OpR X (binaryOp .Mod) (rI (fun _ j=>0<j) fun i j=>.int (i % j)):=opI fun i j _ _ _ _ _ hc q=>by
 have h1:(0:Int)<j:=hc
 exact mod_int' (by lia) (by rw [Int.fmod_eq_emod_of_nonneg i (by lia)];exact q)
theorem aG6:OpR X (binaryOp .Pow) (rI aXg fun i j=>.int (i ^ j.toNat)):=opI fun _ _ _ _ _ _ _ hc q=>pow_int_small hc.1 hc.2.1 hc.2.2 q
end
def scal:V→V→Bool
 |.non,.non=>true|.non,.int _=>true|.int _,.non=>true|.non,.bl _=>true|.bl _,.non=>true|.non,.str _=>true|.str _,.non=>true
 |.int _,.int _=>true|.bl _,.bl _=>true|.str _,.str _=>true|.byt _,.byt _=>true
 |.int _,.str _=>true|.str _,.int _=>true|.bl _,.str _=>true|.str _,.bl _=>true
 |_,_=>false
def rEq:R2:=fun x y H Q=>scal x y=true∧Q (.bl (decide (x=y))) H
def rNe:R2:=fun x y H Q=>scal x y=true∧Q (.bl (!decide (x=y))) H
theorem aKb {i j:Int}:decide (V.int i=V.int j)=(i == j):=by
 rw [Bool.eq_iff_iff]
 simp
theorem aP2 {i j:Bool}:decide (V.bl i=V.bl j)=(i == j):=by
 rw [Bool.eq_iff_iff]
 simp
theorem aJ5 {i j:Str}:decide (V.str i=V.str j)=(i == j):=by
 rw [Bool.eq_iff_iff]
 simp
theorem aKw {i j:Array UInt8}:decide (V.byt i=V.byt j)=(i.toList == j.toList):=by
 rw [Bool.eq_iff_iff]
 cases i
 cases j
 simp
section
variable {X:Cx} {a b c:Expr} {ta tb tc:TE} {pos:Pos}
theorem bR {pins:List (Addr × Obj)} {σ:St} {H:Hp} {s:Shared} {Q:VK} {k k':Bool} (I:Inv X pins σ H s) (q:Q (.bl k) H) (e:k=k'):EP X pins σ Q (.bool k') s:=by
 subst e
 exact ⟨.bl k,H,I,rfl,q⟩
theorem gA:OpR X (compareOp .Eq) rEq:=by
 intro pins s σ H x y v u Q I rx ry h
 obtain ⟨hs,q⟩:=h
 cases x with
 |non=>
  cases rx
  cases y with
  |non=>cases ry;exact PySem.EqNone.eq_none_none (bR I q (by simp))
  |bl j=>cases ry;exact PySem.EqNone.eq_none_bool (bR I q (by simp))
  |int j=>obtain ⟨t',rfl⟩:=ry;exact PySem.EqNone.eq_none_int (bR I q (by simp))
  |str j=>obtain ⟨t',rfl⟩:=ry;exact PySem.EqNone.eq_none_str (bR I q (by simp))
  |_=>exact absurd (show false=true from hs) Bool.false_ne_true
 |bl i=>
  cases rx
  cases y with
  |non=>cases ry;exact PySem.EqNone.eq_bool_none (bR I q (by simp))
  |bl j=>cases ry;exact eq_bool (bR I q aP2)
  |str j=>obtain ⟨t',rfl⟩:=ry;exact PySem.EqMixed.eq_bool_str (bR I q (by simp))
  |_=>exact absurd (show false=true from hs) Bool.false_ne_true
 |int i=>
  obtain ⟨t,rfl⟩:=rx
  cases y with
  |non=>cases ry;exact PySem.EqNone.eq_int_none (bR I q (by simp))
  |int j=>obtain ⟨t',rfl⟩:=ry;exact eq_int (bR I q aKb)
  |str j=>obtain ⟨t',rfl⟩:=ry;exact PySem.EqMixed.eq_int_str (bR I q (by simp))
  |_=>exact absurd (show false=true from hs) Bool.false_ne_true
 |str i=>
  obtain ⟨t,rfl⟩:=rx
  cases y with
  |non=>cases ry;exact PySem.EqNone.eq_str_none (bR I q (by simp))
  |bl j=>cases ry;exact PySem.EqMixed.eq_str_bool (bR I q (by simp))
  |int j=>obtain ⟨t',rfl⟩:=ry;exact PySem.EqMixed.eq_str_int (bR I q (by simp))
  |str j=>obtain ⟨t',rfl⟩:=ry;exact eq_str (bR I q aJ5)
  |_=>exact absurd (show false=true from hs) Bool.false_ne_true
 |byt i=>
  obtain ⟨t,rfl⟩:=rx
  cases y with
  |byt j=>obtain ⟨t',rfl⟩:=ry;exact PySem.W.eq_bytes (bR I q aKw)
  |_=>exact absurd (show false=true from hs) Bool.false_ne_true
 |_=>cases y <;> exact absurd (show false=true from hs) Bool.false_ne_true
theorem aG3:OpR X (compareOp .NotEq) rNe:=by
 intro pins s σ H x y v u Q I rx ry h
 obtain ⟨hs,q⟩:=h
 cases x with
 |non=>
  cases rx
  cases y with
  |non=>cases ry;exact PySem.EqNone.ne_none_none (bR I q (by simp))
  |bl j=>cases ry;exact PySem.EqNone.ne_none_bool (bR I q (by simp))
  |int j=>obtain ⟨t',rfl⟩:=ry;exact PySem.EqNone.ne_none_int (bR I q (by simp))
  |str j=>obtain ⟨t',rfl⟩:=ry;exact PySem.EqNone.ne_none_str (bR I q (by simp))
  |_=>exact absurd (show false=true from hs) Bool.false_ne_true
 |bl i=>
  cases rx
  cases y with
  |non=>cases ry;exact PySem.EqNone.ne_bool_none (bR I q (by simp))
  |bl j=>cases ry;exact ne_bool (bR I q (congrArg not aP2))
  |str j=>obtain ⟨t',rfl⟩:=ry;exact PySem.EqMixed.ne_bool_str (bR I q (by simp))
  |_=>exact absurd (show false=true from hs) Bool.false_ne_true
 |int i=>
  obtain ⟨t,rfl⟩:=rx
  cases y with
  |non=>cases ry;exact PySem.EqNone.ne_int_none (bR I q (by simp))
  |int j=>obtain ⟨t',rfl⟩:=ry;exact ne_int (bR I q (congrArg not aKb))
  |str j=>obtain ⟨t',rfl⟩:=ry;exact PySem.EqMixed.ne_int_str (bR I q (by simp))
  |_=>exact absurd (show false=true from hs) Bool.false_ne_true
 |str i=>
  obtain ⟨t,rfl⟩:=rx
  cases y with
  |non=>cases ry;exact PySem.EqNone.ne_str_none (bR I q (by simp))
  |bl j=>cases ry;exact PySem.EqMixed.ne_str_bool (bR I q (by simp))
  |int j=>obtain ⟨t',rfl⟩:=ry;exact PySem.EqMixed.ne_str_int (bR I q (by simp))
  |str j=>obtain ⟨t',rfl⟩:=ry;exact ne_str (bR I q (congrArg not aJ5))
  |_=>exact absurd (show false=true from hs) Bool.false_ne_true
 |byt i=>
  obtain ⟨t,rfl⟩:=rx
  cases y with
  |byt j=>obtain ⟨t',rfl⟩:=ry;exact PySem.W.ne_bytes (bR I q (congrArg not aKw))
  |_=>exact absurd (show false=true from hs) Bool.false_ne_true
 |_=>cases y <;> exact absurd (show false=true from hs) Bool.false_ne_true
theorem aSu:OpR X (compareOp .Lt) (rI0 fun i j=>.bl (decide (i<j))):=aTo fun _ _ _ _ _ _ _ q=>lt_int q
theorem aAg:OpR X (compareOp .LtE) (rI0 fun i j=>.bl (decide (i≤j))):=aTo fun _ _ _ _ _ _ _ q=>le_int q
theorem aPs:OpR X (compareOp .Gt) (rI0 fun i j=>.bl (decide (j<i))):=aTo fun _ _ _ _ _ _ _ q=>gt_int q
theorem aL8:OpR X (compareOp .In) (fun x y H Q=>∃i j,x=.str i∧y=.str j∧Q (.bl (!(Builtin.Str.occurrences j i 0 j.length 1).isEmpty)) H):=by
 intro pins s σ H x y v u Q I rx ry h
 obtain ⟨i,j,rfl,rfl,q⟩:=h
 obtain ⟨t,rfl⟩:=rx
 obtain ⟨t',rfl⟩:=ry
 exact in_str (bR I q rfl)
theorem aRz:OpR X (compareOp .IsNot) (fun x y H Q=>y=.non∧Q (.bl (!decide (x=.non))) H):=by
 intro pins s σ H x y v u Q I rx ry h
 obtain ⟨rfl,q⟩:=h
 cases ry
 refine isnot_none_gen (bR I q ?_)
 cases x <;> first
  |(cases rx;rfl)
  |(obtain ⟨t,rfl⟩:=rx;rfl)
theorem bM (b:Expr) {op:CmpOp} (h:op≠.In:=by decide) (h2:op≠.NotIn:=by decide):behindInMarks op b=false:=by
 have e1:(op == CmpOp.In)=false:=by cases op <;> first|rfl|exact absurd rfl h
 have e2:(op == CmpOp.NotIn)=false:=by cases op <;> first|rfl|exact absurd rfl h2
 cases b <;> simp [behindInMarks,e1,e2]
theorem aQt {op:CmpOp} {r:R2} (ho:OpR X (compareOp op) r) (ha:PE X a ta) (hb:PE X b tb) (hm:behindInMarks op b=false):PE X (.Compare a [op] [b] pos) (tOp r ta tb):=by
 intro pins s σ H Q I h
 exact wpAny_Compare1 (aRg ha hb I h fun v u s2 x y H2 I2 rx ry q=>ho pins s2 σ H2 x y v u Q I2 rx ry q) hm
def aKk (t:TE):TT:=fun σ H Q=>t σ H fun x H'=>∃k,x=.bl k∧Q k H'
theorem aQ1 {op:CmpOp} {r:R2} (ho:OpR X (compareOp op) r) (ha:PE X a ta) (hb:PE X b tb) (hm:behindInMarks op b=false):PT X (.Compare a [op] [b] pos) (aKk (tOp r ta tb)):=by
 intro pins s σ H Q I h
 refine wpAny_isTrue_Compare1 (thn (ha pins s σ H _ I h) fun v s1 ⟨x,H1,I1,r1,q1⟩=>thn (hb pins s1 σ H1 _ I1 q1) fun u s2 ⟨y,H2,I2,r2,q2⟩=>
  thn (ho pins s2 σ H2 x y v u _ I2 r1 r2 q2) fun c s3 ⟨z,H3,I3,r3,k,e,q3⟩=>?_) hm
 subst e
 cases r3
 exact wpAny_truthy_bool ⟨H3,I3,q3⟩
def aCo (r r':R2) (ta tb tc:TE):TE:=fun σ H Q=>ta σ H fun x H1=>tb σ H1 fun y H2=>r x y H2 fun z H3=>∃k,z=.bl k ∧
 (if k=true then tc σ H3 fun w' H4=>r' y w' H4 Q else Q (.bl false) H3)
theorem aOa {op op':CmpOp} {r r':R2} (ho:OpR X (compareOp op) r) (ho':OpR X (compareOp op') r') (ha:PE X a ta) (hb:PE X b tb) (hc:PE X c tc)
  (hm:lastMarks [op,op'] [b,c]=false:=by with_unfolding_all rfl):PE X (.Compare a [op,op'] [b,c] pos) (aCo r r' ta tb tc):=by
 intro pins s σ H Q I h
 refine Compare_chain (thn (ha pins s σ H _ I h) fun v s1 ⟨x,H1,I1,r1,q1⟩=>chain_link (thn (hb pins s1 σ H1 _ I1 q1) fun u s2 ⟨y,H2,I2,r2,q2⟩=>
  thn (ho pins s2 σ H2 x y v u _ I2 r1 r2 q2) fun d s3 ⟨z,H3,I3,r3,k,e,q3⟩=>?_)) hm
 subst e
 cases r3
 refine wpAny_truthy_bool ?_
 cases k with
 |false=>exact ite_ff ⟨.bl false,H3,I3,rfl,q3⟩
 |true=>exact ite_tt (chain_last (thn (hc pins s3 σ H3 _ I3 q3) fun w' s4 ⟨z',H4,I4,r4,q4⟩=>ho' pins s4 σ H4 y z' u w' Q I4 r2 r4 q4))
theorem aN0 {op op':CmpOp} {r r':R2} (ho:OpR X (compareOp op) r) (ho':OpR X (compareOp op') r') (ha:PE X a ta) (hb:PE X b tb) (hc:PE X c tc)
  (hm:lastMarks [op,op'] [b,c]=false:=by with_unfolding_all rfl):PT X (.Compare a [op,op'] [b,c] pos) (aKk (aCo r r' ta tb tc)):=by
 intro pins s σ H Q I h
 refine isTrue_chain (thn (ha pins s σ H _ I h) fun v s1 ⟨x,H1,I1,r1,q1⟩=>test_link (thn (hb pins s1 σ H1 _ I1 q1) fun u s2 ⟨y,H2,I2,r2,q2⟩=>
  thn (ho pins s2 σ H2 x y v u _ I2 r1 r2 q2) fun d s3 ⟨z,H3,I3,r3,k,e,q3⟩=>?_)) hm
 subst e
 cases r3
 refine wpAny_truthy_bool ?_
 cases k with
 |false=>
  obtain ⟨k',e',q'⟩:=q3
  cases e'
  exact ite_ff ⟨H3,I3,q'⟩
 |true=>
  refine ite_tt (test_last (thn (hc pins s3 σ H3 _ I3 q3) fun w' s4 ⟨z',H4,I4,r4,q4⟩=>thn (ho' pins s4 σ H4 y z' u w' _ I4 r2 r4 q4) fun d' s5 ⟨z2,H5,I5,r5,k2,e2,q5⟩=>?_))
  subst e2
  cases r5
  exact wpAny_truthy_bool ⟨H5,I5,q5⟩
theorem yH:(sizeLine:Nat)<2 ^ 63:=by rw [sizeLine_eq];decide
theorem mL:OpR X (binaryOp .Add) (fun x y H Q=>∃i j,x=.str i∧y=.str j∧i.length+j.length≤sizeLine∧Q (.str (i++j)) H):=by
 intro pins s σ H x y v u Q I rx ry h
 obtain ⟨i,j,rfl,rfl,hz,q⟩:=h
 obtain ⟨t,rfl⟩:=rx
 obtain ⟨t',rfl⟩:=ry
 exact add_str (fun t' tk=>⟨.str (i++j),H,I.tok _,⟨_,rfl⟩,q⟩) hz
def aGu (b:Expr):Prop:=∀o i,subscripted b false o i=operate [o,i] (getItem o i)
theorem aGe (ha:PE X a ta) (hb:PE X b tb) (hs:aGu b) :
  PE X (.Subscript a b pos) (tOp (fun x y H Q=>∃z i c,x=.str z∧y=.int i∧0≤i∧i<2 ^ 63∧i<z.length∧z.cps[i.toNat]?=some c∧Q (.str ⟨#[c]⟩) H) ta tb):=by
 intro pins s σ H Q I h
 refine Subscript_ (aRg ha hb I h fun v u s2 x y H2 I2 rx ry q=>?_)
 obtain ⟨z,i,c,rfl,rfl,h0,h63,h1,hc,q⟩:=q
 obtain ⟨t,rfl⟩:=rx
 obtain ⟨t',rfl⟩:=ry
 have e:seqIndex? i z.length=some i.toNat:=PySem.StrLaws.seqIndex_nonneg h0 h1
 exact tail_any (typeIs_str s2 z t) slot_str_getitem.lookup (getItem_str (c:=c) (by
  have e1:decide (i < -(2 ^ 63:Int))=false:=decide_eq_false (by lia)
  have e2:decide (i ≥ 2 ^ 63)=false:=decide_eq_false (by lia)
  rw [e1,e2] <;> rfl) (by rw [e];exact hc) ⟨.str ⟨#[c]⟩,H2,I2.tok _,⟨_,rfl⟩,q⟩) (hs _ _)
theorem vals1 {x:V} {us:List Value} (r:Vals [x] us):∃u,us=[u]∧RelV x u:=by
 cases r with
 |cons r1 r2=>cases r2;exact ⟨_,rfl,r1⟩
theorem vals2 {x y:V} {us:List Value} (r:Vals [x,y] us):∃u w',us=[u,w']∧RelV x u∧RelV y w':=by
 cases r with
 |cons r1 r2=>
  cases r2 with
  |cons r3 r4=>cases r4;exact ⟨_,_,rfl,r1,r3⟩
theorem aOr:bW X (.builtin "abs") (fun xs H Q=>∃i,xs=[.int i]∧Q (.int (if i<0 then -i else i)) H):=by
 intro pins s σ H xs us Q I r h
 obtain ⟨i,rfl,q⟩:=h
 obtain ⟨u,rfl,t,rfl⟩:=vals1 r
 exact call_abs_int fun u tk=>⟨.int (if i<0 then -i else i),H,I.tok _,⟨_,rfl⟩,q⟩
theorem aBn:bW X (.type "int") (fun xs H Q=>(∃i,xs=[.int i]∧Q (.int i) H)∨∃k,xs=[.bl k]∧Q (.int (if k then 1 else 0)) H):=by
 intro pins s σ H xs us Q I r h
 rcases h with ⟨i,rfl,q⟩|⟨k,rfl,q⟩
 ·obtain ⟨u,rfl,t,rfl⟩:=vals1 r
  exact call_int_int ⟨.int i,H,I,⟨_,rfl⟩,q⟩
 ·obtain ⟨u,rfl,r1⟩:=vals1 r
  cases r1
  exact call_int_bool ⟨.int (if k then 1 else 0),H,I.tok _,⟨_,rfl⟩,q⟩
end
structure aG5 (h:Heap) (x dx C:Addr) (mA:Str→Option Value):Prop where
 obj:h.get? x=some (PySem.W.instObj C dx)
 ns:h.Ns1 dx mA
 ne:dx≠x
theorem aMk {h:Heap} {dx:Addr} {mA:Str→Option Value} (n:h.Ns1 dx mA):∃od,h.get? dx=some od∧∀name,PySem.W.lookIn name od=some (mA name):=by
 obtain ⟨o,es,ep,ho,hd,hk,_,hm⟩:=n
 refine ⟨o,ho,fun name=>?_⟩
 have e:=hm name
 unfold nsFind findBy at e
 rw [←Array.find?_toList] at e
 unfold PySem.W.lookIn
 rw [hd]
 dsimp only
 split
 ·rename_i y q
  rw [q] at e
  exact congrArg some e
 ·rename_i q
  rw [q] at e
  have a:es.toList.any (·.refKey)=false:=by
   rw [List.any_eq_false]
   intro y hy
   obtain ⟨z,t,hkey⟩:=hk y (Array.mem_toList_iff.mp hy)
   simp [DictEntry.refKey,hkey]
  have a':¬ es.toList.any (·.refKey)=true:=by rw [a];exact Bool.false_ne_true
  rw [if_neg a']
  exact congrArg some e
theorem aG5.look {h:Heap} {x dx C:Addr} {mA:Str→Option Value} (I:aG5 h x dx C mA):∃od,PySem.W.InstAt h x (PySem.W.instObj C dx) C (some od)∧∀name,PySem.W.lookIn name od=some (mA name):=
 let ⟨od,ho,hl⟩:=aMk I.ns
 ⟨od,⟨I.obj,rfl,rfl,ho⟩,hl⟩
section
variable {prog:Program} {w:World} {A:Around} {E:Value→Shared→Prop} {s:Shared} {K:PySem.W.Frag} {x dx C f:Addr} {mA:Str→Option Value} {name:Str} {v:Value}
theorem aQr {expr:Bool} {Q:Value→Shared→Prop} (X:K.In s.heap) (I:aG5 s.heap x dx C mA) (hg:PySem.W.plainGet K C name=true) (hh:PySem.W.hasDictIn K C=true)
  (ha:PySem.W.findIn K (.ref C) name=some none) (hv:mA name=some v) (hv':PySem.W.handedIn v=true) (h:Q v { s with toks:=s.toks+1 }) :
  wpAny (model prog w) A (getAttr (.ref x) name expr) Q E s:=by
 obtain ⟨od,J,hl⟩:=I.look
 exact PySem.W.get_value X J (PySem.W.plainGet_of hg).1 (PySem.W.findObj_own hh ha rfl (by rw [hl,hv])) hv' h
theorem aPo {pl:Sem Bool} {Q:Value × List Value→Shared→Prop} (X:K.In s.heap) (I:aG5 s.heap x dx C mA) (hg:PySem.W.plainGet K C name=true)
  (hf:PySem.W.findIn K (.ref C) name=some (some (.ref f))) (ht:PySem.W.isFn K (.ref f)=true) (hv:mA name=none) (h:Q (.ref f,[.ref x]) s) :
  wpAny (model prog w) A (getMethod (.ref x) name pl) Q E s:=by
 obtain ⟨od,J,hl⟩:=I.look
 exact PySem.W.method_fn X J (PySem.W.plainGet_of hg).1 (PySem.W.plainGet_of hg).2 hf (beq_iff_eq.mp ht) (by show (PySem.W.lookIn name od).map (·.isSome)=some false;rw [hl,hv];rfl) h
theorem aRm {ns:List Str} {Q:Unit→Shared→Prop} (X:K.In s.heap) (I:aG5 s.heap x dx C mA)
  (hs:PySem.W.findIn K (.ref C) "__setattr__"=some (some (.builtin "object.__setattr__"))) (hp:PySem.W.plainOver K C=true) (ht:PySem.W.takerIn K C name=some none) (hh:PySem.W.hasDictIn K C=true)
  (hw:PySem.Within mA ns) (hsz:ns.length≤sizeLine)
  (h:∀h',aG5 h' x dx C (fun y=>if y=name then some v else mA y)→Heap.SameBut dx s.heap h'→Q () { s with heap:=h',toks:=s.toks+2 }) :
  wpAny (model prog w) A (setAttr (.ref x) name v) Q E s:=by
 obtain ⟨od,J,hl⟩:=I.look
 refine PySem.W.set_plain X J hs (PySem.W.osa_open (s:={ s with toks:=s.toks+1 }) (r:=none) X J hp ht fun b=>?_)
 obtain ⟨cd,hc,hd'⟩:=PySem.W.any_some hh
 have hx:s.heap.get? x=some ⟨.ref C,some dx,.plain,#[]⟩:=I.obj
 refine wpAny_bind (wpAny_pure (wpAny_bind (wpAny_bind (wpAny_loadPart hx (wpAny_bind (PySem.W.Looks.here (s:={ s with toks:=s.toks+1 }) (PySem.W.looks_clsIn X hc) ?_))))))
 rw [hd']
 refine wpAny_pure (a:=some dx) (wpAny_bind (wpAny_pure (wpAny_bind ?_)))
 refine wpAny_nsSet1 (s:={ s with toks:=s.toks+1 }) I.ns fun h' hn2 hs2=>?_
 obtain ⟨oD,esD,epD,hoD,hdD,hcD⟩:=hn2.count (PySem.Within.cons name v hw)
 refine wpAny_bind (wpAny_lookBehind hoD (by rw [hdD];exact pastItsLine_dict (Nat.le_trans hcD (by rw [List.length_cons];lia))) ?_)
 exact wpAny_pure (h _ ⟨(hs2.2 _ (Ne.symm I.ne)).trans I.obj,hn2,I.ne⟩ hs2)
theorem aPc {R:Result→Shared→Prop} {vs:List Value} {kw:List (Str × Value)} (X:K.In s.heap) (hm:PySem.W.makesIn K C=true)
  (hi:PySem.W.findIn K (.ref C) "__init__"=some (some (.ref f))) (hf:PySem.W.typeIn K (.ref f)=some (.type "function"))
  (h:codeAny (model prog w) (A.under (.builtin "type.__call__" ⟨.ref C::vs,kw⟩)) (.call (.ref f) ⟨.ref (s.heap.objs.size+1)::vs,kw⟩) (PySem.W.InitBack (s.heap.objs.size+1) R)
   { s with heap:=(s.heap.push PySem.W.emptyDict).push (PySem.W.instObj C s.heap.objs.size) }) :
  codeAny (model prog w) A (.call (.ref C) ⟨vs,kw⟩) R s:=by
 obtain ⟨hh,g,d,t,os⟩:=s
 exact PySem.W.make_core (PySem.W.makes_of X hm) (PySem.W.looks_findIn X hi) (fun self=>PySem.W.bind_fn X self hf) (.inl rfl) h
end
def qG (f:Str) (v:V):List (Str × V)→List (Str × V)
 |[]=>[(f,v)]
 |(g,x)::r=>if g=f then (g,v)::r else (g,x)::qG f v r
theorem wA (f g:Str) (v:V):∀fs:List (Str × V),(qG f v fs).lookup g=if g=f then some v else fs.lookup g
 |[]=>by
  show List.lookup g [(f,v)]=_
  by_cases h:g=f
  ·have hb:(g == f)=true:=beq_iff_eq.mpr h
   simp only [List.lookup,hb,if_pos h]
  ·have hb:(g == f)=false:=beq_eq_false_iff_ne.mpr h
   simp only [List.lookup,hb,if_neg h]
 |(k,x)::r=>by
  have ih:=wA f g v r
  rw [show qG f v ((k,x)::r)=(if k=f then (k,v)::r else (k,x)::qG f v r) from rfl]
  by_cases hk:k=f
  ·rw [if_pos hk]
   by_cases h:g=k
   ·have hb:(g == k)=true:=beq_iff_eq.mpr h
    simp only [List.lookup,hb,if_pos (h.trans hk)]
   ·have hb:(g == k)=false:=beq_eq_false_iff_ne.mpr h
    simp only [List.lookup,hb,if_neg (fun e:g=f=>h (e.trans hk.symm))]
  ·rw [if_neg hk]
   by_cases h:g=k
   ·have hb:(g == k)=true:=beq_iff_eq.mpr h
    simp only [List.lookup,hb,if_neg (fun e:g=f=>hk (h.symm.trans e))]
   ·have hb:(g == k)=false:=beq_eq_false_iff_ne.mpr h
    simp only [List.lookup,hb]
    exact ih
theorem uV (f:Str) (v:V):∀fs:List (Str × V),f∈(qG f v fs).map (·.1)∧∀g,g∈fs.map (·.1)→g∈(qG f v fs).map (·.1)
 |[]=>⟨by simp [qG],fun g h=>by simp at h⟩
 |(k,x)::r=>by
  obtain ⟨i1,i2⟩:=uV f v r
  rw [show qG f v ((k,x)::r)=(if k=f then (k,v)::r else (k,x)::qG f v r) from rfl]
  by_cases hk:k=f
  ·rw [if_pos hk]
   subst hk
   exact ⟨by simp,fun g h=>by simpa using h⟩
  ·rw [if_neg hk]
   refine ⟨?_,fun g h=>?_⟩
   ·rw [List.map_cons]
    exact List.mem_cons_of_mem _ i1
   ·rw [List.map_cons] at h ⊢
    rcases List.mem_cons.mp h with e|e
    ·exact List.mem_cons.mpr (.inl e)
    ·exact List.mem_cons_of_mem _ (i2 g e)
theorem vR (f:Str) (v:V):∀fs:List (Str × V),(qG f v fs).length≤fs.length+1
 |[]=>by simp [qG]
 |(k,x)::r=>by
  have ih:=vR f v r
  rw [show qG f v ((k,x)::r)=(if k=f then (k,v)::r else (k,x)::qG f v r) from rfl]
  by_cases hk:k=f
  ·rw [if_pos hk,List.length_cons,List.length_cons];lia
  ·rw [if_neg hk,List.length_cons,List.length_cons];lia
theorem pP.some_of {v:V} {o:Option Value} (r:pP (some v) o):∃u,o=some u∧RelV v u:=by
 cases o with
 |none=>exact (show False from r).elim
 |some u=>exact ⟨u,rfl,r⟩
theorem pP.none_of {o:Option Value} (r:pP none o):o=none:=by
 cases o with
 |none=>rfl
 |some u=>exact (show False from r).elim
theorem aLl {v:V} {u:Value} (r:RelV v u):PySem.W.handedIn u=true:=by
 cases v with
 |non=>cases (show u=Value.none from r);rfl
 |bl b=>cases (show u=Value.bool b from r);rfl
 |int i=>obtain ⟨t,e⟩:=(show ∃t,u=Value.int i t from r);cases e;rfl
 |str x=>obtain ⟨t,e⟩:=(show ∃t,u=Value.str x t from r);cases e;rfl
 |byt b=>obtain ⟨t,e⟩:=(show ∃t,u=Value.bytes b t from r);cases e;rfl
 |flt b=>obtain ⟨t,e⟩:=(show ∃t,u=Value.float b t from r);cases e;rfl
 |ref a=>cases (show u=Value.ref a from r);rfl
 |ty n=>cases (show u=Value.type n from r);rfl
section
variable {P:Program} {w:World} {H H':Hp} {h h':Heap} {a C dx:Addr} {fs fs':List (Str × V)}
theorem aCw (hok:HOk P w H h) (e:H a=some (.ins C dx fs)):∃mA,aG5 h a dx C mA∧(∀f,pP (fs.lookup f) (mA f))∧PySem.Within mA (fs.map (·.1))∧fs.length≤1000∧H dx=some (.own a):=by
 obtain ⟨d,z,ne,ob,mA,n,r,q⟩:=(show cT P w H h a (.ins C dx fs) from hok a _ e)
 exact ⟨mA,⟨ob,n,ne⟩,r,q,z,d⟩
end
structure Cls (K:PySem.W.Frag) (C:Addr):Prop where
 pg:PySem.W.plainGet K C Str.empty=true
 hd:PySem.W.hasDictIn K C=true
 po:PySem.W.plainOver K C=true
 sa:PySem.W.findIn K (.ref C) "__setattr__"=some (some (.builtin "object.__setattr__"))
theorem Cls.get {K:PySem.W.Frag} {C:Addr} (c:Cls K C) (f:Str):PySem.W.plainGet K C f=true:=c.pg
def dC (K:PySem.W.Frag) (C:Addr) (f:Str):Prop:=PySem.W.findIn K (.ref C) f=some none
theorem dC.taker {K:PySem.W.Frag} {C:Addr} {f:Str} (n:dC K C f):PySem.W.takerIn K C f=some none:=by
 unfold PySem.W.takerIn
 rw [show PySem.W.findIn K (.ref C) f=some none from n]
 rfl
structure Meth (K:PySem.W.Frag) (C:Addr) (m:Str) (f:Addr):Prop where
 at_:PySem.W.findIn K (.ref C) m=some (some (.ref f))
 fn:PySem.W.isFn K (.ref f)=true
 kp:PySem.W.keepIn K (.ref f)=true
section
variable {X:Cx} {pins:List (Addr × Obj)} {σ:St} {H:Hp} {s:Shared} {a C dx:Addr} {fs:List (Str × V)} {f:Str} {v:V} {A:Around} {E:Value→Shared→Prop}
theorem aHz {b:Bool} {Q:Value→Shared→Prop} (I:Inv X pins σ H s) (e:H a=some (.ins C dx fs)) (c:Cls X.K C) (n:dC X.K C f) (l:fs.lookup f=some v)
  (h:∀u s',Inv X pins σ H s'→RelV v u→Q u s'):wpAny (model X.prog X.w) A (getAttr (.ref a) f b) Q E s:=by
 obtain ⟨mA,O,r,_,_,_⟩:=aCw I.hok e
 obtain ⟨u,hu,ru⟩:=pP.some_of (v:=v) (o:=mA f) (by rw [←l];exact r f)
 exact aQr I.kIn O (c.get f) c.hd n hu (aLl ru) (h u _ (I.tok _) ru)
theorem zO {m:Str} {g:Addr} {pl:Sem Bool} {Q:Value × List Value→Shared→Prop} (I:Inv X pins σ H s) (e:H a=some (.ins C dx fs)) (c:Cls X.K C) (k:Meth X.K C m g) (l:fs.lookup m=none)
  (h:Q (.ref g,[.ref a]) s):wpAny (model X.prog X.w) A (getMethod (.ref a) m pl) Q E s:=by
 obtain ⟨mA,O,r,_,_,_⟩:=aCw I.hok e
 have hn:mA m=none:=pP.none_of (by rw [←l];exact r m)
 exact aPo I.kIn O (c.get m) k.at_ k.fn hn h
theorem aH3 {y:V} {u:Value} {Q:Unit→Shared→Prop} (I:Inv X pins σ H s) (e:H a=some (.ins C dx fs)) (c:Cls X.K C) (n:dC X.K C f) (hl:fs.length<1000) (ry:RelV y u)
  (h:∀s',Inv X pins σ (upd H a (.ins C dx (qG f y fs))) s'→Q () s'):wpAny (model X.prog X.w) A (setAttr (.ref a) f u) Q E s:=by
 obtain ⟨mA,O,r,wi,_,ho⟩:=aCw I.hok e
 have hz:(fs.map (·.1)).length≤sizeLine:=by rw [List.length_map,sizeLine_eq];lia
 refine aRm I.kIn O c.sa c.po n.taker c.hd wi hz fun h' O' sb=>h _ ?_
 have hd:∃o,h'.get? dx=some o:=let ⟨o,_,_,e',_⟩:=O'.ns;⟨o,e'⟩
 refine I.write (x:=a) (e:=dx) (by rw [e];exact True.intro) (.inr ho) (fun b q hb z=>(sb.2 b hb).trans z) hd ?_
 refine ⟨by rw [aM O.ne];exact ho,?_,O.ne,O'.obj,_,O'.ns,fun g=>?_,fun g hg=>?_⟩
 ·have:=vR f y fs;lia
 ·show pP ((qG f y fs).lookup g) (if g=f then some u else mA g)
  rw [wA]
  by_cases q:g=f
  ·rw [if_pos q,if_pos q];exact ry
  ·rw [if_neg q,if_neg q];exact r g
 ·by_cases q:g=f
  ·rw [q];exact (uV f y fs).1
  ·refine (uV f y fs).2 g (wi g fun z=>hg ?_)
   show (if g=f then some u else mA g)=none
   rw [if_neg q];exact z
theorem Inv.made (I:Inv X pins σ H s):Inv X pins σ (upd (upd H s.heap.objs.size (.own (s.heap.objs.size+1))) (s.heap.objs.size+1) (.ins C s.heap.objs.size []))
  { s with heap:=(s.heap.push PySem.W.emptyDict).push (PySem.W.instObj C s.heap.objs.size) }:=by
 have e1:(s.heap.push PySem.W.emptyDict).get? s.heap.objs.size=some PySem.W.emptyDict:=Heap.get?_push_size s.heap rfl
 have e2:((s.heap.push PySem.W.emptyDict).push (PySem.W.instObj C s.heap.objs.size)).get? (s.heap.objs.size+1)=some (PySem.W.instObj C s.heap.objs.size):=by
  have:=Heap.get?_push_size (s.heap.push PySem.W.emptyDict) (o:=PySem.W.instObj C s.heap.objs.size) rfl
  rwa [Heap.size_push] at this
 have e3:(s.heap.push PySem.W.emptyDict).Ns s.heap.objs.size (fun _=>none):=⟨PySem.W.emptyDict,#[],_,e1,rfl,(fun e he=>absurd he (by simp)),fun _=>rfl⟩
 have I1:=I.laid (a:=s.heap.objs.size) (o:=.own (s.heap.objs.size+1)) (h':=s.heap.push PySem.W.emptyDict) (t':=s.toks) (fun b u q=>Heap.get?_push_of_some _ q) (Nat.le_refl _) ⟨_,e1⟩
 refine I1.laid (a:=s.heap.objs.size+1) (o:=.ins C s.heap.objs.size []) (t':=s.toks) (fun b u q=>Heap.get?_push_of_some _ q) (Nat.le_of_eq (Heap.size_push _ _)) ?_
 have ne:s.heap.objs.size≠s.heap.objs.size+1:=Nat.ne_of_lt (Nat.lt_succ_self _)
 refine ⟨by rw [aM ne,aK],Nat.zero_le _,ne,e2,fun _=>none,(Heap.Ns1.of_empty e3).at fun o q=>Heap.get?_push_of_some _ q,fun _=>True.intro,fun y hy=>absurd rfl hy⟩
theorem aQj {prog:Program} {w:World} {env:Env} {e:Expr} {f:Str} {pos:Pos} {s:Shared} {Q:Value→Shared→Prop} (hb:attributeBase e f env (eval e env)=eval e env)
  (h:wpAny (model prog w) A (eval e env) (fun o s₁=>wpAny (model prog w) A (getAttr o f true) Q E s₁) E s):wpAny (model prog w) A (eval (.Attribute e f pos) env) Q E s:=
 Attribute_any_ h (by rw [arm_eval_Attribute,hb])
end
def aV5 (K:PySem.W.Frag) (ta:TE) (f:Str):TE:=fun σ H Q=>ta σ H fun x H1=>∃a C dx fs v,x=.ref a∧H1 a=some (.ins C dx fs)∧Cls K C∧dC K C f∧fs.lookup f=some v∧Q v H1
def aWe (K:PySem.W.Frag) (ta tv:TE) (f:Str):TS:=fun D σ H=>tv σ H fun y H1=>ta σ H1 fun x H2=>∃a C dx fs,x=.ref a∧H2 a=some (.ins C dx fs)∧Cls K C∧dC K C f∧fs.length<1000 ∧
 D.nx σ (upd H2 a (.ins C dx (qG f y fs)))
section
variable {X:Cx} {o e value:Expr} {f:Str} {pos pos' tpos:Pos} {ta tv:TE}
theorem aUt (he:PE X e ta) (hb:attributeBase e f X.env (eval e X.env)=eval e X.env):PE X (.Attribute e f pos) (aV5 X.K ta f):=by
 intro pins s σ H Q I h
 refine aQj hb (thn (he pins s σ H _ I h) fun u s1 ⟨x,H1,I1,rx,a,C,dx,fs,v,ex,ea,c,n,l,q⟩=>?_)
 subst ex
 obtain rfl:u=Value.ref a:=rx
 exact aHz I1 ea c n l fun u' s2 I2 ru=>⟨v,H1,I2,ru,q⟩
theorem aUo (ha:PE X o ta) (hv:PE X value tv) (hs:swapsWith value (some (.Attribute o f pos')) pos.line X.env=pure false):PS X (.Assign [.Attribute o f pos'] value pos) (aWe X.K ta tv f):=by
 intro pins s σ H D I h
 refine plainObj_wpAny_Assign_Attribute (thn (hv pins s σ H _ I h) fun u s1 ⟨y,H1,I1,ry,q⟩=>thn (ha pins s1 σ H1 _ I1 q) fun ov s2 ⟨x,H2,I2,rx,a,C,dx,fs,ex,ea,c,n,l,q2⟩=>?_) hs
 subst ex
 obtain rfl:ov=Value.ref a:=rx
 exact aH3 I2 ea c n l ry fun s3 I3=>⟨σ,_,I3,q2⟩
end
section
variable {X:Cx} {pins:List (Addr × Obj)} {σ:St} {H:Hp} {s:Shared} {A:Around} {E:Value→Shared→Prop} {Q:Value→Shared→Prop} {c:Value} {b:Bool}
end
structure Room (k:Nat) (A:Around):Prop where
 hd:A.handled=none
 dp:A.depth+3 * k+5<recursionLimit
 un:A.units+16 * k+200<cLine
theorem Room.mono {j k:Nat} {A:Around} (r:Room k A) (h:j≤k):Room j A:=⟨r.hd,by have:=r.dp;lia,by have:=r.un;lia⟩
theorem Room.deeper {k:Nat} {A:Around} (r:Room (k+1) A) (env:Env):Room k (A.deeper env):=
 ⟨r.hd,by have:=r.dp;show A.depth+1+3 * k+5<_;lia,by have:=r.un;show A.units+3+16 * k+200<_;lia⟩
theorem aG9 {A:Around} {C:Addr} {us:List Value} {kw:List (Str × Value)}:(A.under (.builtin "type.__call__" ⟨.ref C::us,kw⟩)).depth=A.depth+1:=by
 first|rfl|simp [Around.under,Code.weight,Code.isCreation,Code.isGuard,Code.isCaller,Code.frames,Code.isFrame,guardIds]
theorem aJf {A:Around} {C:Addr} {us:List Value} {kw:List (Str × Value)}:(A.under (.builtin "type.__call__" ⟨.ref C::us,kw⟩)).units=A.units+1:=by
 first|rfl|simp [Around.under,Code.cUnits,Code.frames,Code.isFrame]
theorem Room.make {k:Nat} {A:Around} (r:Room (k+1) A) (C:Addr) (us:List Value) (kw:List (Str × Value)):Room k (A.under (.builtin "type.__call__" ⟨.ref C::us,kw⟩)):=
 ⟨r.hd,by have:=r.dp;rw [aG9];lia,by have:=r.un;rw [aJf];lia⟩
theorem Room.depth {k:Nat} {A:Around} (r:Room k A):A.depth<recursionLimit:=by have:=r.dp;lia
theorem Room.units {k:Nat} {A:Around} (r:Room k A):A.units+64<cLine:=by have:=r.un;lia
def zJ:TA:=fun _ H Q=>Q [] H
def dJ (ta:TE) (tr:TA):TA:=fun σ H Q=>ta σ H fun x H1=>tr σ H1 fun xs H2=>Q (x::xs) H2
section
variable {X:Cx} {e:Expr} {es:List Expr} {te:TE} {t:TA} {pos:Pos}
theorem aT0:PA X [] zJ:=fun _ _ _ _ H Q I h=>Calls.spliced_nil ⟨[],H,I,.nil,h⟩
theorem aRe (ha:PE X e te) (hr:PA X es t) (hs:starEach (e::es) X.env=(false,eval e X.env)::starEach es X.env:=by rfl):PA X (e::es) (dJ te t):=by
 intro pos pins s σ H Q I h
 rw [hs]
 show wpAny _ _ (spliced ((false,eval e X.env)::backTo pos (starEach es X.env))) _ _ s
 refine Calls.spliced_cons (thn (ha pins s σ H _ I h) fun u s1 ⟨x,H1,I1,r1,q1⟩=>?_)
 exact thn (hr pos pins s1 σ H1 _ I1 q1) fun us s2 ⟨xs,H2,I2,r2,q2⟩=>⟨x::xs,H2,I2,.cons r1 r2,q2⟩
end
abbrev Sp:=List V→Hp→VK→XK→Prop
abbrev CXT:=List Env→Hp→Shared→XK→Value→Shared→Prop
structure aCq (P:Program) (w:World) (K:PySem.W.Frag) (mg:Str→Option Value) (base:Heap) (A:Around) (outer:List Env) (s:Shared) (H:Hp):Prop where
 frames:A.frames=some outer
 mod:Mod K mg base
 bs:∀b o,base.get? b=some o→s.heap.get? b=some o∧H b=none
 bsz:base.objs.size≤s.heap.objs.size
 funs:s.heap.FunFrames base outer
 frf:∀b∈frs outer,H b=none
 hok:HOk P w H s.heap
 bare:AllBare s.gens
def CE (outer:List Env) (P:Program) (w:World) (H:Hp) (s:Shared) (Q:VK) (u:Value) (s':Shared):Prop:=
 ∃v H',s'.os=s.os∧AllBare s'.gens∧Un (frs outer) [] H H' s.heap s'.heap∧HOk P w H' s'.heap∧RelV v u∧Q v H'
def CR (CX:CXT) (outer:List Env) (P:Program) (w:World) (H:Hp) (s:Shared) (Q:VK) (E:XK) (r:Result) (s':Shared):Prop:=
 match r with
 |.ok (.ret u)=>CE outer P w H s Q u s'
 |.ok _=>False
 |.error e=>CX outer H s E e s'
structure jD (P:Program) (w:World) (K:PySem.W.Frag) (mg:Str→Option Value) (base:Heap) (CX:CXT) (k:Nat) (f:Addr) (fd:FuncData) (ps:List Str) (sp:Sp):Prop where
 len:∀vs H Q E,sp vs H Q E→vs.length=ps.length
 run:∀(A:Around) (outer:List Env) (s:Shared) (H:Hp) (args:Args) (us:List Value) (vs:List V) (Q:VK) (E:XK),Room k A→aCq P w K mg base A outer s H→BindsTo s fd args (ps.zip us)→Vals vs us→sp vs H Q E →
  codeAny (model P w) A (.call (.ref f) args) (CR CX outer P w H s Q E) s
theorem jD.mono {P:Program} {w:World} {K:PySem.W.Frag} {mg:Str→Option Value} {base:Heap} {CX:CXT} {j k:Nat} {f:Addr} {fd:FuncData} {ps:List Str} {sp:Sp} (F:jD P w K mg base CX j f fd ps sp) (h:j≤k) :
  jD P w K mg base CX k f fd ps sp:=⟨F.len,fun A outer s H args us vs Q E hr=>F.run A outer s H args us vs Q E (hr.mono h)⟩
theorem aCq.make {P:Program} {w:World} {K:PySem.W.Frag} {mg:Str→Option Value} {base:Heap} {A:Around} {outer:List Env} {s:Shared} {H:Hp} (e:aCq P w K mg base A outer s H) (C:Addr) (us:List Value) (kw:List (Str × Value)) :
  aCq P w K mg base (A.under (.builtin "type.__call__" ⟨.ref C::us,kw⟩)) outer s H:=⟨by first|exact e.frames|(simpa [Around.under,Code.envs,Code.isFrame,pushEnvs] using e.frames),e.mod,e.bs,e.bsz,e.funs,e.frf,e.hok,e.bare⟩
section
variable {X:Cx} {pins:List (Addr × Obj)} {σ:St} {H:Hp} {s s':Shared}
theorem Inv.env0 (I:Inv X pins σ H s):aCq X.prog X.w X.K X.mg X.base X.A X.stack s H:=
 ⟨I.ok.frames,I.ok.mod,I.bs,Nat.le_trans I.ok.bsz I.sz,I.stack,I.uF,I.hok,I.bare⟩
theorem Inv.after {Q:VK} {u:Value} (I:Inv X pins σ H s) (h:CE X.stack X.prog X.w H s Q u s'):EP X pins σ Q u s':=by
 obtain ⟨v,H',os,bare,un,hok,r,q⟩:=h
 obtain ⟨hh,g,d,t,os'⟩:=s'
 obtain rfl:os'=s.os:=os
 exact ⟨v,H',I.call (h':=hh) (g':=g) (d':=d) (t':=t) (ch:=[]) un hok bare (fun b z=>absurd z (by simp)),r,q⟩
end
def aAa (sp:Sp) (dvs:List V) (E:XK) (t:TA):TE:=fun σ H Q=>t σ H fun vs H1=>sp (vs++dvs) H1 Q E
def aKo (C:Addr) (m:Str) (sp:Sp) (dvs:List V) (E:XK) (ta:TE) (t:TA):TE:=fun σ H Q=>ta σ H fun x H1=>∃a dx fs,x=.ref a∧H1 a=some (.ins C dx fs)∧fs.lookup m=none ∧
 t σ H1 fun vs H2=>sp (x::(vs++dvs)) H2 Q E
def aSr (C:Addr) (sp:Sp) (dvs:List V) (E:XK) (t:TA):TE:=fun σ H Q=>t σ H fun vs H1=>∀x dx,H1 x=none→H1 dx=none→dx≠x →
 sp (.ref x::(vs++dvs)) (upd (upd H1 dx (.own x)) x (.ins C dx [])) (fun v H2=>v=.non∧Q (.ref x) H2) E
def Binds (K:PySem.W.Frag) (fd:FuncData) (ps:List Str) (ds:List Value):Prop:=
 ∀(s:Shared) (us:List Value),K.In s.heap→(us++ds).length=ps.length→BindsTo s fd ⟨us,[]⟩ (ps.zip (us++ds))
theorem Binds.all {K:PySem.W.Frag} {fd:FuncData} {ps:List Str} (h:∀us:List Value,us.length=ps.length→bindArgs fd ⟨us,[]⟩=pure (ps.zip us)):Binds K fd ps []:=fun s us _ hl=>by
 rw [List.append_nil] at hl ⊢
 exact .of_eq (h us hl)
def pG (CX:CXT) (X:Cx) (E:XK):Prop:=∀(pins:List (Addr × Obj)) (σ:St) (H:Hp) (s:Shared) (e:Value) (s':Shared),Inv X pins σ H s→CX X.stack H s E e s'→X.xe e s'
section
variable {X:Cx} {CX:CXT} {k:Nat} {f C:Addr} {fd:FuncData} {ps:List Str} {sp:Sp} {dvs:List V} {ds:List Value} {E:XK} {x m:Str} {p pos apos:Pos} {e o:Expr} {es:List Expr} {ta:TE} {t:TA}
theorem xC {pins:List (Addr × Obj)} {σ:St} {H:Hp} {s:Shared} {Q:VK} {us:List Value} {vs:List V} (F:jD X.prog X.w X.K X.mg X.base CX k f fd ps sp) (hr:Room k X.A) (hb:Binds X.K fd ps ds) (hd:Vals dvs ds) (hx:pG CX X E)
  (I:Inv X pins σ H s) (r:Vals vs us) (h:sp (vs++dvs) H Q E):wpAny (model X.prog X.w) X.A (call (.ref f) us) (EP X pins σ Q) X.xe s:=by
 have r2:Vals (vs++dvs) (us++ds):=r.append hd
 have hl:(us++ds).length=ps.length:=by rw [←r2.length];exact F.len _ _ _ _ h
 refine wpAny_call (codeAny_mono (F.run X.A X.stack s H ⟨us,[]⟩ (us++ds) (vs++dvs) Q E hr I.env0 (hb s us I.kIn hl) r2 h) fun r s' hq=>?_)
 cases r with
 |error e=>exact hx pins σ H s e s' I hq
 |ok fl=>
  cases fl with
  |ret u=>exact I.after hq
  |next=>exact False.elim hq
  |brk=>exact False.elim hq
  |cont=>exact False.elim hq
theorem aQn (F:jD X.prog X.w X.K X.mg X.base CX k f fd ps sp) (hr:Room k X.A) (hg:Gl X x) (hm:X.mg x=some (.ref f)) (hk:PySem.W.keepIn X.K (.ref f)=true) (hb:Binds X.K fd ps ds) (hd:Vals dvs ds) (hx:pG CX X E)
  (ha:PA X (e::es) t) (hdb:(x == ("__debug__":Str))=false:=by decide) (he:starEach (e::es) X.env=(false,eval e X.env)::starEach es X.env:=by rfl) (hpl:(backTo pos (starEach es X.env)).any (·.1)=false:=by rfl) :
  PE X (.Call (.Name x p) (e::es) [] pos) (aAa sp dvs E t):=by
 intro pins s σ H Q I h
 refine wpAny_Call_Name_kw (tG I hg hm ?_ hdb)
 refine PySem.W.callWith_K (h₀:=X.base) I.ok.mod.kin hk (thn (ha pos pins s σ H _ I h) fun us s1 ⟨vs,H1,I1,r,q⟩=>⟨I1.kIn,?_⟩) he hpl
 exact xC F hr hb hd hx I1 r q
theorem aN1 (F:jD X.prog X.w X.K X.mg X.base CX k f fd ps sp) (hr:Room k X.A) (hg:Gl X x) (hm:X.mg x=some (.ref f)) (hk:PySem.W.keepIn X.K (.ref f)=true) (hb:Binds X.K fd ps ds) (hd:Vals dvs ds) (hx:pG CX X E)
  (hdb:(x == ("__debug__":Str))=false:=by decide):PE X (.Call (.Name x p) [] [] pos) (aAa sp dvs E zJ):=by
 intro pins s σ H Q I h
 refine wpAny_Call_Name_kw (tG I hg hm ?_ hdb)
 exact PySem.W.callWith_K0 I.kIn hk (xC (us:=[]) F hr hb hd hx I .nil h)
theorem aQ9 {pl:Sem Bool} (he:PE X o ta) (c:Cls X.K C) (hm:Meth X.K C m f) (F:jD X.prog X.w X.K X.mg X.base CX k f fd ps sp) (hr:Room k X.A) (hb:Binds X.K fd ps ds) (hd:Vals dvs ds) (hx:pG CX X E) (ha:PA X (e::es) t)
  (hst:starEach (e::es) X.env=(false,eval e X.env)::starEach es X.env:=by rfl) (hpl:(backTo pos (starEach es X.env)).any (·.1)=false:=by rfl)
  (ht:eval (.Call (.Attribute o m apos) (e::es) [] pos) X.env=(do
   let ov ←eval o X.env
   standAt apos.atName
   let (f,first) ←holding [ov] (getMethod ov m pl)
   callWith pos f first (backTo pos (starEach (e::es) X.env)) (backToKw pos (keywordEach [] X.env))):=by rfl) :
  PE X (.Call (.Attribute o m apos) (e::es) [] pos) (aKo C m sp dvs E ta t):=by
 intro pins s σ H Q I h
 refine PySem.W.methodCall_KW (pl:=pl) (thn (he pins s σ H _ I h) fun u s1 ⟨x,H1,I1,rx,a,dx,fs,ex,ea,l,q⟩=>?_) ht
 subst ex
 obtain rfl:u=Value.ref a:=rx
 refine zO I1 ea c hm l ?_
 refine PySem.W.callWith_K (first:=[.ref a]) (h₀:=X.base) I.ok.mod.kin hm.kp (thn (ha pos pins s1 σ H1 _ I1 q) fun us s2 ⟨vs,H2,I2,r,q2⟩=>⟨I2.kIn,?_⟩) hst hpl
 exact xC (us:=.ref a::us) (vs:=.ref a::vs) F hr hb hd hx I2 (.cons rfl r) q2
theorem aM9 {pl:Sem Bool} (he:PE X o ta) (c:Cls X.K C) (hm:Meth X.K C m f) (F:jD X.prog X.w X.K X.mg X.base CX k f fd ps sp) (hr:Room k X.A) (hb:Binds X.K fd ps ds) (hd:Vals dvs ds) (hx:pG CX X E)
  (ht:eval (.Call (.Attribute o m apos) [] [] pos) X.env=(do
   let ov ←eval o X.env
   standAt apos.atName
   let (f,first) ←holding [ov] (getMethod ov m pl)
   callWith pos f first (backTo pos (starEach [] X.env)) (backToKw pos (keywordEach [] X.env))):=by rfl) :
  PE X (.Call (.Attribute o m apos) [] [] pos) (aKo C m sp dvs E ta zJ):=by
 intro pins s σ H Q I h
 refine PySem.W.methodCall_KW (pl:=pl) (thn (he pins s σ H _ I h) fun u s1 ⟨x,H1,I1,rx,a,dx,fs,ex,ea,l,q⟩=>?_) ht
 subst ex
 obtain rfl:u=Value.ref a:=rx
 refine zO I1 ea c hm l ?_
 exact PySem.W.callWith_K0 (first:=[.ref a]) I1.kIn hm.kp (xC (us:=[.ref a]) (vs:=[.ref a]) F hr hb hd hx I1 (.cons rfl .nil) q)
structure Mk (K:PySem.W.Frag) (C f:Addr):Prop where
 makes:PySem.W.makesIn K C=true
 init:PySem.W.findIn K (.ref C) "__init__"=some (some (.ref f))
 fn:PySem.W.isFn K (.ref f)=true
 kp:PySem.W.keepIn K (.ref C)=true
theorem aOw {pins:List (Addr × Obj)} {σ:St} {H:Hp} {s:Shared} {Q:VK} {us:List Value} {vs:List V} (M:Mk X.K C f) (F:jD X.prog X.w X.K X.mg X.base CX k f fd ps sp) (hr:Room (k+1) X.A) (hb:Binds X.K fd ps ds) (hd:Vals dvs ds)
  (hx:pG CX X E) (I:Inv X pins σ H s) (r:Vals vs us)
  (h:∀x dx,H x=none→H dx=none→dx≠x→sp (.ref x::(vs++dvs)) (upd (upd H dx (.own x)) x (.ins C dx [])) (fun v H2=>v=.non∧Q (.ref x) H2) E) :
  wpAny (model X.prog X.w) X.A (call (.ref C) us) (EP X pins σ Q) X.xe s:=by
 have hq:=h (s.heap.objs.size+1) s.heap.objs.size (I.hok.fresh (Nat.le_succ _)) (I.hok.fresh (Nat.le_refl _)) (Nat.ne_of_lt (Nat.lt_succ_self _))
 have I2:=Inv.made (C:=C) I
 have r2:Vals (V.ref (s.heap.objs.size+1)::(vs++dvs)) (Value.ref (s.heap.objs.size+1)::(us++ds)):=.cons rfl (r.append hd)
 have hl:(Value.ref (s.heap.objs.size+1)::us++ds).length=ps.length:=by
  have e:=r2.length
  rw [F.len _ _ _ _ hq] at e
  exact e.symm
 refine wpAny_call (aPc (f:=f) I.kIn M.makes M.init (beq_iff_eq.mp M.fn) (codeAny_mono (F.run _ X.stack _ _ ⟨Value.ref (s.heap.objs.size+1)::us,[]⟩ (Value.ref (s.heap.objs.size+1)::(us++ds)) _ _ E (hr.make C us [])
  (I2.env0.make C us []) (hb _ (Value.ref (s.heap.objs.size+1)::us) I2.kIn hl) r2 hq) fun r s' hq'=>?_))
 cases r with
 |error e=>exact hx pins σ _ _ e s' I2 hq'
 |ok fl=>
  cases fl with
  |ret u=>
   obtain ⟨v,H',I3,rv,ev,q3⟩:=I2.after hq'
   subst ev
   exact ⟨rv,⟨V.ref (s.heap.objs.size+1),H',I3,rfl,q3⟩⟩
  |next=>exact False.elim hq'
  |brk=>exact False.elim hq'
  |cont=>exact False.elim hq'
theorem aSi (M:Mk X.K C f) (F:jD X.prog X.w X.K X.mg X.base CX k f fd ps sp) (hr:Room (k+1) X.A) (hg:Gl X x) (hm:X.mg x=some (.ref C)) (hb:Binds X.K fd ps ds) (hd:Vals dvs ds) (hx:pG CX X E)
  (ha:PA X (e::es) t) (hdb:(x == ("__debug__":Str))=false:=by decide) (he:starEach (e::es) X.env=(false,eval e X.env)::starEach es X.env:=by rfl) (hpl:(backTo pos (starEach es X.env)).any (·.1)=false:=by rfl) :
  PE X (.Call (.Name x p) (e::es) [] pos) (aSr C sp dvs E t):=by
 intro pins s σ H Q I h
 refine wpAny_Call_Name_kw (tG I hg hm ?_ hdb)
 refine PySem.W.callWith_K (h₀:=X.base) I.ok.mod.kin M.kp (thn (ha pos pins s σ H _ I h) fun us s1 ⟨vs,H1,I1,r,q⟩=>⟨I1.kIn,?_⟩) he hpl
 exact aOw M F hr hb hd hx I1 r q
end
section
variable {X:Cx} {CX:CXT} {k:Nat} {f C:Addr} {fd:FuncData} {ps ks:List Str} {sp:Sp} {E:XK} {x m:Str} {p pos apos kpos:Pos} {e o:Expr} {es:List Expr} {kws:List Keyword} {te ta:TE} {t tk:TA} {nm:Option Str}
variable {g:List Value→List Value→List Value} {gV:List V→List V→List V}
end
structure aO (N P:List Str) (sc:Scope):Prop where
 kind:sc.kind=.function
 co:sc.isCoroutine=false
 gen:sc.isGenerator=false
 nd:N.Nodup
 pre:N.take P.length=P
 par:∀x∈P,sc.names.lookup x=some .local∨sc.names.lookup x=some .cell
 nofree:∀y∈sc.names,y.2≠.free
theorem aBo {kindOf:Str→Option NameKind} {x:Str}:∀{binds:List (Str × Value)} {m:Str→Option Value},(∀v,(x,v)∉binds)→bindL kindOf binds m x=m x
 |[],_,_=>rfl
 |(n,v)::r,m,h=>by
  unfold bindL
  rw [aBo fun w hw=>h w (List.mem_cons_of_mem _ hw)]
  split
  ·have:x≠n:=by rintro rfl;exact h v List.mem_cons_self
   simp [this]
  ·rfl
theorem aBh {kindOf:Str→Option NameKind} {x:Str}:∀{binds:List (Str × Value)} {m:Str→Option Value},(∀v,(x,v)∉binds)→bindC kindOf binds m x=m x
 |[],_,_=>rfl
 |(n,v)::r,m,h=>by
  unfold bindC
  rw [aBh fun w hw=>h w (List.mem_cons_of_mem _ hw)]
  split
  ·rfl
  ·have:x≠n:=by rintro rfl;exact h v List.mem_cons_self
   simp [this]
theorem aB5 {kindOf:Str→Option NameKind} {x:Str} {v:Value}:∀{P:List Str} {vs:List Value} {i:Nat} {m:Str→Option Value},P.Nodup→P[i]?=some x→vs[i]?=some v→kindOf x=some .local →
  bindL kindOf (P.zip vs) m x=some v
 |[],_,_,_,_,h,_,_=>by simp at h
 |_::_,[],_,_,_,_,h,_=>by simp at h
 |p::P,w::vs,0,m,nd,h1,h2,hk=>by
  simp at h1 h2;subst h1;subst h2
  show bindL kindOf ((p,w)::P.zip vs) m p=_
  unfold bindL
  rw [aBo fun v hv=>(List.nodup_cons.mp nd).1 (List.of_mem_zip hv).1,if_pos hk]
  simp
 |p::P,w::vs,i+1,m,nd,h1,h2,hk=>by
  show bindL kindOf ((p,w)::P.zip vs) m x=_
  unfold bindL
  exact aB5 (i:=i) (List.nodup_cons.mp nd).2 (by simpa using h1) (by simpa using h2) hk
theorem aBz {kindOf:Str→Option NameKind} {x:Str} {v:Value}:∀{P:List Str} {vs:List Value} {i:Nat} {m:Str→Option Value},P.Nodup→P[i]?=some x→vs[i]?=some v→kindOf x≠some .local →
  bindC kindOf (P.zip vs) m x=some v
 |[],_,_,_,_,h,_,_=>by simp at h
 |_::_,[],_,_,_,_,h,_=>by simp at h
 |p::P,w::vs,0,m,nd,h1,h2,hk=>by
  simp at h1 h2;subst h1;subst h2
  show bindC kindOf ((p,w)::P.zip vs) m p=_
  unfold bindC
  rw [aBh fun v hv=>(List.nodup_cons.mp nd).1 (List.of_mem_zip hv).1,if_neg hk]
  simp
 |p::P,w::vs,i+1,m,nd,h1,h2,hk=>by
  show bindC kindOf ((p,w)::P.zip vs) m x=_
  unfold bindC
  exact aBz (i:=i) (List.nodup_cons.mp nd).2 (by simpa using h1) (by simpa using h2) hk
def start (N:List Str) (vs:List V):St:=vs.map some++List.replicate (N.length - vs.length) none
def xQ (CX:CXT) (P:Program) (w:World) (K:PySem.W.Frag) (mg:Str→Option Value) (base:Heap) (N:List Str) (qual:Str) (scope:Scope) (f:Addr) (cd:Value) (A:Around) (outer:List Env) (s:Shared) (H:Hp) (E:XK):Cx where
 prog:=P
 w:=w
 K:=K
 mg:=mg
 base:=base
 A:=A.deeper (envOfC qual scope s.heap.objs.size f cd)
 N:=N
 s₀:=s
 H₀:=H
 env:=envOfC qual scope s.heap.objs.size f cd
 outer:=outer
 stack:=envOfC qual scope s.heap.objs.size f cd::outer
 ex:=[]
 calm:=true
 fn:=fun _=>true
 pn:=[]
 xe:=fun e s'=>wpAny (model P w) (A.deeper (envOfC qual scope s.heap.objs.size f cd)) (leaving (envOfC qual scope s.heap.objs.size f cd) e) (fun _ s''=>CX outer H s E e s'') (fun e' s''=>CX outer H s E e' s'') s'
theorem aF2 {sc:Scope} {n:Nat} {x:Str} (h:sc.names.lookup x=some .cell):∃c,(cellsFrom n sc.names []).lookup x=some c:=by
 have q:=PySem.W.cellsFrom_some sc.names n [] (.inl h)
 exact Option.isSome_iff_exists.mp q
theorem aLv {CX:CXT} {P:Program} {w:World} {K:PySem.W.Frag} {mg:Str→Option Value} {base:Heap} {N ps:List Str} {qual:Str} {scope:Scope} {f:Addr} {cd:Value} {A:Around} {outer:List Env} {s s1:Shared} {H:Hp} {E:XK} {us:List Value} {vs:List V}
  (S:aO N ps scope) (hd:A.handled=none) (e0:aCq P w K mg base A outer s H) (hl:vs.length=ps.length) (r:Vals vs us)
  (x:InCallC s s.heap.objs.size (bindL (envOfC qual scope s.heap.objs.size f cd).kindOf (ps.zip us) fun _=>none) (cellsFrom (s.heap.objs.size+1) scope.names []) (bindC (envOfC qual scope s.heap.objs.size f cd).kindOf (ps.zip us) fun _=>none) s1) :
  Inv (xQ CX P w K mg base N qual scope f cd A outer s H E) [] (start N vs) H s1:=by
 have hpl:ps.length≤N.length:=by have:=congrArg List.length S.pre;rw [List.length_take] at this;lia
 obtain ⟨h1,tk,rfl,hk⟩:=x.done
 have noA:∀b:Addr,b∉(xQ CX P w K mg base N qual scope f cd A outer s H E).ex:=fun b z=>absurd (show b∈([]:List Addr) from z) (by simp)
 refine ⟨⟨e0.mod,S.kind,rfl,rfl,Nat.le_refl _,fun y z c h1 h2=>?_,fun y hy=>?_,fun y c _ h=>?_,fun _=>hd,Around.frames_deeper e0.frames,.inr ⟨rfl,rfl⟩,fun b z=>absurd z (noA b),e0.bs,e0.bsz,fun b _ _=>noA b,fun b z=>absurd z (noA b),e0.funs,e0.frf⟩,
  rfl,e0.bare,Un.kept hk,⟨_,x.toInCall.ns,fun i y v h1 h2 h3=>?_⟩,fun y c h=>⟨_,x.cell y c h⟩,e0.hok.fresh (Nat.le_refl _),fun y c h=>?_,fun p hp=>absurd (show p∈([]:List (Addr × Obj)) from hp) (by simp),e0.hok.kept hk,?_⟩
 ·exact name_of_addr x.apart (PySem.mem_of_lookup h1) (PySem.mem_of_lookup h2)
 ·have hy:scope.names.lookup y=some .cell∨scope.names.lookup y=some .free:=hy
  rcases hy with hy|hy
  ·exact aF2 hy
  ·exact absurd rfl (S.nofree _ (PySem.mem_of_lookup hy))
 ·exact Nat.le_of_lt (x.above y c (PySem.mem_of_lookup h))
 ·have hi:i<vs.length:=by
   unfold start at h2
   by_cases hi:i<vs.length
   ·exact hi
   ·rw [List.getElem?_append_right (by simpa using hi)] at h2
    rw [List.getElem?_replicate] at h2
    split at h2 <;> cases h2
  have ha:vs[i]?=some v:=by
   unfold start at h2
   rw [List.getElem?_append_left (by simpa using hi),List.getElem?_map] at h2
   cases e:vs[i]? with
   |none=>rw [e] at h2;cases h2
   |some a=>rw [e] at h2;cases h2;rfl
  obtain ⟨u,hu,rv⟩:=r.get ha
  have hp:ps[i]?=some y:=by
   rw [←S.pre,List.getElem?_take_of_lt (by lia)];exact h1
  have ndP:ps.Nodup:=by rw [←S.pre];exact S.nd.sublist (List.take_sublist _ _)
  refine ⟨u,rv,?_⟩
  rcases S.par y (List.mem_of_getElem? hp) with k|k
  ·exact .inl ⟨k,aB5 ndP hp hu k⟩
  ·obtain ⟨c,e⟩:=aF2 (n:=s.heap.objs.size+1) k
   refine .inr ⟨.inl k,c,e,?_⟩
   have q:=x.cell y c e
   rw [aBz ndP hp hu (by show scope.names.lookup y≠_;rw [k];decide)] at q
   exact q
 ·exact e0.hok.fresh (Nat.le_of_lt (x.above y c (PySem.mem_of_lookup h)))
 ·unfold start
  show _=N.length
  rw [List.length_append,List.length_map,List.length_replicate]
  lia
theorem aS7 {CX:CXT} {P:Program} {w:World} {K:PySem.W.Frag} {mg:Str→Option Value} {base:Heap} {k:Nat} {f:Addr} {name qual:Str} {params:Arguments} {body:List Stmt} {scope:Scope} {dV kV doc pm cdv ct oc:Value} {an od:Option Addr}
  {osl:Array (Option Value)} {N ps:List Str} {sp:Sp} (lk:K.lookup f=some ⟨oc,od,.func (PySem.W.fnOf name qual params body scope dV kV doc pm an cdv ct),osl⟩) (hcd:PySem.W.codeIn K cdv qual=true) (S:aO N ps scope)
  (len:∀vs H Q E,sp vs H Q E→vs.length=ps.length)
  (hbody:∀(A:Around) (outer:List Env) (s:Shared) (H:Hp) (vs:List V) (Q:VK) (E:XK),Room k (A.deeper (envOfC qual scope s.heap.objs.size f cdv))→sp vs H Q E →
   ∃t,PSs (xQ CX P w K mg base N qual scope f cdv A outer s H E) body t∧t { nx:=fun _ H'=>Q .non H',rt:=Q } (start N vs) H) :
  jD P w K mg base CX (k+1) f (PySem.W.fnOf name qual params body scope dV kV doc pm an cdv ct) ps sp:=by
 refine ⟨len,fun A outer s H args us vs Q E hr e0 hb r hsp=>?_⟩
 have hl:=len _ _ _ _ hsp
 have KX:K.In s.heap:=e0.mod.kin.keeps fun b o e=>(e0.bs b o e).1
 have lim:s.heap.NoLimit:=e0.mod.nolimit.keeps fun b o e=>(e0.bs b o e).1
 have hkind:∀y∈ps.zip us,scope.names.lookup y.1=some .local∨(scope.names.lookup y.1=some .cell∧((cellsFrom (s.heap.objs.size+1) scope.names []).lookup y.1).isSome=true):=fun ⟨n,v⟩ hy=>by
  rcases S.par n (List.of_mem_zip hy).1 with q|q
  ·exact .inl q
  ·exact .inr ⟨q,PySem.W.cellsFrom_some _ _ _ (.inl q)⟩
 refine codeAny_call_function hr.depth (KX _ _ lk) rfl S.co S.gen rfl (PySem.W.codeRec_of KX hcd) (hb _ _ _ _ ?_)
 refine wpAny_newFunctionEnv_cells S.kind hkind fun env he s1 x=>?_
 subst he
 refine ⟨lim.keeps x.toInCall.keep,codeAny_func ?_⟩
 obtain ⟨t,ht,hq⟩:=hbody A outer s H vs Q E (hr.deeper _) hsp
 have I:Inv (xQ CX P w K mg base N qual scope f cdv A outer s H E) [] (start N vs) H s1:=aLv S hr.hd e0 hl r x
 refine wpAny_mono (ht [] s1 (start N vs) H _ I hq) (fun fl s' hs=>?_) fun e s' hs=>hs
 have fin:∀{σ':St} {H':Hp} {v:V} {u:Value},Inv (xQ CX P w K mg base N qual scope f cdv A outer s H E) [] σ' H' s'→RelV v u→Q v H'→CE outer P w H s Q u s':=
  fun {σ' H' v u} J rv q=>⟨v,H',J.os,J.bare,J.base,J.hok,rv,q⟩
 cases fl with
 |ret u=>
  obtain ⟨v,σ',H',J,rv,q⟩:=hs
  exact fin J rv q
 |next=>
  obtain ⟨σ',H',J,q⟩:=hs
  exact fin (v:=V.non) (u:=Value.none) J rfl q
 |brk=>
  obtain ⟨_,_,_,q⟩:=hs
  exact False.elim q
 |cont=>
  obtain ⟨_,_,_,q⟩:=hs
  exact False.elim q
section
variable {X:Cx} {x:Str} {p pos:Pos} {e:Expr} {es:List Expr} {t:TA} {id T:String} {r:List V→Hp→VK→Prop}
def tCB (r:List V→Hp→VK→Prop) (t:TA):TE:=fun σ H Q=>t σ H fun vs H1=>r vs H1 Q
theorem aNg (hc:bW X (.builtin id) r) (hg:Gl X x) (hm:X.mg x=none) (hv:bootBuiltins x=some (.builtin id)) (ha:PA X (e::es) t) (hn:x≠"__name__":=by decide) (hdb:(x == ("__debug__":Str))=false:=by decide)
  (he:starEach (e::es) X.env=(false,eval e X.env)::starEach es X.env:=by rfl) (hpl:(backTo pos (starEach es X.env)).any (·.1)=false:=by rfl):PE X (.Call (.Name x p) (e::es) [] pos) (tCB r t):=by
 intro pins s σ H Q I h
 refine wpAny_Call_Name_kw (lH I hg hm hv ?_ hn hdb)
 exact PyProof.Rows.callWith_builtin1 (thn (ha pos pins s σ H _ I h) fun us s1 ⟨vs,H1,I1,r1,q1⟩=>hc pins s1 σ H1 vs us Q I1 r1 q1) he hpl
theorem aLu (hc:bW X (.type T) r) (hg:Gl X x) (hm:X.mg x=none) (hv:bootBuiltins x=some (.type T)) (ha:PA X (e::es) t) (hn:x≠"__name__":=by decide) (hdb:(x == ("__debug__":Str))=false:=by decide)
  (he:starEach (e::es) X.env=(false,eval e X.env)::starEach es X.env:=by rfl) (hpl:(backTo pos (starEach es X.env)).any (·.1)=false:=by rfl):PE X (.Call (.Name x p) (e::es) [] pos) (tCB r t):=by
 intro pins s σ H Q I h
 refine wpAny_Call_Name_kw (lH I hg hm hv ?_ hn hdb)
 exact PyProof.Rows.callWith_type1 (thn (ha pos pins s σ H _ I h) fun us s1 ⟨vs,H1,I1,r1,q1⟩=>hc pins s1 σ H1 vs us Q I1 r1 q1) he hpl
end
end L2
namespace HT
open PySem PyProof.Rows
section
open PySem.SeqAt
open PySem.AutoSeq1 (wpAny_loadPart')
open PySem.MeetsSeq PySem.MeetsSeq2 PySem.MeetsSeq3
end
section
variable {prog:Program} {w:World} {A:Around} {E:Value→Shared→Prop} {s:Shared}
def sIx (n d:Nat):Option Int→Nat
 |none=>d
 |some v=>if v<0 then (v+(n:Int)).toNat else min v.toNat n
theorem aNv (n d:Nat):sIx n d none=d:=rfl
theorem aRn (n d k:Nat):sIx n d (some (k:Int))=min k n:=by
 show (if (k:Int)<0 then ((k:Int)+(n:Int)).toNat else min (k:Int).toNat n)=min k n
 rw [if_neg (by lia),Int.toNat_natCast]
theorem aTq (n d:Nat) (hd:d≤n) (o:Option Int):sIx n d o≤n:=by
 cases o with
 |none=>exact hd
 |some v=>
  show (if v<0 then (v+(n:Int)).toNat else min v.toNat n)≤n
  by_cases hv:v<0
  ·rw [if_pos hv];lia
  ·rw [if_neg hv];exact Nat.min_le_right _ _
theorem aKs (v:Int) (n d:Nat):(if v<0 then max (v+(n:Int)) 0 else min v (n:Int))=((sIx n d (some v):Nat):Int):=by
 show (if v<0 then max (v+(n:Int)) 0 else min v (n:Int))=(((if v<0 then (v+(n:Int)).toNat else min v.toNat n):Nat):Int)
 by_cases hv:v<0
 ·simp only [if_pos hv];lia
 ·simp only [if_neg hv];lia
theorem aI2 (lo hi:Option Int) (n:Nat):Builtin.Slice.sliceAdjust lo hi 1 (n:Int)=(((sIx n 0 lo:Nat):Int),((sIx n n hi:Nat):Int)):=by
 have h1:¬ ((1:Int)<0):=by lia
 unfold Builtin.Slice.sliceAdjust
 simp only [h1,if_false]
 refine Prod.ext ?_ ?_
 ·cases lo with
  |none=>rfl
  |some v=>exact aKs v n 0
 ·cases hi with
  |none=>rfl
  |some v=>exact aKs v n n
theorem aHa (i j:Nat):Builtin.Slice.slicePlaces (i:Int) (j:Int) 1=j - i:=by
 unfold Builtin.Slice.slicePlaces
 have h1:(1:Int) > 0:=by lia
 simp only [h1,if_true,Int.ediv_one]
 split <;> lia
theorem yG {v:Value} {o:Option Int} {Q:Option Int→Shared→Prop} (p:IsPart v o) (h:Q o s):wpAny (model prog w) A (Builtin.Slice.slicePartIndex v) Q E s:=by
 cases p with
 |none=>exact slicePart_none h
 |int i t=>exact slicePart_int h
theorem lV {sl:Addr} {vl vu:Value} {lo hi:Option Int} {n:Nat} {Q:Int × Int × Nat→Shared→Prop} (hs:s.heap.IsSliceOf sl vl vu .none) (pl:IsPart vl lo) (pu:IsPart vu hi)
  (h:Q (((sIx n 0 lo:Nat):Int),1,sIx n n hi - sIx n 0 lo) s):wpAny (model prog w) A (Builtin.Slice.sliceApplied (.ref sl) (pure (n:Int))) Q E s:=by
 obtain ⟨os,hos,hcs,hds⟩:=id hs
 unfold Builtin.Slice.sliceApplied Builtin.Slice.sliceFields
 refine wpAny_bind (wpAny_bind (wpAny_field hos hds (x:=vl) rfl (wpAny_bind (wpAny_field hos hds (x:=vu) rfl (wpAny_bind (wpAny_field hos hds (x:=.none) rfl (wpAny_pure ?_)))))))
 refine wpAny_bind (slicePart_none ?_)
 show wpAny _ _ (if ((1:Int) == 0)=true then _ else _) _ _ s
 rw [if_neg (by decide)]
 refine wpAny_bind (yG pl (wpAny_bind (yG pu (wpAny_bind (wpAny_pure ?_)))))
 show wpAny _ _ (match Builtin.Slice.sliceAdjust lo hi 1 (n:Int) with|(lo,hi)=>pure (lo,(1:Int),Builtin.Slice.slicePlaces lo hi 1)) _ _ s
 rw [aI2 lo hi n]
 show wpAny _ _ (pure (((sIx n 0 lo:Nat):Int),(1:Int),Builtin.Slice.slicePlaces ((sIx n 0 lo:Nat):Int) ((sIx n n hi:Nat):Int) 1)) _ _ s
 rw [aHa]
 exact wpAny_pure h
theorem aP5 (xs:Array Value) (i k:Nat):((List.range k).filterMap fun (m:Nat)=>xs[((i:Int)+(m:Int) * 1).toNat]?).toArray=((xs.toList.drop i).take k).toArray:=by
 have e:(fun (m:Nat)=>xs[((i:Int)+(m:Int) * 1).toNat]?)=fun m=>xs[i+m]?:=by
  funext m
  have:((i:Int)+(m:Int) * 1).toNat=i+m:=by lia
  rw [this]
 rw [e]
 have:=pick_run xs i k
 rw [List.filterMap_map] at this
 have e2:((fun x=>xs[x]?) ∘ fun x=>i+x)=fun m=>xs[i+m]?:=rfl
 rw [e2] at this
 rw [this]
theorem tE {t sl:Addr} {items:Array Value} {vl vu:Value} {lo hi:Option Int} {Q:Value→Shared→Prop} (ht:IsTup s.heap t items) (hs:s.heap.IsSliceOf sl vl vu .none) (pl:IsPart vl lo) (pu:IsPart vu hi)
  (hw:¬ (sIx items.size 0 lo=0∧sIx items.size items.size hi=items.size))
  (h:Q (.ref s.heap.objs.size) { s with heap:=s.heap.push { cls:=.type "tuple",data:=.seq ((items.toList.drop (sIx items.size 0 lo)).take (sIx items.size items.size hi - sIx items.size 0 lo)).toArray } })
  (hsz:items.size≤sizeLine):wpAny (model prog w) A (getItem (.ref t) (.ref sl)) Q E s:=by
 have htake:sizeOk (.seq ((items.toList.drop (sIx items.size 0 lo)).take (sIx items.size items.size hi - sIx items.size 0 lo)).toArray):=by
  show ((items.toList.drop (sIx items.size 0 lo)).take (sIx items.size items.size hi - sIx items.size 0 lo)).toArray.size≤sizeLine
  rw [List.size_toArray,List.length_take,List.length_drop,Array.length_toList]
  lia
 have hj:sIx items.size items.size hi≤items.size:=aTq _ _ (Nat.le_refl _) hi
 obtain ⟨os,hos,hcs,hds⟩:=id hs
 have hTs:s.TypeIs (.ref sl) "slice":=⟨os,hos,hcs⟩
 unfold getItem
 try with_reducible refine wpAny_holding ?_
 first|refine wpAny_bind (wpAny_pure ?_)|skip
 refine wpAny_bind (wpAny_sequenceKey ht.typeIs (by decide) ?_)
 refine wpAny_bind (wpAny_callSpecial?_slot (name:=Str.ofString "__getitem__") ht.typeIs PyProof.Rows.slot_tuple_getitem
  (wpAny_call_entry PyProof.Rows.slot_tuple_getitem ht.typeIs entry_tuple_getitem ?_ (args_tuple_getitem _ _)))
 show wpAny _ _ (Builtin.Tuple.tupleItemsOf (.ref t) >>= _) _ _ s
 refine wpAny_bind (tupleItemsOf_ ht ?_)
 refine wpAny_bind (wpAny_typeOf hTs ?_)
 rw [if_pos (by decide)]
 refine wpAny_bind (lV hs pl pu ?_)
 have hno:¬ ((((sIx items.size 0 lo:Nat):Int) == 0 && (1:Int) == 1 && (sIx items.size items.size hi - sIx items.size 0 lo) == items.size)=true):=by
  intro q
  rw [Bool.and_eq_true,Bool.and_eq_true] at q
  have q1:((sIx items.size 0 lo:Nat):Int)=0:=eq_of_beq q.1.1
  have q2:sIx items.size items.size hi - sIx items.size 0 lo=items.size:=eq_of_beq q.2
  exact hw ⟨by lia,by lia⟩
 show wpAny _ _ (if (((sIx items.size 0 lo:Nat):Int) == 0 && (1:Int) == 1 && (sIx items.size items.size hi - sIx items.size 0 lo) == items.size)=true then _ else _) _ _ s
 rw [if_neg hno,aP5]
 first
  |exact wpAny_bind (m:=Builtin.Tuple.tupleExact _) (wpAny_newObj_type (wpAny_pure ⟨_,rfl,wpAny_pure h⟩) htake)
  |exact wpAny_bind (m:=Builtin.Tuple.tupleExact _) (wpAny_newObj_type (wpAny_bind (wpAny_pure (wpAny_pure ⟨_,rfl,wpAny_pure h⟩))) htake)
  |exact wpAny_bind (wpAny_bind (m:=Builtin.Tuple.tupleExact _) (wpAny_newObj_type (wpAny_pure (wpAny_pure ⟨_,rfl,wpAny_pure h⟩)) htake))
  |exact wpAny_bind (wpAny_bind (m:=Builtin.Tuple.tupleExact _) (wpAny_newObj_type (wpAny_pure ⟨_,rfl,wpAny_pure h⟩) htake))
end
end HT
namespace L2
open PySem PySem.Spec PyProof.Rows
abbrev TO:=St→Hp→(Option Int→Hp→Prop)→Prop
def PO (X:Cx) (e:Option Expr) (t:TO):Prop:=
 ∀(pins:List (Addr × Obj)) (s:Shared) (σ:St) (H:Hp) (Q:Option Int→Hp→Prop),Inv X pins σ H s→t σ H Q →
  wpAny (model X.prog X.w) X.A (evalPart e X.env) (fun u s'=>∃o H',Inv X pins σ H' s'∧IsPart u o∧Q o H') X.xe s
def aJy:TO:=fun _ H Q=>Q none H
def aS4 (t:TE):TO:=fun σ H Q=>t σ H fun x H1=>∃i,x=.int i∧Q (some i) H1
section
variable {X:Cx} {e:Expr} {te:TE} {lo hi:Option Expr} {tl th:TO} {pos p2:Pos}
theorem aSh:PO X none aJy:=by
 intro pins s σ H Q I h
 rw [evalPart_none]
 exact wpAny_pure ⟨none,H,I,.none,h⟩
theorem aQq (h:PE X e te):PO X (some e) (aS4 te):=by
 intro pins s σ H Q I hw
 rw [evalPart_some]
 refine thn (h pins s σ H _ I hw) fun u s1 ⟨x,H1,I1,r1,q1⟩=>?_
 obtain ⟨i,rfl,q⟩:=q1
 obtain ⟨t,rfl⟩:=r1
 exact ⟨some i,H1,I1,.int i t,q⟩
def SlR (X:Cx) (r:V→Option Int→Option Int→Hp→VK→Prop):Prop:=
 ∀(pins:List (Addr × Obj)) (s:Shared) (σ:St) (H:Hp) (x:V) (v vl vu:Value) (lo hi:Option Int) (sl:Addr) (Q:VK),Inv X pins σ H s→RelV x v→s.heap.IsSliceOf sl vl vu .none→IsPart vl lo→IsPart vu hi→r x lo hi H Q →
  ∃T id,typeLookup (.type T) "__getitem__"=pure (some (.builtin id))∧s.TypeIs v T∧wpAny (model X.prog X.w) X.A (getItem v (.ref sl)) (EP X pins σ Q) X.xe s
def tSl (r:V→Option Int→Option Int→Hp→VK→Prop) (te:TE) (tl th:TO):TE:=fun σ H Q=>te σ H fun x H1=>tl σ H1 fun l H2=>th σ H2 fun u H3=>r x l u H3 Q
theorem aNa {r:V→Option Int→Option Int→Hp→VK→Prop} (hr:SlR X r) (he:PE X e te) (hl:PO X lo tl) (hu:PO X hi th):PE X (.Subscript e (.Slice lo hi none p2) pos) (tSl r te tl th):=by
 intro pins s σ H Q I h
 refine Subscript_ (thn (he pins s σ H _ I h) fun v s1 ⟨x,H1,I1,r1,q1⟩=>?_)
 refine wpAny_Slice (thn (hl pins s1 σ H1 _ I1 q1) fun vl s2 ⟨l,H2,I2,pl,q2⟩=>thn (hu pins s2 σ H2 _ I2 q2) fun vu s3 ⟨u,H3,I3,pu,q3⟩=>?_)
 rw [evalPart_none]
 refine wpAny_pure ?_
 have I4:Inv X pins σ H3 { s3 with heap:=s3.heap.push { cls:=.type "slice",data:=.fields #[vl,vu,.none] } }:=I3.kept (t':=s3.toks) fun b ob q=>Heap.get?_push_of_some _ q
 obtain ⟨T,id,hT,ht,hg⟩:=hr pins { s3 with heap:=s3.heap.push { cls:=.type "slice",data:=.fields #[vl,vu,.none] } } σ H3 x v vl vu l u s3.heap.objs.size Q I4 r1 (Heap.IsSliceOf.new ..) pl pu q3
 show wpAny (model X.prog X.w) X.A (subscriptTail e (.Slice lo hi none p2) v (.ref s3.heap.objs.size)) (EP X pins σ Q) X.xe { s3 with heap:=s3.heap.push { cls:=.type "slice",data:=.fields #[vl,vu,.none] } }
 exact tail_any (ops:=[.ref s3.heap.objs.size,v]) ht hT hg (by with_unfolding_all rfl)
def uB (xs:List V) (lo hi:Option Int):List V:=(xs.drop (HT.sIx xs.length 0 lo)).take (HT.sIx xs.length xs.length hi - HT.sIx xs.length 0 lo)
theorem vY (xs:List V) (lo hi:Option Int):(uB xs lo hi).length≤xs.length:=by
 unfold uB
 rw [List.length_take,List.length_drop]
 lia
def aXf (K:PySem.W.Frag):V→Option Int→Option Int→Hp→VK→Prop:=fun x lo hi H Q=>∃a xs,x=.ref a∧SqT K H a xs ∧
 ¬ (HT.sIx xs.length 0 lo=0∧HT.sIx xs.length xs.length hi=xs.length)∧∀p,H p=none→Q (.ref p) (upd H p (.tup (uB xs lo hi)))
theorem aVm:SlR X (aXf X.K):=by
 intro pins s σ H x v vl vu lo hi sl Q I rx hs pl pu h
 obtain ⟨a,xs,rfl,hx,hw,q⟩:=h
 cases rx
 obtain ⟨its,r,ht,hz⟩:=I.tuple hx
 have hlen:its.toArray.size=xs.length:=by rw [List.size_toArray];exact r.length.symm
 refine ⟨"tuple",_,PyProof.Rows.slot_tuple_getitem.lookup,ht.typeIs,?_⟩
 refine HT.tE ht hs pl pu (by rw [hlen];exact hw) ?_ (by rw [hlen];exact hz)
 rw [hlen]
 refine ⟨.ref s.heap.objs.size,_,I.laid (t':=s.toks) (o:=.tup (uB xs lo hi)) (fun b ob q=>Heap.get?_push_of_some _ q) (Nat.le_refl _) ?_,rfl,q _ (I.hok.fresh (Nat.le_refl _))⟩
 exact ⟨Nat.le_trans (vY xs lo hi) hz,_,(r.drop (HT.sIx xs.length 0 lo)).take (HT.sIx xs.length xs.length hi - HT.sIx xs.length 0 lo),xF.new _ _⟩
end
def ixN (n:Nat) (i:Int):Option Nat:=if 0≤i then (if i<n then some i.toNat else none) else if -(n:Int)≤i then some (i+n).toNat else none
def atI {α:Type} (xs:List α) (i:Int):Option α:=(ixN xs.length i).bind fun j=>xs[j]?
theorem aJp {n:Nat} {i:Int} {j:Nat} (h:ixN n i=some j):seqIndex? i n=some j∧j<n∧-(n:Int)≤i∧i<n:=by
 unfold ixN at h
 by_cases h0:0≤i
 ·rw [if_pos h0] at h
  by_cases h1:i<n
  ·rw [if_pos h1] at h
   have e:i.toNat=j:=Option.some.inj h
   exact ⟨by rw [seqIndex_of h0 h1,e],by lia,by lia,h1⟩
  ·rw [if_neg h1] at h;cases h
 ·rw [if_neg h0] at h
  by_cases h1:-(n:Int)≤i
  ·rw [if_pos h1] at h
   have e:(i+n).toNat=j:=Option.some.inj h
   exact ⟨by rw [seqIndex_neg (by lia) h1,e],by lia,h1,by lia⟩
  ·rw [if_neg h1] at h;cases h
theorem aKm {α:Type} {xs:List α} {i:Int} {v:α} (h:atI xs i=some v):∃j,seqIndex? i xs.length=some j∧xs[j]?=some v∧j<xs.length∧-(xs.length:Int)≤i∧i<xs.length:=by
 unfold atI at h
 cases e:ixN xs.length i with
 |none=>rw [e] at h;cases h
 |some j=>
  rw [e] at h
  obtain ⟨h1,h2,h3,h4⟩:=aJp e
  exact ⟨j,h1,h,h2,h3,h4⟩
theorem fP {α:Type} {xs:List α} {j:Nat} {v:α} (h:xs[j]?=some v):atI xs (j:Int)=some v:=by
 have hj:j<xs.length:=(List.getElem?_eq_some_iff.mp h).1
 have e:ixN xs.length (j:Int)=some j:=by
  unfold ixN
  rw [if_pos (by lia),if_pos (by lia)];simp
 unfold atI;rw [e];exact h
def aJ2 (b:Expr):Prop:=∀o i,subscripted b false o i=operate [o,i] (getItem o i)
def IxR (X:Cx) (r:R2):Prop:=
 ∀(value slice:Expr) (pins:List (Addr × Obj)) (s:Shared) (σ:St) (H:Hp) (x y:V) (v u:Value) (Q:VK),Inv X pins σ H s→RelV x v→RelV y u→r x y H Q →
  subscripted slice false v u=operate [v,u] (getItem v u)→wpAny (model X.prog X.w) X.A (subscriptTail value slice v u) (EP X pins σ Q) X.xe s
def MtR (X:Cx) (id:String) (r:V→List V→Hp→VK→Prop):Prop:=
 ∀(pins:List (Addr × Obj)) (s:Shared) (σ:St) (H:Hp) (x:V) (xs:List V) (v:Value) (us:List Value) (Q:VK),Inv X pins σ H s→RelV x v→Vals xs us→r x xs H Q →
  wpAny (model X.prog X.w) X.A (call (.builtin id) (v::us)) (EP X pins σ Q) X.xe s
section
variable {X:Cx} {a b:Expr} {ta tb:TE} {pos:Pos}
theorem aV7 {r:R2} (hr:IxR X r) (ha:PE X a ta) (hb:PE X b tb) (hs:aJ2 b):PE X (.Subscript a b pos) (tOp r ta tb):=by
 intro pins s σ H Q I h
 exact Subscript_ (aRg ha hb I h fun v u s2 x y H2 I2 rx ry q=>hr a b pins s2 σ H2 x y v u Q I2 rx ry q (hs _ _))
def aXi (K:PySem.W.Frag):R2:=fun x y H Q=>∃p xs i v,x=.ref p∧y=.int i∧SqL K H p xs∧atI xs i=some v∧Q v H
def aWf (K:PySem.W.Frag):R2:=fun x y H Q=>∃p xs i v,x=.ref p∧y=.int i∧SqT K H p xs∧atI xs i=some v∧Q v H
theorem dU:IxR X (aXi X.K):=by
 intro value slice pins s σ H x y v u Q I rx ry h hs
 obtain ⟨p,xs,i,z,rfl,rfl,hq,he,q⟩:=h
 cases rx
 obtain ⟨t,rfl⟩:=ry
 obtain ⟨its,r,pl,hz⟩:=I.list hq
 obtain ⟨j,h1,h2,h3,h4,h5⟩:=aKm he
 obtain ⟨w,ew,rw'⟩:=r.get h2
 have hl:=r.length
 have hn:=yH
 have fin:EP X pins σ Q w s:=⟨z,H,I,rw',q⟩
 by_cases h0:0≤i
 ·have hj:i.toNat=j:=by
   rw [seqIndex_of h0 h5] at h1
   exact Option.some.inj h1
  exact item_listR pl.isList h0 (by lia) (by rw [hj];simpa using ew) fin hs
 ·have hj:(i+(its.toArray.size:Int)).toNat=j:=by
   rw [seqIndex_neg (by lia) h4] at h1
   rw [List.size_toArray,←hl]
   exact Option.some.inj h1
  exact subscriptTail_builtinR (x:=w) pl.isList.typeIs slot_list_getitem.lookup
   (wpAny_getItem_list_neg (Q:=fun r s'=>r=w∧EP X pins σ Q r s') pl.isList (by lia) (by rw [List.size_toArray] <;> lia) (by lia) (by rw [hj];simpa using ew) ⟨rfl,fin⟩) hs
theorem cA:IxR X (aWf X.K):=by
 intro value slice pins s σ H x y v u Q I rx ry h hs
 obtain ⟨p,xs,i,z,rfl,rfl,hq,he,q⟩:=h
 cases rx
 obtain ⟨t,rfl⟩:=ry
 obtain ⟨its,r,pl,hz⟩:=I.tuple hq
 obtain ⟨j,h1,h2,h3,h4,h5⟩:=aKm he
 obtain ⟨w,ew,rw'⟩:=r.get h2
 have hl:=r.length
 have hn:=yH
 have fin:EP X pins σ Q w s:=⟨z,H,I,rw',q⟩
 exact subscriptTail_builtinR (x:=w) pl.typeIs slot_tuple_getitem.lookup
  (getItem_tuple (j:=j) (Q:=fun r s'=>r=w∧EP X pins σ Q r s') pl (by lia) (by lia) (by rw [List.size_toArray,←hl];exact h1) (by simpa using ew) ⟨rfl,fin⟩) hs
theorem aHf (its:List Value) (n j:Nat) (u:Value):Obj.mapSeq (·.setIfInBounds j u) { cls:=.type "list",data:=.seq its.toArray n }={ cls:=.type "list",data:=.seq (its.set j u).toArray n }:=by
 simp [Obj.mapSeq]
theorem Inv.lst {pins:List (Addr × Obj)} {σ:St} {H:Hp} {s:Shared} {p:Addr} {xs:List V} (I:Inv X pins σ H s) (h:H p=some (.lst xs)) :
  ∃(its:List Value) (n:Nat),Vals xs its∧s.heap.get? p=some { cls:=.type "list",data:=.seq its.toArray n }∧xs.length≤sizeLine:=by
 obtain ⟨z,its,n,r,e⟩:=I.hok p _ h
 exact ⟨its,n,r,e,z⟩
theorem Inv.aUx {pins:List (Addr × Obj)} {σ:St} {H:Hp} {s:Shared} {p:Addr} {xs ys:List V} {its its':List Value} {n n':Nat} {f:Obj→Obj} (I:Inv X pins σ H s) (h:H p=some (.lst xs))
  (ho:s.heap.get? p=some { cls:=.type "list",data:=.seq its.toArray n }) (hf:f { cls:=.type "list",data:=.seq its.toArray n }={ cls:=.type "list",data:=.seq its'.toArray n' }) (r:Vals ys its') (hz:ys.length≤sizeLine) (t:Nat) :
  Inv X pins σ (upd H p (.lst ys)) { s with heap:=s.heap.update p f,toks:=t }:=by
 have e:(s.heap.update p f).get? p=some { cls:=.type "list",data:=.seq its'.toArray n' }:=by
  rw [Heap.get?_update_self f ho (by rw [hf] <;> rfl),hf]
 refine I.write (x:=p) (e:=p) (by rw [h];trivial) (.inl rfl) (fun b u hb q=>(Heap.get?_update_other _ _ (Ne.symm hb)).trans q) ⟨_,e⟩ ?_
 exact ⟨hz,its',n',r,e⟩
def aV4:V→V→V→Hp→(Hp→Prop)→Prop:=fun o i v H Q=>∃p xs k j,o=.ref p∧i=.int k∧H p=some (.lst xs)∧ixN xs.length k=some j∧Q (upd H p (.lst (xs.set j v)))
theorem set_list:aU7 X aV4:=by
 intro pins s σ H o i v ov iv u Q I ro ri rv h
 obtain ⟨p,xs,k,j,rfl,rfl,hp,hj,q⟩:=h
 cases ro
 obtain ⟨t,rfl⟩:=ri
 obtain ⟨its,n,r,ho,hz⟩:=I.lst hp
 obtain ⟨h1,h2,h3,h4⟩:=aJp hj
 have hl:=r.length
 have hn:=yH
 have I':Inv X pins σ (upd H p (.lst (xs.set j v))) { s with heap:=s.heap.update p (Obj.mapSeq (·.setIfInBounds j u)) }:=
  I.aUx hp ho (aHf its n j u) (r.set rv j) (by rw [List.length_set];exact hz) s.toks
 by_cases h0:0≤k
 ·have hk:k.toNat=j:=by
   rw [seqIndex_of h0 h4] at h1
   exact Option.some.inj h1
  exact PySem.W.ki_setAt ho h0 (by lia) (by rw [List.size_toArray,←hl];exact h4) (by rw [hk];exact ⟨_,I',q⟩)
 ·have hk:(k+(its.toArray.size:Int)).toNat=j:=by
   rw [seqIndex_neg (by lia) h3] at h1
   rw [List.size_toArray,←hl]
   exact Option.some.inj h1
  exact PySem.W.ki_setBack ho (by lia) (by rw [List.size_toArray,←hl];exact h3) (by lia) (by rw [hk];exact ⟨_,I',q⟩)
theorem aCx (lo hi:Option Int) (n:Nat):(sliceBounds lo hi none n).1=((HT.sIx n 0 lo:Nat):Int)∧(sliceBounds lo hi none n).2.1=((HT.sIx n n hi:Nat):Int)∧(sliceBounds lo hi none n).2.2=1:=by
 refine ⟨?_,?_,rfl⟩
 ·cases lo with
  |none=>simp [sliceBounds,HT.sIx]
  |some i=>
   simp only [sliceBounds,HT.sIx,Option.getD_none,show (1:Int) > 0 by decide,if_true]
   by_cases h:i<0
   ·simp only [h,if_true] <;> lia
   ·simp only [h,if_false] <;> lia
 ·cases hi with
  |none=>simp [sliceBounds,HT.sIx]
  |some i=>
   simp only [sliceBounds,HT.sIx,Option.getD_none,show (1:Int) > 0 by decide,if_true]
   by_cases h:i<0
   ·simp only [h,if_true] <;> lia
   ·simp only [h,if_false] <;> lia
theorem aAp (its:List Value) (lo hi:Option Int):slicePick its.toArray lo hi none=((its.drop (HT.sIx its.length 0 lo)).take (HT.sIx its.length its.length hi - HT.sIx its.length 0 lo)).toArray:=by
 obtain ⟨h1,h2,h3⟩:=aCx lo hi its.toArray.size
 unfold slicePick
 rw [h1,h2,h3]
 simp only [sliceRange_one,pick_run,List.size_toArray] <;> rfl
def aXk (K:PySem.W.Frag):V→Option Int→Option Int→Hp→VK→Prop:=fun x lo hi H Q=>∃a xs,x=.ref a∧SqL K H a xs∧∀p,H p=none→Q (.ref p) (upd H p (.lst (uB xs lo hi)))
theorem aRf:SlR X (aXk X.K):=by
 intro pins s σ H x v vl vu lo hi sl Q I rx hs pl pu h
 obtain ⟨a,xs,rfl,hx,q⟩:=h
 cases rx
 obtain ⟨its,r,ht,hz⟩:=I.list hx
 have hlen:=r.length
 refine ⟨"list",_,slot_list_getitem.lookup,ht.isList.typeIs,?_⟩
 refine wpAny_getItem_list_slice ht.isList hs pl pu .none (by simp) ?_ (by rw [List.size_toArray] <;> lia)
 rw [aAp,←hlen]
 refine ⟨.ref s.heap.objs.size,_,I.laid (t':=s.toks) (o:=.lst (uB xs lo hi)) (fun b ob q=>Heap.get?_push_of_some _ q) (Nat.le_refl _) ?_,rfl,q _ (I.hok.fresh (Nat.le_refl _))⟩
 exact ⟨Nat.le_trans (vY xs lo hi) hz,_,0,(r.drop (HT.sIx xs.length 0 lo)).take (HT.sIx xs.length xs.length hi - HT.sIx xs.length 0 lo),Heap.get?_push_size _ rfl⟩
def jR:V→Bool
 |.non=>true
 |.bl _=>true
 |.int _=>true
 |.str _=>true
 |_=>false
def eqV:V→V→Bool
 |.non,.non=>true
 |.bl a,.bl b=>a == b
 |.bl a,.int b=>(if a then 1 else 0) == b
 |.int a,.bl b=>a == (if b then 1 else 0)
 |.int a,.int b=>a == b
 |.str a,.str b=>a == b
 |_,_=>false
theorem aU5 {A:Around} {s:Shared} {y x:V} {u v:Value} (ry:RelV y u) (rx:RelV x v) (fy:jR y=true) (fx:jR x=true):SeqAt.EqAt A s u v (eqV y x):=by
 cases y with
 |non=>
  cases ry
  cases x with
  |non=>cases rx;exact SeqAt.EqAt.same _
  |bl b=>cases rx;exact SeqAt.EqAt.none_bool b
  |int b=>obtain ⟨t,rfl⟩:=rx;exact SeqAt.EqAt.none_int b t
  |str b=>obtain ⟨t,rfl⟩:=rx;exact SeqAt.EqAt.none_str b t
  |_=>exact absurd (show false=true from fx) Bool.false_ne_true
 |bl a=>
  cases ry
  cases x with
  |non=>cases rx;exact SeqAt.EqAt.bool_none a
  |bl b=>cases rx;exact SeqAt.EqAt.bool_bool a b
  |int b=>obtain ⟨t,rfl⟩:=rx;exact SeqAt.EqAt.bool_int a b t
  |str b=>obtain ⟨t,rfl⟩:=rx;exact SeqAt.EqAt.bool_str a b t
  |_=>exact absurd (show false=true from fx) Bool.false_ne_true
 |int a=>
  obtain ⟨t',rfl⟩:=ry
  cases x with
  |non=>cases rx;exact SeqAt.EqAt.int_none a t'
  |bl b=>cases rx;exact SeqAt.EqAt.int_bool a t' b
  |int b=>obtain ⟨t,rfl⟩:=rx;exact SeqAt.EqAt.int_int a t' b t
  |str b=>obtain ⟨t,rfl⟩:=rx;exact SeqAt.EqAt.int_str a t' b t
  |_=>exact absurd (show false=true from fx) Bool.false_ne_true
 |str a=>
  obtain ⟨t',rfl⟩:=ry
  cases x with
  |non=>cases rx;exact SeqAt.EqAt.str_none a t'
  |bl b=>cases rx;exact SeqAt.EqAt.str_bool a t' b
  |int b=>obtain ⟨t,rfl⟩:=rx;exact SeqAt.EqAt.str_int a t' b t
  |str b=>obtain ⟨t,rfl⟩:=rx;exact SeqAt.EqAt.str_str a t' b t
  |_=>exact absurd (show false=true from fx) Bool.false_ne_true
 |_=>exact absurd (show false=true from fy) Bool.false_ne_true
def eqU (x:V) (u:Value):Bool:=match u with
 |.none=>eqV .non x
 |.bool b=>eqV (.bl b) x
 |.int i _=>eqV (.int i) x
 |.str z _=>eqV (.str z) x
 |_=>false
theorem aPt {x y:V} {u:Value} (r:RelV y u) (f:jR y=true):eqU x u=eqV y x:=by
 cases y with
 |non=>cases r;rfl
 |bl b=>cases r;rfl
 |int i=>obtain ⟨t,rfl⟩:=r;rfl
 |str z=>obtain ⟨t,rfl⟩:=r;rfl
 |_=>exact absurd (show false=true from f) Bool.false_ne_true
theorem sU {x:V}:∀{xs:List V} {us:List Value},Vals xs us→xs.all jR=true→us.any (eqU x)=xs.any fun y=>eqV y x
 |_,_,.nil,_=>rfl
 |y::xs,u::us,.cons r t,f=>by
  rw [List.all_cons,Bool.and_eq_true] at f
  rw [List.any_cons,List.any_cons,aPt r f.1,sU t f.2]
theorem pJ {A:Around} {s:Shared} {x:V} {v:Value} (rx:RelV x v) (fx:jR x=true):∀{xs:List V} {us:List Value},Vals xs us→xs.all jR=true→∀u∈us,SeqAt.EqAt A s u v (eqU x u)
 |_,_,.nil,_=>fun u hu=>by cases hu
 |y::xs,u::us,.cons r t,f=>fun u' hu=>by
  rw [List.all_cons,Bool.and_eq_true] at f
  rcases List.mem_cons.mp hu with rfl|hu
  ·rw [aPt r f.1];exact aU5 r rx f.1 fx
  ·exact pJ rx fx t f.2 u' hu
def inV (x:V) (xs:List V):Bool:=xs.any fun y=>eqV y x
def rIn (K:PySem.W.Frag) (neg:Bool):R2:=fun x y H Q=>∃p xs,y=.ref p∧(SqL K H p xs∨SqT K H p xs)∧jR x=true∧xs.all jR=true∧Q (.bl (if neg then !inV x xs else inV x xs)) H
theorem uZ:OpR X (compareOp .In) (rIn X.K false):=by
 intro pins s σ H x y v u Q I rx ry h
 obtain ⟨p,xs,rfl,hq,fx,fs,q⟩:=h
 cases ry
 rcases hq with hq|hq
 ·obtain ⟨its,r,pl,hz⟩:=I.list hq
  refine SeqAt.in_listAt (eqU x) pl.isList (fun w hw=>pJ rx fx r fs w (by simpa using hw)) ⟨.bl _,H,I,rfl,?_⟩
  rw [show its.toArray.any (eqU x)=its.any (eqU x) by simp,sU r fs]
  exact q
 ·obtain ⟨its,r,pl,hz⟩:=I.tuple hq
  refine SeqAt.in_tupleAt (eqU x) pl (fun w hw=>pJ rx fx r fs w (by simpa using hw)) ⟨.bl _,H,I,rfl,?_⟩
  rw [show its.toArray.any (eqU x)=its.any (eqU x) by simp,sU r fs]
  exact q
theorem aEa:OpR X (compareOp .NotIn) (rIn X.K true):=by
 intro pins s σ H x y v u Q I rx ry h
 obtain ⟨p,xs,rfl,hq,fx,fs,q⟩:=h
 cases ry
 rcases hq with hq|hq
 ·obtain ⟨its,r,pl,hz⟩:=I.list hq
  refine SeqAt.notIn_listAt (eqU x) pl.isList (fun w hw=>pJ rx fx r fs w (by simpa using hw)) ⟨.bl _,H,I,rfl,?_⟩
  rw [show its.toArray.any (eqU x)=its.any (eqU x) by simp,sU r fs]
  exact q
 ·obtain ⟨its,r,pl,hz⟩:=I.tuple hq
  refine SeqAt.notIn_tupleAt (eqU x) pl (fun w hw=>pJ rx fx r fs w (by simpa using hw)) ⟨.bl _,H,I,rfl,?_⟩
  rw [show its.toArray.any (eqU x)=its.any (eqU x) by simp,sU r fs]
  exact q
theorem bH:bW X (.builtin "len") (fun xs H Q=>∃p ys,xs=[.ref p]∧(SqL X.K H p ys∨SqT X.K H p ys)∧Q (.int ys.length) H):=by
 intro pins s σ H xs us Q I r h
 obtain ⟨p,ys,rfl,hq,q⟩:=h
 obtain ⟨u,rfl,rx⟩:=vals1 r
 cases rx
 have hn:=yH
 rcases hq with hq|hq
 ·obtain ⟨its,r',pl,hz⟩:=I.list hq
  have hlen:=r'.length
  exact Calls.call_len_list pl.isList (by simp only [List.size_toArray] <;> lia) ⟨.int ys.length,H,I.tok _,⟨s.toks+1,by rw [List.size_toArray,hlen]⟩,q⟩
 ·obtain ⟨its,r',pl,hz⟩:=I.tuple hq
  have hlen:=r'.length
  exact len_tuple pl (by simp only [List.size_toArray] <;> lia) ⟨.int ys.length,H,I.tok _,⟨s.toks+1,by rw [List.size_toArray,hlen]⟩,q⟩
theorem uA:bW X (.builtin "len") (fun xs H Q=>∃z,xs=[.str z]∧z.length≤sizeLine∧Q (.int z.length) H):=by
 intro pins s σ H xs us Q I r h
 obtain ⟨z,rfl,hz,q⟩:=h
 obtain ⟨u,rfl,t,rfl⟩:=vals1 r
 have hn:=yH
 exact len_str (by lia) ⟨.int z.length,H,I.tok _,⟨_,rfl⟩,q⟩
theorem bW.or {f:Value} {r r':List V→Hp→VK→Prop} (h:bW X f r) (h':bW X f r'):bW X f (fun xs H Q=>r xs H Q∨r' xs H Q):=by
 intro pins s σ H xs us Q I rs q
 rcases q with q|q
 ·exact h pins s σ H xs us Q I rs q
 ·exact h' pins s σ H xs us Q I rs q
theorem aDt:bW X (.type "list") (fun xs H Q=>∃p ys,xs=[.ref p]∧(SqL X.K H p ys∨SqT X.K H p ys)∧∀l,H l=none→Q (.ref l) (upd H l (.lst ys))):=by
 intro pins s σ H xs us Q I r h
 obtain ⟨p,ys,rfl,hq,q⟩:=h
 obtain ⟨u,rfl,rx⟩:=vals1 r
 cases rx
 have fin:∀(its:List Value),Vals ys its→ys.length≤sizeLine→∀(h':Heap) (c':Nat),(∀b o',s.heap.get? b=some o'→h'.get? b=some o') →
   h'.get? s.heap.objs.size=some { cls:=.type "list",dict:=none,data:=.seq its.toArray c',slots:=#[] }→EP X pins σ Q (.ref s.heap.objs.size) { s with heap:=h' }:=fun its r' hz h' c' kp e=>
  ⟨.ref s.heap.objs.size,_,I.laid (t':=s.toks) kp (Nat.le_refl _) (show cT X.prog X.w _ h' _ (.lst ys) from ⟨hz,its,c',r',e⟩),rfl,q _ (I.hok.fresh (Nat.le_refl _))⟩
 rcases hq with hq|hq
 ·obtain ⟨its,r',pl,hz⟩:=I.list hq
  have hlen:=r'.length
  obtain ⟨o,ho,hc,n,hd⟩:=pl.isList
  exact call_list_seq p (.inl rfl) ho hc hd (fun h' c' kp e=>fin its r' hz h' c' kp e) (by simp only [List.size_toArray] <;> lia)
 ·obtain ⟨its,r',pl,hz⟩:=I.tuple hq
  have hlen:=r'.length
  obtain ⟨o,ho,hc,n,hd⟩:=pl
  exact call_list_seq p (.inr rfl) ho hc hd (fun h' c' kp e=>fin its r' hz h' c' kp e) (by simp only [List.size_toArray] <;> lia)
theorem aA9:bW X (.type "tuple") (fun xs H Q=>∃p ys,xs=[.ref p]∧((SqL X.K H p ys∧∀l,H l=none→Q (.ref l) (upd H l (.tup ys)))∨(SqT X.K H p ys∧Q (.ref p) H))):=by
 intro pins s σ H xs us Q I r h
 obtain ⟨p,ys,rfl,h⟩:=h
 obtain ⟨u,rfl,rx⟩:=vals1 r
 cases rx
 rcases h with ⟨hq,q⟩|⟨hq,q⟩
 ·obtain ⟨its,r',pl,hz⟩:=I.list hq
  have hlen:=r'.length
  refine call_tuple_list pl.isList (fun h' kp=>?_) (by simp only [List.size_toArray] <;> lia)
  have I1:Inv X pins σ H { s with heap:=h' }:=I.kept (t':=s.toks) kp
  have I2:Inv X pins σ (upd H h'.objs.size (.tup ys)) { s with heap:=h'.push { cls:=.type "tuple",data:=.seq its.toArray } }:=
   I1.laid (t':=s.toks) (fun b o e=>Heap.get?_push_of_some _ e) (Nat.le_refl _) (show cT X.prog X.w _ _ _ (.tup ys) from ⟨hz,its,r',xF.new _ _⟩)
  exact ⟨.ref h'.objs.size,_,I2,rfl,q _ (I1.hok.fresh (Nat.le_refl _))⟩
 ·obtain ⟨its,r',pl,hz⟩:=I.tuple hq
  exact call_tuple_same pl ⟨.ref p,H,I,rfl,q⟩
def tyV (K:PySem.W.Frag) (T:String) (x:V) (H:Hp):Prop:=match x with
 |.str _=>T = "str"
 |.int _=>T = "int"
 |.ref p=>(T = "list"∧∃xs,SqL K H p xs)∨(T = "tuple"∧∃o,K.lookup p=some o∧o.cls=.type "tuple"∧o.dict=none) ∨
   (T = "dict"∧((∃kvs,H p=some (.dK kvs))∨∃kvs,H p=some (.dT kvs)))∨(T = "set"∧∃S n,H p=some (.set S n))
 |_=>False
theorem aHt {pins:List (Addr × Obj)} {σ:St} {H:Hp} {s:Shared} {T:String} {x:V} {v:Value} (I:Inv X pins σ H s) (r:RelV x v) (ty:tyV X.K T x H) :
  s.TypeIs v T∧∀a,v=.ref a→∃ob,s.heap.get? a=some ob∧ob.dict=none:=by
 cases x with
 |str z=>
  obtain ⟨t,rfl⟩:=r
  cases (show T = "str" from ty)
  exact ⟨typeIs_str s z t,fun _ e=>nomatch e⟩
 |int i=>
  obtain ⟨t,rfl⟩:=r
  cases (show T = "int" from ty)
  exact ⟨typeIs_int s i t,fun _ e=>nomatch e⟩
 |ref p=>
  cases r
  rcases ty with ⟨rfl,xs,hq⟩|⟨rfl,o,hk,hc,hd⟩|⟨rfl,hk⟩|⟨rfl,S,n,hk⟩
  ·obtain ⟨its,_,pl,_⟩:=I.list hq
   refine ⟨pl.isList.typeIs,fun a e=>?_⟩
   cases e
   obtain ⟨o,n,e,c,hd,_⟩:=pl
   exact ⟨o,e,hd⟩
  ·refine ⟨⟨o,I.kIn p o hk,hc⟩,fun a e=>?_⟩
   cases e
   exact ⟨o,I.kIn _ o hk,hd⟩
  ·have z:∃o,s.heap.get? p=some o∧o.ExactDict:=by
    rcases hk with ⟨kvs,hk⟩|⟨kvs,hk⟩
    ·obtain ⟨_,_,_,_,o,_,_,e,ex,_⟩:=I.hok p _ hk
     exact ⟨o,e,ex⟩
    ·obtain ⟨_,_,_,_,o,_,_,e,ex,_⟩:=I.hok p _ hk
     exact ⟨o,e,ex⟩
   obtain ⟨o,e,ex⟩:=z
   refine ⟨⟨o,e,ex.1⟩,fun a e2=>?_⟩
   cases e2
   exact ⟨o,e,ex.2.1⟩
  ·obtain ⟨o,_,_,_,e,ex,_⟩:=I.hok p _ hk
   refine ⟨⟨o,e,ex.1⟩,fun a e2=>?_⟩
   cases e2
   exact ⟨o,e,ex.2.1⟩
 |_=>exact False.elim ty
def aVq (K:PySem.W.Frag) (T:String) (r:V→List V→Hp→VK→Prop) (to:TE):TE:=fun σ H Q=>to σ H fun x H1=>tyV K T x H1∧r x [] H1 Q
def tBM (K:PySem.W.Frag) (T:String) (r:V→List V→Hp→VK→Prop) (to:TE) (t:TA):TE:=fun σ H Q=>to σ H fun x H1=>tyV K T x H1∧t σ H1 fun xs H2=>r x xs H2 Q
variable {o e:Expr} {es:List Expr} {to:TE} {t:TA} {name:Str} {apos cpos:Pos} {T id:String} {r:V→List V→Hp→VK→Prop}
theorem aUz (pa:PlainAttrs T) (slot:Slot T name id) (hty:typeOf (.builtin id)=pure (.type "method_descriptor")) (hm:MtR X id r) (ho:PE X o to)
  (hbase:attributeBase o name X.env (eval o X.env)=eval o X.env:=by rfl) (hline:(apos.endLine == cpos.line)=true:=by rfl):PE X (.Call (.Attribute o name apos) [] [] cpos) (aVq X.K T r to):=by
 intro pins s σ H Q I h
 refine wpAny_Call_method0_late hbase hline (thn (ho pins s σ H _ I h) fun v s1 ⟨x,H1,I1,r1,ty,q1⟩=>?_)
 obtain ⟨h1,h2⟩:=aHt I1 r1 ty
 exact ⟨T,id,pa,slot,hty,h1,h2,Calls.callWith_builtin rfl (PySem.evalArgs_none (hm pins s1 σ H1 x [] v [] Q I1 r1 .nil q1))⟩
theorem aV6 (pa:PlainAttrs T) (slot:Slot T name id) (hty:typeOf (.builtin id)=pure (.type "method_descriptor")) (hm:MtR X id r) (ho:PE X o to) (ha:PA X (e::es) t)
  (hbase:attributeBase o name X.env (eval o X.env)=eval o X.env:=by rfl)
  (hfew:((backTo cpos (starEach (e::es) X.env)).all (fun x=>!x.1) && (backToKw cpos (keywordEach [] X.env)).all (fun x=>x.1.isSome)
   && decide ((e::es).length+([]:List Keyword).length+(if ([]:List Keyword).isEmpty then 0 else 1)<30))=true:=by rfl)
  (hline:(apos.endLine == cpos.line)=true:=by rfl) (hs:starEach (e::es) X.env=(false,eval e X.env)::starEach es X.env:=by rfl) (hplain:(backTo cpos (starEach es X.env)).any (·.1)=false:=by rfl) :
  PE X (.Call (.Attribute o name apos) (e::es) [] cpos) (tBM X.K T r to t):=by
 intro pins s σ H Q I h
 refine wpAny_Call_method_late hbase hfew hline rfl (thn (ho pins s σ H _ I h) fun v s1 ⟨x,H1,I1,r1,ty,q1⟩=>?_)
 obtain ⟨h1,h2⟩:=aHt I1 r1 ty
 refine ⟨T,id,pa,slot,hty,h1,h2,?_⟩
 have hA:=ha cpos pins s1 σ H1 _ I1 q1
 rw [hs] at hA ⊢
 refine Calls.callWith_builtin (by show (false || (backTo cpos (starEach es X.env)).any (·.1))=false;rw [hplain] <;> rfl) (Calls.evalArgs_plain ?_)
 exact thn hA fun us s2 ⟨vs,H2,I2,r2,q2⟩=>hm pins s2 σ H2 x vs v us Q I2 r1 r2 q2
end
def MtM (X:Cx) (id:String) (r:V→List V→Hp→VK→Prop):Prop:=
 ∀(pins:List (Addr × Obj)) (s:Shared) (σ:St) (H:Hp) (x:V) (xs:List V) (v:Value) (us:List Value) (Q:VK),Inv X pins σ H s→RelV x v→Vals xs us→r x xs H Q →
  wpAny (model X.prog X.w) X.A (call (.builtin id) (v::us)) (EP X pins σ Q) X.xe s
theorem Vals.one:∀{x:V} {us:List Value},Vals [x] us→∃u,us=[u]∧RelV x u
 |_,_,.cons r .nil=>⟨_,rfl,r⟩
theorem Vals.two:∀{x y:V} {us:List Value},Vals [x,y] us→∃u v,us=[u,v]∧RelV x u∧RelV y v
 |_,_,_,.cons r (.cons q .nil)=>⟨_,_,rfl,r,q⟩
theorem Vals.zero:∀{us:List Value},Vals [] us→us=[]
 |_,.nil=>rfl
theorem Vals.reverse {xs:List V} {us:List Value} (h:Vals xs us):Vals xs.reverse us.reverse:=by
 induction h with
 |nil=>exact .nil
 |cons r t ih=>rw [List.reverse_cons,List.reverse_cons];exact Vals.append ih (.cons r .nil)
section
variable {X:Cx} {pins:List (Addr × Obj)} {σ:St} {H:Hp} {s:Shared} {l b:Addr} {xs ys zs:List V}
theorem Inv.lset {its its':List Value} {n:Nat} {f:Array Value→Array Value} {t':Nat} (I:Inv X pins σ H s) (hH:H l=some (.lst xs))
  (e:s.heap.get? l=some { cls:=.type "list",data:=.seq its.toArray n }) (hf:f its.toArray=its'.toArray) (hv:Vals ys its') (hz:ys.length≤sizeLine) :
  Inv X pins σ (upd H l (.lst ys)) { s with heap:=s.heap.update l (Obj.mapSeq f),toks:=t' }:=by
 have q:=PySem.IsL.update e f
 rw [hf] at q
 refine I.write (x:=l) (e:=l) (by rw [hH];exact trivial) (.inl rfl) (fun b' u hb hu=>(Heap.get?_update_other s.heap (Obj.mapSeq f) (Ne.symm hb)).trans hu) ⟨_,q⟩ ?_
 exact ⟨hz,its',_,hv,q⟩
theorem Inv.lnew {its:List Value} {t':Nat} (I:Inv X pins σ H s) (hv:Vals ys its) (hz:ys.length≤sizeLine) :
  Inv X pins σ (upd H s.heap.objs.size (.lst ys)) { s with heap:=s.heap.push { cls:=.type "list",data:=.seq its.toArray },toks:=t' }:=
 I.laid (fun _ _ q=>Heap.get?_push_of_some _ q) (Nat.le_refl _) ⟨hz,its,0,hv,Heap.get?_push_size _ rfl⟩
theorem Inv.fresh (I:Inv X pins σ H s):H s.heap.objs.size=none:=I.hok.fresh (Nat.le_refl _)
theorem Inv.aP4 (I:Inv X pins σ H s) (hH:H l=some (.lst xs)):xs.length≤sizeLine∧∃(its:List Value) (n:Nat),Vals xs its∧xs.length=its.length∧s.heap.get? l=some { cls:=.type "list",data:=.seq its.toArray n }:=by
 obtain ⟨z,its,n,r,e⟩:=I.hok l _ hH
 exact ⟨z,its,n,r,r.length,e⟩
end
section
variable {X:Cx}
def aKi:V→List V→Hp→VK→Prop:=fun x vs H Q=>∃l xs y,x=.ref l∧vs=[y]∧H l=some (.lst xs)∧xs.length<sizeLine∧Q .non (upd H l (.lst (xs++[y])))
theorem vC:MtM X "list.append" aKi:=by
 intro pins s σ H x vs v us Q I rx rv h
 obtain ⟨l,xs,y,rfl,rfl,hH,hz,q⟩:=h
 cases rx
 obtain ⟨u,rfl,ru⟩:=rv.one
 obtain ⟨z,its,n,r,hl,e⟩:=I.aP4 hH
 refine call_meets F.slot_list_append ⟨_,e,rfl⟩ F.entry_list_append (F.args_list_append_2 _ _) (PySem.list_append l its.toArray n u (by rw [List.size_toArray];lia)) ⟨e,?_⟩
 refine ⟨.non,_,I.lset (its':=its++[u]) hH e (by simp) (r.append (.cons ru .nil)) ?_,rfl,q⟩
 rw [List.length_append,List.length_singleton]
 lia
def aFa:V→List V→Hp→VK→Prop:=fun x vs H Q=>∃l xs,x=.ref l∧vs=[]∧H l=some (.lst xs)∧Q .non (upd H l (.lst xs.reverse))
theorem aG8:MtM X "list.reverse" aFa:=by
 intro pins s σ H x vs v us Q I rx rv h
 obtain ⟨l,xs,rfl,rfl,hH,q⟩:=h
 cases rx
 have hus:=rv.zero
 subst hus
 obtain ⟨z,its,n,r,hl,e⟩:=I.aP4 hH
 refine call_meets F.slot_list_reverse ⟨_,e,rfl⟩ F.entry_list_reverse (F.args_list_reverse_1 _) (AutoSeq1.list_reverse_list_0 l its.toArray n (by rw [List.size_toArray];lia)) ⟨e,?_⟩
 refine ⟨.non,_,I.lset (its':=its.reverse) hH e (by simp) r.reverse ?_,rfl,q⟩
 rw [List.length_reverse]
 lia
def aPe:V→List V→Hp→VK→Prop:=fun x vs H Q=>∃l xs,x=.ref l∧vs=[]∧H l=some (.lst xs)∧Q .non (upd H l (.lst []))
theorem aP6:MtM X "list.clear" aPe:=by
 intro pins s σ H x vs v us Q I rx rv h
 obtain ⟨l,xs,rfl,rfl,hH,q⟩:=h
 cases rx
 have hus:=rv.zero
 subst hus
 obtain ⟨z,its,n,r,hl,e⟩:=I.aP4 hH
 refine call_meets F.slot_list_clear ⟨_,e,rfl⟩ F.entry_list_clear (F.args_list_clear_1 _) (AutoSeq1.list_clear_list_0 l its.toArray n (by rw [List.size_toArray];lia)) ⟨e,?_⟩
 exact ⟨.non,_,I.lset (its':=[]) (ys:=[]) hH e rfl .nil (Nat.zero_le _),rfl,q⟩
def aW9:R2:=fun x y H Q=>∃l b xs zs,x=.ref l∧y=.ref b∧H l=some (.lst xs)∧H b=some (.lst zs)∧xs.length+zs.length≤sizeLine∧∀p,H p=none→Q (.ref p) (upd H p (.lst (xs++zs)))
theorem aU8:OpR X (binaryOp .Add) aW9:=by
 intro pins s σ H x y v u Q I rx ry h
 obtain ⟨l,b,xs,zs,rfl,rfl,hH,hB,hz,q⟩:=h
 cases rx
 cases ry
 obtain ⟨z,its,n,r,hl,e⟩:=I.aP4 hH
 obtain ⟨z2,its2,n2,r2,hl2,e2⟩:=I.aP4 hB
 refine PySem.P.add_list e e2 ?_ (by rw [List.size_toArray,List.size_toArray];lia)
 have ea:its.toArray++its2.toArray=(its++its2).toArray:=by simp
 rw [ea]
 exact ⟨.ref _,_,I.lnew (t':=s.toks) (r.append r2) (by rw [List.length_append];lia),rfl,q _ I.fresh⟩
end
section
variable {prog:Program} {w:World} {A:Around} {E:Value→Shared→Prop} {s:Shared}
end
section
variable {X:Cx}
end
end L2
namespace Att
open PySem PySem.W PySem.Calls PyProof.Rows
theorem wN {P:Params} {h:Heap}:∀(ns:List Int) (vs:List Value),WellAll P h vs (ns.map WData.int)→IntsAre vs ns:=by
 intro ns
 induction ns with
 |nil=>
  intro vs w
  rw [List.map_nil] at w
  cases w
  exact .nil
 |cons n ns ih=>
  intro vs w
  rw [List.map_cons] at w
  cases w with
  |cons a b=>
   cases a
   exact .cons _ _ (ih _ b)
theorem aMs {l:OpenLaw} {n:Nat} (hn:l.most=some n) {P:Params} {h:Heap} {args:List WData} {vals:List Value}
  (hpre:l.row.toRowW.claim.pre args=true) (hwl:WellAll P h vals args) :
  ∃a vs ns,vals=[Value.ref a]∧args=[WData.list (ns.map WData.int)]∧h.get? a=some { cls:=.type "list",data:=.seq vs.toArray }∧IntsAre vs ns∧ns.length≤n:=by
 have hsh:WShape.hasAll [] args [.list .int]=true:=(pre_splitW hpre).1
 have hc:l.pre.holds [] { args:=args }=true:=(pre_splitW hpre).2
 obtain ⟨d,r,rfl,h1,h2⟩:=hasAllW_cons hsh
 obtain rfl:=hasAllW_nil h2
 obtain ⟨xs,rfl,h3⟩:=hasW_list h1
 obtain ⟨ns,rfl⟩:=items_int h3
 have hlen:ns.length≤n:=by
  unfold OpenLaw.pre at hc
  have h4:(WTm.not (.lt (.lit (.int (n:Int))) (.len (.arg 0)))).holds [] { args:=[.list (ns.map .int)] }=true:=by
   have h4:=(holds_andW hc).1
   rw [hn] at h4
   exact h4
  have h5:=condW_of h4 (w_not (w_lt w_lit (w_len_list (w_arg rfl))))
  rw [List.length_map] at h5
  refine Nat.le_of_not_lt fun q=>?_
  have q':(n:Int)<((ns.length:Nat):Int):=by lia
  first
   |(rw [decide_eq_true q'] at h5;exact absurd h5 (by decide))
   |(simp at h5;lia)
 cases hwl with
 |cons w1 w2=>
  cases w2
  cases w1 with
  |list ho hall=>exact ⟨_,_,ns,rfl,rfl,ho,wN ns _ hall,hlen⟩
theorem aLs (l:OpenLaw) (args:List WData):l.row.toRowW.claim.post args (.bool true) args=true:=
 postW_of (r:=l.row.toRowW) (X:=(true == true))
  (show WShape.has [] (.bool true) .bool=true by first|rfl|decide|simp [WShape.has,WShape.arms,WShape.armsAll])
  (show (WTm.eq .res (.lit (.bool true))).value [] { args:=args,res:=some (.bool true),after:=args }=some (.bool (true == true)) from w_eq_bool (w_res rfl) w_lit) rfl
theorem aFg {l:OpenLaw} {n:Nat} {q:Program} {loose:List Str} {XP:(Str→Option Value)→Heap→Prop} {YP:World→Heap→Prop} {d:DefRec}
  (hn:l.most=some n) (hdf:d.params.defaults=[])
  (call:∀(w:World) (s₀ s₁:Shared) (mg mb:Str→Option Value) (fa:Addr) (o:Obj) (pm cd doc:Value) (a:Addr) (vs:List Value) (ns:List Int),
   Ground q loose [] XP w s₀ mg mb s₁.heap→YP w s₁.heap →
   s₁.heap.get? fa=some o→o.data=.func (docDef d.name d.params d.body d.scope pm cd doc)→s₁.heap.CodeRec cd d.name→mg d.name=some (.ref fa) →
   s₁.heap.get? a=some { cls:=.type "list",data:=.seq vs.toArray }→IntsAre vs ns→ns.length≤n→s₁.gens=#[] →
   codeAny (model l.prog w) callerA (.call (.ref fa) ⟨[.ref a],[]⟩) (fun r s'=>r=.ok (.ret (.bool true))∧OldK s₁.heap s'.heap∧s'.os=s₁.os∧AllBare s'.gens) s₁) :
  WalkO q loose XP YP l.row.toRowW d [] (fun f vs=>PySem.call f vs):=by
 intro w s₀ s₁ mg mb G Y fa o pm cd doc dV kV ho hd hcd hD hmg hg args vals as hpre hlay hrd hwl hlo
 obtain rfl:dV=.none:=Dflts.none hD hdf
 obtain rfl:kV=.none:=Dflts.noKw hD
 obtain ⟨a,vs,ns,rfl,rfl,hobj,hints,hlen⟩:=aMs hn hpre hwl
 refine enter_call (codeAny_mono (call w s₀ s₁ mg mb fa o pm cd doc a vs ns G Y ho (fd_plain hd) hcd hmg hobj hints hlen hg) fun r s' hq=>?_)
 obtain ⟨rfl,h2,h3,h4⟩:=hq
 exact ⟨.inl ⟨.bool true,.bool true,[],rfl,fun _=>rfl,.bool true,aLs l _,fun _=>⟨List.Pairwise.nil,fun _ hm=>(nomatch hm)⟩⟩,h2,h3,h4⟩
section
variable {prog:Program} {w:World} {A:Around} {E:Value→Shared→Prop} {s:Shared} {K:Frag}
end
end Att
namespace L2
open PySem PySem.Spec PyProof.Rows
theorem aBj:∀{vs:List Value} {ns:List Int},IntsAre vs ns→Vals (ns.map V.int) vs
 |_,_,.nil=>.nil
 |_,_,.cons n t h=>.cons ⟨t,rfl⟩ (aBj h)
abbrev KOf {K:PySem.W.Frag} {h:Heap} (_:K.In h):PySem.W.Frag:=K
def kY (s:Stmt):Arguments:=match s with
 |.FunctionDef _ a _ _ _ _ _ _ _ _=>a
 |_=>{ posonlyargs:=[],args:=[],vararg:=none,kwonlyargs:=[],kw_defaults:=[],kwarg:=none,defaults:=[] }
def dZ (s:Stmt):List Stmt:=match s with
 |.FunctionDef _ _ b _ _ _ _ _ _ _=>b
 |_=>[]
def aH (s:Stmt):Scope:=match s with
 |.FunctionDef _ _ _ _ _ _ sc _ _ _=>sc
 |_=>{ kind:=.function,names:=[],isGenerator:=false,isCoroutine:=false }
abbrev CX0:CXT:=fun _ _ _ _ _ _=>False
abbrev E0:XK:=fun _ _ _=>False
theorem aBl {X:Cx}:pG CX0 X E0:=fun _ _ _ _ _ _ _ h=>h.elim
structure Fun (K:PySem.W.Frag) (x qual:Str) (st:Stmt) (f:Addr) (fd:FuncData):Prop where
 ex:∃(oc:Value) (od:Option Addr) (kV doc pm:Value) (an:Option Addr) (cdv ct:Value) (osl:Array (Option Value)),
  fd=PySem.W.fnOf x qual (kY st) (dZ st) (aH st) .none kV doc pm an cdv ct∧K.lookup f=some ⟨oc,od,.func fd,osl⟩∧PySem.W.codeIn K cdv qual=true
 kp:PySem.W.keepIn K (.ref f)=true
section
variable {P:Program} {w:World} {K:PySem.W.Frag} {mg:Str→Option Value} {base:Heap}
theorem Fun.ok {x qual:Str} {st:Stmt} {f:Addr} {fd:FuncData} {N ps:List Str} {k:Nat} {sp:Sp} (F:Fun K x qual st f fd) (S:aO N ps (aH st)) (len:∀vs H Q E,sp vs H Q E→vs.length=ps.length)
  (hbody:∀(cdv:Value) (A:Around) (outer:List Env) (s:Shared) (H:Hp) (vs:List V) (Q:VK) (E:XK),Room k (A.deeper (envOfC qual (aH st) s.heap.objs.size f cdv))→sp vs H Q E →
   ∃t,PSs (xQ CX0 P w K mg base N qual (aH st) f cdv A outer s H E).nox (dZ st) t∧t { nx:=fun _ H'=>Q .non H',rt:=Q } (start N vs) H):jD P w K mg base CX0 (k+1) f fd ps sp:=by
 obtain ⟨oc,od,kV,doc,pm,an,cdv,ct,osl,rfl,lk,hcd⟩:=F.ex
 refine aS7 lk hcd S len fun A outer s H vs Q E hr hsp=>?_
 obtain ⟨t,h,q⟩:=hbody cdv A outer s H vs Q E hr hsp
 exact ⟨t,h.nox,q⟩
theorem Fun.binds {x qual:Str} {st:Stmt} {f:Addr} {fd:FuncData} {ps:List Str} (F:Fun K x qual st f fd)
  (h:∀(kV doc pm:Value) (an:Option Addr) (cdv ct:Value) (us:List Value),us.length=ps.length→bindArgs (PySem.W.fnOf x qual (kY st) (dZ st) (aH st) .none kV doc pm an cdv ct) ⟨us,[]⟩=pure (ps.zip us)):Binds K fd ps []:=by
 obtain ⟨oc,od,kV,doc,pm,an,cdv,ct,osl,rfl,lk,hcd⟩:=F.ex
 exact .all (h kV doc pm an cdv ct)
theorem aD9 {x qual:Str} {st:Stmt} {f:Addr} {oc:Value} {od an:Option Addr} {osl:Array (Option Value)} {kV doc pm cdv ct:Value} (l:K.lookup f=some ⟨oc,od,.func (PySem.W.fnOf x qual (kY st) (dZ st) (aH st) .none kV doc pm an cdv ct),osl⟩)
  (c:PySem.W.codeIn K cdv qual=true) (k:PySem.W.keepIn K (.ref f)=true):Fun K x qual st f (PySem.W.fnOf x qual (kY st) (dZ st) (aH st) .none kV doc pm an cdv ct):=⟨⟨oc,od,kV,doc,pm,an,cdv,ct,osl,rfl,l,c⟩,k⟩
end
theorem aFj {A:Around} {k:Nat} (hr:Room k A):A.units+1<cLine:=Nat.lt_of_le_of_lt (Nat.add_le_add_left (by decide:1≤64) _) hr.units
theorem dX {n:Nat} (h:n≤1000):n<sizeLine:=Nat.lt_of_le_of_lt h (by decide)
section
variable {X:Cx}
theorem pv (i:Nat) {x:Str} {pos:Pos} (hN:X.N[i]?=some x:=by rfl) (hv:Vis X.env.scope x:=by trivial) (hd:(x == ("__debug__":Str))=false:=by decide)
  (hcd:(x == ("__classdict__":Str))=false:=by decide):PE X (.Name x pos) (aMl i):=aUk hN hv hd hcd
end
theorem cB {A B:Prop} (h:B):if false=true then A else B:=by
 rw [if_neg Bool.false_ne_true]
 exact h
theorem dW {A B:Prop} (h:A):if true=true then A else B:=by
 rw [if_pos rfl]
 exact h
theorem aEe {c A B:Prop} [Decidable c] (h1:c→A) (h2:¬ c→B):if c then A else B:=by
 by_cases h:c
 ·rw [if_pos h]
  exact h1 h
 ·rw [if_neg h]
  exact h2 h
def Same (H H':Hp):Prop:=∀b o,H b=some o→H' b=some o
theorem Same.refl (H:Hp):Same H H:=fun _ _ h=>h
theorem Same.trans {H H1 H2:Hp} (a:Same H H1) (b:Same H1 H2):Same H H2:=fun c o h=>b c o (a c o h)
theorem Same.free {H H':Hp} (e:Same H H') {l:Addr} (h:H' l=Option.none):H l=Option.none:=by
 cases q:H l with
 |none=>rfl
 |some o=>
  rw [e l o q] at h
  cases h
theorem Same.seq {K:PySem.W.Frag} {H H':Hp} {a:Addr} {xs:List V} (e:Same H H') (h:SqL K H a xs):SqL K H' a xs:=by
 rcases h with (h|⟨o,h⟩)|h
 ·exact .inl (.inl (e _ _ h))
 ·exact .inl (.inr ⟨o,e _ _ h⟩)
 ·exact .inr h
end L2
namespace PySem
namespace RvF
end RvF
section
variable {prog:Program} {w:World} {A:Around} {E:Value→Shared→Prop} {s:Shared}
end
end PySem
namespace L2
open PySem PySem.Spec PyProof.Rows
theorem aIx:bootBuiltins "int"=some (.type "int"):=by decide +kernel
theorem aRd:bootBuiltins "bool"=some (.type "bool"):=by decide +kernel
theorem aOy:bootBuiltins "str"=some (.type "str"):=by decide +kernel
theorem nQ:bootBuiltins "list"=some (.type "list"):=by decide +kernel
theorem eX:bootBuiltins "tuple"=some (.type "tuple"):=by decide +kernel
theorem wX:bootBuiltins "dict"=some (.type "dict"):=by decide +kernel
theorem aN8:bootBuiltins "set"=some (.type "set"):=by decide +kernel
theorem aF3:bootBuiltins "reversed"=some (.type "reversed"):=by decide +kernel
theorem aM5:bootBuiltins "zip"=some (.type "zip"):=by decide +kernel
theorem aC3:bootBuiltins "enumerate"=some (.type "enumerate"):=by decide +kernel
theorem bK:bootBuiltins "isinstance"=some (.builtin "isinstance"):=by decide +kernel
theorem dY:bootBuiltins "len"=some (.builtin "len"):=by decide +kernel
theorem rQ:bootBuiltins "all"=some (.builtin "all"):=by decide +kernel
theorem aTv:bootBuiltins "any"=some (.builtin "any"):=by decide +kernel
theorem pW:bootBuiltins "sorted"=some (.builtin "sorted"):=by decide +kernel
theorem aUs:bootBuiltins "abs"=some (.builtin "abs"):=by decide +kernel
theorem aRx {J:It} {n:Nat} {item:Nat→V} {g:TG} {tb:TS} {D:Ends} {σ:St} {H:Hp} (Pv:Nat→St→Hp→Prop)
  (hgo:∀i H,i<n→J.go i H) (hst:∀H,J.stop n H) (hy:∀i H x H',i<n→J.yld i H x H'→H'=H∧x=item i) (h0:Pv 0 σ H)
  (hs:∀i σ H,i<n→Pv i σ H→g (item i) σ H fun σ2 H2=>tb { D with nx:=Pv (i+1),ct:=Pv (i+1),bk:=D.nx } σ2 H2) (hd:∀σ H,Pv n σ H→D.nx σ H) :
  ∃W:Nat→Nat→St→Hp→Prop,(∃m,W 0 m σ H)∧∀i m σ H,W i m σ H →
   (J.stop i H∧D.nx σ H)∨(J.go i H∧∃N:St→Hp→Prop,(∀σ' H',N σ' H'→∃m',m'<m∧W (i+1) m' σ' H')∧∀x H',J.yld i H x H'→g x σ H' fun σ2 H2=>tb { D with nx:=N,ct:=N,bk:=D.nx } σ2 H2):=by
 refine ⟨fun i m σ H=>m=n - i∧i≤n∧Pv i σ H,⟨n,by simp,Nat.zero_le _,h0⟩,?_⟩
 rintro i m σ H ⟨rfl,hi,p⟩
 by_cases hlt:i<n
 ·refine .inr ⟨hgo i H hlt,Pv (i+1),fun σ' H' p'=>⟨n - (i+1),by lia,rfl,hlt,p'⟩,fun x H' y=>?_⟩
  obtain ⟨e1,e2⟩:=hy i H x H' hlt y
  subst e1 e2
  exact hs i σ _ hlt p
 ·have e:i=n:=by lia
  subst e
  exact .inl ⟨hst H,hd σ H p⟩
def sgn (x:Str) (i:Nat):Str:=⟨#[x.cps.getD i 0]⟩
theorem aNy {x:Str} {i c:Nat} (h:x.cps[i]?=some c):(⟨#[c]⟩:Str)=sgn x i:=by
 unfold sgn
 rw [Array.getD_eq_getD_getElem?,h]
 rfl
def Its (x:Str):It:=⟨fun i _=>i<x.cps.size,fun i H v H'=>H'=H∧v=.str (sgn x i),fun i _=>x.cps.size≤i⟩
theorem aLy {P:Program} {w:World} {K:PySem.W.Frag} {tg:Expr} (it:Addr) (x:Str) (t:Tok):Turn P w K tg (Its x) [it] it (fun i h=>h.IsStrIter it "str_ascii_iterator" x t i) where
 mem:=by simp
 obj:=fun i h st b hb=>by
  have e:b=it:=by simpa using hb
  subst e
  obtain ⟨o,e,c,d⟩:=st
  exact ⟨o,e,fun v z=>by rw [d] at z;cases z⟩
 keep:=fun i h h' st k=>let ⟨o,ho,r⟩:=st;⟨o,k it (by simp) o ho,r⟩
 item:=by
  intro X hP hw hK hc i pins s σ H E I hf st hg
  subst hP hw hK
  obtain ⟨f0,f1,f2,f3,f4,f5⟩:=hf it (by simp)
  refine (Walks.strAscii (prog:=X.prog) (w:=X.w) (I.ok.hd hc) it x t).item i s _ _ hg st fun v h' tk hv st' kk=>?_
  obtain ⟨c,u,hcx,rfl⟩:=hv
  have I1:Inv X pins σ H { s with heap:=h',toks:=tk }:=I.turned (fun b o hb e=>kk b o (by simpa using hb) e) f0 f1 f3 f4 f5
  obtain ⟨o,e,c',d⟩:=id st'
  exact ⟨_,rfl,aBi (s:={ s with heap:=h',toks:=tk }) e c' d (by decide) ⟨.str ⟨#[c]⟩,H,I1,⟨u,rfl⟩,⟨rfl,by rw [aNy hcx]⟩,st',fun b hb=>(hf b hb).1⟩⟩
 done:=by
  intro X hP hw hK hc i pins s σ H E I hf st hg
  subst hP hw hK
  obtain ⟨f0,f1,f2,f3,f4,f5⟩:=hf it (by simp)
  exact wpAny_pyNext_ascii_end (I.ok.hd hc) st (Array.getElem?_eq_none_iff.mpr hg) fun h' eb=>⟨rfl,I.turned (t':=s.toks) (fun b o hb e=>eb b o hb e) f0 f1 f3 f4 f5⟩
 self:=fun _ _ _ _ _ st h=>wpAny_pyIter_striter_ascii st h
theorem aK8 {P:Program} {w:World} {K:PySem.W.Frag} {tg:Expr} (it:Addr) (x:Str) (t:Tok):Turn P w K tg (Its x) [it] it (fun i h=>h.IsStrIter it "str_iterator" x t i) where
 mem:=by simp
 obj:=fun i h st b hb=>by
  have e:b=it:=by simpa using hb
  subst e
  obtain ⟨o,e,c,d⟩:=st
  exact ⟨o,e,fun v z=>by rw [d] at z;cases z⟩
 keep:=fun i h h' st k=>let ⟨o,ho,r⟩:=st;⟨o,k it (by simp) o ho,r⟩
 item:=by
  intro X hP hw hK hc i pins s σ H E I hf st hg
  subst hP hw hK
  obtain ⟨f0,f1,f2,f3,f4,f5⟩:=hf it (by simp)
  refine (Walks.strWide (prog:=X.prog) (w:=X.w) (I.ok.hd hc) it x t).item i s _ _ hg st fun v h' tk hv st' kk=>?_
  obtain ⟨c,u,hcx,rfl⟩:=hv
  have I1:Inv X pins σ H { s with heap:=h',toks:=tk }:=I.turned (fun b o hb e=>kk b o (by simpa using hb) e) f0 f1 f3 f4 f5
  obtain ⟨o,e,c',d⟩:=id st'
  exact ⟨_,rfl,aBi (s:={ s with heap:=h',toks:=tk }) e c' d (by decide) ⟨.str ⟨#[c]⟩,H,I1,⟨u,rfl⟩,⟨rfl,by rw [aNy hcx]⟩,st',fun b hb=>(hf b hb).1⟩⟩
 done:=by
  intro X hP hw hK hc i pins s σ H E I hf st hg
  subst hP hw hK
  obtain ⟨f0,f1,f2,f3,f4,f5⟩:=hf it (by simp)
  exact wpAny_pyNext_wide_end (I.ok.hd hc) st (Array.getElem?_eq_none_iff.mpr hg) fun h' eb=>⟨rfl,I.turned (t':=s.toks) (fun b o hb e=>eb b o hb e) f0 f1 f3 f4 f5⟩
 self:=fun _ _ _ _ _ st h=>wpAny_pyIter_striter_wide st h
section
variable {X:Cx} {tg:Expr}
def aUf (tl:TE):TI:=fun σ H R=>tl σ H fun x H1=>∃z,x=.str z∧R (Its z) H1
theorem aUp {l:Expr} {tl:TE} (hl:PE X l tl):PI X tg l (aUf tl):=by
 intro pins s σ H R I h
 refine thn (hl pins s σ H _ I h) fun v s1 ⟨x,H1,I1,r1,q1⟩=>?_
 obtain ⟨z,e,q⟩:=q1
 subst e
 obtain ⟨t,rfl⟩:=r1
 have fp:∀b∈[s1.heap.objs.size],qN X pins H1 b:=fun b hb=>by
  have e:b=s1.heap.objs.size:=by simpa using hb
  subst e
  exact I1.aA1 (Nat.le_refl _) (I1.hok.fresh (Nat.le_refl _))
 cases ha:z.cps.all (·<128)
 ·exact wpAny_pyIter_wide ha ⟨s1.heap.objs.size,[s1.heap.objs.size],_,_,H1,rfl,I1.kept (t':=s1.toks) fun b o e=>Heap.get?_push_of_some _ e,aK8 _ z t,⟨_,Heap.get?_push_size _ rfl,rfl,rfl⟩,fp,q⟩
 ·exact wpAny_pyIter_ascii ha ⟨s1.heap.objs.size,[s1.heap.objs.size],_,_,H1,rfl,I1.kept (t':=s1.toks) fun b o e=>Heap.get?_push_of_some _ e,aLy _ z t,⟨_,Heap.get?_push_size _ rfl,rfl,rfl⟩,fp,q⟩
theorem aRc {x:Str} {g:TG} {tb:TS} {D:Ends} {σ:St} {H:Hp} (Pv:Nat→St→Hp→Prop) (h0:Pv 0 σ H)
  (hs:∀i σ H,i<x.cps.size→Pv i σ H→g (.str (sgn x i)) σ H fun σ2 H2=>tb { D with nx:=Pv (i+1),ct:=Pv (i+1),bk:=D.nx } σ2 H2) (hd:∀σ H,Pv x.cps.size σ H→D.nx σ H) :
  ∃W:Nat→Nat→St→Hp→Prop,(∃m,W 0 m σ H)∧∀i m σ H,W i m σ H →
   ((Its x).stop i H∧D.nx σ H)∨((Its x).go i H∧∃N:St→Hp→Prop,(∀σ' H',N σ' H'→∃m',m'<m∧W (i+1) m' σ' H')∧∀v H',(Its x).yld i H v H'→g v σ H' fun σ2 H2=>tb { D with nx:=N,ct:=N,bk:=D.nx } σ2 H2):=
 aRx (item:=fun i=>.str (sgn x i)) Pv (fun i H h=>h) (fun H=>Nat.le_refl _) (fun i H v H' _ y=>y) h0 hs hd
def aT6:V→List V→Hp→VK→Prop:=fun x vs H Q=>∃a b i rest,x=.str a∧vs=[.str b]∧Builtin.Str.occurrences a b 0 a.length 1=i::rest∧Q (.int (i:Nat)) H
theorem aPx:MtR X "str.index" aT6:=by
 intro pins s σ H x vs v us Q I rx rv h
 obtain ⟨a,b,i,rest,rfl,rfl,ho,q⟩:=h
 obtain ⟨t,rfl⟩:=rx
 obtain ⟨u,rfl,t',rfl⟩:=rv.one
 exact SC.index ho ⟨.int (i:Nat),H,I.tok _,⟨_,rfl⟩,q⟩
def aHd (x:V) (T:String):Option Bool:=match x with
 |.int _=>if T = "int" then some true else if T = "bool" then some false else if T = "str" then some false else none
 |.str _=>if T = "int" then some false else if T = "bool" then some false else if T = "str" then some true else none
 |.bl _=>if T = "int" then some true else if T = "bool" then some true else if T = "str" then some false else none
 |_=>none
def aWx:List V→Hp→VK→Prop:=fun xs H Q=>∃x T b,xs=[x,.ty T]∧aHd x T=some b∧Q (.bl b) H
theorem sX:bW X (.builtin "isinstance") aWx:=by
 intro pins s σ H xs us Q I r h
 obtain ⟨x,T,b,rfl,e,q⟩:=h
 obtain ⟨u,v,rfl,rx,rT⟩:=r.two
 cases rT
 have f0:∀{k:Bool},some k=some b→EP X pins σ Q (.bool k) s:=fun e=>by cases e;exact ⟨.bl _,H,I,rfl,q⟩
 have f1:∀{k:Bool},some k=some b→EP X pins σ Q (.bool k) { s with toks:=s.toks+1 }:=fun e=>by cases e;exact ⟨.bl _,H,I.tok _,rfl,q⟩
 cases x with
 |int i=>
  obtain ⟨t,rfl⟩:=rx
  unfold aHd at e
  dsimp only at e
  split at e
  ·rename_i hT;subst hT;exact IsiPair.int_int (f0 e)
  split at e
  ·rename_i hT;subst hT;exact IsiPair.int_bool (f1 e)
  split at e
  ·rename_i hT;subst hT;exact IsiPair.int_str (f1 e)
  ·cases e
 |str z=>
  obtain ⟨t,rfl⟩:=rx
  unfold aHd at e
  dsimp only at e
  split at e
  ·rename_i hT;subst hT;exact IsiPair.str_int (f1 e)
  split at e
  ·rename_i hT;subst hT;exact IsiPair.str_bool (f1 e)
  split at e
  ·rename_i hT;subst hT;exact IsiPair.str_str (f0 e)
  ·cases e
 |bl z=>
  cases rx
  unfold aHd at e
  dsimp only at e
  split at e
  ·rename_i hT;subst hT;exact IsiPair.bool_int (f0 e)
  split at e
  ·rename_i hT;subst hT;exact IsiPair.bool_bool (f0 e)
  split at e
  ·rename_i hT;subst hT;exact IsiPair.bool_str (f1 e)
  ·cases e
 |_=>cases (show (none:Option Bool)=some b from e)
end
theorem small {n:Nat} (h:n≤1000):n≤sizeLine:=Nat.le_of_lt (dX h)
theorem zR:Vals [] []:=.nil
theorem jW {x:V} {u:Value} {xs:List V} {us:List Value} (r:RelV x u) (t:Vals xs us):Vals (x::xs) (u::us):=.cons r t
def cO:Expr→Bool
 |.Starred ..=>false
 |_=>true
theorem aN {e:Expr} {es:List Expr} {env:Env} (h:cO e=true):starEach (e::es) env=(false,eval e env)::starEach es env:=by
 cases e <;> first|rfl|cases h
theorem aW5 {X:Cx} {e:Expr} {es:List Expr} {te:TE} {t:TA} (ha:PE X e te) (hr:PA X es t) (hp:cO e=true:=by rfl) :
  PA X (e::es) (dJ te t):=aRe ha hr (aN hp)
theorem aWc {X:Cx} {x:Str} {v:V} {pos:Pos} (hg:Gl X x) (hm:∃u,X.mg x=some u∧RelV v u) (hd:(x == ("__debug__":Str))=false:=by decide):PE X (.Name x pos) (tC v):=by
 obtain ⟨u,hm,r⟩:=hm
 exact aRi hg hm r hd
section
variable {P:Program} {w:World} {K:PySem.W.Frag} {mg:Str→Option Value} {base:Heap}
def Dn (K:PySem.W.Frag) (mg:Str→Option Value) (x:Str) (st:Stmt) (ps:List Str):Prop:=∃f fd,Fun K x x st f fd∧Binds K fd ps []∧mg x=some (.ref f)
def Ok (P:Program) (w:World) (K:PySem.W.Frag) (mg:Str→Option Value) (base:Heap) (k:Nat) (x:Str) (ps:List Str) (sp:Sp):Prop:=
 ∃f fd,mg x=some (.ref f)∧PySem.W.keepIn K (.ref f)=true∧Binds K fd ps []∧jD P w K mg base CX0 k f fd ps sp
theorem Ok.mono {j k:Nat} {x:Str} {ps:List Str} {sp:Sp} (h:Ok P w K mg base j x ps sp) (hj:j≤k):Ok P w K mg base k x ps sp:=by
 obtain ⟨f,fd,h1,h2,h3,h4⟩:=h
 exact ⟨f,fd,h1,h2,h3,h4.mono hj⟩
theorem Ok.of {x:Str} {st:Stmt} {N ps:List Str} {k:Nat} {sp:Sp} (D:Dn K mg x st ps) (S:aO N ps (aH st)) (len:∀vs H Q E,sp vs H Q E→vs.length=ps.length)
  (hbody:∀(f:Addr) (cdv:Value) (A:Around) (outer:List Env) (s:Shared) (H:Hp) (vs:List V) (Q:VK) (E:XK),Room k (A.deeper (envOfC x (aH st) s.heap.objs.size f cdv))→sp vs H Q E →
   ∃t,PSs (xQ CX0 P w K mg base N x (aH st) f cdv A outer s H E).nox (dZ st) t∧t { nx:=fun _ H'=>Q .non H',rt:=Q } (start N vs) H):Ok P w K mg base (k+1) x ps sp:=by
 obtain ⟨f,fd,F,B,m⟩:=D
 exact ⟨f,fd,m,F.kp,B,F.ok S len fun cdv A outer s H vs Q E hr h=>hbody f cdv A outer s H vs Q E hr h⟩
end
section
variable {X:Cx} {k:Nat} {ps:List Str} {sp:Sp} {x:Str} {p pos:Pos} {e:Expr} {es:List Expr} {t:TA}
theorem aWk (G:Ok X.prog X.w X.K X.mg X.base k x ps sp) (hr:Room k X.A) (hg:Gl X x) (ha:PA X (e::es) t) (hdb:(x == ("__debug__":Str))=false:=by decide)
  (he:starEach (e::es) X.env=(false,eval e X.env)::starEach es X.env:=by rfl) (hpl:(backTo pos (starEach es X.env)).any (·.1)=false:=by rfl) :
  PE X (.Call (.Name x p) (e::es) [] pos) (aAa sp [] E0 t):=by
 obtain ⟨f,fd,h1,h2,h3,h4⟩:=G
 exact aQn h4 hr hg h1 h2 h3 .nil aBl ha hdb he hpl
theorem aVe (G:Ok X.prog X.w X.K X.mg X.base k x ps sp) (hr:Room k X.A) (hg:Gl X x) (hdb:(x == ("__debug__":Str))=false:=by decide) :
  PE X (.Call (.Name x p) [] [] pos) (aAa sp [] E0 zJ):=by
 obtain ⟨f,fd,h1,h2,h3,h4⟩:=G
 exact aN1 h4 hr hg h1 h2 h3 .nil aBl hdb
end
theorem qZ {env:Env} (f:Str × NameKind→List (Str × Addr)→Sem (ForInStep (List (Str × Addr))))
  (h1:∀n r,f (n,.free) r=(cellOf env n >>= fun a=>pure (.yield ((n,a)::r)))) (h2:∀n k r,k≠.free→f (n,k) r=pure (.yield r)) :
  ∀(names:List (Str × NameKind)) (acc:List (Str × Addr)),(∀y∈names,y.2=.free→∃c,env.cells.lookup y.1=some c) →
  ∃cl,forIn names acc f=(pure (cl++acc):Sem _)∧(∀p∈cl,env.cells.lookup p.1=some p.2∧(p.1,NameKind.free)∈names)∧∀y,(y,NameKind.free)∈names→∃c,(y,c)∈cl
 |[],acc,_=>⟨[],by simp,fun _ h=>(nomatch h),fun _ h=>(nomatch h)⟩
 |(n,k)::r,acc,h=>by
  by_cases hk:k=.free
  ·subst hk
   obtain ⟨c,hc⟩:=h (n,.free) List.mem_cons_self rfl
   obtain ⟨cl,e,p1,p2⟩:=qZ f h1 h2 r ((n,c)::acc) fun y hy=>h y (List.mem_cons_of_mem _ hy)
   refine ⟨cl++[(n,c)],?_,fun p hp=>?_,fun y hy=>?_⟩
   ·rw [List.forIn_cons,h1]
    have e0:cellOf env n=pure c:=by unfold cellOf;rw [hc]
    rw [e0,pure_bind,pure_bind]
    show forIn r ((n,c)::acc) f=_
    rw [e,List.append_assoc]
    rfl
   ·rcases List.mem_append.mp hp with hp|hp
    ·exact ⟨(p1 p hp).1,List.mem_cons_of_mem _ (p1 p hp).2⟩
    ·obtain rfl:=List.mem_singleton.mp hp
     exact ⟨hc,List.mem_cons_self⟩
   ·rcases List.mem_cons.mp hy with e|hy
    ·cases e
     exact ⟨c,by simp⟩
    ·obtain ⟨c',q⟩:=p2 y hy
     exact ⟨c',List.mem_append_left _ q⟩
  ·obtain ⟨cl,e,p1,p2⟩:=qZ f h1 h2 r acc fun y hy=>h y (List.mem_cons_of_mem _ hy)
   refine ⟨cl,?_,fun p hp=>⟨(p1 p hp).1,List.mem_cons_of_mem _ (p1 p hp).2⟩,fun y hy=>?_⟩
   ·rw [List.forIn_cons,h2 n k acc hk,pure_bind]
    exact e
   ·rcases List.mem_cons.mp hy with e|hy
    ·cases e
     exact absurd rfl hk
    ·exact p2 y hy
theorem zA {scope:Scope} {env:Env} (h:∀y∈scope.names,y.2=.free→∃c,env.cells.lookup y.1=some c) :
  ∃cl,closureFor scope env=pure cl∧(∀p∈cl,env.cells.lookup p.1=some p.2∧(p.1,NameKind.free)∈scope.names)∧∀y,(y,NameKind.free)∈scope.names→∃c,(y,c)∈cl:=by
 unfold closureFor
 obtain ⟨cl,e,p1,p2⟩:=qZ (env:=env) (fun x r=>match x with|(name,kind)=>if (kind == NameKind.free)=true then do let a ←cellOf env name;pure (.yield ((name,a)::r)) else pure (.yield r))
  (fun n r=>rfl) (fun n k r hk=>by
   have:(k == NameKind.free)=false:=by simpa using hk
   simp only [this,Bool.false_eq_true,if_false]) scope.names [] h
 refine ⟨cl,?_,p1,p2⟩
 rw [List.append_nil] at e
 refine Eq.trans ?_ e
 first
 |rfl
 |simp
theorem lookup_mem {α β:Type} [BEq α] [LawfulBEq α] {a:α} {b:β}:∀{l:List (α × β)},(a,b)∈l→∃b',l.lookup a=some b'
 |(x,y)::r,h=>by
  rw [List.lookup_cons]
  by_cases e:(a == x)=true
  ·exact ⟨y,by rw [e]⟩
  ·have e':(a == x)=false:=by simpa using e
   rw [e']
   rcases List.mem_cons.mp h with z|z
   ·cases z
    simp at e
   ·exact lookup_mem z
theorem tV {env:Env} {y:Str} {k:NameKind}:∀{names:List (Str × NameKind)},names.lookup y=some .free →
  (names.map fun (x:Str × NameKind)=>match x with|(n,k)=>if (k == NameKind.free && env.scope.kind == ScopeKind.function && env.kindOf n == some NameKind.cell) then (n,NameKind.cell) else (n,k)).lookup y=some .cell ∨
  (names.map fun (x:Str × NameKind)=>match x with|(n,k)=>if (k == NameKind.free && env.scope.kind == ScopeKind.function && env.kindOf n == some NameKind.cell) then (n,NameKind.cell) else (n,k)).lookup y=some .free
 |[],h=>by simp at h
 |(n,k')::r,h=>by
  rw [List.map_cons]
  rw [List.lookup_cons] at h
  by_cases e:(y == n)=true
  ·rw [e] at h
   cases h
   by_cases q:((NameKind.free == NameKind.free) && env.scope.kind == ScopeKind.function && env.kindOf n == some NameKind.cell)=true
   ·left
    simp only [q,if_true,List.lookup_cons,e]
   ·right
    have q':=Bool.eq_false_iff.mpr q
    simp only [q',Bool.false_eq_true,if_false,List.lookup_cons,e]
  ·have e':(y == n)=false:=by simpa using e
   rw [e'] at h
   have ih:=tV (env:=env) (k:=k) h
   have key:∀z:Str × NameKind,z.1=n→(List.lookup y (z::(r.map fun (x:Str × NameKind)=>match x with|(n,k)=>if (k == NameKind.free && env.scope.kind == ScopeKind.function && env.kindOf n == some NameKind.cell) then (n,NameKind.cell) else (n,k)))) =
     List.lookup y (r.map fun (x:Str × NameKind)=>match x with|(n,k)=>if (k == NameKind.free && env.scope.kind == ScopeKind.function && env.kindOf n == some NameKind.cell) then (n,NameKind.cell) else (n,k)):=fun z hz=>by
    obtain ⟨z1,z2⟩:=z
    cases hz
    rw [List.lookup_cons,e']
   have kz:(match ((n,k'):Str × NameKind) with|(n,k)=>if (k == NameKind.free && env.scope.kind == ScopeKind.function && env.kindOf n == some NameKind.cell) then (n,NameKind.cell) else (n,k)).1=n:=by
    dsimp only
    split <;> rfl
   rw [key _ kz]
   exact ih
theorem sG {env:Env} {y:Str}:∀{names:List (Str × NameKind)},(∀z∈names,z.2≠.cell) →
  ((names.map fun (x:Str × NameKind)=>match x with|(n,k)=>if (k == NameKind.free && env.scope.kind == ScopeKind.function && env.kindOf n == some NameKind.cell) then (n,NameKind.cell) else (n,k)).lookup y=some .cell ∨
  (names.map fun (x:Str × NameKind)=>match x with|(n,k)=>if (k == NameKind.free && env.scope.kind == ScopeKind.function && env.kindOf n == some NameKind.cell) then (n,NameKind.cell) else (n,k)).lookup y=some .free)→(y,NameKind.free)∈names
 |[],_,h=>by simp at h
 |(n,k')::r,hc,h=>by
  rw [List.map_cons] at h
  by_cases e:(y == n)=true
  ·have ey:y=n:=by simpa using e
   subst ey
   have hk:k'=.free:=by
    by_cases q:((k' == NameKind.free) && env.scope.kind == ScopeKind.function && env.kindOf y == some NameKind.cell)=true
    ·rw [Bool.and_eq_true,Bool.and_eq_true] at q
     simpa using q.1.1
    ·have q':=Bool.eq_false_iff.mpr q
     simp only [q',Bool.false_eq_true,if_false,List.lookup_cons,e] at h
     rcases h with h|h
     ·cases h
      exact absurd rfl (hc (y,.cell) List.mem_cons_self)
     ·cases h;rfl
   subst hk
   exact List.mem_cons_self
  ·have e':(y == n)=false:=by simpa using e
   have key:∀z:Str × NameKind,z.1=n→(List.lookup y (z::(r.map fun (x:Str × NameKind)=>match x with|(n,k)=>if (k == NameKind.free && env.scope.kind == ScopeKind.function && env.kindOf n == some NameKind.cell) then (n,NameKind.cell) else (n,k)))) =
     List.lookup y (r.map fun (x:Str × NameKind)=>match x with|(n,k)=>if (k == NameKind.free && env.scope.kind == ScopeKind.function && env.kindOf n == some NameKind.cell) then (n,NameKind.cell) else (n,k)):=fun z hz=>by
    obtain ⟨z1,z2⟩:=z
    cases hz
    rw [List.lookup_cons,e']
   have kz:(match ((n,k'):Str × NameKind) with|(n,k)=>if (k == NameKind.free && env.scope.kind == ScopeKind.function && env.kindOf n == some NameKind.cell) then (n,NameKind.cell) else (n,k)).1=n:=by
    dsimp only
    split <;> rfl
   rw [key _ kz] at h
   exact List.mem_cons_of_mem _ (sG (fun z hz=>hc z (List.mem_cons_of_mem _ hz)) h)
section
variable {prog:Program} {w:World} {A:Around} {E:Value→Shared→Prop} {R:Result→Shared→Prop} {s:Shared}
theorem aB1 {elt target iter:Expr} {ifs:List Expr} {scope:Scope} {pos:Pos} {it acc:Value} {env:Env} (I:Nat→Shared→Prop)
  (turn:∀n s,I n s→wpAny (model prog w) A (pyNext it) (fun r s₁=>match r with
   |none=>R (.ok .next) s₁
   |some v=>wpAny (model prog w) A (letOwnedTupleGo target it v) (fun _ s'=>wpAny (model prog w) A (assign target env v) (fun _ s₂=>
     wpAny (model prog w) A (forIn ifs true fun c r=>if r=true then do let ok ←isTrue c env (eval c env);pure (ForInStep.yield ok) else pure (ForInStep.yield r)) (fun ok s₃=>
      if ok=true then wpAny (model prog w) A (eval elt env) (fun x s₄=>
       wpAny (model prog w) A (call (.builtin "list.append") [acc,x]) (fun _ s₅=>∃m,m<n∧I m s₅) (notedBy (model prog w) A env fun e s'=>R (.error e) s') s₄) (notedBy (model prog w) A env fun e s'=>R (.error e) s') s₃
      else ∃m,m<n∧I m s₃) (notedBy (model prog w) A env fun e s'=>R (.error e) s') s₂) (notedBy (model prog w) A env fun e s'=>R (.error e) s') s') (notedBy (model prog w) A env fun e s'=>R (.error e) s') s₁)
   (notedBy (model prog w) A env fun e s'=>R (.error e) s') s)
  (n:Nat) (h:I n s):codeAny (model prog w) A (.compLoop (.ListComp elt [⟨target,iter,ifs,0⟩] scope pos) 0 it acc env) R s:=by
 refine codeAny_loop rfl I (fun n s hI=>?_) n h
 show wpAny _ A ((compTurn (.ListComp elt [⟨target,iter,ifs,0⟩] scope pos) 0 it acc env).onRaise (fun x=>do noteFrame x env;theTreesLotGoes x)) _ _ s
 refine wpAny_noted ?_
 rw [compTurn_list]
 refine wpAny_bind (wpAny_standAt (wpAny_bind (wpAny_mono (turn n s hI) (fun r s₁ h₁=>?_) fun _ _ h'=>h')))
 cases r with
 |none=>exact wpAny_pure h₁
 |some v=>
  refine wpAny_bind (wpAny_mono h₁ (fun _ s' h₁'=>wpAny_bind (wpAny_mono h₁' (fun _ s₂ h₂=>wpAny_bind (wpAny_mono h₂ (fun ok s₃ h₃=>?_) fun _ _ h'=>h')) fun _ _ h'=>h')) fun _ _ h'=>h')
  cases ok with
  |false=>exact wpAny_pure ⟨rfl,h₃⟩
  |true=>
   exact wpAny_bind (wpAny_bind (wpAny_mono h₃ (fun x s₄ h₄=>wpAny_bind (wpAny_mono h₄ (fun _ s₅ h₅=>wpAny_pure (wpAny_pure ⟨rfl,h₅⟩)) fun _ _ h'=>h')) fun _ _ h'=>h'))
end
def cxC (X:Cx) (N:List Str) (scope:Scope) (cl:List (Str × Addr)) (s:Shared) (H:Hp) (fp:List Addr):Cx:=
 { X with N:=N,s₀:=s,H₀:=H,env:=compEnvC scope cl s.heap.objs.size X.env,outer:=X.stack,stack:=X.stack,ex:=fp,fn:=fun _=>false,pn:=[],xe:=fun _ _=>False }
def aPu (X:Cx) (ifs:List Expr) (tt:TT):Prop:=
 ∀(pins:List (Addr × Obj)) (s:Shared) (σ:St) (H:Hp) (Q:Bool→Hp→Prop),Inv X pins σ H s→tt σ H Q →
  wpAny (model X.prog X.w) X.A (forIn ifs true fun c r=>if r=true then do let ok ←isTrue c X.env (eval c X.env);pure (ForInStep.yield ok) else pure (ForInStep.yield r)) (TP X pins σ Q) X.xe s
def jV:TT:=fun _ H Q=>Q true H
theorem aTn {X:Cx}:aPu X [] jV:=fun _ _ _ H _ I h=>wpAny_tests_nil ⟨H,I,h⟩
theorem aUl {X:Cx} {c:Expr} {tc:TT} (h:PT X c tc):aPu X [c] tc:=fun pins s σ H Q I q=>wpAny_tests_one (h pins s σ H Q I q)
structure aAf (scope:Scope) (N:List Str):Prop where
 cell:∀y∈scope.names,y.2≠.cell
 kind:scope.kind=.function
 names:∀y∈scope.names,y.2=.local→scope.names.lookup y.1=some .local
 free:∀y∈scope.names,y.2=.free→scope.names.lookup y.1=some .free
def Cap (X:Cx) (scope:Scope) (N:List Str) (σ σ':St):Prop:=
 σ'.length=N.length∧∀(i:Nat) (y:Str) (v:V),N[i]?=some y→σ'[i]?=some (some v)→(y,NameKind.free)∈scope.names∧∃j:Nat,X.N[j]?=some y∧σ[j]?=some (some v)∧Vis X.env.scope y
theorem aE9 {X:Cx} {pins:List (Addr × Obj)} {σ σ':St} {H:Hp} {s:Shared} {scope:Scope} {N:List Str} {cl:List (Str × Addr)} {fp:List Addr} {h1:Heap} {tk:Nat} {m1:Str→Option Value}
  (I:Inv X pins σ H s) (C:aAf scope N) (hfr:∀y,(y,NameKind.free)∈scope.names→X.env.kindOf y=some .cell∨X.env.kindOf y=some .free)
  (p1:∀p∈cl,X.env.cells.lookup p.1=some p.2∧(p.1,NameKind.free)∈scope.names) (p2:∀y,(y,NameKind.free)∈scope.names→∃c,(y,c)∈cl)
  (cap:Cap X scope N σ σ') (hf:∀b∈fp,qN X pins H b) (hfl:∀b∈fp,b<s.heap.objs.size)
  (hn:h1.Ns s.heap.objs.size m1) (hk:∀b o,s.heap.get? b=some o→h1.get? b=some o) :
  Inv (cxC X N scope cl s H fp) [] σ' H { s with heap:=h1,toks:=tk }:=by
 have ok:=I.ok
 have lk:∀y c,cl.lookup y=some c→X.env.cells.lookup y=some c:=fun y c e=>(p1 _ (PySem.mem_of_lookup e)).1
 have lk2:∀y,(y,NameKind.free)∈scope.names→∃c,cl.lookup y=some c∧X.env.cells.lookup y=some c:=fun y hy=>by
  obtain ⟨c,hc⟩:=p2 y hy
  obtain ⟨c',e⟩:=lookup_mem hc
  exact ⟨c',e,lk y c' e⟩
 have fsub:∀b∈fp,b∉frs X.stack:=fun b hb z=>by
  obtain ⟨f0,f1,f2,_⟩:=hf b hb
  rcases List.mem_cons.mp (I.aD7 b z) with e|e
  ·exact f1 e
  ·exact f2 e
 have ok':(cxC X N scope cl s H fp).Ok:=by
  refine ⟨ok.mod,C.kind,ok.glob,ok.blt,Nat.le_refl _,fun x y c h1 h2=>ok.inj x y c (lk x c h1) (lk y c h2),fun y hy=>?_,fun y c h _=>?_,ok.hd,ok.frames,.inl rfl,fun b hb=>?_,I.bs,Nat.le_trans ok.bsz I.sz,
   fun b o e hb=>?_,fsub,I.stack,I.uF⟩
  ·obtain ⟨c,e,_⟩:=lk2 y (sG (env:=X.env) C.cell hy)
   exact ⟨c,e⟩
  ·exact absurd (show false=true from h) Bool.false_ne_true
  ·obtain ⟨f0,f1,f2,f3,f4,f5⟩:=hf b hb
   exact ⟨Nat.ne_of_lt (hfl b hb),fun x c e=>f4 x c (lk x c e)⟩
  ·obtain ⟨f0,f1,f2,f3,f4,f5⟩:=hf b hb
   rcases f3 with z|z
   ·exact ok.noex b o e z
   ·exact absurd (Nat.lt_of_lt_of_le (Heap.lt_size e) (Nat.le_trans ok.bsz z)) (Nat.lt_irrefl _)
 refine ⟨ok',rfl,I.bare,Un.kept hk,⟨m1,hn,fun i y v e1 e2 e3=>?_⟩,fun y c e=>?_,I.hok.fresh (Nat.le_refl _),fun y c e=>I.freeC y c (lk y c e),fun p hp=>absurd (show p∈([]:List (Addr × Obj)) from hp) (by simp),I.hok.kept hk,cap.1⟩
 ·obtain ⟨hy,j,e4,e5,e6⟩:=cap.2 i y v e1 e2
  obtain ⟨m,_,hl⟩:=I.loc
  obtain ⟨u,r,l⟩:=hl j y v e4 e5 e6
  refine ⟨u,r,.inr ?_⟩
  rcases l with ⟨k,_⟩|⟨k,c,e,z⟩
  ·rcases hfr y hy with q|q <;> (rw [k] at q;cases q)
  ·obtain ⟨c',e',e''⟩:=lk2 y hy
   rw [e] at e''
   cases e''
   have rl:=tV (env:=X.env) (k:=.free) (C.free (y,.free) hy rfl)
   refine ⟨rl,c,e',?_⟩
   obtain ⟨o,ho,hd⟩:=z
   exact ⟨o,hk _ _ ho,hd⟩
 ·obtain ⟨v,o,ho,hd⟩:=I.cell y c (lk y c e)
  exact ⟨v,o,hk _ _ ho,hd⟩
def iZ (X:Cx) (scope:Scope) (N:List Str) (wi:TI) (g:TG) (tt:TT) (te:TE):TE:=fun σ H Q=>∃σ0,Cap X scope N σ σ0∧wi σ H fun J H1=>∀D,H1 D=none→∃W:Nat→Nat→St→Hp→List V→Prop,(∃m,W 0 m σ0 (upd H1 D (.lst [])) []) ∧
 ∀i m σ' H' ys,W i m σ' H' ys→H' D=some (.lst ys)∧((J.stop i H'∧Q (.ref D) H')∨(J.go i H'∧∀x H2,J.yld i H' x H2→g x σ' H2 fun σ3 H3=>tt σ3 H3 fun b H4=>
  if b=true then te σ3 H4 fun y H5=>H5 D=some (.lst ys)∧ys.length<sizeLine∧∃m',m'<m∧W (i+1) m' σ3 (upd H5 D (.lst (ys++[y]))) (ys++[y]) else H4 D=some (.lst ys)∧∃m',m'<m∧W (i+1) m' σ3 H4 ys))
theorem aR6 {X:Cx} {elt target iter:Expr} {ifs:List Expr} {scope:Scope} {pos:Pos} {N:List Str} {wi:TI} {g:TG} {tt:TT} {te:TE}
  (C:aAf scope N) (hfr:∀y,(y,NameKind.free)∈scope.names→X.env.kindOf y=some .cell∨X.env.kindOf y=some .free) (hc:X.calm=true)
  (hi:PI X target iter wi)
  (hb:∀cl s H fp,PG (cxC X N scope cl s H fp) target g∧aPu (cxC X N scope cl s H fp) ifs tt∧PE (cxC X N scope cl s H fp) elt te)
  (hs:∀x,foldedSetIterable iter X.env x=pure x:=by intro _;rfl) :
  PE X (.ListComp elt [⟨target,iter,ifs,0⟩] scope pos) (iZ X scope N wi g tt te):=by
 intro pins s σ H Q I hq
 obtain ⟨σ0,cap,hq⟩:=hq
 obtain ⟨cl,hcl,p1,p2⟩:=zA (scope:=scope) (env:=X.env) (fun y hy hk=>by
  obtain ⟨n,k⟩:=y
  cases hk
  exact I.ok.has n (hfr n hy))
 rw [eval_ListComp]
 refine wpAny_comprehension_free (use:=none) rfl hs hcl C.kind C.names (thn (hi pins s σ H _ I hq) fun xv s1 h1=>thn h1 fun itv s2 h2=>?_)
 obtain ⟨it,fp,tn,J,H2,rfl,I2,T,st2,f2,q2⟩:=h2
 refine wpAny_newObj_type (wpAny_newFunctionEnv C.cell (by intro y hy;simp at hy) (fun h₁ hns₁ hsb₁=>?_) C.kind)
 dsimp only at hns₁ hsb₁ ⊢
 have hD:H2 s2.heap.objs.size=none:=I2.hok.fresh (Nat.le_refl _)
 have I3:Inv X pins σ (upd H2 s2.heap.objs.size (.lst [])) { s2 with heap:=s2.heap.push { cls:=.type "list",dict:=none,data:=.seq ([]:List Value).toArray } }:=
  I2.laid (t':=s2.toks) (fun b u e=>Heap.get?_push_of_some _ e) (Nat.le_refl _) ⟨Nat.zero_le _,[],0,.nil,Heap.get?_push_size _ rfl⟩
 generalize hs3:({ s2 with heap:=s2.heap.push { cls:=.type "list",dict:=none,data:=.seq ([]:List Value).toArray } }:Shared)=s3 at I3
 have hh3:s2.heap.push { cls:=.type "list",dict:=none,data:=.seq ([]:List Value).toArray }=s3.heap:=by rw [←hs3]
 rw [hh3] at hns₁ hsb₁
 have fl2:∀b∈fp,b<s2.heap.objs.size:=fun b hb=>by
  obtain ⟨o,e,_⟩:=T.obj _ _ st2 b hb
  exact Heap.lt_size e
 have fl3:∀b∈fp,b<s3.heap.objs.size:=fun b hb=>by
  rw [←hh3,Heap.size_push]
  exact Nat.lt_succ_of_lt (fl2 b hb)
 have f3:∀b∈fp,qN X pins (upd H2 s2.heap.objs.size (.lst [])) b:=fun b hb=>by
  obtain ⟨f0,fr⟩:=f2 b hb
  exact ⟨by rw [aM (Nat.ne_of_lt (fl2 b hb))];exact f0,fr⟩
 have keep3:∀b o,s3.heap.get? b=some o→h₁.get? b=some o:=fun b o e=>hsb₁.extBut b o (Nat.ne_of_lt (Heap.lt_size e)) (Heap.get?_push_of_some _ e)
 have I4:=aE9 (tk:=s3.toks) I3 C hfr p1 p2 cap f3 fl3 hns₁ keep3
 have st4:tn 0 h₁:=T.keep _ _ _ st2 fun b hb o e=>keep3 b o (by rw [←hh3];exact Heap.get?_push_of_some _ e)
 obtain ⟨W,⟨m0,w0⟩,turn⟩:=q2 s2.heap.objs.size hD
 have fpc:∀{H':Hp},(∀b∈fp,H' b=none)→∀b∈fp,qN (cxC X N scope cl s3 (upd H2 s2.heap.objs.size (.lst [])) fp) [] H' b:=fun {H'} hn b hb=>by
  obtain ⟨e1,e2⟩:=I4.ok.exf b hb
  exact ⟨hn b hb,e1,I4.ok.exfs b hb,.inl hb,e2,fun p hp=>absurd (show p∈([]:List (Addr × Obj)) from hp) (by simp)⟩
 have loop:∀s4:Shared,s4={ s3 with heap:=h₁,toks:=s3.toks } →
   codeAny (model X.prog X.w) X.A (.compLoop (.ListComp elt [⟨target,iter,ifs,0⟩] scope pos) 0 (.ref it) (.ref s2.heap.objs.size) (compEnvC scope cl s3.heap.objs.size X.env))
    (compPost (model X.prog X.w) X.A X.xe none (EP X pins σ Q) (.ref s2.heap.objs.size) s3.heap.objs.size) s4:=by
  rintro s4 rfl
  refine aB1 (fun n s'=>∃i σ' H' ys,Inv (cxC X N scope cl s3 (upd H2 s2.heap.objs.size (.lst [])) fp) [] σ' H' s'∧tn i s'.heap∧(∀b∈fp,H' b=none)∧W i n σ' H' ys) ?_ m0 ⟨0,σ0,_,[],I4,st4,fun b hb=>(f3 b hb).1,w0⟩
  rintro n s5 ⟨i,σ5,H5,ys,I5,st5,fr5,w5⟩
  obtain ⟨hacc,w5⟩:=turn i n σ5 H5 ys w5
  have noE:∀{α:Type} {t:Sem α} {Q':α→Shared→Prop} {E':Value→Shared→Prop} {s':Shared},wpAny (model X.prog X.w) X.A t Q' (fun _ _=>False) s'→wpAny (model X.prog X.w) X.A t Q' E' s':=fun h=>wpAny_mono h (fun _ _ q=>q) fun _ _ z=>z.elim
  rcases w5 with ⟨stop,qn⟩|⟨go,step⟩
  ·refine noE (thn (T.done (cxC X N scope cl s3 (upd H2 s2.heap.objs.size (.lst [])) fp) rfl rfl rfl hc i [] s5 σ5 H5 _ I5 (fpc fr5) st5 stop) fun r s6 ⟨hr,I6⟩=>?_)
   subst hr
   obtain ⟨m6,hn6,_⟩:=I6.loc
   refine ⟨m6,hn6,fun h' sb=>?_⟩
   have kp:∀b o,b≠s3.heap.objs.size→s6.heap.get? b=some o→h'.get? b=some o:=fun b o hb e=>sb.extBut b o hb e
   have ne3:∀b o,s3.heap.get? b=some o→b≠s3.heap.objs.size:=fun b o e=>Nat.ne_of_lt (Heap.lt_size e)
   have un:Un (frs X.stack) fp (upd H2 s2.heap.objs.size (.lst [])) H5 s3.heap h':=by
    have u:=I6.base
    exact ⟨fun b o e n hb hx=>kp b o (ne3 b o e) (u.keep b o e n hb hx),fun b o e n hb hx=>by
     obtain ⟨sl,e1⟩:=u.slot b o e n hb hx
     exact ⟨sl,kp b _ (ne3 b o e) e1⟩,u.free,fun b o e hx=>by
     obtain ⟨o',e1⟩:=u.there b o e hx
     exact ⟨o',kp b _ (ne3 b o e) e1⟩,u.tups,u.frzs,u.tbls⟩
   have hok:HOk X.prog X.w H5 h':=fun b u e=>by
    refine (I6.hok b u e).stay (fun c v hc' q=>kp c v ?_ q) (fun _ q=>q) fun _ _ q=>q
    have hfree:H5 s3.heap.objs.size=none:=I6.free
    rintro rfl
    rcases hc' with z|z
    ·rw [z] at hfree;rw [hfree] at e;cases e
    ·rw [hfree] at z;cases z
   have I7:Inv X pins σ H5 { s6 with heap:=h' }:=by
    refine I3.call' (s':={ s6 with heap:=h' }) I6.os un hok I6.bare fun b hb=>?_
    obtain ⟨f0,f1,f2',f3',f4,f5⟩:=f3 b hb
    exact ⟨f3',f1,f4,f5⟩
   exact ⟨.ref s2.heap.objs.size,H5,I7,rfl,qn⟩
  ·refine noE (thn (T.item (cxC X N scope cl s3 (upd H2 s2.heap.objs.size (.lst [])) fp) rfl rfl rfl hc i [] s5 σ5 H5 (fun _ _=>False) I5 (fpc fr5) st5 go) fun r s6 ⟨u,hr,h6⟩=>?_)
   subst hr
   refine noE (thn h6 fun _ s7 ⟨x,H7,I7,r7,y7,st7,fr7⟩=>?_)
   obtain ⟨hg,ht,he⟩:=hb cl s3 (upd H2 s2.heap.objs.size (.lst [])) fp
   have I7':=I7.pinned (fpc fr7) (T.obj _ _ st7)
   have back:∀{σ8:St} {H8:Hp} {s8:Shared},Inv (cxC X N scope cl s3 (upd H2 s2.heap.objs.size (.lst [])) fp) ([]++vJ fp s7.heap) σ8 H8 s8→tn (i+1) s8.heap∧∀b∈fp,H8 b=none:=fun {σ8 H8 s8} I8=>
    ⟨T.keep _ _ _ st7 fun b hb o e=>(I8.pin (b,o) (List.mem_append_right _ (List.mem_append_right _ (gY hb e)))).1,fun b hb=>by
     obtain ⟨o,e,d⟩:=T.obj _ _ st7 b hb
     exact (I8.pin (b,o) (List.mem_append_right _ (List.mem_append_right _ (gY hb e)))).2.1⟩
   refine noE (thn (hg _ s7 σ5 H7 x u _ I7' r7 (step x H7 y7)) fun _ s8 ⟨σ8,H8,I8,q8⟩=>?_)
   refine noE (thn (ht _ s8 σ8 H8 _ I8 q8) fun b s9 ⟨H9,I9,q9⟩=>?_)
   cases b with
   |false=>
    rw [if_neg Bool.false_ne_true] at q9 ⊢
    obtain ⟨_,m',hm,w9⟩:=q9
    exact ⟨m',hm,i+1,σ8,H9,ys,I9.jP,(back I9).1,(back I9).2,w9⟩
   |true=>
    rw [if_pos rfl] at q9 ⊢
    refine noE (thn (he _ s9 σ8 H9 _ I9 q9) fun yv s10 ⟨y,H10,I10,r10,hacc10,hlen,m',hm,w10⟩=>?_)
    refine noE (thn (vC _ s10 σ8 H10 (.ref s2.heap.objs.size) [y] (.ref s2.heap.objs.size) [yv] (fun _ H11=>H11=upd H10 s2.heap.objs.size (.lst (ys++[y]))) I10 rfl (.cons r10 .nil) ⟨_,_,_,rfl,rfl,hacc10,hlen,rfl⟩) fun _ s11 ⟨z,H11,I11,_,e11⟩=>?_)
    subst e11
    exact ⟨m',hm,i+1,σ8,_,ys++[y],I11.jP,(back I11).1,(back I11).2,w10⟩
 have fin:=codeAny_compStart_list (loop { s3 with heap:=h₁,toks:=s3.toks } rfl) (T.self _ _ _ _ _ st4 (loop { s3 with heap:=h₁,toks:=s3.toks } rfl))
 subst hs3
 exact fin
end L2
namespace PySem
open Sem (wp)
namespace IfF
theorem aOq:typeLookup (.type "function") "__class__"=pure (some (.builtin "object.__class__")):=by rw [typeLookup_type,builtinLookup_eq_fast];kernel_rfl
theorem wY:Slot "function" "__getattribute__" "object.__getattribute__":=
 .of (owner:="object") (n:="__getattribute__") (by rw [typeLookup_type,builtinLookup_eq_fast];kernel_rfl) (by decide +kernel) (by decide +kernel) (by decide +kernel)
  (by first|exact .inl (by decide +kernel)|exact .inr (by decide +kernel)) (by rw [isSubtype_type];kernel_rfl)
theorem aPz:entryFor table "object.__getattribute__"=some Builtin.«object.__getattribute__»:=entryFor_of_tree (by kernel_rfl)
theorem wU:isSubtype (.type "function") (.type (".".intercalate ("object.__class__".cutAt '.').dropLast))=pure true:=by
 rw [F.owner_object_class,isSubtype_type];kernel_rfl
theorem sub_int:isSubtype (.type "function") (.type "int")=pure false:=by rw [isSubtype_type];kernel_rfl
theorem sub_bool:isSubtype (.type "function") (.type "bool")=pure false:=by rw [isSubtype_type];kernel_rfl
theorem aRh:isSubtype (.type "function") (.type "str")=pure false:=by rw [isSubtype_type];kernel_rfl
end IfF
section
variable {prog:Program} {w:World} {A:Around} {E:Value→Shared→Prop} {h:Heap} {g:Array GenState} {d:Drawn} {t:Nat} {os:OsState} {a:Addr} {o:Obj}
theorem aD3 {R:Result→Shared→Prop} (hx:h.get? a=some o) (hc:o.cls=.type "function") (hq:R (.ok (.ret (.type "function"))) ⟨h,g,d,t,os⟩) :
  codeAny (model prog w) A (.call (.builtin "getset_descriptor.__get__") ⟨[.builtin "object.__class__",.ref a,.type "function"],[]⟩) R ⟨h,g,d,t,os⟩:=by
 have hT:(⟨h,g,d,t,os⟩:Shared).TypeIs (.ref a) "function":=⟨_,hx,hc⟩
 have hT5:(⟨h,g,d,t,os⟩:Shared).TypeIs (.builtin "object.__class__") "getset_descriptor":=F.typeOf_object_class
 have f8:=IfF.wU
 refine codeAny_call_builtin F.slot_gs_get.plain F.entry_gs_get (F.slot_gs_get.check _ _ _ _ _ _ _ _ hT5 (F.args_gs_get _ _ _) ?_)
 repeat (any_goals (first|assumption|wp_step))
 refine ⟨Code.quiet_builtin _ (by decide +kernel),codeAny_builtin F.entry_object_class ?_⟩
 repeat (any_goals (first|assumption|wp_step))
theorem xP {tk:Tok} {Q:Fin→Shared→Prop} (hx:h.get? a=some o) (hc:o.cls=.type "function") (hq:Q (.done (.ret (.type "function"))) ⟨h,g,d,t,os⟩) :
  wpAny (model prog w) A (Builtin.«object.__getattribute__» ⟨[.ref a,.str "__class__" tk],[]⟩) Q E ⟨h,g,d,t,os⟩:=by
 have hT:(⟨h,g,d,t,os⟩:Shared).TypeIs (.ref a) "function":=⟨_,hx,hc⟩
 have hT5:(⟨h,g,d,t,os⟩:Shared).TypeIs (.builtin "object.__class__") "getset_descriptor":=F.typeOf_object_class
 have f4:=IfF.aOq
 have f5:=F.typeOf_object_class
 have f6:=F.slot_gs_get.lookup
 have f7:=F.slot_gs_set.lookup
 repeat (any_goals (first|assumption|wp_step))
 refine aD3 hx hc ?_
 repeat (any_goals (first|assumption|wp_step))
theorem aF6 {tk:Tok} {Q:Value→Shared→Prop} (hx:h.get? a=some o) (hc:o.cls=.type "function") (hq:Q (.type "function") ⟨h,g,d,t,os⟩):wpAny (model prog w) A (getAttrBy (.ref a) (.str "__class__" tk) false) Q E ⟨h,g,d,t,os⟩:=by
 have hT:(⟨h,g,d,t,os⟩:Shared).TypeIs (.ref a) "function":=⟨_,hx,hc⟩
 have f2:=IfF.wY.lookup
 have f3:=IfF.wY.bind (.ref a)
 repeat (any_goals (first|assumption|wp_step))
 refine codeAny_call_builtin IfF.wY.plain IfF.aPz (IfF.wY.check _ _ _ _ _ _ _ _ hT (F.args_object_getattribute_2 _ _) (xP hx hc ?_))
 repeat (any_goals (first|assumption|wp_step))
theorem aAo {Q:Option Value→Shared→Prop} (hx:h.get? a=some o) (hc:o.cls=.type "function") (hq:Q (some (.type "function")) ⟨h,g,d,t+1,os⟩):wpAny (model prog w) A (getAttr? (.ref a) "__class__") Q E ⟨h,g,d,t,os⟩:=by
 unfold getAttr? getAttrBy?
 repeat (any_goals (first|assumption|with_reducible apply aF6 hx hc|wp_step))
theorem aA8 {T:String} {dep:Int} {tk:Tok} {Q:Fin→Shared→Prop} (hx:h.get? a=some o) (hc:o.cls=.type "function") (hne:(Value.type "function" == Value.type T)=false) (hty:typeOf (.type T)=pure (.type "type"))
  (hsub:isSubtype (.type "function") (.type T)=pure false) (hq:Q (.done (.ret (.bool false))) ⟨h,g,d,t+1,os⟩) :
  wpAny (model prog w) A (Builtin.«isinstance.nested» ⟨[.ref a,.type T,.int dep tk],[]⟩) Q E ⟨h,g,d,t,os⟩:=by
 have hT:(⟨h,g,d,t,os⟩:Shared).TypeIs (.ref a) "function":=⟨_,hx,hc⟩
 repeat (any_goals (first|assumption|with_reducible apply aAo hx hc|wp_step))
end
theorem nR {a:Addr} {T:String} (hne:(Value.type "function" == Value.type T)=false) (hty:typeOf (.type T)=pure (.type "type")) (hsub:isSubtype (.type "function") (.type T)=pure false) :
  Meets (Builtin.«isinstance» ⟨[.ref a,.type T],[]⟩) (fun _ R s=>(∃o,s.heap.get? a=some o∧o.cls=.type "function")∧R (.ok (.ret (.bool false))) { s with toks:=s.toks+1 }):=
 fun _ _ _ _ s hs=>by
  obtain ⟨h,g,d,t,os⟩:=s
  obtain ⟨⟨o,hx,hc⟩,hq⟩:=hs
  exact isinstance_outer (aA8 hx hc hne hty hsub hq)
section
variable {prog:Program} {w:World} {A:Around} {E:Value→Shared→Prop} {s:Shared} {Q:Value→Shared→Prop} {a:Addr} {o:Obj}
theorem aIh (hx:s.heap.get? a=some o) (hc:o.cls=.type "function") (h:Q (.bool false) { s with toks:=s.toks+1 }):wpAny (model prog w) A (call (.builtin "isinstance") [.ref a,.type "int"]) Q E s:=
 call_isinstance (nR (by decide) F.isi_meta_int IfF.sub_int) ⟨⟨o,hx,hc⟩,h⟩
theorem aFe (hx:s.heap.get? a=some o) (hc:o.cls=.type "function") (h:Q (.bool false) { s with toks:=s.toks+1 }):wpAny (model prog w) A (call (.builtin "isinstance") [.ref a,.type "bool"]) Q E s:=
 call_isinstance (nR (by decide) F.isi_meta_bool IfF.sub_bool) ⟨⟨o,hx,hc⟩,h⟩
theorem aI6 (hx:s.heap.get? a=some o) (hc:o.cls=.type "function") (h:Q (.bool false) { s with toks:=s.toks+1 }):wpAny (model prog w) A (call (.builtin "isinstance") [.ref a,.type "str"]) Q E s:=
 call_isinstance (nR (by decide) F.isi_meta_str IfF.aRh) ⟨⟨o,hx,hc⟩,h⟩
end
end PySem
namespace L2
open PySem PySem.Spec PyProof.Rows
section
variable {X:Cx}
theorem PE.imp {e:Expr} {t t':TE} (h:PE X e t) (k:∀σ H Q,t' σ H Q→t σ H Q):PE X e t':=fun pins s σ H Q I q=>h pins s σ H Q I (k σ H Q q)
def aW4 (K:PySem.W.Frag):List V→Hp→VK→Prop:=fun xs H Q=>∃(p:Addr) (bs:List Bool),xs=[.ref p]∧SqL K H p (bs.map V.bl)∧Q (.bl (bs.all id)) H
theorem all_range (bs:List Bool):(List.range bs.length).all (fun i=>bs.getD i false)=bs.all id:=by
 rw [Bool.eq_iff_iff,List.all_eq_true,List.all_eq_true]
 constructor
 ·intro h b hb
  obtain ⟨i,hi,e⟩:=List.mem_iff_getElem.mp hb
  have:=h i (List.mem_range.mpr hi)
  rw [List.getD_eq_getElem?_getD,List.getElem?_eq_getElem hi] at this
  rw [←e]
  exact this
 ·intro h i hi
  have hi:=List.mem_range.mp hi
  rw [List.getD_eq_getElem?_getD,List.getElem?_eq_getElem hi]
  exact h _ (List.getElem_mem hi)
theorem jK (hc:X.calm=true):bW X (.builtin "all") (aW4 X.K):=by
 intro pins s σ H xs us Q I r h
 obtain ⟨p,bs,rfl,hq,q⟩:=h
 obtain ⟨u,rfl,rx⟩:=r.one
 cases rx
 obtain ⟨its,rv,pl,hz⟩:=I.list hq
 have hl:=rv.length
 rw [List.length_map] at hl
 have hne:p≠s.heap.objs.size:=by
  obtain ⟨o,ho,_⟩:=pl.isList
  exact Nat.ne_of_lt (Heap.lt_size ho)
 refine call_all_walk (wpAny_pyIter_list pl.isList ?_)
 refine ⟨s.heap.objs.size,_,_,_,_,_,fun i=>bs.getD i false,rfl,Walks.list (show X.A.in1.handled=none from I.ok.hd hc) _ p hne its.toArray,⟨⟨_,Heap.get?_push_size _ rfl,rfl,rfl⟩,?_⟩,?_,fun h' tk kp=>?_⟩
 ·exact pl.isList.at fun o e=>Heap.get?_push_of_some _ e
 ·intro i v s' Q' E' hv hq'
  have hv':its[i]?=some v:=by simpa using hv
  have hi:i<bs.length:=by rw [hl];exact (List.getElem?_eq_some_iff.mp hv').1
  obtain ⟨u,hu,ru⟩:=rv.get (i:=i) (x:=.bl bs[i]) (by rw [List.getElem?_map,List.getElem?_eq_getElem hi];rfl)
  rw [hv'] at hu
  cases hu
  cases ru
  have e:bs.getD i false=bs[i]:=by rw [List.getD_eq_getElem?_getD,List.getElem?_eq_getElem hi];rfl
  replace hq':Q' (bs.getD i false) s':=hq'
  rw [e] at hq'
  exact wpAny_truthy_bool hq'
 ·have e:(List.range its.toArray.size).all (fun i=>bs.getD i false)=bs.all id:=by
   rw [List.size_toArray,←hl];exact all_range bs
  rw [e]
  refine ⟨.bl (bs.all id),H,?_,rfl,q⟩
  exact I.kept fun b o eo=>kp b o (by
   intro z
   have:b=s.heap.objs.size:=by simpa using z
   rw [this] at eo
   exact absurd (Heap.lt_size eo) (Nat.lt_irrefl _)) (Heap.get?_push_of_some _ eo)
inductive Rk (K:PySem.W.Frag) (H:Hp):V→String→Prop
 |non:Rk K H .non "NoneType"
 |lst {a xs}:SqL K H a xs→Rk K H (.ref a) "list"
 |tup {a xs}:SqT K H a xs→Rk K H (.ref a) "tuple"
 |dct {a kvs}:H a=some (.dK kvs)→Rk K H (.ref a) "dict"
 |fn {a o}:K.lookup a=some o→o.cls=.type "function"→Rk K H (.ref a) "function"
def aSz (K:PySem.W.Frag):List V→Hp→VK→Prop:=fun xs H Q=>∃x k T,xs=[x,.ty T]∧Rk K H x k∧(T = "int"∨T = "bool"∨T = "str")∧Q (.bl false) H
theorem pX:bW X (.builtin "isinstance") (aSz X.K):=by
 intro pins s σ H xs us Q I r h
 obtain ⟨x,k,T,rfl,hx,hT,q⟩:=h
 obtain ⟨u,v,rfl,rx,rT⟩:=r.two
 cases rT
 have f1:EP X pins σ Q (.bool false) { s with toks:=s.toks+1 }:=⟨.bl _,H,I.tok _,rfl,q⟩
 cases hx with
 |non=>
  cases rx
  rcases hT with rfl|rfl|rfl
  ·exact IsiPair.NoneType_int f1
  ·exact IsiPair.NoneType_bool f1
  ·exact IsiPair.NoneType_str f1
 |lst hq=>
  cases rx
  obtain ⟨its,rv,⟨o,n,e,c,_⟩,hz⟩:=I.list hq
  rcases hT with rfl|rfl|rfl
  ·exact IsiPair.list_int e c f1
  ·exact IsiPair.list_bool e c f1
  ·exact IsiPair.list_str e c f1
 |tup hq=>
  cases rx
  obtain ⟨its,rv,⟨o,e,c,_⟩,hz⟩:=I.tuple hq
  rcases hT with rfl|rfl|rfl
  ·exact IsiPair.tuple_int e c f1
  ·exact IsiPair.tuple_bool e c f1
  ·exact IsiPair.tuple_str e c f1
 |dct hq=>
  cases rx
  obtain ⟨_,_,_,_,o,_,_,e,ex,_⟩:=I.hok _ _ hq
  rcases hT with rfl|rfl|rfl
  ·exact IsiPair.dict_int e ex.1 f1
  ·exact IsiPair.dict_bool e ex.1 f1
  ·exact IsiPair.dict_str e ex.1 f1
 |fn hk hc=>
  cases rx
  have e:=I.kIn _ _ hk
  rcases hT with rfl|rfl|rfl
  ·exact aIh e hc f1
  ·exact aFe e hc f1
  ·exact aI6 e hc f1
end
theorem iV {X:Cx} {scope:Scope} (h:∀z∈scope.names,z.2≠.free):∀y,(y,NameKind.free)∈scope.names→X.env.kindOf y=some .cell∨X.env.kindOf y=some .free:=fun y hy=>absurd rfl (h _ hy)
theorem gJ {X:Cx} {scope:Scope} (sc:Scope) (e:X.env.scope=sc) (h:∀z∈scope.names,z.2=.free→sc.names.lookup z.1=some .cell∨sc.names.lookup z.1=some .free) :
  ∀y,(y,NameKind.free)∈scope.names→X.env.kindOf y=some .cell∨X.env.kindOf y=some .free:=fun y hy=>by
 show X.env.scope.names.lookup y=some .cell∨X.env.scope.names.lookup y=some .free
 rw [e]
 exact h _ hy rfl
theorem Same.bB {K:PySem.W.Frag} {H H':Hp} {a:Addr} {xs:List V} (e:Same H H') (h:SqT K H a xs):SqT K H' a xs:=by
 rcases h with (h|⟨o,h⟩)|h
 ·exact .inl (.inl (e _ _ h))
 ·exact .inl (.inr ⟨o,e _ _ h⟩)
 ·exact .inr h
theorem aW {H:Hp} {p:Addr} (h:H p=none) (o:HO):Same H (upd H p o):=fun b u q=>by rw [aM (aY q h)];exact q
theorem Rk.same {K:PySem.W.Frag} {H H':Hp} {v:V} {k:String} (e:Same H H') (h:Rk K H v k):Rk K H' v k:=by
 cases h with
 |non=>exact .non
 |lst q=>exact .lst (e.seq q)
 |tup q=>exact .tup (e.bB q)
 |dct q=>exact .dct (e _ _ q)
 |fn q c=>exact .fn q c
theorem uN {X:Cx} {scope:Scope} {x:Str} {σ:St}:Cap X scope [x] σ [none]:=⟨rfl,fun i y v _ h2=>by
 cases i with
 |zero=>cases h2
 |succ i=>cases h2⟩
section
theorem aMm {X:Cx} {scope:Scope} {N:List Str} {wi:TI} {te:TE} {σ:St} {H:Hp} {Q:VK} (xs:List V) (f:V→V) (σ0:St) (cap:Cap X scope N σ σ0) (hsz:xs.length≤sizeLine)
  (hw:∀R:It→Hp→Prop,(∀J:It,(∀H' i x,Same H H'→xs[i]?=some x→J.go i H'∧∀y H2,J.yld i H' y H2→H2=H'∧y=x)→(∀H',Same H H'→J.stop xs.length H')→R J H)→wi σ H R)
  (he:∀x∈xs,∀H' R l,Same H H'→R (f x) H'→te ((σ0.set 0 l).set 0 (some x)) H' R) (h0:σ0[0]?=some none)
  (q:∀D,H D=none→Q (.ref D) (upd H D (.lst (xs.map f)))) :
  iZ X scope N wi (cJ 0) jV te σ H Q:=by
 refine ⟨σ0,cap,hw _ fun J go stop D hD=>?_⟩
 have sm:∀ys:List V,Same H (upd H D (.lst ys)):=fun ys b o e=>by rw [aM (aY e hD)];exact e
 refine ⟨fun i m σ' H' ys=>i≤xs.length∧m=xs.length - i∧(∃l,σ'=σ0.set 0 l)∧H'=upd H D (.lst ys)∧ys=(xs.take i).map f,⟨xs.length,Nat.zero_le _,rfl,⟨none,?_⟩,rfl,rfl⟩,?_⟩
 ·refine (List.ext_getElem? fun j=>?_)
  rw [List.getElem?_set]
  split
  ·rename_i hj
   subst hj
   split
   ·exact h0
   ·rename_i hlt
    exact List.getElem?_eq_none_iff.mpr (by lia)
  ·rfl
 ·rintro i m σ' H' ys ⟨hi,rfl,⟨l,rfl⟩,rfl,rfl⟩
  refine ⟨aK,?_⟩
  by_cases hlt:i<xs.length
  ·right
   obtain ⟨g1,g2⟩:=go (upd H D (.lst ((xs.take i).map f))) i xs[i] (sm _) (List.getElem?_eq_getElem hlt)
   refine ⟨g1,fun x H2 hy=>?_⟩
   obtain ⟨rfl,rfl⟩:=g2 x H2 hy
   unfold cJ jV
   dsimp only
   rw [if_pos rfl]
   refine he xs[i] (List.getElem_mem hlt) _ _ l (sm _) ⟨aK,?_,xs.length - (i+1),by lia,hlt,rfl,⟨some xs[i],?_⟩,?_,?_⟩
   ·rw [List.length_map,List.length_take];lia
   ·rw [List.set_set]
   ·rw [aR2]
   ·rw [List.take_add_one,List.getElem?_eq_getElem hlt,List.map_append]
    rfl
  ·left
   have e:i=xs.length:=by lia
   subst e
   refine ⟨stop _ (sm _),?_⟩
   rw [List.take_length]
   exact q D hD
theorem aTw {z:Str} {tl:TE} {σ:St} {H:Hp} (h:∀R:VK,R (.str z) H→tl σ H R) (R:It→Hp→Prop)
  (q:∀J:It,(∀H' i x,Same H H'→((List.range z.cps.size).map fun i=>V.str (sgn z i))[i]?=some x→J.go i H'∧∀y H2,J.yld i H' y H2→H2=H'∧y=x) →
   (∀H',Same H H'→J.stop ((List.range z.cps.size).map fun i=>V.str (sgn z i)).length H')→R J H):aUf tl σ H R:=by
 refine h _ ⟨z,rfl,q _ (fun H' i x _ e=>?_) fun H' _=>?_⟩
 ·rw [List.getElem?_map] at e
  have hi:i<z.cps.size:=by
   cases hr:(List.range z.cps.size)[i]? with
   |none=>rw [hr] at e;cases e
   |some j=>have:=(List.getElem?_eq_some_iff.mp hr).1;rwa [List.length_range] at this
  rw [List.getElem?_range hi] at e
  cases e
  exact ⟨hi,fun y H2 hy=>hy⟩
 ·rw [List.length_map,List.length_range]
  exact Nat.le_refl _
theorem aSm {K:PySem.W.Frag} {a:Addr} {xs:List V} {tl:TE} {σ:St} {H:Hp} (hS:∀H',Same H H'→SqL K H' a xs) (h:∀R:VK,R (.ref a) H→tl σ H R) (R:It→Hp→Prop)
  (q:∀J:It,(∀H' i x,Same H H'→xs[i]?=some x→J.go i H'∧∀y H2,J.yld i H' y H2→H2=H'∧y=x)→(∀H',Same H H'→J.stop xs.length H')→R J H):aF7 K tl σ H R:=by
 refine h _ ⟨a,rfl,⟨xs,hS H (Same.refl H)⟩,q _ (fun H' i x s e=>⟨⟨xs,x,hS H' s,e⟩,fun y H2 hy=>?_⟩) fun H' s=>⟨xs,hS H' s,Nat.le_refl _⟩⟩
 obtain ⟨e1,e2⟩:=hy
 have e3:=e2 xs (hS H' s)
 rw [e] at e3
 cases e3
 exact ⟨e1,rfl⟩
end
end L2
namespace PySem
abbrev qF (t:Addr) (i:Nat):Obj:={ cls:=.type "tuple_iterator",data:=.fields #[.ref t,.int (i:Int) 0] }
abbrev fV (f0:Value) (TI TO:Addr):Obj:={ cls:=.type "zip",dict:=none,data:=.fields #[f0,.bool false,.bool false,.ref TI,.ref TO],slots:=#[] }
abbrev dG (a b:Value):Obj:={ cls:=.type "tuple",data:=.seq #[a,b] }
section
variable {prog:Program} {w:World} {A:Around} {E:Value→Shared→Prop} {s:Shared}
theorem zL {it t:Addr} {i:Nat} {its:Array Value} {x:Value} {Q:Value→Shared→Prop} (ho:s.heap.get? it=some (qF t i)) (ht:s.heap.IsTuple t its) (hx:its[i]?=some x)
  (q:∀h',h'.get? it=some (qF t (i+1))→Heap.SameBut it s.heap h'→Q x { s with heap:=h' }):wpAny (model prog w) A (Builtin.SmallTypes.nextOf (.ref it)) Q E s:=by
 have hT:s.TypeIs (.ref it) "tuple_iterator":=⟨_,ho,rfl⟩
 obtain ⟨ol,hol,_,nl,hdl⟩:=ht
 unfold Builtin.SmallTypes.nextOf
 refine wpAny_bind (wpAny_callSpecial?_slot (name:=Str.ofString "__next__") hT F.slot_tuple_iterator_next (wpAny_call_entry F.slot_tuple_iterator_next hT F.entry_tuple_iterator_next ?_ (F.args_tuple_iterator_next_1 _)))
 refine wpAny_bind (m:=field (.ref it) 0) (wpAny_field ho rfl (x:=.ref t) rfl ?_)
 refine (if_neg (show ¬ ((Value.ref t == Value.none)=true) from Bool.false_ne_true)).symm ▸ ?_
 refine wpAny_bind (m:=field (.ref it) 1) (wpAny_field ho rfl (x:=.int i 0) rfl ?_)
 refine wpAny_bind (m:=seqItems? (.ref t)) (wpAny_seqItems hol hdl ?_)
 simp only [Int.toNat_natCast,hx]
 refine wpAny_bind (wpAny_setField ho rfl (by simp) (wpAny_pure ⟨x,rfl,wpAny_pure (q _ ?_ (Heap.SameBut.update ..))⟩))
 exact Heap.get?_update_self _ ho rfl
theorem xG {it t:Addr} {i:Nat} {its:Array Value} {Q:Value→Shared→Prop} (hh:A.handled=none) (ho:s.heap.get? it=some (qF t i)) (ht:s.heap.IsTuple t its) (hx:its[i]?=none)
  (q:∀h' e,Heap.ExtBut it s.heap h'→(∃o,h'.get? e=some o∧o.cls=.type "StopIteration")→E (.ref e) { s with heap:=h' }):wpAny (model prog w) A (Builtin.SmallTypes.nextOf (.ref it)) Q E s:=by
 have hT:s.TypeIs (.ref it) "tuple_iterator":=⟨_,ho,rfl⟩
 obtain ⟨ol,hol,_,nl,hdl⟩:=ht
 unfold Builtin.SmallTypes.nextOf
 refine wpAny_bind (wpAny_callSpecial?_slot (name:=Str.ofString "__next__") hT F.slot_tuple_iterator_next (wpAny_call_entry F.slot_tuple_iterator_next hT F.entry_tuple_iterator_next ?_ (F.args_tuple_iterator_next_1 _)))
 refine wpAny_bind (m:=field (.ref it) 0) (wpAny_field ho rfl (x:=.ref t) rfl ?_)
 refine (if_neg (show ¬ ((Value.ref t == Value.none)=true) from Bool.false_ne_true)).symm ▸ ?_
 refine wpAny_bind (m:=field (.ref it) 1) (wpAny_field ho rfl (x:=.int i 0) rfl ?_)
 refine wpAny_bind (m:=seqItems? (.ref t)) (wpAny_seqItems hol hdl ?_)
 simp only [Int.toNat_natCast,hx]
 refine wpAny_bind (wpAny_rule (wpAny_bind (wpAny_setField ho rfl (by simp) ?_)))
 unfold Builtin.SmallTypes.stopIteration
 refine wpAny_bind ?_
 simp only [newExc,newTuple]
 refine wpAny_bind (wpAny_newObj_type ?_ (by size_fits))
 refine wpAny_bind (m:=firstArgMember _ _) (wpAny_of_eq (a:=Value.none) (by first|rfl|(simp only [firstArgMember];rfl)) ?_)
 refine wpAny_newObj_type ?_ (by size_fits)
 simp only [raiseNew]
 refine wpAny_bind (wpAny_handled ?_)
 first|rw [show A.in1.handled=none from hh]|rw [hh]
 refine wpAny_bind (wpAny_pure (wpAny_throw ?_))
 exact q _ _ (((Heap.SameBut.update ..).extBut.push _).push _) ⟨_,Heap.get?_push_size _ rfl,rfl⟩
structure mF (z TI TO a b:Addr):Prop where
 h1:TI≠z
 h2:TO≠z
 h3:a≠z
 h4:b≠z
 h5:TI≠TO
 h6:TI≠a
 h7:TI≠b
 h8:TO≠a
 h9:TO≠b
 h10:a≠b
theorem sY {T:Addr} {a b x:Value} {k:Nat} {Q:Unit→Shared→Prop} (hT:s.heap.get? T=some (dG a b))
  (q:∀h',h'.get? T=some { cls:=.type "tuple",data:=.seq ((#[a,b]:Array Value).setIfInBounds k x) }→Heap.SameBut T s.heap h'→Q () { s with heap:=h' }) :
  wpAny (model prog w) A (updateSeq T (·.setIfInBounds k x)) Q E s:=by
 refine wpAny_updateSeq hT rfl (q _ ?_ (Heap.SameBut.update ..))
 rw [Heap.get?_update_self _ hT rfl]
 simp [Obj.mapSeq]
theorem aMz {z TI TO i1 i2 t u:Addr} {k:Nat} {xs ys:Array Value} {x y a b:Value} {Q:Option Value→Shared→Prop} (D:mF z TI TO i1 i2)
  (hz:s.heap.get? z=some (fV .none TI TO)) (hTI:s.heap.get? TI=some (dG (.ref i1) (.ref i2))) (hTO:s.heap.get? TO=some (dG a b))
  (g1:s.heap.get? i1=some (qF t k)) (g2:s.heap.get? i2=some (qF u k)) (ht:s.heap.IsTuple t xs) (hu:s.heap.IsTuple u ys) (hx:xs[k]?=some x) (hy:ys[k]?=some y)
  (t1:t≠z) (t2:t≠TO) (t3:t≠i1) (t4:t≠i2) (u1:u≠z) (u2:u≠TO) (u3:u≠i1) (u4:u≠i2)
  (q:∀h',h'.get? z=some (fV (rawInt s.heap.objs.size) TI TO)→h'.get? TO=some (dG x y)→h'.get? i1=some (qF t (k+1))→h'.get? i2=some (qF u (k+1))→h'.get? s.heap.objs.size=some (dG x y) →
   (∀c o,c≠z→c≠TO→c≠i1→c≠i2→s.heap.get? c=some o→h'.get? c=some o)→Q (some (.ref s.heap.objs.size)) { s with heap:=h' }) :
  wpAny (model prog w) A (pyNext (.ref z)) Q E s:=by
 have hT:s.TypeIs (.ref z) "zip":=⟨_,hz,rfl⟩
 unfold pyNext
 refine wpAny_bind (wpAny_attempt (wpAny_callSpecial?_slot (name:=Str.ofString "__next__") hT F.slot_zip_next (wpAny_call_entry F.slot_zip_next hT F.entry_zip_next ?_ (F.args_zip_next_1 _))))
 refine wpAny_bind (m:=field (.ref z) 2) (wpAny_field hz rfl (x:=.bool false) rfl ?_)
 refine wpAny_bind (m:=field (.ref z) 3) (wpAny_field hz rfl (x:=.ref TI) rfl (wpAny_bind (wpAny_seqItems hTI rfl ?_)))
 refine wpAny_bind (m:=Builtin.SmallTypes.ownedTupleIsFree (.ref z)) ?_
 unfold Builtin.SmallTypes.ownedTupleIsFree
 refine wpAny_bind (wpAny_field hz rfl (x:=.none) rfl (wpAny_pure ?_))
 simp only [if_true]
 refine wpAny_bind (wpAny_rule (wpAny_bind (wpAny_field hz rfl (x:=.ref TO) rfl (wpAny_bind (wpAny_setField_rec hz (by simp) fun h1 z1 s1=>?_)))))
 replace z1:h1.get? z=some (fV .ellipsis TI TO):=z1
 refine wpAny_bind ?_
 simp only [List.zipIdx_cons,List.zipIdx_nil,List.forIn_cons,List.forIn_nil]
 refine wpAny_bind (wpAny_bind (wpAny_onRaise ?_))
 refine wpAny_bind (m:=Builtin.SmallTypes.nextOf (.ref i1)) (zL (s:={ s with heap:=h1 }) (s1.extBut _ _ D.h3 g1) (ht.extBut s1.extBut t1) hx fun h2 g12 s2=>wpAny_pure ?_)
 have TO2:h2.get? TO=some (dG a b):=s2.extBut _ _ D.h8 (s1.extBut _ _ D.h2 hTO)
 refine wpAny_bind (wpAny_seqItems TO2 rfl (wpAny_bind (sY (s:={ s with heap:=h2 }) TO2 fun h3 TO3 s3=>wpAny_bind (wpAny_letGo (wpAny_pure ?_)))))
 replace TO3:h3.get? TO=some (dG x b):=TO3
 refine wpAny_bind (wpAny_bind (wpAny_onRaise ?_))
 refine wpAny_bind (m:=Builtin.SmallTypes.nextOf (.ref i2)) (zL (s:={ s with heap:=h3 }) (s3.extBut _ _ D.h9.symm (s2.extBut _ _ D.h10.symm (s1.extBut _ _ D.h4 g2))) (((hu.extBut s1.extBut u1).extBut s2.extBut u3).extBut s3.extBut u2) hy fun h4 g24 s4=>wpAny_pure ?_)
 have TO4:h4.get? TO=some (dG x b):=s4.extBut _ _ D.h9 TO3
 refine wpAny_bind (wpAny_seqItems TO4 rfl (wpAny_bind (sY (s:={ s with heap:=h4 }) TO4 fun h5 TO5 s5=>wpAny_bind (wpAny_letGo (wpAny_pure (wpAny_pure ?_))))))
 replace TO5:h5.get? TO=some (dG x y):=TO5
 refine wpAny_bind (wpAny_seqItems TO5 rfl (wpAny_bind (wpAny_newTuple ?_)))
 have hsz:h5.objs.size=s.heap.objs.size:=by rw [s5.1,s4.1,s3.1,s2.1,s1.1]
 have z5:h5.get? z=some (fV .ellipsis TI TO):=s5.extBut _ _ D.h2.symm (s4.extBut _ _ D.h4.symm (s3.extBut _ _ D.h2.symm (s2.extBut _ _ D.h3.symm z1)))
 have kp:∀c o,c≠z→c≠TO→c≠i1→c≠i2→s.heap.get? c=some o→h5.get? c=some o:=fun c o c1 c2 c3 c4 e=>s5.extBut _ _ c2 (s4.extBut _ _ c4 (s3.extBut _ _ c2 (s2.extBut _ _ c3 (s1.extBut _ _ c1 e))))
 have g15:h5.get? i1=some (qF t (k+1)):=s5.extBut _ _ D.h8.symm (s4.extBut _ _ D.h10 (s3.extBut _ _ D.h8.symm g12))
 have g25:h5.get? i2=some (qF u (k+1)):=s5.extBut _ _ D.h9.symm g24
 refine wpAny_bind (m:=Builtin.SmallTypes.ownedTupleHandOut (.ref z) (.ref h5.objs.size)) ?_
 unfold Builtin.SmallTypes.ownedTupleHandOut
 have z6:(h5.push (dG x y)).get? z=some (fV .ellipsis TI TO):=Heap.get?_push_of_some _ z5
 refine wpAny_bind (wpAny_setField_rec z6 (by simp) fun h7 z7 s7=>?_)
 replace z7:h7.get? z=some (fV (rawInt h5.objs.size) TI TO):=z7
 refine wpAny_setField_rec z7 (by simp) fun h8 z8 s8=>?_
 replace z8:h8.get? z=some (fV (rawInt h5.objs.size) TI TO):=z8
 have up:∀c o,c≠z→h5.get? c=some o→h8.get? c=some o:=fun c o c1 e=>s8.extBut _ _ c1 (s7.extBut _ _ c1 (Heap.get?_push_of_some _ e))
 have nz:h5.objs.size≠z:=Nat.ne_of_gt (Heap.lt_size z5)
 have T8:h8.get? h5.objs.size=some (dG x y):=s8.extBut _ _ nz (s7.extBut _ _ nz (Heap.get?_push_size _ rfl))
 rw [hsz] at z8 T8
 refine wpAny_pure ⟨_,rfl,wpAny_pure ?_⟩
 show Q (some (.ref h5.objs.size)) _
 rw [hsz]
 exact q h8 z8 (up _ _ D.h2 TO5) (up _ _ D.h3 g15) (up _ _ D.h4 g25) T8 fun c o c1 c2 c3 c4 e=>up c o c1 (kp c o c1 c2 c3 c4 e)
theorem aNe {z TI TO i1 i2 t:Addr} {k:Nat} {xs:Array Value} {a b:Value} {Q:Option Value→Shared→Prop} (hh:A.handled=none) (D:mF z TI TO i1 i2)
  (hz:s.heap.get? z=some (fV .none TI TO)) (hTI:s.heap.get? TI=some (dG (.ref i1) (.ref i2))) (hTO:s.heap.get? TO=some (dG a b))
  (g1:s.heap.get? i1=some (qF t k)) (ht:s.heap.IsTuple t xs) (hx:xs[k]?=none) (t1:t≠z)
  (q:∀h',(∀c o,c≠z→c≠TO→c≠i1→c≠i2→s.heap.get? c=some o→h'.get? c=some o)→Q none { s with heap:=h' }) :
  wpAny (model prog w) A (pyNext (.ref z)) Q E s:=by
 have hT:s.TypeIs (.ref z) "zip":=⟨_,hz,rfl⟩
 unfold pyNext
 refine wpAny_bind (wpAny_attempt (wpAny_callSpecial?_slot (name:=Str.ofString "__next__") hT F.slot_zip_next (wpAny_call_entry F.slot_zip_next hT F.entry_zip_next ?_ (F.args_zip_next_1 _))))
 refine wpAny_bind (m:=field (.ref z) 2) (wpAny_field hz rfl (x:=.bool false) rfl ?_)
 refine wpAny_bind (m:=field (.ref z) 3) (wpAny_field hz rfl (x:=.ref TI) rfl (wpAny_bind (wpAny_seqItems hTI rfl ?_)))
 refine wpAny_bind (m:=Builtin.SmallTypes.ownedTupleIsFree (.ref z)) ?_
 unfold Builtin.SmallTypes.ownedTupleIsFree
 refine wpAny_bind (wpAny_field hz rfl (x:=.none) rfl (wpAny_pure ?_))
 simp only [if_true]
 refine wpAny_bind (wpAny_rule (wpAny_bind (wpAny_field hz rfl (x:=.ref TO) rfl (wpAny_bind (wpAny_setField_rec hz (by simp) fun h1 z1 s1=>?_)))))
 replace z1:h1.get? z=some (fV .ellipsis TI TO):=z1
 refine wpAny_bind ?_
 simp only [List.zipIdx_cons,List.zipIdx_nil,List.forIn_cons,List.forIn_nil]
 refine wpAny_bind (wpAny_bind (wpAny_onRaise ?_))
 refine wpAny_bind (m:=Builtin.SmallTypes.nextOf (.ref i1)) (xG (s:={ s with heap:=h1 }) hh (s1.extBut _ _ D.h3 g1) (ht.extBut s1.extBut t1) hx fun h2 e s2 he=>?_)
 obtain ⟨oe,hoe,hce⟩:=he
 have z2:h2.get? z=some (fV .ellipsis TI TO):=s2 _ _ D.h3.symm z1
 have hez:e≠z:=fun x=>by subst x;rw [z2] at hoe;cases hoe;simp at hce
 refine wpAny_setField_rec z2 (by simp) fun h3 _ s3=>?_
 refine wpAny_bind (wpAny_isInstance (T:="StopIteration") (b:=true) ⟨oe,s3.extBut _ _ hez hoe,hce⟩ isSubtype_stop ?_)
 exact wpAny_pure (q _ fun c o c1 _ c3 _ x=>s3.extBut _ _ c1 (s2 _ _ c3 (s1.extBut _ _ c1 x)))
end
end PySem
namespace PySem
section
variable {prog:Program} {w:World} {A:Around} {E:Value→Shared→Prop} {s:Shared}
abbrev zT1 (h:Heap) (t:Addr):Heap:=h.push (qF t 0)
abbrev zT2 (h:Heap) (t u:Addr):Heap:=(zT1 h t).push (qF u 0)
abbrev zT3 (h:Heap) (t u:Addr):Heap:=(zT2 h t u).push (dG (.ref h.objs.size) (.ref (zT1 h t).objs.size))
abbrev zT4 (h:Heap) (t u:Addr):Heap:=(zT3 h t u).push (dG .none .none)
abbrev zT5 (h:Heap) (t u:Addr):Heap:=(zT4 h t u).push (fV .none (zT2 h t u).objs.size (zT3 h t u).objs.size)
theorem aHs (t u:Addr) (xs ys:Array Value):Meets (Builtin.«zip.__new__» ⟨[.type "zip",.ref t,.ref u],[]⟩)
  (fun _ R s=>s.heap.IsTuple t xs∧s.heap.IsTuple u ys∧R (.ok (.ret (.ref (zT4 s.heap t u).objs.size))) { s with heap:=zT5 s.heap t u }):=
 .of_wp fun prog w A R s h=>by
  obtain ⟨hp,g,d,tk,os⟩:=s
  obtain ⟨a1,a2,h⟩:=h
  have hsub:=sub_zip
  have b1:Heap.IsTuple (Shared.heap ⟨hp,g,d,tk,os⟩) t xs:=a1
  have b2:Heap.IsTuple (Shared.heap ⟨hp.push { cls:=.type "tuple_iterator",data:=.fields #[.ref t,.int 0 0] },g,d,tk,os⟩) u ys:=by
   obtain ⟨o,ho,r⟩:=a2
   exact ⟨o,Heap.get?_push_of_some _ ho,r⟩
  wp_walk using wpAny_pyIter_tuple b1,wpAny_pyIter_tuple b2
  exact ⟨_,rfl,h⟩
theorem aMi {t u:Addr} {xs ys:Array Value} {Q:Value→Shared→Prop} (ht:s.heap.IsTuple t xs) (hu:s.heap.IsTuple u ys) (q:Q (.ref (zT4 s.heap t u).objs.size) { s with heap:=zT5 s.heap t u }) :
  wpAny (model prog w) A (call (.type "zip") [.ref t,.ref u]) Q E s:=by
 refine callType_new F.called_zip (by decide) (F.typeCall_zip_2 _ _) (F.newCall_zip_2 _ _) (fun obj=>F.args_object_init_3 obj _ _) F.entry_zip_new (aHs t u xs ys) ⟨ht,hu,?_⟩
 exact ⟨⟨_,Heap.get?_push_size _ rfl,rfl⟩,q⟩
end
end PySem
namespace L2
open PySem PySem.Spec PyProof.Rows
section
variable {X:Cx} {pins:List (Addr × Obj)} {σ:St} {H:Hp} {s:Shared}
theorem Inv.tup_ne {t b:Addr} {xs:List V} (I:Inv X pins σ H s) (h:SqT X.K H t xs) (f:qN X pins H b):t≠b:=by
 rintro rfl
 obtain ⟨f0,f1,f2,f3,_⟩:=f
 rcases h with (h|⟨o,h⟩)|⟨o,its,n,hk,_⟩
 ·rw [f0] at h;cases h
 ·rw [f0] at h;cases h
 ·have e:=I.ok.mod.kin t o hk
  rcases f3 with z|z
  ·exact I.ok.noex t o e z
  ·exact absurd (Nat.lt_of_lt_of_le (Heap.lt_size e) (Nat.le_trans I.ok.bsz z)) (Nat.lt_irrefl _)
theorem Inv.drawn {ch:List Addr} {h':Heap} {vs:List V} {its:List Value} {T:Addr} (I:Inv X pins σ H s) (hch:∀b∈ch,qN X pins H b) (kp:∀b o,b∉ch→s.heap.get? b=some o→h'.get? b=some o)
  (hT:s.heap.objs.size≤T) (hv:Vals vs its) (hz:vs.length≤sizeLine) (ho:xF h' T its.toArray) (hth:∀b∈ch,∃o,h'.get? b=some o):Inv X pins σ (upd H T (.tup vs)) { s with heap:=h' }:=by
 have fT:H T=none:=I.hok.fresh hT
 have nT:∀b o,s.heap.get? b=some o→b≠T:=fun b o e=>Nat.ne_of_lt (Nat.lt_of_lt_of_le (Heap.lt_size e) hT)
 have nch:∀b u,H b=some u→b∉ch:=fun b u e z=>by rw [(hch b z).1] at e;cases e
 refine I.step (g':=s.gens) (d':=s.drawn) (t':=s.toks) (ch:=ch) (fun b hb=>?_) (fun b o _ _ hc e _=>kp b o hc e) (fun b o _ _ hc e _=>⟨o.slots,kp b o hc e⟩) (fun b o hc e n=>by rw [aM (nT b o e)];exact n)
  (fun b o hc e=>⟨o,kp b o hc e⟩) (fun b xs e=>by rw [aM (aY e fT)];exact e) (fun b o u e=>by rw [aM (aY e fT)];exact e) (fun b ps e=>⟨#[],by rw [aM (aY e fT),e];simp⟩) (fun m hm=>?_) (fun b u e=>?_) I.bare
 ·obtain ⟨_,f1,_,f3,f4,f5⟩:=hch b hb
  exact ⟨f3,f1,f4,f5⟩
 ·obtain ⟨o,es,ep,ho',r⟩:=hm
  exact ⟨o,es,ep,kp _ o (fun z=>(hch _ z).2.1 rfl) ho',r⟩
 ·by_cases hb:b=T
  ·subst hb
   rw [aK] at e
   cases e
   exact ⟨hz,its,hv,ho⟩
  ·rw [aM hb] at e
   refine (I.hok b u e).stay (fun c v hc' q=>kp c v ?_ q) (fun c q=>by rw [aM (aY q fT)];exact q) fun c xs q=>by rw [aM (aY q fT)];exact q
   rcases hc' with z|z
   ·rw [z];exact nch b u e
   ·exact nch c _ z
theorem Inv.aC7 {ch:List Addr} {h':Heap} (I:Inv X pins σ H s) (hch:∀b∈ch,qN X pins H b) (kp:∀b o,b∉ch→s.heap.get? b=some o→h'.get? b=some o):Inv X pins σ H { s with heap:=h' }:=by
 have nch:∀b u,H b=some u→b∉ch:=fun b u e z=>by rw [(hch b z).1] at e;cases e
 refine I.step (g':=s.gens) (d':=s.drawn) (t':=s.toks) (ch:=ch) (fun b hb=>?_) (fun b o _ _ hc e _=>kp b o hc e) (fun b o _ _ hc e _=>⟨o.slots,kp b o hc e⟩) (fun _ _ _ _ n=>n)
  (fun b o hc e=>⟨o,kp b o hc e⟩) (fun _ _ e=>e) (fun _ _ _ e=>e) (fun b ps e=>⟨#[],by rw [e];simp⟩) (fun m hm=>?_) (fun b u e=>?_) I.bare
 ·obtain ⟨_,f1,_,f3,f4,f5⟩:=hch b hb
  exact ⟨f3,f1,f4,f5⟩
 ·obtain ⟨o,es,ep,ho',r⟩:=hm
  exact ⟨o,es,ep,kp _ o (fun z=>(hch _ z).2.1 rfl) ho',r⟩
 ·refine (I.hok b u e).stay (fun c v hc' q=>kp c v ?_ q) (fun _ q=>q) fun _ _ q=>q
  rcases hc' with z|z
  ·rw [z];exact nch b u e
  ·exact nch c _ z
end
def Itz (K:PySem.W.Frag) (t u:Addr) (xs ys:List V):It:=
 ⟨fun i H=>SqT K H t xs∧SqT K H u ys∧i<xs.length∧i<ys.length,fun i H v H'=>∃T a b,H T=none∧v=.ref T∧H'=upd H T (.tup [a,b])∧xs[i]?=some a∧ys[i]?=some b,fun i H=>SqT K H t xs∧xs.length≤i⟩
def ztn (z TI TO i1 i2 t u:Addr) (i:Nat) (h:Heap):Prop:=
 h.get? z=some (fV .none TI TO)∧h.get? TI=some (dG (.ref i1) (.ref i2))∧(∃a b,h.get? TO=some (dG a b))∧h.get? i1=some (qF t i)∧h.get? i2=some (qF u i)
theorem aPn {P:Program} {w:World} {K:PySem.W.Frag} {elts:List Expr} {kt:Nat} {pos:Pos} {z TI TO i1 i2 t u:Addr} {xs ys:List V} (D:mF z TI TO i1 i2) :
  Turn P w K (.Tuple elts kt pos) (Itz K t u xs ys) [z,TI,TO,i1,i2] z (ztn z TI TO i1 i2 t u) where
 mem:=by simp
 obj:=fun i h st b hb=>by
  obtain ⟨e1,e2,⟨a,c,e3⟩,e4,e5⟩:=st
  simp only [List.mem_cons,List.not_mem_nil,or_false] at hb
  rcases hb with rfl|rfl|rfl|rfl|rfl
  ·exact ⟨_,e1,fun v z=>by cases (show Data.fields _=Data.cell v from z)⟩
  ·exact ⟨_,e2,fun v z=>by cases (show Data.seq _ _=Data.cell v from z)⟩
  ·exact ⟨_,e3,fun v z=>by cases (show Data.seq _ _=Data.cell v from z)⟩
  ·exact ⟨_,e4,fun v z=>by cases (show Data.fields _=Data.cell v from z)⟩
  ·exact ⟨_,e5,fun v z=>by cases (show Data.fields _=Data.cell v from z)⟩
 keep:=fun i h h' st k=>by
  obtain ⟨e1,e2,⟨a,c,e3⟩,e4,e5⟩:=st
  exact ⟨k z (by simp) _ e1,k TI (by simp) _ e2,⟨a,c,k TO (by simp) _ e3⟩,k i1 (by simp) _ e4,k i2 (by simp) _ e5⟩
 item:=by
  intro X hP hw hK hc i pins s σ H E I hf st hg
  subst hP hw hK
  obtain ⟨e1,e2,⟨a0,c0,e3⟩,e4,e5⟩:=st
  obtain ⟨ht,hu,l1,l2⟩:=hg
  obtain ⟨its,rv,pt,hz⟩:=I.tuple ht
  obtain ⟨jts,rw',pu,hz'⟩:=I.tuple hu
  obtain ⟨x,hx,rx⟩:=rv.get (List.getElem?_eq_getElem l1)
  obtain ⟨y,hy,ry⟩:=rw'.get (List.getElem?_eq_getElem l2)
  have fz:=hf z (by simp)
  have fO:=hf TO (by simp)
  have f1:=hf i1 (by simp)
  have f2:=hf i2 (by simp)
  refine aMz D e1 e2 e3 e4 e5 (show s.heap.IsTuple t its.toArray from pt) (show s.heap.IsTuple u jts.toArray from pu) (by simpa using hx) (by simpa using hy) (I.tup_ne ht fz) (I.tup_ne ht fO) (I.tup_ne ht f1) (I.tup_ne ht f2)
   (I.tup_ne hu fz) (I.tup_ne hu fO) (I.tup_ne hu f1) (I.tup_ne hu f2) fun h' a1 a2 a3 a4 a5 kp=>?_
  refine ⟨_,rfl,?_⟩
  have fT:H s.heap.objs.size=none:=I.hok.fresh (Nat.le_refl _)
  have I1:Inv X pins σ (upd H s.heap.objs.size (.tup [xs[i],ys[i]])) { s with heap:=h' }:=by
   refine I.drawn (ch:=[z,TO,i1,i2]) (its:=[x,y]) (fun b hb=>?_) (fun b o hb e=>?_) (Nat.le_refl _) (.cons rx (.cons ry .nil)) (small (by simp)) (.of a5 rfl ⟨_,a5,rfl,_,rfl⟩) (fun b hb=>?_)
   ·refine hf b ?_
    simp only [List.mem_cons,List.not_mem_nil,or_false] at hb ⊢
    rcases hb with h|h|h|h <;> simp [h]
   ·simp only [List.mem_cons,List.not_mem_nil,or_false,not_or] at hb
    exact kp b o hb.1 hb.2.1 hb.2.2.1 hb.2.2.2 e
   ·simp only [List.mem_cons,List.not_mem_nil,or_false] at hb
    rcases hb with rfl|rfl|rfl|rfl
    ·exact ⟨_,a1⟩
    ·exact ⟨_,a2⟩
    ·exact ⟨_,a3⟩
    ·exact ⟨_,a4⟩
  have nT:∀b∈[z,TI,TO,i1,i2],b≠s.heap.objs.size:=fun b hb=>by
   have e:∃o,s.heap.get? b=some o:=by
    simp only [List.mem_cons,List.not_mem_nil,or_false] at hb
    rcases hb with rfl|rfl|rfl|rfl|rfl
    ·exact ⟨_,e1⟩
    ·exact ⟨_,e2⟩
    ·exact ⟨_,e3⟩
    ·exact ⟨_,e4⟩
    ·exact ⟨_,e5⟩
   obtain ⟨o,e⟩:=e
   exact Nat.ne_of_lt (Heap.lt_size e)
  refine wpAny_letOwnedTupleGo_zip (s:={ s with heap:=h' }) a1 fun h2 z2 s2=>?_
  obtain ⟨g0,g1,g2,g3,g4,g5⟩:=fz
  have I2:Inv X pins σ (upd H s.heap.objs.size (.tup [xs[i],ys[i]])) { s with heap:=h2 }:=Inv.turned (s:={ s with heap:=h' }) I1 (t':=s.toks) (it:=z) (fun b o hb e=>(s2.2 b hb).trans e) (by rw [aM (nT z (by simp))];exact g0) g1 g3 g4 g5
  refine ⟨.ref s.heap.objs.size,_,I2,rfl,⟨_,_,_,fT,rfl,rfl,List.getElem?_eq_getElem l1,List.getElem?_eq_getElem l2⟩,?_,fun b hb=>by rw [aM (nT b hb)];exact (hf b hb).1⟩
  exact ⟨z2,s2.extBut _ _ D.h1 (kp TI _ D.h1 D.h5 D.h6 D.h7 e2),⟨_,_,s2.extBut _ _ D.h2 a2⟩,s2.extBut _ _ D.h3 a3,s2.extBut _ _ D.h4 a4⟩
 done:=by
  intro X hP hw hK hc i pins s σ H E I hf st hg
  subst hP hw hK
  obtain ⟨e1,e2,⟨a0,c0,e3⟩,e4,e5⟩:=st
  obtain ⟨ht,hl⟩:=hg
  obtain ⟨its,rv,pt,hz⟩:=I.tuple ht
  have hlen:=rv.length
  refine aNe (I.ok.hd hc) D e1 e2 e3 e4 (show s.heap.IsTuple t its.toArray from pt) (by simp;lia) (I.tup_ne ht (hf z (by simp))) fun h' kp=>⟨rfl,?_⟩
  refine Inv.aC7 (ch:=[z,TO,i1,i2]) I (fun b hb=>hf b ?_) fun b o hb e=>?_
  ·simp only [List.mem_cons,List.not_mem_nil,or_false] at hb ⊢
   rcases hb with h|h|h|h <;> simp [h]
  ·simp only [List.mem_cons,List.not_mem_nil,or_false,not_or] at hb
   exact kp b o hb.1 hb.2.1 hb.2.2.1 hb.2.2.2 e
 self:=fun _ _ _ _ _ st h=>wpAny_pyIter_zip st.1 h
section
variable {X:Cx}
def aPv (K:PySem.W.Frag) (ta:TA):TI:=fun σ H R=>ta σ H fun vs H1=>∃t u xs ys,vs=[.ref t,.ref u]∧SqT K H1 t xs∧SqT K H1 u ys∧R (Itz K t u xs ys) H1
theorem aQp {elts:List Expr} {kt:Nat} {tp:Pos} {a b:Expr} {ta:TA} {p pos:Pos} (hg:Gl X "zip") (hm:X.mg "zip"=none) (ha:PA X [a,b] ta) (hs:starEach [a,b] X.env=(false,eval a X.env)::starEach [b] X.env:=by rfl)
  (hs2:starEach [b] X.env=[(false,eval b X.env)]:=by rfl):PI X (.Tuple elts kt tp) (.Call (.Name "zip" p) [a,b] [] pos) (aPv X.K ta):=by
 intro pins s σ H R I h
 refine Call_ (lH I hg hm aM5 (PyProof.Rows.callWith_type1 (thn (ha pos pins s σ H _ I h) fun us s1 ⟨vs,H1,I1,r1,q1⟩=>?_) hs (by rw [hs2];rfl)))
 obtain ⟨t,u,xs,ys,e,ht,hu,q⟩:=q1
 subst e
 obtain ⟨its,rv,pt,hz⟩:=I1.tuple ht
 obtain ⟨jts,rw',pu,hz'⟩:=I1.tuple hu
 cases r1 with
 |cons r rr=>
  cases rr with
  |cons r' rr'=>
   cases rr'
   cases r
   cases r'
   refine aMi (show s1.heap.IsTuple t its.toArray from pt) (show s1.heap.IsTuple u jts.toArray from pu) ?_
   have z1:(zT1 s1.heap t).objs.size=s1.heap.objs.size+1:=Heap.size_push ..
   have z2:(zT2 s1.heap t u).objs.size=s1.heap.objs.size+2:=by rw [Heap.size_push,z1]
   have z3:(zT3 s1.heap t u).objs.size=s1.heap.objs.size+3:=by rw [Heap.size_push,z2]
   have z4:(zT4 s1.heap t u).objs.size=s1.heap.objs.size+4:=by rw [Heap.size_push,z3]
   have D:mF (zT4 s1.heap t u).objs.size (zT2 s1.heap t u).objs.size (zT3 s1.heap t u).objs.size s1.heap.objs.size (zT1 s1.heap t).objs.size:=by
    constructor <;> (show (_:Nat)≠(_:Nat);rw [Ne];intro h;simp only [z1,z2,z3,z4] at h;lia)
   have g5:(zT5 s1.heap t u).get? (zT4 s1.heap t u).objs.size=some (fV .none (zT2 s1.heap t u).objs.size (zT3 s1.heap t u).objs.size):=Heap.get?_push_size _ rfl
   have g4:(zT5 s1.heap t u).get? (zT3 s1.heap t u).objs.size=some (dG .none .none):=Heap.get?_push_of_some _ (Heap.get?_push_size _ rfl)
   have g3:(zT5 s1.heap t u).get? (zT2 s1.heap t u).objs.size=some (dG (.ref s1.heap.objs.size) (.ref (zT1 s1.heap t).objs.size)):=Heap.get?_push_of_some _ (Heap.get?_push_of_some _ (Heap.get?_push_size _ rfl))
   have g2:(zT5 s1.heap t u).get? (zT1 s1.heap t).objs.size=some (qF u 0):=Heap.get?_push_of_some _ (Heap.get?_push_of_some _ (Heap.get?_push_of_some _ (Heap.get?_push_size _ rfl)))
   have g1:(zT5 s1.heap t u).get? s1.heap.objs.size=some (qF t 0):=Heap.get?_push_of_some _ (Heap.get?_push_of_some _ (Heap.get?_push_of_some _ (Heap.get?_push_of_some _ (Heap.get?_push_size _ rfl))))
   have I2:Inv X pins σ H1 { s1 with heap:=zT5 s1.heap t u }:=I1.kept (t':=s1.toks) fun b o e=>Heap.get?_push_of_some _ (Heap.get?_push_of_some _ (Heap.get?_push_of_some _ (Heap.get?_push_of_some _ (Heap.get?_push_of_some _ e))))
   refine wpAny_pyIter_zip (s:={ s1 with heap:=zT5 s1.heap t u }) g5 ⟨_,_,_,_,H1,rfl,I2,aPn (xs:=xs) (ys:=ys) D,⟨g5,g3,⟨_,_,g4⟩,g1,g2⟩,fun b hb=>?_,q⟩
   have hb':s1.heap.objs.size≤b:=by
    simp only [List.mem_cons,List.not_mem_nil,or_false] at hb
    rcases hb with rfl|rfl|rfl|rfl|rfl
    ·rw [z4];exact Nat.le_add_right ..
    ·rw [z2];exact Nat.le_add_right ..
    ·rw [z3];exact Nat.le_add_right ..
    ·exact Nat.le_refl _
    ·rw [z1];exact Nat.le_add_right ..
   exact I1.aA1 hb' (I1.hok.fresh hb')
end
section
variable {X:Cx}
inductive Tk (K:PySem.W.Frag) (H:Hp):V→Bool→Prop
 |int {i}:Tk K H (.int i) false
 |str {x}:Tk K H (.str x) false
 |bl {b}:Tk K H (.bl b) false
 |non:Tk K H .non false
 |lst {a xs}:SqL K H a xs→Tk K H (.ref a) false
 |dct {a kvs}:H a=some (.dK kvs)→Tk K H (.ref a) false
 |tup {a xs}:SqT K H a xs→Tk K H (.ref a) true
def aVz (K:PySem.W.Frag):List V→Hp→VK→Prop:=fun xs H Q=>∃x b,xs=[x,.ty "tuple"]∧Tk K H x b∧Q (.bl b) H
theorem iG:bW X (.builtin "isinstance") (aVz X.K):=by
 intro pins s σ H xs us Q I r h
 obtain ⟨x,b,rfl,hx,q⟩:=h
 obtain ⟨u,v,rfl,rx,rT⟩:=r.two
 cases rT
 have f0:EP X pins σ Q (.bool b) s:=⟨.bl _,H,I,rfl,q⟩
 have f1:EP X pins σ Q (.bool b) { s with toks:=s.toks+1 }:=⟨.bl _,H,I.tok _,rfl,q⟩
 cases hx with
 |int=>obtain ⟨t,rfl⟩:=rx;exact IsiPair.int_tuple f1
 |str=>obtain ⟨t,rfl⟩:=rx;exact IsiPair.str_tuple f1
 |bl=>cases rx;exact IsiPair.bool_tuple f1
 |non=>cases rx;exact IsiPair.NoneType_tuple f1
 |lst hq=>
  cases rx
  obtain ⟨its,rv,⟨o,n,e,c,_⟩,hz⟩:=I.list hq
  exact IsiPair.list_tuple e c f1
 |dct hq=>
  cases rx
  obtain ⟨_,_,_,_,o,_,_,e,ex,_⟩:=I.hok _ _ hq
  exact IsiPair.dict_tuple e ex.1 f1
 |tup hq=>
  cases rx
  obtain ⟨its,rv,⟨o,e,c,_⟩,hz⟩:=I.tuple hq
  exact IsiPair.tuple_tuple e c f0
end
section
variable {X:Cx} {scope:Scope} {N:List Str} {wi:TI} {te:TE} {σ:St} {H:Hp} {Q:VK}
theorem jH {σ0:St} {j:Nat} (h0:σ0[j]?=some none):σ0=σ0.set j none:=by
 refine (List.ext_getElem? fun i=>?_)
 rw [List.getElem?_set]
 split
 ·rename_i hj
  subst hj
  split
  ·exact h0
  ·rename_i hlt
   exact List.getElem?_eq_none_iff.mpr (by lia)
 ·rfl
theorem aBc (xs:List V) (f:V→V) (σ0:St) (cap:Cap X scope N σ σ0) (hsz:xs.length≤sizeLine)
  (hw:∀R:It→Hp→Prop,(∀J:It,(∀H' i x,Same H H'→xs[i]?=some x→J.go i H'∧∀y H2,J.yld i H' y H2→H2=H'∧y=x)→(∀H',Same H H'→J.stop xs.length H')→R J H)→wi σ H R)
  (he:∀x∈xs,∀H' R l,Same H H'→(∀H2,Same H' H2→R (f x) H2)→te ((σ0.set 0 l).set 0 (some x)) H' R) (h0:σ0[0]?=some none)
  (q:∀D H',Same H H'→H' D=some (.lst (xs.map f))→Q (.ref D) H') :
  iZ X scope N wi (cJ 0) jV te σ H Q:=by
 refine ⟨σ0,cap,hw _ fun J go stop D hD=>?_⟩
 refine ⟨fun i m σ' H' ys=>i≤xs.length∧m=xs.length - i∧(∃l,σ'=σ0.set 0 l)∧Same H H'∧H' D=some (.lst ys)∧ys=(xs.take i).map f,⟨xs.length,Nat.zero_le _,rfl,⟨none,jH h0⟩,aW hD _,aK,rfl⟩,?_⟩
 rintro i m σ' H' ys ⟨hi,rfl,⟨l,rfl⟩,sm,hL,rfl⟩
 refine ⟨hL,?_⟩
 by_cases hlt:i<xs.length
 ·right
  obtain ⟨g1,g2⟩:=go H' i xs[i] sm (List.getElem?_eq_getElem hlt)
  refine ⟨g1,fun x H2 hy=>?_⟩
  obtain ⟨rfl,rfl⟩:=g2 x H2 hy
  unfold cJ jV
  dsimp only
  rw [if_pos rfl]
  refine he xs[i] (List.getElem_mem hlt) _ _ l sm fun H3 s3=>⟨s3 _ _ hL,?_,xs.length - (i+1),by lia,hlt,rfl,⟨some xs[i],?_⟩,?_,aK,?_⟩
  ·rw [List.length_map,List.length_take];lia
  ·rw [List.set_set]
  ·intro b o e
   rw [aM (aY e hD)]
   exact s3 _ _ (sm _ _ e)
  ·rw [List.take_add_one,List.getElem?_eq_getElem hlt,List.map_append]
   rfl
 ·left
  have e:i=xs.length:=by lia
  subst e
  refine ⟨stop _ sm,?_⟩
  rw [List.take_length] at hL
  exact q D _ sm hL
theorem aNm {K:PySem.W.Frag} {tl:TA} {t u:Addr} (xs ys:List V) (f:V→V→V) (σ0:St) (cap:Cap X scope N σ σ0) (hsz:xs.length≤sizeLine) (hl:xs.length=ys.length)
  (ht:SqT K H t xs) (hu:SqT K H u ys) (hw:∀R:List V→Hp→Prop,R [.ref t,.ref u] H→tl σ H R)
  (he:∀(i:Nat) (x y:V),xs[i]?=some x→ys[i]?=some y→∀H' R l1 l2,Same H H'→(∀H2,Same H' H2→R (f x y) H2)→te ((((σ0.set 0 l1).set 1 l2).set 0 (some x)).set 1 (some y)) H' R) (h0:σ0[0]?=some none) (h1:σ0[1]?=some none)
  (q:∀D H',Same H H'→H' D=some (.lst (List.zipWith f xs ys))→Q (.ref D) H') :
  iZ X scope N (aPv K tl) (aI9 K 2 (qQ (cJ 0) (qQ (cJ 1) aMf))) jV te σ H Q:=by
 refine ⟨σ0,cap,hw _ ⟨t,u,xs,ys,rfl,ht,hu,fun D hD=>?_⟩⟩
 refine ⟨fun i m σ' H' zs=>i≤xs.length∧m=xs.length - i∧(∃l1 l2,σ'=(σ0.set 0 l1).set 1 l2)∧Same H H'∧H' D=some (.lst zs)∧zs=(List.zipWith f xs ys).take i,⟨xs.length,Nat.zero_le _,rfl,⟨none,none,?_⟩,aW hD _,aK,rfl⟩,?_⟩
 ·rw [←jH h0];exact jH h1
 rintro i m σ' H' zs ⟨hi,rfl,⟨l1,l2,rfl⟩,sm,hL,rfl⟩
 refine ⟨hL,?_⟩
 by_cases hlt:i<xs.length
 ·right
  refine ⟨⟨sm.bB ht,sm.bB hu,hlt,by lia⟩,fun v H2 hy=>?_⟩
  obtain ⟨T,a,b,hT,rfl,rfl,ha,hb⟩:=hy
  have s2:Same H' (upd H' T (.tup [a,b])):=aW hT _
  refine ⟨T,[a,b],rfl,.inl (.inl aK),rfl,a,[b],rfl,b,[],rfl,rfl,?_⟩
  unfold jV
  dsimp only
  rw [if_pos rfl]
  refine he i a b ha hb _ _ l1 l2 (fun b o e=>s2 _ _ (sm _ _ e)) fun H3 s3=>⟨s3 _ _ (s2 _ _ hL),?_,xs.length - (i+1),by lia,hlt,rfl,⟨some a,some b,?_⟩,?_,aK,?_⟩
  ·rw [List.length_take,List.length_zipWith];lia
  ·rw [List.set_comm _ _ (show (1:Nat)≠0 by decide),List.set_set,List.set_set]
  ·intro c o e
   rw [aM (aY e hD)]
   exact s3 _ _ (s2 _ _ (sm _ _ e))
  ·rw [List.take_add_one,List.getElem?_zipWith,ha,hb]
   rfl
 ·left
  have e:i=xs.length:=by lia
  subst e
  refine ⟨⟨sm.bB ht,Nat.le_refl _⟩,?_⟩
  rw [List.take_of_length_le (by rw [List.length_zipWith];lia)] at hL
  exact q D _ sm hL
theorem aIb {K:PySem.W.Frag} {a:Addr} {xs:List V} {tl:TE} (hS:SqT K H a xs) (h:∀R:VK,R (.ref a) H→tl σ H R) (R:It→Hp→Prop)
  (q:∀J:It,(∀H' i x,Same H H'→xs[i]?=some x→J.go i H'∧∀y H2,J.yld i H' y H2→H2=H'∧y=x)→(∀H',Same H H'→J.stop xs.length H')→R J H):aQ7 K tl σ H R:=by
 refine h _ ⟨a,rfl,⟨xs,hS⟩,q _ (fun H' i x s e=>⟨⟨xs,x,s.bB hS,e⟩,fun y H2 hy=>?_⟩) fun H' s=>⟨xs,s.bB hS,Nat.le_refl _⟩⟩
 obtain ⟨e1,e2⟩:=hy
 have e3:=e2 xs (s.bB hS)
 rw [e] at e3
 cases e3
 exact ⟨e1,rfl⟩
end
section
variable {κ:Type} [DecidableEq κ]
def lY (kvs:List (κ × V)) (k:κ):Option V:=(kvs.find? fun kv=>decide (kv.1=k)).map (·.2)
def putK (kvs:List (κ × V)) (k:κ) (v:V):List (κ × V):=
 if (kvs.any fun kv=>decide (kv.1=k))=true then kvs.map (fun kv=>if kv.1=k then (kv.1,v) else kv) else kvs++[(k,v)]
def vZ (kvs:List (κ × V)) (k:κ):List (κ × V):=kvs.filter fun kv=>decide (kv.1≠k)
theorem pO {p:κ × V} {r:List (κ × V)} {k:κ} (e:p.1=k):lY (p::r) k=some p.2:=by simp [lY,List.find?_cons,e]
theorem pA {p:κ × V} {r:List (κ × V)} {k:κ} (e:¬ p.1=k):lY (p::r) k=lY r k:=by simp [lY,List.find?_cons,e]
theorem uC (k:κ):∀kvs:List (κ × V),(kvs.any fun kv=>decide (kv.1=k))=(lY kvs k).isSome
 |[]=>rfl
 |p::r=>by
  rw [List.any_cons]
  by_cases e:p.1=k
  ·simp only [pO e,decide_eq_true e,Bool.true_or,Option.isSome_some]
  ·rw [pA e,decide_eq_false e,Bool.false_or];exact uC k r
theorem pN (kvs:List (κ × V)) (k:κ) (v:V):(putK kvs k v).length≤kvs.length+1:=by
 unfold putK
 split
 ·rw [List.length_map];lia
 ·rw [List.length_append,List.length_cons,List.length_nil];lia
theorem tZ {kvs:List (κ × V)} {k:κ} (v:V) (h:lY kvs k=none):putK kvs k v=kvs++[(k,v)]:=by
 unfold putK
 rw [uC,h]
 exact if_neg (by decide)
theorem pP.vG {o:Option V} {u:Option Value} (r:pP o u):o.isSome=u.isSome:=by
 cases o with
 |none=>cases u with
  |none=>rfl
  |some _=>exact (show False from r).elim
 |some _=>cases u with
  |none=>exact (show False from r).elim
  |some _=>rfl
theorem KV.val {kvs:List (κ × V)} {vs:List (κ × Value)} (r:KV kvs vs) (k:κ):pP (lY kvs k) (valueAt vs k):=by
 unfold KV at r
 induction r with
 |nil=>exact True.intro
 |@cons p q ps qs h t ih=>
  obtain ⟨h1,h2⟩:=h
  by_cases e:p.1=k
  ·have e':q.1=k:=h1.symm.trans e
   have b:valueAt (q::qs) k=some q.2:=by simp [valueAt,List.find?_cons,e']
   rw [pO e,b];exact h2
  ·have e':¬ q.1=k:=fun z=>e (h1.trans z)
   have b:valueAt (q::qs) k=valueAt qs k:=by simp [valueAt,List.find?_cons,e']
   rw [pA e,b];exact ih
theorem KV.any {kvs:List (κ × V)} {vs:List (κ × Value)} (r:KV kvs vs) (k:κ):(kvs.any fun kv=>decide (kv.1=k))=vs.any fun kv=>decide (kv.1=k):=by
 unfold KV at r
 induction r with
 |nil=>rfl
 |cons h t ih=>rw [List.any_cons,List.any_cons,ih,h.1]
theorem KV.repl {kvs:List (κ × V)} {vs:List (κ × Value)} (r:KV kvs vs) (k:κ) {y:V} {u:Value} (ry:RelV y u) :
  KV (kvs.map fun kv=>if kv.1=k then (kv.1,y) else kv) (vs.map fun kv=>if kv.1=k then (kv.1,u) else kv):=by
 unfold KV at r ⊢
 induction r with
 |nil=>exact .nil
 |@cons p q ps qs h t ih=>
  rw [List.map_cons,List.map_cons]
  refine .cons ?_ ih
  obtain ⟨h1,h2⟩:=h
  by_cases e:p.1=k
  ·rw [if_pos e,if_pos (h1.symm.trans e)];exact ⟨h1,ry⟩
  ·rw [if_neg e,if_neg (fun z=>e (h1.trans z))];exact ⟨h1,h2⟩
theorem KV.put {kvs:List (κ × V)} {vs:List (κ × Value)} (r:KV kvs vs) (k:κ) {y:V} {u:Value} (ry:RelV y u):KV (putK kvs k y) (stored vs k u):=by
 unfold putK stored
 rw [r.any k]
 by_cases e:(vs.any fun kv=>decide (kv.1=k))=true
 ·rw [if_pos e,if_pos e];exact r.repl k ry
 ·rw [if_neg e,if_neg e];exact Paired.snoc r ⟨rfl,ry⟩
theorem KV.drop {kvs:List (κ × V)} {vs:List (κ × Value)} (r:KV kvs vs) (k:κ):KV (vZ kvs k) (without vs k):=by
 unfold KV at r ⊢
 unfold vZ without
 induction r with
 |nil=>exact .nil
 |@cons p q ps qs h t ih=>
  obtain ⟨h1,h2⟩:=h
  rw [List.filter_cons,List.filter_cons]
  by_cases e:p.1=k
  ·have a:¬ decide (p.1≠k)=true:=by simp [e]
   have b:¬ decide (q.1≠k)=true:=by simp [h1.symm.trans e]
   rw [if_neg a,if_neg b];exact ih
  ·have e':¬ q.1=k:=fun z=>e (h1.trans z)
   have a:decide (p.1≠k)=true:=by simp [e]
   have b:decide (q.1≠k)=true:=by simp [e']
   rw [if_pos a,if_pos b];exact .cons ⟨h1,h2⟩ ih
theorem KV.keys {kvs:List (κ × V)} {vs:List (κ × Value)} (r:KV kvs vs):kvs.map (·.1)=vs.map (·.1):=by
 unfold KV at r
 induction r with
 |nil=>rfl
 |cons h t ih=>rw [List.map_cons,List.map_cons,ih,h.1]
theorem KV.length {kvs:List (κ × V)} {vs:List (κ × Value)} (r:KV kvs vs):kvs.length=vs.length:=Paired.length r
theorem aNo (kvs:List (κ × V)) (k:κ):(vZ kvs k).length≤kvs.length:=List.length_filter_le _ _
end
theorem aBe {P:Program} {w:World} {k:Key} {u:Value} (r:RelV (kV k) u):(bC P w).is k u=true:=by
 cases k with
 |inl i=>obtain ⟨t,e⟩:=(show ∃t,u=Value.int i t from r);subst e;exact aFs P w i t
 |inr x=>obtain ⟨t,e⟩:=(show ∃t,u=Value.str x t from r);subst e;exact aE0 P w x t
theorem aBu {P:Program} {w:World}:∀{ks:List Key} {us:List Value},Vals (ks.map kV) us→ItemsAre (bC P w) ks us
 |[],_,r=>by rw [List.map_nil] at r;cases r;exact .nil
 |k::ks,_,r=>by
  rw [List.map_cons] at r
  cases r with
  |cons h t=>exact .cons (aBe h) (aBu t)
abbrev KT (H:Hp):List (List Key × V)→List (List Key × Addr × Value)→Prop:=Paired fun p q=>p.1=q.1∧H q.2.1=some (.tup (p.1.map kV))∧RelV p.2 q.2.2
theorem KT.val {H:Hp} {kvs:List (List Key × V)} {xs:List (List Key × Addr × Value)} (r:KT H kvs xs) (k:List Key):pP (lY kvs k) ((atKey xs k).map (·.2)):=by
 induction r with
 |nil=>exact True.intro
 |@cons p q ps qs h t ih=>
  obtain ⟨h1,_,h2⟩:=h
  by_cases e:p.1=k
  ·have e':q.1=k:=h1.symm.trans e
   have b:atKey (q::qs) k=some q.2:=by simp [atKey,List.find?_cons,e']
   rw [pO e,b];exact h2
  ·have e':¬ q.1=k:=fun z=>e (h1.trans z)
   have b:atKey (q::qs) k=atKey qs k:=by simp [atKey,List.find?_cons,e']
   rw [pA e,b];exact ih
theorem KT.repl {H:Hp} {kvs:List (List Key × V)} {xs:List (List Key × Addr × Value)} (r:KT H kvs xs) (k:List Key) {y:V} {u:Value} (ry:RelV y u) :
  KT H (kvs.map fun kv=>if kv.1=k then (kv.1,y) else kv) (xs.map (putAt k u)):=by
 induction r with
 |nil=>exact .nil
 |@cons p q ps qs h t ih=>
  rw [List.map_cons,List.map_cons]
  refine .cons ?_ ih
  obtain ⟨h1,h2,h3⟩:=h
  unfold putAt
  by_cases e:p.1=k
  ·rw [if_pos e,if_pos (h1.symm.trans e)];exact ⟨h1,h2,ry⟩
  ·rw [if_neg e,if_neg (fun z=>e (h1.trans z))];exact ⟨h1,h2,h3⟩
theorem KT.put {H:Hp} {kvs:List (List Key × V)} {xs:List (List Key × Addr × Value)} (r:KT H kvs xs) (k:List Key) {b:Addr} {y:V} {u:Value} (hb:H b=some (.tup (k.map kV))) (ry:RelV y u) :
  KT H (putK kvs k y) (storedH xs k b u):=by
 have e:(kvs.any fun kv=>decide (kv.1=k))=(atKey xs k).isSome:=by
  rw [uC,(r.val k).vG,Option.isSome_map]
 unfold putK storedH
 rw [e]
 by_cases q:(atKey xs k).isSome=true
 ·rw [if_pos q,if_pos q];exact r.repl k ry
 ·rw [if_neg q,if_neg q];exact Paired.snoc r ⟨rfl,hb,ry⟩
theorem KT.keeps {H H':Hp} {kvs:List (List Key × V)} {xs:List (List Key × Addr × Value)} (r:KT H kvs xs) (ht:∀b ys,H b=some (.tup ys)→H' b=some (.tup ys)):KT H' kvs xs:=
 Paired.aUr r fun _ _ z=>⟨z.1,ht _ _ z.2.1,z.2.2⟩
section
variable {P:Program} {w:World} {H:Hp} {h:Heap} {a:Addr}
theorem aSw {u:HO} (ok:HOk P w H h) (e:Rd H a u):cT P w H h a u:=e.ok ok
theorem aJr {kvs:List (Key × V)} (ok:HOk P w H h) (e:Rd H a (.dK kvs)):kvs.length≤sizeLine∧(a == sysModules)=false∧∃vs,KV kvs vs∧h.DictOf (bC P w) a vs:=
 show cT P w H h a (.dK kvs) from aSw ok e
theorem sV {kvs:List (Key × V)} (ok:HOk P w H h) (e:H a=some (.dK kvs)):kvs.length≤sizeLine∧(a == sysModules)=false∧∃vs,KV kvs vs∧h.DictOf (bC P w) a vs:=aJr ok (.inl e)
theorem aCm {ks:List Key} (ok:HOk P w H h) (e:H a=some (.tup (ks.map kV))):(tupleKind (bC P w)).is h ks a:=by
 obtain ⟨_,its,r,⟨o,h1,h2,n,h3⟩,_⟩:=(show cT P w H h a (.tup (ks.map kV)) from ok a _ e)
 exact ⟨o,its.toArray,n,h1,h2,h3,by simpa using aBu r⟩
theorem aJt {kvs:List (List Key × V)} (ok:HOk P w H h) (e:Rd H a (.dT kvs)):kvs.length≤sizeLine∧(a == sysModules)=false ∧
  ∃xs,KT H kvs xs∧h.DictOfH (tupleKind (bC P w)) a xs:=by
 obtain ⟨z,y,xs,r,o,es,ep,h1,h2,h3,h4,h5⟩:=(show cT P w H h a (.dT kvs) from aSw ok e)
 refine ⟨z,y,xs,r,o,es,ep,h1,h2,h3,h4,fun x hx=>?_,h5⟩
 have all:∀{l:List (List Key × V)} {m:List (List Key × Addr × Value)},KT H l m→∀x∈m,(tupleKind (bC P w)).is h x.1 x.2.1:=by
  intro l m q
  induction q with
  |nil=>intro x hx;exact nomatch hx
  |@cons p q ps qs hq t ih=>
   intro x hx
   rcases List.mem_cons.mp hx with e|hx
   ·subst e
    exact aCm ok (by rw [←hq.1];exact hq.2.1)
   ·exact ih x hx
 exact all r x hx
theorem aWm {kvs:List (List Key × V)} (ok:HOk P w H h) (e:H a=some (.dT kvs)):kvs.length≤sizeLine∧(a == sysModules)=false ∧
  ∃xs,KT H kvs xs∧h.DictOfH (tupleKind (bC P w)) a xs:=aJt ok (.inl e)
end
def aNr (H:Hp) (a:Addr) (y:V) (r:Option V):Prop:=
 (∃kvs k,Rd H a (.dK kvs)∧y=kV k∧r=lY kvs k)∨∃kvs k b,Rd H a (.dT kvs)∧y=.ref b∧H b=some (.tup (k.map kV))∧r=lY kvs k
def aK4 (H:Hp) (a:Addr) (y v:V) (H':Hp):Prop:=
 (∃kvs k,H a=some (.dK kvs)∧y=kV k∧kvs.length<sizeLine∧H'=upd H a (.dK (putK kvs k v))) ∨
 ∃kvs k b,H a=some (.dT kvs)∧y=.ref b∧H b=some (.tup (k.map kV))∧kvs.length<sizeLine∧H'=upd H a (.dT (putK kvs k v))
theorem aK4.k {H:Hp} {a:Addr} {kvs:List (Key × V)} {k:Key} {v:V} (e:H a=some (.dK kvs)) (hl:kvs.length<sizeLine):aK4 H a (kV k) v (upd H a (.dK (putK kvs k v))):=.inl ⟨kvs,k,e,rfl,hl,rfl⟩
section
variable {X:Cx} {pins:List (Addr × Obj)} {σ:St} {H:Hp} {s:Shared} {a:Addr} {y v:V} {u r:Value} {o:Option V} {A:Around} {E:Value→Shared→Prop}
theorem Inv.big (I:Inv X pins σ H s):sysModules<s.heap.objs.size:=by
 have h:mainGlobals<s.heap.objs.size:=(I.mod.glob.keeps I.bk).lt
 exact Nat.lt_trans (by decide) h
theorem aLz {Q:Value→Shared→Prop} (hu:A.units+1<cLine) (I:Inv X pins σ H s) (g:aNr H a y (some v)) (ry:RelV y u) (h:∀w' s',Inv X pins σ H s'→RelV v w'→Q w' s') :
  wpAny (model X.prog X.w) A (getItem (.ref a) u) Q E s:=by
 rcases g with ⟨kvs,k,e,ey,l⟩|⟨kvs,k,b,e,ey,eb,l⟩
 ·subst ey
  obtain ⟨z,hd,vs,rel,dd⟩:=aJr I.hok e
  obtain ⟨w',hw,rw'⟩:=pP.some_of (v:=v) (o:=valueAt vs k) (by rw [l];exact rel.val k)
  exact wpAny_getItem_of (aBe ry) dd.mapOf hw (h w' _ (I.tok _) rw')
 ·subst ey
  cases (show u=Value.ref b from ry)
  obtain ⟨z,hd,xs,rel,dd⟩:=aJt I.hok e
  obtain ⟨w',hw,rw'⟩:=pP.some_of (v:=v) (o:=(atKey xs k).map (·.2)) (by rw [l];exact rel.val k)
  obtain ⟨p,hp,hp2⟩:=Option.map_eq_some_iff.mp hw
  refine wpAny_getItem_heap (tupleKind_room_in1 hu) (aCm I.hok eb) dd hp ?_
  rw [hp2]
  exact h w' _ (I.tok _) rw'
theorem aQd {Q:Value→Shared→Prop} (hu:A.units+1<cLine) (I:Inv X pins σ H s) (g:aNr H a y o) (ry:RelV y u) (h:∀s',Inv X pins σ H s'→Q (.bool (!o.isSome)) s') :
  wpAny (model X.prog X.w) A (compareOp .NotIn u (.ref a)) Q E s:=by
 rcases g with ⟨kvs,k,e,ey,l⟩|⟨kvs,k,b,e,ey,eb,l⟩
 ·subst ey
  obtain ⟨z,hd,vs,rel,dd⟩:=aJr I.hok e
  refine wpAny_notIn_of (aBe ry) hd dd.mapOf ?_
  rw [←(rel.val k).vG,←l]
  exact h _ (I.tok _)
 ·subst ey
  cases (show u=Value.ref b from ry)
  obtain ⟨z,hd,xs,rel,dd⟩:=aJt I.hok e
  refine wpAny_notIn_heap (tupleKind_room_in1 hu) (aCm I.hok eb) hd dd ?_
  have q:=(rel.val k).vG
  rw [Option.isSome_map] at q
  rw [←q,←l]
  exact h _ (I.tok _)
theorem xA {h':Heap} {t':Nat} {ob:HO} (I:Inv X pins σ H s) (mu:Mut (H a)) (hs:Heap.SameBut a s.heap h') (he:∃q,h'.get? a=some q) (new:cT X.prog X.w (upd H a ob) h' a ob) :
  Inv X pins σ (upd H a ob) { s with heap:=h',toks:=t' }:=
 I.write (x:=a) (e:=a) mu (.inl rfl) (fun b q hb z=>(hs.2 b hb).trans z) he new
theorem aH0 {P:Program} {w:World} {H':Hp} {h':Heap} {kvs:List (Key × V)} {vs:List (Key × Value)} (z:kvs.length≤sizeLine) (hd:(a == sysModules)=false) (rel:KV kvs vs) (dd:h'.DictOf (bC P w) a vs) :
  cT P w H' h' a (.dK kvs):=⟨z,hd,vs,rel,dd⟩
theorem aMq {H':Hp} {Q:Unit→Shared→Prop} (hu:A.units+1<cLine) (I:Inv X pins σ H s) (g:aK4 H a y v H') (ry:RelV y u) (rv:RelV v r) (h:∀s',Inv X pins σ H' s'→Q () s') :
  wpAny (model X.prog X.w) A (setItem (.ref a) u r) Q E s:=by
 rcases g with ⟨kvs,k,e,ey,l,eH⟩|⟨kvs,k,b,e,ey,eb,l,eH⟩
 ·subst ey eH
  obtain ⟨z,hd,vs,rel,dd⟩:=sV I.hok e
  have hz:vs.length≤sizeLine:=by rw [←rel.length];exact z
  have hl:(putK kvs k v).length≤sizeLine:=by have:=pN kvs k v;lia
  refine wpAny_setItem_pairs (hsz:=hz) (aBe ry) dd fun h' dd' hs=>h _ ?_
  have he:∃q,h'.get? a=some q:=let ⟨q,_,_,hq,_⟩:=dd';⟨q,hq⟩
  exact xA I (by rw [e];exact True.intro) hs he (aH0 hl hd (rel.put k rv) dd')
 ·subst ey eH
  cases (show u=Value.ref b from ry)
  obtain ⟨z,hd,xs,rel,dd⟩:=aWm I.hok e
  have hz:xs.length≤sizeLine:=by rw [←Paired.length rel];exact z
  have hl:(putK kvs k v).length≤sizeLine:=by have:=pN kvs k v;lia
  refine wpAny_setItem_heap (hsz:=hz) (tupleKind_room_in1 hu) (aCm I.hok eb) dd fun h' dd' hs=>h _ ?_
  obtain ⟨q,es,ep,hq,h2,h3,h4,_,h5⟩:=dd'
  refine xA I (by rw [e];exact True.intro) hs ⟨q,hq⟩ ⟨hl,hd,_,(rel.put k eb rv).keeps fun c ys ec=>?_,q,es,ep,hq,h2,h3,h4,h5⟩
  rw [aM (aEp ec e (fun z=>nomatch z))]
  exact ec
end
section
variable {X:Cx} {pins:List (Addr × Obj)} {σ:St} {H:Hp} {s:Shared} {a:Addr} {kvs:List (Key × V)} {k:Key} {u:Value} {A:Around} {E:Value→Shared→Prop}
theorem aWv {v:V} {more:List Value} {Q:Value→Shared→Prop} (I:Inv X pins σ H s) (e:H a=some (.dK kvs)) (ry:RelV (kV k) u) (l:lY kvs k=some v) (hm:more=[]∨∃x,more=[x])
  (h:∀w' s',Inv X pins σ (upd H a (.dK (vZ kvs k))) s'→RelV v w'→Q w' s'):wpAny (model X.prog X.w) A (call (.builtin "dict.pop") (.ref a::u::more)) Q E s:=by
 obtain ⟨z,hd,vs,rel,dd⟩:=sV I.hok e
 obtain ⟨w',hw,rw'⟩:=pP.some_of (v:=v) (o:=valueAt vs k) (by rw [←l];exact rel.val k)
 have hp:(keyPart u).isSome=true:=by
  cases k with
  |inl i=>obtain ⟨t,q⟩:=(show ∃t,u=Value.int i t from ry);subst q;rfl
  |inr x=>obtain ⟨t,q⟩:=(show ∃t,u=Value.str x t from ry);subst q;rfl
 have ha:argsOk "dict.pop" ⟨.ref a::u::more,[]⟩:=by
  rcases hm with q|⟨x,q⟩
  ·subst q;exact PySem.F.args_dict_pop_2 _ _
  ·subst q;exact PySem.F.args_dict_pop_3 _ _ _
 refine call_meetsIn PySem.F.slot_dict_pop dd.typeIs PySem.F.entry_dict_pop ha (meets_dict_pop_there (bC X.prog X.w) a (aBe ry) more hm hp)
  ⟨vs,w',dd,by rw [←rel.length];exact z,hw,fun h' dd' hs=>h w' _ ?_ rw'⟩
 have he:∃q,h'.get? a=some q:=let ⟨q,_,_,hq,_⟩:=dd';⟨q,hq⟩
 exact xA I (by rw [e];exact True.intro) hs he (aH0 (Nat.le_trans (aNo kvs k) z) hd (rel.drop k) dd')
theorem aQo {Q:Value→Shared→Prop} (I:Inv X pins σ H s) (e:H a=some (.dK kvs)) (h:∀s',Inv X pins σ (upd H a (.dK [])) s'→Q .none s'):wpAny (model X.prog X.w) A (call (.builtin "dict.clear") [.ref a]) Q E s:=by
 obtain ⟨z,hd,vs,rel,dd⟩:=sV I.hok e
 refine call_meetsIn PySem.F.slot_dict_clear dd.typeIs PySem.F.entry_dict_clear (PySem.F.args_dict_clear_1 _) (meets_dict_clear (bC X.prog X.w) a) ⟨vs,dd,by rw [←rel.length];exact z,fun h' dd' hs=>h _ ?_⟩
 have he:∃q,h'.get? a=some q:=let ⟨q,_,_,hq,_⟩:=dd';⟨q,hq⟩
 exact xA (t':=s.toks) I (by rw [e];exact True.intro) hs he (aH0 (Nat.zero_le _) hd .nil dd')
end
def aUw (i:Expr):Prop:=∀ov iv,subscripted i false ov iv=operate [ov,iv] (getItem ov iv)
theorem aRo {prog:Program} {w:World} {A:Around} {E:Value→Shared→Prop} {s:Shared} {env:Env} {value slice:Expr} {pos:Pos} {T id:String} {Q:Value→Shared→Prop}
  (hl:typeLookup (.type T) "__getitem__"=pure (some (.builtin id))) (hs:aUw slice)
  (h:wpAny (model prog w) A (eval value env) (fun o s₁=>wpAny (model prog w) A (eval slice env) (fun i s₂=>s₂.TypeIs o T∧wpAny (model prog w) A (getItem o i) Q E s₂) E s₁) E s) :
  wpAny (model prog w) A (eval (.Subscript value slice pos) env) Q E s:=by
 refine Subscript_ (wpAny_mono h (fun o s₁ h₁=>wpAny_mono h₁ (fun i s₂ h₂=>?_) fun _ _ x=>x) fun _ _ x=>x)
 obtain ⟨hT,h₂⟩:=h₂
 unfold subscriptTail
 refine wpAny_bind ?_
 rw [getitemInPython_of_ne hT.not_modules]
 refine wpAny_bind (wpAny_specialOf hT hl ?_)
 have fin:wpAny (model prog w) A (subscripted slice false o i) (fun r s₃=>wpAny (model prog w) A (letTemporaryGo value o r >>= fun _=>pure r) Q E s₃) E s₂:=by
  rw [hs o i]
  exact wpAny_operating (wpAny_mono h₂ (fun r s₃ h₃=>wpAny_bind (wpAny_letTemporaryGo (wpAny_pure h₃))) fun _ _ x=>x)
 first
  |exact wpAny_pure (wpAny_bind fin)
  |exact wpAny_bind (wpAny_pure (wpAny_bind fin))
  |exact wpAny_bind fin
theorem aGt {X:Cx} {pins:List (Addr × Obj)} {σ:St} {H:Hp} {s:Shared} {a:Addr} {y:V} {o:Option V} (I:Inv X pins σ H s) (g:aNr H a y o):s.TypeIs (.ref a) "dict":=by
 rcases g with ⟨kvs,k,e,_,_⟩|⟨kvs,k,b,e,_,_,_⟩
 ·obtain ⟨_,_,vs,_,dd⟩:=aJr I.hok e
  exact dd.typeIs
 ·obtain ⟨_,_,xs,_,dd⟩:=aJt I.hok e
  exact dd.typeIs
def aSv (td ty:TE):TE:=fun σ H Q=>td σ H fun x H1=>ty σ H1 fun y H2=>∃a v,x=.ref a∧aNr H2 a y (some v)∧Q v H2
def aKj (ty td:TE):TE:=fun σ H Q=>ty σ H fun y H1=>td σ H1 fun x H2=>∃a o,x=.ref a∧aNr H2 a y o∧Q (.bl (!o.isSome)) H2
def aSx (td ty tv:TE):TS:=fun D σ H=>tv σ H fun v H1=>td σ H1 fun x H2=>ty σ H2 fun y H3=>∃a H4,x=.ref a∧aK4 H3 a y v H4∧D.nx σ H4
section
variable {X:Cx} {o i e value:Expr} {pos pos' tpos:Pos} {td ty tv:TE}
theorem aRv (hu:X.A.units+1<cLine) (ho:PE X o td) (hi:PE X i ty) (hs:aUw i):PE X (.Subscript o i pos) (aSv td ty):=by
 intro pins s σ H Q I h
 refine aRo PySem.F.slot_dict_getitem.lookup hs (thn (ho pins s σ H _ I h) fun u s1 ⟨x,H1,I1,rx,q1⟩=>thn (hi pins s1 σ H1 _ I1 q1) fun iv s2 ⟨y,H2,I2,ry,a,v,ex,g,q2⟩=>?_)
 subst ex
 obtain rfl:u=Value.ref a:=rx
 exact ⟨aGt I2 g,aLz hu I2 g ry fun w' s3 I3 rw'=>⟨v,H2,I3,rw',q2⟩⟩
theorem aMy (hu:X.A.units+1<cLine) (hi:PE X i ty) (ho:PE X o td):PC X .NotIn i o (aKj ty td):=by
 intro pins s σ H Q I h
 refine thn (hi pins s σ H _ I h) fun iv s1 ⟨y,H1,I1,ry,q1⟩=>thn (ho pins s1 σ H1 _ I1 q1) fun u s2 ⟨x,H2,I2,rx,a,ov,ex,g,q2⟩=>?_
 subst ex
 obtain rfl:u=Value.ref a:=rx
 exact aQd hu I2 g ry fun s3 I3=>⟨.bl (!ov.isSome),H2,I3,rfl,q2⟩
theorem aQf (hu:X.A.units+1<cLine) (ho:PE X o td) (hi:PE X i ty) (hv:PE X value tv) (hs:swapsWith value (some (.Subscript o i pos')) pos.line X.env=pure false) :
  PS X (.Assign [.Subscript o i pos'] value pos) (aSx td ty tv):=by
 intro pins s σ H D I h
 refine wpAny_Assign_Subscript (thn (hv pins s σ H _ I h) fun r s1 ⟨v,H1,I1,rv,q1⟩=>thn (ho pins s1 σ H1 _ I1 q1) fun u s2 ⟨x,H2,I2,rx,q2⟩=>thn (hi pins s2 σ H2 _ I2 q2) fun iv s3 ⟨y,H3,I3,ry,a,H4,ex,g,q3⟩=>?_) hs
 subst ex
 obtain rfl:u=Value.ref a:=rx
 exact aMq hu I3 g ry rv fun s4 I4=>⟨σ,H4,I4,q3⟩
end
theorem aNw {P:Program} {w:World} {H:Hp} (h:Heap) (hb:sysModules<h.objs.size):cT P w H (h.push { cls:=.type "dict",data:=.dict #[] }) h.objs.size (.dK []):=
 ⟨Nat.zero_le _,beq_eq_false_iff_ne.mpr (Ne.symm (Nat.ne_of_lt hb)),[],.nil,Heap.DictOf.new h⟩
def aO7:TE:=fun _ H Q=>∀p,H p=none→Q (.ref p) (upd H p (.dK []))
section
variable {X:Cx} {pos:Pos}
theorem aNb:PE X (.Dict [] [] pos) aO7:=fun pins s σ H Q I h=>
 wpAny_Dict_empty ⟨.ref s.heap.objs.size,_,I.laid (a:=s.heap.objs.size) (o:=.dK []) (t':=s.toks) (fun _ _ q=>Heap.get?_push_of_some _ q) (Nat.le_refl _) (aNw s.heap I.big),rfl,h _ (I.hok.fresh (Nat.le_refl _))⟩
end
def oH (kvs more:List (Key × V)):List (Key × V):=more.foldl (fun acc kv=>putK acc kv.1 kv.2) kvs
theorem KV.merge:∀{more:List (Key × V)} {rs:List (Key × Value)} {kvs:List (Key × V)} {vs:List (Key × Value)},KV more rs→KV kvs vs→KV (oH kvs more) (merged vs rs):=by
 intro more rs kvs vs r
 unfold KV at r
 induction r generalizing kvs vs with
 |nil=>intro q;exact q
 |@cons p q ps qs h t ih=>
  intro r0
  have e:KV (putK kvs p.1 p.2) (stored vs q.1 q.2):=by
   have:=r0.put p.1 h.2
   rw [←h.1];exact this
  exact ih e
theorem qP:∀(more kvs:List (Key × V)),(oH kvs more).length≤kvs.length+more.length
 |[],kvs=>by show kvs.length≤kvs.length+0;lia
 |p::r,kvs=>by
  have h1:=qP r (putK kvs p.1 p.2)
  have h2:=pN kvs p.1 p.2
  show (oH (putK kvs p.1 p.2) r).length≤_
  rw [List.length_cons];lia
section
variable {X:Cx} {pins:List (Addr × Obj)} {σ:St} {H:Hp} {s:Shared} {a:Addr} {y d:V} {u r:Value} {o:Option V} {A:Around} {E:Value→Shared→Prop}
end
section
variable {X:Cx} {o e f:Expr} {apos cpos:Pos} {td ty tx:TE}
end
section
variable {X:Cx} {pins:List (Addr × Obj)} {σ:St} {H:Hp} {s:Shared} {a:Addr} {kvs:List (Key × V)} {A:Around} {E:Value→Shared→Prop}
end
section
variable {X:Cx} {pins:List (Addr × Obj)} {σ:St} {H:Hp} {s:Shared} {a:Addr} {y:V} {u:Value} {A:Around} {E:Value→Shared→Prop}
end
section
variable {X:Cx}
end
section
variable {κ:Type} [DecidableEq κ]
theorem aRt {kvs:List (κ × V)} {k:κ} {v:V} (h:lY kvs k=some v):k∈kvs.map (·.1):=by
 have q:(kvs.any fun kv=>decide (kv.1=k))=true:=by
  rw [uC,h]
  all_goals rfl
 obtain ⟨p,hp,e⟩:=List.any_eq_true.mp q
 exact List.mem_map.mpr ⟨p,hp,of_decide_eq_true e⟩
end
structure VE (X:Cx) (e:Expr) (t:TE):Prop where
 out:PE X e t
structure VT (X:Cx) (e:Expr) (t:TT):Prop where
 out:PT X e t
structure VW (X:Cx) (e:Expr) (t:TT):Prop where
 out:PW X e t
structure VA (X:Cx) (es:List Expr) (t:TA):Prop where
 out:PA X es t
structure VS (X:Cx) (st:Stmt) (t:TS):Prop where
 out:PS X st t
structure VSs (X:Cx) (st:List Stmt) (t:TS):Prop where
 out:PSs X st t
structure VI (X:Cx) (tg iter:Expr) (t:TI):Prop where
 out:PI X tg iter t
structure VG (X:Cx) (tg:Expr) (t:TG):Prop where
 out:PG X tg t
structure VGs (X:Cx) (tg:List Expr) (t:TGs):Prop where
 out:PGs X tg t
structure VO (X:Cx) (e:Option Expr) (t:TO):Prop where
 out:PO X e t
structure VF (X:Cx) (ifs:List Expr) (t:TT):Prop where
 out:aPu X ifs t
section
variable {X:Cx} {a b c e:Expr} {es:List Expr} {ta tb tc te:TE} {t:TA} {tA tB':TT} {pos p:Pos} {x:Str}
theorem vv (i:Nat) {x:Str} {pos:Pos} (hN:X.N[i]?=some x:=by rfl) (hv:Vis X.env.scope x:=by trivial) (hd:(x == ("__debug__":Str))=false:=by decide)
  (hcd:(x == ("__classdict__":Str))=false:=by decide):VE X (.Name x pos) (aMl i):=⟨pv i hN hv hd hcd⟩
theorem qW {v:V} (hg:Gl X x) (hm:∃u,X.mg x=some u∧RelV v u) (hd:(x == ("__debug__":Str))=false:=by decide):VE X (.Name x pos) (tC v):=⟨aWc hg hm hd⟩
theorem eQ {v:V} {u:Value} (hg:Gl X x) (hm:X.mg x=none) (hv:bootBuiltins x=some u) (r:RelV v u) (hn:x≠"__name__":=by decide) (hd:(x == ("__debug__":Str))=false:=by decide):VE X (.Name x pos) (tC v):=⟨aQx hg hm hv r hn hd⟩
theorem aG {i j}:VE X (.Constant (.int i) j pos) (tC (.int i)):=⟨aUy⟩
theorem oE {b j}:VE X (.Constant (.bool b) j pos) (tC (.bl b)):=⟨aVu⟩
theorem aNi {j}:VE X (.Constant .none j pos) (tC .non):=⟨aUi⟩
theorem bF {x j}:VE X (.Constant (.str x) j pos) (tC (.str x)):=⟨aUu⟩
theorem bO {op:Operator} {r:R2} (ho:OpR X (binaryOp op) r) (ha:VE X a ta) (hb:VE X b tb):VE X (.BinOp a op b pos) (tOp r ta tb):=⟨aWt ho ha.1 hb.1⟩
theorem cU {op:CmpOp} {r:R2} (ho:OpR X (compareOp op) r) (ha:VE X a ta) (hb:VE X b tb) (hm:behindInMarks op b=false):VE X (.Compare a [op] [b] pos) (tOp r ta tb):=⟨aQt ho ha.1 hb.1 hm⟩
theorem bY {op:CmpOp} {r:R2} (ho:OpR X (compareOp op) r) (ha:VE X a ta) (hb:VE X b tb) (hm:behindInMarks op b=false):VT X (.Compare a [op] [b] pos) (aKk (tOp r ta tb)):=⟨aQ1 ho ha.1 hb.1 hm⟩
theorem aOz {op op':CmpOp} {r r':R2} (ho:OpR X (compareOp op) r) (ho':OpR X (compareOp op') r') (ha:VE X a ta) (hb:VE X b tb) (hc:VE X c tc)
  (hm:lastMarks [op,op'] [b,c]=false:=by with_unfolding_all rfl):VE X (.Compare a [op,op'] [b,c] pos) (aCo r r' ta tb tc):=⟨aOa ho ho' ha.1 hb.1 hc.1 hm⟩
theorem xO {op op':CmpOp} {r r':R2} (ho:OpR X (compareOp op) r) (ho':OpR X (compareOp op') r') (ha:VE X a ta) (hb:VE X b tb) (hc:VE X c tc)
  (hm:lastMarks [op,op'] [b,c]=false:=by with_unfolding_all rfl):VT X (.Compare a [op,op'] [b,c] pos) (aKk (aCo r r' ta tb tc)):=⟨aN0 ho ho' ha.1 hb.1 hc.1 hm⟩
theorem gW {op} (h:VE X a te):VE X (.BoolOp op [a] pos) te:=⟨aVg h.1⟩
theorem fX {rest:List Expr} (ha:VE X a ta) (hb:VE X (.BoolOp .And (b::rest) pos) tb):VE X (.BoolOp .And (a::b::rest) pos) (aSy ta tb):=⟨aTl ha.1 hb.1⟩
theorem aWs {rest:List Expr} (ha:VE X a ta) (hb:VE X (.BoolOp .Or (b::rest) pos) tb):VE X (.BoolOp .Or (a::b::rest) pos) (aVy ta tb):=⟨aV1 ha.1 hb.1⟩
theorem aTa (ha:VE X a ta):VE X (.UnaryOp .Not a pos) (aSs ta):=⟨aU9 ha.1⟩
theorem aGw (hc:VT X c tA) (ha:VE X a ta) (hb:VE X b tb):VE X (.IfExp c a b pos) (tIf tA ta tb):=⟨aO5 hc.1 ha.1 hb.1⟩
theorem aC:VA X [] zJ:=⟨aT0⟩
theorem aD (ha:VE X e te) (hr:VA X es t) (hp:cO e=true:=by rfl):VA X (e::es) (dJ te t):=⟨aW5 ha.1 hr.1 hp⟩
theorem aV {k:Nat} {ps:List Str} {sp:Sp} (G:Ok X.prog X.w X.K X.mg X.base k x ps sp) (hr:Room k X.A) (hg:Gl X x) (ha:VA X (e::es) t) (hdb:(x == ("__debug__":Str))=false:=by decide)
  (hp:cO e=true:=by rfl) (hpl:(backTo pos (starEach es X.env)).any (·.1)=false:=by rfl) :
  VE X (.Call (.Name x p) (e::es) [] pos) (aAa sp [] E0 t):=⟨aWk G hr hg ha.1 hdb (aN hp) hpl⟩
theorem aU0 {k:Nat} {ps:List Str} {sp:Sp} (G:Ok X.prog X.w X.K X.mg X.base k x ps sp) (hr:Room k X.A) (hg:Gl X x) (hdb:(x == ("__debug__":Str))=false:=by decide) :
  VE X (.Call (.Name x p) [] [] pos) (aAa sp [] E0 zJ):=⟨aVe G hr hg hdb⟩
theorem aR {id:String} {r:List V→Hp→VK→Prop} (hc:bW X (.builtin id) r) (hg:Gl X x) (hm:X.mg x=none) (hv:bootBuiltins x=some (.builtin id)) (ha:VA X (e::es) t) (hn:x≠"__name__":=by decide) (hdb:(x == ("__debug__":Str))=false:=by decide)
  (hp:cO e=true:=by rfl) (hpl:(backTo pos (starEach es X.env)).any (·.1)=false:=by rfl):VE X (.Call (.Name x p) (e::es) [] pos) (tCB r t):=⟨aNg hc hg hm hv ha.1 hn hdb (aN hp) hpl⟩
theorem cC {T:String} {r:List V→Hp→VK→Prop} (hc:bW X (.type T) r) (hg:Gl X x) (hm:X.mg x=none) (hv:bootBuiltins x=some (.type T)) (ha:VA X (e::es) t) (hn:x≠"__name__":=by decide) (hdb:(x == ("__debug__":Str))=false:=by decide)
  (hp:cO e=true:=by rfl) (hpl:(backTo pos (starEach es X.env)).any (·.1)=false:=by rfl):VE X (.Call (.Name x p) (e::es) [] pos) (tCB r t):=⟨aLu hc hg hm hv ha.1 hn hdb (aN hp) hpl⟩
theorem lW {o:Expr} {to:TE} {name:Str} {apos cpos:Pos} {T id:String} {r:V→List V→Hp→VK→Prop} (pa:PlainAttrs T) (slot:Slot T name id) (hty:typeOf (.builtin id)=pure (.type "method_descriptor")) (hm:MtR X id r) (ho:VE X o to) (ha:VA X (e::es) t)
  (hbase:attributeBase o name X.env (eval o X.env)=eval o X.env:=by rfl)
  (hfew:((backTo cpos (starEach (e::es) X.env)).all (fun x=>!x.1) && (backToKw cpos (keywordEach [] X.env)).all (fun x=>x.1.isSome)
   && decide ((e::es).length+([]:List Keyword).length+(if ([]:List Keyword).isEmpty then 0 else 1)<30))=true:=by rfl)
  (hline:(apos.endLine == cpos.line)=true:=by rfl) (hp:cO e=true:=by rfl) (hplain:(backTo cpos (starEach es X.env)).any (·.1)=false:=by rfl) :
  VE X (.Call (.Attribute o name apos) (e::es) [] cpos) (tBM X.K T r to t):=⟨aV6 pa slot hty hm ho.1 ha.1 hbase hfew hline (aN hp) hplain⟩
theorem pB (ha:VE X a ta) (hb:VE X b tb) (hs:aGu b) :
  VE X (.Subscript a b pos) (tOp (fun x y H Q=>∃z i c,x=.str z∧y=.int i∧0≤i∧i<2 ^ 63∧i<z.length∧z.cps[i.toNat]?=some c∧Q (.str ⟨#[c]⟩) H) ta tb):=⟨aGe ha.1 hb.1 hs⟩
theorem sW:VO X none aJy:=⟨aSh⟩
theorem nW (h:VE X e te):VO X (some e) (aS4 te):=⟨aQq h.1⟩
theorem lX {r:V→Option Int→Option Int→Hp→VK→Prop} {lo hi:Option Expr} {tl th:TO} {p2:Pos} (hr:SlR X r) (he:VE X e te) (hl:VO X lo tl) (hu:VO X hi th):VE X (.Subscript e (.Slice lo hi none p2) pos) (tSl r te tl th):=⟨aNa hr he.1 hl.1 hu.1⟩
theorem aZ {r:R2} (hr:IxR X r) (ha:VE X a ta) (hb:VE X b tb) (hs:aJ2 b):VE X (.Subscript a b pos) (tOp r ta tb):=⟨aV7 hr ha.1 hb.1 hs⟩
theorem aOj:VE X (.Dict [] [] pos) aO7:=⟨aNb⟩
theorem VE.imp {t t':TE} (h:VE X e t) (k:∀σ H Q,t' σ H Q→t σ H Q):VE X e t':=⟨PE.imp h.1 k⟩
theorem aJm (ha:VT X a tA):VW X (.BoolOp .And [a] pos) tA:=⟨aRp ha.1⟩
theorem iB (ha:VT X a tA):VW X (.BoolOp .Or [a] pos) tA:=⟨aT8 ha.1⟩
theorem aOh {rest:List Expr} (ha:VT X a tA) (hb:VW X (.BoolOp .And (b::rest) pos) tB'):VW X (.BoolOp .And (a::b::rest) pos) (aWq tA tB'):=⟨aTu ha.1 hb.1⟩
theorem jA {rest:List Expr} (ha:VT X a tA) (hb:VW X (.BoolOp .Or (b::rest) pos) tB'):VW X (.BoolOp .Or (a::b::rest) pos) (tOr tA tB'):=⟨aVw ha.1 hb.1⟩
theorem VW.pt (h:VW X e tA):VT X e tA:=⟨h.1.pt⟩
theorem cZ (ha:VT X a tA):VT X (.UnaryOp .Not a pos) (aVd tA):=⟨aUb ha.1⟩
theorem cQ (h:VE X e te) (he:∀whole,isTrue e X.env whole=(do let v ←whole;standAt e.pos;holding [v] (truthy v)):=by intro _;rfl):VT X e (tB te):=⟨aT1 h.1 he⟩
variable {st:Stmt} {rest:List Stmt} {u w':TS}
theorem bJ:VSs X [] tW:=⟨aR0⟩
theorem aF (h1:VS X st u) (h2:VSs X rest w'):VSs X (st::rest) (aGb u w'):=⟨aM6 h1.1 h2.1⟩
theorem aJ (h1:VS X st u):VSs X [st] u:=⟨aQm h1.1⟩
theorem aP (he:VE X e te):VS X (.Return (some e) pos) (uW te):=⟨aU2 he.1⟩
theorem cR {a b:List Stmt} (hc:VT X c tA) (ha:VSs X a u) (hb:VSs X b w'):VS X (.If c a b pos) (aK6 tA u w'):=⟨aWw hc.1 ha.1 hb.1⟩
theorem bA {i:Nat} {pos':Pos} (hN:X.N.Nodup) (hi:X.N[i]?=some x) (hx:Loc X.env.scope x) (he:VE X e te) (hs:swapsWith e (some (.Name x pos')) pos.line X.env=pure false:=by rfl) (hf:X.fn x=true∨X.env.scope.names.lookup x=some .local:=by first|exact .inl rfl|exact .inr rfl|assumption) :
  VS X (.Assign [.Name x pos'] e pos) (aBb te (cJ i)):=⟨aUj hN hi hx he.1 hs hf⟩
theorem cW (he:VE X e te) (hs:swapsWith e none pos.line X.env=pure false:=by rfl):VS X (.Expr e pos) (aSp te):=⟨aQg he.1 hs⟩
theorem eV {tg iter:Expr} {body:List Stmt} {wi:TI} {g:TG} {tb:TS} (hp:PassesOwn (model X.prog X.w) X.A X.env X.xe) (hc:X.calm=true) (hi:VI X tg iter wi) (hg:VG X tg g) (hb:VSs X body tb)
  (hs:∀x,foldedSetIterable iter X.env x=pure x:=by intro _;rfl):VS X (.For tg iter body [] pos) (aVt wi g tb):=⟨aUv hp hc hi.1 hg.1 hb.1 hs⟩
theorem aU {i:Nat} (hN:X.N.Nodup) (hi:X.N[i]?=some x) (hx:Loc X.env.scope x) (hf:X.fn x=true∨X.env.scope.names.lookup x=some .local:=by first|exact .inl rfl|exact .inr rfl|assumption):VG X (.Name x pos) (cJ i):=⟨aSe hN hi hx hf⟩
theorem fJ:VGs X [] aMf:=⟨aQ0⟩
theorem bI {t:TG} {u:TGs} (h1:VG X e t) (h2:VGs X es u) (hs:(assignEach (e::es) X.env).map (·.2)=assign e X.env::(assignEach es X.env).map (·.2):=by rfl):VGs X (e::es) (qQ t u):=⟨aM7 h1.1 h2.1 hs⟩
theorem rJ {k:Nat} {t:TGs} {n:Nat} (hc:X.calm=true) (h:VGs X es t) (hn:(assignEach es X.env).length=n:=by rfl) (hst:(assignEach es X.env).findIdx? (·.1)=none:=by rfl):VG X (.Tuple es k pos) (aI9 X.K n t):=⟨aTg hc h.1 hn hst⟩
variable {tg:Expr}
theorem fK (h:VE X e te):VI X tg e (aF7 X.K te):=⟨aQi h.1⟩
theorem uY (h:VE X e te):VI X tg e (aQ7 X.K te):=⟨aTk h.1⟩
theorem aOu (h:VE X e te):VI X tg e (aUf te):=⟨aUp h.1⟩
theorem eO (hg:Gl X "range") (hm:X.mg "range"=none) (ha:VA X [a] t) (hp:cO a=true:=by rfl):VI X tg (.Call (.Name "range" p) [a] [] pos) (aPj t):=⟨aLh hg hm ha.1 (aN (es:=[]) hp)⟩
theorem dD:VF X [] jV:=⟨aTn⟩
theorem aUg (h:VT X c tA):VF X [c] tA:=⟨aUl h.1⟩
theorem cM {elt target iter:Expr} {ifs:List Expr} {scope:Scope} {N:List Str} {wi:TI} {g:TG} {tt:TT}
  (C:aAf scope N) (hfr:∀y,(y,NameKind.free)∈scope.names→X.env.kindOf y=some .cell∨X.env.kindOf y=some .free) (hc:X.calm=true)
  (hi:VI X target iter wi)
  (hb:∀cl s H fp,VG (cxC X N scope cl s H fp) target g∧VF (cxC X N scope cl s H fp) ifs tt∧VE (cxC X N scope cl s H fp) elt te)
  (hs:∀x,foldedSetIterable iter X.env x=pure x:=by intro _;rfl) :
  VE X (.ListComp elt [⟨target,iter,ifs,0⟩] scope pos) (iZ X scope N wi g tt te):=
 ⟨aR6 C hfr hc hi.1 (fun cl s H fp=>⟨(hb cl s H fp).1.1,(hb cl s H fp).2.1.1,(hb cl s H fp).2.2.1⟩) hs⟩
end
section
variable {P:Program} {w:World} {K:PySem.W.Frag} {mg:Str→Option Value} {base:Heap}
theorem Fun.okV {x qual:Str} {st:Stmt} {f:Addr} {fd:FuncData} {N ps:List Str} {k:Nat} {sp:Sp} (F:Fun K x qual st f fd) (S:aO N ps (aH st)) (len:∀vs H Q E,sp vs H Q E→vs.length=ps.length)
  (hbody:∀(cdv:Value) (A:Around) (outer:List Env) (s:Shared) (H:Hp) (vs:List V) (Q:VK) (E:XK),Room k (A.deeper (envOfC qual (aH st) s.heap.objs.size f cdv))→sp vs H Q E →
   ∃t,VSs (xQ CX0 P w K mg base N qual (aH st) f cdv A outer s H E).nox (dZ st) t∧t { nx:=fun _ H'=>Q .non H',rt:=Q } (start N vs) H):jD P w K mg base CX0 (k+1) f fd ps sp:=
 F.ok S len fun cdv A outer s H vs Q E hr h=>let ⟨t,h1,h2⟩:=hbody cdv A outer s H vs Q E hr h;⟨t,h1.1,h2⟩
theorem Ok.ofV {x:Str} {st:Stmt} {N ps:List Str} {k:Nat} {sp:Sp} (D:Dn K mg x st ps) (S:aO N ps (aH st)) (len:∀vs H Q E,sp vs H Q E→vs.length=ps.length)
  (hbody:∀(f:Addr) (cdv:Value) (A:Around) (outer:List Env) (s:Shared) (H:Hp) (vs:List V) (Q:VK) (E:XK),Room k (A.deeper (envOfC x (aH st) s.heap.objs.size f cdv))→sp vs H Q E →
   ∃t,VSs (xQ CX0 P w K mg base N x (aH st) f cdv A outer s H E).nox (dZ st) t∧t { nx:=fun _ H'=>Q .non H',rt:=Q } (start N vs) H):Ok P w K mg base (k+1) x ps sp:=
 Ok.of D S len fun f cdv A outer s H vs Q E hr h=>let ⟨t,h1,h2⟩:=hbody f cdv A outer s H vs Q E hr h;⟨t,h1.1,h2⟩
end
def Held (P:Program) (w:World) (K:PySem.W.Frag) (mg:Str→Option Value) (base:Heap) (k:Nat) (f:Addr) (ps:List Str) (sp:Sp):Prop:=
 ∃fd,PySem.W.keepIn K (.ref f)=true∧Binds K fd ps []∧jD P w K mg base CX0 k f fd ps sp
theorem Ok.held {P:Program} {w:World} {K:PySem.W.Frag} {mg:Str→Option Value} {base:Heap} {k:Nat} {x:Str} {ps:List Str} {sp:Sp} (G:Ok P w K mg base k x ps sp):∃f,mg x=some (.ref f)∧Held P w K mg base k f ps sp:=by
 obtain ⟨f,fd,h1,h2,h3,h4⟩:=G
 exact ⟨f,h1,fd,h2,h3,h4⟩
section
variable {X:Cx} {x:Str} {p pos:Pos} {e:Expr} {es:List Expr} {te:TE} {t:TA}
def aN7 (P:Program) (w:World) (K:PySem.W.Frag) (mg:Str→Option Value) (base:Heap) (k:Nat) (te:TE) (t:TA):TE:=fun σ H Q=>te σ H fun v H1=>∃f ps sp,v=.ref f∧Held P w K mg base k f ps sp∧t σ H1 fun vs H2=>sp vs H2 Q E0
theorem aQe {k:Nat} (hr:Room k X.A) (hf:PE X (.Name x p) te) (ha:PA X (e::es) t)
  (he:starEach (e::es) X.env=(false,eval e X.env)::starEach es X.env:=by rfl) (hpl:(backTo pos (starEach es X.env)).any (·.1)=false:=by rfl) :
  PE X (.Call (.Name x p) (e::es) [] pos) (aN7 X.prog X.w X.K X.mg X.base k te t):=by
 intro pins s σ H Q I h
 refine wpAny_Call_Name_kw (thn (hf pins s σ H _ I h) fun u s1 ⟨v,H1,I1,r1,q1⟩=>?_)
 obtain ⟨f,ps,sp,rfl,⟨fd,hk,hb,F⟩,q⟩:=q1
 obtain rfl:u=Value.ref f:=r1
 refine PySem.W.callWith_K (h₀:=X.base) I1.ok.mod.kin hk (thn (ha pos pins s1 σ H1 _ I1 q) fun us s2 ⟨vs,H2,I2,r,q2⟩=>⟨I2.kIn,?_⟩) he hpl
 exact xC F hr hb .nil aBl I2 r (by simpa using q2)
end
end L2
namespace PySem
end PySem
namespace L2
open PySem PySem.Spec PyProof.Rows
section
variable {X:Cx}
end
end L2
namespace PySem
def zN (σ:List Str) (v:Str):List Str:=if v∈σ then σ else σ++[v]
def lZ (ss:List Str):List Str:=ss.foldl zN []
theorem aBr (ss:List Str) (v:Str):lZ (ss++[v])=zN (lZ ss) v:=by
 unfold lZ
 rw [List.foldl_append]
 rfl
theorem uG (σ:List Str) (v k:Str):k∈zN σ v↔k∈σ∨k=v:=by
 unfold zN
 by_cases h:v∈σ
 ·rw [if_pos h]
  exact ⟨.inl,fun q=>q.elim id fun e=>e ▸ h⟩
 ·rw [if_neg h]
  simp
theorem yC (σ:List Str) (v:Str):(zN σ v).length=if v∈σ then σ.length else σ.length+1:=by
 unfold zN
 split <;> simp
theorem uR:∀(ss σ:List Str),(ss.foldl zN σ).length≤σ.length+ss.length
 |[],σ=>by simp
 |v::r,σ=>by
  rw [List.foldl_cons,List.length_cons]
  have h:=uR r (zN σ v)
  rw [yC] at h
  split at h <;> lia
theorem aOt (ss:List Str):(lZ ss).length≤ss.length:=by
 have h:=uR ss []
 unfold lZ
 simpa using h
theorem aAh:∀(ss σ:List Str),(ss.foldl zN σ).length=σ.length+ss.length↔ss.Nodup∧∀v∈ss,v∉σ
 |[],σ=>by simp
 |v::r,σ=>by
  rw [List.foldl_cons,List.length_cons,List.nodup_cons]
  have hle:=uR r (zN σ v)
  have ih:=aAh r (zN σ v)
  rw [yC] at ih hle
  by_cases h:v∈σ
  ·rw [if_pos h] at ih hle
   constructor
   ·intro q;lia
   ·intro q;exact absurd h (q.2 v List.mem_cons_self)
  ·rw [if_neg h] at ih hle
   have e:σ.length+(r.length+1)=σ.length+1+r.length:=by lia
   rw [e,ih]
   constructor
   ·rintro ⟨q1,q2⟩
    refine ⟨⟨fun m=>q2 v m ((uG σ v v).mpr (.inr rfl)),q1⟩,fun y hy=>?_⟩
    rcases List.mem_cons.mp hy with rfl|hy
    ·exact h
    ·exact fun m=>q2 y hy ((uG σ v y).mpr (.inl m))
   ·rintro ⟨⟨q1,q2⟩,q3⟩
    refine ⟨q2,fun y hy m=>?_⟩
    rcases (uG σ v y).mp m with m|rfl
    ·exact q3 y (List.mem_cons_of_mem _ hy) m
    ·exact q1 hy
theorem aL5 (ss:List Str):(lZ ss).length=ss.length↔ss.Nodup:=by
 have h:=aAh ss []
 simp only [List.length_nil,Nat.zero_add,List.not_mem_nil,not_false_eq_true,implies_true,and_true] at h
 exact h
section
variable {prog:Program} {w:World}
def cX (prog:Program) (w:World) (h:Heap) (D:Addr) (ss:List Str):Prop:=h.SetOf (strKind prog w) D (fun y=>decide (y∈lZ ss)) (lZ ss).length
theorem cX.at {h h':Heap} {D:Addr} {ss:List Str} (x:cX prog w h D ss) (e:∀o,h.get? D=some o→h'.get? D=some o):cX prog w h' D ss:=by
 obtain ⟨o,es,ep,t,ho,r⟩:=x
 exact ⟨o,es,ep,t,e o ho,r⟩
theorem cX.congr {h:Heap} {D:Addr} {S:Str→Bool} {n:Nat} {ss:List Str} (x:h.SetOf (strKind prog w) D S n) (e1:∀y,S y=decide (y∈lZ ss)) (e2:n=(lZ ss).length):cX prog w h D ss:=by
 have e:S=fun y=>decide (y∈lZ ss):=funext e1
 subst e e2
 exact x
theorem zW {A:Around} {R:Result→Shared→Prop} {I:Addr} {fp wr:List Addr} {n:Nat} {P:Nat→Value→Prop} {St:Nat→Heap→Prop} (W:Walks prog w A.in1 I fp wr n P St) (D:Addr) (hD:D∉fp)
  (ss:List Str) (hss:ss.length=n) (hval:∀i v,P i v→∃t,v=.str (ss.getD i "") t) (hb:n+1<scanBound) :
  ∀(k i:Nat) (s:Shared),i+k=n→St i s.heap→cX prog w s.heap D (ss.take i) →
   (∀h' tk,(∀b o,b∉D::wr→s.heap.get? b=some o→h'.get? b=some o)→cX prog w h' D ss→R (.ok (.ret .none)) { s with heap:=h',toks:=tk }) →
   codeAny (model prog w) A (.builtin "set.update.loop" ⟨[.ref D,.ref I],[]⟩) R s:=by
 have hDw:D∉wr:=fun q=>hD (W.sub _ q)
 intro k
 induction k with
 |zero=>
  intro i s hi st hS q
  obtain rfl:i=n:=by lia
  refine codeAny_builtin PyProof.Rows.F.entry_set_update_loop ?_
  rw [Around.under_plainId PyProof.Rows.F.plain_set_update_loop _]
  show wpAny _ A.in1 (pyNext (.ref I) >>= _) _ _ _
  refine wpAny_bind (W.done s _ _ st fun h' tk kp=>?_)
  refine wpAny_pure (q h' tk (fun b o nb e=>kp b o (fun z=>nb (List.mem_cons_of_mem _ z)) e) ?_)
  rw [List.take_of_length_le (Nat.le_of_eq hss)] at hS
  exact hS.at fun o e=>kp D o hDw e
 |succ k ih=>
  intro i s hi st hS q
  refine codeAny_builtin PyProof.Rows.F.entry_set_update_loop ?_
  rw [Around.under_plainId PyProof.Rows.F.plain_set_update_loop _]
  show wpAny _ A.in1 (pyNext (.ref I) >>= _) _ _ _
  refine wpAny_bind (W.item i s _ _ (by lia) st fun v h1 tk1 hP st1 kp1=>?_)
  obtain ⟨t,rfl⟩:=hval i v hP
  have hS1:cX prog w h1 D (ss.take i):=hS.at fun o e=>kp1 D o hDw e
  show wpAny _ A.in1 (holding [Value.str (ss.getD i "") t] (setAdd D (.str (ss.getD i "") t)) >>= _) _ _ _
  refine wpAny_bind (wpAny_holding ?_)
  unfold setAdd
  refine wpAny_holding (wpAny_bind ((strKind prog w).pyHash (k:=ss.getD i "") (strKind_is _ _ _ _) ?_))
  have room:(lZ (ss.take i)).length+1<scanBound:=by
   have h1:=aOt (ss.take i)
   have h2:(ss.take i).length≤ss.length:=by rw [List.length_take];exact Nat.min_le_right _ _
   lia
  refine wpAny_setAddHashed_of (knd:=strKind prog w) (strKind_is _ _ _ _) rfl hS1 room fun h2 sb2 hS2=>?_
  have hlt:i<ss.length:=by lia
  have et:ss.take (i+1)=ss.take i++[ss.getD i ""]:=by
   rw [List.take_add_one,List.getElem?_eq_getElem hlt,List.getD_eq_getElem?_getD,List.getElem?_eq_getElem hlt]
   rfl
  have hS3:cX prog w h2 D (ss.take (i+1)):=by
   refine cX.congr hS2 (fun y=>?_) ?_
   ·rw [et,aBr,Bool.eq_iff_iff,Bool.or_eq_true,decide_eq_true_eq,decide_eq_true_eq,decide_eq_true_eq,uG]
   ·rw [et,aBr,yC]
    by_cases z:ss.getD i ""∈lZ (ss.take i)
    ·rw [if_pos z,if_pos (decide_eq_true z)]
    ·rw [if_neg z,if_neg (by rw [decide_eq_false z];exact Bool.false_ne_true)]
  have kp2:∀b o,b∉D::wr→s.heap.get? b=some o→h2.get? b=some o:=fun b o nb e=>by
   rw [sb2.2 b (fun z=>nb (by rw [z];exact List.mem_cons_self))]
   exact kp1 b o (fun z=>nb (List.mem_cons_of_mem _ z)) e
  refine wpAny_pure ⟨plainId_quiet PyProof.Rows.F.plain_set_update_loop _,ih (i+1) _ (by lia) (W.frame _ _ _ st1 fun b hb o e=>?_) hS3 fun h' tk kp hS'=>q h' tk (fun b o nb e=>kp b o nb (kp2 b o nb e)) hS'⟩
  rw [sb2.2 b (fun z=>hD (by rw [←z];exact hb))]
  exact e
variable {A:Around} {E:Value→Shared→Prop} {s:Shared}
abbrev aX (led:Bool):Obj:={ cls:=.type "set",dict:=none,data:=.set #[] 0 (.fresh 0 0 led) }
theorem aJi {A:Around} {R:Fin→Shared→Prop} {E:Value→Shared→Prop} {s:Shared} {l:Addr} {its:Array Value} {ss:List Str} (led:Bool) (hh:A.handled=none) (hl:s.heap.IsList l its) (hlen:ss.length=its.size)
  (hval:∀(i:Nat) (v:Value),its[i]?=some v→∃t,v=Value.str (ss.getD i "") t) (hb:its.size+1<scanBound)
  (q:∀h' tk,cX prog w h' s.heap.objs.size ss→(∀b o,b<s.heap.objs.size→s.heap.get? b=some o→h'.get? b=some o)→R (.done (.ret .none)) { s with heap:=h',toks:=tk }) :
  wpAny (model prog w) A (Builtin.«set.__init__» ⟨[.ref s.heap.objs.size,.ref l],[]⟩) R E { s with heap:=s.heap.push (aX led) }:=by
 obtain ⟨⟨oc,od,ox,osl⟩,hol,hcl,nl,hdl⟩:=id hl
 simp only at hcl hdl
 subst hcl hdl
 have hS:(s.heap.push (aX led)).get? s.heap.objs.size=some (aX led):=Heap.get?_push_size _ rfl
 have hT:Shared.TypeIs { s with heap:=s.heap.push (aX led) } (.ref s.heap.objs.size) "set":=⟨_,hS,rfl⟩
 have hol':(s.heap.push (aX led)).get? l=some { cls:=.type "list",dict:=od,data:=.seq its nl,slots:=osl }:=Heap.get?_push_of_some _ hol
 have f1:=F.sub_list_set
 have f2:=F.sub_list_frozenset
 have f3:(Value.type "list" == Value.type "dict")=false:=by decide
 have hl1:(s.heap.push (aX led)).IsList l its:=⟨_,hol',rfl,nl,rfl⟩
 have hlt:l<s.heap.objs.size:=Heap.lt_size hol
 unfold Builtin.«set.__init__» noKeywords Builtin.Frozenset.updateFrom
 generalize hPI:pyIter=PI
 wp_walk
 subst hPI
 refine wpAny_pyIter_list hl1 ?_
 refine wpAny_bind (wpAny_runValue ?_)
 have hz:(s.heap.push (aX led)).objs.size=s.heap.objs.size+1:=Heap.size_push ..
 have hne:l≠(s.heap.push (aX led)).objs.size:=by rw [hz];exact Nat.ne_of_lt (Nat.lt_succ_of_lt hlt)
 have hSf:s.heap.objs.size∉[(s.heap.push (aX led)).objs.size,l]:=by
  rw [hz]
  simp only [List.mem_cons,List.not_mem_nil,or_false,not_or]
  exact ⟨Nat.ne_of_lt (Nat.lt_succ_self _),Nat.ne_of_gt hlt⟩
 refine zW (Walks.list (by first|exact hh|simp [hh]) _ l hne its) s.heap.objs.size hSf ss hlen hval hb its.size 0 _ (by lia) ⟨⟨_,Heap.get?_push_size _ rfl,rfl,rfl⟩,hl1.push _⟩ ?_ fun h' tk kp hS'=>?_
 ·have hg:((s.heap.push (aX led)).push { cls:=.type "list_iterator",data:=.fields #[.ref l,.int 0 0] }).get? s.heap.objs.size=some (aX led):=Heap.get?_push_of_some _ hS
  exact cX.congr ((PyProof.Rows.setObjOf_fresh (knd:=strKind prog w) led).setOf hg (by unfold scanBound;lia)) (fun _=>rfl) rfl
 ·refine wpAny_pure (wpAny_pure (q h' tk hS' fun b o hb' e=>kp b o ?_ (Heap.get?_push_of_some _ (Heap.get?_push_of_some _ e))))
  rw [hz]
  simp only [List.mem_cons,List.not_mem_nil,or_false,not_or]
  exact ⟨Nat.ne_of_lt hb',Nat.ne_of_lt (Nat.lt_succ_of_lt hb')⟩
theorem yD {l:Addr} {its:Array Value} {ss:List Str} {Q:Value→Shared→Prop} (hh:A.handled=none) (hl:s.heap.IsList l its) (hlen:ss.length=its.size)
  (hval:∀(i:Nat) (v:Value),its[i]?=some v→∃t,v=Value.str (ss.getD i "") t) (hb:its.size+1<scanBound)
  (q:∀h' tk,cX prog w h' s.heap.objs.size ss→(∀b o,b<s.heap.objs.size→s.heap.get? b=some o→h'.get? b=some o)→Q (.ref s.heap.objs.size) { s with heap:=h',toks:=tk }) :
  wpAny (model prog w) A (call (.type "set") [.ref l]) Q E s:=by
 have ft:=F.called_set
 obtain ⟨c,tl,hmro⟩:=ft.mro
 have g1:=ft.made
 have g2:=ft.sub
 have g3:=ft.notType
 have g4:=ft.canCreate
 have g5:=F.typeCall_set_1 (.ref l)
 refine wpAny_call (codeAny_of_tree (show wpAny _ _ (callAny (.type "set") _) _ _ _ from wpAny_pure ⟨Code.quiet_builtin _ (by decide +kernel),codeAny_builtin F.entry_type_call ?_⟩))
 rw [Around.under_plain (weight_type_call_type "set" [.ref l] []) (by rfl)]
 repeat (any_goals (first|assumption|wp_step))
 refine codeAny_mono (code_set_new_1 (.ref l) (Q₁:=fun obj s1=>∃led:Bool,obj=.ref s.heap.objs.size∧s1={ s with heap:=s.heap.push (aX led) }) (E:=E) fun led=>⟨led,rfl,rfl⟩) fun r s1 hr=>?_
 rcases r with e|fl
 ·exact hr
 rcases fl with _|_|_|obj
 ·exact hr.elim
 ·exact hr.elim
 ·exact hr.elim
 obtain ⟨led,rfl,rfl⟩:=hr
 have hT:Shared.TypeIs { s with heap:=s.heap.push (aX led) } (.ref s.heap.objs.size) "set":=⟨_,Heap.get?_push_size _ rfl,rfl⟩
 have g6:=ft.init.lookup
 have g7:=ft.init.bind (.ref s.heap.objs.size)
 repeat (any_goals (first|assumption|wp_step))
 refine codeAny_mono (codeAny_call_builtin (R:=wants (fun r s2=>r=.none∧∃h' tk,s2={ s with heap:=h',toks:=tk }∧cX prog w h' s.heap.objs.size ss∧∀b o,b<s.heap.objs.size→s.heap.get? b=some o→h'.get? b=some o) E)
  ft.init.plain F.entry_set_init (check_set_init_1 hT (aJi led (by first|exact hh|simp [hh]) hl hlen hval hb fun h' tk x kp=>⟨rfl,h',tk,rfl,x,kp⟩))) fun r2 s2 hr2=>?_
 rcases r2 with e|fl
 ·exact hr2
 rcases fl with _|_|_|v
 ·exact hr2.elim
 ·exact hr2.elim
 ·exact hr2.elim
 obtain ⟨rfl,h',tk,rfl,x,kp⟩:=hr2
 repeat (any_goals (first|assumption|wp_step))
 exact q h' tk x kp
theorem aLc {D:Addr} {ss:List Str} {Q:Value→Shared→Prop} (x:cX prog w s.heap D ss) (q:Q (.int ((lZ ss).length:Nat) (s.toks+1)) { s with toks:=s.toks+1+1 }):wpAny (model prog w) A (call (.builtin "len") [.ref D]) Q E s:=by
 obtain ⟨o,es,ep,t,ho,hex,hd,hel,hmem,hb,hf,hn⟩:=x
 refine call_len_set ho hex hd hf ?_ ?_
 ·unfold scanBound at hb
  lia
 ·rw [hn]
  exact q
end
end PySem
namespace L2
open PySem PySem.Spec PyProof.Rows
def aN9 (P:Program) (w:World) (D:Addr) (ss:List Str):HO:=.ext fun h=>cX P w h D ss
section
variable {X:Cx}
def aT4 (P:Program) (w:World) (K:PySem.W.Frag):List V→Hp→VK→Prop:=fun xs H Q=>∃(p:Addr) (ss:List Str),xs=[.ref p]∧SqL K H p (ss.map V.str)∧ss.length≤1000∧∀D,H D=none→Q (.ref D) (upd H D (aN9 P w D ss))
theorem aJd (hc:X.calm=true):bW X (.type "set") (aT4 X.prog X.w X.K):=by
 intro pins s σ H xs us Q I r h
 obtain ⟨p,ss,rfl,hq,hl,q⟩:=h
 obtain ⟨u,rfl,rx⟩:=r.one
 cases rx
 obtain ⟨its,rv,pl,hz⟩:=I.list hq
 have hlen:=rv.length
 rw [List.length_map] at hlen
 refine yD (I.ok.hd hc) pl.isList (by rw [List.size_toArray];exact hlen) (fun i v hv=>?_) (by rw [List.size_toArray,←hlen];unfold scanBound;lia) fun h' tk x kp=>?_
 ·have hv':its[i]?=some v:=by simpa using hv
  have hi:i<ss.length:=by rw [hlen];exact (List.getElem?_eq_some_iff.mp hv').1
  obtain ⟨u,hu,t,rfl⟩:=rv.get (i:=i) (x:=.str ss[i]) (by rw [List.getElem?_map,List.getElem?_eq_getElem hi];rfl)
  rw [hv'] at hu
  cases hu
  exact ⟨t,by rw [List.getD_eq_getElem?_getD,List.getElem?_eq_getElem hi];rfl⟩
 ·have e:∃o,h'.get? s.heap.objs.size=some o:=by
   obtain ⟨o,_,_,_,ho,_⟩:=x
   exact ⟨o,ho⟩
  exact ⟨.ref s.heap.objs.size,_,I.laid (o:=aN9 X.prog X.w s.heap.objs.size ss) (fun b o eo=>kp b o (Heap.lt_size eo) eo) (Nat.le_refl _) (show cX X.prog X.w h' s.heap.objs.size ss∧_∧_ from ⟨x,e,fun h1 h2 y k=>y.at k⟩),rfl,q _ (I.hok.fresh (Nat.le_refl _))⟩
theorem aH9:bW X (.builtin "len") (fun xs H Q=>∃(D:Addr) (ss:List Str),xs=[.ref D]∧H D=some (aN9 X.prog X.w D ss)∧Q (.int ((lZ ss).length:Nat)) H):=by
 intro pins s σ H xs us Q I r h
 obtain ⟨D,ss,rfl,hD,q⟩:=h
 obtain ⟨u,rfl,rx⟩:=r.one
 cases rx
 obtain ⟨x,_⟩:=I.hok D _ hD
 exact aLc x ⟨.int ((lZ ss).length:Nat),H,I.tok _,⟨_,rfl⟩,q⟩
end
theorem jF {X:Cx} {scope:Scope} {x y:Str} {σ:St} {v:V} (j:Nat) (hf:(y,NameKind.free)∈scope.names) (hj:X.N[j]?=some y) (hs:σ[j]?=some (some v)) (hv:Vis X.env.scope y):Cap X scope [x,y] σ [none,some v]:=
 ⟨rfl,fun i z u h1 h2=>by
  match i,h1,h2 with
  |0,_,h2=>cases h2
  |1,h1,h2=>cases h1;cases h2;exact ⟨hf,j,hj,hs,hv⟩
  |i+2,h1,_=>cases h1⟩
theorem mD {X:Cx} {scope:Scope} {x y:Str} {σ:St}:Cap X scope [x,y] σ [none,none]:=⟨rfl,fun i z u h1 h2=>by
  match i,h1,h2 with
  |0,_,h2=>cases h2
  |1,_,h2=>cases h2
  |i+2,h1,_=>cases h1⟩
section
variable {X:Cx} {a b e:Expr} {es:List Expr} {te:TE} {t:TA} {pos p:Pos} {x:Str}
theorem aSa {k:Nat} (hr:Room k X.A) (hf:VE X (.Name x p) te) (ha:VA X (e::es) t) (hp:cO e=true:=by rfl) (hpl:(backTo pos (starEach es X.env)).any (·.1)=false:=by rfl) :
  VE X (.Call (.Name x p) (e::es) [] pos) (aN7 X.prog X.w X.K X.mg X.base k te t):=⟨aQe hr hf.1 ha.1 (aN hp) hpl⟩
theorem aQc {P:Program} {w:World} {K:PySem.W.Frag} {mg:Str→Option Value} {base:Heap} {k:Nat} (hr:Room k X.A) (hf:VE X (.Name x p) te) (ha:VA X (e::es) t) (hp:cO e=true:=by rfl) (hpl:(backTo pos (starEach es X.env)).any (·.1)=false:=by rfl)
  (h1:X.prog=P:=by rfl) (h2:X.w=w:=by rfl) (h3:X.K=K:=by rfl) (h4:X.mg=mg:=by rfl) (h5:X.base=base:=by rfl) :
  VE X (.Call (.Name x p) (e::es) [] pos) (aN7 P w K mg base k te t):=by
 subst h1 h2 h3 h4 h5
 exact aSa hr hf ha hp hpl
theorem cH {K:PySem.W.Frag} (h:X.K=K:=by rfl):IxR X (aWf K):=by subst h;exact cA
theorem pU {K:PySem.W.Frag} {k:Nat} {u:TGs} {n:Nat} (hc:X.calm=true) (h:VGs X es u) (hn:(assignEach es X.env).length=n:=by rfl) (hst:(assignEach es X.env).findIdx? (·.1)=none:=by rfl) (hK:X.K=K:=by rfl):VG X (.Tuple es k pos) (aI9 K n u):=by
 subst hK
 exact rJ hc h hn hst
theorem aRs {elts:List Expr} {kt:Nat} {tp:Pos} (hg:Gl X "zip") (hm:X.mg "zip"=none) (ha:VA X [a,b] t) (hp:cO a=true:=by rfl) (hp2:cO b=true:=by rfl) :
  VI X (.Tuple elts kt tp) (.Call (.Name "zip" p) [a,b] [] pos) (aPv X.K t):=⟨aQp hg hm ha.1 (aN hp) (aN (es:=[]) hp2)⟩
theorem zK {tg:Expr} {g:TG} (he:VE X e te) (hg:VG X tg g) (hs:swapsWithSole [tg] e pos.line X.env=pure false:=by rfl) (hw:swappedStores [tg] e X.env=pure none:=by rfl)
  (h1:(assignEach [tg] X.env).map (·.2)=[assign tg X.env]:=by rfl):VS X (.Assign [tg] e pos) (aBb te g):=⟨aVc he.1 hg.1 hs hw h1⟩
end
section
variable {X:Cx}
def aXa:V→Option Int→Option Int→Hp→VK→Prop:=fun x lo hi H Q=>∃z,x=.str z∧z.length≤sizeLine∧Q (.str (Txt.slice z lo hi)) H
theorem aC6:SlR X aXa:=by
 intro pins s σ H x v vl vu lo hi sl Q I rx hs pl pu h
 obtain ⟨z,rfl,hz,q⟩:=h
 obtain ⟨t,rfl⟩:=rx
 have fin:∀l u:Option (Int × Tok),l.map (·.1)=lo→u.map (·.1)=hi→s.heap.IsSlice sl l u none→wpAny (model X.prog X.w) X.A (getItem (.str z t) (.ref sl)) (EP X pins σ Q) X.xe s:=fun l u e1 e2 hsl=>by
  subst e1 e2
  refine wpAny_getItem_str_slice (st:=none) hsl rfl ?_
  unfold sliceMade
  have hle:=Txt.slice_le z (l.map (·.1)) (u.map (·.1))
  exact post_val_or_str ⟨Nat.le_trans hle hz,fun t' k=>⟨.str (Txt.slice z (l.map (·.1)) (u.map (·.1))),H,I.tok _,⟨_,rfl⟩,q⟩⟩
 refine ⟨"str",_,F.slot_str_getitem.lookup,typeIs_str _ _ _,?_⟩
 obtain ⟨o,ho,hc,hd⟩:=hs
 cases pl with
 |none=>
  cases pu with
  |none=>exact fin none none rfl rfl ⟨o,ho,hc,hd⟩
  |int j u=>exact fin none (some (j,u)) rfl rfl ⟨o,ho,hc,hd⟩
 |int i t=>
  cases pu with
  |none=>exact fin (some (i,t)) none rfl rfl ⟨o,ho,hc,hd⟩
  |int j u=>exact fin (some (i,t)) (some (j,u)) rfl rfl ⟨o,ho,hc,hd⟩
end
theorem aP7 {x:Str} {j:Nat} (h:j≤x.length):(Txt.slice x none (some (j:Int))).cps.toList=x.cps.toList.take j:=by
 have e:=StrLaws.sliceText_to (x:=x) (j:=(j:Int)) ⟨by lia,by rw [Array.length_toList];exact Int.ofNat_le.mpr h⟩
 show (StrLaws.sliceText x none (some (j:Int))).cps.toList=_
 rw [e]
 simp
theorem aIu {x:Str} {j:Nat} (h:j≤x.length):(Txt.slice x (some (j:Int)) none).cps.toList=x.cps.toList.drop j:=by
 have e:=StrLaws.sliceText_from (x:=x) (i:=(j:Int)) ⟨by lia,by rw [Array.length_toList];exact Int.ofNat_le.mpr h⟩
 show (StrLaws.sliceText x (some (j:Int)) none).cps.toList=_
 rw [e]
 simp only [Int.toNat_natCast]
 refine List.take_of_length_le ?_
 rw [List.length_drop]
 lia
def put (x:Str) (a:Nat) (c:Nat):Str:=Txt.slice x none (some (a:Int))++⟨#[c]⟩++Txt.slice x (some (a:Int)) none
theorem aD5 {x:Str} {a c:Nat} (h:a≤x.length):(put x a c).cps.toList=x.cps.toList.take a++c::x.cps.toList.drop a:=by
 show ((Txt.slice x none (some (a:Int))).cps++#[c]++(Txt.slice x (some (a:Int)) none).cps).toList=_
 rw [Array.toList_append,Array.toList_append,aP7 h,aIu h]
 simp
theorem aR1 {x:Str} {a c d:Nat} (h:a≤x.length) (e:put x a c=put x a d):c=d:=by
 have e1:=congrArg (fun y:Str=>y.cps.toList) e
 simp only [aD5 h] at e1
 have e2:=List.append_cancel_left e1
 exact (List.cons.inj e2).1
theorem aQ5 {x:Str} {a c:Nat} (h:a≤x.length):(put x a c).length=x.length+1:=by
 have e:=congrArg List.length (aD5 (c:=c) h)
 have l:x.length=x.cps.toList.length:=by rw [Array.length_toList];rfl
 rw [Array.length_toList,List.length_append,List.length_cons,List.length_take,List.length_drop] at e
 show (put x a c).cps.size=_
 lia
theorem aQv {x:Str} {a c d:Nat} (h:a≤x.length) (m:d∈(put x a c).cps):d=c∨d∈x.cps:=by
 have m1:d∈(put x a c).cps.toList:=Array.mem_toList_iff.mpr m
 rw [aD5 h] at m1
 rcases List.mem_append.mp m1 with z|z
 ·exact .inr (Array.mem_toList_iff.mp (List.mem_of_mem_take z))
 ·rcases List.mem_cons.mp z with z|z
  ·exact .inl z
  ·exact .inr (Array.mem_toList_iff.mp (List.mem_of_mem_drop z))
section
variable {X:Cx} {scope:Scope} {N:List Str} {wi:TI} {te:TE} {σ:St} {H:Hp} {Q:VK}
end
section
variable {X:Cx} {scope:Scope} {N:List Str} {wi:TI} {te:TE} {σ:St} {H:Hp} {Q:VK}
end
section
variable {X:Cx} {e:Expr} {es:List Expr} {t:TA} {pos:Pos}
def aWh (t:TA):TE:=fun σ H Q=>t σ H fun xs H1=>xs.length≤sizeLine∧∀p H',H1 p=none→Same H1 H'→H' p=some (.tup xs)→Q (.ref p) H'
def aJ4 (t:TA):TE:=fun σ H Q=>t σ H fun xs H1=>xs.length≤sizeLine∧∀p H',H1 p=none→Same H1 H'→H' p=some (.lst xs)→Q (.ref p) H'
def aT2:TE:=fun _ H Q=>∀p H',H p=none→Same H H'→H' p=some (.dK [])→Q (.ref p) H'
theorem cL {x1} (h:VA X es t):VE X (.Tuple es x1 pos) (aWh t):=⟨by
 intro pins s σ H Q I hq
 refine wpAny_Tuple_spliced (thn (h.1 pos pins s σ H _ I hq) fun us s1 ⟨xs,H1,I1,r,z,q⟩=>⟨by rw [←r.length];exact z,?_⟩)
 have hf:H1 s1.heap.objs.size=none:=I1.hok.fresh (Nat.le_refl _)
 refine ⟨.ref s1.heap.objs.size,upd H1 s1.heap.objs.size (.tup xs),I1.laid (t':=s1.toks) (fun b u e=>Heap.get?_push_of_some _ e) (Nat.le_refl _) ?_,rfl,q _ _ hf (aW hf _) aK⟩
 exact ⟨z,us,r,.of (Heap.get?_push_size _ rfl) rfl ⟨_,Heap.get?_push_size _ rfl,rfl,_,rfl⟩⟩⟩
theorem cY (h:VA X es t):VE X (.List es pos) (aJ4 t):=⟨by
 intro pins s σ H Q I hq
 refine wpAny_List_spliced (thn (h.1 pos pins s σ H _ I hq) fun us s1 ⟨xs,H1,I1,r,z,q⟩=>⟨by rw [←r.length];exact z,?_⟩)
 have hf:H1 s1.heap.objs.size=none:=I1.hok.fresh (Nat.le_refl _)
 refine ⟨.ref s1.heap.objs.size,upd H1 s1.heap.objs.size (.lst xs),I1.laid (t':=s1.toks) (fun b u e=>Heap.get?_push_of_some _ e) (Nat.le_refl _) ?_,rfl,q _ _ hf (aW hf _) aK⟩
 exact ⟨z,us,0,r,Heap.get?_push_size _ rfl⟩⟩
theorem aE2:VE X (.Dict [] [] pos) aT2:=VE.imp aOj fun σ H Q h p hp=>h p _ hp (aW hp _) aK
theorem OpR.imp {f:Value→Value→Sem Value} {r r':R2} (h:OpR X f r) (k:∀x y H Q,r' x y H Q→r x y H Q):OpR X f r':=fun pins s σ H x y v u Q I rx ry q=>h pins s σ H x y v u Q I rx ry (k _ _ _ _ q)
theorem bW.imp {f:Value} {r r':List V→Hp→VK→Prop} (h:bW X f r) (k:∀xs H Q,r' xs H Q→r xs H Q):bW X f r':=fun pins s σ H xs us Q I rv q=>h pins s σ H xs us Q I rv (k _ _ _ q)
def aW0 (K:PySem.W.Frag):V→Option Int→Option Int→Hp→VK→Prop:=fun x lo hi H Q=>∃a xs,x=.ref a∧SqT K H a xs ∧
 ¬ (HT.sIx xs.length 0 lo=0∧HT.sIx xs.length xs.length hi=xs.length)∧∀p H',Same H H'→H' p=some (.tup (uB xs lo hi))→Q (.ref p) H'
theorem aRj:SlR X (aW0 X.K):=fun pins s σ H x v vl vu lo hi sl Q I rx hs pl pu ⟨a,xs,e,ha,hn,q⟩=>
 aVm pins s σ H x v vl vu lo hi sl Q I rx hs pl pu ⟨a,xs,e,ha,hn,fun p hp=>q p _ (aW hp _) aK⟩
def aTh:R2:=fun x y H Q=>∃l b xs zs,x=.ref l∧y=.ref b∧H l=some (.lst xs)∧H b=some (.lst zs)∧xs.length+zs.length≤sizeLine∧∀p H',H p=none→Same H H'→H' p=some (.lst (xs++zs))→Q (.ref p) H'
theorem aGa:OpR X (binaryOp .Add) aTh:=OpR.imp aU8 fun x y H Q ⟨l,b,xs,zs,ex,ey,hl,hb,hz,q⟩=>⟨l,b,xs,zs,ex,ey,hl,hb,hz,fun p hp=>q p _ hp (aW hp _) aK⟩
def aO4 (K:PySem.W.Frag):List V→Hp→VK→Prop:=fun xs H Q=>∃p ys,xs=[.ref p]∧(SqL K H p ys∨SqT K H p ys)∧∀l H',H l=none→Same H H'→H' l=some (.lst ys)→Q (.ref l) H'
theorem xD:bW X (.type "list") (aO4 X.K):=bW.imp aDt fun xs H Q ⟨p,ys,e,h,q⟩=>⟨p,ys,e,h,fun l hl=>q l _ hl (aW hl _) aK⟩
def aRk (K:PySem.W.Frag):List V→Hp→VK→Prop:=fun xs H Q=>∃p ys,xs=[.ref p]∧SqL K H p ys∧∀l H',H l=none→Same H H'→H' l=some (.tup ys)→Q (.ref l) H'
theorem oO:bW X (.type "tuple") (aRk X.K):=bW.imp aA9 fun xs H Q ⟨p,ys,e,h,q⟩=>⟨p,ys,e,.inl ⟨h,fun l hl=>q l _ hl (aW hl _) aK⟩⟩
theorem dO:MtR X "list.append" aKi:=vC
theorem eZ {H H':Hp} {D:Addr} {o:HO} (f:H D=none) (s:Same H H'):Same H (upd H' D o):=fun b u e=>by rw [aM (aY e f)];exact s _ _ e
end
end L2
namespace PySem
section
variable {prog:Program} {w:World} {A:Around} {E:Value→Shared→Prop} {s:Shared} {T:String} {r d:Addr} {n:Nat} {P:Nat→Value→Prop} {OK:Heap→Prop}
end
end PySem
namespace L2
open PySem PySem.Spec PyProof.Rows
section
variable {X:Cx}
end
section
variable {X:Cx} {pins:List (Addr × Obj)} {σ:St} {H:Hp} {s:Shared}
theorem Inv.gR {t b:Addr} {xs:List V} (I:Inv X pins σ H s) (h:SqL X.K H t xs) (f:qN X pins H b):t≠b:=by
 rintro rfl
 obtain ⟨f0,f1,f2,f3,_⟩:=f
 rcases h with (h|⟨o,h⟩)|⟨o,its,n,hk,_⟩
 ·rw [f0] at h;cases h
 ·rw [f0] at h;cases h
 ·have e:=I.ok.mod.kin t o hk
  rcases f3 with z|z
  ·exact I.ok.noex t o e z
  ·exact absurd (Nat.lt_of_lt_of_le (Heap.lt_size e) (Nat.le_trans I.ok.bsz z)) (Nat.lt_irrefl _)
end
def Ite (K:PySem.W.Frag) (l:Addr) (xs:List V):It:=
 ⟨fun i H=>SqL K H l xs∧i<xs.length,fun i H v H'=>∃T a,H T=none∧v=.ref T∧H'=upd H T (.tup [.int (i:Nat),a])∧xs[i]?=some a,fun i H=>SqL K H l xs∧xs.length≤i⟩
def etn (e it l:Addr) (i:Nat) (h:Heap):Prop:=(∃old,IsEnum h e it (i:Int) old)∧h.IsListIter it l i
theorem aLi {P:Program} {w:World} {K:PySem.W.Frag} {elts:List Expr} {kt:Nat} {pos:Pos} {e it l:Addr} {xs:List V} (hne:e≠it) :
  Turn P w K (.Tuple elts kt pos) (Ite K l xs) [e,it] e (etn e it l) where
 mem:=by simp
 obj:=fun i h st b hb=>by
  obtain ⟨⟨old,e1⟩,o,e2,c2,d2⟩:=st
  simp only [List.mem_cons,List.not_mem_nil,or_false] at hb
  rcases hb with rfl|rfl
  ·exact ⟨_,e1,fun v z=>by cases (show Data.fields _=Data.cell v from z)⟩
  ·exact ⟨_,e2,fun v z=>by rw [d2] at z;cases z⟩
 keep:=fun i h h' st k=>by
  obtain ⟨⟨old,e1⟩,o,e2,r⟩:=st
  exact ⟨⟨old,k e (by simp) _ e1⟩,o,k it (by simp) _ e2,r⟩
 item:=by
  intro X hP hw hK hc i pins s σ H E I hf st hg
  subst hP hw hK
  obtain ⟨⟨old,e1⟩,e2⟩:=st
  obtain ⟨hl,l1⟩:=hg
  obtain ⟨its,rv,pl,hz⟩:=I.list hl
  obtain ⟨x,hx,rx⟩:=rv.get (List.getElem?_eq_getElem l1)
  have fe:=hf e (by simp)
  have fi:=hf it (by simp)
  refine wpAny_pyNext_enum_item e1 e2 pl.isList (by simpa using hx) hne fun h' a1 a2 a3 a4 kp=>?_
  refine ⟨_,rfl,?_⟩
  have fT:H s.heap.objs.size=none:=I.hok.fresh (Nat.le_refl _)
  obtain ⟨oi,e2',_⟩:=id e2
  obtain ⟨oi2,a2',_⟩:=id a2
  have I1:Inv X pins σ (upd H s.heap.objs.size (.tup [.int (i:Nat),xs[i]])) { s with heap:=h' }:=by
   refine I.drawn (ch:=[e,it]) (its:=[.int i s.toks,x]) (fun b hb=>hf b hb) (fun b o hb z=>?_) (Nat.le_refl _) (.cons ⟨_,rfl⟩ (.cons rx .nil)) (small (by simp)) (.of a3 rfl ⟨_,a3,rfl,_,rfl⟩) (fun b hb=>?_)
   ·simp only [List.mem_cons,List.not_mem_nil,or_false,not_or] at hb
    exact kp b o hb.1 hb.2 z
   ·simp only [List.mem_cons,List.not_mem_nil,or_false] at hb
    rcases hb with rfl|rfl
    ·exact ⟨_,a1⟩
    ·exact ⟨_,a2'⟩
  have I1':Inv X pins σ (upd H s.heap.objs.size (.tup [.int (i:Nat),xs[i]])) { s with heap:=h',toks:=s.toks+1 }:=I1.tok _
  have nT:∀b∈[e,it],b≠s.heap.objs.size:=fun b hb=>by
   simp only [List.mem_cons,List.not_mem_nil,or_false] at hb
   rcases hb with rfl|rfl
   ·exact Nat.ne_of_lt (Heap.lt_size e1)
   ·exact Nat.ne_of_lt (Heap.lt_size e2')
  refine wpAny_letOwnedTupleGo_enum (s:={ s with heap:=h',toks:=s.toks+1 }) a1 fun h2 z2 s2=>?_
  obtain ⟨g0,g1,g2,g3,g4,g5⟩:=fe
  have I2:Inv X pins σ (upd H s.heap.objs.size (.tup [.int (i:Nat),xs[i]])) { s with heap:=h2,toks:=s.toks+1 }:=Inv.turned (s:={ s with heap:=h',toks:=s.toks+1 }) I1' (t':=s.toks+1) (it:=e) (fun b o hb z=>(s2.2 b hb).trans z) (by rw [aM (nT e (by simp))];exact g0) g1 g3 g4 g5
  refine ⟨.ref s.heap.objs.size,_,I2,rfl,⟨_,_,fT,rfl,rfl,List.getElem?_eq_getElem l1⟩,⟨⟨x,?_⟩,?_⟩,fun b hb=>by rw [aM (nT b hb)];exact (hf b hb).1⟩
  ·rw [show ((i+1:Nat):Int)=(i:Int)+1 from by lia]
   exact z2
  ·obtain ⟨o,ho,r⟩:=a2
   exact ⟨o,(s2.2 it (Ne.symm hne)).trans ho,r⟩
 done:=by
  intro X hP hw hK hc i pins s σ H E I hf st hg
  subst hP hw hK
  obtain ⟨⟨old,e1⟩,e2⟩:=st
  obtain ⟨hl,hi⟩:=hg
  obtain ⟨its,rv,pl,hz⟩:=I.list hl
  have hlen:=rv.length
  refine wpAny_pyNext_enum_end (I.ok.hd hc) e1 e2 pl.isList (by simp;lia) fun h' kp=>⟨rfl,?_⟩
  refine Inv.aC7 (ch:=[it]) I (fun b hb=>hf b (List.mem_cons_of_mem _ hb)) fun b o hb z=>kp b o (by simpa using hb) z
 self:=fun _ _ _ _ _ st h=>by
  obtain ⟨⟨old,e1⟩,_⟩:=st
  exact wpAny_pyIter_enum e1 h
section
variable {X:Cx}
def aS0 (K:PySem.W.Frag) (ta:TA):TI:=fun σ H R=>ta σ H fun vs H1=>∃l xs,vs=[.ref l]∧SqL K H1 l xs∧R (Ite K l xs) H1
theorem aQw {elts:List Expr} {kt:Nat} {tp:Pos} {a:Expr} {ta:TA} {p pos:Pos} (hg:Gl X "enumerate") (hm:X.mg "enumerate"=none) (ha:PA X [a] ta) (hs:starEach [a] X.env=[(false,eval a X.env)]:=by rfl) :
  PI X (.Tuple elts kt tp) (.Call (.Name "enumerate" p) [a] [] pos) (aS0 X.K ta):=by
 intro pins s σ H R I h
 refine Call_ (lH I hg hm aC3 (PyProof.Rows.callWith_type1 (thn (ha pos pins s σ H _ I h) fun us s1 ⟨vs,H1,I1,r1,q1⟩=>?_) hs (by rfl)))
 obtain ⟨l,xs,e,hl,q⟩:=q1
 subst e
 obtain ⟨its,rv,pl,hz⟩:=I1.list hl
 obtain ⟨u,rfl,ru⟩:=vals1 r1
 cases ru
 refine call_enumerate_list pl.isList fun h' a1 a2 a3 kp=>?_
 have I2:Inv X pins σ H1 { s1 with heap:=h' }:=I1.kept (t':=s1.toks) kp
 refine wpAny_pyIter_enum (s:={ s1 with heap:=h' }) a1 ⟨_,_,_,_,H1,rfl,I2,aLi (xs:=xs) (l:=l) (Nat.ne_of_gt (Nat.lt_succ_self _)),⟨⟨_,a1⟩,a2⟩,fun b hb=>?_,q⟩
 have hb':s1.heap.objs.size≤b:=by
  simp only [List.mem_cons,List.not_mem_nil,or_false] at hb
  rcases hb with rfl|rfl
  ·exact Nat.le_succ _
  ·exact Nat.le_refl _
 exact I1.aA1 hb' (I1.hok.fresh hb')
theorem aO9 {K:PySem.W.Frag} {l:Addr} {xs:List V} {g:TG} {tb:TS} {D:Ends} {σ:St} {H:Hp} (Pv:Nat→St→Hp→Prop) (h0:Pv 0 σ H) (hl:∀i σ H,i≤xs.length→Pv i σ H→SqL K H l xs)
  (hs:∀i σ H a T H',xs[i]?=some a→Pv i σ H→H T=none→H'=upd H T (.tup [.int (i:Nat),a])→g (.ref T) σ H' fun σ2 H2=>tb { D with nx:=Pv (i+1),ct:=Pv (i+1),bk:=D.nx } σ2 H2) (hd:∀σ H,Pv xs.length σ H→D.nx σ H) :
  ∃W:Nat→Nat→St→Hp→Prop,(∃m,W 0 m σ H)∧∀i m σ H,W i m σ H →
   ((Ite K l xs).stop i H∧D.nx σ H)∨((Ite K l xs).go i H∧∃N:St→Hp→Prop,(∀σ' H',N σ' H'→∃m',m'<m∧W (i+1) m' σ' H')∧∀x H',(Ite K l xs).yld i H x H'→g x σ H' fun σ2 H2=>tb { D with nx:=N,ct:=N,bk:=D.nx } σ2 H2):=by
 refine ⟨fun i m σ H=>m=xs.length - i∧i≤xs.length∧Pv i σ H,⟨xs.length,by simp,Nat.zero_le _,h0⟩,?_⟩
 rintro i m σ H ⟨rfl,hi,p⟩
 by_cases hlt:i<xs.length
 ·refine .inr ⟨⟨hl i σ H hi p,hlt⟩,Pv (i+1),fun σ' H' p'=>⟨xs.length - (i+1),by lia,rfl,hlt,p'⟩,fun x H' y=>?_⟩
  obtain ⟨T,a,hT,rfl,e,ha⟩:=y
  exact hs i σ H a T H' ha p hT e
 ·have e:i=xs.length:=by lia
  subst e
  exact .inl ⟨⟨hl _ σ H hi p,Nat.le_refl _⟩,hd σ H p⟩
end
section
variable {X:Cx} {a c e:Expr} {st:Stmt} {body:List Stmt} {tc:TT} {tb:TS} {t:TA} {te:TE} {pos p:Pos}
theorem oG:VS X st aNf:=⟨aP9⟩
theorem aQk {elts:List Expr} {kt:Nat} {tp:Pos} (hg:Gl X "enumerate") (hm:X.mg "enumerate"=none) (ha:VA X [a] t) (hp:cO a=true:=by rfl) :
  VI X (.Tuple elts kt tp) (.Call (.Name "enumerate" p) [a] [] pos) (aS0 X.K t):=⟨aQw hg hm ha.1 (aN (es:=[]) hp)⟩
theorem aI5 {o:Expr} {to:TE} {name:Str} {apos cpos:Pos} {T id:String} {r:V→List V→Hp→VK→Prop} (pa:PlainAttrs T) (slot:Slot T name id) (hty:typeOf (.builtin id)=pure (.type "method_descriptor")) (hm:MtR X id r) (ho:VE X o to)
  (hbase:attributeBase o name X.env (eval o X.env)=eval o X.env:=by rfl) (hline:(apos.endLine == cpos.line)=true:=by rfl):VE X (.Call (.Attribute o name apos) [] [] cpos) (aVq X.K T r to):=⟨aUz pa slot hty hm ho.1 hbase hline⟩
end
section
variable {P:Program} {w:World} {K:PySem.W.Frag} {mg:Str→Option Value} {base:Heap}
end
section
variable {X:Cx} {scope:Scope} {N:List Str} {wi:TI} {te:TE} {σ:St} {H:Hp} {Q:VK}
theorem aLt (xs:List V) (Rel:Nat→Hp→V→Prop) (st:∀{i H1 H2 y},Same H1 H2→Rel i H1 y→Rel i H2 y) (su:∀{i H1 D ys zs y},H1 D=some (.lst ys)→Rel i H1 y→Rel i (upd H1 D (.lst zs)) y)
  (σ0:St) (cap:Cap X scope N σ σ0) (hsz:xs.length≤sizeLine)
  (hw:∀R:It→Hp→Prop,(∀J:It,(∀H' i x,Same H H'→xs[i]?=some x→J.go i H'∧∀y H2,J.yld i H' y H2→H2=H'∧y=x)→(∀H',Same H H'→J.stop xs.length H')→R J H)→wi σ H R)
  (he:∀(i:Nat) (x:V),xs[i]?=some x→∀H' R l,Same H H'→(∀y H2,Same H' H2→Rel i H2 y→R y H2)→te ((σ0.set 0 l).set 0 (some x)) H' R) (h0:σ0[0]?=some none)
  (q:∀D H' ys,Same H H'→H' D=some (.lst ys)→ys.length=xs.length→(∀(i:Nat) (y:V),ys[i]?=some y→Rel i H' y)→Q (.ref D) H') :
  iZ X scope N wi (cJ 0) jV te σ H Q:=by
 refine ⟨σ0,cap,hw _ fun J go stop D hD=>?_⟩
 refine ⟨fun i m σ' H' ys=>i≤xs.length∧m=xs.length - i∧(∃l,σ'=σ0.set 0 l)∧Same H H'∧H' D=some (.lst ys)∧ys.length=i∧∀(j:Nat) (y:V),ys[j]?=some y→Rel j H' y,⟨xs.length,Nat.zero_le _,rfl,⟨none,jH h0⟩,aW hD _,aK,rfl,fun j y e=>by simp at e⟩,?_⟩
 rintro i m σ' H' ys ⟨hi,rfl,⟨l,rfl⟩,sm,hL,hl,hR⟩
 refine ⟨hL,?_⟩
 by_cases hlt:i<xs.length
 ·right
  obtain ⟨g1,g2⟩:=go H' i xs[i] sm (List.getElem?_eq_getElem hlt)
  refine ⟨g1,fun x H2 hy=>?_⟩
  obtain ⟨rfl,rfl⟩:=g2 x H2 hy
  unfold cJ jV
  dsimp only
  rw [if_pos rfl]
  refine he i xs[i] (List.getElem?_eq_getElem hlt) _ _ l sm fun y H3 s3 r3=>⟨s3 _ _ hL,by lia,xs.length - (i+1),by lia,hlt,rfl,⟨some xs[i],?_⟩,?_,aK,?_,?_⟩
  ·rw [List.set_set]
  ·intro b o e
   rw [aM (aY e hD)]
   exact s3 _ _ (sm _ _ e)
  ·rw [List.length_append,List.length_singleton,hl]
  ·intro j z ez
   refine su (s3 _ _ hL) ?_
   by_cases hj:j<ys.length
   ·rw [List.getElem?_append_left hj] at ez
    exact st s3 (hR j z ez)
   ·rw [List.getElem?_append_right (by lia)] at ez
    have hj0:j - ys.length=0:=by
     by_cases z0:j - ys.length=0
     ·exact z0
     ·rw [List.getElem?_eq_none (by simp;lia)] at ez;cases ez
    have hj1:j=i:=by lia
    subst hj1
    rw [hj0] at ez
    cases ez
    exact r3
 ·left
  have e:i=xs.length:=by lia
  subst e
  exact ⟨stop _ sm,q D _ ys sm hL hl hR⟩
theorem aSl (xs ys:List V) (hly:ys.length=xs.length) (σ0:St) (cap:Cap X scope N σ σ0) (hsz:xs.length≤sizeLine)
  (hw:∀R:It→Hp→Prop,(∀J:It,(∀H' i x,Same H H'→xs[i]?=some x→J.go i H'∧∀y H2,J.yld i H' y H2→H2=H'∧y=x)→(∀H',Same H H'→J.stop xs.length H')→R J H)→wi σ H R)
  (he:∀(i:Nat) (x y:V),xs[i]?=some x→ys[i]?=some y→∀H' R l,Same H H'→(∀H2,Same H' H2→R y H2)→te ((σ0.set 0 l).set 0 (some x)) H' R) (h0:σ0[0]?=some none)
  (q:∀D H',Same H H'→H' D=some (.lst ys)→Q (.ref D) H') :
  iZ X scope N wi (cJ 0) jV te σ H Q:=by
 refine aLt xs (fun i _ y=>ys[i]?=some y) (fun _ h=>h) (fun _ h=>h) σ0 cap hsz hw (fun i x ex H' R l sm r=>?_) h0 fun D H' zs sm hD hl hR=>?_
 ·have hi:i<ys.length:=by rw [hly];exact (List.getElem?_eq_some_iff.mp ex).1
  exact he i x ys[i] ex (List.getElem?_eq_getElem hi) H' R l sm fun H2 s2=>r _ H2 s2 (List.getElem?_eq_getElem hi)
 ·have e:zs=ys:=by
   refine List.ext_getElem? fun i=>?_
   by_cases hi:i<zs.length
   ·rw [hR i zs[i] (List.getElem?_eq_getElem hi),List.getElem?_eq_getElem hi]
   ·rw [List.getElem?_eq_none (by lia),List.getElem?_eq_none (by lia)]
  subst e
  exact q D H' sm hD
end
section
variable {X:Cx} {tg e o i:Expr} {te td ty:TE} {pos:Pos}
theorem kW (hu:X.A.units+1<cLine) (ho:VE X o td) (hi:VE X i ty) (hs:aUw i):VE X (.Subscript o i pos) (aSv td ty):=⟨aRv hu ho.1 hi.1 hs⟩
end
theorem aLo {X:Cx} {i o:Expr} {td ty:TE} {pos:Pos} (hu:X.A.units+1<cLine) (hi:VE X i ty) (ho:VE X o td) (h1:behindInMarks .NotIn o=false:=by first|exact nobehind _ (by decide) (by decide)|rfl):VT X (.Compare i [.NotIn] [o] pos) (tB (aKj ty td)):=⟨aU1 (aMy hu hi.1 ho.1) h1⟩
end L2
namespace L2
open PySem PySem.Spec PyProof.Rows
def sel {α:Type} (p:Nat→Bool):Nat→List α→List α
 |_,[]=>[]
 |i,x::r=>if p i then x::sel p (i+1) r else sel p (i+1) r
theorem zE {α:Type} (p:Nat→Bool) (x:α):∀(k:Nat) (xs:List α),sel p k (xs++[x])=sel p k xs++(if p (k+xs.length) then [x] else [])
 |k,[]=>by
  show (if p k then x::sel p (k+1) [] else sel p (k+1) [])=[]++(if p (k+0) then [x] else [])
  rw [Nat.add_zero,List.nil_append]
  rfl
 |k,y::r=>by
  show (if p k then y::sel p (k+1) (r++[x]) else sel p (k+1) (r++[x]))=(if p k then y::sel p (k+1) r else sel p (k+1) r)++_
  rw [zE p x (k+1) r,List.length_cons,show k+1+r.length=k+(r.length+1) by lia]
  split <;> rfl
theorem aCt {α:Type} (p:Nat→Bool):∀(k:Nat) (xs:List α),(sel p k xs).length≤xs.length
 |_,[]=>Nat.le_refl _
 |k,y::r=>by
  have:=aCt p (k+1) r
  show (if p k then y::sel p (k+1) r else sel p (k+1) r).length≤r.length+1
  split
  ·rw [List.length_cons];lia
  ·lia
section
variable {X:Cx} {scope:Scope} {N:List Str} {wi:TI} {te:TE} {σ:L2.St} {H:Hp} {Q:VK}
end
theorem aR9 {X:Cx} {i0:Nat} {x0:Str} {pos' spos:Pos} {elt target iter:Expr} {ifs:List Expr} {scope:Scope} {pos:Pos} {N:List Str} {wi:TI} {g:TG} {tt:TT} {te:TE}
  (hN:X.N.Nodup) (hi0:X.N[i0]?=some x0) (hx0:Loc X.env.scope x0) (C:aAf scope N) (hfr:∀y,(y,NameKind.free)∈scope.names→X.env.kindOf y=some .cell∨X.env.kindOf y=some .free) (hc:X.calm=true)
  (hi:PI X target iter wi)
  (hb:∀cl s H fp,PG (cxC X N scope cl s H fp) target g∧aPu (cxC X N scope cl s H fp) ifs tt∧PE (cxC X N scope cl s H fp) elt te)
  (hs:∀x,foldedSetIterable iter X.env x=pure x:=by intro _;rfl) (hsw:swapsWith (.ListComp elt [⟨target,iter,ifs,0⟩] scope pos) (some (.Name x0 pos')) spos.line X.env=pure true:=by rfl)
  (hf:X.fn x0=true∨X.env.scope.names.lookup x0=some .local:=by first|exact .inl rfl|exact .inr rfl|assumption) :
  PS X (.Assign [.Name x0 pos'] (.ListComp elt [⟨target,iter,ifs,0⟩] scope pos) spos) (aBb (iZ X scope N wi g tt te) (cJ i0)):=by
 intro pins s σ H Dn I hq
 obtain ⟨σ0,cap,hq⟩:=hq
 obtain ⟨cl,hcl,p1,p2⟩:=zA (scope:=scope) (env:=X.env) (fun y hy hk=>by
  obtain ⟨n,k⟩:=y
  cases hk
  exact I.ok.has n (hfr n hy))
 rw [exec_Assign_Name_used _ _ _ _ hsw]
 refine wpAny_bind (wpAny_standAt (wpAny_bind ?_))
 show wpAny _ X.A (do let _ ←comprehension (.ListComp elt [⟨target,iter,ifs,0⟩] scope pos) scope X.env _ (newList []) false (eval iter X.env) (some (assign (.Name x0 pos') X.env))) _ _ s
 refine wpAny_bind (wpAny_mono (wpAny_comprehension_free (use:=some (assign (.Name x0 pos') X.env)) (Q:=fun _ s'=>SP X pins Dn .next s') rfl hs hcl C.kind C.names (thn (hi pins s σ H _ I hq) fun xv s1 h1=>thn h1 fun itv s2 h2=>?_))
  (fun _ s' hq=>wpAny_pure (wpAny_pure hq)) fun _ _ e=>e)
 obtain ⟨it,fp,tn,J,H2,rfl,I2,T,st2,f2,q2⟩:=h2
 refine wpAny_newObj_type (wpAny_newFunctionEnv C.cell (by intro y hy;simp at hy) (fun h₁ hns₁ hsb₁=>?_) C.kind)
 dsimp only at hns₁ hsb₁ ⊢
 have hD:H2 s2.heap.objs.size=none:=I2.hok.fresh (Nat.le_refl _)
 have I3:Inv X pins σ (upd H2 s2.heap.objs.size (.lst [])) { s2 with heap:=s2.heap.push { cls:=.type "list",dict:=none,data:=.seq ([]:List Value).toArray } }:=
  I2.laid (t':=s2.toks) (fun b u e=>Heap.get?_push_of_some _ e) (Nat.le_refl _) ⟨Nat.zero_le _,[],0,.nil,Heap.get?_push_size _ rfl⟩
 generalize hs3:({ s2 with heap:=s2.heap.push { cls:=.type "list",dict:=none,data:=.seq ([]:List Value).toArray } }:Shared)=s3 at I3
 have hh3:s2.heap.push { cls:=.type "list",dict:=none,data:=.seq ([]:List Value).toArray }=s3.heap:=by rw [←hs3]
 rw [hh3] at hns₁ hsb₁
 have fl2:∀b∈fp,b<s2.heap.objs.size:=fun b hb=>by
  obtain ⟨o,e,_⟩:=T.obj _ _ st2 b hb
  exact Heap.lt_size e
 have fl3:∀b∈fp,b<s3.heap.objs.size:=fun b hb=>by
  rw [←hh3,Heap.size_push]
  exact Nat.lt_succ_of_lt (fl2 b hb)
 have f3:∀b∈fp,qN X pins (upd H2 s2.heap.objs.size (.lst [])) b:=fun b hb=>by
  obtain ⟨f0,fr⟩:=f2 b hb
  exact ⟨by rw [aM (Nat.ne_of_lt (fl2 b hb))];exact f0,fr⟩
 have keep3:∀b o,s3.heap.get? b=some o→h₁.get? b=some o:=fun b o e=>hsb₁.extBut b o (Nat.ne_of_lt (Heap.lt_size e)) (Heap.get?_push_of_some _ e)
 have I4:=aE9 (tk:=s3.toks) I3 C hfr p1 p2 cap f3 fl3 hns₁ keep3
 have st4:tn 0 h₁:=T.keep _ _ _ st2 fun b hb o e=>keep3 b o (by rw [←hh3];exact Heap.get?_push_of_some _ e)
 obtain ⟨W,⟨m0,w0⟩,turn⟩:=q2 s2.heap.objs.size hD
 have fpc:∀{H':Hp},(∀b∈fp,H' b=none)→∀b∈fp,qN (cxC X N scope cl s3 (upd H2 s2.heap.objs.size (.lst [])) fp) [] H' b:=fun {H'} hn b hb=>by
  obtain ⟨e1,e2⟩:=I4.ok.exf b hb
  exact ⟨hn b hb,e1,I4.ok.exfs b hb,.inl hb,e2,fun p hp=>absurd (show p∈([]:List (Addr × Obj)) from hp) (by simp)⟩
 have loop:∀s4:Shared,s4={ s3 with heap:=h₁,toks:=s3.toks } →
   codeAny (model X.prog X.w) X.A (.compLoop (.ListComp elt [⟨target,iter,ifs,0⟩] scope pos) 0 (.ref it) (.ref s2.heap.objs.size) (compEnvC scope cl s3.heap.objs.size X.env))
    (compPost (model X.prog X.w) X.A X.xe (some (assign (.Name x0 pos') X.env)) (fun _ s'=>SP X pins Dn .next s') (.ref s2.heap.objs.size) s3.heap.objs.size) s4:=by
  rintro s4 rfl
  refine aB1 (fun n s'=>∃i σ' H' ys,Inv (cxC X N scope cl s3 (upd H2 s2.heap.objs.size (.lst [])) fp) [] σ' H' s'∧tn i s'.heap∧(∀b∈fp,H' b=none)∧W i n σ' H' ys) ?_ m0 ⟨0,σ0,_,[],I4,st4,fun b hb=>(f3 b hb).1,w0⟩
  rintro n s5 ⟨i,σ5,H5,ys,I5,st5,fr5,w5⟩
  obtain ⟨hacc,w5⟩:=turn i n σ5 H5 ys w5
  have noE:∀{α:Type} {t:Sem α} {Q':α→Shared→Prop} {E':Value→Shared→Prop} {s':Shared},wpAny (model X.prog X.w) X.A t Q' (fun _ _=>False) s'→wpAny (model X.prog X.w) X.A t Q' E' s':=fun h=>wpAny_mono h (fun _ _ q=>q) fun _ _ z=>z.elim
  rcases w5 with ⟨stop,qn⟩|⟨go,step⟩
  ·refine noE (thn (T.done (cxC X N scope cl s3 (upd H2 s2.heap.objs.size (.lst [])) fp) rfl rfl rfl hc i [] s5 σ5 H5 _ I5 (fpc fr5) st5 stop) fun r s6 ⟨hr,I6⟩=>?_)
   subst hr
   obtain ⟨m6,hn6,_⟩:=I6.loc
   have kp:∀b o,b≠s3.heap.objs.size→s6.heap.get? b=some o→s6.heap.get? b=some o:=fun b o hb e=>e
   have ne3:∀b o,s3.heap.get? b=some o→b≠s3.heap.objs.size:=fun b o e=>Nat.ne_of_lt (Heap.lt_size e)
   have un:Un (frs X.stack) fp (upd H2 s2.heap.objs.size (.lst [])) H5 s3.heap s6.heap:=by
    have u:=I6.base
    exact ⟨fun b o e n hb hx=>kp b o (ne3 b o e) (u.keep b o e n hb hx),fun b o e n hb hx=>by
     obtain ⟨sl,e1⟩:=u.slot b o e n hb hx
     exact ⟨sl,kp b _ (ne3 b o e) e1⟩,u.free,fun b o e hx=>by
     obtain ⟨o',e1⟩:=u.there b o e hx
     exact ⟨o',kp b _ (ne3 b o e) e1⟩,u.tups,u.frzs,u.tbls⟩
   have hok:HOk X.prog X.w H5 s6.heap:=fun b u e=>by
    refine (I6.hok b u e).stay (fun c v hc' q=>kp c v ?_ q) (fun _ q=>q) fun _ _ q=>q
    have hfree:H5 s3.heap.objs.size=none:=I6.free
    rintro rfl
    rcases hc' with z|z
    ·rw [z] at hfree;rw [hfree] at e;cases e
    ·rw [hfree] at z;cases z
   have I7:Inv X pins σ H5 s6:=by
    refine I3.call' (s':=s6) I6.os un hok I6.bare fun b hb=>?_
    obtain ⟨f0,f1,f2',f3',f4,f5⟩:=f3 b hb
    exact ⟨f3',f1,f4,f5⟩
   have hfree:H5 s3.heap.objs.size=none:=I6.free
   obtain ⟨g0,g1,g2,g3,g4,g5⟩:=I3.aA1 (Nat.le_refl _) hfree
   show wpAny (model X.prog X.w) X.A (assign (.Name x0 pos') X.env (.ref s2.heap.objs.size)) _ _ s6
   refine wpAny_assign_Name (aBm I7 hN hi0 hx0 (v:=.ref s2.heap.objs.size) rfl (fun s8 I8 ⟨a,sb,ha⟩=>?_) hf)
   have nea:s3.heap.objs.size≠a:=by
    rcases ha with z|z
    ·rw [z];exact g1
    ·exact fun e=>g4 x0 a z e.symm
   refine ⟨m6,hn6.sameBut sb nea,fun h' sb'=>?_⟩
   exact ⟨_,H5,Inv.turned I8 (t':=s8.toks) (it:=s3.heap.objs.size) (fun b o hb e=>sb'.extBut b o hb e) g0 g1 g3 g4 g5,qn⟩
  ·refine noE (thn (T.item (cxC X N scope cl s3 (upd H2 s2.heap.objs.size (.lst [])) fp) rfl rfl rfl hc i [] s5 σ5 H5 (fun _ _=>False) I5 (fpc fr5) st5 go) fun r s6 ⟨u,hr,h6⟩=>?_)
   subst hr
   refine noE (thn h6 fun _ s7 ⟨x,H7,I7,r7,y7,st7,fr7⟩=>?_)
   obtain ⟨hg,ht,he⟩:=hb cl s3 (upd H2 s2.heap.objs.size (.lst [])) fp
   have I7':=I7.pinned (fpc fr7) (T.obj _ _ st7)
   have back:∀{σ8:St} {H8:Hp} {s8:Shared},Inv (cxC X N scope cl s3 (upd H2 s2.heap.objs.size (.lst [])) fp) ([]++vJ fp s7.heap) σ8 H8 s8→tn (i+1) s8.heap∧∀b∈fp,H8 b=none:=fun {σ8 H8 s8} I8=>
    ⟨T.keep _ _ _ st7 fun b hb o e=>(I8.pin (b,o) (List.mem_append_right _ (List.mem_append_right _ (gY hb e)))).1,fun b hb=>by
     obtain ⟨o,e,d⟩:=T.obj _ _ st7 b hb
     exact (I8.pin (b,o) (List.mem_append_right _ (List.mem_append_right _ (gY hb e)))).2.1⟩
   refine noE (thn (hg _ s7 σ5 H7 x u _ I7' r7 (step x H7 y7)) fun _ s8 ⟨σ8,H8,I8,q8⟩=>?_)
   refine noE (thn (ht _ s8 σ8 H8 _ I8 q8) fun b s9 ⟨H9,I9,q9⟩=>?_)
   cases b with
   |false=>
    rw [if_neg Bool.false_ne_true] at q9 ⊢
    obtain ⟨_,m',hm,w9⟩:=q9
    exact ⟨m',hm,i+1,σ8,H9,ys,I9.jP,(back I9).1,(back I9).2,w9⟩
   |true=>
    rw [if_pos rfl] at q9 ⊢
    refine noE (thn (he _ s9 σ8 H9 _ I9 q9) fun yv s10 ⟨y,H10,I10,r10,hacc10,hlen,m',hm,w10⟩=>?_)
    refine noE (thn (vC _ s10 σ8 H10 (.ref s2.heap.objs.size) [y] (.ref s2.heap.objs.size) [yv] (fun _ H11=>H11=upd H10 s2.heap.objs.size (.lst (ys++[y]))) I10 rfl (.cons r10 .nil) ⟨_,_,_,rfl,rfl,hacc10,hlen,rfl⟩) fun _ s11 ⟨z,H11,I11,_,e11⟩=>?_)
    subst e11
    exact ⟨m',hm,i+1,σ8,_,ys++[y],I11.jP,(back I11).1,(back I11).2,w10⟩
 have fin:=codeAny_compStart_list (loop { s3 with heap:=h₁,toks:=s3.toks } rfl) (T.self _ _ _ _ _ st4 (loop { s3 with heap:=h₁,toks:=s3.toks } rfl))
 subst hs3
 exact fin
theorem aCu {X:Cx} {i0:Nat} {x0:Str} {pos' spos:Pos} {elt target iter:Expr} {ifs:List Expr} {scope:Scope} {pos:Pos} {N:List Str} {wi:TI} {g:TG} {tt:TT} {te:TE}
  (hN:X.N.Nodup) (hi0:X.N[i0]?=some x0) (hx0:Loc X.env.scope x0) (C:aAf scope N) (hfr:∀y,(y,NameKind.free)∈scope.names→X.env.kindOf y=some .cell∨X.env.kindOf y=some .free) (hc:X.calm=true)
  (hi:VI X target iter wi)
  (hb:∀cl s H fp,VG (cxC X N scope cl s H fp) target g∧VF (cxC X N scope cl s H fp) ifs tt∧VE (cxC X N scope cl s H fp) elt te)
  (hs:∀x,foldedSetIterable iter X.env x=pure x:=by intro _;rfl) (hsw:swapsWith (.ListComp elt [⟨target,iter,ifs,0⟩] scope pos) (some (.Name x0 pos')) spos.line X.env=pure true:=by rfl)
  (hf:X.fn x0=true∨X.env.scope.names.lookup x0=some .local:=by first|exact .inl rfl|exact .inr rfl|assumption) :
  VS X (.Assign [.Name x0 pos'] (.ListComp elt [⟨target,iter,ifs,0⟩] scope pos) spos) (aBb (iZ X scope N wi g tt te) (cJ i0)):=
 ⟨aR9 hN hi0 hx0 C hfr hc hi.1 (fun cl s H fp=>⟨(hb cl s H fp).1.1,(hb cl s H fp).2.1.1,(hb cl s H fp).2.2.1⟩) hs hsw hf⟩
section
variable {te:TE} {H:Hp} {Q:VK}
theorem aHv (xs:List V) (Rel:Nat→Hp→V→Prop) (st:∀{i H1 H2 y},Same H1 H2→Rel i H1 y→Rel i H2 y) (su:∀{i H1 D ys zs y},H1 D=some (.lst ys)→Rel i H1 y→Rel i (upd H1 D (.lst zs)) y)
  (σ0:St) (hsz:xs.length≤sizeLine)
  (J:It) (go:∀H' i x,Same H H'→xs[i]?=some x→J.go i H'∧∀y H2,J.yld i H' y H2→H2=H'∧y=x) (stop:∀H',Same H H'→J.stop xs.length H')
  (he:∀(i:Nat) (x:V),xs[i]?=some x→∀H' R l,Same H H'→(∀y H2,Same H' H2→Rel i H2 y→R y H2)→te ((σ0.set 0 l).set 0 (some x)) H' R) (h0:σ0[0]?=some none)
  (q:∀D H' ys,Same H H'→H' D=some (.lst ys)→ys.length=xs.length→(∀(i:Nat) (y:V),ys[i]?=some y→Rel i H' y)→Q (.ref D) H') :
  ∀D,H D=none→∃W:Nat→Nat→St→Hp→List V→Prop,(∃m,W 0 m σ0 (upd H D (.lst [])) []) ∧
   ∀i m σ' H' ys,W i m σ' H' ys→H' D=some (.lst ys)∧((J.stop i H'∧Q (.ref D) H')∨(J.go i H'∧∀x H2,J.yld i H' x H2→cJ 0 x σ' H2 fun σ3 H3=>jV σ3 H3 fun b H4=>
    if b=true then te σ3 H4 fun y H5=>H5 D=some (.lst ys)∧ys.length<sizeLine∧∃m',m'<m∧W (i+1) m' σ3 (upd H5 D (.lst (ys++[y]))) (ys++[y]) else H4 D=some (.lst ys)∧∃m',m'<m∧W (i+1) m' σ3 H4 ys)):=by
 intro D hD
 refine ⟨fun i m σ' H' ys=>i≤xs.length∧m=xs.length - i∧(∃l,σ'=σ0.set 0 l)∧Same H H'∧H' D=some (.lst ys)∧ys.length=i∧∀(j:Nat) (y:V),ys[j]?=some y→Rel j H' y,⟨xs.length,Nat.zero_le _,rfl,⟨none,jH h0⟩,aW hD _,aK,rfl,fun j y e=>by simp at e⟩,?_⟩
 rintro i m σ' H' ys ⟨hi,rfl,⟨l,rfl⟩,sm,hL,hl,hR⟩
 refine ⟨hL,?_⟩
 by_cases hlt:i<xs.length
 ·right
  obtain ⟨g1,g2⟩:=go H' i xs[i] sm (List.getElem?_eq_getElem hlt)
  refine ⟨g1,fun x H2 hy=>?_⟩
  obtain ⟨rfl,rfl⟩:=g2 x H2 hy
  unfold cJ jV
  dsimp only
  rw [if_pos rfl]
  refine he i xs[i] (List.getElem?_eq_getElem hlt) _ _ l sm fun y H3 s3 r3=>⟨s3 _ _ hL,by lia,xs.length - (i+1),by lia,hlt,rfl,⟨some xs[i],?_⟩,?_,aK,?_,?_⟩
  ·rw [List.set_set]
  ·intro b o e
   rw [aM (aY e hD)]
   exact s3 _ _ (sm _ _ e)
  ·rw [List.length_append,List.length_singleton,hl]
  ·intro j z ez
   refine su (s3 _ _ hL) ?_
   by_cases hj:j<ys.length
   ·rw [List.getElem?_append_left hj] at ez
    exact st s3 (hR j z ez)
   ·rw [List.getElem?_append_right (by lia)] at ez
    have hj0:j - ys.length=0:=by
     by_cases z0:j - ys.length=0
     ·exact z0
     ·rw [List.getElem?_eq_none (by simp;lia)] at ez;cases ez
    have hj1:j=i:=by lia
    subst hj1
    rw [hj0] at ez
    cases ez
    exact r3
 ·left
  have e:i=xs.length:=by lia
  subst e
  exact ⟨stop _ sm,q D _ ys sm hL hl hR⟩
end
section
variable {K:PySem.W.Frag}
theorem rY {a:Addr} {xs:List V} {H:Hp} (hS:∀H',Same H H'→SqL K H' a xs):∀H' i x,Same H H'→xs[i]?=some x→(Itl K a).go i H'∧∀y H2,(Itl K a).yld i H' y H2→H2=H'∧y=x:=fun H' i x s e=>
 ⟨⟨xs,x,hS H' s,e⟩,fun y H2 hy=>by
  obtain ⟨e1,e2⟩:=hy
  have e3:=e2 xs (hS H' s)
  rw [e] at e3
  cases e3
  exact ⟨e1,rfl⟩⟩
theorem jJ {a:Addr} {xs:List V} {H:Hp} (hS:∀H',Same H H'→SqL K H' a xs):∀H',Same H H'→(Itl K a).stop xs.length H':=fun H' s=>⟨xs,hS H' s,Nat.le_refl _⟩
end
section
variable {X:Cx} {K:PySem.W.Frag} {scope:Scope} {N:List Str} {tl te:TE} {σ:L2.St} {H:Hp} {Q:VK}
theorem aLb (Pr:List V→Prop) (Rel:Nat→Hp→V→Prop) (st:∀{i H1 H2 y},Same H1 H2→Rel i H1 y→Rel i H2 y) (su:∀{i H1 D ys zs y},H1 D=some (.lst ys)→Rel i H1 y→Rel i (upd H1 D (.lst zs)) y)
  (σ0:L2.St) (cap:Cap X scope N σ σ0) (h0:σ0[0]?=some none)
  (hw:∀R:VK,(∀D H1 us,Same H H1→H1 D=some (.lst us)→Pr us→R (.ref D) H1)→tl σ H R)
  (hsz:∀us,Pr us→us.length≤sizeLine)
  (he:∀us,Pr us→∀(i:Nat) (x:V),us[i]?=some x→∀H' R l,Same H H'→(∀y H2,Same H' H2→Rel i H2 y→R y H2)→te ((σ0.set 0 l).set 0 (some x)) H' R)
  (q:∀us,Pr us→∀D H' ys,Same H H'→H' D=some (.lst ys)→ys.length=us.length→(∀(i:Nat) (y:V),ys[i]?=some y→Rel i H' y)→Q (.ref D) H') :
  iZ X scope N (aF7 K tl) (cJ 0) jV te σ H Q:=
 ⟨σ0,cap,hw _ fun D H1 us s1 g1 p=>⟨D,rfl,⟨us,SqL.of g1⟩,aHv us Rel st su σ0 (hsz us p) (Itl K D) (rY fun H' sm=>SqL.of (sm _ _ g1)) (jJ fun H' sm=>SqL.of (sm _ _ g1))
  (fun i x ex H' R l sm r=>he us p i x ex H' R l (s1.trans sm) r) h0 fun D2 H' ys sm=>q us p D2 H' ys (s1.trans sm)⟩⟩
end
theorem SqT.iC {K:PySem.W.Frag} {H:Hp} {a D:Addr} {xs ys zs:List V} (hD:H D=some (.lst ys)) (h:SqT K H a xs):SqT K (upd H D (.lst zs)) a xs:=by
 rcases h with (h|⟨o,h⟩)|h
 ·exact .inl (.inl (by rw [aM (aEp h hD (by intro z;cases z))];exact h))
 ·exact .inl (.inr ⟨o,by rw [aM (aEp h hD (by intro z;cases z))];exact h⟩)
 ·exact .inr h
end L2
namespace PySem
end PySem
namespace L2
open PySem PySem.Spec PyProof.Rows
def classAt:Stmt→Nat→Stmt
 |.ClassDef _ _ _ body _ _ _ _ _ _ _,j=>body.getD j (.Pass ⟨0,0,0,0⟩)
 |st,_=>st
structure aVa (K:PySem.W.Frag) (mg:Str→Option Value) (x:Str) (C:Addr):Prop where
 at_:mg x=some (.ref C)
 cls:Cls K C
 mks:PySem.W.makesIn K C=true
 kp:PySem.W.keepIn K (.ref C)=true
def qI (K:PySem.W.Frag) (C:Addr) (m qual:Str) (st:Stmt) (ps:List Str):Prop:=∃f fd,Meth K C m f∧Fun K m qual st f fd∧Binds K fd ps []
section
variable {P:Program} {w:World} {K:PySem.W.Frag} {mg:Str→Option Value} {base:Heap}
def OkM (P:Program) (w:World) (K:PySem.W.Frag) (mg:Str→Option Value) (base:Heap) (C:Addr) (k:Nat) (m:Str) (ps:List Str) (sp:Sp):Prop:=
 ∃f fd,Cls K C∧Meth K C m f∧Binds K fd ps []∧jD P w K mg base CX0 k f fd ps sp
theorem OkM.mono {C:Addr} {j k:Nat} {m:Str} {ps:List Str} {sp:Sp} (h:OkM P w K mg base C j m ps sp) (hj:j≤k):OkM P w K mg base C k m ps sp:=by
 obtain ⟨f,fd,h1,h2,h3,h4⟩:=h
 exact ⟨f,fd,h1,h2,h3,h4.mono hj⟩
theorem OkM.ofV {C:Addr} {m qual:Str} {st:Stmt} {N ps:List Str} {k:Nat} {sp:Sp} (c:Cls K C) (D:qI K C m qual st ps) (S:aO N ps (aH st)) (len:∀vs H Q E,sp vs H Q E→vs.length=ps.length)
  (hbody:∀(f:Addr) (cdv:Value) (A:Around) (outer:List Env) (s:Shared) (H:Hp) (vs:List V) (Q:VK) (E:XK),Room k (A.deeper (envOfC qual (aH st) s.heap.objs.size f cdv))→sp vs H Q E →
   ∃t,VSs (xQ CX0 P w K mg base N qual (aH st) f cdv A outer s H E).nox (dZ st) t∧t { nx:=fun _ H'=>Q .non H',rt:=Q } (start N vs) H):OkM P w K mg base C (k+1) m ps sp:=by
 obtain ⟨f,fd,hm,F,B⟩:=D
 exact ⟨f,fd,c,hm,B,Fun.okV F S len fun cdv A outer s H vs Q E hr h=>hbody f cdv A outer s H vs Q E hr h⟩
def OkC (P:Program) (w:World) (K:PySem.W.Frag) (mg:Str→Option Value) (base:Heap) (C:Addr) (k:Nat) (x:Str) (ps:List Str) (sp:Sp):Prop:=
 ∃f fd,mg x=some (.ref C)∧Mk K C f∧Binds K fd ps []∧jD P w K mg base CX0 k f fd ps sp
theorem OkC.mono {C:Addr} {j k:Nat} {x:Str} {ps:List Str} {sp:Sp} (h:OkC P w K mg base C j x ps sp) (hj:j≤k):OkC P w K mg base C k x ps sp:=by
 obtain ⟨f,fd,h1,h2,h3,h4⟩:=h
 exact ⟨f,fd,h1,h2,h3,h4.mono hj⟩
theorem OkM.make {C:Addr} {k:Nat} {x:Str} {ps:List Str} {sp:Sp} (c:aVa K mg x C) (h:OkM P w K mg base C k "__init__" ps sp):OkC P w K mg base C k x ps sp:=by
 obtain ⟨f,fd,h1,h2,h3,h4⟩:=h
 exact ⟨f,fd,c.at_,⟨c.mks,h2.at_,h2.fn,c.kp⟩,h3,h4⟩
end
section
variable {X:Cx} {e o value:Expr} {es:List Expr} {f m x:Str} {p pos pos' apos:Pos} {ta tv:TE} {t:TA} {C:Addr} {k:Nat} {ps:List Str} {sp:Sp}
theorem rP {K:PySem.W.Frag} (he:VE X e ta) (hb:attributeBase e f X.env (eval e X.env)=eval e X.env:=by rfl) (h:X.K=K:=by rfl):VE X (.Attribute e f pos) (aV5 K ta f):=by subst h;exact ⟨aUt he.1 hb⟩
theorem aOl {K:PySem.W.Frag} (ha:VE X o ta) (hv:VE X value tv) (hs:swapsWith value (some (.Attribute o f pos')) pos.line X.env=pure false:=by rfl) (h:X.K=K:=by rfl):VS X (.Assign [.Attribute o f pos'] value pos) (aWe K ta tv f):=by subst h;exact ⟨aUo ha.1 hv.1 hs⟩
theorem mG {pl:Sem Bool} (G:OkM X.prog X.w X.K X.mg X.base C k m ps sp) (hr:Room k X.A) (he:VE X o ta) (ha:VA X (e::es) t)
  (hp:cO e=true:=by rfl) (hpl:(backTo pos (starEach es X.env)).any (·.1)=false:=by rfl)
  (ht:eval (.Call (.Attribute o m apos) (e::es) [] pos) X.env=(do
   let ov ←eval o X.env
   standAt apos.atName
   let (f,first) ←holding [ov] (getMethod ov m pl)
   callWith pos f first (backTo pos (starEach (e::es) X.env)) (backToKw pos (keywordEach [] X.env))):=by rfl):VE X (.Call (.Attribute o m apos) (e::es) [] pos) (aKo C m sp [] E0 ta t):=by
 obtain ⟨f,fd,h1,h2,h3,h4⟩:=G
 exact ⟨aQ9 he.1 h1 h2 h4 hr h3 .nil aBl ha.1 (aN hp) hpl ht⟩
theorem pC {pl:Sem Bool} (G:OkM X.prog X.w X.K X.mg X.base C k m ps sp) (hr:Room k X.A) (he:VE X o ta)
  (ht:eval (.Call (.Attribute o m apos) [] [] pos) X.env=(do
   let ov ←eval o X.env
   standAt apos.atName
   let (f,first) ←holding [ov] (getMethod ov m pl)
   callWith pos f first (backTo pos (starEach [] X.env)) (backToKw pos (keywordEach [] X.env))):=by rfl):VE X (.Call (.Attribute o m apos) [] [] pos) (aKo C m sp [] E0 ta zJ):=by
 obtain ⟨f,fd,h1,h2,h3,h4⟩:=G
 exact ⟨aM9 he.1 h1 h2 h4 hr h3 .nil aBl ht⟩
theorem aJ3 (G:OkC X.prog X.w X.K X.mg X.base C k x ps sp) (hr:Room (k+1) X.A) (hg:Gl X x) (ha:VA X (e::es) t) (hdb:(x == ("__debug__":Str))=false:=by decide) (hp:cO e=true:=by rfl) (hpl:(backTo pos (starEach es X.env)).any (·.1)=false:=by rfl) :
  VE X (.Call (.Name x p) (e::es) [] pos) (aSr C sp [] E0 t):=by
 obtain ⟨f,fd,h1,h2,h3,h4⟩:=G
 exact ⟨aSi h2 h4 hr hg h1 h3 .nil aBl ha.1 hdb (aN hp) hpl⟩
end
section
variable {X:Cx}
def aW8 (K:PySem.W.Frag):List V→Hp→VK→Prop:=fun xs H Q=>∃(p:Addr) (bs:List Bool),xs=[.ref p]∧SqL K H p (bs.map V.bl)∧Q (.bl (bs.any id)) H
theorem any_range (bs:List Bool):(List.range bs.length).any (fun i=>bs.getD i false)=bs.any id:=by
 rw [Bool.eq_iff_iff,List.any_eq_true,List.any_eq_true]
 constructor
 ·rintro ⟨i,hi,h⟩
  have hi:=List.mem_range.mp hi
  rw [List.getD_eq_getElem?_getD,List.getElem?_eq_getElem hi] at h
  exact ⟨_,List.getElem_mem hi,h⟩
 ·rintro ⟨b,hb,h⟩
  obtain ⟨i,hi,e⟩:=List.mem_iff_getElem.mp hb
  refine ⟨i,List.mem_range.mpr hi,?_⟩
  rw [List.getD_eq_getElem?_getD,List.getElem?_eq_getElem hi]
  show bs[i]=true
  rw [e]
  exact h
theorem aPp (hc:X.calm=true):bW X (.builtin "any") (aW8 X.K):=by
 intro pins s σ H xs us Q I r h
 obtain ⟨p,bs,rfl,hq,q⟩:=h
 obtain ⟨u,rfl,rx⟩:=r.one
 cases rx
 obtain ⟨its,rv,pl,hz⟩:=I.list hq
 have hl:=rv.length
 rw [List.length_map] at hl
 have hne:p≠s.heap.objs.size:=by
  obtain ⟨o,ho,_⟩:=pl.isList
  exact Nat.ne_of_lt (Heap.lt_size ho)
 refine call_any_walk (wpAny_pyIter_list pl.isList ?_)
 refine ⟨s.heap.objs.size,_,_,_,_,_,fun i=>bs.getD i false,rfl,Walks.list (show X.A.in1.handled=none from I.ok.hd hc) _ p hne its.toArray,⟨⟨_,Heap.get?_push_size _ rfl,rfl,rfl⟩,?_⟩,?_,fun h' tk kp=>?_⟩
 ·exact pl.isList.at fun o e=>Heap.get?_push_of_some _ e
 ·intro i v s' Q' E' hv hq'
  have hv':its[i]?=some v:=by simpa using hv
  have hi:i<bs.length:=by rw [hl];exact (List.getElem?_eq_some_iff.mp hv').1
  obtain ⟨u,hu,ru⟩:=rv.get (i:=i) (x:=.bl bs[i]) (by rw [List.getElem?_map,List.getElem?_eq_getElem hi];rfl)
  rw [hv'] at hu
  cases hu
  cases ru
  have e:bs.getD i false=bs[i]:=by rw [List.getD_eq_getElem?_getD,List.getElem?_eq_getElem hi];rfl
  replace hq':Q' (bs.getD i false) s':=hq'
  rw [e] at hq'
  exact wpAny_truthy_bool hq'
 ·have e:(List.range its.toArray.size).any (fun i=>bs.getD i false)=bs.any id:=by
   rw [List.size_toArray,←hl];exact any_range bs
  rw [e]
  refine ⟨.bl (bs.any id),H,?_,rfl,q⟩
  exact I.kept fun b o eo=>kp b o (by
   intro z
   have:b=s.heap.objs.size:=by simpa using z
   rw [this] at eo
   exact absurd (Heap.lt_size eo) (Nat.lt_irrefl _)) (Heap.get?_push_of_some _ eo)
def aVo:List V→Hp→VK→Prop:=fun xs H Q=>∃z:Str,xs=[.str z]∧z.length≤1000∧∀l H',H l=none→Same H H'→H' l=some (.lst ((List.range z.cps.size).map fun i=>V.str (sgn z i)))→Q (.ref l) H'
theorem zY (z:Str):∀(n k:Nat) (vs:List Value),vs.length=n→(∀(j:Nat) (v:Value),vs[j]?=some v→∃t,v=.str (sgn z (k+j)) t)→Vals ((List.range' k n).map fun i=>V.str (sgn z i)) vs
 |0,k,[],_,_=>.nil
 |n+1,k,v::vs,hl,h=>by
  obtain ⟨t,rfl⟩:=h 0 v rfl
  rw [List.range'_succ,List.map_cons]
  refine .cons ⟨t,rfl⟩ (zY z n (k+1) vs (by simpa using hl) fun j u e=>?_)
  obtain ⟨t',e'⟩:=h (j+1) u e
  exact ⟨t',by rw [e',show k+(j+1)=k+1+j by lia]⟩
theorem aIz (hc:X.calm=true):bW X (.type "list") aVo:=by
 intro pins s σ H xs us Q I r h
 obtain ⟨z,rfl,hl,q⟩:=h
 obtain ⟨u,rfl,t,rfl⟩:=vals1 r
 refine call_list_str (I.ok.hd hc) z t (fun h' tk acc' c' kp hS hacc=>?_) (small hl)
 have hv:=zY z z.cps.size 0 acc'.toList (by rw [Array.length_toList];exact hacc.1) fun j v e=>by
  have hj:=hacc.2 j v (by rw [←Array.getElem?_toList];exact e)
  obtain ⟨c,t',e1,e2⟩:=hj
  refine ⟨t',?_⟩
  rw [e2]
  unfold sgn
  rw [Nat.zero_add,Array.getD_eq_getD_getElem?,e1]
  rfl
 rw [←List.range_eq_range'] at hv
 have ea:acc'.toList.toArray=acc':=by simp
 have hf:H s.heap.objs.size=none:=I.hok.fresh (Nat.le_refl _)
 refine ⟨.ref s.heap.objs.size,_,I.laid (t':=tk) (o:=.lst ((List.range z.cps.size).map fun i=>V.str (sgn z i))) kp (Nat.le_refl _) ?_,rfl,q _ _ hf (aW hf _) aK⟩
 refine ⟨by rw [List.length_map,List.length_range];exact small hl,acc'.toList,c',hv,?_⟩
 rw [ea]
 exact hS
end
theorem aJg {X:Cx} {K:PySem.W.Frag} (h:X.K=K:=by rfl):OpR X (compareOp .In) (rIn K false):=by subst h;exact uZ
structure aWb (E:Hp→Hp→Prop) (H:Hp):Prop where
 new:∀D o,H D=none→E H (upd H D o)
 trans:∀{H1 H2},E H H1→E H1 H2→E H H2
 upd:∀D o H',H D=none→E H H'→E H (upd H' D o)
 keep:∀D H1 H2 xs,H D=none→E H H1→H1 D=some (.lst xs)→E H1 H2→H2 D=some (.lst xs)
def qU (J:It) (H1:Hp) (σ0:L2.St) (g:TG) (tt:TT) (te:TE) (Q:VK):Prop:=∀D,H1 D=none→∃W:Nat→Nat→L2.St→Hp→List V→Prop,(∃m,W 0 m σ0 (L2.upd H1 D (.lst [])) []) ∧
 ∀i m σ' H' ys,W i m σ' H' ys→H' D=some (.lst ys)∧((J.stop i H'∧Q (.ref D) H')∨(J.go i H'∧∀x H2,J.yld i H' x H2→g x σ' H2 fun σ3 H3=>tt σ3 H3 fun b H4=>
  if b=true then te σ3 H4 fun y H5=>H5 D=some (.lst ys)∧ys.length<sizeLine∧∃m',m'<m∧W (i+1) m' σ3 (L2.upd H5 D (.lst (ys++[y]))) (ys++[y]) else H4 D=some (.lst ys)∧∃m',m'<m∧W (i+1) m' σ3 H4 ys))
section
variable {X:Cx} {K:PySem.W.Frag} {scope:Scope} {N:List Str} {tl te:TE} {tt:TT} {g:TG} {σ:L2.St} {H:Hp} {Q:VK}
theorem lU (σ0:L2.St) (cap:Cap X scope N σ σ0) (h:tl σ H fun v H1=>∃a,v=.ref a∧(∃xs,SqL K H1 a xs)∧qU (Itl K a) H1 σ0 g tt te Q):iZ X scope N (aF7 K tl) g tt te σ H Q:=⟨σ0,cap,h⟩
theorem aEx (σ0:L2.St) (cap:Cap X scope N σ σ0) (h:tl σ H fun v H1=>∃a,v=.ref a∧(∃xs,SqT K H1 a xs)∧qU (Itt K a) H1 σ0 g tt te Q):iZ X scope N (aQ7 K tl) g tt te σ H Q:=⟨σ0,cap,h⟩
theorem aOb {a:Addr} {xs:List V} {E:Hp→Hp→Prop} (hS:∀H',E H H'→SqT K H' a xs):∀H' i x,E H H'→xs[i]?=some x→(Itt K a).go i H'∧∀y H2,(Itt K a).yld i H' y H2→H2=H'∧y=x:=fun H' i x s e=>
 ⟨⟨xs,x,hS H' s,e⟩,fun y H2 hy=>by
  obtain ⟨e1,e2⟩:=hy
  have e3:=e2 xs (hS H' s)
  rw [e] at e3
  cases e3
  exact ⟨e1,rfl⟩⟩
theorem aFi {a:Addr} {xs:List V} {E:Hp→Hp→Prop} (hS:∀H',E H H'→SqT K H' a xs):∀H',E H H'→(Itt K a).stop xs.length H':=fun H' s=>⟨xs,hS H' s,Nat.le_refl _⟩
inductive qM (R:Nat→V→Prop):List Nat→List V→Prop
 |nil:qM R [] []
 |cons {i y is ys}:R i y→qM R is ys→qM R (i::is) (y::ys)
theorem qM.snoc {R:Nat→V→Prop} {is:List Nat} {ys:List V} {i:Nat} {y:V} (h:qM R is ys) (r:R i y):qM R (is++[i]) (ys++[y]):=by
 induction h with
 |nil=>exact .cons r .nil
 |cons r' _ ih=>exact .cons r' ih
theorem qM.imp {R S:Nat→V→Prop} {is:List Nat} {ys:List V} (h:qM R is ys) (k:∀i y,R i y→S i y):qM S is ys:=by
 induction h with
 |nil=>exact .nil
 |cons r _ ih=>exact .cons (k _ _ r) ih
theorem qM.len {R:Nat→V→Prop} {is:List Nat} {ys:List V} (h:qM R is ys):is.length=ys.length:=by
 induction h with
 |nil=>rfl
 |cons _ _ ih=>rw [List.length_cons,List.length_cons,ih]
theorem aN3 {σ0:L2.St} (E:Hp→Hp→Prop) (eo:aWb E H) (xs:List V) (p:Nat→Bool) (Rel:Nat→Hp→V→Prop)
  (st:∀{i H1 H2 y},E H H1→E H1 H2→Rel i H1 y→Rel i H2 y) (su:∀{i H1 D ys zs y},H D=none→E H H1→H1 D=some (.lst ys)→Rel i H1 y→Rel i (L2.upd H1 D (.lst zs)) y)
  (At:Nat→L2.St→Prop) (Ps:L2.St→Prop) (h0:Ps σ0) (hsz:xs.length≤sizeLine)
  (J:It) (go:∀H' i x,E H H'→xs[i]?=some x→J.go i H'∧∀y H2,J.yld i H' y H2→H2=H'∧y=x) (stop:∀H',E H H'→J.stop xs.length H')
  (hg:∀(i:Nat) (x:V) σ' H' Q',xs[i]?=some x→Ps σ'→E H H'→(∀σ2,Ps σ2→At i σ2→Q' σ2 H')→g x σ' H' Q')
  (ht:∀(i:Nat) (x:V) σ2,xs[i]?=some x→At i σ2→∀H' R,E H H'→(∀H2,E H' H2→R (p i) H2)→tt σ2 H' R)
  (he:∀(i:Nat) (x:V) σ2,xs[i]?=some x→At i σ2→p i=true→∀H' R,E H H'→(∀y H2,E H' H2→Rel i H2 y→R y H2)→te σ2 H' R)
  (q:∀D H' ys,E H H'→H D=none→H' D=some (.lst ys)→qM (fun i y=>Rel i H' y) (sel p 0 (List.range xs.length)) ys→Q (.ref D) H'):qU J H σ0 g tt te Q:=by
 intro D hD
 refine ⟨fun i m σ' H' ys=>i≤xs.length∧m=xs.length - i∧Ps σ'∧E H H'∧H' D=some (.lst ys)∧qM (fun i y=>Rel i H' y) (sel p 0 (List.range i)) ys,⟨xs.length,Nat.zero_le _,rfl,h0,eo.new _ _ hD,aK,.nil⟩,?_⟩
 rintro i m σ' H' ys ⟨hi,rfl,hps,sm,hL,hR⟩
 refine ⟨hL,?_⟩
 by_cases hlt:i<xs.length
 ·right
  have hx:=List.getElem?_eq_getElem hlt
  obtain ⟨g1,g2⟩:=go H' i xs[i] sm hx
  refine ⟨g1,fun x H2 hy=>?_⟩
  obtain ⟨rfl,rfl⟩:=g2 x H2 hy
  have tk:sel p 0 (List.range (i+1))=sel p 0 (List.range i)++(if p i then [i] else []):=by
   rw [List.range_succ,zE,List.length_range,Nat.zero_add]
  have lR:=hR.len
  have lS:=aCt p 0 (List.range i)
  rw [List.length_range] at lS
  refine hg i xs[i] σ' _ _ hx hps sm fun σ2 hp2 hat=>?_
  refine ht i xs[i] σ2 hx hat _ _ sm fun H3 s3=>?_
  have sm3:=eo.trans sm s3
  have hL3:=eo.keep D _ _ _ hD sm hL s3
  cases hp:p i with
  |true=>
   rw [if_pos rfl]
   refine he i xs[i] σ2 hx hat hp _ _ sm3 fun y H4 s4 r4=>?_
   have sm4:=eo.trans sm3 s4
   have hL4:=eo.keep D _ _ _ hD sm3 hL3 s4
   refine ⟨hL4,by lia,xs.length - (i+1),by lia,hlt,rfl,hp2,eo.upd D _ _ hD sm4,aK,?_⟩
   rw [tk,hp]
   exact qM.snoc (hR.imp fun j z r=>su hD sm4 hL4 (st sm3 s4 (st sm s3 r))) (su hD sm4 hL4 r4)
  |false=>
   rw [if_neg (by simp)]
   refine ⟨hL3,xs.length - (i+1),by lia,hlt,rfl,hp2,sm3,hL3,?_⟩
   rw [tk,hp]
   simp only [Bool.false_eq_true,if_false,List.append_nil]
   exact hR.imp fun j z r=>st sm s3 r
 ·left
  have e:i=xs.length:=by lia
  subst e
  exact ⟨stop _ sm,q D _ ys sm hD hL hR⟩
end
def At1 (σ0:L2.St) (v:V) (σ:L2.St):Prop:=∃l,σ=(σ0.set 0 l).set 0 (some v)
def Ps1 (σ0:L2.St) (σ:L2.St):Prop:=∃l,σ=σ0.set 0 l
def At2 (σ0:L2.St) (a b:V) (σ:L2.St):Prop:=σ=(σ0.set 0 (some a)).set 1 (some b)
def Ps2 (σ0:L2.St) (σ:L2.St):Prop:=∃l m,σ=(σ0.set 0 l).set 1 m
theorem hg1 {σ0:L2.St} {i:Nat} {x:V} {σ':L2.St} {H':Hp} {Q':L2.St→Hp→Prop} (h:Ps1 σ0 σ') (q:∀σ2,Ps1 σ0 σ2→At1 σ0 x σ2→Q' σ2 H'):cJ 0 x σ' H' Q':=by
 obtain ⟨l,rfl⟩:=h
 exact q _ ⟨some x,by rw [List.set_set]⟩ ⟨l,rfl⟩
theorem hg2 {K:PySem.W.Frag} {σ0:L2.St} {p:Addr} {a b:V} {σ':L2.St} {H':Hp} {Q':L2.St→Hp→Prop} (hp:SqT K H' p [a,b]) (h:Ps2 σ0 σ') (q:∀σ2,Ps2 σ0 σ2→At2 σ0 a b σ2→Q' σ2 H'):aI9 K 2 (qQ (cJ 0) (qQ (cJ 1) aMf)) (.ref p) σ' H' Q':=by
 obtain ⟨l,m,rfl⟩:=h
 have e:(((σ0.set 0 l).set 1 m).set 0 (some a)).set 1 (some b)=(σ0.set 0 (some a)).set 1 (some b):=by
  rw [List.set_comm _ _ (show (1:Nat)≠0 by decide),List.set_set,List.set_set]
 refine ⟨p,_,rfl,hp,rfl,_,_,rfl,_,_,rfl,rfl,?_⟩
 show Q' ((((σ0.set 0 l).set 1 m).set 0 (some a)).set 1 (some b)) H'
 rw [e]
 exact q _ ⟨some a,some b,rfl⟩ rfl
theorem uX (xs:List V) (n:Nat):uB xs (some (n:Int)) none=xs.drop n:=by
 unfold uB
 rw [HT.aNv,HT.aRn]
 by_cases h:n≤xs.length
 ·rw [Nat.min_eq_left h]
  exact List.take_of_length_le (by rw [List.length_drop];lia)
 ·rw [Nat.min_eq_right (by lia),List.drop_length,List.drop_of_length_le (by lia),List.take_nil]
def aWz (K:PySem.W.Frag):V→Option Int→Option Int→Hp→VK→Prop:=fun x lo hi H Q=>∃a xs,x=.ref a∧SqL K H a xs∧∀p H',H p=none→Same H H'→H' p=some (.lst (uB xs lo hi))→Q (.ref p) H'
theorem aF9 {X:Cx}:SlR X (aWz X.K):=fun pins s σ H x v vl vu lo hi sl Q I rx hs pl pu ⟨a,xs,e,ha,q⟩=>
 aRf pins s σ H x v vl vu lo hi sl Q I rx hs pl pu ⟨a,xs,e,ha,fun p hp=>q p _ hp (aW hp _) aK⟩
end L2
namespace L2
open PySem PySem.Spec PyProof.Rows
inductive Al2 {α β:Type} (R:α→β→Prop):List α→List β→Prop
 |nil:Al2 R [] []
 |cons {a b as bs}:R a b→Al2 R as bs→Al2 R (a::as) (b::bs)
theorem Al2.len {α β:Type} {R:α→β→Prop} {as:List α} {bs:List β} (h:Al2 R as bs):as.length=bs.length:=by
 induction h with
 |nil=>rfl
 |cons _ _ ih=>rw [List.length_cons,List.length_cons,ih]
theorem Al2.at {α β:Type} {R:α→β→Prop} {as:List α} {bs:List β} (h:Al2 R as bs):∀{j:Nat} {a:α},as[j]?=some a→∃b,bs[j]?=some b∧R a b:=by
 induction h with
 |nil=>intro j a e;simp at e
 |cons r _ ih=>
  intro j a e
  cases j with
  |zero=>cases e;exact ⟨_,rfl,r⟩
  |succ j=>exact ih (by simpa using e)
def DEq (K:PySem.W.Frag) (H:Hp):Nat→V→V→Prop
 |0,x,y=>jR x=true∧x=y
 |n+1,x,y=>(jR x=true∧x=y)∨∃a b xs ys,x=.ref a∧y=.ref b∧SqT K H a xs∧SqT K H b ys∧Al2 (DEq K H n) xs ys
theorem aBw {A:Around} {s:Shared} {x:V} {v u:Value} (h:jR x=true) (rv:RelV x v) (ru:RelV x u):SeqAt.EqAt A s v u true:=by
 cases x with
 |non=>cases rv;cases ru;exact SeqAt.EqAt.same _
 |bl b=>cases rv;cases ru;exact SeqAt.EqAt.same _
 |int i=>
  obtain ⟨t,rfl⟩:=rv
  obtain ⟨t',rfl⟩:=ru
  have z:=SeqAt.EqAt.int_int (A:=A) (s:=s) i t i t'
  simpa using z
 |str y=>
  obtain ⟨t,rfl⟩:=rv
  obtain ⟨t',rfl⟩:=ru
  have z:=SeqAt.EqAt.str_str (A:=A) (s:=s) y t y t'
  simpa using z
 |_=>cases h
section
variable {X:Cx} {pins:List (Addr × Obj)} {σ:L2.St} {H:Hp} {s:Shared}
theorem aIp (I:Inv X pins σ H s) {n:Nat} {A:Around} {xs ys:List V} {its jts:List Value} (rv:Vals xs its) (rw':Vals ys jts) (h:Al2 (DEq X.K H n) xs ys)
  (ih:∀{x y v u},DEq X.K H n x y→RelV x v→RelV y u→SeqAt.EqAt A s v u true):∀(j:Nat) (h1:j<its.toArray.size) (h2:j<jts.toArray.size),SeqAt.EqAt A s its.toArray[j] jts.toArray[j] ((fun _=>true) j):=fun j h1 h2=>by
 have e1:=rv.length
 have hj1:j<xs.length:=by rw [List.size_toArray] at h1;lia
 obtain ⟨y,hy,d⟩:=h.at (List.getElem?_eq_getElem hj1)
 obtain ⟨u1,hu1,r1⟩:=rv.get (List.getElem?_eq_getElem hj1)
 obtain ⟨u2,hu2,r2⟩:=rw'.get hy
 have g1:its.toArray[j]=u1:=by
  rw [List.getElem_toArray]
  exact (List.getElem?_eq_some_iff.mp hu1).2
 have g2:jts.toArray[j]=u2:=by
  rw [List.getElem_toArray]
  exact (List.getElem?_eq_some_iff.mp hu2).2
 rw [g1,g2]
 exact ih d r1 r2
theorem tY (n:Nat):(List.range n).all (fun _=>true)=true:=by rw [List.all_eq_true];intro _ _;rfl
theorem aB9 (I:Inv X pins σ H s):∀(n:Nat) {A:Around} {x y:V} {v u:Value},DEq X.K H n x y→RelV x v→RelV y u→A.units+n<cLine→SeqAt.EqAt A s v u true
 |0,A,x,y,v,u,h,rv,ru,_=>by
  obtain ⟨h,rfl⟩:=h
  exact aBw h rv ru
 |n+1,A,x,y,v,u,h,rv,ru,hu=>by
  rcases h with ⟨h,rfl⟩|⟨a,b,xs,ys,rfl,rfl,ha,hb,h⟩
  ·exact aBw h rv ru
  cases rv
  cases ru
  by_cases e:a=b
  ·subst e;exact SeqAt.EqAt.same _
  obtain ⟨its,r1,pl,hz⟩:=I.tuple ha
  obtain ⟨jts,r2,pm,hw⟩:=I.tuple hb
  refine SeqAt.EqAt.of_refs e ?_
  have z:=SeqAt.RcAt.tuples (A:=A) (e:=fun _=>true) (show s.heap.IsTuple a its.toArray from pl) (show s.heap.IsTuple b jts.toArray from pm) (by lia) (aIp I r1 r2 h fun d q1 q2=>aB9 I n d q1 q2 (by show A.units+1+n<cLine;lia))
  have z2:(its.toArray.size == jts.toArray.size)=true:=by rw [List.size_toArray,List.size_toArray];have:=r1.length;have:=r2.length;have:=h.len;simp;lia
  rw [tY,z2] at z
  exact z
end
section
variable {X:Cx}
def aWp:R2:=fun x y H Q=>(∃a b,x=.int a∧y=.int b∧Q (.bl (decide (a<b))) H)∨∃a b:Str,x=.str a∧y=.str b∧Q (.bl (decide (a.cps.toList<b.cps.toList))) H
theorem aT3:OpR X (compareOp .Lt) aWp:=by
 intro pins s σ H x y v u Q I rx ry h
 rcases h with ⟨a,b,rfl,rfl,q⟩|⟨a,b,rfl,rfl,q⟩
 ·obtain ⟨t,rfl⟩:=rx
  obtain ⟨t',rfl⟩:=ry
  exact lt_int ⟨.bl _,H,I,rfl,q⟩
 ·obtain ⟨t,rfl⟩:=rx
  obtain ⟨t',rfl⟩:=ry
  exact lt_str ⟨.bl _,H,I,rfl,q⟩
def aRw (K:PySem.W.Frag):V→List V→Hp→VK→Prop:=fun x vs H Q=>∃(l:Addr) (ss:List Str) (n:Str) (i:Nat),x=.ref l∧vs=[.str n]∧SqL K H l (ss.map V.str)∧ss.length≤1000∧ss[i]?=some n∧(∀(j:Nat) (m:Str),j<i→ss[j]?=some m→m≠n)∧Q (.int (i:Nat)) H
def aJa (n:Str):Value→Bool
 |.str x _=>x == n
 |_=>false
theorem aMa:MtR X "list.index" (aRw X.K):=by
 intro pins s σ H x vs v us Q I rx rv h
 obtain ⟨l,ss,n,i,rfl,rfl,hH,h1000,hi,hno,q⟩:=h
 cases rx
 obtain ⟨u,rfl,ru⟩:=rv.one
 obtain ⟨t,rfl⟩:=ru
 obtain ⟨its,r,pl,hz⟩:=I.list hH
 have el:=r.length
 rw [List.length_map] at el
 obtain ⟨⟨cls,dd,data,sl⟩,ho,hc,nn,hd⟩:=id pl.isList
 simp only at hc hd
 subst hc hd
 have hil:=(List.getElem?_eq_some_iff.mp hi).1
 have get:∀{j:Nat} (hj:j<its.length),∃m t',ss[j]?=some m∧its[j]=.str m t':=fun {j} hj=>by
  have hj':j<ss.length:=by lia
  obtain ⟨w,hw,rw'⟩:=r.get (show (ss.map V.str)[j]?=some (.str ss[j]) by rw [List.getElem?_map,List.getElem?_eq_getElem hj'];rfl)
  obtain ⟨t',rfl⟩:=rw'
  exact ⟨ss[j],t',List.getElem?_eq_getElem hj',(List.getElem?_eq_some_iff.mp hw).2⟩
 refine call_meets PySem.F.slot_list_index ⟨_,ho,rfl⟩ PySem.F.entry_list_index (PySem.F.args_list_index_2 _ _)
  (SeqAt.list_indexAt l its.toArray nn dd sl (.str n t) (aJa n) i (by rw [List.size_toArray];lia) (by lia) ?_ ?_) ⟨ho,fun y hy=>?_,⟨.int _,H,I.tok _,⟨_,rfl⟩,q⟩⟩
 ·obtain ⟨m,t',h1,h2⟩:=get (j:=i) (by lia)
  rw [hi] at h1
  cases h1
  show aJa n its[i]=true
  rw [h2]
  show (n == n)=true
  simp
 ·intro j hj hlt
  obtain ⟨m,t',h1,h2⟩:=get (j:=j) (by simpa using hj)
  show aJa n its[j]=false
  rw [h2]
  have:=hno j m hlt h1
  show (m == n)=false
  simpa using this
 ·have hy:y∈its:=by simpa using hy
  obtain ⟨j,hj,rfl⟩:=List.getElem_of_mem hy
  obtain ⟨m,t',h1,h2⟩:=get (j:=j) hj
  rw [h2]
  exact SeqAt.EqAt.str_str m t' n t
end
end L2
namespace L2
open PySem PySem.Spec PyProof.Rows Builtin
section
variable {prog:Program} {w:World} {A:Around} {E:Value→Shared→Prop} {s:Shared}
end
section
variable {X:Cx}
def aV3 (K:PySem.W.Frag):List V→Hp→VK→Prop:=fun xs H Q=>∃l us,xs=[.ref l,.ty "list"]∧SqL K H l us∧Q (.bl true) H
theorem aKz:bW X (.builtin "isinstance") (aV3 X.K):=by
 intro pins s σ H xs us Q I r h
 obtain ⟨l,zs,rfl,hl,q⟩:=h
 obtain ⟨u,v,rfl,rx,rT⟩:=r.two
 obtain rfl:v=Value.type "list":=rT
 obtain rfl:u=Value.ref l:=rx
 obtain ⟨its,rv,pl,_⟩:=I.list hl
 obtain ⟨o,ho,hc,_⟩:=id pl.isList
 exact call_isinstance (isinstance_true F.isi_meta_list F.isi_self_list) ⟨⟨o,ho,hc⟩,⟨.bl true,H,I,rfl,q⟩⟩
end
variable {X:Cx}
end L2
namespace My
open PySem PySem.Spec PyProof.Rows L2
def top (i:Nat):Stmt:=PySem.Challenge.pw_shardask_k22_town_stays.main.body.getD i (.Pass ⟨0,0,0,0⟩)
abbrev rR:Stmt:=top 13
abbrev fQ:Stmt:=top 14
abbrev uP:Stmt:=top 15
abbrev oM:Stmt:=top 16
abbrev fC:Stmt:=top 17
abbrev mZ:Stmt:=top 18
abbrev rB:Stmt:=top 19
abbrev vB:Stmt:=top 20
abbrev rH:Stmt:=top 21
abbrev vN:Stmt:=top 22
abbrev lJ:Stmt:=top 23
abbrev oZ:Stmt:=top 24
abbrev uL:Stmt:=top 25
abbrev zM:Stmt:=top 26
abbrev lK:Stmt:=top 27
abbrev aIs:Stmt:=top 28
abbrev vA:Stmt:=top 30
abbrev rN:Stmt:=top 32
abbrev aAd:Stmt:=top 36
abbrev nO:Stmt:=top 37
abbrev jN:Stmt:=top 38
abbrev mR:Stmt:=top 39
abbrev mY:Stmt:=top 40
abbrev rD:Stmt:=top 41
abbrev oN:Stmt:=top 42
abbrev iY:Stmt:=top 43
abbrev qY:Stmt:=top 44
abbrev xN:Stmt:=top 45
abbrev oW:Stmt:=top 46
abbrev pZ:Stmt:=top 47
abbrev fH:Stmt:=classAt (top 48) 0
abbrev iM:Stmt:=classAt (top 48) 1
abbrev jC:Stmt:=classAt (top 48) 2
abbrev gH:Stmt:=classAt (top 48) 3
abbrev jE:Stmt:=classAt (top 48) 4
abbrev iJ:Stmt:=classAt (top 48) 5
abbrev jX:Stmt:=classAt (top 48) 6
abbrev oJ:Stmt:=top 50
abbrev nP:Stmt:=top 51
abbrev pQ:Stmt:=top 52
abbrev nG:Stmt:=top 53
abbrev jG:Stmt:=top 54
abbrev mO:Stmt:=top 55
abbrev mV:Stmt:=top 56
abbrev pM:Stmt:=top 57
abbrev nH:Stmt:=top 58
abbrev gC:Stmt:=top 59
abbrev kJ:Stmt:=top 60
abbrev kO:Stmt:=top 61
abbrev nJ:Stmt:=top 62
abbrev vX:Stmt:=top 63
structure Txt (w:World) (K:PySem.W.Frag) (mg:Str→Option Value):Prop where
 aSk:mg "ValueError"=none
 aVx:mg "abs"=none
 aAe:mg "all"=none
 aWo:mg "any"=none
 aVl:mg "bool"=none
 aEb:mg "dict"=none
 aOe:mg "divmod"=none
 aFv:mg "enumerate"=none
 aO6:mg "int"=none
 bN:mg "isinstance"=none
 gQ:mg "len"=none
 rM:mg "list"=none
 iI:mg "range"=none
 aI4:mg "reversed"=none
 aS6:mg "set"=none
 tQ:mg "sorted"=none
 aS2:mg "str"=none
 iK:mg "tuple"=none
 aSo:mg "zip"=none
 gU:∃a,mg "QUESTION_WORDS"=some (.ref a)∧∀H,SqT K H a [.str "and",.str "by",.str "count",.str "down",.str "first",.str "group",.str "join",.str "keep",.str "least",.str "most",.str "named",.str "on",.str "sum",.str "table",.str "up",.str "where",.str "with"]
 aBv:∃u,mg "LETTERS"=some u∧RelV (.str "abcdefghijklmnopqrstuvwxyz") u
 aCn:∃a,mg "KINDS"=some (.ref a)∧∀H,SqT K H a [.str "number",.str "word"]
 xB:∃u,mg "MOST_LETTERS"=some u∧RelV (.int 8) u
 xH:∃u,mg "MOST_COLUMNS"=some u∧RelV (.int 8) u
 aF4:∃u,mg "WORD_BASE"=some u∧RelV (.int 27) u
 aA7:∃u,mg "MOST_HOUSES"=some u∧RelV (.int 6) u
 aFu:∃u,mg "MOST_CUTS"=some u∧RelV (.int 8) u
 vU:∃f o,(∃u,mg "is_column"=some u∧RelV (.ref f) u)∧K.lookup f=some o∧o.cls=.type "function"
 aHr:Dn K mg "is_whole" rR ["thing"]
 sZ:Dn K mg "is_number_below" fQ ["thing","many"]
 aLf:Dn K mg "is_word" uP ["thing"]
 aFl:Dn K mg "is_one_of" oM ["thing","texts"]
 qX:Dn K mg "is_tuple_of" fC ["thing","least","most","is_part"]
 aDl:Dn K mg "are_unlike" mZ ["names"]
 aIg:Dn K mg "names_of" rB ["head"]
 aMd:Dn K mg "is_name" vB ["thing"]
 aIm:Dn K mg "is_value" rH ["thing"]
 aMt:Dn K mg "kind_of" vN ["value"]
 aAm:Dn K mg "is_value_of" lJ ["thing","kind"]
 aEz:Dn K mg "is_column" oZ ["thing"]
 aLe:Dn K mg "is_head" uL ["thing"]
 aN2:Dn K mg "is_row" zM ["head","thing"]
 aAs:Dn K mg "word_number" lK ["word"]
 aT5:Dn K mg "home" aIs ["value","houses"]
 aLm:Dn K mg "kind_in" vA ["head","name"]
 aIy:Dn K mg "place_of" rN ["head","name"]
 aOi:Dn K mg "is_cut" aAd ["thing","houses"]
 aJl:Dn K mg "are_cuts" nO ["thing","kind","houses"]
 yJ:Dn K mg "is_column_in" jN ["head","thing"]
 aDg:Dn K mg "is_placing" mR ["thing","head","houses"]
 aIj:Dn K mg "are_rows" mY ["thing","head"]
 aHj:Dn K mg "is_table" rD ["thing","houses"]
 aF1:Dn K mg "need_town" oN ["houses","tables"]
 wG:Dn K mg "placed_tables" iY ["houses","tables"]
 aG4:Dn K mg "table_in" qY ["placed","name"]
 aP1:Dn K mg "cut_of" xN ["cuts","value"]
 aGl:Dn K mg "stands_at" oW ["head","placing","row","house","houses"]
 aMh:Dn K mg "rows_at" pZ ["table","house","houses"]
 aF8:Dn K mg "_law_seed" oJ ["_law_script"]
 aCp:Dn K mg "_law_begin" nP ["_law_script"]
 aGf:Dn K mg "_law_next" pQ ["_law_state","_law_many"]
 aC0:Dn K mg "_law_words" nG []
 aEd:Dn K mg "_law_names" jG ["_law_state","_law_many"]
 aDa:Dn K mg "_law_great" mO ["_law_state"]
 aDr:Dn K mg "_law_value" mV ["_law_state","_law_kind"]
 aGs:Dn K mg "_law_head" pM ["_law_state","_law_names_here"]
 aIq:Dn K mg "_law_row" nH ["_law_state","_law_head_here"]
 yN:Dn K mg "_law_placing" gC ["_law_state","_law_head_here","_law_houses"]
 aEw:Dn K mg "_law_town" kJ ["_law_state","_law_names_here","_law_most"]
 aG1:Dn K mg "_law_told" kO ["_law_town_here","_law_names_here","_law_houses"]
 aDw:Dn K mg "_law_spoil" nJ ["_law_town_here","_law_name"]
 aWi:Dn K mg "law" vX ["_law_script"]
 aVi:∃C,aVa K mg "Town" C∧qI K C "__init__" "Town.__init__" fH ["self","houses","tables"]∧qI K C "houses" "Town.houses" iM ["self"]∧qI K C "heads" "Town.heads" jC ["self"]∧qI K C "placing" "Town.placing" gH ["self","name"]∧qI K C "whole" "Town.whole" jE ["self","name"]∧qI K C "tables" "Town.tables" iJ ["self"]∧qI K C "part" "Town.part" jX ["self","name","house"]∧dC K C "placed"∧dC K C "house_count"
abbrev abc:Str:="abcdefghijklmnopqrstuvwxyz"
abbrev words:List V:=[.str "and",.str "by",.str "count",.str "down",.str "first",.str "group",.str "join",.str "keep",.str "least",.str "most",.str "named",.str "on",.str "sum",.str "table",.str "up",.str "where",.str "with"]
def Th (K:PySem.W.Frag) (H:Hp) (v:V):Prop:=(∃x,v=.str x∧x.length≤1000)∨(∃i,v=.int i)∨(∃b,v=.bl b)∨∃k,Rk K H v k
theorem Th.same {K:PySem.W.Frag} {H H':Hp} {v:V} (e:Same H H') (h:Th K H v):Th K H' v:=by
 rcases h with h|h|h|⟨k,h⟩
 ·exact .inl h
 ·exact .inr (.inl h)
 ·exact .inr (.inr (.inl h))
 ·exact .inr (.inr (.inr ⟨k,h.same e⟩))
def aQh:V→String→Bool
 |.int _,T=>T == "int"
 |.str _,T=>T == "str"
 |.bl _,T=>T == "int" || T == "bool"
 |_,_=>false
def isS:V→Bool
 |.str _=>true
 |_=>false
def whole:V→Bool
 |.int _=>true
 |_=>false
theorem sS {K:PySem.W.Frag} {H:Hp} {v:V} {T:String} {Q:VK} (hv:Th K H v) (hT:T = "int"∨T = "bool"∨T = "str") (q:Q (.bl (aQh v T)) H):aWx [v,.ty T] H Q∨aSz K [v,.ty T] H Q:=by
 rcases hv with ⟨x,rfl,_⟩|⟨i,rfl⟩|⟨b,rfl⟩|⟨k,h⟩
 ·refine .inl ⟨_,_,_,rfl,?_,q⟩
  rcases hT with rfl|rfl|rfl <;> simp [aHd,aQh]
 ·refine .inl ⟨_,_,_,rfl,?_,q⟩
  rcases hT with rfl|rfl|rfl <;> simp [aHd,aQh]
 ·refine .inl ⟨_,_,_,rfl,?_,q⟩
  rcases hT with rfl|rfl|rfl <;> simp [aHd,aQh]
 ·refine .inr ⟨_,_,_,rfl,h,hT,?_⟩
  cases h <;> exact q
def inA (y:Str):Bool:=!(Builtin.Str.occurrences abc y 0 abc.length 1).isEmpty
def allIn (x:Str):Bool:=((List.range x.cps.size).map fun i=>inA (sgn x i)).all id
def qH (l:Nat):V→Bool
 |.str x=>decide (l≤x.length) && (decide (x.length≤8) && allIn x)
 |_=>false
def nameB (v:V):Bool:=qH 1 v && !inV v words
def aIa (v:V):Bool:=whole v || qH 0 v
def mC (K:PySem.W.Frag):Sp:=fun vs H Q _=>∃v,vs=[v]∧Th K H v∧Q (.bl (whole v)) H
def aAr (K:PySem.W.Frag) (f:V→Bool):Sp:=fun vs H Q _=>∃v,vs=[v]∧Th K H v∧∀H',Same H H'→Q (.bl (f v)) H'
def aKg (K:PySem.W.Frag):Sp:=fun vs H Q _=>∃v,vs=[v]∧Th K H v∧Q (.str (if whole v then "number" else "word")) H
def aUc (K:PySem.W.Frag):Sp:=fun vs H Q _=>∃(a:Addr) (ns:List Int),vs=[.ref a]∧SqL K H a (ns.map V.int)∧ns.length≤63∧∀H',Q (.bl true) H'
theorem aVp {K:PySem.W.Frag} {H:Hp} {a:Addr} {ns:List Int} (h:ns.length≤63) (hS:SqL K H a (ns.map V.int)):aUc K [.ref a] H (fun v _=>v=.bl true) fun _ _ _=>False:=
 ⟨a,ns,rfl,hS,h,fun _=>rfl⟩
theorem aG0:aO ["thing"] ["thing"] (aH rR):=by trivial
theorem rZ:aO ["thing","many"] ["thing","many"] (aH fQ):=by trivial
theorem aJc:aO ["thing"] ["thing"] (aH uP):=by trivial
theorem aDe:aO ["thing","texts"] ["thing","texts"] (aH oM):=by trivial
theorem pI:aO ["thing","least","most","is_part"] ["thing","least","most","is_part"] (aH fC):=by trivial
theorem aA6:aO ["names"] ["names"] (aH mZ):=by trivial
theorem aEm:aO ["head"] ["head"] (aH rB):=by trivial
theorem aHx:aO ["thing"] ["thing"] (aH vB):=by trivial
theorem aEj:aO ["thing"] ["thing"] (aH rH):=by trivial
theorem aHn:aO ["value"] ["value"] (aH vN):=by trivial
theorem yO:aO ["thing","kind"] ["thing","kind"] (aH lJ):=by trivial
theorem aCg:aO ["thing"] ["thing"] (aH oZ):=by trivial
theorem aHm:aO ["thing"] ["thing"] (aH uL):=by trivial
theorem aMx:aO ["head","thing"] ["head","thing"] (aH zM):=by trivial
theorem gF:aO ["word","number","letter"] ["word"] (aH lK):=by trivial
theorem aKt:aO ["value","houses","number"] ["value","houses"] (aH aIs):=by trivial
theorem xW:aO ["head","name","column"] ["head","name"] (aH vA):=by trivial
theorem aGr:aO ["head","name"] ["head","name"] (aH rN):=by trivial
theorem aK2:aO ["thing","houses"] ["thing","houses"] (aH aAd):=by trivial
theorem wD:aO ["thing","kind","houses","lows"] ["thing","kind","houses"] (aH nO):=by trivial
theorem wH:aO ["head","thing"] ["head","thing"] (aH jN):=by trivial
theorem aAt:aO ["thing","head","houses"] ["thing","head","houses"] (aH mR):=by trivial
theorem aFw:aO ["thing","head"] ["thing","head"] (aH mY):=by trivial
theorem aFn:aO ["thing","houses"] ["thing","houses"] (aH rD):=by trivial
theorem nU:aO ["houses","tables","name","table"] ["houses","tables"] (aH oN):=by trivial
theorem vD:aO ["houses","tables"] ["houses","tables"] (aH iY):=by trivial
theorem aFx:aO ["placed","name"] ["placed","name"] (aH qY):=by trivial
theorem qD:aO ["cuts","value","number","place"] ["cuts","value"] (aH xN):=by trivial
theorem mU:aO ["head","placing","row","house","houses","value","cuts"] ["head","placing","row","house","houses"] (aH oW):=by trivial
theorem aHh:aO ["table","house","houses"] ["table","house","houses"] (aH pZ):=by trivial
theorem vM:aO ["self","houses","tables"] ["self","houses","tables"] (aH fH):=by trivial
theorem aAk:aO ["self"] ["self"] (aH iM):=by trivial
theorem aA3:aO ["self"] ["self"] (aH jC):=by trivial
theorem wK:aO ["self","name"] ["self","name"] (aH gH):=by trivial
theorem aAq:aO ["self","name"] ["self","name"] (aH jE):=by trivial
theorem aAc:aO ["self"] ["self"] (aH iJ):=by trivial
theorem aDm:aO ["self","name","house"] ["self","name","house"] (aH jX):=by trivial
theorem fU:aO ["_law_script","_law_seed_here","_law_k","_law_cell"] ["_law_script"] (aH oJ):=by trivial
theorem lO:aO ["_law_script","_law_digits"] ["_law_script"] (aH nP):=by trivial
theorem sH:aO ["_law_state","_law_many","_law_digit"] ["_law_state","_law_many"] (aH pQ):=by trivial
theorem qO:aO ["_law_words_here"] [] (aH nG):=by trivial
theorem bV:aO ["_law_state","_law_many","_law_small","_law_odd","_law_base","_law_k","_law_at","_law_names_here"] ["_law_state","_law_many"] (aH jG):=by trivial
theorem iR:aO ["_law_state","_law_number","_law_k"] ["_law_state"] (aH mO):=by trivial
theorem eY:aO ["_law_state","_law_kind","_law_way","_law_word","_law_k"] ["_law_state","_law_kind"] (aH mV):=by trivial
theorem gO:aO ["_law_state","_law_names_here","_law_start","_law_head_here","_law_k","_law_kind"] ["_law_state","_law_names_here"] (aH pM):=by trivial
theorem aGq:aO ["_law_state","_law_head_here"] ["_law_state","_law_head_here"] (aH nH):=by trivial
theorem cI:aO ["_law_state","_law_head_here","_law_houses","_law_way","_law_name","_law_kind","_law_lows","_law_cuts","_law_low"] ["_law_state","_law_head_here","_law_houses"] (aH gC):=by trivial
theorem dR:aO ["_law_state","_law_names_here","_law_most","_law_houses","_law_tables","_law_k","_law_head_here","_law_placing_here","_law_rows"] ["_law_state","_law_names_here","_law_most"] (aH kJ):=by trivial
theorem nC:aO ["_law_town_here","_law_names_here","_law_houses","_law_those","_law_name"] ["_law_town_here","_law_names_here","_law_houses"] (aH kO):=by trivial
theorem aAz:aO ["_law_town_here","_law_name"] ["_law_town_here","_law_name"] (aH nJ):=by trivial
theorem dM:aO ["_law_script","_law_state","_law_names_here","_law_houses","_law_tables","_law_others","_law_name","_law_head_here","_law_placing_here","_law_rows","_law_more","_law_town_here","_law_other","_law_known","_law_dues","_law_held"] ["_law_script"] (aH vX):=by trivial
section
variable {P:Program} {w:World} {K:PySem.W.Frag} {mg:Str→Option Value} {base:Heap}
theorem aFf (T:Txt w K mg):Ok P w K mg base 1 "is_whole" ["thing"] (mC K):=by
 refine Ok.ofV T.aHr aG0 (fun vs H Q E h=>?_) (fun f cdv A outer s H vs Q E hr h=>?_)
 ·obtain ⟨v,rfl,_⟩:=h;rfl
 obtain ⟨v,rfl,hv,q⟩:=h
 refine ⟨_,(aJ (aP (fX (aR (sX.or pX) (by rfl) T.bN bK (aD (vv 0) (aD (eQ (v:=.ty "int") (by rfl) T.aO6 aIx rfl) aC))) (gW (aTa (aR (sX.or pX) (by rfl) T.bN bK (aD (vv 0) (aD (eQ (v:=.ty "bool") (by rfl) T.aVl aRd rfl) aC)))))))),?_⟩
 refine ⟨_,rfl,sS hv (.inl rfl) ⟨_,rfl,?_⟩⟩
 rcases id hv with ⟨x,rfl,_⟩|⟨i,rfl⟩|⟨b,rfl⟩|⟨k,h⟩
 ·exact cB q
 ·exact dW ⟨_,rfl,sS hv (.inr (.inl rfl)) ⟨_,rfl,q⟩⟩
 ·exact dW ⟨_,rfl,sS hv (.inr (.inl rfl)) ⟨_,rfl,q⟩⟩
 ·cases h <;> exact cB q
theorem aPk (x:Str):(((List.range x.cps.size).map fun i=>V.str (sgn x i)).map fun v=>match v with|.str y=>V.bl (inA y)|_=>.bl false)=(((List.range x.cps.size).map fun i=>inA (sgn x i)).map V.bl):=by
 rw [List.map_map,List.map_map]
 rfl
theorem aJj (T:Txt w K mg):Ok P w K mg base 1 "is_word" ["thing"] (aAr K (qH 0)):=by
 refine Ok.ofV T.aLf aJc (fun vs H Q E h=>?_) (fun f cdv A outer s H vs Q E hr h=>?_)
 ·obtain ⟨v,rfl,_⟩:=h;rfl
 obtain ⟨v,rfl,hv,q⟩:=h
 refine ⟨_,(aF (cR (VW.pt (jA (cZ (cQ (aR (sX.or pX) (by rfl) T.bN bK (aD (vv 0) (aD (eQ (v:=.ty "str") (by rfl) T.aS2 aOy rfl) aC))))) (iB (bY aPs (aR uA (by rfl) T.gQ dY (aD (vv 0) aC)) (qW (by rfl) T.xB) (bM _))))) (aJ (aP oE)) bJ) (aJ (aP (aR (jK rfl) (by rfl) T.aAe rQ (aD (cM (N:=["sign"]) (by trivial) (iV (by decide +kernel)) rfl (aOu (vv 0)) (fun cl s' H' fp=>⟨(aU (i:=0) (show (["sign"]:List Str).Nodup from by decide +kernel) rfl (Or.inl rfl)),dD,(cU aL8 (vv 0) (qW (by rfl) T.aBv) (by with_unfolding_all rfl))⟩)) aC))))),?_⟩
 refine ⟨_,rfl,sS hv (.inr (.inr rfl)) ⟨_,rfl,?_⟩⟩
 have no:isS v=false→Q (.bl false) H:=fun e=>by
  have z:qH 0 v=false:=by cases v <;> first|rfl|cases e
  rw [←z];exact q H (Same.refl H)
 rcases id hv with ⟨x,rfl,hx⟩|⟨i,rfl⟩|⟨b,rfl⟩|⟨k,h⟩
 ·refine cB ⟨_,rfl,_,rfl,small hx,_,_,rfl,rfl,_,rfl,?_⟩
  refine aEe (fun c=>?_) (fun c=>?_)
  ·have c':(8:Int)<x.length:=of_decide_eq_true c
   have z:qH 0 (.str x)=false:=by
    show (decide (0≤x.length) && (decide (x.length≤8) && allIn x))=false
    rw [decide_eq_false (p:=x.length≤8) (by lia)]
    simp
   rw [←z];exact q H (Same.refl H)
  ·have c':¬ (8:Int)<x.length:=of_decide_eq_false (Bool.eq_false_iff.mpr c)
   dsimp only [tW,uW,tCB,dJ]
   refine aMm ((List.range x.cps.size).map fun i=>V.str (sgn x i)) (fun v=>match v with|.str y=>V.bl (inA y)|_=>.bl false) [none] uN ?_
    (fun R r=>aTw (z:=x) (fun R' r'=>⟨_,rfl,r'⟩) R r) (fun v hv' H' R l sm r=>?_) rfl fun D hD=>?_
   ·rw [List.length_map,List.length_range];exact small hx
   ·obtain ⟨i,_,rfl⟩:=List.mem_map.mp hv'
    exact ⟨_,rfl,_,_,rfl,rfl,r⟩
   ·refine ⟨D,(List.range x.cps.size).map fun i=>inA (sgn x i),rfl,SqL.of (by rw [aK,aPk]),?_⟩
    have z:qH 0 (.str x)=allIn x:=by
     show (decide (0≤x.length) && (decide (x.length≤8) && allIn x))=allIn x
     rw [decide_eq_true (p:=x.length≤8) (by lia)]
     simp
    show Q (.bl (allIn x)) _
    rw [←z]
    exact q _ (aW hD _)
 ·exact dW (no rfl)
 ·exact dW (no rfl)
 ·cases h <;> exact dW (no rfl)
theorem aCs {v:V} {l:Nat} (h:qH l v=true):∃x,v=.str x∧l≤x.length∧x.length≤8∧allIn x=true:=by
 cases v with
 |str x=>
  have h:(decide (l≤x.length) && (decide (x.length≤8) && allIn x))=true:=h
  rw [Bool.and_eq_true,Bool.and_eq_true] at h
  exact ⟨x,rfl,of_decide_eq_true h.1,of_decide_eq_true h.2.1,h.2.2⟩
 |_=>cases h
theorem aBq {x:Str}:x=("":Str)↔x.length=0:=by
 constructor
 ·rintro rfl;decide +kernel
 ·intro h
  obtain ⟨cps⟩:=x
  have h:cps.size=0:=h
  rw [Array.size_eq_zero_iff] at h
  subst h
  decide +kernel
theorem zX:words.all jR=true:=rfl
theorem aIo (T:Txt w K mg) (uK:Ok P w K mg base 1 "is_word" ["thing"] (aAr K (qH 0))):Ok P w K mg base 2 "is_name" ["thing"] (aAr K nameB):=by
 refine Ok.ofV T.aMd aHx (fun vs H Q E h=>?_) (fun f cdv A outer s H vs Q E hr h=>?_)
 ·obtain ⟨v,rfl,_⟩:=h;rfl
 obtain ⟨v,rfl,hv,q⟩:=h
 obtain ⟨qa,mq,hqa⟩:=T.gU
 have gU:∃u,mg "QUESTION_WORDS"=some u∧RelV (.ref qa) u:=⟨_,mq,rfl⟩
 refine ⟨_,(aJ (aP (fX (aV (uK.mono (by decide)) hr (by rfl) (aD (vv 0) aC)) (fX (cU aG3 (vv 0) bF (bM _)) (gW (cU aEa (vv 0) (qW (by rfl) gU) (by with_unfolding_all rfl))))))),?_⟩
 refine ⟨_,rfl,_,rfl,hv,fun H1 s1=>⟨_,rfl,?_⟩⟩
 refine aEe (fun c=>?_) (fun c=>?_)
 ·obtain ⟨x,rfl,_,h8,ha⟩:=aCs c
  refine ⟨_,rfl,rfl,_,rfl,?_⟩
  by_cases e:x.length=0
  ·have ex:=aBq.mpr e
   subst ex
   refine cB ?_
   have z:nameB (.str "")=false:=by decide +kernel
   rw [←z];exact q H1 s1
  ·have ne:¬ (V.str x=V.str ""):=fun z=>e (aBq.mp (V.str.inj z))
   have e2:(!decide (V.str x=V.str ""))=true:=by rw [decide_eq_false ne];rfl
   rw [e2]
   refine dW ⟨_,rfl,qa,words,rfl,.inr (hqa _),rfl,zX,?_⟩
   have z:nameB (.str x)=!inV (.str x) words:=by
    show ((decide (1≤x.length) && (decide (x.length≤8) && allIn x)) && !inV (.str x) words)=!inV (.str x) words
    rw [decide_eq_true (p:=1≤x.length) (by lia),decide_eq_true h8,ha]
    rfl
   show Q (.bl (!inV (.str x) words)) H1
   rw [←z];exact q H1 s1
 ·have z:nameB v=false:=by
   show (qH 1 v && !inV v words)=false
   cases hv1:qH 1 v with
   |false=>rfl
   |true=>
    obtain ⟨x,rfl,h1,h8,ha⟩:=aCs hv1
    refine absurd ?_ c
    show (decide (0≤x.length) && (decide (x.length≤8) && allIn x))=true
    rw [decide_eq_true h8,ha,decide_eq_true (Nat.zero_le _)]
    rfl
  rw [←z];exact q H1 s1
theorem aFz (T:Txt w K mg) (dN:Ok P w K mg base 1 "is_whole" ["thing"] (mC K)) (uK:Ok P w K mg base 1 "is_word" ["thing"] (aAr K (qH 0))) :
  Ok P w K mg base 2 "is_value" ["thing"] (aAr K aIa):=by
 refine Ok.ofV T.aIm aEj (fun vs H Q E h=>?_) (fun f cdv A outer s H vs Q E hr h=>?_)
 ·obtain ⟨v,rfl,_⟩:=h;rfl
 obtain ⟨v,rfl,hv,q⟩:=h
 refine ⟨_,(aJ (aP (aWs (aV (dN.mono (by decide)) hr (by rfl) (aD (vv 0) aC)) (gW (aV (uK.mono (by decide)) hr (by rfl) (aD (vv 0) aC)))))),?_⟩
 refine ⟨_,rfl,_,rfl,hv,_,rfl,?_⟩
 cases hw:whole v with
 |true=>
  refine dW ?_
  have z:aIa v=true:=by show (whole v || qH 0 v)=true;rw [hw];rfl
  rw [←z];exact q H (Same.refl H)
 |false=>
  refine cB ⟨_,rfl,_,rfl,hv,fun H1 s1=>?_⟩
  have z:aIa v=qH 0 v:=by show (whole v || qH 0 v)=qH 0 v;rw [hw];rfl
  rw [←z];exact q H1 s1
theorem aHg (T:Txt w K mg) (dN:Ok P w K mg base 1 "is_whole" ["thing"] (mC K)):Ok P w K mg base 2 "kind_of" ["value"] (aKg K):=by
 refine Ok.ofV T.aMt aHn (fun vs H Q E h=>?_) (fun f cdv A outer s H vs Q E hr h=>?_)
 ·obtain ⟨v,rfl,_⟩:=h;rfl
 obtain ⟨v,rfl,hv,q⟩:=h
 refine ⟨_,(aJ (aP (aGw (cQ (aV (dN.mono (by decide)) hr (by rfl) (aD (vv 0) aC))) bF bF))),?_⟩
 refine ⟨_,rfl,_,rfl,hv,_,rfl,?_⟩
 cases hw:whole v with
 |true=>rw [hw] at q;exact dW q
 |false=>rw [hw] at q;exact cB q
theorem at0 (x:V) (r:List V):atI (x::r) 0=some x:=by
 unfold atI ixN
 simp
theorem at1 (x y:V) (r:List V):atI (x::y::r) 1=some y:=by
 unfold atI ixN
 simp only [List.length_cons]
 rw [if_pos (by lia),if_pos (by lia)]
 rfl
theorem Tk.same {K:PySem.W.Frag} {H H':Hp} {v:V} {b:Bool} (e:Same H H') (h:Tk K H v b):Tk K H' v b:=by
 cases h with
 |int=>exact .int
 |str=>exact .str
 |bl=>exact .bl
 |non=>exact .non
 |lst q=>exact .lst (e.seq q)
 |dct q=>exact .dct (e _ _ q)
 |tup q=>exact .tup (e.bB q)
structure Tells (R:Hp→V→Bool→Prop):Prop where
 same:∀{H H' v b},Same H H'→R H v b→R H' v b
def aTj (R:Hp→V→Bool→Prop):Sp:=fun vs H Q _=>∃v b,vs=[v]∧R H v b∧∀H',Same H H'→Q (.bl b) H'
inductive aB6 (K:PySem.W.Frag) (R:Hp→V→Bool→Prop) (lo hi:Nat) (H:Hp):V→Bool→Prop
 |no {v}:Tk K H v false→aB6 K R lo hi H v false
 |len {a xs}:SqT K H a xs→¬ (lo≤xs.length∧xs.length≤hi)→aB6 K R lo hi H (.ref a) false
 |yes {a xs} (f:V→Bool):SqT K H a xs→lo≤xs.length→xs.length≤hi→(∀x∈xs,R H x (f x))→aB6 K R lo hi H (.ref a) (xs.all f)
def aJh (K:PySem.W.Frag):Sp:=fun vs H Q _=>∃v a xs,vs=[v,.ref a]∧Th K H v∧SqT K H a xs∧xs.all jR=true∧Q (.bl (isS v && inV v xs)) H
def aFq (P:Program) (w:World) (K:PySem.W.Frag) (mg:Str→Option Value) (base:Heap) (k:Nat):Sp:=fun vs H Q _=>∃v lo hi f ps R b,vs=[v,.int (lo:Nat),.int (hi:Nat),.ref f]∧hi≤1000∧Held P w K mg base k f ps (aTj R)∧Tells R∧aB6 K R lo hi H v b∧∀H',Same H H'→Q (.bl b) H'
def aB8 (K:PySem.W.Frag):Sp:=fun vs H Q _=>∃a ss,vs=[.ref a]∧SqL K H a (ss.map V.str)∧ss.length≤1000∧∀H',Same H H'→Q (.bl (decide ((lZ ss).length=ss.length))) H'
theorem aDf (T:Txt w K mg):Ok P w K mg base 1 "is_one_of" ["thing","texts"] (aJh K):=by
 refine Ok.ofV T.aFl aDe (fun vs H Q E h=>?_) (fun f cdv A outer s H vs Q E hr h=>?_)
 ·obtain ⟨v,a,xs,rfl,_⟩:=h;rfl
 obtain ⟨v,a,xs,rfl,hv,ha,hf,q⟩:=h
 refine ⟨_,(aJ (aP (fX (aR (sX.or pX) (by rfl) T.bN bK (aD (vv 0) (aD (eQ (v:=.ty "str") (by rfl) T.aS2 aOy rfl) aC))) (gW (cU uZ (vv 0) (vv 1) (by with_unfolding_all rfl)))))),?_⟩
 refine ⟨_,rfl,sS hv (.inr (.inr rfl)) ⟨_,rfl,?_⟩⟩
 rcases id hv with ⟨x,rfl,_⟩|⟨i,rfl⟩|⟨b,rfl⟩|⟨k,h⟩
 ·exact dW ⟨_,rfl,_,rfl,a,xs,rfl,.inr ha,rfl,hf,q⟩
 ·exact cB q
 ·exact cB q
 ·cases h <;> exact cB q
theorem xV {k:Nat} (T:Txt w K mg):Ok P w K mg base (k+1) "is_tuple_of" ["thing","least","most","is_part"] (aFq P w K mg base k):=by
 refine Ok.ofV T.qX pI (fun vs H Q E h=>?_) (fun f cdv A outer s H vs Q E hr h=>?_)
 ·obtain ⟨v,lo,hi,f,ps,R,b,rfl,_⟩:=h;rfl
 obtain ⟨v,lo,hi,g,ps,R,b,rfl,h1000,hg,hR,hv,q⟩:=h
 refine ⟨_,(aF (cR (VW.pt (jA (cZ (cQ (aR iG (by rfl) T.bN bK (aD (vv 0) (aD (eQ (v:=.ty "tuple") (by rfl) T.iK eX rfl) aC))))) (iB (cZ (xO aAg aAg (vv 1) (aR bH (by rfl) T.gQ dY (aD (vv 0) aC)) (vv 2)))))) (aJ (aP oE)) bJ) (aJ (aP (aR (jK rfl) (by rfl) T.aAe rQ (aD (cM (N:=["part","is_part"]) (by trivial) (gJ (aH fC) rfl (by decide +kernel)) rfl (uY (vv 0)) (fun cl s' H' fp=>⟨(aU (i:=0) (show (["part","is_part"]:List Str).Nodup from by decide +kernel) rfl (Or.inl rfl)),dD,(aQc (P:=P) (w:=w) (K:=K) (mg:=mg) (base:=base) hr (vv 1) (aD (vv 0) aC))⟩)) aC))))),?_⟩
 cases hv with
 |no h=>
  exact ⟨_,rfl,_,_,rfl,h,_,rfl,dW (q H (Same.refl H))⟩
 |@len a xs ha hn=>
  refine ⟨_,rfl,_,_,rfl,.tup ha,_,rfl,cB ?_⟩
  refine ⟨_,rfl,_,rfl,_,_,rfl,.inr ha,_,_,rfl,rfl,_,rfl,?_⟩
  refine aEe (fun c=>⟨_,rfl,_,_,rfl,rfl,_,rfl,?_⟩) (fun c=>⟨_,rfl,dW (q H (Same.refl H))⟩)
  have c':(lo:Int)≤xs.length:=of_decide_eq_true c
  have e:decide ((xs.length:Int)≤(hi:Int))=false:=decide_eq_false fun z=>hn ⟨by lia,by lia⟩
  rw [e]
  exact dW (q H (Same.refl H))
 |@yes a xs t ha h1 h2 hx=>
  refine ⟨_,rfl,_,_,rfl,.tup ha,_,rfl,cB ?_⟩
  refine ⟨_,rfl,_,rfl,_,_,rfl,.inr ha,_,_,rfl,rfl,_,rfl,?_⟩
  have e1:decide ((lo:Int)≤(xs.length:Int))=true:=decide_eq_true (by lia)
  have e2:decide ((xs.length:Int)≤(hi:Int))=true:=decide_eq_true (by lia)
  rw [e1]
  refine dW ⟨_,rfl,_,_,rfl,rfl,_,rfl,?_⟩
  rw [e2]
  refine cB ?_
  dsimp only [tW,uW,tCB,dJ]
  refine aBc xs (fun x=>.bl (t x)) [none,some (.ref g)] ?_ (small (by lia)) (fun R r=>aIb ha (fun R' r'=>⟨_,rfl,r'⟩) R r) (fun x hx' H' R l sm r=>?_) rfl fun D H' sm hD=>?_
  ·exact jF 3 (by decide +kernel) rfl rfl (by trivial)
  ·exact ⟨_,rfl,g,ps,_,rfl,hg,_,rfl,x,t x,rfl,hR.same sm (hx x hx'),r⟩
  ·refine ⟨D,xs.map t,rfl,SqL.of (by rw [hD,List.map_map];rfl),?_⟩
   rw [List.all_map]
   exact q H' sm
theorem aAw (T:Txt w K mg):Ok P w K mg base 1 "are_unlike" ["names"] (aB8 K):=by
 refine Ok.ofV T.aDl aA6 (fun vs H Q E h=>?_) (fun f cdv A outer s H vs Q E hr h=>?_)
 ·obtain ⟨a,ss,rfl,_⟩:=h;rfl
 obtain ⟨a,ss,rfl,ha,hl,q⟩:=h
 refine ⟨_,(aJ (aP (cU gA (aR aH9 (by rfl) T.gQ dY (aD (cC (aJd rfl) (by rfl) T.aS6 aN8 (aD (vv 0) aC)) aC)) (aR bH (by rfl) T.gQ dY (aD (vv 0) aC)) (bM _)))),?_⟩
 refine ⟨_,rfl,a,ss,rfl,ha,hl,fun D hD=>⟨D,ss,rfl,aK,_,rfl,a,_,rfl,.inl ((aW hD _).seq ha),rfl,?_⟩⟩
 have e:decide (V.int ((lZ ss).length:Nat)=V.int (ss.map V.str).length)=decide ((lZ ss).length=ss.length):=by
  rw [List.length_map]
  by_cases z:(lZ ss).length=ss.length
  ·rw [z];simp
  ·rw [decide_eq_false z,decide_eq_false (by intro y;apply z;have:=V.int.inj y;lia)]
 rw [e]
 exact q _ (aW hD _)
abbrev kinds:List V:=[.str "number",.str "word"]
inductive aDk (K:PySem.W.Frag) (H:Hp):V→Bool→Prop
 |no {v}:Tk K H v false→aDk K H v false
 |len {a xs}:SqT K H a xs→xs.length≠2→aDk K H (.ref a) false
 |two {a x y}:SqT K H a [x,y]→Th K H x→Th K H y→aDk K H (.ref a) (nameB x && (isS y && inV y kinds))
theorem aK7 (K:PySem.W.Frag):Tells (aDk K):=⟨fun e h=>by
 cases h with
 |no q=>exact .no (Tk.same e q)
 |len q n=>exact .len (e.bB q) n
 |two q x y=>exact .two (e.bB q) (x.same e) (y.same e)⟩
theorem aDp (T:Txt w K mg) (iD:Ok P w K mg base 2 "is_name" ["thing"] (aAr K nameB)) (iU:Ok P w K mg base 1 "is_one_of" ["thing","texts"] (aJh K)):Ok P w K mg base 3 "is_column" ["thing"] (aTj (aDk K)):=by
 refine Ok.ofV T.aEz aCg (fun vs H Q E h=>?_) (fun f cdv A outer s H vs Q E hr h=>?_)
 ·obtain ⟨v,b,rfl,_⟩:=h;rfl
 obtain ⟨v,b,rfl,hv,q⟩:=h
 obtain ⟨ka,mk,hka⟩:=T.aCn
 have aCn:∃u,mg "KINDS"=some u∧RelV (.ref ka) u:=⟨_,mk,rfl⟩
 refine ⟨_,(aF (cR (VW.pt (jA (cZ (cQ (aR iG (by rfl) T.bN bK (aD (vv 0) (aD (eQ (v:=.ty "tuple") (by rfl) T.iK eX rfl) aC))))) (iB (bY aG3 (aR bH (by rfl) T.gQ dY (aD (vv 0) aC)) aG (bM _))))) (aJ (aP oE)) bJ) (aJ (aP (fX (aV (iD.mono (by decide)) hr (by rfl) (aD (aZ cA (vv 0) aG (fun _ _=>rfl)) aC)) (gW (aV (iU.mono (by decide)) hr (by rfl) (aD (aZ cA (vv 0) aG (fun _ _=>rfl)) (aD (qW (by rfl) aCn) aC)))))))),?_⟩
 cases hv with
 |no h=>exact ⟨_,rfl,_,_,rfl,h,_,rfl,dW (q H (Same.refl H))⟩
 |@len a xs ha hn=>
  refine ⟨_,rfl,_,_,rfl,.tup ha,_,rfl,cB ?_⟩
  refine ⟨_,rfl,_,_,rfl,.inr ha,rfl,_,rfl,?_⟩
  have e:(!decide (V.int (xs.length:Nat)=V.int 2))=true:=by
   rw [decide_eq_false (by intro y;apply hn;have:=V.int.inj y;lia)];rfl
  rw [e]
  exact dW (q H (Same.refl H))
 |@two a x y ha hx hy=>
  refine ⟨_,rfl,_,_,rfl,.tup ha,_,rfl,cB ?_⟩
  refine ⟨_,rfl,_,_,rfl,.inr ha,rfl,_,rfl,cB ?_⟩
  refine ⟨_,rfl,a,_,0,_,rfl,rfl,ha,at0 _ _,x,rfl,hx,fun H1 s1=>⟨_,rfl,?_⟩⟩
  cases hn:nameB x with
  |false=>rw [hn] at q;exact cB (q H1 s1)
  |true=>
   rw [hn] at q
   refine dW ⟨_,rfl,a,_,1,_,rfl,rfl,s1.bB ha,at1 _ _ _,y,ka,kinds,rfl,hy.same s1,hka _,rfl,q H1 s1⟩
def kindS (v:V):Str:=if whole v then "number" else "word"
def aI0 (K:PySem.W.Frag):Sp:=fun vs H Q _=>∃v k,vs=[v,.str k]∧Th K H v∧∀H',Same H H'→Q (.bl (aIa v && decide (kindS v=k))) H'
theorem oU (T:Txt w K mg) (aG7:Ok P w K mg base 2 "is_value" ["thing"] (aAr K aIa)) (aK5:Ok P w K mg base 2 "kind_of" ["value"] (aKg K)):Ok P w K mg base 3 "is_value_of" ["thing","kind"] (aI0 K):=by
 refine Ok.ofV T.aAm yO (fun vs H Q E h=>?_) (fun f cdv A outer s H vs Q E hr h=>?_)
 ·obtain ⟨v,k,rfl,_⟩:=h;rfl
 obtain ⟨v,k,rfl,hv,q⟩:=h
 refine ⟨_,(aJ (aP (fX (aV (aG7.mono (by decide)) hr (by rfl) (aD (vv 0) aC)) (gW (cU gA (aV (aK5.mono (by decide)) hr (by rfl) (aD (vv 0) aC)) (vv 1) (bM _)))))),?_⟩
 refine ⟨_,rfl,v,rfl,hv,fun H1 s1=>⟨_,rfl,?_⟩⟩
 cases hvb:aIa v with
 |false=>
  rw [hvb] at q
  exact cB (q H1 s1)
 |true=>
  rw [hvb] at q
  refine dW ⟨_,rfl,v,rfl,hv.same s1,_,rfl,rfl,?_⟩
  have z:decide (V.str (if whole v then "number" else "word")=V.str k)=decide (kindS v=k):=decide_eq_decide.mpr ⟨fun y=>V.str.inj y,fun y=>congrArg V.str y⟩
  rw [z]
  exact q H1 s1
theorem at2 (x y z:V) (r:List V):atI (x::y::z::r) 2=some z:=by
 unfold atI ixN
 simp only [List.length_cons]
 rw [if_pos (by lia),if_pos (by lia)]
 rfl
theorem aI7 {K:PySem.W.Frag} {H:Hp} {x:Str} (h:x.length≤8):Th K H (.str x):=.inl ⟨x,rfl,by lia⟩
def Nm (x:Str):Prop:=nameB (.str x)=true
theorem aN5 {x:Str} (h:nameB (.str x)=true):x.length≤8:=by
 have h:(qH 1 (.str x) && !inV (.str x) words)=true:=h
 rw [Bool.and_eq_true] at h
 obtain ⟨y,e,_,h8,_⟩:=aCs h.1
 cases e
 exact h8
theorem Nm.th {K:PySem.W.Frag} {H:Hp} {x:Str} (h:Nm x):Th K H (.str x):=aI7 (aN5 h)
inductive bZ {α β:Type} (R:α→β→Prop):List α→List β→Prop
 |nil:bZ R [] []
 |cons {a b as bs}:R a b→bZ R as bs→bZ R (a::as) (b::bs)
theorem bZ.len {α β:Type} {R:α→β→Prop} {as:List α} {bs:List β} (h:bZ R as bs):as.length=bs.length:=by
 induction h with
 |nil=>rfl
 |cons _ _ ih=>rw [List.length_cons,List.length_cons,ih]
theorem bZ.imp {α β:Type} {R S:α→β→Prop} {as:List α} {bs:List β} (h:bZ R as bs) (k:∀a b,R a b→S a b):bZ S as bs:=by
 induction h with
 |nil=>exact .nil
 |cons r _ ih=>exact .cons (k _ _ r) ih
theorem bZ.mem {α β:Type} {R:α→β→Prop} {as:List α} {bs:List β} (h:bZ R as bs) {a:α} (m:a∈as):∃b,b∈bs∧R a b:=by
 induction h with
 |nil=>cases m
 |cons r _ ih=>
  rcases List.mem_cons.mp m with rfl|m
  ·exact ⟨_,List.mem_cons_self ..,r⟩
  ·obtain ⟨b,hb,q⟩:=ih m
   exact ⟨b,List.mem_cons_of_mem _ hb,q⟩
theorem bZ.app {α β:Type} {R:α→β→Prop} {as cs:List α} {bs ds:List β} (h:bZ R as bs) (k:bZ R cs ds):bZ R (as++cs) (bs++ds):=by
 induction h with
 |nil=>exact k
 |cons r _ ih=>exact .cons r ih
def uM {α:Type} (K:PySem.W.Frag) (H:Hp) (R:V→α→Prop) (v:V) (xs:List α):Prop:=∃a vs,v=.ref a∧SqT K H a vs∧bZ R vs xs
theorem uM.same {α:Type} {K:PySem.W.Frag} {H H':Hp} {R S:V→α→Prop} {v:V} {xs:List α} (e:Same H H') (k:∀a b,R a b→S a b) (h:uM K H R v xs):uM K H' S v xs:=by
 obtain ⟨a,vs,rfl,ha,hr⟩:=h
 exact ⟨a,vs,rfl,e.bB ha,hr.imp k⟩
abbrev Hdr:=List (Str × Str)
def IsC (K:PySem.W.Frag) (H:Hp) (v:V) (c:Str × Str):Prop:=∃p,v=.ref p∧SqT K H p [.str c.1,.str c.2]
theorem IsC.same {K:PySem.W.Frag} {H H':Hp} {v:V} {c:Str × Str} (e:Same H H') (h:IsC K H v c):IsC K H' v c:=by
 obtain ⟨p,rfl,hp⟩:=h
 exact ⟨p,rfl,e.bB hp⟩
def jT (K:PySem.W.Frag) (H:Hp) (v:V) (hd:Hdr):Prop:=uM K H (IsC K H) v hd
theorem jT.same {K:PySem.W.Frag} {H H':Hp} {v:V} {hd:Hdr} (e:Same H H') (h:jT K H v hd):jT K H' v hd:=uM.same e (fun _ _ q=>q.same e) h
def look (hd:Hdr) (n:Str):Option Str:=(hd.find? fun c=>decide (c.1=n)).map (·.2)
theorem aDc {n k:Str}:∀{hd:Hdr},look hd n=some k→∃i,hd[i]?=some (n,k)∧∀(j:Nat) (c:Str × Str),j<i→hd[j]?=some c→c.1≠n
 |[],h=>by cases h
 |(m,j)::r,h=>by
  unfold look at h
  rw [List.find?_cons] at h
  by_cases e:m=n
  ·rw [decide_eq_true (p:=(m,j).1=n) e] at h
   have h':j=k:=Option.some.inj h
   subst e h'
   exact ⟨0,rfl,fun j c hj=>absurd hj (Nat.not_lt_zero _)⟩
  ·rw [decide_eq_false (p:=(m,j).1=n) e] at h
   obtain ⟨i,h1,h2⟩:=aDc (hd:=r) h
   refine ⟨i+1,by simpa using h1,fun j' c hj hc=>?_⟩
   cases j' with
   |zero=>cases hc;exact e
   |succ j'=>exact h2 j' c (by lia) (by simpa using hc)
theorem dF {α β:Type} {R:α→β→Prop}:∀{as:List α} {bs:List β},bZ R as bs→∀{i:Nat} {a:α},as[i]?=some a→∃b,bs[i]?=some b∧R a b
 |_,_,.cons r t,0,_,h1=>by cases h1;exact ⟨_,rfl,r⟩
 |_,_,.cons r t,i+1,a,h1=>by
  obtain ⟨b,e,q⟩:=dF t (i:=i) (a:=a) (by simpa using h1)
  exact ⟨b,by simpa using e,q⟩
def aPi (K:PySem.W.Frag):Sp:=fun vs H Q _=>∃vh n hd k,vs=[vh,.str n]∧jT K H vh hd∧look hd n=some k∧Q (.str k) H
theorem aHu (T:Txt w K mg):Ok P w K mg base 1 "kind_in" ["head","name"] (aPi K):=by
 refine Ok.ofV T.aLm xW (fun vs H Q E h=>?_) (fun f cdv A outer s H vs Q E hr h=>?_)
 ·obtain ⟨vh,n,hd,k,rfl,_⟩:=h;rfl
 obtain ⟨vh,n,hd,k,rfl,⟨a,us,rfl,ha,hu⟩,hk,q⟩:=h
 refine ⟨_,(aF (eV PassesOwn.never rfl (uY (vv 0)) (aU (i:=2) xW.nd rfl (by trivial)) (aJ (cR (bY gA (aZ (cH (K:=K)) (vv 2) aG (fun _ _=>rfl)) (vv 1) (bM _)) (aJ (aP (aZ (cH (K:=K)) (vv 2) aG (fun _ _=>rfl)))) bJ))) (aJ oG)),?_⟩
 obtain ⟨i0,h0,hf⟩:=aDc hk
 have hi0:i0<us.length:=by rw [hu.len];exact (List.getElem?_eq_some_iff.mp h0).1
 refine ⟨_,rfl,a,rfl,⟨_,ha⟩,aSb (xs:=us) (fun i σ H'=>H'=H∧i≤i0∧∃l,σ=[some (.ref a),some (.str n),l]) ⟨rfl,Nat.zero_le _,_,rfl⟩ (fun i σ H' _ ⟨e,_⟩=>by rw [e];exact ha) ?_ ?_⟩
 ·rintro i x σ H' hx ⟨rfl,hi,l,rfl⟩
  obtain ⟨c,hc,p,rfl,hp⟩:=dF hu hx
  refine ⟨_,rfl,p,_,0,_,rfl,rfl,hp,at0 _ _,_,rfl,rfl,_,rfl,?_⟩
  by_cases e:i=i0
  ·subst e
   rw [h0] at hc
   cases hc
   rw [decide_eq_true rfl]
   exact dW ⟨_,rfl,p,_,1,_,rfl,rfl,hp,at1 _ _ _,q⟩
  ·have hn:=hf i c (by lia) hc
   rw [decide_eq_false (by intro z;exact hn (V.str.inj z))]
   exact cB ⟨rfl,by lia,_,rfl⟩
 ·rintro σ H' ⟨rfl,hi,_⟩
  lia
theorem aO0 {α:Type} {f:α→V} {xs:List α} {i:Nat} {y:V} (h:(xs.map f)[i]?=some y):∃x,xs[i]?=some x∧y=f x:=by
 rw [List.getElem?_map] at h
 cases e:xs[i]? with
 |none=>rw [e] at h;cases h
 |some x=>rw [e] at h;cases h;exact ⟨x,rfl,rfl⟩
def Good (hd:Hdr):Prop:=(hd.map (·.1)).Nodup∧1≤hd.length∧hd.length≤8
def aCz (K:PySem.W.Frag):Sp:=fun vs H Q _=>∃v hd,vs=[v]∧jT K H v hd∧hd.length≤1000∧∀D H',Same H H'→H' D=some (.lst ((hd.map (·.1)).map V.str))→Q (.ref D) H'
theorem aDz (T:Txt w K mg):Ok P w K mg base 1 "names_of" ["head"] (aCz K):=by
 refine Ok.ofV T.aIg aEm (fun vs H Q E h=>?_) (fun f cdv A outer s H vs Q E hr h=>?_)
 ·obtain ⟨v,hd,rfl,_⟩:=h;rfl
 obtain ⟨v,hd,rfl,⟨a,us,rfl,ha,hu⟩,hl,q⟩:=h
 refine ⟨_,(aJ (aP (cM (N:=["column"]) (by trivial) (iV (by decide +kernel)) rfl (uY (vv 0)) (fun cl s' H' fp=>⟨(aU (i:=0) (show (["column"]:List Str).Nodup from by decide +kernel) rfl (Or.inl rfl)),dD,(aZ (cH (K:=K)) (vv 0) aG (fun _ _=>rfl))⟩)))),?_⟩
 have lu:=hu.len
 refine aSl us ((hd.map (·.1)).map V.str) (by rw [List.length_map,List.length_map];lia) [none] uN (small (by lia)) (fun R r=>aIb ha (fun R' r'=>⟨_,rfl,r'⟩) R r) (fun i x y ex ey H' R l sm r=>?_) rfl fun D H' sm hD=>q D H' sm hD
 obtain ⟨c,hc,p,rfl,hp⟩:=dF hu ex
 obtain ⟨n,hn,rfl⟩:=aO0 ey
 rw [List.getElem?_map,hc] at hn
 cases hn
 exact ⟨_,rfl,p,_,0,_,rfl,rfl,sm.bB hp,at0 _ _,r H' (Same.refl H')⟩
def plc:Hdr→Str→Nat
 |[],_=>0
 |c::r,n=>if c.1=n then 0 else plc r n+1
theorem aI1 {n k:Str}:∀{hd:Hdr},look hd n=some k→hd[plc hd n]?=some (n,k)∧∀(j:Nat) (c:Str × Str),j<plc hd n→hd[j]?=some c→c.1≠n
 |[],h=>by cases h
 |(m,q)::r,h=>by
  unfold look at h
  rw [List.find?_cons] at h
  by_cases e:m=n
  ·rw [decide_eq_true (p:=(m,q).1=n) e] at h
   have h':q=k:=Option.some.inj h
   subst e h'
   have z:plc ((m,q)::r) m=0:=if_pos rfl
   rw [z]
   exact ⟨rfl,fun j c hj=>absurd hj (Nat.not_lt_zero _)⟩
  ·rw [decide_eq_false (p:=(m,q).1=n) e] at h
   obtain ⟨h1,h2⟩:=aI1 (hd:=r) h
   have z:plc ((m,q)::r) n=plc r n+1:=if_neg e
   rw [z]
   refine ⟨by simpa using h1,fun j c hj hc=>?_⟩
   cases j with
   |zero=>cases hc;exact e
   |succ j=>exact h2 j c (by lia) (by simpa using hc)
def aEt (K:PySem.W.Frag):Sp:=fun vs H Q _=>∃vh n hd k,vs=[vh,.str n]∧jT K H vh hd∧hd.length≤1000∧look hd n=some k∧∀H',Same H H'→Q (.int (plc hd n:Nat)) H'
theorem aF5 (T:Txt w K mg) (jM:Ok P w K mg base 1 "names_of" ["head"] (aCz K)):Ok P w K mg base 2 "place_of" ["head","name"] (aEt K):=by
 refine Ok.ofV T.aIy aGr (fun vs H Q E h=>?_) (fun f cdv A outer s H vs Q E hr h=>?_)
 ·obtain ⟨vh,n,hd,k,rfl,_⟩:=h;rfl
 obtain ⟨vh,n,hd,k,rfl,hI,hl,hk,q⟩:=h
 obtain ⟨h1,h2⟩:=aI1 hk
 refine ⟨_,(aJ (aP (lW PySem.F.plainAttrs_list PySem.F.slot_list_index PySem.F.type_list_index aMa (aV (jM.mono (by decide)) hr (by rfl) (aD (vv 0) aC)) (aD (vv 1) aC)))),?_⟩
 refine ⟨_,rfl,vh,hd,rfl,hI,hl,fun D H1 s1 g1=>?_⟩
 refine ⟨.inl ⟨rfl,_,SqL.of g1⟩,_,rfl,D,hd.map (·.1),n,plc hd n,rfl,rfl,SqL.of g1,by rw [List.length_map];exact hl,by rw [List.getElem?_map,h1];rfl,fun j m hj hm=>?_,q H1 s1⟩
 rw [List.getElem?_map] at hm
 obtain ⟨c,hc,rfl⟩:=Option.map_eq_some_iff.mp hm
 exact h2 j c hj hc
theorem aKp {n:Str} {ss:List Str}:inV (.str n) (ss.map V.str)=decide (n∈ss):=by
 unfold inV
 rw [Bool.eq_iff_iff,List.any_eq_true,decide_eq_true_eq]
 constructor
 ·rintro ⟨v,hv,e⟩
  obtain ⟨z,hz,rfl⟩:=List.mem_map.mp hv
  have e2:(z == n)=true:=e
  have e3:z=n:=by simpa using e2
  rw [←e3];exact hz
 ·intro h
  refine ⟨.str n,List.mem_map.mpr ⟨n,h,rfl⟩,?_⟩
  show (n == n)=true
  simp
theorem aGj {ss:List Str}:(ss.map V.str).all jR=true:=by
 rw [List.all_eq_true]
 intro v hv
 obtain ⟨z,_,rfl⟩:=List.mem_map.mp hv
 rfl
theorem aJ1 {z:Str} {j:Int} (h0:0≤j) (h1:j<z.length):∃c,z.cps[j.toNat]?=some c:=
 ⟨_,Array.getElem?_eq_getElem (by show j.toNat<z.length;lia)⟩
theorem aDd (x y:Str):(x++y).length=x.length+y.length:=by
 show (x.cps++y.cps).size=_
 rw [Array.size_append]
 rfl
theorem at_of {xs:List V} {j:Int} (h0:0≤j) (h1:j<xs.length):∃v,atI xs j=some v∧v∈xs:=by
 have hj:j.toNat<xs.length:=by lia
 refine ⟨xs[j.toNat],?_,List.getElem_mem hj⟩
 have e2:atI xs ((j.toNat:Nat):Int)=some xs[j.toNat]:=fP (List.getElem?_eq_getElem hj)
 rw [show ((j.toNat:Nat):Int)=j by lia] at e2
 exact e2
def Lets (x:Str):Prop:=∀c∈x.cps,97≤c∧c≤122
theorem aRa:∀k:_root_.Fin 26,inA ⟨#[97+k.val]⟩=true:=by decide +kernel
theorem aVk {c:Nat} (h1:97≤c) (h2:c≤122):inA ⟨#[c]⟩=true:=by
 have:=aRa ⟨c - 97,by lia⟩
 simp only at this
 rw [show 97+(c - 97)=c by lia] at this
 exact this
theorem allIn_of {x:Str} (h:Lets x):allIn x=true:=by
 unfold allIn
 rw [List.all_eq_true]
 intro b hb
 obtain ⟨i,hi,rfl⟩:=List.mem_map.mp hb
 have hi':i<x.cps.size:=List.mem_range.mp hi
 have e:x.cps.getD i 0=x.cps[i]:=by rw [Array.getD_eq_getD_getElem?,Array.getElem?_eq_getElem hi'];rfl
 obtain ⟨h1,h2⟩:=h _ (Array.getElem_mem hi')
 show inA (sgn x i)=true
 unfold sgn
 rw [e]
 exact aVk h1 h2
theorem Lets.add {x y:Str} (hx:Lets x) (hy:Lets y):Lets (x++y):=fun c hc=>by
 have hc:c∈x.cps++y.cps:=hc
 rcases Array.mem_append.mp hc with h|h
 ·exact hx c h
 ·exact hy c h
theorem Lets.one {z:Str} {i c:Nat} (hz:Lets z) (h:z.cps[i]?=some c):Lets ⟨#[c]⟩:=fun d hd=>by
 have hd:d∈#[c]:=hd
 have e:d=c:=by simpa using hd
 subst e
 exact hz _ (Array.mem_of_getElem? h)
theorem aGx:Lets abc:=by
 have h:(abc.cps.all fun c=>decide (97≤c) && decide (c≤122))=true:=by decide +kernel
 intro c hc
 have:=(Array.all_eq_true_iff_forall_mem.mp h) c hc
 rw [Bool.and_eq_true] at this
 exact ⟨of_decide_eq_true this.1,of_decide_eq_true this.2⟩
inductive dH:Str→V→Prop
 |num {i}:dH "number" (.int i)
 |wrd {x}:Lets x→x.length≤8→dH "word" (.str x)
def val (c:Nat):Int:=(c:Int) - 96
def num (x:Str):Nat→Int
 |0=>0
 |n+1=>num x n * 27+val (x.cps.getD n 0)
theorem aSg:∀k:_root_.Fin 26,Builtin.Str.occurrences abc ⟨#[97+k.val]⟩ 0 abc.length 1=[k.val]:=by decide +kernel
theorem occ {c:Nat} (h1:97≤c) (h2:c≤122):Builtin.Str.occurrences abc ⟨#[c]⟩ 0 abc.length 1=[c - 97]:=by
 have h:=aSg ⟨c - 97,by lia⟩
 have e:97+(c - 97)=c:=by lia
 simpa [e] using h
def Vl (v:V):Prop:=(∃i,v=.int i)∨∃x,v=.str x∧Lets x∧x.length≤8
def nm:V→Int
 |.int i=>i
 |.str x=>num x x.cps.size
 |_=>0
theorem Lets.at {x:Str} (h:Lets x) {i:Nat} (hi:i<x.cps.size):97≤x.cps.getD i 0∧x.cps.getD i 0≤122:=by
 rw [Array.getD_eq_getD_getElem?,Array.getElem?_eq_getElem hi]
 exact h _ (Array.getElem_mem hi)
theorem Vl.th {K:PySem.W.Frag} {H:Hp} {v:V} (h:Vl v):Th K H v:=by
 rcases h with ⟨i,rfl⟩|⟨x,rfl,_,h8⟩
 ·exact .inr (.inl ⟨i,rfl⟩)
 ·exact .inl ⟨x,rfl,by lia⟩
def aKy:Sp:=fun vs H Q _=>∃x,vs=[.str x]∧Lets x∧Q (.int (num x x.cps.size)) H
def aKv:Sp:=fun vs H Q _=>∃v h,vs=[v,.int h]∧Vl v∧0<h∧Q (.int (nm v % h)) H
theorem zH (T:Txt w K mg):Ok P w K mg base 1 "word_number" ["word"] aKy:=by
 refine Ok.ofV T.aAs gF (fun vs H Q E h=>?_) (fun f cdv A outer s H vs Q E hr h=>?_)
 ·obtain ⟨v,rfl,_⟩:=h;rfl
 obtain ⟨x,rfl,hx,q⟩:=h
 refine ⟨_,(aF (bA (i:=1) gF.nd rfl (by trivial) aG) (aF (eV PassesOwn.never rfl (aOu (vv 0)) (aU (i:=2) gF.nd rfl (by trivial)) (aJ (bA (i:=1) gF.nd rfl (by trivial) (bO eG (bO eG (bO uQ (vv 1) (qW (by rfl) T.aF4)) (lW PySem.F.plainAttrs_str PySem.F.slot_str_index PySem.F.type_str_index aPx (qW (by rfl) T.aBv) (aD (vv 2) aC))) aG)))) (aJ (aP (vv 1))))),?_⟩
 refine ⟨_,rfl,_,rfl,aRc (x:=x) (fun i σ H'=>H'=H∧∃l,σ=[some (.str x),some (.int (num x i)),l]) ⟨rfl,_,rfl⟩ ?_ ?_⟩
 ·rintro i σ H' hi ⟨rfl,l,rfl⟩
  obtain ⟨h1,h2⟩:=hx.at hi
  refine ⟨_,rfl,_,_,rfl,rfl,.inr ⟨by decide,by decide⟩,rfl,_,rfl,_,_,_,_,rfl,rfl,occ h1 h2,_,_,rfl,rfl,_,_,rfl,rfl,rfl,some (.str (sgn x i)),?_⟩
  have e:num x i * 27+((x.cps.getD i 0 - 97:Nat):Int)+1=num x (i+1):=by
   show num x i * 27+((x.cps.getD i 0 - 97:Nat):Int)+1=num x i * 27+((x.cps.getD i 0:Int) - 96)
   lia
  exact congrArg (fun n=>[some (V.str x),some (V.int n),some (V.str (sgn x i))]) e
 ·rintro σ H' ⟨rfl,l,rfl⟩
  exact ⟨_,rfl,q⟩
theorem aSc (T:Txt w K mg) (dN:Ok P w K mg base 1 "is_whole" ["thing"] (mC K)) (aAv:Ok P w K mg base 1 "word_number" ["word"] aKy):Ok P w K mg base 2 "home" ["value","houses"] aKv:=by
 refine Ok.ofV T.aT5 aKt (fun vs H Q E h=>?_) (fun f cdv A outer s H vs Q E hr h=>?_)
 ·obtain ⟨v,h,rfl,_⟩:=h;rfl
 obtain ⟨v,h,rfl,hv,h0,q⟩:=h
 refine ⟨_,(aF (bA (i:=2) aKt.nd rfl (by trivial) (aGw (cQ (aV (dN.mono (by decide)) hr (by rfl) (aD (vv 0) aC))) (vv 0) (aV (aAv.mono (by decide)) hr (by rfl) (aD (vv 0) aC)))) (aJ (aP (bO oV (vv 2) (vv 1))))),?_⟩
 have ht:=hv.th (K:=K) (H:=H)
 rcases hv with ⟨i,rfl⟩|⟨x,rfl,hx,h8⟩
 ·exact ⟨_,rfl,_,rfl,ht,_,rfl,dW ⟨_,rfl,_,rfl,_,rfl,_,_,rfl,rfl,h0,q⟩⟩
 ·exact ⟨_,rfl,_,rfl,ht,_,rfl,cB ⟨_,rfl,_,rfl,hx,_,rfl,_,rfl,_,_,rfl,rfl,h0,q⟩⟩
def xM:Sp:=fun vs H Q _=>∃i m:Int,vs=[.int i,.int m]∧Q (.bl (decide (0≤i) && decide (i<m))) H
theorem rW (T:Txt w K mg) (dN:Ok P w K mg base 1 "is_whole" ["thing"] (mC K)):Ok P w K mg base 2 "is_number_below" ["thing","many"] xM:=by
 refine Ok.ofV T.sZ rZ (fun vs H Q E h=>?_) (fun f cdv A outer s H vs Q E hr h=>?_)
 ·obtain ⟨i,m,rfl,_⟩:=h;rfl
 obtain ⟨i,m,rfl,q⟩:=h
 refine ⟨_,(aJ (aP (fX (aV (dN.mono (by decide)) hr (by rfl) (aD (vv 0) aC)) (gW (aOz aAg aSu aG (vv 0) (vv 1)))))),?_⟩
 refine ⟨_,rfl,_,rfl,.inr (.inl ⟨i,rfl⟩),_,rfl,dW ?_⟩
 refine ⟨_,rfl,_,_,rfl,rfl,_,rfl,?_⟩
 cases h0:decide (0≤i) with
 |false=>rw [h0] at q;exact cB q
 |true=>rw [h0] at q;exact dW ⟨_,rfl,_,_,rfl,rfl,q⟩
end
end My
namespace PySem.W
open PySem PySem.Calls PyProof.Rows
def KasT.ev {α:Type} (f:Nat→Nat→Bool):KasT α→α
 |.ret a=>a
 |.ask i j k=>(k (f i j)).ev f
inductive KasT.Low {α:Type} (n:Nat) (P:α→Prop):KasT α→Prop
 |ret {a}:P a→KasT.Low n P (.ret a)
 |ask {i j k}:i<n→j<n→(∀b,KasT.Low n P (k b))→KasT.Low n P (.ask i j k)
theorem KasT.Low.bind {α β:Type} {n:Nat} {P:α→Prop} {R:β→Prop} {t:KasT α} {f:α→KasT β} (h:t.Low n P) (hf:∀a,P a→(f a).Low n R):(t.bind f).Low n R:=by
 induction h with
 |ret h=>exact hf _ h
 |ask a b _ ih=>exact .ask a b ih
theorem KasT.Low.of {α:Type} {n:Nat} {P:α→Prop} {t:KasT α} (h:t.Low n P) (f:Nat→Nat→Bool):P (t.ev f):=by
 induction h with
 |ret h=>exact h
 |@ask i j k a b _ ih=>exact ih (f i j)
theorem aTt {α:Type} {n:Nat} {P:α→Prop} {f:Nat→Nat→Bool} {cmp:Nat→Nat→(Bool→Shared→Prop)→Shared→Prop} {s:Shared} (hc:∀i j C,i<n→j<n→C (f i j) s→cmp i j C s) {t:KasT α} (h:t.Low n P) {Q:α→Shared→Prop} (q:Q (t.ev f) s):t.kasWp cmp Q s:=by
 induction h with
 |ret h=>exact q
 |@ask i j k a b _ ih=>exact hc i j _ a b (ih (f i j) q)
def Pl (n:Nat) (p:Array Nat):Prop:=p.size=n∧∀k,p.getD k 0<n
theorem Pl.perm {n:Nat} {p q:Array Nat} (h:Pl n p) (e:q.Perm p) (h0:0<n):Pl n q:=by
 refine ⟨e.size_eq.trans h.1,fun k=>?_⟩
 by_cases hk:k<q.size
 ·have hm:q[k]∈p.toList:=(Array.perm_iff_toList_perm.mp e).mem_iff.mp (by simp)
  obtain ⟨j,hj,ej⟩:=List.getElem_of_mem hm
  have hj':j<p.size:=by simpa using hj
  have:=h.2 j
  rw [Array.getD_eq_getD_getElem?,Array.getElem?_eq_getElem hj',Option.getD_some] at this
  rw [Array.getD_eq_getD_getElem?,Array.getElem?_eq_getElem hk,Option.getD_some,←ej]
  simpa using this
 ·rw [Array.getD_eq_getD_getElem?,Array.getElem?_eq_none (by lia)]
  exact h0
theorem aDv {n:Nat} {p:Array Nat} (h:Pl n p):∀f m,(kas_asc p f m).Low n (fun r=>m≤r∧r≤m+f)
 |0,m=>.ret ⟨Nat.le_refl _,Nat.le_refl _⟩
 |f+1,m=>by
  refine .ask (h.2 _) (h.2 _) fun c=>?_
  by_cases e:c=true
  ·rw [if_pos e];exact .ret ⟨Nat.le_refl _,by lia⟩
  ·rw [if_neg e]
   have z:=aDv h f (m+1)
   generalize kas_asc p f (m+1)=t at z
   induction z with
   |ret q=>exact .ret ⟨by lia,by lia⟩
   |ask a b _ ih=>exact .ask a b ih
theorem tO {n:Nat} (h0:0<n):∀(f:Nat) (p:Array Nat) (m q:Nat),Pl n p→(kas_desc f p m q).Low n (fun r=>Pl n r.1)
 |0,p,m,q,h=>.ret h
 |f+1,p,m,q,h=>by
  refine .ask (h.2 _) (h.2 _) fun c=>?_
  by_cases e:c=true
  ·rw [if_pos e]
   by_cases e2:q > 0
   ·rw [if_pos e2];exact tO h0 f _ _ _ (h.perm (mirror_perm _ _ _ _) h0)
   ·rw [if_neg e2];exact tO h0 f _ _ _ h
  ·rw [if_neg e]
   refine .ask (h.2 _) (h.2 _) fun d=>?_
   by_cases e3:d=true
   ·rw [if_pos e3];exact .ret h
   ·rw [if_neg e3];exact tO h0 f _ _ _ h
theorem aBx {n:Nat} (h0:0<n) {p:Array Nat} (h:Pl n p) (m nrem:Nat):(kas_tail3 m nrem p).Low n (fun r=>Pl n r.2):=by
 have h':Pl n (kas_rev p 0 m):=h.perm (mirror_perm _ _ _ _) h0
 exact (aDv h' _ _).bind fun _ _=>.ret h'
theorem uD {n:Nat} (h0:0<n) {p:Array Nat} (h:Pl n p) (m nrem:Nat):(kas_descPart m nrem p).Low n (fun r=>Pl n r.2):=by
 refine (tO h0 _ _ _ _ h).bind fun r hr=>?_
 by_cases e:r.2.2 > 0
 ·rw [if_pos e];exact aBx h0 (hr.perm (mirror_perm _ _ _ _) h0) _ _
 ·rw [if_neg e];exact aBx h0 hr _ _
theorem aMn {n:Nat} (h0:0<n) {p:Array Nat} (h:Pl n p) (nrem:Nat):(kas_count nrem p).Low n (fun r=>Pl n r.2):=by
 refine (aDv h _ _).bind fun m _=>?_
 by_cases e:(m == nrem)=true
 ·rw [if_pos e];exact .ret h
 ·rw [if_neg e]
  by_cases e2:m > 1
  ·rw [if_pos e2]
   refine .ask (h.2 _) (h.2 _) fun c=>?_
   by_cases e3:c=true
   ·rw [if_pos e3];exact .ret h
   ·rw [if_neg e3];exact uD h0 (h.perm (mirror_perm _ _ _ _) h0) _ _
  ·rw [if_neg e2];exact uD h0 h _ _
theorem vI {n:Nat} {p:Array Nat} (h:Pl n p) (k:Nat):∀f l r,(kas_place p k f l r).Low n (fun _=>True)
 |0,l,r=>.ret trivial
 |f+1,l,r=>by
  unfold kas_place
  by_cases e:l ≥ r
  ·rw [if_pos e];exact .ret trivial
  ·rw [if_neg e]
   refine .ask (h.2 _) (h.2 _) fun c=>?_
   by_cases e2:c=true
   ·rw [if_pos e2];exact vI h k f _ _
   ·rw [if_neg e2];exact vI h k f _ _
theorem aKa {n:Nat} (h0:0<n):∀(f:Nat) (p:Array Nat) (k:Nat),Pl n p→(kas_bin f p k).Low n (Pl n)
 |0,p,k,h=>.ret h
 |f+1,p,k,h=>(vI h k k 0 k).bind fun l _=>aKa h0 f _ _ (h.perm (bubble_perm _ _ _) h0)
theorem aPa {n:Nat} (h0:0<n):Pl n (List.toArray (List.range n)):=by
 refine ⟨by simp,fun k=>?_⟩
 rw [Array.getD_eq_getD_getElem?,List.getElem?_toArray]
 by_cases h:k<n
 ·rw [List.getElem?_range h];exact h
 ·rw [List.getElem?_eq_none (by simpa using h)];exact h0
theorem zZ {n:Nat} (h0:0<n):(kas_sort n).Low n (Pl n):=by
 refine (aMn h0 (aPa h0) n).bind fun r hr=>?_
 by_cases e:r.1<n
 ·rw [if_pos e];exact aKa h0 _ _ _ hr
 ·rw [if_neg e];exact .ret hr
def lQ (n:Nat) (f:Nat→Nat→Bool):List Nat:=if n<2 then List.range n else ((kas_sort n).ev f).toList
theorem aB7 (n:Nat) (f:Nat→Nat→Bool):(lQ n f).length=n:=by
 unfold lQ
 by_cases h:n<2
 ·rw [if_pos h,List.length_range]
 ·rw [if_neg h,Array.length_toList]
  exact ((zZ (by lia)).of f).1
theorem vH {n:Nat} {f:Nat→Nat→Bool} {i:Nat} (h:i∈lQ n f):i<n:=by
 unfold lQ at h
 by_cases h2:n<2
 ·rw [if_pos h2] at h;exact List.mem_range.mp h
 ·rw [if_neg h2] at h
  have z:=(zZ (n:=n) (by lia)).of f
  obtain ⟨j,hj,e⟩:=List.getElem_of_mem h
  have hj':j<((kas_sort n).ev f).size:=by simpa using hj
  have:=z.2 j
  rw [Array.getD_eq_getD_getElem?,Array.getElem?_eq_getElem hj',Option.getD_some] at this
  rw [←e]
  simpa using this
section
variable {prog:Program} {w:World} {A:Around} {E:Value→Shared→Prop} {s:Shared} {f:Nat→Nat→Bool}
theorem wQ {a:Addr} {vs:List Value} {n:Nat} {P:PySem.Fin→Shared→Prop} (ho:s.heap.get? a=some (seqObj "list" vs.toArray n)) (h64:vs.length<64)
  (hk:2≤vs.length→∀h',(∀b o,b≠a→s.heap.get? b=some o→h'.get? b=some o)→∃κ,(∀(Q:SortKind→Shared→Prop),Q κ { s with heap:=h' }→wpAny (model prog w) A (keyKind' vs.toArray) Q (fun _ _=>False) { s with heap:=h' })∧∀i j (C:Bool→Shared→Prop),i<vs.length→j<vs.length→C (f i j) { s with heap:=h' }→kas_ask prog w A κ vs i j C { s with heap:=h' })
  (h:P (.done (.ret .none)) { s with heap:=sortedHeap s.heap a vs (List.toArray ((lQ vs.length f).map fun i=>vs.getD i Value.none)) }) :
  wpAny (model prog w) A (Builtin.«list.sort» ⟨[.ref a],[]⟩) P E s:=by
 rw [list_sort_plain]
 have ha:a<s.heap.objs.size:=Heap.lt_size ho
 refine wpAny_bind (listItems_at ho rfl ?_)
 refine wpAny_bind (listUpdate_at ho rfl ?_ (by rw [List.size_toArray,sizeLine_eq];lia) (Nat.zero_le _))
 obtain ⟨e1,ho1⟩:∃e1,(s.heap.update a (Obj.mapSeq fun _=>#[])).get? a=some (seqObj "list" #[] e1):=⟨_,get?_update_seq ho (fun _=>#[])⟩
 refine wpAny_bind (seqEpoch_at ho1 rfl ?_)
 refine wpAny_bind (wpAny_newTuple ?_ (by show vs.length≤_;rw [sizeLine_eq];lia))
 refine wpAny_bind (wpAny_newList ?_ (Nat.zero_le _))
 refine wpAny_holding ?_
 have ho6:(((s.heap.update a (Obj.mapSeq fun _=>#[])).push (seqObj "tuple" vs.toArray 0)).push (seqObj "list" #[] 0)).get? a=some (seqObj "list" #[] e1):=by
  rw [Heap.get?_push_ne _ _ _ (by rw [size_push',Heap.size_update];exact Nat.ne_of_lt (Nat.lt_succ_of_lt ha)),Heap.get?_push_ne _ _ _ (by rw [Heap.size_update];exact Nat.ne_of_lt ha)]
  exact ho1
 have keep:∀b o,b≠a→s.heap.get? b=some o→(((s.heap.update a (Obj.mapSeq fun _=>(#[]:Array Value))).push (seqObj "tuple" vs.toArray 0)).push (seqObj "list" #[] 0)).get? b=some o:=fun b o ne q=>by
  refine Heap.get?_push_of_some _ (Heap.get?_push_of_some _ ?_)
  rw [Heap.get?_update_ne _ _ _ _ ne]
  exact q
 show wpAny (model prog w) A _ P E { s with heap:=((s.heap.update a (Obj.mapSeq fun _=>#[])).push (seqObj "tuple" vs.toArray 0)).push (seqObj "list" #[] 0) }
 dsimp only
 have hsz:vs.toArray.size=vs.length:=by simp
 by_cases h2:vs.toArray.size<2
 ·rw [if_pos h2,if_pos h2]
  refine wpAny_bind (wpAny_pure ?_)
  rw [StateT.run_pure]
  refine wpAny_bind (wpAny_pure ?_)
  dsimp only
  refine wpAny_bind (seqEpoch_at ho6 rfl ?_)
  refine wpAny_bind (listUpdate_at ho6 rfl ?_ (hsz2:=by rw [Array.size_map];show (pairsOf vs).size≤_;rw [pairsOf_size,sizeLine_eq];lia))
  simp only [bne_self_eq_false,Bool.false_eq_true,if_false]
  refine wpAny_pure ?_
  have e:((arrOf (SortSt.mk' general' (vs.toArray.zip vs.toArray) #[] 7 none)).map (·.2))=List.toArray ((lQ vs.length f).map fun i=>vs.getD i Value.none):=by
   show ((vs.toArray.zip vs.toArray).map (·.2))=_
   unfold lQ
   rw [if_pos (by lia)]
   match vs,hsz,h2 with
   |[],_,_=>simp
   |[x],_,_=>simp [List.range,List.range.loop]
   |_::_::_,hsz,h2=>rw [hsz,List.length_cons,List.length_cons] at h2;lia
  rw [e]
  exact h
 ·rw [if_neg h2,if_neg h2]
  have h2':2≤vs.length:=by lia
  obtain ⟨κ,hk1,hk2⟩:=hk h2' _ keep
  refine wpAny_bind (wpAny_mono (hk1 (fun κ' s'=>(kas_sort vs.length).kasWp (kas_ask prog w A κ' vs) (fun p s'=>s'={ s with heap:=((s.heap.update a (Obj.mapSeq fun _=>#[])).push (seqObj "tuple" vs.toArray 0)).push (seqObj "list" #[] 0) }∧p=(kas_sort vs.length).ev f) s') (aTt (n:=vs.length) (P:=Pl vs.length) (f:=f) (cmp:=kas_ask prog w A κ vs) (t:=kas_sort vs.length) hk2 (zZ (by lia)) (Q:=fun p s'=>s'={ s with heap:=((s.heap.update a (Obj.mapSeq fun _=>#[])).push (seqObj "tuple" vs.toArray 0)).push (seqObj "list" #[] 0) }∧p=(kas_sort vs.length).ev f) ⟨rfl,rfl⟩)) (fun κ' s0 hk=>?_) fun _ _ x=>x.elim)
  refine wpAny_bind (wpAny_mono (kat_run (Q:=fun st' s'=>∃p:Array Nat,p.size=vs.length∧arrOf st'=p.map (kas_item (vs.toArray.zip vs.toArray))∧failedOf st'=none∧s'={ s with heap:=((s.heap.update a (Obj.mapSeq fun _=>#[])).push (seqObj "tuple" vs.toArray 0)).push (seqObj "list" #[] 0) }∧p=(kas_sort vs.length).ev f)
   rfl h2' h64 (fun p' st' s' a1 a2 a3 a4=>⟨p',a1,a2,a3,a4⟩) hk) ?_ fun _ _ e=>e)
  rintro ⟨⟨⟩,st'⟩ s' ⟨p,hp,har,hf,rfl,rfl⟩
  dsimp only
  have hout:=kat_snds rfl har
  rw [hout]
  refine wpAny_bind (seqEpoch_at ho6 rfl ?_)
  refine wpAny_bind (listUpdate_at ho6 rfl ?_ (Nat.zero_le _) (by rw [List.size_toArray,List.length_map,Array.length_toList,hp,sizeLine_eq];lia))
  rw [hf]
  simp only [bne_self_eq_false,Bool.false_eq_true,if_false]
  refine wpAny_pure ?_
  have e:lQ vs.length f=((kas_sort vs.length).ev f).toList:=by unfold lQ;rw [if_neg (by lia)]
  rw [e] at h
  exact h
theorem aCk {l:Addr} {vs:List Value} {Q:Value→Shared→Prop} (hl:s.heap.IsList l vs.toArray) (h64:vs.length<64)
  (hk:2≤vs.length→∀h',(∀b o,s.heap.get? b=some o→h'.get? b=some o)→∃κ,(∀(Q:SortKind→Shared→Prop),Q κ { s with heap:=h' }→wpAny (model prog w) A.in1.in1 (keyKind' vs.toArray) Q (fun _ _=>False) { s with heap:=h' })∧∀i j (C:Bool→Shared→Prop),i<vs.length→j<vs.length→C (f i j) { s with heap:=h' }→kas_ask prog w A.in1.in1 κ vs i j C { s with heap:=h' })
  (h:Q (.ref (s.heap.objs.size+1)) { s with heap:=sortedAll s.heap vs (List.toArray ((lQ vs.length f).map fun i=>vs.getD i Value.none)) }) :
  wpAny (model prog w) A (call (.builtin "sorted") [.ref l]) Q E s:=by
 refine Calls.call_function_entry kind_sorted plain_sorted entry_sorted (args_sorted1 _) ?_
 unfold Builtin.«sorted»
 refine wpAny_bind (m:=checkCount "sorted" 1 1 _) (wpAny_pure ?_)
 refine wpAny_bind (collect_list hl ?_ (by rw [sizeLine_eq];lia))
 refine wpAny_bind (wpAny_newList ?_ (by rw [sizeLine_eq];lia))
 have hsz:((s.heap.push (seqObj "list" #[] 0)).update s.heap.objs.size (Obj.mapSeq (·++vs.toArray))).objs.size=s.heap.objs.size+1:=by
  rw [Heap.size_update,size_push']
 have hoL:(((s.heap.push (seqObj "list" #[] 0)).update s.heap.objs.size (Obj.mapSeq (·++vs.toArray))).push (seqObj "list" vs.toArray 0)).get? (s.heap.objs.size+1)=some (seqObj "list" vs.toArray 0):=by
  rw [←hsz];exact Heap.get?_push_size _ rfl
 have keep:∀b o,s.heap.get? b=some o→(((s.heap.push (seqObj "list" #[] 0)).update s.heap.objs.size (Obj.mapSeq (·++vs.toArray))).push (seqObj "list" vs.toArray 0)).get? b=some o:=fun b o q=>by
  have hlt:b<s.heap.objs.size:=Heap.lt_size q
  rw [Heap.get?_push_ne _ _ _ (by rw [hsz];exact Nat.ne_of_lt (Nat.lt_succ_of_lt hlt)),Heap.get?_update_ne _ _ _ _ (Nat.ne_of_lt hlt),Heap.get?_push_ne _ _ _ (Nat.ne_of_lt hlt)]
  exact q
 show wpAny _ _ _ _ _ { s with heap:=((s.heap.push (seqObj "list" #[] 0)).update s.heap.objs.size (Obj.mapSeq (·++vs.toArray))).push (seqObj "list" vs.toArray 0) }
 rw [hsz]
 refine wpAny_bind (wpAny_holding (wpAny_call_entry slot_list_sort ⟨_,hoL,rfl⟩ entry_list_sort (wQ (f:=f) (s:={ s with heap:=((s.heap.push (seqObj "list" #[] 0)).update s.heap.objs.size (Obj.mapSeq (·++vs.toArray))).push (seqObj "list" vs.toArray 0) }) hoL h64 (fun h2 h' kp=>hk h2 h' fun b o q=>kp b o (Nat.ne_of_lt (Nat.lt_succ_of_lt (Heap.lt_size q))) (keep b o q)) ⟨_,rfl,?_⟩) (args_list_sort _)))
 exact wpAny_pure ⟨_,rfl,h⟩
end
end PySem.W
namespace PySem.W
open PySem PySem.Calls PyProof.Rows
section
variable {f:Nat→Nat→Bool}
end
end PySem.W
namespace PySem.W
open PySem PySem.Calls PyProof.Rows
section
variable {prog:Program} {w:World} {A:Around} {E:Value→Shared→Prop} {s:Shared} {f:Nat→Nat→Bool}
end
end PySem.W
namespace PySem.W
open PySem PySem.Calls PyProof.Rows
theorem aAi {pos:Pos} {a b:Int} {c cv:Value} (l:List Value) (h:TriplesOk l) (hf:codeAmong pos (l++[rawInt a,rawInt b,c])=some cv):codeAmong pos l=some cv∨cv=c:=by
 fun_induction TriplesOk l with
 |case1=>
  simp only [List.nil_append,codeAmong,rawInt] at hf
  split at hf
  ·exact .inr (Option.some.inj hf).symm
  ·cases hf
 |case2 a' t b' u x rest ih=>
  simp only [List.cons_append,codeAmong] at hf ⊢
  split at hf
  ·rename_i hc;rw [if_pos hc];exact .inl hf
  ·rename_i hc;rw [if_neg hc];exact ih h hf
 |case3 l h1 h2=>exact h.elim
section
variable {prog:Program} {w:World} {A:Around} {E:Value→Shared→Prop} {s:Shared}
end
end PySem.W
namespace L2
open PySem PySem.Spec PyProof.Rows
def BM (mg:Str→Option Value) (base:Heap):Prop:=∃bm ob,mg "__builtins__"=some (.ref bm)∧bm≠builtinsNs∧base.get? bm=some ob∧ob.cls=.type "module"∧ob.dict=some builtinsNs∧ob.data=.plain
section
variable {X:Cx} {pins:List (Addr × Obj)} {σ:List (Option V)} {H:Hp} {s:Shared}
end
def ExO (a:Addr) (o:Obj):HO:=.ext fun h=>h.get? a=some o
theorem aT9 {P:Program} {w:World} {H:Hp} {h:Heap} {a:Addr} {o:Obj} (e:h.get? a=some o):cT P w H h a (ExO a o):=⟨e,⟨o,e⟩,fun _ _ e1 k=>k o e1⟩
def aW7 (g x y:Str) (p0 p1 p2 p3:Pos):Expr:=.Call (.Name g p0) [.Name x p1,.Name y p2] [] p3
structure aTp (qual g x y:Str) (params:Arguments) (bd:Expr) (scope:Scope):Prop where
 body:∃p0 p1 p2 p3,bd=aW7 g x y p0 p1 p2 p3
 bind:∀(cp c':Addr) (pm ctv v:Value),bindArgs (PySem.W.kla_fn "<lambda>" qual params bd scope [(y,cp)] pm (.ref c') ctv) ⟨[v],[]⟩=pure [(x,v)]
 co:scope.isCoroutine=false
 gen:scope.isGenerator=false
 kind:scope.kind=.function
 cell:∀z∈scope.names,z.2≠.cell
 hx:scope.names.lookup x=some .local
 hy:scope.names.lookup y=some .free
 hg:scope.names.lookup g=some .globalImplicit
 dx:(x == ("__debug__":Str))=false
 dy:(y == ("__debug__":Str))=false
 dg:(g == ("__debug__":Str))=false
 cy:(y == ("__classdict__":Str))=false
 xy:(y == x)=false
def uI (H:Hp) (f:Addr) (qual g x y:Str) (v:V):Prop:=∃(params:Arguments) (body:Expr) (scope:Scope) (cp c':Addr) (pm ctv:Value) (oc ol:Obj) (u:Value) (vs:Array Value) (t:Tok),
 aTp qual g x y params body scope∧H f=some (ExO f (PySem.W.kla_obj "<lambda>" qual params body scope [(y,cp)] pm c' ctv))∧H cp=some (ExO cp ol)∧(∀h:Heap,h.get? cp=some ol→h.IsCell cp (some u))∧RelV v u∧H c'=some (ExO c' oc)∧oc.data=.fields vs∧vs[1]?=some (.str qual t)
theorem uI.same {H H':Hp} {f:Addr} {qual g x y:Str} {v:V} (L:uI H f qual g x y v) (s:Same H H'):uI H' f qual g x y v:=by
 obtain ⟨pa,bo,sc,cp,c',pm,ctv,oc,ol,u,vs,t,S,h1,h2,h3,h4,h5,h6,h7⟩:=L
 exact ⟨pa,bo,sc,cp,c',pm,ctv,oc,ol,u,vs,t,S,s _ _ h1,s _ _ h2,h3,h4,s _ _ h5,h6,h7⟩
section
variable {X:Cx}
theorem aR3 {pins:List (Addr × Obj)} {σ:St} {H:Hp} {s:Shared} {Q:VK} {f ga:Addr} {qual g x y:Str} {v a:V} {ua:Value} {k:Nat} {fd:FuncData} {ps:List Str} {sp:Sp}
  (L:uI H f qual g x y v) (hr:Room (k+1) X.A) (hm:X.mg g=some (.ref ga)) (hk:PySem.W.keepIn X.K (.ref ga)=true) (hb:Binds X.K fd ps []) (F:jD X.prog X.w X.K X.mg X.base CX0 k ga fd ps sp)
  (I:Inv X pins σ H s) (r:RelV a ua) (h:sp [a,v] H Q E0):wpAny (model X.prog X.w) X.A (call (.ref f) [ua]) (EP X pins σ Q) X.xe s:=by
 obtain ⟨pa,bo,sc,cp,c',pm,ctv,oc,ol,u,vs,t,S,h1,h2,h3,h4,h5,h6,h7⟩:=L
 have e1:s.heap.get? f=some _:=(I.hok f _ h1).1
 have e2:s.heap.get? cp=some ol:=(I.hok cp _ h2).1
 have e5:s.heap.get? c'=some oc:=(I.hok c' _ h5).1
 refine wpAny_call (PySem.W.kla_callFunE hr.depth e1 rfl S.co S.gen rfl ⟨c',oc,vs,t,rfl,e5,h6,h7⟩ ?_)
 rw [S.bind]
 refine wpAny_pure (wpAny_newFunctionEnv S.cell (fun z hz=>?_) (fun h₁ hns hsb=>⟨I.nolimit.fresh _ hsb,?_⟩) S.kind)
 ·have e:z=(x,ua):=by simpa using hz
  rw [e];exact S.hx
 have kp:∀b o,s.heap.get? b=some o→h₁.get? b=some o:=fun b o e=>hsb.extBut b o (Nat.ne_of_lt (Heap.lt_size e)) (Heap.get?_push_of_some _ e)
 have szz:s.heap.objs.size≤h₁.objs.size:=by
  have:=hsb.1
  rw [Heap.size_push] at this
  lia
 refine PySem.W.kla_codeExpr ?_
 obtain ⟨p0,p1,p2,p3,rfl⟩:=S.body
 have hG:h₁.Ns mainGlobals X.mg:=(I.mod.glob.keeps I.bk).keeps kp
 refine wpAny_Call_Name_kw (Calls.Name_function_global S.kind S.hg (Calls.loadGlobal_global hG hm ?_) S.dg)
 refine PySem.W.callWith_K (h₀:=X.base) I.ok.mod.kin hk (Calls.spliced_cons (wpAny_Name (wpAny_loadName_local S.kind S.hx hns (v:=ua) (by simp) ?_) S.dx)) rfl rfl
 refine Calls.spliced_cons (wpAny_Name (wpAny_loadName_free S.kind S.hy (c:=cp) (by simp [newEnv,PySem.W.kla_fn]) (v:=u) (h3 h₁ (kp _ _ e2)) ?_ S.cy) S.dy)
 have kin:X.K.In h₁:=I.kIn.keeps kp
 refine Calls.spliced_nil ⟨kin,?_⟩
 generalize henv:newEnv _ s.heap.objs.size _ _ _ _ _ _ _=env
 have hfr:env.frame=some s.heap.objs.size:=by rw [←henv];rfl
 have hkd:env.scope.kind≠.module:=by rw [←henv];show sc.kind≠_;rw [S.kind];decide
 have fresh:X.base.get? s.heap.objs.size=none:=Heap.get?_none_of_le (Nat.le_trans I.ok.bsz I.sz)
 have hfresh:H s.heap.objs.size=none:=I.hok.fresh (Nat.le_refl _)
 have E1:aCq X.prog X.w X.K X.mg X.base (X.A.deeper env) (env::X.stack) { s with heap:=h₁,toks:=s.toks+1 } H:=by
  refine ⟨Around.frames_deeper I.ok.frames,I.ok.mod,fun b o e=>⟨kp _ _ (I.bs b o e).1,(I.bs b o e).2⟩,Nat.le_trans (Nat.le_trans I.ok.bsz I.sz) szz,.cons hkd hfr hns fresh ?_,?_,I.hok.kept kp,I.bare⟩
  ·exact I.stack.of_keeps fun b o e _=>⟨o,kp _ _ e,rfl⟩
  ·intro b hb
   unfold frs at hb
   rw [List.filterMap_cons,hfr] at hb
   rcases List.mem_cons.mp hb with e|hb
   ·rw [e];exact hfresh
   ·exact I.uF b hb
 have r2:Vals [a,v] [ua,u]:=.cons r (.cons h4 .nil)
 have hl:([ua,u]++([]:List Value)).length=ps.length:=by rw [List.append_nil,←r2.length];exact F.len _ _ _ _ h
 refine wpAny_call (codeAny_mono (F.run (X.A.deeper env) (env::X.stack) _ H ⟨[ua,u],[]⟩ [ua,u] [a,v] Q E0 (hr.deeper env) E1 (by simpa using hb { s with heap:=h₁,toks:=s.toks+1 } [ua,u] kin hl) r2 h) fun rr s' hq=>?_)
 cases rr with
 |error e=>exact hq.elim
 |ok fl=>
  cases fl with
  |next=>exact False.elim hq
  |brk=>exact False.elim hq
  |cont=>exact False.elim hq
  |ret uu=>
   obtain ⟨v',H',os,bare,un,hok,rel,q⟩:=hq
   refine I.after (Q:=Q) (u:=uu) (s':=s') ⟨v',H',os,bare,?_,hok,rel,q⟩
   have neL:∀b o,s.heap.get? b=some o→b≠s.heap.objs.size:=fun b o e=>Nat.ne_of_lt (Heap.lt_size e)
   have fe:frs (env::X.stack)=s.heap.objs.size::frs X.stack:=by unfold frs;rw [List.filterMap_cons,hfr]
   rw [fe] at un
   exact ⟨fun b o e n hb hx=>un.keep b o (kp b o e) n (fun z=>(List.mem_cons.mp z).elim (neL b o e) hb) hx,fun b o e n hb hx=>un.slot b o (kp b o e) n (List.mem_cons_of_mem _ hb) hx,fun b o e n hx=>un.free b o (kp b o e) n hx,fun b o e hx=>un.there b o (kp b o e) hx,un.tups,un.frzs,un.tbls⟩
def aQa (P:Program) (w:World) (K:PySem.W.Frag) (mg:Str→Option Value) (base:Heap) (k:Nat) (te:TE) (t:TA):TE:=fun σ H Q=>te σ H fun v H1=>∃(f:Addr) (qual g x y:Str) (z:V) (ps:List Str) (sp:Sp),v=.ref f∧uI H1 f qual g x y z∧Ok P w K mg base k g ps sp ∧
 t σ H1 fun vs H2=>∃a,vs=[a]∧uI H2 f qual g x y z∧sp [a,z] H2 Q E0
theorem aNp {n:Str} {p pos:Pos} {e:Expr} {es:List Expr} {te:TE} {t:TA} {k:Nat} (hr:Room (k+1) X.A) (hf:PE X (.Name n p) te) (ha:PA X (e::es) t)
  (he:starEach (e::es) X.env=(false,eval e X.env)::starEach es X.env:=by rfl) (hpl:(backTo pos (starEach es X.env)).any (·.1)=false:=by rfl) :
  PE X (.Call (.Name n p) (e::es) [] pos) (aQa X.prog X.w X.K X.mg X.base k te t):=by
 intro pins s σ H Q I h
 refine wpAny_Call_Name_kw (thn (hf pins s σ H _ I h) fun u s1 ⟨v,H1,I1,r1,q1⟩=>?_)
 obtain ⟨f,qual,g,x,y,z,ps,sp,rfl,L,G,q⟩:=q1
 obtain rfl:u=Value.ref f:=r1
 obtain ⟨ga,fd,hm,hk,hb,F⟩:=G
 have hh:=ha pos pins s1 σ H1 _ I1 q
 rw [he] at hh ⊢
 refine PySem.W.callWith_of (P:=fun h=>∃pa bo sc cl pm c' ctv,h.get? f=some (PySem.W.kla_obj "<lambda>" qual pa bo sc cl pm c' ctv)) (by show ((false || (backTo pos (starEach es X.env)).any (·.1)) || false)=false;rw [hpl];rfl) (fun h ⟨pa,bo,sc,cl,pm,c',ctv,eh⟩=>⟨.frame,.inl rfl,(PySem.W.Looks.ld (part:=none) eh).andThen .now⟩) (Calls.evalArgs_plain (thn hh fun us s2 ⟨vs,H2,I2,r,q2⟩=>?_))
 obtain ⟨a,rfl,L2,q3⟩:=q2
 cases r with
 |cons r rn=>
  cases rn
  refine ⟨?_,aR3 L2 hr hm hk hb F I2 r q3⟩
  obtain ⟨pa,bo,sc,cp,c',pm,ctv,oc,ol,u,vs,t,S,h1,_⟩:=L2
  exact ⟨pa,bo,sc,_,pm,c',ctv,(I2.hok f _ h1).1⟩
end
section
variable {X:Cx} {pins:List (Addr × Obj)} {σ:List (Option V)} {H:Hp} {s:Shared}
theorem aL4 {params:Arguments} {body:Expr} {scope:Scope} {pos:Pos} {c P:Addr} {clos:List (Str × Addr)} {Q:Value→Shared→Prop} {E:Value→Shared→Prop}
  (I:Inv X pins σ H s) (hcode:X.env.code=.ref c) (CH:PySem.W.CodeHd X.base c P) (hP:H P=some (.tab (X.env.qual++"<lambda>"))) (hbm:BM X.mg X.base) (hcl:closureFor scope X.env=pure clos) (hdef:defaultsOf params X.env=([],[]))
  (q:∀f c' pm ctv H' h' tk,Inv X pins σ H' { s with heap:=h',toks:=tk }→Same H H'→s.heap.objs.size≤f→H' f=none→H' c'=some (.own P)→H' P=some (.tab (X.env.qual++"<lambda>"))→h'.get? f=some (PySem.W.kla_obj "<lambda>" (X.env.qual++"<lambda>") params body scope clos pm c' ctv)→h'.CodeRec (.ref c') (X.env.qual++"<lambda>")→Q (.ref f) { s with heap:=h',toks:=tk }) :
  wpAny (model X.prog X.w) X.A (eval (.Lambda params body scope pos) X.env) Q E s:=by
 obtain ⟨ps,hp,ht,hcodes⟩:=I.hok P _ hP
 have hg:s.heap.Ns mainGlobals X.mg:=I.mod.glob.keeps I.bk
 obtain ⟨bm,ob,b1,b2,b3,b4,b5,b6⟩:=hbm
 have bG:bm≠mainGlobals:=fun z=>by
  obtain ⟨o,es,ep,e,d,_⟩:=I.mod.glob
  rw [z,e] at b3;cases b3;rw [d] at b6;cases b6
 have bP:bm≠P:=fun z=>by have:=(I.bs bm ob b3).2;rw [z,hP] at this;cases this
 have gP:mainGlobals≠P:=fun z=>by
  obtain ⟨o,es,ep,e,d,_⟩:=I.mod.glob
  have:=(I.bs _ o e).2
  rw [z,hP] at this;cases this
 have hB:s.heap.BuiltinsAt X.mg P:=⟨bm,ob,b1,b2,bG,bP,I.bk _ _ b3,b4,b5,b6⟩
 refine PySem.W.kla_eval hdef ?_
 cases hca:codeAmong pos ps.toList with
 |some cv=>
  obtain ⟨c',oc,vs,t,rfl,a2,a3,a4,a5⟩:=hcodes pos cv hca
  refine PySem.W.kla_makeFunctionHit (mg:=X.mg) hcl I.ok.glob hg hcode (CH.keeps I.bk) hp ht hca hB fun ctv h' tk hk hsz=>?_
  exact q _ c' _ ctv H _ tk (I.kept (t':=tk) fun b o e=>Heap.get?_push_of_some _ (hk b o e)) (fun _ _ e=>e) hsz (I.hok.fresh hsz) a2 hP (Heap.get?_push_size _ rfl) ⟨c',oc,vs,t,rfl,Heap.get?_push_of_some _ (hk _ _ a3),a4,a5⟩
 |none=>
  refine PySem.W.kla_makeFunction (mg:=X.mg) hcl I.ok.glob hg hcode (CH.keeps I.bk) hp ht hca gP hB fun c' ctv h' tk hx hge hlt hrec htb=>?_
  obtain ⟨c2,oc,vs,t,e2,hoc,hd,hv⟩:=hrec
  cases e2
  have nc:H c'=none:=I.hok.fresh hge
  have neP:∀b u,b≠P→H b=some u→∀o,s.heap.get? b=some o→(h'.push (PySem.W.kla_obj "<lambda>" (X.env.qual++"<lambda>") params body scope clos ((X.mg "__name__").getD .none) c' ctv)).get? b=some o:=fun b u hb _ o e=>Heap.get?_push_of_some _ (hx b o hb e)
  have kp:∀b o,b≠P→s.heap.get? b=some o→(h'.push (PySem.W.kla_obj "<lambda>" (X.env.qual++"<lambda>") params body scope clos ((X.mg "__name__").getD .none) c' ctv)).get? b=some o:=fun b o hb e=>Heap.get?_push_of_some _ (hx b o hb e)
  have nPn:∀b,H b=none→b≠P:=fun b e z=>by rw [z,hP] at e;cases e
  have upne:∀{b u},H b=some u→upd H c' (.own P) b=some u:=fun {b u} e=>by rw [aM (aY e nc)];exact e
  refine q _ c' _ ctv (upd H c' (.own P)) _ tk (I.step (g':=s.gens) (d':=s.drawn) (ch:=[]) (fun _ z=>nomatch z) (fun b o _ _ _ e n=>kp b o (nPn b n) e) (fun b o _ _ _ e n=>⟨o.slots,kp b o (nPn b n) e⟩) (fun b o _ e n=>?_) (fun b o _ e=>?_)
   (fun b xs e=>upne e) (fun b o u e=>upne e) (fun b qs e=>⟨#[],by rw [upne e];simp⟩) (fun m hm=>?_) (fun b u e=>?_) I.bare) (fun b o e=>upne e) (Nat.le_of_lt (Nat.lt_of_le_of_lt hge hlt)) (by rw [aM (Nat.ne_of_gt hlt)];exact I.hok.fresh (Nat.le_of_lt (Nat.lt_of_le_of_lt hge hlt))) aK (upne hP) (Heap.get?_push_size _ rfl) ⟨c',oc,vs,t,rfl,Heap.get?_push_of_some _ hoc,hd,hv⟩
  ·rw [aM (Nat.ne_of_lt (Nat.lt_of_lt_of_le (Heap.lt_size e) hge))];exact n
  ·by_cases z:b=P
   ·subst z;exact ⟨_,Heap.get?_push_of_some _ htb⟩
   ·exact ⟨o,kp b o z e⟩
  ·obtain ⟨o,es,ep,e,r⟩:=hm
   exact ⟨o,es,ep,kp _ o (nPn _ I.free) e,r⟩
  ·by_cases z:b=c'
   ·subst z
    rw [aK] at e
    cases e
    exact ⟨oc,Heap.get?_push_of_some _ hoc⟩
   ·rw [aM z] at e
    by_cases y:b=P
    ·subst y
     rw [hP] at e
     cases e
     refine ⟨_,Heap.get?_push_of_some _ htb,by rw [Array.toList_append];exact TriplesOk_snoc _ _ _ _ ht,fun pos' cv' hf=>?_⟩
     rw [Array.toList_append] at hf
     rcases PySem.W.aAi _ ht hf with hf|rfl
     ·obtain ⟨c2,oc2,vs2,t2,rfl,a2,a3,a4,a5⟩:=hcodes pos' cv' hf
      exact ⟨c2,oc2,vs2,t2,rfl,upne a2,kp _ _ (fun z=>by rw [z,hP] at a2;cases a2) a3,a4,a5⟩
     ·exact ⟨c',oc,vs,t,rfl,aK,Heap.get?_push_of_some _ hoc,hd,hv⟩
    ·refine (I.hok b u e).stay (fun d v hd' r=>kp d v ?_ r) (fun d r=>upne r) fun d xs r=>upne r
     rcases hd' with rfl|r'
     ·exact y
     ·intro z;rw [z,hP] at r';cases r'
open Classical in
noncomputable def aAn (S:Addr→Prop) (h:Heap) (H:Hp):Hp:=fun b=>if S b then (h.get? b).map (ExO b) else H b
open Classical in
noncomputable def aB3 (S:Addr→Prop) (H Z:Hp):Hp:=fun b=>if S b then H b else Z b
theorem nF {S:Addr→Prop} {h:Heap} {b:Addr} {o:Obj} (hb:S b) (e:h.get? b=some o):aAn S h H b=some (ExO b o):=by unfold aAn;rw [if_pos hb,e];rfl
theorem cV {S:Addr→Prop} {h:Heap} {b:Addr} (hb:¬ S b):aAn S h H b=H b:=by unfold aAn;rw [if_neg hb]
theorem zV {S:Addr→Prop} {Z:Hp} {b:Addr} (hb:S b):aB3 S H Z b=H b:=by unfold aB3;rw [if_pos hb]
theorem fM {S:Addr→Prop} {Z:Hp} {b:Addr} (hb:¬ S b):aB3 S H Z b=Z b:=by unfold aB3;rw [if_neg hb]
structure zF (X:Cx) (H:Hp) (h:Heap) (S:Addr→Prop):Prop where
 there:∀b,S b→∃o,h.get? b=some o
 own:∀d a o,¬ S a→H a=some o→H d=some (.own a)→¬ S d
 own2:∀d a o,S a→H a=some o→(∃e,o=.own e)∨(H d=some (.own a)→S d)
 tup:∀d xs,H d=some (.tup xs)→¬ S d
 frz:∀d o u,H d=some (.frz o u)→¬ S d
 tbl:∀d ps,H d=some (.tbl ps)→¬ S d
 base:∀b o,X.base.get? b=some o→¬ S b
 frs:∀b∈frs X.stack,¬ S b
theorem zF.hok {S:Addr→Prop} (p:zF X H s.heap S) (I:Inv X pins σ H s):HOk X.prog X.w (aAn S s.heap H) s.heap:=by
 intro b o e
 by_cases hb:S b
 ·obtain ⟨ob,eo⟩:=p.there b hb
  rw [nF hb eo] at e
  cases e
  exact aT9 eo
 ·rw [cV hb] at e
  refine (I.hok b o e).stay (fun _ _ _ q=>q) (fun d q=>?_) fun d xs q=>?_
  ·rw [cV (p.own d b o hb e q)];exact q
  ·rw [cV (p.tup d xs q)];exact q
theorem zF.env0 {S:Addr→Prop} (p:zF X H s.heap S) (I:Inv X pins σ H s):aCq X.prog X.w X.K X.mg X.base X.A X.stack s (aAn S s.heap H):=
 ⟨I.ok.frames,I.ok.mod,fun b o e=>⟨(I.bs b o e).1,by rw [cV (p.base b o e)];exact (I.bs b o e).2⟩,Nat.le_trans I.ok.bsz I.sz,I.stack,fun b hb=>by rw [cV (p.frs b hb)];exact I.uF b hb,p.hok I,I.bare⟩
theorem zF.after {S:Addr→Prop} {Q:VK} {u:Value} {s':Shared} (p:zF X H s.heap S) (I:Inv X pins σ H s) (h:CE X.stack X.prog X.w (aAn S s.heap H) s (fun v Z=>Same (aAn S s.heap H) Z∧∀H4,Same H H4→Q v H4) u s'):EP X pins σ Q u s':=by
 obtain ⟨v,Z,os,bare,un,hok,rel,sm,q⟩:=h
 have ex:∀b o,S b→s.heap.get? b=some o→s'.heap.get? b=some o:=fun b o hb e=>(hok b _ (sm _ _ (nF hb e))).1
 have same:Same H (aB3 S H Z):=fun b o e=>by
  by_cases hb:S b
  ·rw [zV hb];exact e
  ·rw [fM hb];exact sm _ _ (by rw [cV hb];exact e)
 refine I.after (Q:=Q) ⟨v,aB3 S H Z,os,bare,⟨fun b o e n hb hx=>?_,fun b o e n hb hx=>?_,fun b o e n hx=>?_,un.there,fun b xs e=>?_,fun b o u e=>?_,fun b ps e=>?_⟩,fun b o e=>?_,rel,q _ same⟩
 ·by_cases hs:S b
  ·exact ex b o hs e
  ·exact un.keep b o e (by rw [cV hs];exact n) hb hx
 ·exact un.slot b o e (by rw [cV (p.frs b hb)];exact n) hb hx
 ·by_cases hs:S b
  ·rw [zV hs];exact n
  ·rw [fM hs];exact un.free b o e (by rw [cV hs];exact n) hx
 ·rw [fM (p.tup b xs e)];exact un.tups b xs (by rw [cV (p.tup b xs e)];exact e)
 ·rw [fM (p.frz b o u e)];exact un.frzs b o u (by rw [cV (p.frz b o u e)];exact e)
 ·rw [fM (p.tbl b ps e)];exact un.tbls b ps (by rw [cV (p.tbl b ps e)];exact e)
 ·by_cases hs:S b
  ·rw [zV hs] at e
   rcases p.own2 b b o hs e with ⟨x,rfl⟩|_
   ·obtain ⟨ob,eo⟩:=p.there b hs
    exact ⟨ob,ex b ob hs eo⟩
   ·by_cases ho:∃x,o=.own x
    ·obtain ⟨x,rfl⟩:=ho
     obtain ⟨ob,eo⟩:=p.there b hs
     exact ⟨ob,ex b ob hs eo⟩
    ·refine (I.hok b o e).stay (fun c u hc eu=>?_) (fun d q=>same _ _ q) fun d xs q=>same _ _ q
     rcases hc with rfl|hc
     ·exact ex _ _ hs eu
     ·rcases p.own2 c b o hs e with z|z
      ·exact absurd z ho
      ·exact ex _ _ (z hc) eu
  ·rw [fM hs] at e
   refine (hok b o e).stay (fun _ _ _ q=>q) (fun d q=>?_) fun d xs q=>?_
   ·by_cases hd:S d
    ·obtain ⟨ob,eo⟩:=p.there d hd
     rw [sm _ _ (nF hd eo)] at q
     cases q
    ·rw [fM hd];exact q
   ·by_cases hd:S d
    ·obtain ⟨ob,eo⟩:=p.there d hd
     rw [sm _ _ (nF hd eo)] at q
     cases q
    ·rw [fM hd];exact q
end
section
variable {X:Cx}
def aNn (X:Cx) (iy:Nat) (P:Addr) (g x y:Str) (sp:Sp) (t:TA):TE:=fun σ H Q=>t σ H fun vs H1=>∃z,σ[iy]?=some (some z)∧H1 P=some (.tab (X.env.qual++"<lambda>")) ∧
 ∀f H2,uI H2 f (X.env.qual++"<lambda>") g x y z→(∀a xs,SqT X.K H1 a xs→SqT X.K H2 a xs)→sp (vs++[.ref f]) H2 (fun r H3=>Same H2 H3∧∀H4,Same H1 H4→Q r H4) E0
theorem aH8 {fn g x y:Str} {p pos lpos:Pos} {e1 e2 e3:Expr} {te1 te2 te3:TE} {params:Arguments} {body:Expr} {scope:Scope} {iy k:Nat} {c P cp fa:Addr} {fd:FuncData} {ps:List Str} {sp:Sp}
  (F:jD X.prog X.w X.K X.mg X.base CX0 k fa fd ps sp) (hr:Room k X.A) (hgl:Gl X fn) (hm:X.mg fn=some (.ref fa)) (hk:PySem.W.keepIn X.K (.ref fa)=true) (hb:Binds X.K fd ps [])
  (h1:PE X e1 te1) (h2:PE X e2 te2) (h3:PE X e3 te3)
  (hcode:X.env.code=.ref c) (CH:PySem.W.CodeHd X.base c P) (hbm:BM X.mg X.base) (S:aTp (X.env.qual++"<lambda>") g x y params body scope) (hN:X.N[iy]?=some y) (hyc:X.env.kindOf y=some .cell) (hcp:X.env.cells.lookup y=some cp) (hfn:X.fn y=true) (hcl:closureFor scope X.env=pure [(y,cp)]) (hdef:defaultsOf params X.env=([],[]))
  (hdb:(fn == ("__debug__":Str))=false:=by decide)
  (he1:starEach [e1,e2,e3,.Lambda params body scope lpos] X.env=[(false,eval e1 X.env),(false,eval e2 X.env),(false,eval e3 X.env),(false,eval (.Lambda params body scope lpos) X.env)]:=by rfl)
  (he2:starEach [e2,e3,.Lambda params body scope lpos] X.env=[(false,eval e2 X.env),(false,eval e3 X.env),(false,eval (.Lambda params body scope lpos) X.env)]:=by rfl) :
  PE X (.Call (.Name fn p) [e1,e2,e3,.Lambda params body scope lpos] [] pos) (aNn X iy P g x y sp (dJ te1 (dJ te2 (dJ te3 zJ)))):=by
 intro pins s σ H Q I h
 refine wpAny_Call_Name_kw (tG I hgl hm ?_ hdb)
 refine PySem.W.callWith_K (h₀:=X.base) I.ok.mod.kin hk ?_ (by rw [he1,he2]) (by rw [he2];rfl)
 rw [he1]
 refine Calls.spliced_cons (thn (h1 pins s σ H _ I h) fun u1 s1 ⟨v1,H1,I1,r1,q1⟩=>?_)
 refine Calls.spliced_cons (thn (h2 pins s1 σ H1 _ I1 q1) fun u2 s2 ⟨v2,H2,I2,r2,q2⟩=>?_)
 refine Calls.spliced_cons (thn (h3 pins s2 σ H2 _ I2 q2) fun u3 s3 ⟨v3,H3,I3,r3,q3⟩=>?_)
 obtain ⟨z,hz,hP,q⟩:=q3
 refine Calls.spliced_cons (aL4 I3 hcode CH hP hbm hcl hdef fun f c' pm ctv H' h' tk I4 s4 hsz hf hc' hP' ef ecd=>Calls.spliced_nil ⟨I4.kIn,?_⟩)
 generalize hs4:({ s3 with heap:=h',toks:=tk }:Shared)=s4' at I4
 have hh:s4'.heap=h':=by rw [←hs4]
 rw [←hh] at ef ecd
 obtain ⟨m,hn,hl⟩:=I4.loc
 obtain ⟨u,ru,lk⟩:=hl iy y z hN hz (.inr (.inl hyc))
 have hcell:s4'.heap.IsCell cp (some u):=by
  rcases lk with ⟨k',_⟩|⟨_,c2,e,hc⟩
  ·rw [hyc] at k';cases k'
  ·rw [hcp] at e;cases e;exact hc
 obtain ⟨ol,eol,dol⟩:=id hcell
 obtain ⟨c2,oc,vs,t,ec2,eoc,doc,hv⟩:=ecd
 cases ec2
 have hcpn:H' cp=none:=I4.freeC y cp hcp
 obtain ⟨v0,ov,eov,_⟩:=I3.cell y cp hcp
 have ltf:cp<f:=Nat.lt_of_lt_of_le (Heap.lt_size eov) hsz
 have PO:zF X H' s4'.heap (fun b=>b=f∨b=cp∨b=P∨H' b=some (.own P)):=by
  refine ⟨fun b hb=>?_,fun d a o ha eo ed hd=>?_,fun d a o ha eo=>?_,fun d xs e hd=>?_,fun d o u e hd=>?_,fun d ps e hd=>?_,fun b o e hd=>?_,fun b hb hd=>?_⟩
  ·rcases hb with rfl|rfl|rfl|hb
   ·exact ⟨_,ef⟩
   ·exact ⟨_,eol⟩
   ·obtain ⟨ps,e,_⟩:=I4.hok _ _ hP'
    exact ⟨_,e⟩
   ·exact I4.hok _ _ hb
  ·rcases hd with rfl|rfl|rfl|hd
   ·rw [hf] at ed;cases ed
   ·rw [hcpn] at ed;cases ed
   ·rw [hP'] at ed;cases ed
   ·rw [hd] at ed;cases ed;exact ha (.inr (.inr (.inl rfl)))
  ·rcases ha with rfl|rfl|rfl|ha
   ·rw [hf] at eo;cases eo
   ·rw [hcpn] at eo;cases eo
   ·exact .inr fun q=>.inr (.inr (.inr q))
   ·rw [ha] at eo;cases eo;exact .inl ⟨_,rfl⟩
  ·rcases hd with rfl|rfl|rfl|hd
   ·rw [hf] at e;cases e
   ·rw [hcpn] at e;cases e
   ·rw [hP'] at e;cases e
   ·rw [hd] at e;cases e
  ·rcases hd with rfl|rfl|rfl|hd
   ·rw [hf] at e;cases e
   ·rw [hcpn] at e;cases e
   ·rw [hP'] at e;cases e
   ·rw [hd] at e;cases e
  ·rcases hd with rfl|rfl|rfl|hd
   ·rw [hf] at e;cases e
   ·rw [hcpn] at e;cases e
   ·rw [hP'] at e;cases e
   ·rw [hd] at e;cases e
  ·have hbn:=(I4.bs b o e).2
   have hlt:b<X.s₀.heap.objs.size:=Nat.lt_of_lt_of_le (Heap.lt_size e) I.ok.bsz
   rcases hd with rfl|rfl|rfl|hd
   ·exact absurd (Nat.lt_of_lt_of_le hlt (Nat.le_trans I3.sz hsz)) (Nat.lt_irrefl _)
   ·exact absurd (Nat.lt_of_lt_of_le hlt (I.ok.cab y _ hfn hcp)) (Nat.lt_irrefl _)
   ·rw [hP'] at hbn;cases hbn
   ·rw [hd] at hbn;cases hbn
  ·have hbn:=I4.uF b hb
   rcases hd with rfl|rfl|rfl|hd
   ·obtain ⟨_,o,eo,_⟩:=I3.stack.mem hb
    exact absurd (Nat.lt_of_lt_of_le (Heap.lt_size eo) hsz) (Nat.lt_irrefl _)
   ·rcases List.mem_cons.mp (I4.aD7 _ hb) with e|hb'
    ·obtain ⟨o,es,ep,eo,ed,_⟩:=hn
     rw [←e,eol] at eo
     cases eo
     rw [dol] at ed
     cases ed
    ·obtain ⟨_,o,eo,_⟩:=I.ok.funs.mem hb'
     exact absurd (Nat.lt_of_lt_of_le (Heap.lt_size eo) (I.ok.cab y _ hfn hcp)) (Nat.lt_irrefl _)
   ·rw [hP'] at hbn;cases hbn
   ·rw [hd] at hbn;cases hbn
 have LA:uI (aAn (fun b=>b=f∨b=cp∨b=P∨H' b=some (.own P)) s4'.heap H') f (X.env.qual++"<lambda>") g x y z:=
  ⟨params,body,scope,cp,c',pm,ctv,oc,ol,u,vs,t,S,nF (.inl rfl) ef,nF (.inr (.inl rfl)) eol,fun h e=>⟨ol,e,dol⟩,ru,nF (.inr (.inr (.inr hc'))) eoc,doc,hv⟩
 have hq:=q f _ LA fun b xs e=>by
  rcases s4.bB e with (e|⟨ob,e⟩)|e
  ·exact .inl (.inl (by rw [cV (PO.tup b xs e)];exact e))
  ·exact .inl (.inr ⟨ob,by rw [cV (PO.frz b ob _ e)];exact e⟩)
  ·exact .inr e
 have r:Vals [v1,v2,v3,.ref f] [u1,u2,u3,.ref f]:=.cons r1 (.cons r2 (.cons r3 (.cons rfl .nil)))
 have hlen:([u1,u2,u3,Value.ref f]++([]:List Value)).length=ps.length:=by rw [List.append_nil,←r.length];exact F.len _ _ _ _ hq
 refine wpAny_call (codeAny_mono (F.run X.A X.stack s4' (aAn (fun b=>b=f∨b=cp∨b=P∨H' b=some (.own P)) s4'.heap H') ⟨[u1,u2,u3,.ref f],[]⟩ [u1,u2,u3,.ref f] [v1,v2,v3,.ref f] _ E0 hr (PO.env0 I4) (by simpa using hb s4' [u1,u2,u3,.ref f] I4.kIn hlen) r hq) fun rr s' hq'=>?_)
 cases rr with
 |error e=>exact hq'.elim
 |ok fl=>
  cases fl with
  |next=>exact False.elim hq'
  |brk=>exact False.elim hq'
  |cont=>exact False.elim hq'
  |ret uu=>
   obtain ⟨v',Z,os,bare,un,hok,rel,sm,qq⟩:=hq'
   exact PO.after I4 ⟨v',Z,os,bare,un,hok,rel,sm,fun H4 s5=>qq H4 (s4.trans s5)⟩
theorem aK1 {n:Str} {p pos:Pos} {e:Expr} {es:List Expr} {te:TE} {t:TA} {P:Program} {w:World} {K:PySem.W.Frag} {mg:Str→Option Value} {base:Heap} {k:Nat} (hr:Room (k+1) X.A) (hf:VE X (.Name n p) te) (ha:VA X (e::es) t) (hp:cO e=true:=by rfl) (hpl:(backTo pos (starEach es X.env)).any (·.1)=false:=by rfl)
  (h1:X.prog=P:=by rfl) (h2:X.w=w:=by rfl) (h3:X.K=K:=by rfl) (h4:X.mg=mg:=by rfl) (h5:X.base=base:=by rfl) :
  VE X (.Call (.Name n p) (e::es) [] pos) (aQa P w K mg base k te t):=by
 subst h1 h2 h3 h4 h5
 exact ⟨aNp hr hf.1 ha.1 (aN hp) hpl⟩
theorem aHe {fn g x y:Str} {p pos lpos:Pos} {e1 e2 e3:Expr} {te1 te2 te3:TE} {params:Arguments} {body:Expr} {scope:Scope} {iy k:Nat} {c P cp:Addr} {ps:List Str} {sp:Sp}
  (G:Ok X.prog X.w X.K X.mg X.base k fn ps sp) (hr:Room k X.A) (hgl:Gl X fn) (h1:VE X e1 te1) (h2:VE X e2 te2) (h3:VE X e3 te3)
  (hcode:X.env.code=.ref c) (CH:PySem.W.CodeHd X.base c P) (hbm:BM X.mg X.base) (S:aTp (X.env.qual++"<lambda>") g x y params body scope) (hN:X.N[iy]?=some y) (hyc:X.env.kindOf y=some .cell) (hcp:X.env.cells.lookup y=some cp) (hfn:X.fn y=true) (hcl:closureFor scope X.env=pure [(y,cp)]) (hdef:defaultsOf params X.env=([],[]))
  (hp1:cO e1=true:=by rfl) (hp2:cO e2=true:=by rfl) (hp3:cO e3=true:=by rfl) (hdb:(fn == ("__debug__":Str))=false:=by decide)
  (hl:starEach [.Lambda params body scope lpos] X.env=[(false,eval (.Lambda params body scope lpos) X.env)]:=by rfl) :
  VE X (.Call (.Name fn p) [e1,e2,e3,.Lambda params body scope lpos] [] pos) (aNn X iy P g x y sp (dJ te1 (dJ te2 (dJ te3 zJ)))):=by
 obtain ⟨fa,fd,g1,g2,g3,g4⟩:=G
 refine ⟨aH8 g4 hr hgl g1 g2 g3 h1.1 h2.1 h3.1 hcode CH hbm S hN hyc hcp hfn hcl hdef hdb ?_ ?_⟩
 ·rw [aN hp1,aN hp2,aN hp3,hl]
 ·rw [aN hp2,aN hp3,hl]
end
end L2
namespace HT
open PySem PySem.Spec PyProof.Rows L2
section
variable {prog:Program} {w:World} {A:Around} {E:Value→Shared→Prop} {s:Shared}
theorem qJ {t sl:Addr} {items:Array Value} {vl vu:Value} {lo hi:Option Int} {Q:Value→Shared→Prop} (ht:IsTup s.heap t items) (hs:s.heap.IsSliceOf sl vl vu .none) (pl:IsPart vl lo) (pu:IsPart vu hi)
  (hw:sIx items.size 0 lo=0∧sIx items.size items.size hi=items.size) (h:Q (.ref t) s):wpAny (model prog w) A (getItem (.ref t) (.ref sl)) Q E s:=by
 obtain ⟨os,hos,hcs,hds⟩:=id hs
 have hTs:s.TypeIs (.ref sl) "slice":=⟨os,hos,hcs⟩
 obtain ⟨⟨cls,dd,data,slt⟩,ho,hc,n,hd⟩:=id ht
 simp only at hc hd
 subst hc hd
 unfold getItem
 try with_reducible refine wpAny_holding ?_
 first|refine wpAny_bind (wpAny_pure ?_)|skip
 refine wpAny_bind (wpAny_sequenceKey ht.typeIs (by decide) ?_)
 refine wpAny_bind (wpAny_callSpecial?_slot (name:=Str.ofString "__getitem__") ht.typeIs PyProof.Rows.slot_tuple_getitem
  (wpAny_call_entry PyProof.Rows.slot_tuple_getitem ht.typeIs entry_tuple_getitem ?_ (args_tuple_getitem _ _)))
 show wpAny _ _ (Builtin.Tuple.tupleItemsOf (.ref t) >>= _) _ _ s
 refine wpAny_bind (tupleItemsOf_ ht ?_)
 refine wpAny_bind (wpAny_typeOf hTs ?_)
 rw [if_pos (by decide)]
 refine wpAny_bind (lV hs pl pu ?_)
 have hyes:((((sIx items.size 0 lo:Nat):Int) == 0 && (1:Int) == 1 && (sIx items.size items.size hi - sIx items.size 0 lo) == items.size)=true):=by
  rw [hw.1,hw.2]
  simp
 show wpAny _ _ (if (((sIx items.size 0 lo:Nat):Int) == 0 && (1:Int) == 1 && (sIx items.size items.size hi - sIx items.size 0 lo) == items.size)=true then _ else _) _ _ s
 rw [if_pos hyes]
 obtain ⟨hp,g,d,tk,os'⟩:=s
 wp_walk using AutoSeq1.wpAny_loadPart' ho
 exact ⟨_,rfl,wpAny_pure h⟩
end
end HT
namespace L2
open PySem PySem.Spec PyProof.Rows
def aW6 (K:PySem.W.Frag):V→Option Int→Option Int→Hp→VK→Prop:=fun x lo hi H Q=>∃a xs,x=.ref a∧SqT K H a xs∧∀p H',Same H H'→SqT K H' p (uB xs lo hi)→Q (.ref p) H'
theorem aRy {X:Cx}:SlR X (aW6 X.K):=by
 intro pins s σ H x v vl vu lo hi sl Q I rx hs pl pu h
 obtain ⟨a,xs,rfl,hx,q⟩:=h
 by_cases hw:HT.sIx xs.length 0 lo=0∧HT.sIx xs.length xs.length hi=xs.length
 ·cases rx
  obtain ⟨its,r,ht,hz⟩:=I.tuple hx
  have hlen:its.toArray.size=xs.length:=by rw [List.size_toArray];exact r.length.symm
  refine ⟨"tuple",_,PyProof.Rows.slot_tuple_getitem.lookup,ht.typeIs,?_⟩
  refine HT.qJ ht hs pl pu (by rw [hlen];exact hw) ⟨.ref a,H,I,rfl,q a H (Same.refl H) ?_⟩
  have e:uB xs lo hi=xs:=by
   unfold uB
   rw [hw.1,hw.2,List.drop_zero,Nat.sub_zero,List.take_length]
  rw [e]
  exact hx
 ·exact aRj pins s σ H _ v vl vu lo hi sl Q I rx hs pl pu ⟨a,xs,rfl,hx,hw,fun p H' s' g'=>q p H' s' (SqT.of g')⟩
end L2
namespace L2
open PySem PySem.Spec PyProof.Rows
section
variable {X:Cx}
theorem aGo {κ:Type} [DecidableEq κ] {kb:List (κ × Value)} (nd:(kb.map (·.1)).Nodup) {k:κ} {v:Value} (h:(k,v)∈kb):valueAt kb k=some v:=by
 induction kb with
 |nil=>cases h
 |cons x r ih=>
  rw [List.map_cons,List.nodup_cons] at nd
  unfold valueAt
  rw [List.find?_cons]
  rcases List.mem_cons.mp h with e|h
  ·subst e
   rw [decide_eq_true rfl]
   rfl
  ·have ne:¬ x.1=k:=fun z=>nd.1 (by rw [z];exact List.mem_map.mpr ⟨_,h,rfl⟩)
   rw [decide_eq_false ne]
   exact ih nd.2 h
end
inductive PH (P:Program) (w:World):List DictEntry→List (Str × Value)→Prop
 |nil:PH P w [] []
 |cons {e:DictEntry} {kv:Str × Value} {es:List DictEntry} {kvs:List (Str × Value)}:(strKind P w).is kv.1 e.key=true→e.hash=(strKind P w).hash kv.1→e.val=kv.2→PH P w es kvs→PH P w (e::es) (kv::kvs)
end L2
namespace PySem
theorem xY:typeLookup (.type "list") "keys"=pure none:=am_miss_of_fast (by decide +kernel)
section
variable {prog:Program} {w:World} {A:Around} {E:Value→Shared→Prop} {s:Shared}
end
end PySem
namespace PySem
theorem fZ:entryFor table "dict.update.loop"=some Builtin.«dict.update.loop»:=entryFor_of_tree (by kernel_rfl)
theorem cP:plainId "dict.update.loop"=true:=by decide +kernel
section
variable {prog:Program} {w:World} {κ:Type} [DecidableEq κ] {knd:KeyKind prog w κ}
def rE (knd:KeyKind prog w κ) (h:Heap) (v:Value) (kv:κ × Value):Prop:=∃p key,v=.ref p∧PyProof.Rows.IsTup h p #[key,kv.2]∧knd.is kv.1 key=true
theorem rE.at {h h':Heap} {v:Value} {kv:κ × Value} (x:rE knd h v kv) (k:∀p,v=.ref p→∀o,h.get? p=some o→h'.get? p=some o):rE knd h' v kv:=by
 obtain ⟨p,key,rfl,⟨o,ho,r⟩,hk⟩:=x
 exact ⟨p,key,rfl,⟨o,k p rfl o ho,r⟩,hk⟩
theorem wO {A:Around} {R:Result→Shared→Prop} {I:Addr} {fp wr:List Addr} {n:Nat} {P:Nat→Value→Prop} {St:Nat→Heap→Prop} (W:Walks prog w A.in1 I fp wr n P St) (D:Addr) (hD:D∉fp)
  (kvs:List (κ × Value)) (hlen:kvs.length=n) (hb:n≤1000) (hP:∀i v,P i v→∀p,v=.ref p→p∉D::wr) :
  ∀(k i:Nat) (s:Shared) (t:Tok),i+k=n→St i s.heap→s.heap.DictOf knd D (merged [] (kvs.take i))→(∀j v kv,P j v→kvs[j]?=some kv→rE knd s.heap v kv) →
   (∀h' tk,(∀b o,b∉D::wr→s.heap.get? b=some o→h'.get? b=some o)→h'.DictOf knd D (merged [] kvs)→R (.ok (.ret .none)) { s with heap:=h',toks:=tk }) →
   codeAny (model prog w) A (.builtin "dict.update.loop" ⟨[.ref D,.ref I,.int (i:Nat) t,.none],[]⟩) R s:=by
 have hDw:D∉wr:=fun q=>hD (W.sub _ q)
 intro k
 induction k with
 |zero=>
  intro i s t hi st hd hp q
  obtain rfl:i=n:=by lia
  refine codeAny_builtin fZ ?_
  rw [Around.under_plainId cP _]
  show wpAny _ A.in1 (pyNext (.ref I) >>= _) _ _ _
  refine wpAny_bind (W.done s _ _ st fun h' tk kp=>?_)
  show wpAny _ _ (Builtin.Dict.addKeywords D [] >>= _) _ _ _
  refine wpAny_bind (wpAny_pure (wpAny_pure (q h' tk (fun b o nb e=>kp b o (fun z=>nb (List.mem_cons_of_mem _ z)) e) ?_)))
  rw [List.take_of_length_le (Nat.le_of_eq hlen)] at hd
  exact hd.at fun o e=>kp D o hDw e
 |succ k ih=>
  intro i s t hi st hd hp q
  refine codeAny_builtin fZ ?_
  rw [Around.under_plainId cP _]
  show wpAny _ A.in1 (pyNext (.ref I) >>= _) _ _ _
  refine wpAny_bind (W.item i s _ _ (by lia) st fun v h1 tk1 hv st1 kp1=>?_)
  have hlt:i<kvs.length:=by lia
  have hkv:=List.getElem?_eq_getElem hlt
  have hd1:h1.DictOf knd D (merged [] (kvs.take i)):=hd.at fun o e=>kp1 D o hDw e
  have hp1:∀j v kv,P j v→kvs[j]?=some kv→rE knd h1 v kv:=fun j v kv pj e=>(hp j v kv pj e).at fun p ev o eo=>kp1 p o (fun z=>hP j v pj p ev (List.mem_cons_of_mem _ z)) eo
  obtain ⟨p,key,rfl,⟨⟨oc,od,ox,osl⟩,ho,hc,m,hx⟩,hk⟩:=hp1 i v _ hv hkv
  simp only at hc hx
  subst hc hx
  have hml:(merged [] (kvs.take i)).length≤i:=by
   have:=merged_length_le [] (kvs.take i)
   rw [List.length_take] at this
   simp only [List.length_nil] at this
   lia
  obtain ⟨hp0,g,d,tk,os⟩:=s
  have hT:(⟨h1,g,d,tk1,os⟩:Shared).TypeIs (.ref p) "tuple":=⟨_,ho,rfl⟩
  have hpi:∀(Q:List Value→Shared→Prop) (E:Value→Shared→Prop),Q [key,kvs[i].2] ⟨h1,g,d,tk1,os⟩→wpAny (model prog w) A.in1 (Builtin.Dict.pairItems (.ref p)) Q E ⟨h1,g,d,tk1,os⟩:=by
   intro Q E h
   unfold Builtin.Dict.pairItems
   wp_walk
   exact h
  show wpAny _ A.in1 (holding [.ref p] _ >>= _) _ _ ⟨h1,g,d,tk1,os⟩
  refine wpAny_bind (wpAny_holding (wpAny_bind (wpAny_tryCatch (hpi _ _ ?_))))
  show wpAny _ A.in1 (holding [key,kvs[i].2] (dictSet D key kvs[i].2)) _ _ ⟨h1,g,d,tk1,os⟩
  refine wpAny_holding (wpAny_dictSet_pairs (s:=⟨h1,g,d,tk1,os⟩) hk hd1 (fun h2 hd2 sb2=>?_) (Nat.le_trans hml (Nat.le_trans (by lia) (show 1000≤sizeLine by decide))))
  have e1:merged [] (kvs.take (i+1))=stored (merged [] (kvs.take i)) kvs[i].1 kvs[i].2:=merged_take_succ [] kvs i _ hkv
  rw [←e1] at hd2
  refine wpAny_pure ⟨plainId_quiet cP _,?_⟩
  have kp2:∀b o,b∉D::wr→hp0.get? b=some o→h2.get? b=some o:=fun b o nb e=>by
   rw [sb2.2 b (fun z=>nb (by rw [z];exact List.mem_cons_self))]
   exact kp1 b o (fun z=>nb (List.mem_cons_of_mem _ z)) e
  refine ih (i+1) _ _ (by lia) (W.frame _ _ _ st1 fun b hb o e=>?_) hd2 (fun j v kv pj e=>(hp1 j v kv pj e).at fun p' ev o eo=>?_) fun h' tk' kp hd'=>q h' tk' (fun b o nb e=>kp b o nb (kp2 b o nb e)) hd'
  ·rw [sb2.2 b (fun z=>hD (by rw [←z];exact hb))]
   exact e
  ·rw [sb2.2 p' (fun z=>hP j v pj p' ev (by rw [z];exact List.mem_cons_self))]
   exact eo
end
end PySem
namespace PySem
section
variable {prog:Program} {w:World} {κ:Type} [DecidableEq κ] {knd:KeyKind prog w κ} {A:Around} {E:Value→Shared→Prop} {s:Shared}
end
end PySem
namespace PySem
open PySem.Calls PyProof.Rows
section
variable {prog:Program} {w:World} {κ:Type} [DecidableEq κ] {knd:PySem.KeyKind prog w κ} {A:Around} {E:Value→Shared→Prop} {s:Shared}
end
end PySem
namespace L2
open PySem PySem.Spec PyProof.Rows
section
variable {X:Cx}
abbrev oY (K:PySem.W.Frag) (H:Hp):List V→List (Key × V)→Prop:=Paired fun u kv=>∃p,u=.ref p∧SqT K H p [kV kv.1,kv.2]
theorem aTb {pins:List (Addr × Obj)} {σ:L2.St} {H:Hp} {s:Shared} (I:Inv X pins σ H s) {us:List V} {kvs:List (Key × V)} (h:oY X.K H us kvs):∀{its:List Value},Vals us its →
  ∃vs:List (Key × Value),KV kvs vs∧vs.length=its.length∧∀(j:Nat) (v:Value) (kv:Key × Value),its[j]?=some v→vs[j]?=some kv→rE (bC X.prog X.w) s.heap v kv:=by
 induction h with
 |nil=>
  intro its hv
  cases hv
  exact ⟨[],.nil,rfl,fun j v kv e _=>by simp at e⟩
 |@cons u kv us kvs r t ih=>
  intro its hv
  cases hv with
  |cons q z=>
   obtain ⟨p,rfl,hp⟩:=r
   cases q
   obtain ⟨ks,rv,pl,hz⟩:=I.tuple hp
   obtain ⟨vs,h1,h2,h3⟩:=ih z
   obtain ⟨key,val,rfl,rk,rx⟩:=vals2 rv
   refine ⟨(kv.1,val)::vs,.cons ⟨rfl,rx⟩ h1,by rw [List.length_cons,List.length_cons,h2],fun j v kv' e e'=>?_⟩
   cases j with
   |zero=>
    cases e
    cases e'
    exact ⟨p,key,rfl,pl,aBe rk⟩
   |succ j=>exact h3 j v kv' (by simpa using e) (by simpa using e')
theorem mX:∀(kvs acc:List (Key × V)),((acc++kvs).map (·.1)).Nodup→oH acc kvs=acc++kvs
 |[],acc,_=>by simp [oH]
 |kv::r,acc,h=>by
  have hn:lY acc kv.1=none:=by
   cases e:lY acc kv.1 with
   |none=>rfl
   |some v=>
    exfalso
    have:=aRt e
    rw [List.map_append,List.nodup_append] at h
    exact h.2.2 _ this _ (by rw [List.map_cons];exact List.mem_cons_self ..) rfl
  show oH (putK acc kv.1 kv.2) r=_
  rw [tZ _ hn,mX r _ (by rw [List.append_assoc];exact h),List.append_assoc]
  rfl
end
section
variable {X:Cx} {e st:Expr} {te ts:TE} {pos p2:Pos}
end
section
variable {X:Cx} {o i value:Expr} {td ty tv:TE} {pos pos':Pos}
theorem aKr (hu:X.A.units+1<cLine) (ho:VE X o td) (hi:VE X i ty) (hv:VE X value tv) (hs:swapsWith value (some (.Subscript o i pos')) pos.line X.env=pure false:=by rfl):VS X (.Assign [.Subscript o i pos'] value pos) (aSx td ty tv):=⟨aQf hu ho.1 hi.1 hv.1 hs⟩
end
theorem aOf {X:Cx} {pos:Pos} {o i:Expr} {to ti:TE} {t:aQy} (ho:VE X o to) (hi:VE X i ti) (hs:aU7 X t)
  (ha:∀v,assign (.Subscript o i pos) X.env v=(do
   let ov ←holding [v] (eval o X.env)
   let iv ←holding [v,ov] (eval i X.env)
   standAt pos
   holding [v,ov,iv] (setItem ov iv v)
   release [v,ov,iv] []):=by intro _;rfl):VG X (.Subscript o i pos) (aV9 to ti t):=⟨aTz ho.1 hi.1 hs ha⟩
theorem aEg {X:Cx}:MtR X "list.reverse" aFa:=aG8
end L2
namespace PySem
abbrev oF (t:Addr) (i:Nat):Obj:={ cls:=.type "list_iterator",data:=.fields #[.ref t,.int (i:Int) 0] }
section
variable {prog:Program} {w:World} {A:Around} {E:Value→Shared→Prop} {s:Shared}
theorem rK {it t:Addr} {i:Nat} {its:Array Value} {x:Value} {Q:Value→Shared→Prop} (ho:s.heap.get? it=some (oF t i)) (ht:s.heap.IsList t its) (hx:its[i]?=some x)
  (q:∀h',h'.get? it=some (oF t (i+1))→Heap.SameBut it s.heap h'→Q x { s with heap:=h' }):wpAny (model prog w) A (Builtin.SmallTypes.nextOf (.ref it)) Q E s:=by
 have hT:s.TypeIs (.ref it) "list_iterator":=⟨_,ho,rfl⟩
 obtain ⟨ol,hol,_,nl,hdl⟩:=ht
 unfold Builtin.SmallTypes.nextOf
 refine wpAny_bind (wpAny_callSpecial?_slot (name:=Str.ofString "__next__") hT slot_listiter_next (wpAny_call_entry slot_listiter_next hT entry_listiter_next ?_ (args_listiter_next _)))
 refine wpAny_bind (m:=field (.ref it) 0) (wpAny_field ho rfl (x:=.ref t) rfl ?_)
 refine (if_neg (show ¬ ((Value.ref t == Value.none)=true) from Bool.false_ne_true)).symm ▸ ?_
 refine wpAny_bind (m:=field (.ref it) 1) (wpAny_field ho rfl (x:=.int i 0) rfl ?_)
 refine wpAny_bind (m:=seqItems? (.ref t)) (wpAny_seqItems hol hdl ?_)
 simp only [Int.toNat_natCast,hx]
 refine wpAny_bind (wpAny_setField ho rfl (by simp) (wpAny_pure ⟨x,rfl,wpAny_pure (q _ ?_ (Heap.SameBut.update ..))⟩))
 exact Heap.get?_update_self _ ho rfl
end
section
variable {prog:Program} {w:World} {κ:Type} [DecidableEq κ] {knd:KeyKind prog w κ}
end
end PySem
namespace PySem
section
variable {prog:Program} {w:World} {A:Around} {E:Value→Shared→Prop} {s:Shared}
end
section
variable {prog:Program} {w:World} {κ:Type} [DecidableEq κ] {knd:KeyKind prog w κ} {A:Around} {E:Value→Shared→Prop} {s:Shared}
end
end PySem
namespace L2
open PySem PySem.Spec PyProof.Rows
section
variable {X:Cx} {a b:Expr} {ta:TA} {pos p pos2 p2:Pos}
end
end L2
namespace PySem
section
variable {prog:Program} {w:World} {A:Around} {E:Value→Shared→Prop} {s:Shared}
theorem pK {it t:Addr} {i:Nat} {its:Array Value} {Q:Value→Shared→Prop} (hh:A.handled=none) (ho:s.heap.get? it=some (oF t i)) (ht:s.heap.IsList t its) (hx:its[i]?=none)
  (q:∀h' e,Heap.ExtBut it s.heap h'→(∃o,h'.get? e=some o∧o.cls=.type "StopIteration")→E (.ref e) { s with heap:=h' }):wpAny (model prog w) A (Builtin.SmallTypes.nextOf (.ref it)) Q E s:=by
 have hT:s.TypeIs (.ref it) "list_iterator":=⟨_,ho,rfl⟩
 obtain ⟨ol,hol,_,nl,hdl⟩:=ht
 unfold Builtin.SmallTypes.nextOf
 refine wpAny_bind (wpAny_callSpecial?_slot (name:=Str.ofString "__next__") hT slot_listiter_next (wpAny_call_entry slot_listiter_next hT entry_listiter_next ?_ (args_listiter_next _)))
 refine wpAny_bind (m:=field (.ref it) 0) (wpAny_field ho rfl (x:=.ref t) rfl ?_)
 refine (if_neg (show ¬ ((Value.ref t == Value.none)=true) from Bool.false_ne_true)).symm ▸ ?_
 refine wpAny_bind (m:=field (.ref it) 1) (wpAny_field ho rfl (x:=.int i 0) rfl ?_)
 refine wpAny_bind (m:=seqItems? (.ref t)) (wpAny_seqItems hol hdl ?_)
 simp only [Int.toNat_natCast,hx]
 refine wpAny_bind (wpAny_rule (wpAny_bind (wpAny_setField ho rfl (by simp) ?_)))
 unfold Builtin.SmallTypes.stopIteration
 refine wpAny_bind ?_
 simp only [newExc,newTuple]
 refine wpAny_bind (wpAny_newObj_type ?_ (by size_fits))
 refine wpAny_bind (m:=firstArgMember _ _) (wpAny_of_eq (a:=Value.none) (by first|rfl|(simp only [firstArgMember];rfl)) ?_)
 refine wpAny_newObj_type ?_ (by size_fits)
 simp only [raiseNew]
 refine wpAny_bind (wpAny_handled ?_)
 first|rw [show A.in1.handled=none from hh]|rw [hh]
 refine wpAny_bind (wpAny_pure (wpAny_throw ?_))
 exact q _ _ (((Heap.SameBut.update ..).extBut.push _).push _) ⟨_,Heap.get?_push_size _ rfl,rfl⟩
theorem aJe {z TI TO i1 i2 t u:Addr} {k:Nat} {xs ys:Array Value} {x y a b:Value} {Q:Option Value→Shared→Prop} (D:mF z TI TO i1 i2)
  (hz:s.heap.get? z=some (fV .none TI TO)) (hTI:s.heap.get? TI=some (dG (.ref i1) (.ref i2))) (hTO:s.heap.get? TO=some (dG a b))
  (g1:s.heap.get? i1=some (oF t k)) (g2:s.heap.get? i2=some (oF u k)) (ht:s.heap.IsList t xs) (hu:s.heap.IsList u ys) (hx:xs[k]?=some x) (hy:ys[k]?=some y)
  (t1:t≠z) (t2:t≠TO) (t3:t≠i1) (t4:t≠i2) (u1:u≠z) (u2:u≠TO) (u3:u≠i1) (u4:u≠i2)
  (q:∀h',h'.get? z=some (fV (rawInt s.heap.objs.size) TI TO)→h'.get? TO=some (dG x y)→h'.get? i1=some (oF t (k+1))→h'.get? i2=some (oF u (k+1))→h'.get? s.heap.objs.size=some (dG x y) →
   (∀c o,c≠z→c≠TO→c≠i1→c≠i2→s.heap.get? c=some o→h'.get? c=some o)→Q (some (.ref s.heap.objs.size)) { s with heap:=h' }) :
  wpAny (model prog w) A (pyNext (.ref z)) Q E s:=by
 have hT:s.TypeIs (.ref z) "zip":=⟨_,hz,rfl⟩
 unfold pyNext
 refine wpAny_bind (wpAny_attempt (wpAny_callSpecial?_slot (name:=Str.ofString "__next__") hT F.slot_zip_next (wpAny_call_entry F.slot_zip_next hT F.entry_zip_next ?_ (F.args_zip_next_1 _))))
 refine wpAny_bind (m:=field (.ref z) 2) (wpAny_field hz rfl (x:=.bool false) rfl ?_)
 refine wpAny_bind (m:=field (.ref z) 3) (wpAny_field hz rfl (x:=.ref TI) rfl (wpAny_bind (wpAny_seqItems hTI rfl ?_)))
 refine wpAny_bind (m:=Builtin.SmallTypes.ownedTupleIsFree (.ref z)) ?_
 unfold Builtin.SmallTypes.ownedTupleIsFree
 refine wpAny_bind (wpAny_field hz rfl (x:=.none) rfl (wpAny_pure ?_))
 simp only [if_true]
 refine wpAny_bind (wpAny_rule (wpAny_bind (wpAny_field hz rfl (x:=.ref TO) rfl (wpAny_bind (wpAny_setField_rec hz (by simp) fun h1 z1 s1=>?_)))))
 replace z1:h1.get? z=some (fV .ellipsis TI TO):=z1
 refine wpAny_bind ?_
 simp only [List.zipIdx_cons,List.zipIdx_nil,List.forIn_cons,List.forIn_nil]
 refine wpAny_bind (wpAny_bind (wpAny_onRaise ?_))
 refine wpAny_bind (m:=Builtin.SmallTypes.nextOf (.ref i1)) (rK (s:={ s with heap:=h1 }) (s1.extBut _ _ D.h3 g1) (ht.extBut s1.extBut t1) hx fun h2 g12 s2=>wpAny_pure ?_)
 have TO2:h2.get? TO=some (dG a b):=s2.extBut _ _ D.h8 (s1.extBut _ _ D.h2 hTO)
 refine wpAny_bind (wpAny_seqItems TO2 rfl (wpAny_bind (sY (s:={ s with heap:=h2 }) TO2 fun h3 TO3 s3=>wpAny_bind (wpAny_letGo (wpAny_pure ?_)))))
 replace TO3:h3.get? TO=some (dG x b):=TO3
 refine wpAny_bind (wpAny_bind (wpAny_onRaise ?_))
 refine wpAny_bind (m:=Builtin.SmallTypes.nextOf (.ref i2)) (rK (s:={ s with heap:=h3 }) (s3.extBut _ _ D.h9.symm (s2.extBut _ _ D.h10.symm (s1.extBut _ _ D.h4 g2))) (((hu.extBut s1.extBut u1).extBut s2.extBut u3).extBut s3.extBut u2) hy fun h4 g24 s4=>wpAny_pure ?_)
 have TO4:h4.get? TO=some (dG x b):=s4.extBut _ _ D.h9 TO3
 refine wpAny_bind (wpAny_seqItems TO4 rfl (wpAny_bind (sY (s:={ s with heap:=h4 }) TO4 fun h5 TO5 s5=>wpAny_bind (wpAny_letGo (wpAny_pure (wpAny_pure ?_))))))
 replace TO5:h5.get? TO=some (dG x y):=TO5
 refine wpAny_bind (wpAny_seqItems TO5 rfl (wpAny_bind (wpAny_newTuple ?_)))
 have hsz:h5.objs.size=s.heap.objs.size:=by rw [s5.1,s4.1,s3.1,s2.1,s1.1]
 have z5:h5.get? z=some (fV .ellipsis TI TO):=s5.extBut _ _ D.h2.symm (s4.extBut _ _ D.h4.symm (s3.extBut _ _ D.h2.symm (s2.extBut _ _ D.h3.symm z1)))
 have kp:∀c o,c≠z→c≠TO→c≠i1→c≠i2→s.heap.get? c=some o→h5.get? c=some o:=fun c o c1 c2 c3 c4 e=>s5.extBut _ _ c2 (s4.extBut _ _ c4 (s3.extBut _ _ c2 (s2.extBut _ _ c3 (s1.extBut _ _ c1 e))))
 have g15:h5.get? i1=some (oF t (k+1)):=s5.extBut _ _ D.h8.symm (s4.extBut _ _ D.h10 (s3.extBut _ _ D.h8.symm g12))
 have g25:h5.get? i2=some (oF u (k+1)):=s5.extBut _ _ D.h9.symm g24
 refine wpAny_bind (m:=Builtin.SmallTypes.ownedTupleHandOut (.ref z) (.ref h5.objs.size)) ?_
 unfold Builtin.SmallTypes.ownedTupleHandOut
 have z6:(h5.push (dG x y)).get? z=some (fV .ellipsis TI TO):=Heap.get?_push_of_some _ z5
 refine wpAny_bind (wpAny_setField_rec z6 (by simp) fun h7 z7 s7=>?_)
 replace z7:h7.get? z=some (fV (rawInt h5.objs.size) TI TO):=z7
 refine wpAny_setField_rec z7 (by simp) fun h8 z8 s8=>?_
 replace z8:h8.get? z=some (fV (rawInt h5.objs.size) TI TO):=z8
 have up:∀c o,c≠z→h5.get? c=some o→h8.get? c=some o:=fun c o c1 e=>s8.extBut _ _ c1 (s7.extBut _ _ c1 (Heap.get?_push_of_some _ e))
 have nz:h5.objs.size≠z:=Nat.ne_of_gt (Heap.lt_size z5)
 have T8:h8.get? h5.objs.size=some (dG x y):=s8.extBut _ _ nz (s7.extBut _ _ nz (Heap.get?_push_size _ rfl))
 rw [hsz] at z8 T8
 refine wpAny_pure ⟨_,rfl,wpAny_pure ?_⟩
 show Q (some (.ref h5.objs.size)) _
 rw [hsz]
 exact q h8 z8 (up _ _ D.h2 TO5) (up _ _ D.h3 g15) (up _ _ D.h4 g25) T8 fun c o c1 c2 c3 c4 e=>up c o c1 (kp c o c1 c2 c3 c4 e)
theorem aLd {z TI TO i1 i2 t u:Addr} {k:Nat} {xs ys:Array Value} {x a b:Value} {Q:Option Value→Shared→Prop} (hh:A.handled=none) (D:mF z TI TO i1 i2)
  (hz:s.heap.get? z=some (fV .none TI TO)) (hTI:s.heap.get? TI=some (dG (.ref i1) (.ref i2))) (hTO:s.heap.get? TO=some (dG a b))
  (g1:s.heap.get? i1=some (oF t k)) (g2:s.heap.get? i2=some (oF u k)) (ht:s.heap.IsList t xs) (hu:s.heap.IsList u ys) (hx:xs[k]?=some x) (hy:ys[k]?=none) (t1:t≠z) (u1:u≠z) (u2:u≠TO) (u3:u≠i1)
  (q:∀h',(∀c o,c≠z→c≠TO→c≠i1→c≠i2→s.heap.get? c=some o→h'.get? c=some o)→Q none { s with heap:=h' }) :
  wpAny (model prog w) A (pyNext (.ref z)) Q E s:=by
 have hT:s.TypeIs (.ref z) "zip":=⟨_,hz,rfl⟩
 unfold pyNext
 refine wpAny_bind (wpAny_attempt (wpAny_callSpecial?_slot (name:=Str.ofString "__next__") hT F.slot_zip_next (wpAny_call_entry F.slot_zip_next hT F.entry_zip_next ?_ (F.args_zip_next_1 _))))
 refine wpAny_bind (m:=field (.ref z) 2) (wpAny_field hz rfl (x:=.bool false) rfl ?_)
 refine wpAny_bind (m:=field (.ref z) 3) (wpAny_field hz rfl (x:=.ref TI) rfl (wpAny_bind (wpAny_seqItems hTI rfl ?_)))
 refine wpAny_bind (m:=Builtin.SmallTypes.ownedTupleIsFree (.ref z)) ?_
 unfold Builtin.SmallTypes.ownedTupleIsFree
 refine wpAny_bind (wpAny_field hz rfl (x:=.none) rfl (wpAny_pure ?_))
 simp only [if_true]
 refine wpAny_bind (wpAny_rule (wpAny_bind (wpAny_field hz rfl (x:=.ref TO) rfl (wpAny_bind (wpAny_setField_rec hz (by simp) fun h1 z1 s1=>?_)))))
 replace z1:h1.get? z=some (fV .ellipsis TI TO):=z1
 refine wpAny_bind ?_
 simp only [List.zipIdx_cons,List.zipIdx_nil,List.forIn_cons,List.forIn_nil]
 refine wpAny_bind (wpAny_bind (wpAny_onRaise ?_))
 refine wpAny_bind (m:=Builtin.SmallTypes.nextOf (.ref i1)) (rK (s:={ s with heap:=h1 }) (s1.extBut _ _ D.h3 g1) (ht.extBut s1.extBut t1) hx fun h2 g12 s2=>wpAny_pure ?_)
 have TO2:h2.get? TO=some (dG a b):=s2.extBut _ _ D.h8 (s1.extBut _ _ D.h2 hTO)
 refine wpAny_bind (wpAny_seqItems TO2 rfl (wpAny_bind (sY (s:={ s with heap:=h2 }) TO2 fun h3 TO3 s3=>wpAny_bind (wpAny_letGo (wpAny_pure ?_)))))
 replace TO3:h3.get? TO=some (dG x b):=TO3
 refine wpAny_bind (wpAny_bind (wpAny_onRaise ?_))
 refine wpAny_bind (m:=Builtin.SmallTypes.nextOf (.ref i2)) (pK (s:={ s with heap:=h3 }) hh (s3.extBut _ _ D.h9.symm (s2.extBut _ _ D.h10.symm (s1.extBut _ _ D.h4 g2))) (((hu.extBut s1.extBut u1).extBut s2.extBut u3).extBut s3.extBut u2) hy fun h4 e s4 he=>?_)
 obtain ⟨oe,hoe,hce⟩:=he
 have z4:h4.get? z=some (fV .ellipsis TI TO):=s4 _ _ D.h4.symm (s3.extBut _ _ D.h2.symm (s2.extBut _ _ D.h3.symm z1))
 have hez:e≠z:=fun x=>by subst x;rw [z4] at hoe;cases hoe;simp at hce
 refine wpAny_setField_rec z4 (by simp) fun h5 _ s5=>?_
 refine wpAny_bind (wpAny_isInstance (T:="StopIteration") (b:=true) ⟨oe,s5.extBut _ _ hez hoe,hce⟩ isSubtype_stop ?_)
 exact wpAny_pure (q _ fun c o c1 c2 c3 c4 x=>s5.extBut _ _ c1 (s4 _ _ c4 (s3.extBut _ _ c2 (s2.extBut _ _ c3 (s1.extBut _ _ c1 x)))))
theorem aIl {z TI TO i1 i2 t:Addr} {k:Nat} {xs:Array Value} {a b:Value} {Q:Option Value→Shared→Prop} (hh:A.handled=none) (D:mF z TI TO i1 i2)
  (hz:s.heap.get? z=some (fV .none TI TO)) (hTI:s.heap.get? TI=some (dG (.ref i1) (.ref i2))) (hTO:s.heap.get? TO=some (dG a b))
  (g1:s.heap.get? i1=some (oF t k)) (ht:s.heap.IsList t xs) (hx:xs[k]?=none) (t1:t≠z)
  (q:∀h',(∀c o,c≠z→c≠TO→c≠i1→c≠i2→s.heap.get? c=some o→h'.get? c=some o)→Q none { s with heap:=h' }) :
  wpAny (model prog w) A (pyNext (.ref z)) Q E s:=by
 have hT:s.TypeIs (.ref z) "zip":=⟨_,hz,rfl⟩
 unfold pyNext
 refine wpAny_bind (wpAny_attempt (wpAny_callSpecial?_slot (name:=Str.ofString "__next__") hT F.slot_zip_next (wpAny_call_entry F.slot_zip_next hT F.entry_zip_next ?_ (F.args_zip_next_1 _))))
 refine wpAny_bind (m:=field (.ref z) 2) (wpAny_field hz rfl (x:=.bool false) rfl ?_)
 refine wpAny_bind (m:=field (.ref z) 3) (wpAny_field hz rfl (x:=.ref TI) rfl (wpAny_bind (wpAny_seqItems hTI rfl ?_)))
 refine wpAny_bind (m:=Builtin.SmallTypes.ownedTupleIsFree (.ref z)) ?_
 unfold Builtin.SmallTypes.ownedTupleIsFree
 refine wpAny_bind (wpAny_field hz rfl (x:=.none) rfl (wpAny_pure ?_))
 simp only [if_true]
 refine wpAny_bind (wpAny_rule (wpAny_bind (wpAny_field hz rfl (x:=.ref TO) rfl (wpAny_bind (wpAny_setField_rec hz (by simp) fun h1 z1 s1=>?_)))))
 replace z1:h1.get? z=some (fV .ellipsis TI TO):=z1
 refine wpAny_bind ?_
 simp only [List.zipIdx_cons,List.zipIdx_nil,List.forIn_cons,List.forIn_nil]
 refine wpAny_bind (wpAny_bind (wpAny_onRaise ?_))
 refine wpAny_bind (m:=Builtin.SmallTypes.nextOf (.ref i1)) (pK (s:={ s with heap:=h1 }) hh (s1.extBut _ _ D.h3 g1) (ht.extBut s1.extBut t1) hx fun h2 e s2 he=>?_)
 obtain ⟨oe,hoe,hce⟩:=he
 have z2:h2.get? z=some (fV .ellipsis TI TO):=s2 _ _ D.h3.symm z1
 have hez:e≠z:=fun x=>by subst x;rw [z2] at hoe;cases hoe;simp at hce
 refine wpAny_setField_rec z2 (by simp) fun h3 _ s3=>?_
 refine wpAny_bind (wpAny_isInstance (T:="StopIteration") (b:=true) ⟨oe,s3.extBut _ _ hez hoe,hce⟩ isSubtype_stop ?_)
 exact wpAny_pure (q _ fun c o c1 _ c3 _ x=>s3.extBut _ _ c1 (s2 _ _ c3 (s1.extBut _ _ c1 x)))
abbrev zM1 (h:Heap) (t:Addr):Heap:=h.push (oF t 0)
abbrev zM2 (h:Heap) (t u:Addr):Heap:=(zM1 h t).push (oF u 0)
abbrev zM3 (h:Heap) (t u:Addr):Heap:=(zM2 h t u).push (dG (.ref h.objs.size) (.ref (zM1 h t).objs.size))
abbrev zM4 (h:Heap) (t u:Addr):Heap:=(zM3 h t u).push (dG .none .none)
abbrev zM5 (h:Heap) (t u:Addr):Heap:=(zM4 h t u).push (fV .none (zM2 h t u).objs.size (zM3 h t u).objs.size)
theorem aFt (t u:Addr) (xs ys:Array Value):Meets (Builtin.«zip.__new__» ⟨[.type "zip",.ref t,.ref u],[]⟩)
  (fun _ R s=>s.heap.IsList t xs∧s.heap.IsList u ys∧R (.ok (.ret (.ref (zM4 s.heap t u).objs.size))) { s with heap:=zM5 s.heap t u }):=
 .of_wp fun prog w A R s h=>by
  obtain ⟨hp,g,d,tk,os⟩:=s
  obtain ⟨a1,a2,h⟩:=h
  have hsub:=sub_zip
  have b1:Heap.IsList (Shared.heap ⟨hp,g,d,tk,os⟩) t xs:=a1
  have b2:Heap.IsList (Shared.heap ⟨hp.push { cls:=.type "list_iterator",data:=.fields #[.ref t,.int 0 0] },g,d,tk,os⟩) u ys:=by
   obtain ⟨o,ho,r⟩:=a2
   exact ⟨o,Heap.get?_push_of_some _ ho,r⟩
  wp_walk using wpAny_pyIter_list b1,wpAny_pyIter_list b2
  exact ⟨_,rfl,h⟩
theorem aIw {t u:Addr} {xs ys:Array Value} {Q:Value→Shared→Prop} (ht:s.heap.IsList t xs) (hu:s.heap.IsList u ys) (q:Q (.ref (zM4 s.heap t u).objs.size) { s with heap:=zM5 s.heap t u }) :
  wpAny (model prog w) A (call (.type "zip") [.ref t,.ref u]) Q E s:=by
 refine callType_new F.called_zip (by decide) (F.typeCall_zip_2 _ _) (F.newCall_zip_2 _ _) (fun obj=>F.args_object_init_3 obj _ _) F.entry_zip_new (aFt t u xs ys) ⟨ht,hu,?_⟩
 exact ⟨⟨_,Heap.get?_push_size _ rfl,rfl⟩,q⟩
end
end PySem
namespace L2
open PySem PySem.Spec PyProof.Rows
section
variable {X:Cx} {pins:List (Addr × Obj)} {σ:St} {H:Hp} {s:Shared}
end
def Itw (K:PySem.W.Frag) (t u:Addr) (xs ys:List V):It:=
 ⟨fun i H=>SqL K H t xs∧SqL K H u ys∧i<xs.length∧i<ys.length,fun i H v H'=>∃T a b,H T=none∧v=.ref T∧H'=upd H T (.tup [a,b])∧xs[i]?=some a∧ys[i]?=some b,fun i H=>SqL K H t xs∧SqL K H u ys∧i=ys.length∧ys.length≤xs.length⟩
def wtn (z TI TO i1 i2 t u:Addr) (i:Nat) (h:Heap):Prop:=
 h.get? z=some (fV .none TI TO)∧h.get? TI=some (dG (.ref i1) (.ref i2))∧(∃a b,h.get? TO=some (dG a b))∧h.get? i1=some (oF t i)∧h.get? i2=some (oF u i)
theorem aIv {P:Program} {w:World} {K:PySem.W.Frag} {elts:List Expr} {kt:Nat} {pos:Pos} {z TI TO i1 i2 t u:Addr} {xs ys:List V} (D:mF z TI TO i1 i2) :
  Turn P w K (.Tuple elts kt pos) (Itw K t u xs ys) [z,TI,TO,i1,i2] z (wtn z TI TO i1 i2 t u) where
 mem:=by simp
 obj:=fun i h st b hb=>by
  obtain ⟨e1,e2,⟨a,c,e3⟩,e4,e5⟩:=st
  simp only [List.mem_cons,List.not_mem_nil,or_false] at hb
  rcases hb with rfl|rfl|rfl|rfl|rfl
  ·exact ⟨_,e1,fun v z=>by cases (show Data.fields _=Data.cell v from z)⟩
  ·exact ⟨_,e2,fun v z=>by cases (show Data.seq _ _=Data.cell v from z)⟩
  ·exact ⟨_,e3,fun v z=>by cases (show Data.seq _ _=Data.cell v from z)⟩
  ·exact ⟨_,e4,fun v z=>by cases (show Data.fields _=Data.cell v from z)⟩
  ·exact ⟨_,e5,fun v z=>by cases (show Data.fields _=Data.cell v from z)⟩
 keep:=fun i h h' st k=>by
  obtain ⟨e1,e2,⟨a,c,e3⟩,e4,e5⟩:=st
  exact ⟨k z (by simp) _ e1,k TI (by simp) _ e2,⟨a,c,k TO (by simp) _ e3⟩,k i1 (by simp) _ e4,k i2 (by simp) _ e5⟩
 item:=by
  intro X hP hw hK hc i pins s σ H E I hf st hg
  subst hP hw hK
  obtain ⟨e1,e2,⟨a0,c0,e3⟩,e4,e5⟩:=st
  obtain ⟨ht,hu,l1,l2⟩:=hg
  obtain ⟨its,rv,pt,hz⟩:=I.list ht
  obtain ⟨jts,rw',pu,hz'⟩:=I.list hu
  obtain ⟨x,hx,rx⟩:=rv.get (List.getElem?_eq_getElem l1)
  obtain ⟨y,hy,ry⟩:=rw'.get (List.getElem?_eq_getElem l2)
  have fz:=hf z (by simp)
  have fO:=hf TO (by simp)
  have f1:=hf i1 (by simp)
  have f2:=hf i2 (by simp)
  refine aJe D e1 e2 e3 e4 e5 pt.isList pu.isList (by simpa using hx) (by simpa using hy) (I.gR ht fz) (I.gR ht fO) (I.gR ht f1) (I.gR ht f2)
   (I.gR hu fz) (I.gR hu fO) (I.gR hu f1) (I.gR hu f2) fun h' a1 a2 a3 a4 a5 kp=>?_
  refine ⟨_,rfl,?_⟩
  have fT:H s.heap.objs.size=none:=I.hok.fresh (Nat.le_refl _)
  have I1:Inv X pins σ (upd H s.heap.objs.size (.tup [xs[i],ys[i]])) { s with heap:=h' }:=by
   refine I.drawn (ch:=[z,TO,i1,i2]) (its:=[x,y]) (fun b hb=>?_) (fun b o hb e=>?_) (Nat.le_refl _) (.cons rx (.cons ry .nil)) (small (by simp)) (.of a5 rfl ⟨_,a5,rfl,_,rfl⟩) (fun b hb=>?_)
   ·refine hf b ?_
    simp only [List.mem_cons,List.not_mem_nil,or_false] at hb ⊢
    rcases hb with h|h|h|h <;> simp [h]
   ·simp only [List.mem_cons,List.not_mem_nil,or_false,not_or] at hb
    exact kp b o hb.1 hb.2.1 hb.2.2.1 hb.2.2.2 e
   ·simp only [List.mem_cons,List.not_mem_nil,or_false] at hb
    rcases hb with rfl|rfl|rfl|rfl
    ·exact ⟨_,a1⟩
    ·exact ⟨_,a2⟩
    ·exact ⟨_,a3⟩
    ·exact ⟨_,a4⟩
  have nT:∀b∈[z,TI,TO,i1,i2],b≠s.heap.objs.size:=fun b hb=>by
   have e:∃o,s.heap.get? b=some o:=by
    simp only [List.mem_cons,List.not_mem_nil,or_false] at hb
    rcases hb with rfl|rfl|rfl|rfl|rfl
    ·exact ⟨_,e1⟩
    ·exact ⟨_,e2⟩
    ·exact ⟨_,e3⟩
    ·exact ⟨_,e4⟩
    ·exact ⟨_,e5⟩
   obtain ⟨o,e⟩:=e
   exact Nat.ne_of_lt (Heap.lt_size e)
  refine wpAny_letOwnedTupleGo_zip (s:={ s with heap:=h' }) a1 fun h2 z2 s2=>?_
  obtain ⟨g0,g1,g2,g3,g4,g5⟩:=fz
  have I2:Inv X pins σ (upd H s.heap.objs.size (.tup [xs[i],ys[i]])) { s with heap:=h2 }:=Inv.turned (s:={ s with heap:=h' }) I1 (t':=s.toks) (it:=z) (fun b o hb e=>(s2.2 b hb).trans e) (by rw [aM (nT z (by simp))];exact g0) g1 g3 g4 g5
  refine ⟨.ref s.heap.objs.size,_,I2,rfl,⟨_,_,_,fT,rfl,rfl,List.getElem?_eq_getElem l1,List.getElem?_eq_getElem l2⟩,?_,fun b hb=>by rw [aM (nT b hb)];exact (hf b hb).1⟩
  exact ⟨z2,s2.extBut _ _ D.h1 (kp TI _ D.h1 D.h5 D.h6 D.h7 e2),⟨_,_,s2.extBut _ _ D.h2 a2⟩,s2.extBut _ _ D.h3 a3,s2.extBut _ _ D.h4 a4⟩
 done:=by
  intro X hP hw hK hc i pins s σ H E I hf st hg
  subst hP hw hK
  obtain ⟨e1,e2,⟨a0,c0,e3⟩,e4,e5⟩:=st
  obtain ⟨ht,hu,hl,hle⟩:=hg
  obtain ⟨its,rv,pt,hz⟩:=I.list ht
  obtain ⟨jts,rw',pu,hz'⟩:=I.list hu
  have hlen:=rv.length
  have hlen':=rw'.length
  have fz:=hf z (by simp)
  have fO:=hf TO (by simp)
  have f1:=hf i1 (by simp)
  refine (fun (go:∀h',(∀c o,c≠z→c≠TO→c≠i1→c≠i2→s.heap.get? c=some o→h'.get? c=some o)→_)=>?_:_→_) (fun h' kp=>(⟨rfl,?_⟩:(none:Option Value)=none∧Inv X pins σ H { s with heap:=h' }))
  ·cases hx:its[i]? with
   |none=>exact aIl (I.ok.hd hc) D e1 e2 e3 e4 pt.isList (by simpa using hx) (I.gR ht fz) fun h' kp=>go h' kp
   |some x=>exact aLd (I.ok.hd hc) D e1 e2 e3 e4 e5 pt.isList pu.isList (by simpa using hx) (by simp;lia) (I.gR ht fz) (I.gR hu fz) (I.gR hu fO) (I.gR hu f1) fun h' kp=>go h' kp
  refine Inv.aC7 (ch:=[z,TO,i1,i2]) I (fun b hb=>hf b ?_) fun b o hb e=>?_
  ·simp only [List.mem_cons,List.not_mem_nil,or_false] at hb ⊢
   rcases hb with h|h|h|h <;> simp [h]
  ·simp only [List.mem_cons,List.not_mem_nil,or_false,not_or] at hb
   exact kp b o hb.1 hb.2.1 hb.2.2.1 hb.2.2.2 e
 self:=fun _ _ _ _ _ st h=>wpAny_pyIter_zip st.1 h
section
variable {X:Cx}
def aHk (K:PySem.W.Frag) (ta:TA):TI:=fun σ H R=>ta σ H fun vs H1=>∃t u xs ys,vs=[.ref t,.ref u]∧SqL K H1 t xs∧SqL K H1 u ys∧R (Itw K t u xs ys) H1
theorem aO2 {elts:List Expr} {kt:Nat} {tp:Pos} {a b:Expr} {ta:TA} {p pos:Pos} (hg:Gl X "zip") (hm:X.mg "zip"=none) (ha:PA X [a,b] ta) (hs:starEach [a,b] X.env=(false,eval a X.env)::starEach [b] X.env:=by rfl)
  (hs2:starEach [b] X.env=[(false,eval b X.env)]:=by rfl):PI X (.Tuple elts kt tp) (.Call (.Name "zip" p) [a,b] [] pos) (aHk X.K ta):=by
 intro pins s σ H R I h
 refine Call_ (lH I hg hm aM5 (PyProof.Rows.callWith_type1 (thn (ha pos pins s σ H _ I h) fun us s1 ⟨vs,H1,I1,r1,q1⟩=>?_) hs (by rw [hs2];rfl)))
 obtain ⟨t,u,xs,ys,e,ht,hu,q⟩:=q1
 subst e
 obtain ⟨its,rv,pt,hz⟩:=I1.list ht
 obtain ⟨jts,rw',pu,hz'⟩:=I1.list hu
 cases r1 with
 |cons r rr=>
  cases rr with
  |cons r' rr'=>
   cases rr'
   cases r
   cases r'
   refine aIw pt.isList pu.isList ?_
   have z1:(zM1 s1.heap t).objs.size=s1.heap.objs.size+1:=Heap.size_push ..
   have z2:(zM2 s1.heap t u).objs.size=s1.heap.objs.size+2:=by rw [Heap.size_push,z1]
   have z3:(zM3 s1.heap t u).objs.size=s1.heap.objs.size+3:=by rw [Heap.size_push,z2]
   have z4:(zM4 s1.heap t u).objs.size=s1.heap.objs.size+4:=by rw [Heap.size_push,z3]
   have D:mF (zM4 s1.heap t u).objs.size (zM2 s1.heap t u).objs.size (zM3 s1.heap t u).objs.size s1.heap.objs.size (zM1 s1.heap t).objs.size:=by
    constructor <;> (show (_:Nat)≠(_:Nat);rw [Ne];intro h;simp only [z1,z2,z3,z4] at h;lia)
   have g5:(zM5 s1.heap t u).get? (zM4 s1.heap t u).objs.size=some (fV .none (zM2 s1.heap t u).objs.size (zM3 s1.heap t u).objs.size):=Heap.get?_push_size _ rfl
   have g4:(zM5 s1.heap t u).get? (zM3 s1.heap t u).objs.size=some (dG .none .none):=Heap.get?_push_of_some _ (Heap.get?_push_size _ rfl)
   have g3:(zM5 s1.heap t u).get? (zM2 s1.heap t u).objs.size=some (dG (.ref s1.heap.objs.size) (.ref (zM1 s1.heap t).objs.size)):=Heap.get?_push_of_some _ (Heap.get?_push_of_some _ (Heap.get?_push_size _ rfl))
   have g2:(zM5 s1.heap t u).get? (zM1 s1.heap t).objs.size=some (oF u 0):=Heap.get?_push_of_some _ (Heap.get?_push_of_some _ (Heap.get?_push_of_some _ (Heap.get?_push_size _ rfl)))
   have g1:(zM5 s1.heap t u).get? s1.heap.objs.size=some (oF t 0):=Heap.get?_push_of_some _ (Heap.get?_push_of_some _ (Heap.get?_push_of_some _ (Heap.get?_push_of_some _ (Heap.get?_push_size _ rfl))))
   have I2:Inv X pins σ H1 { s1 with heap:=zM5 s1.heap t u }:=I1.kept (t':=s1.toks) fun b o e=>Heap.get?_push_of_some _ (Heap.get?_push_of_some _ (Heap.get?_push_of_some _ (Heap.get?_push_of_some _ (Heap.get?_push_of_some _ e))))
   refine wpAny_pyIter_zip (s:={ s1 with heap:=zM5 s1.heap t u }) g5 ⟨_,_,_,_,H1,rfl,I2,aIv (xs:=xs) (ys:=ys) D,⟨g5,g3,⟨_,_,g4⟩,g1,g2⟩,fun b hb=>?_,q⟩
   have hb':s1.heap.objs.size≤b:=by
    simp only [List.mem_cons,List.not_mem_nil,or_false] at hb
    rcases hb with rfl|rfl|rfl|rfl|rfl
    ·rw [z4];exact Nat.le_add_right ..
    ·rw [z2];exact Nat.le_add_right ..
    ·rw [z3];exact Nat.le_add_right ..
    ·exact Nat.le_refl _
    ·rw [z1];exact Nat.le_add_right ..
   exact I1.aA1 hb' (I1.hok.fresh hb')
theorem aOx {elts:List Expr} {kt:Nat} {tp:Pos} {a b:Expr} {t:TA} {p pos:Pos} (hg:Gl X "zip") (hm:X.mg "zip"=none) (ha:VA X [a,b] t) (hp:cO a=true:=by rfl) (hp2:cO b=true:=by rfl) :
  VI X (.Tuple elts kt tp) (.Call (.Name "zip" p) [a,b] [] pos) (aHk X.K t):=⟨aO2 hg hm ha.1 (aN hp) (aN (es:=[]) hp2)⟩
end
theorem aE7 {K:PySem.W.Frag} {t u:Addr} {xs ys:List V} {H:Hp} {σ0:L2.St} {te:TE} {Q:VK} (ht:SqL K H t xs) (hu:SqL K H u ys) (hle:ys.length≤xs.length) (h2:Ps2 σ0 σ0) (hsz:ys.length≤1000) (zs:List V) (hzl:zs.length=ys.length)
  (he:∀(i:Nat) (x y z:V),xs[i]?=some x→ys[i]?=some y→zs[i]?=some z→∀H' R,Same H H'→(∀H2,Same H' H2→R z H2)→te ((σ0.set 0 (some x)).set 1 (some y)) H' R)
  (q:∀D H',Same H H'→H' D=some (.lst zs)→Q (.ref D) H'):qU (Itw K t u xs ys) H σ0 (aI9 K 2 (qQ (cJ 0) (qQ (cJ 1) aMf))) jV te Q:=by
 intro D hD
 refine ⟨fun i m σ' H' vs=>m=ys.length - i∧i≤ys.length∧Same H H'∧H' D=some (.lst vs)∧vs=zs.take i∧Ps2 σ0 σ',⟨ys.length,by simp,Nat.zero_le _,aW hD _,aK,rfl,h2⟩,?_⟩
 rintro i m σ' H' vs ⟨rfl,hi,sm,gD,rfl,hps⟩
 refine ⟨gD,?_⟩
 by_cases hlt:i<ys.length
 ·right
  refine ⟨⟨sm.seq ht,sm.seq hu,by lia,hlt⟩,?_⟩
  rintro v H2 ⟨T,a,b,hT,rfl,rfl,ha,hb⟩
  have s2:Same H' (L2.upd H' T (.tup [a,b])):=aW hT _
  refine hg2 (SqT.of aK) hps fun σ2 hps2 hat=>?_
  have hat':σ2=_:=hat
  subst hat'
  dsimp only [jV]
  rw [if_pos rfl]
  have hiz:i<zs.length:=by lia
  refine he i a b zs[i] ha hb (List.getElem?_eq_getElem hiz) _ _ (sm.trans s2) fun H3 s3=>?_
  have gD3:H3 D=some (.lst (zs.take i)):=s3 _ _ (s2 _ _ gD)
  refine ⟨gD3,Nat.lt_of_le_of_lt (show (zs.take i).length≤1000 by rw [List.length_take];lia) (by decide),ys.length - (i+1),by lia,rfl,by lia,eZ hD (sm.trans (s2.trans s3)),aK,?_,hps2⟩
  rw [List.take_add_one,List.getElem?_eq_getElem hiz]
  rfl
 ·left
  have e:i=ys.length:=by lia
  subst e
  rw [List.take_of_length_le (by lia)] at gD
  exact ⟨⟨sm.seq ht,sm.seq hu,rfl,hle⟩,q D H' sm gD⟩
theorem aHw {J:It} {H:Hp} {xs:List V} {σ0:L2.St} {te:TE} {Q:VK} (go:∀H' i x,Same H H'→xs[i]?=some x→J.go i H'∧∀y H2,J.yld i H' y H2→H2=H'∧y=x) (stop:∀H',Same H H'→J.stop xs.length H') (h1:Ps1 σ0 σ0) (hsz:xs.length≤1000)
  (zs:List V) (hzl:zs.length=xs.length) (he:∀(i:Nat) (x z:V),xs[i]?=some x→zs[i]?=some z→∀H' R l,Same H H'→(∀H2,Same H' H2→R z H2)→te ((σ0.set 0 l).set 0 (some x)) H' R)
  (q:∀D H',Same H H'→H D=none→H' D=some (.lst zs)→Q (.ref D) H'):qU J H σ0 (cJ 0) jV te Q:=by
 intro D hD
 refine ⟨fun i m σ' H' vs=>m=xs.length - i∧i≤xs.length∧Same H H'∧H' D=some (.lst vs)∧vs=zs.take i∧Ps1 σ0 σ',⟨xs.length,by simp,Nat.zero_le _,aW hD _,aK,rfl,h1⟩,?_⟩
 rintro i m σ' H' vs ⟨rfl,hi,sm,gD,rfl,hps⟩
 refine ⟨gD,?_⟩
 by_cases hlt:i<xs.length
 ·right
  obtain ⟨g1,g2⟩:=go H' i xs[i] sm (List.getElem?_eq_getElem hlt)
  refine ⟨g1,fun v H2 hy=>?_⟩
  obtain ⟨rfl,rfl⟩:=g2 v H2 hy
  refine hg1 (i:=i) hps fun σ2 hps2 hat=>?_
  obtain ⟨l,rfl⟩:=hat
  dsimp only [jV]
  rw [if_pos rfl]
  have hiz:i<zs.length:=by lia
  refine he i _ zs[i] (List.getElem?_eq_getElem hlt) (List.getElem?_eq_getElem hiz) _ _ l sm fun H3 s3=>?_
  refine ⟨s3 _ _ gD,Nat.lt_of_le_of_lt (show (zs.take i).length≤1000 by rw [List.length_take];lia) (by decide),xs.length - (i+1),by lia,rfl,by lia,eZ hD (sm.trans s3),aK,?_,hps2⟩
  rw [List.take_add_one,List.getElem?_eq_getElem hiz]
  rfl
 ·left
  have e:i=xs.length:=by lia
  subst e
  rw [List.take_of_length_le (by lia)] at gD
  exact ⟨stop H' sm,q D H' sm hD gD⟩
theorem aOk {X:Cx} {K:PySem.W.Frag} {scope:Scope} {N:List Str} {tl:TA} {te:TE} {tt:TT} {g:TG} {σ:L2.St} {H:Hp} {Q:VK} (σ0:L2.St) (cap:Cap X scope N σ σ0) (h:tl σ H fun vs H1=>∃t u xs ys,vs=[.ref t,.ref u]∧SqL K H1 t xs∧SqL K H1 u ys∧qU (Itw K t u xs ys) H1 σ0 g tt te Q):iZ X scope N (aHk K tl) g tt te σ H Q:=⟨σ0,cap,h⟩
def qR (ts:List (Addr × Str)) (H:Hp):Prop:=∀p∈ts,H p.1=some (.tab p.2)
def jU:List (Addr × Str)→Addr→Option Str
 |[],_=>none
 |p::r,b=>if b=p.1 then some p.2 else jU r b
theorem aBs {b:Addr}:∀{ts:List (Addr × Str)},(∀p∈ts,b≠p.1)→jU ts b=none
 |[],_=>rfl
 |p::r,h=>by unfold jU;rw [if_neg (h p List.mem_cons_self)];exact aBs fun q hq=>h q (List.mem_cons_of_mem _ hq)
theorem pH {b:Addr} {q:Str}:∀{ts:List (Addr × Str)},jU ts b=some q→∃p∈ts,p.1=b∧p.2=q
 |p::r,h=>by
  unfold jU at h
  by_cases e:b=p.1
  ·rw [if_pos e] at h;exact ⟨p,List.mem_cons_self,e.symm,Option.some.inj h⟩
  ·rw [if_neg e] at h
   obtain ⟨p',h1,h2⟩:=pH h
   exact ⟨p',List.mem_cons_of_mem _ h1,h2⟩
theorem aJv:∀{ts:List (Addr × Str)},(ts.map (·.1)).Nodup→∀{p:Addr × Str},p∈ts→jU ts p.1=some p.2
 |p::r,nd,q,hq=>by
  rw [List.map_cons,List.nodup_cons] at nd
  unfold jU
  rcases List.mem_cons.mp hq with rfl|hq
  ·rw [if_pos rfl]
  ·rw [if_neg fun z=>nd.1 (by rw [←z];exact List.mem_map.mpr ⟨q,hq,rfl⟩)]
   exact aJv nd.2 hq
theorem aM1 {P:Program} {w:World} {K:PySem.W.Frag} {mg mb:Str→Option Value} {CX:CXT} {k:Nat} {fa a:Addr} {fd:FuncData} {x:Str} {sp:Sp} {s₁:Shared} {vs:List Value} {ns:List Int}
  (KX:K.In s₁.heap) (hns:s₁.heap.Ns mainGlobals mg) (hb:s₁.heap.Ns builtinsNs mb) (hbb:∀x:Str,x≠"__name__"→mb x=bootBuiltins x) (hlim:s₁.heap.NoLimit) (hg:s₁.gens=#[])
  (ha:s₁.heap.get? a=some { cls:=.type "list",data:=.seq vs.toArray }) (hi:IntsAre vs ns) (hl:ns.length≤sizeLine) (hr:Room k callerA)
  (ts:List (Addr × Str)) (hts:∀p∈ts,s₁.heap.get? p.1=some { cls:=.none,data:=.fields #[] }∧isCodeTable s₁.heap p.1∧K.lookup p.1=none) (hnd:(ts.map (·.1)).Nodup) (hbm:BM mg s₁.heap)
  (F:∀base:Heap,K.In base→base.Ns mainGlobals mg→BM mg base→jD P w K mg base CX k fa fd [x] sp) (hbind:∀(s:Shared) (u:Value),BindsTo s fd ⟨[u],[]⟩ [(x,u)])
  (hsp:∀H:Hp,qR ts H→SqL K H a (ns.map V.int)→sp [.ref a] H (fun v H'=>v=.bl true∧qR ts H') fun _ _ _=>False)
  (hCX:∀H e s',CX [] H s₁ (fun _ _ _=>False) e s'→False) :
  codeAny (model P w) callerA (.call (.ref fa) ⟨[.ref a],[]⟩) (fun r s'=>r=.ok (.ret (.bool true))∧OldK s₁.heap s'.heap∧s'.os=s₁.os∧AllBare s'.gens) s₁:=by
 have rv:=aBj hi
 have lenV:=hi.length
 have core:∀H:Hp,qR ts H→(∀b,(∀p∈ts,b≠p.1)→H b=none∨∃o xs,H b=some (.frz o (.lst xs)))→SqL K H a (ns.map V.int)→HOk P w H s₁.heap→(∀b,H b≠none→b=a∨∃p∈ts,b=p.1)→(H a≠none→K.lookup a=none) →
   codeAny (model P w) callerA (.call (.ref fa) ⟨[.ref a],[]⟩) (fun r s'=>r=.ok (.ret (.bool true))∧OldK s₁.heap s'.heap∧s'.os=s₁.os∧AllBare s'.gens) s₁:=by
  intro H hT hO hS hok hA hK
  have base_of:∀{b:Addr} {o:Obj},s₁.heap.get? b=some o→H b=none→(aBa s₁.heap H).get? b=some o:=fun e n=>aNz e n
  have noA:∀{b:Addr} {o:Obj} {es:Array DictEntry} {ep:Nat},s₁.heap.get? b=some o→o.data=.dict es ep→H b=none:=fun {b o es ep} e d=>by
   cases q:H b with
   |none=>rfl
   |some u=>
    rcases hA b (by rw [q];simp) with e'|⟨p,hp,e'⟩
    ·subst e'
     rw [ha] at e;cases e
     have d':Data.seq vs.toArray _=Data.dict es ep:=d
     cases d'
    ·subst e'
     rw [(hts p hp).1] at e;cases e
     have d':Data.fields _=Data.dict es ep:=d
     cases d'
  have nsK:∀{b:Addr} {m:Str→Option Value},s₁.heap.Ns b m→(aBa s₁.heap H).Ns b m:=fun {b m} ⟨o,es,ep,e,d,r⟩=>⟨o,es,ep,base_of e (noA e d),d,r⟩
  have hKb:K.In (aBa s₁.heap H):=fun b o e=>base_of (KX b o e) (by
   cases q:H b with
   |none=>rfl
   |some u=>
    rcases hA b (by rw [q];simp) with e'|⟨p,hp,e'⟩
    ·subst e'
     rw [hK (by rw [q];simp)] at e;cases e
    ·subst e'
     rw [(hts p hp).2.2] at e;cases e)
  have hbm':BM mg (aBa s₁.heap H):=by
   obtain ⟨bm,ob,b1,b2,b3,b4,b5,b6⟩:=hbm
   refine ⟨bm,ob,b1,b2,base_of b3 ?_,b4,b5,b6⟩
   cases q:H bm with
   |none=>rfl
   |some u=>
    rcases hA bm (by rw [q];simp) with e'|⟨p,hp,e'⟩
    ·rw [e',ha] at b3;cases b3;cases (show Data.seq vs.toArray _=Data.plain from b6)
    ·rw [e',(hts p hp).1] at b3;cases b3;cases (show Data.fields _=Data.plain from b6)
  have hM:Mod K mg (aBa s₁.heap H):=⟨hKb,nsK hns,⟨mb,nsK hb,hbb⟩,let ⟨mc,h1,h2⟩:=hlim;⟨mc,nsK h1,h2⟩⟩
  have e0:aCq P w K mg (aBa s₁.heap H) callerA [] s₁ H:=⟨rfl,hM,fun b o e=>aQ8 e,Nat.le_of_eq (aL3 _ _),trivial,fun b hb=>absurd (show b∈([]:List Addr) from hb) (by simp),hok,.of_eq hg⟩
  refine codeAny_mono ((F _ hKb (nsK hns) hbm').run callerA [] s₁ H ⟨[.ref a],[]⟩ [.ref a] [.ref a] _ _ hr e0 (hbind s₁ (.ref a)) (.cons rfl .nil) (hsp H hT hS)) fun r s' h=>?_
  cases r with
  |error e=>exact (hCX H e s' h).elim
  |ok fl=>
   cases fl with
   |next=>exact False.elim h
   |brk=>exact False.elim h
   |cont=>exact False.elim h
   |ret u=>
    obtain ⟨v,H',os,bare,un,hok',r',q⟩:=h
    obtain ⟨q',qT⟩:=(show v=.bl true∧qR ts H' from q)
    subst q'
    obtain rfl:u=Value.bool true:=r'
    have kp:∀b o,s₁.heap.get? b=some o→(∀p∈ts,b≠p.1)→s'.heap.get? b=some o:=fun b o e hb=>by
     cases q:H b with
     |none=>exact un.keep b o e q (by intro z;exact absurd (show b∈([]:List Addr) from z) (by simp)) (by simp)
     |some u=>
      rcases hO b hb with z|⟨ob,xs,z⟩
      ·rw [q] at z;cases z
      ·have z2:=un.frzs b ob _ z
       obtain ⟨e1,_⟩:=hok b _ z
       obtain ⟨e2,_⟩:=hok' b _ z2
       rw [e] at e1;cases e1
       exact e2
    refine ⟨rfl,⟨fun b o e=>?_,fun b o e=>?_⟩,os,bare⟩
    ·by_cases hb:∃p∈ts,b=p.1
     ·obtain ⟨p,hp,rfl⟩:=hb
      obtain ⟨ps,e1,_⟩:=hok' p.1 _ (qT p hp)
      rw [(hts p hp).1] at e
      cases e
      exact .inr (.inl ⟨(hts p hp).2.1,rfl,#[],ps,rfl,by rw [e1];simp⟩)
     ·exact .inl (kp b o e fun p hp z=>hb ⟨p,hp,z⟩)
    ·by_cases hb:∃p∈ts,b=p.1
     ·obtain ⟨p,hp,rfl⟩:=hb
      obtain ⟨ps,e1,_⟩:=hok' p.1 _ (qT p hp)
      exact ⟨_,e1⟩
     ·exact ⟨o,kp b o e fun p hp z=>hb ⟨p,hp,z⟩⟩
 have aT:∀p∈ts,p.1≠a:=fun p hp z=>by have:=(hts p hp).1;rw [z,ha] at this;cases this
 have tlk:∀p∈ts,jU ts p.1=some p.2:=fun p hp=>aJv hnd hp
 have tno:∀b,(∀p∈ts,b≠p.1)→jU ts b=none:=fun b hb=>aBs hb
 have tok:∀(H:Hp) (p:Addr × Str),p∈ts→cT P w H s₁.heap p.1 (.tab p.2):=fun H p hp=>⟨#[],(hts p hp).1,trivial,fun pos cv z=>by cases z⟩
 cases hk:K.lookup a with
 |some o=>
  have e:=KX a o hk
  rw [ha] at e
  cases e
  refine core (fun b=>(jU ts b).map .tab) (fun p hp=>by show (jU ts p.1).map _=_;rw [tlk p hp];rfl) (fun b hb=>.inl (by show (jU ts b).map _=_;rw [tno b hb];rfl)) (.inr ⟨_,vs.toArray,_,hk,rfl,rfl,rfl,by rw [List.size_toArray,lenV];exact hl,by simpa using rv⟩) (fun b u z=>?_) (fun b z=>?_) fun z=>?_
  ·obtain ⟨qn,hq,rfl⟩:=Option.map_eq_some_iff.mp (show (jU ts b).map .tab=some u from z)
   obtain ⟨p,hp,e1,e2⟩:=pH hq
   subst e1 e2
   exact tok _ p hp
  ·refine .inr ?_
   cases hq:jU ts b with
   |none=>exact absurd (show (jU ts b).map HO.tab=none by rw [hq];rfl) z
   |some qn=>obtain ⟨p,hp,e1,_⟩:=pH hq;exact ⟨p,hp,e1.symm⟩
  ·exact absurd (show (jU ts a).map HO.tab=none by rw [tno a fun p hp z=>aT p hp z.symm];rfl) z
 |none=>
  refine core (fun b=>if b=a then some (.frz { cls:=.type "list",data:=.seq vs.toArray } (.lst (ns.map V.int))) else (jU ts b).map .tab) (fun p hp=>by show (if p.1=a then _ else (jU ts p.1).map HO.tab)=_;rw [if_neg (aT p hp),tlk p hp];rfl) (fun b hb=>?_) (.inl (.inr ⟨{ cls:=.type "list",data:=.seq vs.toArray },if_pos rfl⟩)) (fun b u z=>?_) (fun b z=>?_) fun _=>hk
  ·by_cases h:b=a
   ·exact .inr ⟨_,_,if_pos h⟩
   ·exact .inl (by show (if b=a then _ else (jU ts b).map HO.tab)=_;rw [if_neg h,tno b hb];rfl)
  ·by_cases hb:b=a
   ·have z':=(if_pos hb).symm.trans z
    cases z'
    subst hb
    exact ⟨ha,by rw [List.length_map];exact hl,vs,_,rv,ha⟩
   ·have z':(jU ts b).map HO.tab=some u:=(if_neg hb).symm.trans z
    obtain ⟨qn,hq,rfl⟩:=Option.map_eq_some_iff.mp z'
    obtain ⟨p,hp,e1,e2⟩:=pH hq
    subst e1 e2
    exact tok _ p hp
  ·by_cases hb:b=a
   ·exact .inl hb
   ·refine .inr ?_
    cases hq:jU ts b with
    |none=>exact absurd (show (if b=a then _ else (jU ts b).map HO.tab)=none by rw [if_neg hb,hq];rfl) z
    |some qn=>obtain ⟨p,hp,e1,_⟩:=pH hq;exact ⟨p,hp,e1.symm⟩
theorem aPg {l:PySem.W.OpenLaw} {n k:Nat} {q:Program} {loose:List Str} {XP:(Str→Option Value)→Heap→Prop} {YP:World→Heap→Prop} {d:DefRec} {K:Params→PySem.W.Frag} {CX:World→CXT} {sp:World→Sp} {x:Str}
  (hn:l.most=some n) (hn2:n≤sizeLine) (hdf:d.params.defaults=[]) (hr:Room k callerA)
  (ts:List (Addr × Str)) (hnd:(ts.map (·.1)).Nodup)
  (hY:∀(w:World) (h:Heap),YP w h→(K w.params).In h∧∀p∈ts,h.get? p.1=some { cls:=.none,data:=.fields #[] })
  (hC:∀(w:World),∀p∈ts,(∃c,PySem.W.codeHdIn (K w.params) c p.1=true)∧(K w.params).lookup p.1=none)
  (F:∀(w:World) (mg:Str→Option Value) (fa:Addr) (h:Heap),(K w.params).In h→h.Ns mainGlobals mg→mg d.name=some (.ref fa) →
   ∃fd:FuncData,(∀(s:Shared) (u:Value),BindsTo s fd ⟨[u],[]⟩ [(x,u)]) ∧
    ∀base:Heap,(K w.params).In base→base.Ns mainGlobals mg→BM mg base→jD l.prog w (K w.params) mg base (CX w) k fa fd [x] (sp w))
  (hsp:∀(w:World) (H:Hp) (a:Addr) (ns:List Int),ns.length≤n→qR ts H→SqL (K w.params) H a (ns.map V.int)→sp w [.ref a] H (fun v H'=>v=.bl true∧qR ts H') fun _ _ _=>False)
  (hCX:∀(w:World) (H:Hp) (s:Shared) (e:Value) (s':Shared),CX w [] H s (fun _ _ _=>False) e s'→False) :
  PySem.W.WalkO q loose XP YP l.row.toRowW d [] (fun f vs=>PySem.call f vs):=by
 refine Att.aFg hn hdf fun w s₀ s₁ mg mb fa o pm cd doc a vs ns G Y ho hd hcd hmg hobj hints hlen hg=>?_
 obtain ⟨KX,hTab⟩:=hY w _ Y
 obtain ⟨fd,hb,hF⟩:=F w mg fa _ KX G.T.g hmg
 refine aM1 KX G.T.g G.T.b G.T.builtins G.T.nolimit hg hobj hints (Nat.le_trans hlen hn2) hr ts (fun p hp=>⟨hTab p hp,?_,(hC w p hp).2⟩) hnd G.T.bmain hF hb (fun H hO hS=>hsp w H a ns hlen hO hS) fun H e s'=>hCX w H s₁ e s'
 obtain ⟨c,hc⟩:=(hC w p hp).1
 exact Heap.TableAt.isCodeTable ((PySem.W.codeHd_of_K KX hc).tab (hTab p hp))
def qL (K:PySem.W.Frag) (H:Hp) (u:V) (r:List V):Prop:=∃a,u=.ref a∧SqT K H a r
theorem qL.same {K:PySem.W.Frag} {H H':Hp} {u:V} {r:List V} (e:Same H H') (h:qL K H u r):qL K H' u r:=by
 obtain ⟨a,rfl,ha⟩:=h
 exact ⟨a,rfl,e.bB ha⟩
def KdV:Bool→V→Prop
 |true,x=>∃i,x=.int i
 |false,x=>∃z,x=.str z
def KdR (ks:List Bool) (r:List V):Prop:=Al2 KdV ks r
def rlt:List V→List V→Bool
 |.int a::xs,.int b::ys=>if (a == b)=true then rlt xs ys else decide (a<b)
 |.str a::xs,.str b::ys=>if (a == b)=true then rlt xs ys else decide (a.cps.toList<b.cps.toList)
 |_,_=>false
def srt (rs:List (List V)):List (List V):=(PySem.W.lQ rs.length fun i j=>rlt (rs.getD i []) (rs.getD j [])).map fun i=>rs.getD i []
theorem aRl (rs:List (List V)):(srt rs).length=rs.length:=by unfold srt;rw [List.length_map,PySem.W.aB7]
theorem aD6 {rs:List (List V)} {r:List V} (h:r∈srt rs):r∈rs:=by
 obtain ⟨i,hi,rfl⟩:=List.mem_map.mp h
 have:=PySem.W.vH hi
 have e:rs.getD i []=rs[i]:=by simp [this]
 rw [e]
 exact List.getElem_mem this
theorem Al2.get {α β:Type} {R:α→β→Prop} {as:List α} {bs:List β} (h:Al2 R as bs) {i:Nat} {a:α} {b:β} (h1:as[i]?=some a) (h2:bs[i]?=some b):R a b:=by
 obtain ⟨b',e,r⟩:=h.at h1
 rw [h2] at e
 cases e
 exact r
theorem Al2.of {α β:Type} {R:α→β→Prop}:∀{as:List α} {bs:List β},as.length=bs.length→(∀(i:Nat) (a:α) (b:β),as[i]?=some a→bs[i]?=some b→R a b)→Al2 R as bs
 |[],[],_,_=>.nil
 |a::as,b::bs,hl,h=>.cons (h 0 a b rfl rfl) (Al2.of (by simpa using hl) fun i x y h1 h2=>h (i+1) x y (by simpa using h1) (by simpa using h2))
section
variable {prog:Program} {w:World} {A:Around} {s:Shared} {b:Bool} {Q:Bool→Shared→Prop}
theorem aQ3 (ks:List Bool):∀{r1 r2:List V} {i1 i2:List Value},KdR ks r1→KdR ks r2→Vals r1 i1→Vals r2 i2→∀i:Nat,Q (rlt r1 r2) s→PySem.W.KatLex prog w A b false Q (i1.zip i2) i s:=by
 induction ks with
 |nil=>
  intro r1 r2 i1 i2 h1 h2 v1 v2 i q
  cases h1;cases h2;cases v1;cases v2
  exact q
 |cons k ks ih=>
  intro r1 r2 i1 i2 h1 h2 v1 v2 i q
  cases h1 with
  |cons a1 t1=>
   cases h2 with
   |cons a2 t2=>
    cases v1 with
    |cons p1 w1=>
     cases v2 with
     |cons p2 w2=>
      cases k with
      |true=>
       obtain ⟨x,rfl⟩:=a1
       obtain ⟨y,rfl⟩:=a2
       obtain ⟨t,rfl⟩:=p1
       obtain ⟨u,rfl⟩:=p2
       refine (SeqAt.EqAt.int_int x t y u) prog w _ _ ?_
       unfold rlt at q
       by_cases e:(x == y)=true
       ·rw [e,if_pos rfl]
        rw [if_pos e] at q
        exact ih t1 t2 w1 w2 (i+1) q
       ·rw [if_neg e] at q
        rw [Bool.not_eq_true] at e
        rw [e,if_neg (by decide)]
        cases hb:(b && i == 0) with
        |true=>exact oneLt_int q
        |false=>exact PySem.W.kat_one _ _ (lt_int q)
      |false=>
       obtain ⟨x,rfl⟩:=a1
       obtain ⟨y,rfl⟩:=a2
       obtain ⟨t,rfl⟩:=p1
       obtain ⟨u,rfl⟩:=p2
       refine (SeqAt.EqAt.str_str x t y u) prog w _ _ ?_
       unfold rlt at q
       by_cases e:(x == y)=true
       ·rw [e,if_pos rfl]
        rw [if_pos e] at q
        exact ih t1 t2 w1 w2 (i+1) q
       ·rw [if_neg e] at q
        rw [Bool.not_eq_true] at e
        rw [e,if_neg (by decide)]
        cases hb:(b && i == 0) with
        |true=>exact oneLt_str q
        |false=>exact PySem.W.kat_one _ _ (lt_str q)
end
section
variable {X:Cx}
def aNq (K:PySem.W.Frag):List V→Hp→VK→Prop:=fun xs H Q=>∃(l:Addr) (us:List V) (rs:List (List V)) (ks:List Bool),xs=[.ref l]∧SqL K H l us∧Al2 (qL K H) us rs∧us.length<64∧ks≠[]∧(∀r∈rs,KdR ks r) ∧
 ∀D H' us',H D=none→Same H H'→H' D=some (.lst us')→Al2 (qL K H) us' (srt rs)→Q (.ref D) H'
theorem aJo {pins:List (Addr × Obj)} {σ:L2.St} {H:Hp} {s:Shared} {h':Heap} {k:Bool} {ks:List Bool} (I:Inv X pins σ H s) (kp:∀b o,s.heap.get? b=some o→h'.get? b=some o):∀{us:List V} {rs:List (List V)} {its:List Value},Al2 (qL X.K H) us rs→Vals us its→(∀r∈rs,KdR (k::ks) r) →
  ∃fs,PySem.W.KatTups h' its fs∧fs.length=its.length∧∀f∈fs,∀M:Model,PySem.W.Looks M h' (typeOf f) (.type (if k=true then "int" else "str"))
 |_,_,_,.nil,.nil,_=>⟨[],.nil,rfl,fun f h=>by cases h⟩
 |_,_,_,.cons (b:=r) hr t,.cons q z,hk=>by
  obtain ⟨fs,h1,h2,h3⟩:=aJo I kp t z fun r m=>hk r (List.mem_cons_of_mem _ m)
  obtain ⟨a,rfl,ha⟩:=hr
  cases q
  obtain ⟨ks',rv,⟨o,ho,hc,n,hd⟩,_⟩:=I.tuple ha
  have hkr:=hk r (List.mem_cons_self ..)
  cases hkr with
  |cons hx _=>
   cases rv with
   |@cons _ f _ fr rx _=>
    refine ⟨f::fs,.cons (kp _ _ ho) hc hd (by simp) h1,by rw [List.length_cons,List.length_cons,h2],fun g hg M=>?_⟩
    rcases List.mem_cons.mp hg with rfl|hg
    ·cases k with
     |true=>
      obtain ⟨i,rfl⟩:=hx
      obtain ⟨tk,rfl⟩:=rx
      exact .now
     |false=>
      obtain ⟨i,rfl⟩:=hx
      obtain ⟨tk,rfl⟩:=rx
      exact .now
    ·exact h3 g hg M
theorem aH6:bW X (.builtin "sorted") (aNq X.K):=by
 intro pins s σ H xs us0 Q I r h
 obtain ⟨l,us,rs,ks,rfl,hl,hr,h64,hne,hk,q⟩:=h
 obtain ⟨u,rfl,ru⟩:=vals1 r
 cases ru
 obtain ⟨its,rv,pl,hz⟩:=I.list hl
 have e1:=rv.length
 have e2:=hr.len
 obtain ⟨k,ks',rfl⟩:∃k ks',ks=k::ks':=by
  cases ks with
  |nil=>exact absurd rfl hne
  |cons k ks'=>exact ⟨k,ks',rfl⟩
 refine PySem.W.aCk (f:=fun i j=>rlt (rs.getD i []) (rs.getD j [])) pl.isList (by lia) (fun h2 h' kp=>?_) ?_
 ·obtain ⟨fs,t1,t2,t3⟩:=aJo I kp hr rv hk
  refine ⟨_,fun Q hq=>PySem.W.kat_kind (s:={ s with heap:=h' }) (T:=.type (if k=true then "int" else "str")) t1 (by lia) (fun v hv=>t3 v hv _) (by simp) hq,fun i j C hi hj hC=>?_⟩
  have row:∀{i:Nat},i<its.length→∃a o r xs n,its.getD i Value.none=.ref a∧h'.get? a=some o∧o.data=.seq (List.toArray xs) n∧Vals r xs∧rs.getD i []=r∧KdR (k::ks') r:=fun {i} hi=>by
   have hiu:i<us.length:=by lia
   have hir:i<rs.length:=by lia
   obtain ⟨a,ea,ha⟩:=hr.get (List.getElem?_eq_getElem hiu) (List.getElem?_eq_getElem hir)
   obtain ⟨v,hv,rx⟩:=rv.get (List.getElem?_eq_getElem hiu)
   rw [ea] at rx
   cases rx
   obtain ⟨xs,rr,⟨o,ho,hc,n,hd⟩,_⟩:=I.tuple ha
   refine ⟨a,o,rs[i],xs,n,?_,kp _ _ ho,hd,rr,by simp [hir],hk _ (List.getElem_mem hir)⟩
   rw [List.getD_eq_getElem?_getD,hv]
   rfl
  obtain ⟨a,o,r1,x1,n1,g1,g2,g3,g4,g5,g6⟩:=row hi
  obtain ⟨b,o',r2,x2,n2,g1',g2',g3',g4',g5',g6'⟩:=row hj
  show wpAny _ _ (keyLt' _ (its.getD i Value.none) (its.getD j Value.none)) C _ _
  rw [g1,g1']
  refine PySem.W.kat_lt (s:={ s with heap:=h' }) g2 g3 g2' g3' ?_
  have hsz:decide ((List.toArray x1).size<(List.toArray x2).size)=false:=by
   rw [List.size_toArray,List.size_toArray]
   have:=g4.length
   have:=g4'.length
   have:=Al2.len g6
   have:=Al2.len g6'
   exact decide_eq_false (by lia)
  rw [hsz]
  refine aQ3 (k::ks') g6 g6' g4 g4' 0 ?_
  have hC:C (rlt (rs.getD i []) (rs.getD j [])) { s with heap:=h' }:=hC
  rw [g5,g5'] at hC
  exact hC
 ·obtain ⟨e,he⟩:=sortedAll_at s.heap its (List.toArray ((PySem.W.lQ its.length fun i j=>rlt (rs.getD i []) (rs.getD j [])).map fun i=>its.getD i Value.none))
  have hf:H (s.heap.objs.size+1)=none:=I.hok.fresh (Nat.le_succ _)
  have el:its.length=rs.length:=by lia
  refine ⟨.ref (s.heap.objs.size+1),_,I.laid (t':=s.toks) (o:=.lst ((PySem.W.lQ rs.length fun i j=>rlt (rs.getD i []) (rs.getD j [])).map fun i=>us.getD i .non)) (fun b o q=>sortedAll_old q) (Nat.le_succ _) ?_,rfl,q _ _ _ hf (aW hf _) aK ?_⟩
  ·refine ⟨small (by rw [List.length_map,PySem.W.aB7];lia),_,e,?_,he⟩
   rw [el]
   have aux:∀L:List Nat,(∀i∈L,i<us.length)→Vals (L.map fun i=>us.getD i .non) (L.map fun i=>its.getD i Value.none):=by
    intro L
    induction L with
    |nil=>intro _;exact .nil
    |cons i L ih=>
     intro hL
     have hi:=hL i (List.mem_cons_self ..)
     obtain ⟨v,hv,rx⟩:=rv.get (List.getElem?_eq_getElem hi)
     refine .cons ?_ (ih fun j hj=>hL j (List.mem_cons_of_mem _ hj))
     show RelV (us.getD i .non) (its.getD i Value.none)
     rw [List.getD_eq_getElem?_getD,List.getElem?_eq_getElem hi,List.getD_eq_getElem?_getD,hv]
     exact rx
   exact aux _ fun i hi=>by have:=PySem.W.vH hi;lia
  ·unfold srt
   have aux:∀L:List Nat,(∀i∈L,i<us.length)→Al2 (qL X.K H) (L.map fun i=>us.getD i .non) (L.map fun i=>rs.getD i []):=by
    intro L
    induction L with
    |nil=>intro _;exact .nil
    |cons i L ih=>
     intro hL
     have hi:=hL i (List.mem_cons_self ..)
     have hir:i<rs.length:=by lia
     refine .cons ?_ (ih fun j hj=>hL j (List.mem_cons_of_mem _ hj))
     show qL X.K H (us.getD i .non) (rs.getD i [])
     rw [List.getD_eq_getElem?_getD,List.getElem?_eq_getElem hi,List.getD_eq_getElem?_getD,List.getElem?_eq_getElem hir]
     exact hr.get (List.getElem?_eq_getElem hi) (List.getElem?_eq_getElem hir)
   exact aux _ fun i hi=>by have:=PySem.W.vH hi;lia
end
section
variable {X:Cx} {pins:List (Addr × Obj)} {σ:List (Option V)} {H:Hp} {s:Shared}
end
section
variable {X:Cx}
end
section
variable {X:Cx}
end
section
variable {P:Program} {w:World} {K:PySem.W.Frag} {mg:Str→Option Value} {base:Heap}
def aOv (K:PySem.W.Frag) (mg:Str→Option Value) (x:Str) (Pt:Addr):Prop:=∃f o fd c,mg x=some (.ref f)∧K.lookup f=some o∧o.data=.func fd∧fd.code=.ref c∧PySem.W.codeHdIn K c Pt=true
theorem Ok.aXe {x:Str} {st:Stmt} {N ps:List Str} {k:Nat} {sp:Sp} {Pt:Addr} (D:Dn K mg x st ps) (C:aOv K mg x Pt) (hK:K.In base) (S:aO N ps (aH st)) (len:∀vs H Q E,sp vs H Q E→vs.length=ps.length)
  (hbody:∀(f c:Addr) (A:Around) (outer:List Env) (s:Shared) (H:Hp) (vs:List V) (Q:VK) (E:XK),PySem.W.CodeHd base c Pt→Room k (A.deeper (envOfC x (aH st) s.heap.objs.size f (.ref c)))→sp vs H Q E →
   ∃t,VSs (xQ CX0 P w K mg base N x (aH st) f (.ref c) A outer s H E).nox (dZ st) t∧t { nx:=fun _ H'=>Q .non H',rt:=Q } (start N vs) H):Ok P w K mg base (k+1) x ps sp:=by
 obtain ⟨f,fd,F,B,m⟩:=D
 obtain ⟨f',o',fd',c,m',lk',hd',hc',hh⟩:=C
 rw [m] at m'
 cases m'
 refine ⟨f,fd,m,F.kp,B,?_⟩
 obtain ⟨oc,od,kV,doc,pm,an,cdv,ct,osl,rfl,lk,hcd⟩:=F.ex
 rw [lk] at lk'
 cases lk'
 cases hd'
 have e:cdv=.ref c:=hc'
 subst e
 refine aS7 lk hcd S len fun A outer s H vs Q E hr hsp=>?_
 obtain ⟨t,h,q⟩:=hbody f c A outer s H vs Q E (PySem.W.codeHd_of_K hK hh) hr hsp
 exact ⟨t,h.1.nox,q⟩
end
section
variable {X:Cx}
end
end L2
namespace My
open PySem PySem.Spec PyProof.Rows L2
section
variable {P:Program} {w:World} {K:PySem.W.Frag} {mg:Str→Option Value} {base:Heap}
def vlt:V→V→Bool
 |.int a,.int b=>decide (a<b)
 |.str a,.str b=>decide (a.cps.toList<b.cps.toList)
 |_,_=>false
def aMb (k:Str):Prop:=k = "number"∨k = "word"
def qC:Str:="are_cuts.<locals>.<lambda>"
def aKn (P:Program) (w:World) (K:PySem.W.Frag) (mg:Str→Option Value) (base:Heap) (k:Nat):Sp:=fun vs H Q _=>∃(a:Addr) (lo hi:Nat) (f:Addr) (xs:List V) (qual g x y:Str) (z:V) (ps:List Str) (sp:Sp),vs=[.ref a,.int (lo:Nat),.int (hi:Nat),.ref f]∧SqT K H a xs∧lo≤xs.length∧xs.length≤hi∧hi≤1000∧uI H f qual g x y z∧Ok P w K mg base k g ps sp ∧
 (∀v∈xs,∀(H':Hp) (R:VK),Same H H'→(∀H2,Same H' H2→R (.bl true) H2)→sp [v,z] H' R E0)∧∀H',Same H H'→Q (.bl true) H'
theorem wL {k:Nat} (T:Txt w K mg):Ok P w K mg base (k+2) "is_tuple_of" ["thing","least","most","is_part"] (aKn P w K mg base k):=by
 refine Ok.ofV T.qX pI (fun vs H Q E h=>?_) (fun f cdv A outer s H vs Q E hr h=>?_)
 ·obtain ⟨a,lo,hi,f,xs,qual,g,x,y,z,ps,sp,rfl,_⟩:=h;rfl
 obtain ⟨a,lo,hi,g,xs,qual,gn,x,y,z,ps,sp,rfl,ha,h1,h2,h1000,hL,hG,hsp,q⟩:=h
 refine ⟨_,(aF (cR (VW.pt (jA (cZ (cQ (aR iG (by rfl) T.bN bK (aD (vv 0) (aD (eQ (v:=.ty "tuple") (by rfl) T.iK eX rfl) aC))))) (iB (cZ (xO aAg aAg (vv 1) (aR bH (by rfl) T.gQ dY (aD (vv 0) aC)) (vv 2)))))) (aJ (aP oE)) bJ) (aJ (aP (aR (jK rfl) (by rfl) T.aAe rQ (aD (cM (N:=["part","is_part"]) (by trivial) (gJ (aH fC) rfl (by decide +kernel)) rfl (uY (vv 0)) (fun cl s' H' fp=>⟨(aU (i:=0) (show (["part","is_part"]:List Str).Nodup from by decide +kernel) rfl (Or.inl rfl)),dD,(aK1 (P:=P) (w:=w) (K:=K) (mg:=mg) (base:=base) hr (vv 1) (aD (vv 0) aC))⟩)) aC))))),?_⟩
 refine ⟨_,rfl,_,_,rfl,.tup ha,_,rfl,cB ?_⟩
 refine ⟨_,rfl,_,rfl,_,_,rfl,.inr ha,_,_,rfl,rfl,_,rfl,?_⟩
 have e1:decide ((lo:Int)≤(xs.length:Int))=true:=decide_eq_true (by lia)
 have e2:decide ((xs.length:Int)≤(hi:Int))=true:=decide_eq_true (by lia)
 rw [e1]
 refine dW ⟨_,rfl,_,_,rfl,rfl,_,rfl,?_⟩
 rw [e2]
 refine cB ?_
 dsimp only [tW,uW,tCB,dJ]
 refine aBc xs (fun _=>.bl true) [none,some (.ref g)] ?_ (small (by lia)) (fun R r=>aIb ha (fun R' r'=>⟨_,rfl,r'⟩) R r) (fun v hv H' R l sm r=>?_) rfl fun D H' sm hD=>?_
 ·exact jF 3 (by decide +kernel) rfl rfl (by trivial)
 ·exact ⟨_,rfl,g,qual,gn,x,y,z,ps,sp,rfl,hL.same sm,hG,_,rfl,v,rfl,hL.same sm,hsp v hv H' R sm r⟩
 ·refine ⟨D,xs.map fun _=>true,rfl,SqL.of (by rw [hD,List.map_map];rfl),?_⟩
  rw [show (xs.map fun _=>true).all id=true by rw [List.all_map];exact List.all_eq_true.mpr fun _ _=>rfl]
  exact q H' sm
def aPf (K:PySem.W.Frag):Sp:=fun vs H Q _=>∃(p:Addr) (v:V) (h m:Int),vs=[.ref p,.int m]∧SqT K H p [v,.int h]∧0≤h∧h<m∧∀H',Same H H'→Q (.bl true) H'
theorem aM0 (T:Txt w K mg) (gK:Ok P w K mg base 2 "is_number_below" ["thing","many"] xM):Ok P w K mg base 3 "is_cut" ["thing","houses"] (aPf K):=by
 refine Ok.ofV T.aOi aK2 (fun vs H Q E h=>?_) (fun f cdv A outer s H vs Q E hr h=>?_)
 ·obtain ⟨p,v,h,m,rfl,_⟩:=h;rfl
 obtain ⟨p,v,h,m,rfl,hp,h0,h1,q⟩:=h
 refine ⟨_,(aJ (aP (fX (aR iG (by rfl) T.bN bK (aD (vv 0) (aD (eQ (v:=.ty "tuple") (by rfl) T.iK eX rfl) aC))) (fX (cU gA (aR bH (by rfl) T.gQ dY (aD (vv 0) aC)) aG (bM _)) (gW (aV (gK.mono (by decide)) hr (by rfl) (aD (aZ cA (vv 0) aG (fun _ _=>rfl)) (aD (vv 1) aC)))))))),?_⟩
 refine ⟨_,rfl,_,_,rfl,.tup hp,_,rfl,dW ⟨_,rfl,_,_,rfl,.inr hp,rfl,_,rfl,?_⟩⟩
 refine dW ⟨_,rfl,p,_,1,_,rfl,rfl,hp,at1 _ _ _,_,rfl,h,m,rfl,?_⟩
 rw [decide_eq_true h0,decide_eq_true h1]
 exact q H (Same.refl H)
theorem aNj {x g y:Str} {env:Env} {cp:Addr} (h:env.cells.lookup y=some cp):closureFor { kind:=.function,names:=[(x,.local),(y,.free),(g,.globalImplicit)],isGenerator:=false,isCoroutine:=false,more:=[] } env=pure [(y,cp)]:=by
 have e0:cellOf env y=pure cp:=by unfold cellOf;rw [h]
 simp [closureFor,e0]
def nY (K:PySem.W.Frag) (H:Hp) (v:V) (c:V × Int):Prop:=∃p,v=.ref p∧SqT K H p [c.1,.int c.2]
theorem nY.same {K:PySem.W.Frag} {H H':Hp} {v:V} {c:V × Int} (e:Same H H') (h:nY K H v c):nY K H' v c:=by
 obtain ⟨p,rfl,hp⟩:=h
 exact ⟨p,rfl,e.bB hp⟩
structure aM3 (kd:Str) (m:Int) (h0:Int) (cs:List (V × Int)):Prop where
 first:0≤h0∧h0<m
 each:∀c∈cs,dH kd c.1∧0≤c.2∧c.2<m
 up:(cs.map (·.1)).Pairwise fun a b=>vlt a b=true
 few:cs.length≤7
theorem zB {kd:Str} {v:V} (h:dH kd v):aIa v=true∧kindS v=kd:=by
 cases h with
 |num=>exact ⟨rfl,rfl⟩
 |@wrd x hx h8=>
  refine ⟨?_,rfl⟩
  show (false || (decide (0≤x.length) && (decide (x.length≤8) && allIn x)))=true
  rw [allIn_of hx,decide_eq_true h8]
  rfl
theorem vK {kd:Str} {v:V} (h:dH kd v):Vl v:=by
 cases h with
 |num=>exact .inl ⟨_,rfl⟩
 |wrd hx h8=>exact .inr ⟨_,rfl,hx,h8⟩
theorem aT7 {a b:V} {H:Hp} {Q:VK} (h:vlt a b=true) (q:Q (.bl true) H):aWp a b H Q:=by
 unfold vlt at h
 split at h
 ·exact .inl ⟨_,_,rfl,rfl,by rw [h];exact q⟩
 ·exact .inr ⟨_,_,rfl,rfl,by rw [h];exact q⟩
 ·cases h
def aKq (K:PySem.W.Frag) (Pt:Addr):Sp:=fun vs H Q _=>∃(v:V) (kd:Str) (m h0:Int) (cs:List (V × Int)),vs=[v,.str kd,.int m]∧uM K H (nY K H) v ((.non,h0)::cs)∧aMb kd∧aM3 kd m h0 cs∧H Pt=some (.tab qC)∧∀H',Same H H'→Q (.bl true) H'
theorem aGg (T:Txt w K mg) {Pt:Addr} (C:aOv K mg "are_cuts" Pt) (hK:K.In base) (hbm:BM mg base) (lG:Ok P w K mg base 5 "is_tuple_of" ["thing","least","most","is_part"] (aKn P w K mg base 3)) (aNd:Ok P w K mg base 3 "is_cut" ["thing","houses"] (aPf K))
  (lD:Ok P w K mg base 3 "is_value_of" ["thing","kind"] (aI0 K)):Ok P w K mg base 6 "are_cuts" ["thing","kind","houses"] (aKq K Pt):=by
 refine Ok.aXe T.aJl C hK wD (fun vs H Q E h=>?_) (fun f c A outer s H vs Q E CH hr h=>?_)
 ·obtain ⟨v,kd,m,h0,cs,rfl,_⟩:=h;rfl
 obtain ⟨v,kd,m,h0,cs,rfl,⟨a,us,rfl,ha,hu⟩,hkd,ok,hP,q⟩:=h
 have hu':=aFj hr
 refine ⟨_,(aF (cR (VW.pt (jA (cZ (cQ (aHe (iy:=2) lG hr (by rfl) (vv 0) aG (qW (by rfl) T.aFu) rfl CH hbm ⟨⟨_,_,_,_,rfl⟩,fun _ _ _ _ _=>rfl,rfl,rfl,rfl,by decide +kernel,rfl,rfl,rfl,by decide +kernel,by decide +kernel,by decide +kernel,by decide +kernel,by decide +kernel⟩ rfl rfl rfl rfl (aNj rfl) rfl))) (iB (bY aRz (aZ cA (aZ cA (vv 0) aG (fun _ _=>rfl)) aG (fun _ _=>rfl)) aNi (bM _))))) (aJ (aP oE)) bJ) (aF (aCu (i0:=3) wD.nd rfl (by trivial) (N:=["cut"]) (by trivial) (iV (by decide +kernel)) rfl (uY (lX aRy (vv 0) (nW aG) sW)) (fun cl s' H' fp=>⟨(aU (i:=0) (show (["cut"]:List Str).Nodup from by decide +kernel) rfl (Or.inl rfl)),dD,(aZ (cH (K:=K)) (vv 0) aG (fun _ _=>rfl))⟩)) (aF (cR (cZ (cQ (aR (jK rfl) (by rfl) T.aAe rQ (aD (cM (N:=["low","kind"]) (by trivial) (gJ (aH nO) rfl (by decide +kernel)) rfl (fK (vv 3)) (fun cl s' H' fp=>⟨(aU (i:=0) (show (["low","kind"]:List Str).Nodup from by decide +kernel) rfl (Or.inl rfl)),dD,(aV (lD.mono (by decide)) hr (by rfl) (aD (vv 0) (aD (vv 1) aC)))⟩)) aC)))) (aJ (aP oE)) bJ) (aJ (aP (aR (jK rfl) (by rfl) T.aAe rQ (aD (cM (N:=["low","after"]) (by trivial) (iV (by decide +kernel)) rfl (aOx (by rfl) T.aSo (aD (vv 3) (aD (lX aF9 (vv 3) (nW aG) sW) aC))) (fun cl s' H' fp=>⟨(pU (K:=K) (n:=2) rfl (bI (aU (i:=0) (show (["low","after"]:List Str).Nodup from by decide +kernel) rfl (Or.inl rfl)) (bI (aU (i:=1) (show (["low","after"]:List Str).Nodup from by decide +kernel) rfl (Or.inl rfl)) fJ))),dD,(cU aT3 (vv 0) (vv 1) (bM _))⟩)) aC))))))),?_⟩
 have lu:=hu.len
 have few:=ok.few
 rw [List.length_cons] at lu
 refine ⟨_,rfl,.int m,rfl,hP,fun lf H2 hL hT=>⟨a,1,8,lf,us,_,_,_,_,_,_,_,rfl,hT _ _ ha,by lia,by lia,by decide,hL,aNd,fun v hv H' R sm r=>?_,fun H3 s3=>⟨s3,fun H4 s4=>?_⟩⟩⟩
 ·obtain ⟨c,hc,p,rfl,hp⟩:=hu.mem hv
  have hb:0≤c.2∧c.2<m:=by
   rcases List.mem_cons.mp hc with rfl|hc
   ·exact ok.first
   ·exact (ok.each c hc).2
  exact ⟨p,c.1,c.2,m,rfl,sm.bB (hT _ _ hp),hb.1,hb.2,fun H2 s2=>r H2 s2⟩
 obtain ⟨u0,ut,rfl,⟨p0,rfl,hp0⟩,hut⟩:∃u0 ut,us=u0::ut∧nY K H u0 (.non,h0)∧bZ (nY K H) ut cs:=by
  cases hu with
  |cons r t=>exact ⟨_,_,rfl,r,t⟩
 refine ⟨_,rfl,cB ?_⟩
 refine ⟨_,rfl,a,_,0,_,rfl,rfl,s4.bB ha,at0 _ _,p0,_,0,_,rfl,rfl,s4.bB hp0,at0 _ _,rfl,_,rfl,cB ?_⟩
 dsimp only [tW,cJ,aGb,aBb]
 have lt:=hut.len
 refine aEx [none] uN ⟨_,rfl,_,rfl,a,_,rfl,s4.bB ha,fun ts H5 s5 g5=>?_⟩
 rw [show (1:Int)=((1:Nat):Int) from rfl,uX,List.drop_one,List.tail_cons] at g5
 refine ⟨ts,rfl,⟨_,g5⟩,aHw (aOb fun H' s'=>s'.bB g5) (aFi fun H' s'=>s'.bB g5) ⟨none,rfl⟩ (by lia) (cs.map (·.1)) (by rw [List.length_map];lia) (fun i x z ex ez H' R l sm r=>?_) fun L H6 s6 nL gL=>?_⟩
 ·obtain ⟨c',hc',p',rfl,hp'⟩:=dF hut ex
  rw [List.getElem?_map,hc'] at ez
  cases ez
  exact ⟨_,rfl,p',_,0,_,rfl,rfl,(s4.trans (s5.trans sm)).bB hp',at0 _ _,r H' (Same.refl _)⟩
 have allT:∀n:Nat,(List.replicate n true).all id=true:=fun n=>List.all_eq_true.mpr fun b hb=>(List.eq_of_mem_replicate hb)
 dsimp only [aK6,aVd,tB,tCB,dJ,List.set]
 refine lU [none,some (.str kd)] (jF 1 (by decide +kernel) rfl rfl (by trivial)) ⟨_,rfl,L,rfl,⟨_,SqL.of gL⟩,aHw (rY fun H' s'=>SqL.of (s' _ _ gL)) (jJ fun H' s'=>SqL.of (s' _ _ gL)) ⟨none,rfl⟩ (by rw [List.length_map];lia) (List.replicate cs.length (.bl true)) (by rw [List.length_replicate,List.length_map]) (fun i x z ex ez H' R l sm r=>?_) fun D H7 s7 _ g7=>?_⟩
 ·rw [List.getElem?_map] at ex
  obtain ⟨c',hc',rfl⟩:=Option.map_eq_some_iff.mp ex
  have ez':=List.eq_of_mem_replicate (List.mem_of_getElem? ez)
  subst ez'
  have hk:=(ok.each c' (List.mem_of_getElem? hc')).1
  obtain ⟨v1,v2⟩:=zB hk
  refine ⟨_,rfl,_,rfl,c'.1,kd,rfl,(vK hk).th,fun H2 s2=>?_⟩
  rw [v1,v2,decide_eq_true rfl]
  exact r H2 s2
 refine ⟨D,List.replicate cs.length true,rfl,SqL.of (by rw [g7,List.map_replicate]),?_⟩
 rw [allT]
 refine ⟨_,rfl,cB ?_⟩
 dsimp only [tW,uW,tCB,dJ]
 have gL7:=s7 _ _ gL
 refine aOk [none,none] mD ⟨_,rfl,_,rfl,_,rfl,L,_,rfl,SqL.of gL7,fun L2' H8 _ s8 g8=>?_⟩
 rw [show (1:Int)=((1:Nat):Int) from rfl,uX] at g8
 refine ⟨L,L2',_,_,rfl,SqL.of (s8 _ _ gL7),SqL.of g8,aE7 (SqL.of (s8 _ _ gL7)) (SqL.of g8) (by rw [List.length_drop];lia) ⟨none,none,rfl⟩ (by rw [List.length_drop,List.length_map];lia) (List.replicate ((cs.map (·.1)).drop 1).length (.bl true)) (by rw [List.length_replicate]) (fun i x y z ex ey ez H' R sm r=>?_) fun D2 H9 s9 g9=>?_⟩
 ·have ez':=List.eq_of_mem_replicate (List.mem_of_getElem? ez)
  subst ez'
  rw [List.getElem?_drop] at ey
  obtain ⟨hi,rfl⟩:=List.getElem?_eq_some_iff.mp ex
  obtain ⟨hj,rfl⟩:=List.getElem?_eq_some_iff.mp ey
  exact ⟨_,rfl,_,rfl,aT7 ((List.pairwise_iff_getElem.mp ok.up) i (1+i) hi hj (by lia)) (r H' (Same.refl _))⟩
 ·refine ⟨D2,List.replicate ((cs.map (·.1)).drop 1).length true,rfl,SqL.of (by rw [g9,List.map_replicate]),?_⟩
  rw [allT]
  exact q H9 (s4.trans (s5.trans (s6.trans (s7.trans (s8.trans s9)))))
def aMw (hd:Hdr):Prop:=Good hd∧∀c∈hd,Nm c.1∧aMb c.2
def aGm (K:PySem.W.Frag):Sp:=fun vs H Q _=>∃(v:V) (hd:Hdr),vs=[v]∧jT K H v hd∧aMw hd∧∀H',Same H H'→Q (.bl true) H'
def bU (K:PySem.W.Frag) (H:Hp) (D:Addr) (rs:List (List V)):Prop:=∃us,H D=some (.lst us)∧bZ (qL K H) us rs
theorem bU.same {H H':Hp} {D:Addr} {rs:List (List V)} (e:Same H H') (h:bU K H D rs):bU K H' D rs:=by
 obtain ⟨us,h1,h2⟩:=h
 exact ⟨us,e _ _ h1,h2.imp fun _ _ r=>r.same e⟩
theorem aFb (T:Txt w K mg) (aGy:Ok P w K mg base 3 "is_column" ["thing"] (aTj (aDk K))) (lG:Ok P w K mg base 4 "is_tuple_of" ["thing","least","most","is_part"] (aFq P w K mg base 3))
  (aDb:Ok P w K mg base 1 "are_unlike" ["names"] (aB8 K)) (jM:Ok P w K mg base 1 "names_of" ["head"] (aCz K)):Ok P w K mg base 5 "is_head" ["thing"] (aGm K):=by
 refine Ok.ofV T.aLe aHm (fun vs H Q E h=>?_) (fun f cdv A outer s H vs Q E hr h=>?_)
 ·obtain ⟨v,hd,rfl,_⟩:=h;rfl
 obtain ⟨v,hd,rfl,⟨a,us,rfl,ha,hu⟩,hok,q⟩:=h
 obtain ⟨fa,mf,hf⟩:=aGy.held
 have vU:∃u,mg "is_column"=some u∧RelV (.ref fa) u:=⟨_,mf,rfl⟩
 refine ⟨_,(aJ (aP (fX (aV (lG.mono (by decide)) hr (by rfl) (aD (vv 0) (aD aG (aD (qW (by rfl) T.xH) (aD (qW (by rfl) vU) aC))))) (gW (aV (aDb.mono (by decide)) hr (by rfl) (aD (aV (jM.mono (by decide)) hr (by rfl) (aD (vv 0) aC)) aC)))))),?_⟩
 have lu:=hu.len
 have l1:=hok.1.2.1
 have l2:=hok.1.2.2
 have hall:us.all (fun _=>true)=true:=List.all_eq_true.mpr fun _ _=>rfl
 have ht:aB6 K (aDk K) 1 8 H (.ref a) true:=by
  have:=aB6.yes (K:=K) (R:=aDk K) (lo:=1) (hi:=8) (H:=H) (fun _=>true) ha (by lia) (by lia) (fun x hx=>by
   obtain ⟨c,hc,p,rfl,hp⟩:=hu.mem hx
   obtain ⟨hn,hk⟩:=hok.2 c hc
   have hth:Th K H (.str c.2):=aI7 (by rcases hk with e|e <;> rw [e] <;> decide +kernel)
   have z:=aDk.two (K:=K) (H:=H) hp hn.th hth
   have e:(nameB (.str c.1) && (isS (.str c.2) && inV (.str c.2) kinds))=true:=by
    rw [show nameB (.str c.1)=true from hn]
    rcases hk with e|e <;> rw [e] <;> decide +kernel
   rw [e] at z
   exact z)
  rw [hall] at this
  exact this
 refine ⟨_,rfl,_,1,8,fa,_,_,_,rfl,by decide,hf,aK7 K,ht,fun H1 s1=>⟨_,rfl,dW ?_⟩⟩
 refine ⟨_,rfl,.ref a,hd,rfl,jT.same s1 ⟨a,us,rfl,ha,hu⟩,by lia,fun D H2 s2 hD=>?_⟩
 refine ⟨D,hd.map (·.1),rfl,SqL.of hD,by rw [List.length_map];lia,fun H3 s3=>?_⟩
 rw [decide_eq_true ((aL5 _).mpr hok.1.1)]
 exact q H3 ((s1.trans s2).trans s3)
def xR (hd:Hdr) (r:List V):Prop:=bZ (fun c v=>dH c.2 v) hd r
def aKu (K:PySem.W.Frag):Sp:=fun vs H Q _=>∃(vh v:V) (hd:Hdr) (r:List V),vs=[vh,v]∧jT K H vh hd∧hd.length≤1000∧qL K H v r∧xR hd r∧∀H',Same H H'→Q (.bl true) H'
theorem aHy (T:Txt w K mg) (lD:Ok P w K mg base 3 "is_value_of" ["thing","kind"] (aI0 K)):Ok P w K mg base 4 "is_row" ["head","thing"] (aKu K):=by
 refine Ok.ofV T.aN2 aMx (fun vs H Q E h=>?_) (fun f cdv A outer s H vs Q E hr h=>?_)
 ·obtain ⟨vh,v,hd,r,rfl,_⟩:=h;rfl
 obtain ⟨vh,v,hd,r,rfl,⟨b,cs,rfl,hb,hc⟩,hl,⟨a,rfl,ha⟩,hr',q⟩:=h
 have lc:=hc.len
 have lr:=hr'.len
 refine ⟨_,(aF (cR (VW.pt (jA (cZ (cQ (aR iG (by rfl) T.bN bK (aD (vv 1) (aD (eQ (v:=.ty "tuple") (by rfl) T.iK eX rfl) aC))))) (iB (bY aG3 (aR bH (by rfl) T.gQ dY (aD (vv 1) aC)) (aR bH (by rfl) T.gQ dY (aD (vv 0) aC)) (bM _))))) (aJ (aP oE)) bJ) (aJ (aP (aR (jK rfl) (by rfl) T.aAe rQ (aD (cM (N:=["value","column"]) (by trivial) (iV (by decide +kernel)) rfl (aRs (by rfl) T.aSo (aD (vv 1) (aD (vv 0) aC))) (fun cl s' H' fp=>⟨(pU (K:=K) (n:=2) rfl (bI (aU (i:=0) (show (["value","column"]:List Str).Nodup from by decide +kernel) rfl (Or.inl rfl)) (bI (aU (i:=1) (show (["value","column"]:List Str).Nodup from by decide +kernel) rfl (Or.inl rfl)) fJ))),dD,(aV (lD.mono (by decide)) hr (by rfl) (aD (vv 0) (aD (aZ (cH (K:=K)) (vv 1) aG (fun _ _=>rfl)) aC)))⟩)) aC))))),?_⟩
 refine ⟨_,rfl,_,_,rfl,.tup ha,_,rfl,cB ?_⟩
 refine ⟨_,rfl,_,_,rfl,.inr ha,_,rfl,_,_,rfl,.inr hb,rfl,_,rfl,?_⟩
 have e:(!decide (V.int (r.length:Nat)=V.int (cs.length:Nat)))=false:=by rw [show r.length=cs.length by lia];simp
 rw [e]
 refine cB ?_
 dsimp only [tW,uW,tCB,dJ]
 refine aNm r cs (fun _ _=>.bl true) [none,none] mD (small (by lia)) (by lia) ha hb (fun R r=>⟨_,rfl,_,rfl,r⟩) (fun i x c ex ec H' R l1 l2 sm r'=>?_) rfl rfl fun D H' sm hD=>?_
 ·obtain ⟨c',hc',p,rfl,hp⟩:=dF hc ec
  obtain ⟨x',hx',hk⟩:=dF hr' hc'
  rw [ex] at hx'
  cases hx'
  obtain ⟨v1,v2⟩:=zB hk
  refine ⟨_,rfl,_,rfl,p,_,1,_,rfl,rfl,sm.bB hp,at1 _ _ _,x,c'.2,rfl,(vK hk).th,fun H1 s1=>?_⟩
  rw [v1,v2,decide_eq_true rfl]
  exact r' H1 s1
 ·have ez:List.zipWith (fun _ _:V=>V.bl true) r cs=(List.replicate r.length true).map V.bl:=by
   rw [List.map_replicate]
   refine List.eq_replicate_iff.mpr ⟨by rw [List.length_zipWith];lia,fun b hb'=>?_⟩
   obtain ⟨i,hi,rfl⟩:=List.getElem_of_mem hb'
   rw [List.getElem_zipWith]
  refine ⟨D,List.replicate r.length true,rfl,SqL.of (by rw [hD,ez]),?_⟩
  rw [show (List.replicate r.length true).all id=true from List.all_eq_true.mpr fun b hb'=>List.eq_of_mem_replicate hb']
  exact q H' sm
def aEv (K:PySem.W.Frag):Sp:=fun vs H Q _=>∃(vh:V) (hd:Hdr) (n:Str),vs=[vh,.str n]∧jT K H vh hd∧hd.length≤1000∧Nm n∧n∈hd.map (·.1)∧∀H',Same H H'→Q (.bl true) H'
theorem wI (T:Txt w K mg) (iD:Ok P w K mg base 2 "is_name" ["thing"] (aAr K nameB)) (jM:Ok P w K mg base 1 "names_of" ["head"] (aCz K)):Ok P w K mg base 3 "is_column_in" ["head","thing"] (aEv K):=by
 refine Ok.ofV T.yJ wH (fun vs H Q E h=>?_) (fun f cdv A outer s H vs Q E hr h=>?_)
 ·obtain ⟨vh,hd,n,rfl,_⟩:=h;rfl
 obtain ⟨vh,hd,n,rfl,hI,hl,hn,hm,q⟩:=h
 refine ⟨_,(aJ (aP (fX (aV (iD.mono (by decide)) hr (by rfl) (aD (vv 1) aC)) (gW (cU uZ (vv 1) (aV (jM.mono (by decide)) hr (by rfl) (aD (vv 0) aC)) (by with_unfolding_all rfl)))))),?_⟩
 refine ⟨_,rfl,_,rfl,hn.th,fun H1 s1=>⟨_,rfl,?_⟩⟩
 rw [show nameB (.str n)=true from hn]
 refine dW ⟨_,rfl,_,rfl,vh,hd,rfl,hI.same s1,hl,fun D H2 s2 hD=>?_⟩
 refine ⟨D,_,rfl,.inl (SqL.of hD),rfl,aGj,?_⟩
 show Q (.bl (inV (.str n) _)) H2
 rw [aKp,decide_eq_true hm]
 exact q H2 (s1.trans s2)
inductive Plc where
 |copies
 |keys (n:Str)
 |spans (n:Str) (h0:Int) (cs:List (V × Int))
def wV (K:PySem.W.Frag) (H:Hp) (v:V):Plc→Prop
 |.copies=>∃a,v=.ref a∧SqT K H a [.str "copies"]
 |.keys n=>∃a,v=.ref a∧SqT K H a [.str "keys",.str n]
 |.spans n h0 cs=>∃a vc,v=.ref a∧SqT K H a [.str "spans",.str n,vc]∧uM K H (nY K H) vc ((.non,h0)::cs)
theorem wV.same {K:PySem.W.Frag} {H H':Hp} {v:V} {pl:Plc} (e:Same H H') (h:wV K H v pl):wV K H' v pl:=by
 cases pl with
 |copies=>obtain ⟨a,rfl,ha⟩:=h;exact ⟨a,rfl,e.bB ha⟩
 |keys n=>obtain ⟨a,rfl,ha⟩:=h;exact ⟨a,rfl,e.bB ha⟩
 |spans n h0 cs=>obtain ⟨a,vc,rfl,ha,hc⟩:=h;exact ⟨a,vc,rfl,e.bB ha,uM.same e (fun _ _ q=>q.same e) hc⟩
def aQ6 (hd:Hdr) (m:Int):Plc→Prop
 |.copies=>True
 |.keys n=>Nm n∧∃k,look hd n=some k
 |.spans n h0 cs=>Nm n∧∃k,look hd n=some k∧aMb k∧aM3 k m h0 cs
theorem yL {hd:Hdr} {n k:Str} (h:look hd n=some k):n∈hd.map (·.1):=by
 obtain ⟨i,h1,_⟩:=aDc h
 exact List.mem_map.mpr ⟨_,List.mem_of_getElem? h1,rfl⟩
theorem aNx {c:Bool} {p q:Prop} (h:c=true) (hp:p):if c=true then p else q:=by rw [if_pos h];exact hp
theorem yI {c:Bool} {p q:Prop} (h:c=false) (hq:q):if c=true then p else q:=by rw [if_neg (by rw [h];exact Bool.false_ne_true)];exact hq
def aSt (K:PySem.W.Frag) (Pt:Addr):Sp:=fun vs H Q _=>∃(v vh:V) (m:Int) (hd:Hdr) (pl:Plc),vs=[v,vh,.int m]∧wV K H v pl∧jT K H vh hd∧hd.length≤1000∧aQ6 hd m pl∧H Pt=some (.tab qC)∧∀H',Same H H'→Q (.bl true) H'
theorem th8 {K:PySem.W.Frag} {H:Hp} {x:Str} (h:x.length≤8):Th K H (.str x):=aI7 h
theorem aA5 (T:Txt w K mg) {Pt:Addr} (iU:Ok P w K mg base 1 "is_one_of" ["thing","texts"] (aJh K)) (pL:Ok P w K mg base 3 "is_column_in" ["head","thing"] (aEv K)) (aMr:Ok P w K mg base 1 "kind_in" ["head","name"] (aPi K)) (aHo:Ok P w K mg base 6 "are_cuts" ["thing","kind","houses"] (aKq K Pt)):Ok P w K mg base 7 "is_placing" ["thing","head","houses"] (aSt K Pt):=by
 refine Ok.ofV T.aDg aAt (fun vs H Q E h=>?_) (fun f cdv A outer s H vs Q E hr h=>?_)
 ·obtain ⟨v,vh,m,hd,pl,rfl,_⟩:=h;rfl
 obtain ⟨v,vh,m,hd,pl,rfl,hpl,hI,hl,hok,hP,q⟩:=h
 refine ⟨_,(aF (cR (VW.pt (jA (cZ (cQ (aR iG (by rfl) T.bN bK (aD (vv 0) (aD (eQ (v:=.ty "tuple") (by rfl) T.iK eX rfl) aC))))) (iB (bY gA (aR bH (by rfl) T.gQ dY (aD (vv 0) aC)) aG (bM _))))) (aJ (aP oE)) bJ) (aF (cR (cQ (aV (iU.mono (by decide)) hr (by rfl) (aD (aZ cA (vv 0) aG (fun _ _=>rfl)) (aD (cL (aD bF aC)) aC)))) (aJ (aP (cU gA (aR bH (by rfl) T.gQ dY (aD (vv 0) aC)) aG (bM _)))) bJ) (aF (cR (cQ (aV (iU.mono (by decide)) hr (by rfl) (aD (aZ cA (vv 0) aG (fun _ _=>rfl)) (aD (cL (aD bF aC)) aC)))) (aJ (aP (fX (cU gA (aR bH (by rfl) T.gQ dY (aD (vv 0) aC)) aG (bM _)) (gW (aV (pL.mono (by decide)) hr (by rfl) (aD (vv 1) (aD (aZ cA (vv 0) aG (fun _ _=>rfl)) aC))))))) bJ) (aF (cR (VW.pt (jA (cZ (cQ (aV (iU.mono (by decide)) hr (by rfl) (aD (aZ cA (vv 0) aG (fun _ _=>rfl)) (aD (cL (aD bF aC)) aC))))) (jA (bY aG3 (aR bH (by rfl) T.gQ dY (aD (vv 0) aC)) aG (bM _)) (iB (cZ (cQ (aV (pL.mono (by decide)) hr (by rfl) (aD (vv 1) (aD (aZ cA (vv 0) aG (fun _ _=>rfl)) aC))))))))) (aJ (aP oE)) bJ) (aJ (aP (aV (aHo.mono (by decide)) hr (by rfl) (aD (aZ cA (vv 0) aG (fun _ _=>rfl)) (aD (aV (aMr.mono (by decide)) hr (by rfl) (aD (vv 1) (aD (aZ cA (vv 0) aG (fun _ _=>rfl)) aC))) (aD (vv 2) aC)))))))))),?_⟩
 cases pl with
 |copies=>
  obtain ⟨a,rfl,ha⟩:=hpl
  refine ⟨_,rfl,_,_,rfl,.tup ha,_,rfl,cB ⟨_,rfl,_,_,rfl,.inr ha,rfl,_,rfl,cB ?_⟩⟩
  refine ⟨_,rfl,a,_,0,_,rfl,rfl,ha,at0 _ _,by show 1≤sizeLine;decide,fun t1 H1 _ s1 g1=>⟨_,t1,_,rfl,th8 (by decide +kernel),SqT.of g1,rfl,_,rfl,aNx (by decide +kernel) ?_⟩⟩
  refine ⟨_,rfl,_,_,rfl,.inr (s1.bB ha),rfl,?_⟩
  exact q H1 s1
 |keys n=>
  obtain ⟨a,rfl,ha⟩:=hpl
  obtain ⟨hn,k,hk⟩:=hok
  refine ⟨_,rfl,_,_,rfl,.tup ha,_,rfl,cB ⟨_,rfl,_,_,rfl,.inr ha,rfl,_,rfl,cB ?_⟩⟩
  refine ⟨_,rfl,a,_,0,_,rfl,rfl,ha,at0 _ _,by show 1≤sizeLine;decide,fun t1 H1 _ s1 g1=>⟨_,t1,_,rfl,th8 (by decide +kernel),SqT.of g1,rfl,_,rfl,yI (by decide +kernel) ?_⟩⟩
  refine ⟨_,rfl,a,_,0,_,rfl,rfl,s1.bB ha,at0 _ _,by show 1≤sizeLine;decide,fun t2 H2 _ s2 g2=>⟨_,t2,_,rfl,th8 (by decide +kernel),SqT.of g2,rfl,_,rfl,aNx (by decide +kernel) ?_⟩⟩
  have s12:=s1.trans s2
  refine ⟨_,rfl,_,_,rfl,.inr (s12.bB ha),rfl,_,rfl,dW ?_⟩
  exact ⟨_,rfl,_,rfl,a,_,1,_,rfl,rfl,s12.bB ha,at1 _ _ _,vh,hd,n,rfl,hI.same s12,hl,hn,yL hk,fun H' s'=>q H' (s12.trans s')⟩
 |spans n h0 cs=>
  obtain ⟨a,vc,rfl,ha,hc⟩:=hpl
  obtain ⟨hn,k,hk,hkd,hcs⟩:=hok
  refine ⟨_,rfl,_,_,rfl,.tup ha,_,rfl,cB ⟨_,rfl,_,_,rfl,.inr ha,rfl,_,rfl,cB ?_⟩⟩
  refine ⟨_,rfl,a,_,0,_,rfl,rfl,ha,at0 _ _,by show 1≤sizeLine;decide,fun t1 H1 _ s1 g1=>⟨_,t1,_,rfl,th8 (by decide +kernel),SqT.of g1,rfl,_,rfl,yI (by decide +kernel) ?_⟩⟩
  refine ⟨_,rfl,a,_,0,_,rfl,rfl,s1.bB ha,at0 _ _,by show 1≤sizeLine;decide,fun t2 H2 _ s2 g2=>⟨_,t2,_,rfl,th8 (by decide +kernel),SqT.of g2,rfl,_,rfl,yI (by decide +kernel) ?_⟩⟩
  have s12:=s1.trans s2
  refine ⟨_,rfl,a,_,0,_,rfl,rfl,s12.bB ha,at0 _ _,by show 1≤sizeLine;decide,fun t3 H3 _ s3 g3=>⟨_,t3,_,rfl,th8 (by decide +kernel),SqT.of g3,rfl,_,rfl,yI (by decide +kernel) ?_⟩⟩
  have s13:=s12.trans s3
  refine ⟨_,rfl,_,_,rfl,.inr (s13.bB ha),rfl,_,rfl,cB ?_⟩
  refine ⟨_,rfl,_,rfl,a,_,1,_,rfl,rfl,s13.bB ha,at1 _ _ _,vh,hd,n,rfl,hI.same s13,hl,hn,yL hk,fun H4 s4=>⟨_,rfl,cB ?_⟩⟩
  have s14:=s13.trans s4
  refine ⟨_,rfl,a,_,2,_,rfl,rfl,s14.bB ha,at2 _ _ _ _,_,rfl,_,rfl,a,_,1,_,rfl,rfl,s14.bB ha,at1 _ _ _,vh,n,hd,k,rfl,hI.same s14,hk,_,rfl,?_⟩
  exact ⟨vc,k,m,h0,cs,rfl,uM.same s14 (fun _ _ z=>z.same s14) hc,hkd,hcs,s14 _ _ hP,fun H' s'=>q H' (s14.trans s')⟩
def aGi (K:PySem.W.Frag):Sp:=fun vs H Q _=>∃(L:Addr) (vh:V) (hd:Hdr) (rows:List (List V)),vs=[.ref L,vh]∧jT K H vh hd∧hd.length≤1000∧bU K H L rows∧rows.length≤1000∧(∀r∈rows,xR hd r)∧∀H',Same H H'→Q (.bl true) H'
theorem aEn (T:Txt w K mg) (aP3:Ok P w K mg base 4 "is_row" ["head","thing"] (aKu K)):Ok P w K mg base 5 "are_rows" ["thing","head"] (aGi K):=by
 refine Ok.ofV T.aIj aFw (fun vs H Q E h=>?_) (fun f cdv A outer s H vs Q E hr h=>?_)
 ·obtain ⟨L,vh,hd,rows,rfl,_⟩:=h;rfl
 obtain ⟨L,vh,hd,rows,rfl,hI,hl,⟨us,gL,hu⟩,hn,hok,q⟩:=h
 refine ⟨_,(aJ (aP (fX (aR aKz (by rfl) T.bN bK (aD (vv 0) (aD (eQ (v:=.ty "list") (by rfl) T.rM nQ rfl) aC))) (gW (aR (jK rfl) (by rfl) T.aAe rQ (aD (cM (N:=["row","head"]) (by trivial) (gJ (aH mY) rfl (by decide +kernel)) rfl (fK (vv 0)) (fun cl s' H' fp=>⟨(aU (i:=0) (show (["row","head"]:List Str).Nodup from by decide +kernel) rfl (Or.inl rfl)),dD,(aV (aP3.mono (by decide)) hr (by rfl) (aD (vv 1) (aD (vv 0) aC)))⟩)) aC)))))),?_⟩
 have lu:=hu.len
 refine ⟨_,rfl,L,us,rfl,SqL.of gL,_,rfl,dW ?_⟩
 dsimp only [uW,tCB,dJ]
 refine lU [none,some vh] (jF 1 (by decide +kernel) rfl rfl (by trivial)) ⟨_,rfl,L,rfl,⟨_,SqL.of gL⟩,aHw (rY fun H' s'=>SqL.of (s' _ _ gL)) (jJ fun H' s'=>SqL.of (s' _ _ gL)) ⟨none,rfl⟩ (by lia) (List.replicate us.length (.bl true)) (by rw [List.length_replicate]) (fun i x z ex ez H' R l sm r=>?_) fun D H7 s7 _ g7=>?_⟩
 ·have ez':=List.eq_of_mem_replicate (List.mem_of_getElem? ez)
  subst ez'
  obtain ⟨r',hr',hx⟩:=dF hu ex
  exact ⟨_,rfl,_,rfl,vh,x,hd,r',rfl,hI.same sm,hl,hx.same sm,hok r' (List.mem_of_getElem? hr'),fun H2 s2=>r H2 s2⟩
 ·refine ⟨D,List.replicate us.length true,rfl,SqL.of (by rw [g7,List.map_replicate]),?_⟩
  rw [show (List.replicate us.length true).all id=true from List.all_eq_true.mpr fun b hb'=>List.eq_of_mem_replicate hb']
  exact q H7 s7
structure Tb where
 hd:Hdr
 pl:Plc
 rows:List (List V)
def mW (K:PySem.W.Frag) (H:Hp) (v:V) (vh vp:V) (L:Addr) (t:Tb):Prop:=∃a,v=.ref a∧SqT K H a [vh,vp,.ref L]∧jT K H vh t.hd∧wV K H vp t.pl∧bU K H L t.rows
structure rA (m:Int) (t:Tb):Prop where
 hd:aMw t.hd
 pl:aQ6 t.hd m t.pl
 few:t.rows.length≤60
 rows:∀r∈t.rows,xR t.hd r
def aSn (K:PySem.W.Frag) (Pt:Addr):Sp:=fun vs H Q _=>∃(v vh vp:V) (L:Addr) (m:Int) (t:Tb),vs=[v,.int m]∧mW K H v vh vp L t∧rA m t∧H Pt=some (.tab qC)∧∀H',Same H H'→Q (.bl true) H'
theorem aFk (T:Txt w K mg) {Pt:Addr} (aL9:Ok P w K mg base 5 "is_head" ["thing"] (aGm K)) (aC8:Ok P w K mg base 7 "is_placing" ["thing","head","houses"] (aSt K Pt)) (aIi:Ok P w K mg base 5 "are_rows" ["thing","head"] (aGi K)):Ok P w K mg base 8 "is_table" ["thing","houses"] (aSn K Pt):=by
 refine Ok.ofV T.aHj aFn (fun vs H Q E h=>?_) (fun f cdv A outer s H vs Q E hr h=>?_)
 ·obtain ⟨v,vh,vp,L,m,t,rfl,_⟩:=h;rfl
 obtain ⟨v,vh,vp,L,m,t,rfl,⟨a,rfl,ha,hI,hpl,hR⟩,ok,hP,q⟩:=h
 have l8:=ok.hd.1.2.2
 have few:=ok.few
 refine ⟨_,(aF (cR (VW.pt (jA (cZ (cQ (aR iG (by rfl) T.bN bK (aD (vv 0) (aD (eQ (v:=.ty "tuple") (by rfl) T.iK eX rfl) aC))))) (jA (bY aG3 (aR bH (by rfl) T.gQ dY (aD (vv 0) aC)) aG (bM _)) (iB (cZ (cQ (aV (aL9.mono (by decide)) hr (by rfl) (aD (aZ cA (vv 0) aG (fun _ _=>rfl)) aC)))))))) (aJ (aP oE)) bJ) (aJ (aP (fX (aV (aC8.mono (by decide)) hr (by rfl) (aD (aZ cA (vv 0) aG (fun _ _=>rfl)) (aD (aZ cA (vv 0) aG (fun _ _=>rfl)) (aD (vv 1) aC)))) (gW (aV (aIi.mono (by decide)) hr (by rfl) (aD (aZ cA (vv 0) aG (fun _ _=>rfl)) (aD (aZ cA (vv 0) aG (fun _ _=>rfl)) aC)))))))),?_⟩
 refine ⟨_,rfl,_,_,rfl,.tup ha,_,rfl,cB ⟨_,rfl,_,_,rfl,.inr ha,rfl,_,rfl,cB ?_⟩⟩
 refine ⟨_,rfl,a,_,0,_,rfl,rfl,ha,at0 _ _,vh,t.hd,rfl,hI,ok.hd,fun H1 s1=>⟨_,rfl,cB ?_⟩⟩
 refine ⟨_,rfl,a,_,1,_,rfl,rfl,s1.bB ha,at1 _ _ _,_,rfl,a,_,0,_,rfl,rfl,s1.bB ha,at0 _ _,_,rfl,vp,vh,m,t.hd,t.pl,rfl,hpl.same s1,hI.same s1,by lia,ok.pl,s1 _ _ hP,fun H2 s2=>⟨_,rfl,dW ?_⟩⟩
 have s12:=s1.trans s2
 exact ⟨_,rfl,a,_,2,_,rfl,rfl,s12.bB ha,at2 _ _ _ _,_,rfl,a,_,0,_,rfl,rfl,s12.bB ha,at0 _ _,L,vh,t.hd,t.rows,rfl,hI.same s12,by lia,hR.same s12,by lia,ok.rows,fun H3 s3=>q H3 (s12.trans s3)⟩
end
end My
namespace L2
open PySem PySem.Spec PyProof.Rows
section
variable {X:Cx} {pins:List (Addr × Obj)} {σ:L2.St} {H:Hp} {s:Shared} {d:Addr} {o:Obj} {kvs:List (Key × V)}
theorem aQs {u u':HO} (ok:HOk X.prog X.w H s.heap) (hd:H d=some u) (nt:∀xs,u≠.tup xs) (no:∀a,u≠.own a) (h:cT X.prog X.w H s.heap d u'):HOk X.prog X.w (upd H d u') s.heap:=by
 have st:∀{b v},cT X.prog X.w H s.heap b v→cT X.prog X.w (upd H d u') s.heap b v:=fun {b v} z=>z.stay (fun _ _ _ q=>q) (fun c q=>by
  rw [aM (fun e=>by subst e;rw [hd] at q;exact no _ (Option.some.inj q))]
  exact q) fun c xs q=>by
  rw [aM (fun e=>by subst e;rw [hd] at q;exact nt _ (Option.some.inj q))]
  exact q
 intro b v e
 by_cases hb:b=d
 ·subst hb
  rw [aK] at e
  cases e
  exact st h
 ·rw [aM hb] at e
  exact st (ok b v e)
theorem Inv.setd {u u':HO} (I:Inv X pins σ H s) (hd:H d=some u) (nt:∀xs,u≠.tup xs) (no:∀a,u≠.own a) (nb:∀ps,u≠.tbl ps) (nf:∀ob v,X.H₀ d≠some (.frz ob v)) (h:cT X.prog X.w H s.heap d u'):Inv X pins σ (upd H d u') s:=by
 have ne:∀{b},H b=none→upd H d u' b=none:=fun {b} e=>by
  rw [aM (fun z=>by subst z;rw [hd] at e;cases e)]
  exact e
 refine ⟨I.ok,I.os,I.bare,⟨I.base.keep,I.base.slot,fun b ob e n hx=>ne (I.base.free b ob e n hx),I.base.there,fun b xs e=>?_,fun b ob v e=>?_,fun b ps e=>?_⟩,I.loc,I.cell,ne I.free,fun x c e=>ne (I.freeC x c e),fun p hp=>?_,aQs I.hok hd nt no h,I.len⟩
 ·have q:=I.base.tups b xs e
  rw [aM (fun z=>by subst z;rw [hd] at q;exact nt _ (Option.some.inj q))]
  exact q
 ·have q:=I.base.frzs b ob v e
  rw [aM (fun z=>by subst z;exact nf _ _ e)]
  exact q
 ·obtain ⟨more,q⟩:=I.base.tbls b ps e
  refine ⟨more,?_⟩
  rw [aM (fun z=>by subst z;rw [hd] at q;exact nb _ (Option.some.inj q))]
  exact q
 ·obtain ⟨h1,h2,h3⟩:=I.pin p hp
  exact ⟨h1,ne h2,h3⟩
end
def Itd (d:Addr) (o:Obj) (kvs:List (Key × V)):It:=
 ⟨fun i H=>H d=some (.frz o (.dK kvs))∧i<kvs.length,fun i H x H'=>H'=H∧∀kv,kvs[i]?=some kv→x=kV kv.1,fun i H=>H d=some (.frz o (.dK kvs))∧i=kvs.length⟩
theorem wZ {P:Program} {w:World} {H:Hp} {h:Heap} {d:Addr} {o:Obj} {kvs:List (Key × V)} {es:Array DictEntry} {ep:Nat} (hep:o.data=.dict es ep) (ok:cT P w H h d (.frz o (.dK kvs))):∃vs,KV kvs vs∧h.DictAt (bC P w) d vs ep:=by
 obtain ⟨ho,_,_,vs,rel,⟨o',es',ep',h1,h2,h3,h4⟩⟩:=ok
 rw [ho] at h1
 cases h1
 rw [hep] at h3
 cases h3
 exact ⟨vs,rel,o,es,ho,h2,hep,h4⟩
theorem aN4 {P:Program} {w:World} {K:PySem.W.Frag} {tg:Expr} (d it:Addr) (o:Obj) (kvs:List (Key × V)) (es:Array DictEntry) (ep:Nat) (hep:o.data=.dict es ep) (hk:∀kv∈kvs,∃n,kv.1=Sum.inr n):Turn P w K tg (Itd d o kvs) [it] it (fun i h=>h.IsKeyIter it d i kvs.length ep) where
 mem:=by simp
 obj:=fun i h st b hb=>by
  have e:b=it:=by simpa using hb
  subst e
  obtain ⟨ob,h1,h2,h3⟩:=st
  exact ⟨ob,h1,fun v z=>by rw [h3] at z;cases z⟩
 keep:=fun i h h' st k=>st.at fun ob e=>k it (by simp) ob e
 item:=by
  intro X hP hw hK hc i pins s σ H E I hf st hg
  subst hP hw hK
  obtain ⟨hd,hi⟩:=hg
  obtain ⟨vs,rel,da⟩:=wZ hep (I.hok d _ hd)
  have lk:=KV.length rel
  obtain ⟨f0,f1,f2,f3,f4,f5⟩:=hf it (by simp)
  have hkv:kvs[i]?=some kvs[i]:=List.getElem?_eq_getElem hi
  have hiv:i<vs.length:=by lia
  have hvs:vs[i]?=some (vs[i].1,vs[i].2):=List.getElem?_eq_getElem hiv
  have ek:kvs[i].1=vs[i].1:=by
   have:=congrArg (fun l=>l[i]?) (KV.keys rel)
   simp only [List.getElem?_map,hkv,hvs,Option.map_some] at this
   exact Option.some.inj this
  rw [lk] at st
  refine wpAny_pyNext_dict_item st da hvs fun key h' hkey hit' hs'=>?_
  obtain ⟨n,en⟩:=hk _ (List.getElem_mem hi)
  have I1:Inv X pins σ H { s with heap:=h',toks:=s.toks }:=I.turned (fun b ob hb e=>(hs'.2 b hb).trans e) f0 f1 f3 f4 f5
  rw [←ek,en] at hkey
  obtain ⟨t,rfl⟩:∃t,key=.str n t:=by
   cases key with
   |str x t=>
    have e:x=n:=by simpa [bC,oA,Value.isStrOf] using hkey
    exact ⟨t,by rw [e]⟩
   |_=>exact absurd (show false=true from hkey) Bool.false_ne_true
  obtain ⟨oi,hoi,ci,di⟩:=hit'
  refine ⟨_,rfl,aBi (s:={ s with heap:=h' }) (n:="dict_keyiterator") hoi ci di (by decide) ⟨.str n,H,I1,⟨t,rfl⟩,⟨rfl,fun kv e=>?_⟩,?_,fun b hb=>(hf b hb).1⟩⟩
  ·rw [hkv] at e
   cases e
   rw [en]
   rfl
  ·rw [lk]
   exact ⟨oi,hoi,ci,di⟩
 done:=by
  intro X hP hw hK hc i pins s σ H E I hf st hg
  subst hP hw hK
  obtain ⟨f0,f1,f2,f3,f4,f5⟩:=hf it (by simp)
  obtain ⟨hd,hi⟩:=hg
  obtain ⟨vs,rel,da⟩:=wZ hep (I.hok d _ hd)
  have lk:=KV.length rel
  rw [lk] at st
  exact wpAny_pyNext_dict_end (I.ok.hd hc) st da (List.getElem?_eq_none (by lia)) fun h' eb=>⟨rfl,I.turned (t':=s.toks) (fun b o hb e=>eb b o hb e) f0 f1 f3 f4 f5⟩
 self:=fun _ _ _ _ _ st h=>wpAny_pyIter_keyiter st h
section
variable {X:Cx} {tg:Expr}
def aXd (te:TE):TI:=fun σ H R=>te σ H fun v H1=>∃d kvs,v=.ref d∧H1 d=some (.dK kvs)∧(∀kv∈kvs,∃n,kv.1=Sum.inr n)∧(∀ob u,X.H₀ d≠some (.frz ob u))∧∀o,R (Itd d o kvs) (upd H1 d (.frz o (.dK kvs)))
end
section
variable {X:Cx} {tg:Expr}
theorem aVf {e:Expr} {te:TE} (h:VE X e te):VI X tg e (aXd (X:=X) te):=⟨by
 intro pins s σ H R I hh
 refine thn (h.1 pins s σ H _ I hh) fun v s1 ⟨x,H1,I1,r1,q1⟩=>?_
 obtain ⟨d,kvs,e,hd,hk,nf,q⟩:=q1
 subst e
 cases r1
 obtain ⟨z,hm,vs,rel,⟨o,es,ep,h1,h2,h3,h4⟩⟩:=sV I1.hok hd
 have lk:=KV.length rel
 have da:s1.heap.DictAt (bC X.prog X.w) d vs ep:=⟨o,es,h1,h2,h3,h4⟩
 have I2:Inv X pins σ (upd H1 d (.frz o (.dK kvs))) s1:=I1.setd hd (fun _ z=>by cases z) (fun _ z=>by cases z) (fun _ z=>by cases z) nf ⟨h1,I1.hok d _ hd⟩
 refine wpAny_pyIter_dict hm da ?_
 refine ⟨s1.heap.objs.size,[s1.heap.objs.size],_,_,_,rfl,I2.kept (t':=s1.toks) fun b o e=>Heap.get?_push_of_some _ e,aN4 d _ o kvs es ep h3 hk,?_,fun b hb=>?_,q o⟩
 ·rw [lk]
  exact ⟨_,Heap.get?_push_size _ rfl,rfl,rfl⟩
 ·have e:b=s1.heap.objs.size:=by simpa using hb
  subst e
  exact I2.aA1 (Nat.le_refl _) (I2.hok.fresh (Nat.le_refl _))⟩
def aWg (d:Addr) (kvs:List (Key × V)) (D:Ends):Ends:={ nx:=fun σ H=>(∃o,H d=some (.frz o (.dK kvs)))∧D.nx σ (upd H d (.dK kvs)),rt:=fun v H=>(∃o,H d=some (.frz o (.dK kvs)))∧D.rt v (upd H d (.dK kvs)) }
def aV0 (X:Cx) (t:TS):TS:=fun D σ H=>∃d kvs,H d=some (.dK kvs)∧((∀ob u,X.H₀ d≠some (.frz ob u))→t (aWg d kvs D) σ H)
theorem aKh {st:Stmt} {t:TS} (h:VS X st t):VS X st (aV0 X t):=⟨by
 intro pins s σ H D I ⟨d,kvs,hd,q⟩
 have nf:∀ob u,X.H₀ d≠some (.frz ob u):=fun ob u e=>by
  have:=I.base.frzs d ob u e
  rw [hd] at this
  cases this
 have thaw:∀{σ' H' s' o},Inv X pins σ' H' s'→H' d=some (.frz o (.dK kvs))→Inv X pins σ' (upd H' d (.dK kvs)) s':=fun {σ' H' s' o} I' ho=>I'.setd ho (fun _ z=>by cases z) (fun _ z=>by cases z) (fun _ z=>by cases z) nf (I'.hok d _ ho).2
 refine thn (h.1 pins s σ H _ I (q nf)) fun f s' hf=>?_
 cases f with
 |next=>obtain ⟨σ',H',I',⟨o,ho⟩,q'⟩:=hf;exact ⟨σ',_,thaw I' ho,q'⟩
 |brk=>obtain ⟨_,_,_,z⟩:=hf;exact z.elim
 |cont=>obtain ⟨_,_,_,z⟩:=hf;exact z.elim
 |ret u=>obtain ⟨v,σ',H',I',r,⟨o,ho⟩,q'⟩:=hf;exact ⟨v,σ',_,thaw I' ho,r,q'⟩⟩
end
theorem aSj {d:Addr} {o:Obj} {kvs:List (Key × V)} {g:TG} {tb:TS} {D:Ends} {σ:L2.St} {H:Hp} (Pv:Nat→L2.St→Hp→Prop) (h0:Pv 0 σ H) (hl:∀i σ H,i≤kvs.length→Pv i σ H→H d=some (.frz o (.dK kvs)))
  (hs:∀i kv σ H,kvs[i]?=some kv→Pv i σ H→g (kV kv.1) σ H fun σ2 H2=>tb { D with nx:=Pv (i+1),ct:=Pv (i+1),bk:=D.nx } σ2 H2) (hd:∀σ H,Pv kvs.length σ H→D.nx σ H) :
  ∃W:Nat→Nat→L2.St→Hp→Prop,(∃m,W 0 m σ H)∧∀i m σ H,W i m σ H →
   ((Itd d o kvs).stop i H∧D.nx σ H)∨((Itd d o kvs).go i H∧∃N:L2.St→Hp→Prop,(∀σ' H',N σ' H'→∃m',m'<m∧W (i+1) m' σ' H')∧∀x H',(Itd d o kvs).yld i H x H'→g x σ H' fun σ2 H2=>tb { D with nx:=N,ct:=N,bk:=D.nx } σ2 H2):=by
 refine ⟨fun i m σ H=>m=kvs.length - i∧i≤kvs.length∧Pv i σ H,⟨kvs.length,by simp,Nat.zero_le _,h0⟩,?_⟩
 rintro i m σ H ⟨rfl,hi,p⟩
 have q:=hl i σ H hi p
 by_cases hlt:i<kvs.length
 ·right
  refine ⟨⟨q,hlt⟩,Pv (i+1),fun σ' H' h=>⟨kvs.length - (i+1),by lia,rfl,by lia,h⟩,?_⟩
  rintro x H' ⟨rfl,hy⟩
  have e:=hy _ (List.getElem?_eq_getElem hlt)
  subst e
  exact hs i _ σ H' (List.getElem?_eq_getElem hlt) p
 ·left
  have e:i=kvs.length:=by lia
  subst e
  exact ⟨⟨q,rfl⟩,hd σ H p⟩
end L2
namespace PySem
section
variable {prog:Program} {w:World} {K:Type} [DecidableEq K] {knd:HeapKind prog w K} {A:Around} {E:Value→Shared→Prop} {s:Shared}
end
end PySem
namespace L2
open PySem PySem.Spec PyProof.Rows
section
variable {X:Cx}
end
end L2
namespace PySem
section
variable {prog:Program} {w:World} {A:Around} {E:Value→Shared→Prop} {s:Shared}
end
end PySem
namespace L2
open PySem PySem.Spec PyProof.Rows
section
variable {X:Cx} {tg:Expr}
end
section
variable {X:Cx} {tg:Expr}
end
end L2
namespace PySem
section
variable {prog:Program} {w:World} {A:Around} {E:Value→Shared→Prop} {s:Shared}
theorem aSd {it d:Addr} {i ep:Nat} {od:Obj} {es:Array DictEntry} {k0 v0:Value} {Q:Option Value→Shared→Prop} (ki:IsItemIter s.heap it d i es.size ep k0 v0) (gd:s.heap.get? d=some od) (dd:od.data=.dict es ep) (lt:i<es.size)
  (q:∀h',IsItemIterOut h' it d (i+1) es.size ep es[i].key es[i].val s.heap.objs.size→h'.get? s.heap.objs.size=some { cls:=.type "tuple",data:=.seq #[es[i].key,es[i].val] }→h'.objs.size=s.heap.objs.size+1 →
   (∀b o,b≠it→s.heap.get? b=some o→h'.get? b=some o)→Q (some (.ref s.heap.objs.size)) { s with heap:=h' }):wpAny (model prog w) A (pyNext (.ref it)) Q E s:=by
 have ty:s.TypeIs (.ref it) "dict_itemiterator":=⟨_,ki,rfl⟩
 have li:it<s.heap.objs.size:=Heap.lt_size ki
 unfold pyNext
 refine wpAny_bind (wpAny_attempt (wpAny_callSpecial?_slot (name:="__next__") ty F.slot_dict_itemiterator_next (wpAny_call_entry F.slot_dict_itemiterator_next ty F.entry_dict_itemiterator_next (wpAny_bind (wpAny_pure (wpAny_bind (wpAny_bind ?_)))) (F.args_dict_itemiterator_next_1 _))))
 refine wpAny_bind (wpAny_typeNameOfWhole_itemiter ty (wpAny_pure (wpAny_bind (wpAny_fieldsOf ki rfl ?_))))
 rw [show Builtin.Dict_items.ownsTuple "dict_itemiterator"=true from by decide]
 simp only [if_true]
 have nz:¬ ((Value.ref d == Value.none)=true):=Bool.false_ne_true
 show wpAny _ _ (ite ((Value.ref d == Value.none)=true) _ _) _ _ _
 rw [if_neg nz]
 refine wpAny_bind (wpAny_pure (wpAny_bind (wpAny_dictEntries gd dd ?_)))
 rw [if_neg (by simp)]
 refine wpAny_bind (wpAny_pure (wpAny_bind (wpAny_dictEpoch gd dd ?_)))
 rw [if_neg (by simp)]
 have ni:¬ ((i:Int)<0):=by lia
 refine wpAny_pure ?_
 simp only [ni,if_false,Int.toNat_natCast,Array.getElem?_eq_getElem lt]
 refine wpAny_bind (wpAny_bind (wpAny_typeNameOfWhole_itemiter ty (wpAny_pure (wpAny_bind (wpAny_isOneOf_itemiter ty ?_)))))
 show wpAny _ _ (setField (.ref it) 3 (rawInt ((i:Int)+1)) >>= _) _ _ s
 refine wpAny_bind (wpAny_setField_rec ki (by simp) fun h1 e1 s1=>?_)
 have f1:IsItemIter h1 it d (i+1) es.size ep k0 v0:=by
  have z:((i+1:Nat):Int)=(i:Int)+1:=by lia
  unfold IsItemIter
  rw [z]
  simpa [rawInt] using e1
 have ty1:Shared.TypeIs { s with heap:=h1 } (.ref it) "dict_itemiterator":=⟨_,f1,rfl⟩
 refine wpAny_bind (wpAny_holding (wpAny_bind (wpAny_isOneOf_itemiter ty1 (wpAny_bind (wpAny_isOneOf_itemiter ty1 ?_)))))
 have sz1:h1.objs.size=s.heap.objs.size:=s1.1
 show wpAny _ _ (Builtin.Dict_items.pairFromOwner (.ref it) 6 es[i].key es[i].val) _ _ { s with heap:=h1 }
 unfold Builtin.Dict_items.pairFromOwner
 refine wpAny_bind (wpAny_newTuple ?_)
 have f2:IsItemIter (h1.push { cls:=.type "tuple",data:=.seq #[es[i].key,es[i].val] }) it d (i+1) es.size ep k0 v0:=Heap.get?_push_of_some _ f1
 have t2:(h1.push { cls:=.type "tuple",data:=.seq #[es[i].key,es[i].val] }).get? s.heap.objs.size=some { cls:=.type "tuple",data:=.seq #[es[i].key,es[i].val] }:=by rw [←sz1];exact Heap.get?_push_size _ rfl
 have sz2:(h1.push { cls:=.type "tuple",data:=.seq #[es[i].key,es[i].val] }).objs.size=s.heap.objs.size+1:=by rw [Heap.size_push,sz1]
 have k2:∀b o,b≠it→s.heap.get? b=some o→(h1.push { cls:=.type "tuple",data:=.seq #[es[i].key,es[i].val] }).get? b=some o:=fun b o hb e=>Heap.get?_push_of_some _ (s1.extBut b o hb e)
 rw [show ({ s with heap:=h1 }:Shared).heap.objs.size=s.heap.objs.size from sz1]
 show wpAny _ _ (Builtin.Dict_items.ownedTupleIsFree (.ref it) >>= _) _ _ { s with heap:=h1.push { cls:=.type "tuple",data:=.seq #[es[i].key,es[i].val] } }
 generalize h1.push { cls:=.type "tuple",data:=.seq #[es[i].key,es[i].val] }=h2 at f2 t2 sz2 k2 ⊢
 unfold Builtin.Dict_items.ownedTupleIsFree
 refine wpAny_bind (wpAny_bind (wpAny_field f2 rfl (x:=.none) rfl (wpAny_pure ?_)))
 simp only [if_true]
 refine wpAny_bind (wpAny_field f2 rfl (x:=k0) rfl (wpAny_bind (wpAny_field f2 rfl (x:=v0) rfl (wpAny_bind (wpAny_setField_rec f2 (by simp) fun h3 e3 s3=>?_)))))
 have f3:IsItemIter h3 it d (i+1) es.size ep es[i].key v0:=e3
 refine wpAny_bind (wpAny_setField_rec f3 (by simp) fun h4 e4 s4=>?_)
 have f4:IsItemIter h4 it d (i+1) es.size ep es[i].key es[i].val:=e4
 refine wpAny_bind (wpAny_setField_rec f4 (by simp) fun h5 e5 s5=>?_)
 have f5:IsItemIterOut h5 it d (i+1) es.size ep es[i].key es[i].val s.heap.objs.size:=e5
 refine wpAny_bind (wpAny_setField_rec f5 (by simp) fun h6 e6 s6=>?_)
 have f6:IsItemIterOut h6 it d (i+1) es.size ep es[i].key es[i].val s.heap.objs.size:=e6
 have go:∀b o,b≠it→h2.get? b=some o→h6.get? b=some o:=fun b o hb e=>s6.extBut b o hb (s5.extBut b o hb (s4.extBut b o hb (s3.extBut b o hb e)))
 have sz6:h6.objs.size=s.heap.objs.size+1:=by
  have a3:h3.objs.size=h2.objs.size:=s3.1
  have a4:h4.objs.size=h3.objs.size:=s4.1
  have a5:h5.objs.size=h4.objs.size:=s5.1
  have a6:h6.objs.size=h5.objs.size:=s6.1
  lia
 exact wpAny_bind (wpAny_letGo (wpAny_pure (wpAny_pure ⟨_,rfl,wpAny_pure (q h6 f6 (go _ _ (Nat.ne_of_gt li) t2) sz6 fun b o hb e=>go b o hb (k2 b o hb e))⟩)))
theorem aHp {it d:Addr} {ep:Nat} {od:Obj} {es:Array DictEntry} {k0 v0:Value} {Q:Option Value→Shared→Prop} (hh:A.handled=none) (ki:IsItemIter s.heap it d es.size es.size ep k0 v0) (gd:s.heap.get? d=some od) (dd:od.data=.dict es ep)
  (q:∀h',Heap.ExtBut it s.heap h'→Q none { s with heap:=h' }):wpAny (model prog w) A (pyNext (.ref it)) Q E s:=by
 have ty:s.TypeIs (.ref it) "dict_itemiterator":=⟨_,ki,rfl⟩
 unfold pyNext
 refine wpAny_bind (wpAny_attempt (wpAny_callSpecial?_slot (name:="__next__") ty F.slot_dict_itemiterator_next (wpAny_call_entry F.slot_dict_itemiterator_next ty F.entry_dict_itemiterator_next (wpAny_bind (wpAny_pure (wpAny_bind (wpAny_bind ?_)))) (F.args_dict_itemiterator_next_1 _))))
 refine wpAny_bind (wpAny_typeNameOfWhole_itemiter ty (wpAny_pure (wpAny_bind (wpAny_fieldsOf ki rfl ?_))))
 rw [show Builtin.Dict_items.ownsTuple "dict_itemiterator"=true from by decide]
 simp only [if_true]
 have nz:¬ ((Value.ref d == Value.none)=true):=Bool.false_ne_true
 show wpAny _ _ (ite ((Value.ref d == Value.none)=true) _ _) _ _ _
 rw [if_neg nz]
 refine wpAny_bind (wpAny_pure (wpAny_bind (wpAny_dictEntries gd dd ?_)))
 rw [if_neg (by simp)]
 refine wpAny_bind (wpAny_pure (wpAny_bind (wpAny_dictEpoch gd dd ?_)))
 rw [if_neg (by simp)]
 have ni:¬ ((es.size:Int)<0):=by lia
 refine wpAny_pure ?_
 simp only [ni,if_false,Int.toNat_natCast,Array.getElem?_eq_none (Nat.le_refl es.size)]
 refine wpAny_bind (wpAny_bind (wpAny_typeNameOfWhole_itemiter ty (wpAny_pure ?_)))
 show wpAny _ _ (setField (.ref it) 2 .none >>= _) _ _ s
 refine wpAny_bind (wpAny_setField ki rfl (by simp) ?_)
 show wpAny _ _ (newExc (.type "StopIteration") [] >>= _) _ _ _
 refine wpAny_bind ?_
 simp only [newExc,newTuple,raiseNew]
 refine wpAny_bind (wpAny_newObj_type ?_ (by size_fits))
 refine wpAny_bind (m:=firstArgMember _ _) (wpAny_of_eq (a:=Value.none) (by simp only [firstArgMember];rfl) ?_)
 refine wpAny_newObj_type (wpAny_bind (wpAny_handled ?_)) (by size_fits)
 rw [show A.in1.handled=none from hh]
 refine wpAny_bind (wpAny_pure (wpAny_throw ?_))
 refine wpAny_bind (wpAny_isInstance (T:="StopIteration") (b:=true) ⟨_,Heap.get?_push_size _ rfl,rfl⟩ isSubtype_stop ?_)
 exact wpAny_pure (q _ (((Heap.SameBut.update ..).extBut.push _).push _))
theorem aOp {d:Addr} {Q:Value→Shared→Prop} (nd:(d == sysModules)=false) (ty:s.TypeIs (.ref d) "dict")
  (q:Q (.ref s.heap.objs.size) { s with heap:=s.heap.push { cls:=.type "dict_items",data:=.fields #[.ref d] } }):wpAny (model prog w) A (call (.builtin "dict.items") [.ref d]) Q E s:=by
 refine wpAny_call_entry F.slot_dict_items ty F.entry_dict_items ?_ (F.args_dict_items_1 _)
 unfold Builtin.«dict.items» Builtin.Dict.noArgs;refine wpAny_bind (wpAny_bind (wpAny_notOrdered_dict ty ?_));show wpAny _ _ (pure d) _ _ s;refine wpAny_pure ?_
 show wpAny _ _ (Builtin.Dict.showsAll d >>= _) _ _ _;unfold Builtin.Dict.showsAll;rw [if_neg (show ¬ (d == sysModules)=true by rw [nd];exact Bool.false_ne_true)]
 exact wpAny_bind (wpAny_pure (wpAny_bind (wpAny_newObj_type (wpAny_pure ⟨_,rfl,q⟩))))
theorem aEy {v d:Addr} {ep:Nat} {od:Obj} {es:Array DictEntry} {Q:Value→Shared→Prop} (hv:s.heap.IsItemsView v d) (gd:s.heap.get? d=some od) (dd:od.data=.dict es ep)
  (q:Q (.ref s.heap.objs.size) { s with heap:=s.heap.push { cls:=.type "dict_itemiterator",data:=.fields #[.none,.bool false,.ref d,.int 0 0,.int es.size 0,.int ep 0,.none,.none] } }):wpAny (model prog w) A (pyIter (.ref v)) Q E s:=by
 obtain ⟨ov,g1,g2,g3⟩:=id hv
 refine wpAny_pyIter_slot hv.typeIs F.slot_dict_items_iter (wpAny_call_entry F.slot_dict_items_iter hv.typeIs F.entry_dict_items_iter ?_ (F.args_dict_items_iter_1 _))
 unfold Builtin.«dict_items.__iter__» Builtin.Dict_items.dictOf;refine wpAny_bind (wpAny_pure (wpAny_bind (wpAny_bind (wpAny_field g1 g3 (x:=.ref d) rfl (wpAny_pure ?_)))))
 refine wpAny_bind ?_;unfold Builtin.Dict_items.newIterator;refine wpAny_bind (wpAny_dictEntries gd dd (wpAny_bind (wpAny_dictEpoch gd dd ?_)))
 rw [show Builtin.Dict_items.ownsTuple "dict_itemiterator"=true from by decide]
 simp only [if_true]
 refine wpAny_newObj_type (wpAny_pure ⟨_,rfl,"dict_itemiterator",_,⟨_,Heap.get?_push_size _ rfl,rfl⟩,F.slot_dict_itemiterator_next.lookup,?_⟩) (by simp only [sizeOk,Builtin.Dict_items.ownedTupleFields,List.size_toArray,List.length_append,List.length_cons,List.length_nil,sizeLine_eq];lia)
 simpa [rawInt,Builtin.Dict_items.ownedTupleFields] using q
end
end PySem
namespace PySem
open Builtin in
theorem yW:entryFor table "dict_itemiterator.__iter__"=some Builtin.«dict_keyiterator.__iter__»:=entryFor_alias (id':="dict_keyiterator.__iter__") (by kernel_rfl) rfl (by decide +kernel) (by kernel_rfl)
end PySem
namespace L2
open PySem PySem.Spec PyProof.Rows
section
variable {X:Cx}
end
section
variable {X:Cx}
end
def aHl (d:Addr) (o:Obj) (kvs:List (Key × V)):It:=
 ⟨fun i H=>H d=some (.frz o (.dK kvs))∧i<kvs.length,fun i H x H'=>∃T kv,H T=none∧x=.ref T∧kvs[i]?=some kv∧H'=upd H T (.tup [kV kv.1,kv.2]),fun i H=>H d=some (.frz o (.dK kvs))∧i=kvs.length⟩
theorem aVv {kvs:List (Key × V)} {vs:List (Key × Value)} (r:KV kvs vs):∀{i:Nat} {kv:Key × V},kvs[i]?=some kv→∃q,vs[i]?=some q∧kv.1=q.1∧RelV kv.2 q.2:=by
 unfold KV at r
 induction r with
 |nil=>intro i kv h;cases h
 |cons a _ ih=>
  intro i kv h
  cases i with
  |zero=>cases h;exact ⟨_,rfl,a⟩
  |succ i=>exact ih h
theorem aR4 {P:Program} {w:World} {n:Str} {key:Value} (h:(bC P w).is (Sum.inr n) key=true):∃t,key=.str n t:=by
 cases key with
 |str x t=>
  have e:x=n:=by simpa [bC,oA,Value.isStrOf] using h
  exact ⟨t,by rw [e]⟩
 |_=>exact absurd (show false=true from h) Bool.false_ne_true
theorem aGn {P:Program} {w:World} {K:PySem.W.Frag} {elts:List Expr} {kt:Nat} {pos:Pos} (d it:Addr) (o:Obj) (kvs:List (Key × V)) (es:Array DictEntry) (ep:Nat) (hep:o.data=.dict es ep) (hk:∀kv∈kvs,∃n,kv.1=Sum.inr n) :
  Turn P w K (.Tuple elts kt pos) (aHl d o kvs) [it] it (fun i h=>∃k0 v0,IsItemIter h it d i kvs.length ep k0 v0) where
 mem:=by simp
 obj:=fun i h st b hb=>by
  have e:b=it:=by simpa using hb
  subst e
  obtain ⟨k0,v0,h1⟩:=st
  exact ⟨_,h1,fun v z=>by cases (show Data.fields _=Data.cell v from z)⟩
 keep:=fun i h h' st k=>by
  obtain ⟨k0,v0,h1⟩:=st
  exact ⟨k0,v0,k it (by simp) _ h1⟩
 item:=by
  intro X hP hw hK hc i pins s σ H E I hf st hg
  subst hP hw hK
  obtain ⟨k0,v0,st⟩:=st
  obtain ⟨hd,hi⟩:=hg
  obtain ⟨vs,rel,od,es',gd,_,hep',_,hpr,_⟩:=wZ hep (I.hok d _ hd)
  have go:s.heap.get? d=some o:=(I.hok d _ hd).1
  rw [go] at gd
  cases gd
  rw [hep] at hep'
  cases hep'
  have lk:es.size=kvs.length:=by rw [KV.length rel,←hpr.length,Array.length_toList]
  have hkv:kvs[i]?=some kvs[i]:=List.getElem?_eq_getElem hi
  obtain ⟨x,hx,e1,e3⟩:=aVv rel hkv
  have hie:i<es.size:=by lia
  obtain ⟨ek1,ek2⟩:=hpr.get? (i:=i) (e:=es[i]) (k:=x.1) (v:=x.2) (by rw [Array.getElem?_toList];exact Array.getElem?_eq_getElem hie) hx
  obtain ⟨n,en⟩:=hk _ (List.getElem_mem hi)
  rw [←e1,en] at ek1
  obtain ⟨t,ek1⟩:=aR4 ek1
  have fit:=hf it (by simp)
  rw [←lk] at st
  refine aSd st go hep hie fun h' a1 a2 a3 kp=>?_
  rw [ek1,ek2] at a1 a2
  refine ⟨_,rfl,?_⟩
  have fT:H s.heap.objs.size=none:=I.hok.fresh (Nat.le_refl _)
  have nit:it≠s.heap.objs.size:=Nat.ne_of_lt (Heap.lt_size st)
  have ekv:kV kvs[i].1=.str n:=by rw [en];rfl
  have I1:Inv X pins σ (upd H s.heap.objs.size (.tup [kV kvs[i].1,kvs[i].2])) { s with heap:=h' }:=by
   rw [ekv]
   refine I.drawn (ch:=[it]) (its:=[.str n t,x.2]) (fun b hb=>?_) (fun b o hb e=>kp b o (by simpa using hb) e) (Nat.le_refl _) (.cons ⟨t,rfl⟩ (.cons e3 .nil)) (small (by simp)) (.of a2 rfl ⟨_,a2,rfl,_,rfl⟩) (fun b hb=>?_)
   ·have:b=it:=by simpa using hb
    rw [this];exact fit
   ·have:b=it:=by simpa using hb
    rw [this];exact ⟨_,a1⟩
  refine wpAny_letOwnedTupleGo_items (s:={ s with heap:=h' }) a1 fun h2 z2 s2=>?_
  obtain ⟨g0,g1,g2,g3,g4,g5⟩:=fit
  have I2:Inv X pins σ (upd H s.heap.objs.size (.tup [kV kvs[i].1,kvs[i].2])) { s with heap:=h2 }:=Inv.turned (s:={ s with heap:=h' }) I1 (t':=s.toks) (it:=it) (fun b o hb e=>(s2.2 b hb).trans e) (by rw [aM nit];exact g0) g1 g3 g4 g5
  refine ⟨.ref s.heap.objs.size,_,I2,rfl,⟨_,kvs[i],fT,rfl,hkv,rfl⟩,⟨_,_,by rw [←lk];exact z2⟩,fun b hb=>?_⟩
  have:b=it:=by simpa using hb
  rw [this,aM nit]
  exact g0
 done:=by
  intro X hP hw hK hc i pins s σ H E I hf st hg
  subst hP hw hK
  obtain ⟨k0,v0,st⟩:=st
  obtain ⟨f0,f1,f2,f3,f4,f5⟩:=hf it (by simp)
  obtain ⟨hd,hi⟩:=hg
  obtain ⟨vs,rel,od,es',gd,_,hep',_,hpr,_⟩:=wZ hep (I.hok d _ hd)
  have go:s.heap.get? d=some o:=(I.hok d _ hd).1
  rw [go] at gd
  cases gd
  rw [hep] at hep'
  cases hep'
  have lk:es.size=kvs.length:=by rw [KV.length rel,←hpr.length,Array.length_toList]
  rw [hi,←lk] at st
  exact aHp (I.ok.hd hc) st go hep fun h' eb=>⟨rfl,I.turned (t':=s.toks) (fun b o hb e=>eb b o hb e) f0 f1 f3 f4 f5⟩
 self:=fun A i s Q E st h=>by
  obtain ⟨k0,v0,st⟩:=st
  have ty:s.TypeIs (.ref it) "dict_itemiterator":=⟨_,st,rfl⟩
  refine wpAny_pyIter_slot ty PySem.F.slot_dict_itemiterator_iter (wpAny_call_entry PySem.F.slot_dict_itemiterator_iter ty PySem.yW ?_ (PySem.F.args_dict_itemiterator_iter_1 _))
  show wpAny _ _ (ret (.ref it)) _ _ s
  exact wpAny_pure ⟨_,rfl,"dict_itemiterator",_,ty,PySem.F.slot_dict_itemiterator_next.lookup,h⟩
section
variable {X:Cx}
def aJ8 (te:TE):TI:=fun σ H R=>te σ H fun v H1=>∃d kvs,v=.ref d∧H1 d=some (.dK kvs)∧(∀kv∈kvs,∃n,kv.1=Sum.inr n)∧(∀ob u,X.H₀ d≠some (.frz ob u))∧∀o,R (aHl d o kvs) (upd H1 d (.frz o (.dK kvs)))
end
section
variable {X:Cx}
theorem pR {elts:List Expr} {kt:Nat} {tp apos cpos:Pos} {e:Expr} {te:TE} (h:VE X e te) (hbase:attributeBase e "items" X.env (eval e X.env)=eval e X.env:=by rfl) (hline:(apos.endLine == cpos.line)=true:=by rfl) :
  VI X (.Tuple elts kt tp) (.Call (.Attribute e "items" apos) [] [] cpos) (aJ8 (X:=X) te):=⟨by
 intro pins s σ H R I hh
 refine wpAny_Call_method0_late hbase hline (thn (h.1 pins s σ H _ I hh) fun v s1 ⟨x,H1,I1,r1,q1⟩=>?_)
 obtain ⟨d,kvs,e,hd,hk,nf,q⟩:=q1
 subst e
 cases r1
 obtain ⟨z,hm,vs,rel,⟨o,es,ep,h1,h2,h3,h4,hpr,h6⟩⟩:=sV I1.hok hd
 have lk:es.size=kvs.length:=by rw [KV.length rel,←hpr.length,Array.length_toList]
 have ty:s1.TypeIs (.ref d) "dict":=(show s1.heap.DictOf (bC X.prog X.w) d vs from ⟨o,es,ep,h1,h2,h3,h4,hpr,h6⟩).typeIs
 obtain ⟨y1,y2⟩:=aHt (T:="dict") I1 (show RelV (.ref d) (.ref d) from rfl) (.inr (.inr (.inl ⟨rfl,.inl ⟨kvs,hd⟩⟩)))
 refine ⟨"dict","dict.items",PySem.F.plainAttrs_dict,PySem.F.slot_dict_items,PySem.F.type_dict_items,y1,y2,Calls.callWith_builtin rfl (PySem.evalArgs_none ?_)⟩
 refine aOp hm ty ?_
 have I2:Inv X pins σ (upd H1 d (.frz o (.dK kvs))) s1:=I1.setd hd (fun _ z=>by cases z) (fun _ z=>by cases z) (fun _ z=>by cases z) nf ⟨h1,I1.hok d _ hd⟩
 have I3:Inv X pins σ (upd H1 d (.frz o (.dK kvs))) { s1 with heap:=s1.heap.push { cls:=.type "dict_items",data:=.fields #[.ref d] } }:=I2.kept (t':=s1.toks) fun b o e=>Heap.get?_push_of_some _ e
 have gv:(s1.heap.push { cls:=.type "dict_items",data:=.fields #[.ref d] }).IsItemsView s1.heap.objs.size d:=⟨_,Heap.get?_push_size _ rfl,rfl,rfl⟩
 have gd:(s1.heap.push { cls:=.type "dict_items",data:=.fields #[.ref d] }).get? d=some o:=Heap.get?_push_of_some _ h1
 generalize s1.heap.push { cls:=.type "dict_items",data:=.fields #[.ref d] }=hp at I3 gv gd ⊢
 refine aEy (s:={ s1 with heap:=hp }) gv gd h3 ?_
 refine ⟨hp.objs.size,[hp.objs.size],_,_,_,rfl,I3.kept (t':=s1.toks) fun b o e=>Heap.get?_push_of_some _ e,aGn d _ o kvs es ep h3 hk,?_,fun b hb=>?_,q o⟩
 ·rw [←lk]
  exact ⟨_,_,Heap.get?_push_size _ rfl⟩
 ·have e:b=hp.objs.size:=by simpa using hb
  subst e
  exact I3.aA1 (Nat.le_refl _) (I3.hok.fresh (Nat.le_refl _))⟩
end
theorem aJk {d:Addr} {o:Obj} {kvs:List (Key × V)} {g:TG} {tb:TS} {D:Ends} {σ:L2.St} {H:Hp} (Pv:Nat→L2.St→Hp→Prop) (h0:Pv 0 σ H) (hl:∀i σ H,i≤kvs.length→Pv i σ H→H d=some (.frz o (.dK kvs)))
  (hs:∀i kv T σ H,kvs[i]?=some kv→Pv i σ H→H T=none→g (.ref T) σ (upd H T (.tup [kV kv.1,kv.2])) fun σ2 H2=>tb { D with nx:=Pv (i+1),ct:=Pv (i+1),bk:=D.nx } σ2 H2) (hd:∀σ H,Pv kvs.length σ H→D.nx σ H) :
  ∃W:Nat→Nat→L2.St→Hp→Prop,(∃m,W 0 m σ H)∧∀i m σ H,W i m σ H →
   ((aHl d o kvs).stop i H∧D.nx σ H)∨((aHl d o kvs).go i H∧∃N:L2.St→Hp→Prop,(∀σ' H',N σ' H'→∃m',m'<m∧W (i+1) m' σ' H')∧∀x H',(aHl d o kvs).yld i H x H'→g x σ H' fun σ2 H2=>tb { D with nx:=N,ct:=N,bk:=D.nx } σ2 H2):=by
 refine ⟨fun i m σ H=>m=kvs.length - i∧i≤kvs.length∧Pv i σ H,⟨kvs.length,by simp,Nat.zero_le _,h0⟩,?_⟩
 rintro i m σ H ⟨rfl,hi,p⟩
 have q:=hl i σ H hi p
 by_cases hlt:i<kvs.length
 ·right
  refine ⟨⟨q,hlt⟩,Pv (i+1),fun σ' H' h=>⟨kvs.length - (i+1),by lia,rfl,by lia,h⟩,?_⟩
  rintro x H' ⟨T,kv,hT,rfl,hkv,rfl⟩
  exact hs i kv T σ H hkv p hT
 ·left
  have e:i=kvs.length:=by lia
  subst e
  exact ⟨⟨q,rfl⟩,hd σ H p⟩
section
variable {X:Cx}
def aTi (X:Cx) (t:TE):TE:=fun σ H Q=>∃d kvs,H d=some (.dK kvs)∧((∀ob u,X.H₀ d≠some (.frz ob u))→t σ H fun v H'=>(∃o,H' d=some (.frz o (.dK kvs)))∧Q v (upd H' d (.dK kvs)))
theorem aCr {e:Expr} {t:TE} (h:VE X e t):VE X e (aTi X t):=⟨by
 intro pins s σ H Q I ⟨d,kvs,hd,q⟩
 have nf:∀ob u,X.H₀ d≠some (.frz ob u):=fun ob u e=>by
  have:=I.base.frzs d ob u e
  rw [hd] at this
  cases this
 refine thn (h.1 pins s σ H _ I (q nf)) fun u s' ⟨v,H',I',r,⟨o,ho⟩,q'⟩=>?_
 exact ⟨v,_,I'.setd ho (fun _ z=>by cases z) (fun _ z=>by cases z) (fun _ z=>by cases z) nf (I'.hok d _ ho).2,r,q'⟩⟩
end
theorem oK {K:PySem.W.Frag} {d:Addr} {o:Obj} {kvs:List (Key × V)} {H:Hp} {σ0:L2.St} {te:TE} {Q:VK} (hd:H d=some (.frz o (.dK kvs))) (h2:Ps2 σ0 σ0) (hsz:kvs.length≤1000)
  (Rel:Addr→Nat→Hp→V→Prop) (st:∀{D i H1 H2 y},Same H1 H2→Rel D i H1 y→Rel D i H2 y) (su:∀{D i H1 ys zs y},H1 D=some (.lst ys)→Rel D i H1 y→Rel D i (L2.upd H1 D (.lst zs)) y)
  (he:∀(i:Nat) (kv:Key × V),kvs[i]?=some kv→∀H' R D ys,Same H H'→H D=none→H' D=some (.lst ys)→(∀y H2,Same H' H2→Rel D i H2 y→R y H2)→te ((σ0.set 0 (some (kV kv.1))).set 1 (some kv.2)) H' R)
  (q:∀D H' ys,Same H H'→H D=none→H' D=some (.lst ys)→ys.length=kvs.length→(∀i y,ys[i]?=some y→Rel D i H' y)→Q (.ref D) H'):qU (aHl d o kvs) H σ0 (aI9 K 2 (qQ (cJ 0) (qQ (cJ 1) aMf))) jV te Q:=by
 intro D hD
 refine ⟨fun i m σ' H' ys=>m=kvs.length - i∧i≤kvs.length∧Same H H'∧H' D=some (.lst ys)∧ys.length=i∧Ps2 σ0 σ'∧∀j y,ys[j]?=some y→Rel D j H' y,⟨kvs.length,by simp,Nat.zero_le _,aW hD _,aK,rfl,h2,fun j y e=>by cases e⟩,?_⟩
 rintro i m σ' H' ys ⟨rfl,hi,sm,gD,ly,hps,hr⟩
 refine ⟨gD,?_⟩
 by_cases hlt:i<kvs.length
 ·right
  refine ⟨⟨sm _ _ hd,hlt⟩,?_⟩
  rintro x H2 ⟨T,kv,hT,rfl,hkv,rfl⟩
  have s2:Same H' (L2.upd H' T (.tup [kV kv.1,kv.2])):=aW hT _
  refine hg2 (SqT.of aK) hps fun σ2 hps2 hat=>?_
  have hat':σ2=_:=hat
  subst hat'
  dsimp only [jV]
  rw [if_pos rfl]
  refine he i kv hkv _ _ D ys (sm.trans s2) hD (s2 _ _ gD) fun y H3 s3 hy=>?_
  have gD3:H3 D=some (.lst ys):=s3 _ _ (s2 _ _ gD)
  have s03:=sm.trans (s2.trans s3)
  refine ⟨gD3,Nat.lt_of_le_of_lt (show ys.length≤1000 by lia) (by decide),kvs.length - (i+1),by lia,rfl,by lia,eZ hD s03,aK,by rw [List.length_append,ly];rfl,hps2,fun j z e=>?_⟩
  by_cases hj:j<ys.length
  ·rw [List.getElem?_append_left hj] at e
   exact su gD3 (st (s2.trans s3) (hr j z e))
  ·rw [List.getElem?_append_right (by lia)] at e
   have ej:j - ys.length=0:=by
    have:=(List.getElem?_eq_some_iff.mp e).1
    simpa using this
   rw [ej] at e
   cases e
   have:j=i:=by lia
   rw [this]
   exact su gD3 hy
 ·left
  have e:i=kvs.length:=by lia
  subst e
  exact ⟨⟨sm _ _ hd,rfl⟩,q D H' ys sm hD gD ly hr⟩
theorem yQ {X:Cx} {scope:Scope} {N:List Str} {tl:TE} {te:TE} {tt:TT} {g:TG} {σ:L2.St} {H:Hp} {Q:VK} (σ0:L2.St) (cap:Cap X scope N σ σ0) (h:tl σ H fun v H1=>∃d kvs,v=.ref d∧H1 d=some (.dK kvs)∧(∀kv∈kvs,∃n,kv.1=Sum.inr n)∧(∀ob u,X.H₀ d≠some (.frz ob u))∧∀o,qU (aHl d o kvs) (upd H1 d (.frz o (.dK kvs))) σ0 g tt te Q):iZ X scope N (aJ8 (X:=X) tl) g tt te σ H Q:=⟨σ0,cap,h⟩
section
variable {X:Cx}
def aQz:List V→Hp→VK→Prop:=fun xs H Q=>∃(d:Addr) (kvs:List (Key × V)),xs=[.ref d,.ty "dict"]∧H d=some (.dK kvs)∧Q (.bl true) H
theorem aEf:bW X (.builtin "isinstance") aQz:=by
 intro pins s σ H xs us Q I r h
 obtain ⟨d,kvs,rfl,hd,q⟩:=h
 obtain ⟨u,v,rfl,rx,rT⟩:=r.two
 obtain rfl:v=Value.type "dict":=rT
 obtain rfl:u=Value.ref d:=rx
 obtain ⟨z,hm,vs,rel,dof⟩:=sV I.hok hd
 obtain ⟨o,ho,hc⟩:=(show s.TypeIs (.ref d) "dict" from dof.typeIs)
 exact call_isinstance (isinstance_true F.isi_meta_dict F.isi_self_dict) ⟨⟨o,ho,hc⟩,⟨.bl true,H,I,rfl,q⟩⟩
end
end L2
namespace PySem
section
variable {prog:Program} {w:World} {A:Around} {E:Value→Shared→Prop} {s:Shared}
theorem aE4 {a:Addr} {o:Obj} {xs:Array Value} {k:Nat} {Q:Option Value→Shared→Prop} (hx:s.heap.get? a=some o) (hc:o.cls=.type "list") (hdat:o.data=.seq xs k) (hd:o.dict=none) (hA:A.handled=none)
  (h:∀h' tk,(∀b u,s.heap.get? b=some u→h'.get? b=some u)→Q none { s with heap:=h',toks:=tk }):wpAny (model prog w) A (getAttr? (.ref a) "keys") Q E s:=by
 obtain ⟨c,dct,dat,sl⟩:=o
 simp only at hc hdat hd
 subst hc hdat hd
 obtain ⟨hp,g,d,tk,os⟩:=s
 have hT:∀tk',(⟨hp,g,d,tk',os⟩:Shared).TypeIs (.ref a) "list":=fun _=>⟨_,hx,rfl⟩
 have f1:=sub_AttributeError
 have f3:=F.slot_list_getattribute.lookup
 have f4:=F.slot_list_getattribute.bind (.ref a)
 have f5:=am_list_getattr_none
 unfold getAttr? getAttrBy? getAttrBy
 repeat (any_goals (first|assumption|exact hT _|((with_reducible show wpAny _ _ (call (Value.builtin "list.__getattribute__") _ _) _ _ _);refine call_meets F.slot_list_getattribute (hT _) am_entry_list_getattribute (F.args_list_getattribute_2 _ _) (meets_getattribute_miss_list a xs k sl "keys" _ xY (by decide +kernel) (by size_fits)) ⟨hx,hA,fun h' tk' e hx'=>?_⟩)|wp_step))
 obtain ⟨t',u',he⟩:=hx'.there
 show wpAny _ _ (getattributeRaised _ _ _ _ _ _ _) _ _ _
 unfold getattributeRaised
 repeat (any_goals (first|assumption|wp_step))
 exact h _ _ hx'.keeps
end
section
variable {prog:Program} {w:World} {κ:Type} [DecidableEq κ] {knd:KeyKind prog w κ} {A:Around} {E:Value→Shared→Prop} {s:Shared}
theorem vL {t:Addr} {its:Array Value} {kvs:List (κ × Value)} {Q:Value→Shared→Prop} (hh:A.handled=none) {o:Obj} {n:Nat} (ho:s.heap.get? t=some o) (hc:o.cls=.type "list") (hx:o.data=.seq its n) (hod:o.dict=none) (hlen:kvs.length=its.size) (hb:its.size≤1000)
  (hp:∀(j:Nat) (v:Value) (kv:κ × Value),its[j]?=some v→kvs[j]?=some kv→rE knd s.heap v kv)
  (q:∀h' tk,h'.DictOf knd s.heap.objs.size (merged [] kvs)→(∀b o,s.heap.get? b=some o→h'.get? b=some o)→Q (.ref s.heap.objs.size) { s with heap:=h',toks:=tk }) :
  wpAny (model prog w) A (call (.type "dict") [.ref t]) Q E s:=by
 refine callType_codes (Q₁:=fun obj s₁=>obj=.ref s.heap.objs.size∧s₁={ s with heap:=s.heap.push { cls:=.type "dict",data:=.dict #[] } }) F.kt_called_dict (F.kt_typeCall_dict_1 _) F.entry_dict_init (kt_code_dict_new _ ⟨rfl,rfl⟩) ?_
 rintro obj s₁ ⟨rfl,rfl⟩
 have hnew:(s.heap.push { cls:=.type "dict",data:=.dict #[] }).DictOf knd s.heap.objs.size []:=Heap.DictOf.new s.heap
 have ho1:(s.heap.push { cls:=.type "dict",data:=.dict #[] }).get? t=some o:=Heap.get?_push_of_some _ ho
 have hT:Shared.TypeIs { s with heap:=s.heap.push { cls:=.type "dict",data:=.dict #[] } } (.ref t) "list":=⟨o,ho1,hc⟩
 have hlt:t<s.heap.objs.size:=Heap.lt_size ho
 refine ⟨hnew.typeIs,F.args_dict_init_2 _ _,?_⟩
 unfold Builtin.«dict.__init__»
 refine wpAny_bind ?_
 unfold Builtin.Dict.selfAndRest
 refine wpAny_bind (wpAny_notOrdered_dict hnew.typeIs ?_)
 show wpAny _ _ (pure (s.heap.objs.size,[Value.ref t])) _ _ _
 refine wpAny_pure ?_
 show wpAny _ _ (Builtin.Dict.updateFrom "dict.__init__" s.heap.objs.size (.ref t) [] .none) _ _ _
 unfold Builtin.Dict.updateFrom
 refine wpAny_bind (wpAny_typeOf hT ?_)
 rw [if_pos (by decide)]
 refine wpAny_bind (aE4 ho1 hc hx hod (by first|exact hh|simp [hh]) fun h2 tk2 kp2=>?_)
 rw [if_pos (show (none:Option Value).isNone=true from rfl)]
 have ho2:h2.get? t=some o:=kp2 _ _ ho1
 have ht2:h2.IsList t its:=⟨o,ho2,hc,n,hx⟩
 refine wpAny_bind (wpAny_rule (wpAny_bind (wpAny_pyIter_list ht2 ?_)))
 have hs1:(s.heap.push { cls:=.type "dict",data:=.dict #[] }).objs.size=s.heap.objs.size+1:=Heap.size_push ..
 have hs2:s.heap.objs.size<h2.objs.size:=by
  obtain ⟨od,_,_,hg,_⟩:=id hnew
  exact Heap.lt_size (kp2 _ _ hg)
 refine wpAny_pure ⟨plainId_quiet cP _,?_⟩
 have hne:t≠h2.objs.size:=Nat.ne_of_lt (Nat.lt_trans hlt hs2)
 refine wO (knd:=knd) (Walks.list (by first|exact hh|simp [hh]) _ t hne its) s.heap.objs.size ?_ kvs hlen hb ?_ its.size 0 _ _ (by lia) ⟨⟨_,Heap.get?_push_size _ rfl,rfl,rfl⟩,ht2.push _⟩ ?_ ?_ fun h' tk kp hd'=>?_
 ·simp only [List.mem_cons,List.not_mem_nil,or_false,not_or]
  exact ⟨Nat.ne_of_lt hs2,Nat.ne_of_gt hlt⟩
 ·intro j v e p ev
  have hj:j<kvs.length:=by
   rw [hlen]
   exact (Array.getElem?_eq_some_iff.mp e).1
  obtain ⟨p',key,ev',⟨o',ho',_⟩,_⟩:=hp j v _ e (List.getElem?_eq_getElem hj)
  rw [ev] at ev'
  cases ev'
  have:=Heap.lt_size ho'
  simp only [List.mem_cons,List.not_mem_nil,or_false,not_or]
  exact ⟨Nat.ne_of_lt this,Nat.ne_of_lt (Nat.lt_trans this hs2)⟩
 ·exact (hnew.at fun o e=>kp2 _ _ e).at fun o e=>Heap.get?_push_of_some _ e
 ·intro j v kv e ek
  exact (hp j v kv e ek).at fun p _ o eo=>Heap.get?_push_of_some _ (kp2 _ _ (Heap.get?_push_of_some _ eo))
 ·refine ⟨rfl,q h' tk hd' fun b o e=>kp b o ?_ (Heap.get?_push_of_some _ (kp2 _ _ (Heap.get?_push_of_some _ e)))⟩
  have:=Heap.lt_size e
  simp only [List.mem_cons,List.not_mem_nil,or_false,not_or]
  exact ⟨Nat.ne_of_lt this,Nat.ne_of_lt (Nat.lt_trans this hs2)⟩
end
end PySem
namespace L2
open PySem PySem.Spec PyProof.Rows
section
variable {X:Cx}
def aTf (K:PySem.W.Frag):List V→Hp→VK→Prop:=fun xs H Q=>∃t us kvs,xs=[.ref t]∧H t=some (.lst us)∧oY K H us kvs∧us.length≤1000∧∀p H',H p=none→Same H H'→H' p=some (.dK (oH [] kvs))→Q (.ref p) H'
theorem rC (hc:X.calm=true):bW X (.type "dict") (aTf X.K):=by
 intro pins s σ H xs us Q I r h
 obtain ⟨t,us,kvs,rfl,ht,hp,hl,q⟩:=h
 obtain ⟨u,rfl,ru⟩:=vals1 r
 cases ru
 obtain ⟨hz,its,n,rv,ho⟩:=I.hok t _ ht
 have e1:=rv.length
 obtain ⟨vs,h1,h2,h3⟩:=aTb I hp rv
 have lk:=KV.length h1
 refine vL (knd:=bC X.prog X.w) (kvs:=vs) (I.ok.hd hc) ho rfl rfl rfl (by rw [List.size_toArray];exact h2) (by rw [List.size_toArray];lia) (fun j v kv e e'=>h3 j v kv (by simpa using e) e') fun h' tk hd kp=>?_
 have hf:H s.heap.objs.size=none:=I.hok.fresh (Nat.le_refl _)
 refine ⟨.ref s.heap.objs.size,_,I.laid (t':=tk) (o:=.dK (oH [] kvs)) kp (Nat.le_refl _) ?_,rfl,q _ _ hf (aW hf _) aK⟩
 have lm:=qP kvs []
 simp only [List.length_nil] at lm
 exact ⟨small (by lia),beq_eq_false_iff_ne.mpr (Ne.symm (Nat.ne_of_lt I.big)),_,KV.merge h1 .nil,hd⟩
end
end L2
namespace My
open PySem PySem.Spec PyProof.Rows L2
section
variable {P:Program} {w:World} {K:PySem.W.Frag} {mg:Str→Option Value} {base:Heap}
def aS1 (k:Str):Bool:=decide (k = "number")
def knds (hd:Hdr):List Bool:=hd.map fun c=>aS1 c.2
theorem pD {X:Cx} {K:PySem.W.Frag} (h:X.K=K:=by rfl):bW X (.builtin "sorted") (aNq K):=by subst h;exact aH6
theorem wB {X:Cx} {K:PySem.W.Frag} (h:X.K=K:=by rfl):bW X (.type "list") (aO4 K):=by subst h;exact xD
theorem none_of {H H':Hp} {D:Addr} (e:Same H H') (h:H' D=none):H D=none:=by
 cases g:H D with
 |none=>rfl
 |some o=>rw [e _ _ g] at h;cases h
def But (d:Addr) (H H':Hp):Prop:=∀b o,b≠d→H b=some o→H' b=some o
section
variable {K:PySem.W.Frag} {H H':Hp} {d:Addr} {kvs:List (Key × V)}
def cG (H:Hp) (d:Addr):Prop:=(∀xs,H d≠some (.tup xs))∧(∀ob xs,H d≠some (.frz ob (.tup xs)))∧∀xs,H d≠some (.lst xs)
theorem cG.dK (h:H d=some (.dK kvs)):cG H d:=⟨fun _ z=>(by rw [h] at z;cases z),fun _ _ z=>(by rw [h] at z;cases z),fun _ z=>(by rw [h] at z;cases z)⟩
theorem cG.fz {o:Obj} (h:H d=some (.frz o (.dK kvs))):cG H d:=⟨fun _ z=>(by rw [h] at z;cases z),fun _ _ z=>(by rw [h] at z;cases z),fun _ z=>(by rw [h] at z;cases z)⟩
theorem But.bB {a:Addr} {xs:List V} (b:But d H H') (hd:cG H d) (h:SqT K H a xs):SqT K H' a xs:=by
 rcases h with (h|⟨o,h⟩)|h
 ·exact .inl (.inl (b _ _ (fun z=>hd.1 _ (z ▸ h)) h))
 ·exact .inl (.inr ⟨o,b _ _ (fun z=>hd.2.1 _ _ (z ▸ h)) h⟩)
 ·exact .inr h
theorem But.lst {a:Addr} {xs:List V} (b:But d H H') (hd:cG H d) (h:H a=some (.lst xs)):H' a=some (.lst xs):=b _ _ (fun z=>hd.2.2 _ (z ▸ h)) h
theorem But.hdr {v:V} {hr:Hdr} (b:But d H H') (hd:cG H d) (h:jT K H v hr):jT K H' v hr:=by
 obtain ⟨a,us,rfl,ha,hu⟩:=h
 exact ⟨a,us,rfl,b.bB hd ha,hu.imp fun _ _ ⟨p,e,hp⟩=>⟨p,e,b.bB hd hp⟩⟩
theorem But.pl {v:V} {pl:Plc} (b:But d H H') (hd:cG H d) (h:wV K H v pl):wV K H' v pl:=by
 cases pl with
 |copies=>obtain ⟨a,rfl,ha⟩:=h;exact ⟨a,rfl,b.bB hd ha⟩
 |keys n=>obtain ⟨a,rfl,ha⟩:=h;exact ⟨a,rfl,b.bB hd ha⟩
 |spans n h0 cs=>
  obtain ⟨a,vc,rfl,ha,⟨c,us,rfl,hc,hu⟩⟩:=h
  exact ⟨a,_,rfl,b.bB hd ha,c,us,rfl,b.bB hd hc,hu.imp fun _ _ ⟨p,e,hp⟩=>⟨p,e,b.bB hd hp⟩⟩
theorem But.rows {L:Addr} {rs:List (List V)} (b:But d H H') (hd:cG H d) (h:bU K H L rs):bU K H' L rs:=by
 obtain ⟨us,h1,h2⟩:=h
 exact ⟨us,b.lst hd h1,h2.imp fun _ _ ⟨p,e,hp⟩=>⟨p,e,b.bB hd hp⟩⟩
theorem But.tb {v vh vp:V} {L:Addr} {t:Tb} (b:But d H H') (hd:cG H d) (h:mW K H v vh vp L t):mW K H' v vh vp L t:=by
 obtain ⟨a,rfl,ha,h1,h2,h3⟩:=h
 exact ⟨a,rfl,b.bB hd ha,b.hdr hd h1,b.pl hd h2,b.rows hd h3⟩
theorem But.upd {u:HO}:But d H (L2.upd H d u):=fun b o hb h=>by rw [aM hb];exact h
theorem But.same {H2:Hp} (b:But d H H') (s:Same H' H2):But d H H2:=fun c o hc h=>s _ _ (b c o hc h)
theorem But.thaw {H2:Hp} (b:But d H H2) (hd:H d=some (.dK kvs)):Same H (L2.upd H2 d (.dK kvs)):=fun c o h=>by
 by_cases e:c=d
 ·rw [e,aK,←hd,←e];exact h
 ·rw [aM e];exact b c o e h
end
structure En where
 n:Str
 v:V
 vh:V
 vp:V
 L:Addr
 t:Tb
def enK (es:List En):List (Key × V):=es.map fun e=>(Sum.inr e.n,e.v)
structure eU (K:PySem.W.Frag) (H:Hp) (d:Addr) (es:List En):Prop where
 at_:H d=some (.dK (enK es))
 nd:(es.map (·.n)).Nodup
 few:es.length≤60
 nm:∀e∈es,Nm e.n
 tb:∀e∈es,mW K H e.v e.vh e.vp e.L e.t
theorem mW.same {K:PySem.W.Frag} {H H':Hp} {v vh vp:V} {L:Addr} {t:Tb} (s:Same H H') (h:mW K H v vh vp L t):mW K H' v vh vp L t:=by
 obtain ⟨a,rfl,ha,h1,h2,h3⟩:=h
 exact ⟨a,rfl,s.bB ha,h1.same s,h2.same s,h3.same s⟩
theorem eU.same {K:PySem.W.Frag} {H H':Hp} {d:Addr} {es:List En} (s:Same H H') (h:eU K H d es):eU K H' d es:=⟨s _ _ h.at_,h.nd,h.few,h.nm,fun e he=>(h.tb e he).same s⟩
theorem yF {es:List En} {i:Nat} {kv:Key × V} (h:(enK es)[i]?=some kv):∃e,es[i]?=some e∧kv=(Sum.inr e.n,e.v):=by
 unfold enK at h
 rw [List.getElem?_map] at h
 obtain ⟨e,he,rfl⟩:=Option.map_eq_some_iff.mp h
 exact ⟨e,he,rfl⟩
theorem tD {es:List En}:∀kv∈enK es,∃n,kv.1=Sum.inr n:=fun kv h=>by
 unfold enK at h
 obtain ⟨e,_,rfl⟩:=List.mem_map.mp h
 exact ⟨_,rfl⟩
theorem iQ {es:List En}:(enK es).length=es.length:=List.length_map _
def aJu (K:PySem.W.Frag) (Pt:Addr):Sp:=fun vs H Q _=>∃(d:Addr) (m:Int) (es:List En),vs=[.int m,.ref d]∧1≤m∧m≤6∧eU K H d es∧(∀e∈es,rA m e.t)∧H Pt=some (.tab qC)∧∀H',Same H H'→Q .non H'
theorem aCy (T:Txt w K mg) {Pt:Addr} (dN:Ok P w K mg base 1 "is_whole" ["thing"] (mC K)) (iD:Ok P w K mg base 2 "is_name" ["thing"] (aAr K nameB)) (aIk:Ok P w K mg base 8 "is_table" ["thing","houses"] (aSn K Pt)):Ok P w K mg base 9 "need_town" ["houses","tables"] (aJu K Pt):=by
 refine Ok.ofV T.aF1 nU (fun vs H Q E h=>?_) (fun f cdv A outer s H vs Q E hr h=>?_)
 ·obtain ⟨d,m,es,rfl,_⟩:=h;rfl
 obtain ⟨d,m,es,rfl,m1,m6,hE,hok,hP,q⟩:=h
 refine ⟨_,(aF (cR (VW.pt (jA (cZ (cQ (aV (dN.mono (by decide)) hr (by rfl) (aD (vv 0) aC)))) (jA (cZ (xO aAg aAg aG (vv 0) (qW (by rfl) T.aA7))) (iB (cZ (cQ (aR aEf (by rfl) T.bN bK (aD (vv 1) (aD (eQ (v:=.ty "dict") (by rfl) T.aEb wX rfl) aC))))))))) (aJ oG) bJ) (aJ (aKh (eV PassesOwn.never rfl (pR (vv 1)) (rJ rfl (bI (aU (i:=2) nU.nd rfl (by trivial)) (bI (aU (i:=3) nU.nd rfl (by trivial)) fJ))) (aJ (cR (VW.pt (jA (cZ (cQ (aV (iD.mono (by decide)) hr (by rfl) (aD (vv 2) aC)))) (iB (cZ (cQ (aV (aIk.mono (by decide)) hr (by rfl) (aD (vv 3) (aD (vv 0) aC)))))))) (aJ oG) bJ)))))),?_⟩
 refine ⟨_,rfl,_,rfl,.inr (.inl ⟨m,rfl⟩),_,rfl,cB ?_⟩
 refine ⟨_,rfl,_,_,rfl,rfl,_,rfl,?_⟩
 rw [decide_eq_true m1]
 refine dW ⟨_,_,rfl,rfl,_,rfl,?_⟩
 rw [decide_eq_true m6]
 refine cB ⟨_,rfl,d,_,rfl,hE.at_,_,rfl,cB ?_⟩
 refine ⟨d,enK es,hE.at_,fun nf=>⟨_,rfl,d,_,rfl,hE.at_,tD,nf,fun o=>?_⟩⟩
 have hPd:Pt≠d:=fun z=>by rw [z,hE.at_] at hP;cases hP
 have b0:But d H (L2.upd H d (.frz o (.dK (enK es)))):=But.upd
 have g0:L2.upd H d (.frz o (.dK (enK es))) d=some (.frz o (.dK (enK es))):=aK
 generalize L2.upd H d (.frz o (.dK (enK es)))=B at b0 g0 ⊢
 refine aJk (fun i σ H'=>Same B H'∧∃l1 l2,σ=[some (.int m),some (.ref d),l1,l2]) ⟨Same.refl B,_,_,rfl⟩ (fun i σ H' _ p=>p.1 _ _ g0) (fun i kv Tp σ H' ek p hT=>?_) fun σ H' p=>?_
 ·obtain ⟨sm,l1,l2,rfl⟩:=p
  obtain ⟨en,he,rfl⟩:=yF ek
  have hm:=List.mem_of_getElem? he
  have sT:Same H' (L2.upd H' Tp (.tup [kV (Sum.inr en.n),en.v])):=aW hT _
  have bT:But d H (L2.upd H' Tp (.tup [kV (Sum.inr en.n),en.v])):=(b0.same sm).same sT
  refine ⟨Tp,_,rfl,SqT.of aK,rfl,_,_,rfl,_,_,rfl,rfl,?_⟩
  refine ⟨_,rfl,_,rfl,(hE.nm en hm).th,fun H2 s2=>⟨_,rfl,?_⟩⟩
  rw [show nameB (kV (Sum.inr en.n,en.v).fst)=true from hE.nm en hm]
  refine cB ?_
  have b2:=bT.same s2
  refine ⟨_,rfl,_,rfl,en.v,en.vh,en.vp,en.L,m,en.t,rfl,b2.tb (cG.dK hE.at_) (hE.tb en hm),hok en hm,b2 _ _ hPd hP,fun H3 s3=>⟨_,rfl,cB ?_⟩⟩
  exact ⟨sm.trans (sT.trans (s2.trans s3)),_,_,rfl⟩
 ·obtain ⟨sm,l1,l2,rfl⟩:=p
  exact ⟨⟨o,sm _ _ g0⟩,q _ ((b0.same sm).thaw hE.at_)⟩
def aNk (e:En) (v:V) (L:Addr):En:={ e with v:=v,L:=L,t:={ e.t with rows:=srt e.t.rows } }
def aB0 (K:PySem.W.Frag) (Pt:Addr):Sp:=fun vs H Q _=>∃(d:Addr) (m:Int) (es:List En),vs=[.int m,.ref d]∧1≤m∧m≤6∧eU K H d es∧(∀e∈es,rA m e.t)∧H Pt=some (.tab qC) ∧
 ∀d' H' es',H d'=none→Same H H'→eU K H' d' es'→bZ (fun e e'=>∃v L,e'=aNk e v L∧H L=none) es es'→Q (.ref d') H'
theorem aWl {kd:Str} {v:V} (h:dH kd v):KdV (aS1 kd) v:=by
 cases h with
 |num=>exact ⟨_,rfl⟩
 |wrd _ _=>exact ⟨_,rfl⟩
theorem aJ7 {hd:Hdr} {r:List V} (h:xR hd r):KdR (knds hd) r:=by
 unfold xR at h
 unfold KdR knds
 induction h with
 |nil=>exact .nil
 |cons a _ ih=>exact .cons (aWl a) ih
theorem aC1 {hd:Hdr} (h:Good hd):knds hd≠[]:=fun z=>by
 have e:=congrArg List.length z
 unfold knds at e
 rw [List.length_map] at e
 have:=h.2.1
 rw [e] at this
 exact absurd this (by decide)
theorem oX {α β:Type} {R:α→β→Prop} {as:List α} {bs:List β} (h:bZ R as bs):Al2 R as bs:=by
 induction h with
 |nil=>exact .nil
 |cons r _ ih=>exact .cons r ih
theorem zT {α β:Type} {R:α→β→Prop} {as:List α} {bs:List β} (h:Al2 R as bs):bZ R as bs:=by
 induction h with
 |nil=>exact .nil
 |cons r _ ih=>exact .cons r ih
def PlR (K:PySem.W.Frag) (H0:Hp) (es:List En) (D:Addr) (i:Nat) (H:Hp) (y:V):Prop:=∃e v L tp,es[i]?=some e∧y=.ref tp∧SqT K H tp [.str e.n,v]∧mW K H v e.vh e.vp L { e.t with rows:=srt e.t.rows }∧L≠D∧H0 L=none
theorem mW.iC {K:PySem.W.Frag} {H:Hp} {D L:Addr} {ys zs:List V} {v vh vp:V} {t:Tb} (gD:H D=some (.lst ys)) (hne:L≠D) (h:mW K H v vh vp L t):mW K (L2.upd H D (.lst zs)) v vh vp L t:=by
 obtain ⟨a,rfl,ha,⟨b,us,rfl,hb,hu⟩,h2,⟨ws,h3,h4⟩⟩:=h
 refine ⟨a,rfl,SqT.iC gD ha,⟨b,us,rfl,SqT.iC gD hb,hu.imp fun _ _ ⟨p,e,hp⟩=>⟨p,e,SqT.iC gD hp⟩⟩,?_,⟨ws,by rw [aM hne];exact h3,h4.imp fun _ _ ⟨p,e,hp⟩=>⟨p,e,SqT.iC gD hp⟩⟩⟩
 cases hpl:t.pl with
 |copies=>rw [hpl] at h2;obtain ⟨a2,rfl,ha2⟩:=h2;exact ⟨a2,rfl,SqT.iC gD ha2⟩
 |keys n=>rw [hpl] at h2;obtain ⟨a2,rfl,ha2⟩:=h2;exact ⟨a2,rfl,SqT.iC gD ha2⟩
 |spans n h0 cs=>rw [hpl] at h2;obtain ⟨a2,vc,rfl,ha2,⟨c,us,rfl,hc,hu⟩⟩:=h2;exact ⟨a2,_,rfl,SqT.iC gD ha2,c,us,rfl,SqT.iC gD hc,hu.imp fun _ _ ⟨p,e,hp⟩=>⟨p,e,SqT.iC gD hp⟩⟩
theorem aKx {K:PySem.W.Frag} {H0 H:Hp} {D:Addr}:∀{es:List En} {ys:List V},ys.length=es.length→(∀(i:Nat) (y:V),ys[i]?=some y→PlR K H0 es D i H y) →
  ∃es',bZ (fun e e'=>∃v L,e'=aNk e v L∧H0 L=none) es es'∧bZ (fun y (e':En)=>∃tp,y=.ref tp∧SqT K H tp [.str e'.n,e'.v]) ys es'∧∀e'∈es',mW K H e'.v e'.vh e'.vp e'.L e'.t
 |[],[],_,_=>⟨[],.nil,.nil,fun e h=>by cases h⟩
 |en::es,y::ys,hl,h=>by
  obtain ⟨es',a1,a2,a3⟩:=aKx (es:=es) (ys:=ys) (Nat.succ.inj hl) fun i y hy=>by
   obtain ⟨e,v,L,tp,he,r⟩:=h (i+1) y (by simpa using hy)
   exact ⟨e,v,L,tp,by simpa using he,r⟩
  obtain ⟨e,v,L,tp,he,rfl,ht,hb,_,hL⟩:=h 0 y rfl
  cases he
  refine ⟨aNk en v L::es',.cons ⟨v,L,rfl,hL⟩ a1,.cons ⟨tp,rfl,ht⟩ a2,fun e' h'=>?_⟩
  rcases List.mem_cons.mp h' with rfl|h'
  ·exact hb
  ·exact a3 e' h'
theorem aU4 {K:PySem.W.Frag} {H:Hp} {ys:List V} {es':List En} (h:bZ (fun y (e':En)=>∃tp,y=.ref tp∧SqT K H tp [.str e'.n,e'.v]) ys es'):oY K H ys (enK es'):=by
 unfold enK
 induction h with
 |nil=>exact .nil
 |cons r _ ih=>exact .cons r ih
theorem sO {H0:Hp} {es es':List En} (h:bZ (fun e e'=>∃v L,e'=aNk e v L∧H0 L=none) es es'):es'.map (·.n)=es.map (·.n):=by
 induction h with
 |nil=>rfl
 |cons r _ ih=>obtain ⟨v,L,rfl,_⟩:=r;rw [List.map_cons,List.map_cons,ih];rfl
theorem vP (T:Txt w K mg) {Pt:Addr} (aFy:Ok P w K mg base 9 "need_town" ["houses","tables"] (aJu K Pt)):Ok P w K mg base 10 "placed_tables" ["houses","tables"] (aB0 K Pt):=by
 refine Ok.ofV T.wG vD (fun vs H Q E h=>?_) (fun f cdv A outer s H vs Q E hr h=>?_)
 ·obtain ⟨d,m,es,rfl,_⟩:=h;rfl
 obtain ⟨d,m,es,rfl,m1,m6,hE,hok,hP,q⟩:=h
 refine ⟨_,(aF (cW (aV (aFy.mono (by decide)) hr (by rfl) (aD (vv 0) (aD (vv 1) aC)))) (aJ (aP (cC (rC rfl) (by rfl) T.aEb wX (aD (aCr (cM (N:=["name","table"]) (by trivial) (iV (by decide +kernel)) rfl (pR (vv 1)) (fun cl s' H' fp=>⟨(pU (K:=K) (n:=2) rfl (bI (aU (i:=0) (show (["name","table"]:List Str).Nodup from by decide +kernel) rfl (Or.inl rfl)) (bI (aU (i:=1) (show (["name","table"]:List Str).Nodup from by decide +kernel) rfl (Or.inl rfl)) fJ))),dD,(cL (aD (vv 0) (aD (cL (aD (aZ (cH (K:=K)) (vv 1) aG (fun _ _=>rfl)) (aD (aZ (cH (K:=K)) (vv 1) aG (fun _ _=>rfl)) (aD (aR (pD (K:=K)) (by rfl) T.tQ pW (aD (aZ (cH (K:=K)) (vv 1) aG (fun _ _=>rfl)) aC)) aC)))) aC)))⟩))) aC))))),?_⟩
 refine ⟨_,rfl,_,rfl,d,m,es,rfl,m1,m6,hE,hok,hP,fun H1 s1=>?_⟩
 have hE1:=hE.same s1
 dsimp only [uW,tCB,dJ]
 refine ⟨d,enK es,hE1.at_,fun nf=>yQ [none,none] mD ⟨_,rfl,d,_,rfl,hE1.at_,tD,nf,fun o=>?_⟩⟩
 have b0:But d H1 (L2.upd H1 d (.frz o (.dK (enK es)))):=But.upd
 have g0:L2.upd H1 d (.frz o (.dK (enK es))) d=some (.frz o (.dK (enK es))):=aK
 have n0:∀b,L2.upd H1 d (.frz o (.dK (enK es))) b=none→H1 b=none:=fun b h=>by
  by_cases e:b=d
  ·rw [e,aK] at h;cases h
  ·rw [aM e] at h;exact h
 generalize L2.upd H1 d (.frz o (.dK (enK es)))=B at b0 g0 n0 ⊢
 refine oK g0 ⟨none,none,rfl⟩ (by rw [iQ];have:=hE.few;lia) (PlR K H es) ?_ ?_ (fun i kv ek H' R D ys sm hD gD r=>?_) fun D H' ys sm hD gD ly hy=>?_
 ·rintro D i H2 H3 y s2 ⟨e,v,L,tp,he,rfl,ht,hb,hne⟩
  exact ⟨e,v,L,tp,he,rfl,s2.bB ht,hb.same s2,hne⟩
 ·rintro D i H2 ys zs y gD ⟨e,v,L,tp,he,rfl,ht,hb,hne,h0⟩
  exact ⟨e,v,L,tp,he,rfl,SqT.iC gD ht,hb.iC gD hne,hne,h0⟩
 ·obtain ⟨en,he,rfl⟩:=yF ek
  have hm:=List.mem_of_getElem? he
  have hok1:=hok en hm
  obtain ⟨a,ev,ha,h1,h2,⟨us,h3,h4⟩⟩:=(b0.same sm).tb (cG.dK hE1.at_) (hE1.tb en hm)
  have lu:=h4.len
  have few:=hok1.few
  refine ⟨_,rfl,_,rfl,a,_,0,_,ev,rfl,ha,at0 _ _,_,rfl,a,_,1,_,ev,rfl,ha,at1 _ _ _,_,rfl,a,_,2,_,ev,rfl,ha,at2 _ _ _ _,en.L,us,en.t.rows,knds en.t.hd,rfl,SqL.of h3,oX h4,by lia,aC1 hok1.hd.1,fun r hr'=>aJ7 (hok1.rows r hr'),fun L' H2 us' hN s2 g2 h5=>?_⟩
  refine ⟨by show 3≤sizeLine;decide,fun t1 H3 _ s3 g3=>⟨by show 2≤sizeLine;decide,fun t2 H4 _ s4 g4=>r _ H4 (s2.trans (s3.trans s4)) ?_⟩⟩
  have s24:=s2.trans (s3.trans s4)
  refine ⟨en,.ref t1,L',t2,he,rfl,SqT.of g4,⟨t1,rfl,s4.bB (SqT.of g3),h1.same s24,h2.same s24,⟨us',(s3.trans s4) _ _ g2,(zT h5).imp fun _ _ z=>z.same s24⟩⟩,fun z=>?_,none_of s1 (n0 _ (none_of sm hN))⟩
  rw [z,gD] at hN
  cases hN
 ·rw [iQ] at ly
  obtain ⟨es',a1,a2,a3⟩:=aKx ly hy
  have bD:=b0.same sm
  refine ⟨⟨o,sm _ _ g0⟩,?_⟩
  have nz:cG H' d:=cG.fz (sm _ _ g0)
  have bz:But d H' (L2.upd H' d (.dK (enK es))):=But.upd
  have s05:Same H1 (L2.upd H' d (.dK (enK es))):=bD.thaw hE1.at_
  have gD5:=bz.lst nz gD
  have a2':bZ (fun y (e':En)=>∃tp,y=.ref tp∧SqT K (L2.upd H' d (.dK (enK es))) tp [.str e'.n,e'.v]) ys es':=a2.imp fun y e' ⟨tp,ey,ht⟩=>⟨tp,ey,bz.bB nz ht⟩
  have hdn:H D=none:=none_of s1 (n0 _ hD)
  generalize L2.upd H' d (.dK (enK es))=H5 at bz s05 gD5 a2'
  have le:=a2.len
  have la:=a1.len
  have fw:=hE.few
  refine ⟨D,ys,enK es',rfl,gD5,aU4 a2',by lia,fun p H6 hN s6 g6=>?_⟩
  have ndn:(es'.map (·.n)).Nodup:=by rw [sO a1];exact hE.nd
  have ndk:((enK es').map (·.1)).Nodup:=by
   unfold enK
   rw [List.map_map]
   exact List.pairwise_map.mpr ((List.pairwise_map.mp ndn).imp fun {a b} hab z=>hab (Sum.inr.inj z))
  rw [mX _ [] (by rw [List.nil_append];exact ndk),List.nil_append] at g6
  refine q p H6 es' (none_of s1 (none_of s05 hN)) (s1.trans (s05.trans s6)) ⟨g6,ndn,by lia,fun e' h'=>?_,fun e' h'=>(bz.tb nz (a3 e' h')).same s6⟩ a1
  have:e'.n∈es.map (·.n):=by rw [←sO a1];exact List.mem_map_of_mem h'
  obtain ⟨e0,h0,e1⟩:=List.mem_map.mp this
  rw [←e1]
  exact hE.nm e0 h0
end
end My
namespace L2
open PySem PySem.Spec PyProof.Rows
section
variable {X:Cx} {scope:Scope} {N:List Str} {wi:TI} {te:TE} {σ:L2.St} {H:Hp} {Q:VK}
theorem aL2 {tt:TT} (xs:List V) (p:Nat→Bool) (σ0:L2.St) (cap:Cap X scope N σ σ0) (hsz:xs.length≤sizeLine)
  (hw:∀R:It→Hp→Prop,(∀J:It,(∀H' i x,Same H H'→xs[i]?=some x→J.go i H'∧∀y H2,J.yld i H' y H2→H2=H'∧y=x)→(∀H',Same H H'→J.stop xs.length H')→R J H)→wi σ H R)
  (ht:∀(i:Nat) (x:V),xs[i]?=some x→∀H' R l,Same H H'→(∀H2,Same H' H2→R (p i) H2)→tt ((σ0.set 0 l).set 0 (some x)) H' R) (h0:σ0[0]?=some none)
  (q:∀D H',H D=none→Same H H'→H' D=some (.lst (sel p 0 xs))→Q (.ref D) H') :
  iZ X scope N wi (cJ 0) tt (aMl 0) σ H Q:=by
 refine ⟨σ0,cap,hw _ fun J go stop D hD=>?_⟩
 refine ⟨fun i m σ' H' ys=>i≤xs.length∧m=xs.length - i∧(∃l,σ'=σ0.set 0 l)∧Same H H'∧H' D=some (.lst ys)∧ys=sel p 0 (xs.take i),⟨xs.length,Nat.zero_le _,rfl,⟨none,jH h0⟩,aW hD _,aK,rfl⟩,?_⟩
 rintro i m σ' H' ys ⟨hi,rfl,⟨l,rfl⟩,sm,hL,rfl⟩
 refine ⟨hL,?_⟩
 by_cases hlt:i<xs.length
 ·right
  obtain ⟨g1,g2⟩:=go H' i xs[i] sm (List.getElem?_eq_getElem hlt)
  refine ⟨g1,fun x H2 hy=>?_⟩
  obtain ⟨rfl,rfl⟩:=g2 x H2 hy
  unfold cJ
  dsimp only
  have hj:0<σ0.length:=by
   by_cases z:0<σ0.length
   ·exact z
   ·rw [List.getElem?_eq_none (by lia)] at h0;cases h0
  have tk:sel p 0 (xs.take (i+1))=sel p 0 (xs.take i)++(if p i then [xs[i]] else []):=by
   rw [List.take_add_one,List.getElem?_eq_getElem hlt]
   show sel p 0 (xs.take i++[xs[i]])=_
   rw [zE,List.length_take,Nat.zero_add,Nat.min_eq_left (Nat.le_of_lt hlt)]
  refine ht i xs[i] (List.getElem?_eq_getElem hlt) _ _ l sm fun H3 s3=>?_
  cases hp:p i with
  |true=>
   rw [if_pos rfl]
   refine ⟨xs[i],by rw [List.set_set,List.getElem?_set_self hj],s3 _ _ hL,?_,xs.length - (i+1),by lia,hlt,rfl,⟨some xs[i],by rw [List.set_set]⟩,?_,aK,?_⟩
   ·have:=aCt p 0 (xs.take i)
    rw [List.length_take] at this
    lia
   ·intro b o e
    rw [aM (aY e hD)]
    exact s3 _ _ (sm _ _ e)
   ·rw [tk,hp];rfl
  |false=>
   rw [if_neg (by simp)]
   refine ⟨s3 _ _ hL,xs.length - (i+1),by lia,hlt,rfl,⟨some xs[i],by rw [List.set_set]⟩,sm.trans s3,s3 _ _ hL,?_⟩
   rw [tk,hp]
   simp
 ·left
  have e:i=xs.length:=by lia
  subst e
  refine ⟨stop _ sm,?_⟩
  rw [List.take_length] at hL
  exact q D _ hD sm hL
end
end L2
namespace My
open PySem PySem.Spec PyProof.Rows L2
section
variable {P:Program} {w:World} {K:PySem.W.Frag} {mg:Str→Option Value} {base:Heap}
section
variable {X:Cx}
def aWj:R2:=fun x y H Q=>(∃a b,x=.int a∧y=.int b∧Q (.bl (!decide (b<a))) H)∨∃a b:Str,x=.str a∧y=.str b∧Q (.bl (!decide (b.cps.toList<a.cps.toList))) H
theorem aUh:OpR X (compareOp .LtE) aWj:=by
 intro pins s σ H x y v u Q I rx ry h
 rcases h with ⟨a,b,rfl,rfl,q⟩|⟨a,b,rfl,rfl,q⟩
 ·obtain ⟨t,rfl⟩:=rx
  obtain ⟨t',rfl⟩:=ry
  refine PyProof.Rows.le_int ?_
  rw [show decide (a≤b)=!decide (b<a) by by_cases h:b<a <;> simp [h] <;> lia]
  exact ⟨.bl _,H,I,rfl,q⟩
 ·obtain ⟨t,rfl⟩:=rx
  obtain ⟨t',rfl⟩:=ry
  exact P.le_str ⟨.bl _,H,I,rfl,q⟩
end
theorem aL1 {X:Cx} {tg a b:Expr} {t:TA} {p pos:Pos} (hg:Gl X "range") (hm:X.mg "range"=none) (ha:VA X [a,b] t) (hp:cO a=true:=by rfl) (hp2:cO b=true:=by rfl):VI X tg (.Call (.Name "range" p) [a,b] [] pos) (aS5 t):=⟨aMp hg hm ha.1 (by rw [aN hp,aN (es:=[]) hp2];rfl) (by rw [aN (es:=[]) hp2];rfl)⟩
def aCj (K:PySem.W.Frag):Sp:=fun vs H Q _=>∃(d:Addr) (es:List En) (e:En),vs=[.ref d,.str e.n]∧eU K H d es∧e∈es∧∀H',Same H H'→Q e.v H'
theorem jZ:∀{es:List En} {e:En},(es.map (·.n)).Nodup→e∈es→lY (enK es) (Sum.inr e.n)=some e.v
 |[],e,nd,h=>by cases h
 |a::es,e,nd,h=>by
  rw [List.map_cons,List.nodup_cons] at nd
  rcases List.mem_cons.mp h with rfl|h
  ·exact pO rfl
  ·have:a.n≠e.n:=fun z=>nd.1 (z ▸ List.mem_map_of_mem h)
   show lY ((Sum.inr a.n,a.v)::enK es) (Sum.inr e.n)=_
   rw [pA (fun z=>this (Sum.inr.inj z))]
   exact jZ nd.2 h
theorem aGc (T:Txt w K mg) (iD:Ok P w K mg base 2 "is_name" ["thing"] (aAr K nameB)):Ok P w K mg base 3 "table_in" ["placed","name"] (aCj K):=by
 refine Ok.ofV T.aG4 aFx (fun vs H Q E h=>?_) (fun f cdv A outer s H vs Q E hr h=>?_)
 ·obtain ⟨d,es,e,rfl,_⟩:=h;rfl
 obtain ⟨d,es,e,rfl,hE,he,q⟩:=h
 have hu:=aFj hr
 refine ⟨_,(aF (cR (VW.pt (jA (cZ (cQ (aV (iD.mono (by decide)) hr (by rfl) (aD (vv 1) aC)))) (iB (aLo hu (vv 1) (vv 0))))) (aJ oG) bJ) (aJ (aP (kW hu (vv 0) (vv 1) (fun _ _=>rfl))))),?_⟩
 refine ⟨_,rfl,_,rfl,(hE.nm e he).th,fun H1 s1=>⟨_,rfl,?_⟩⟩
 rw [show nameB (.str e.n)=true from hE.nm e he]
 refine cB ?_
 have hv:=jZ hE.nd he
 refine ⟨_,rfl,_,rfl,d,_,rfl,.inl ⟨_,Sum.inr e.n,.inl (s1 _ _ hE.at_),rfl,rfl⟩,_,rfl,?_⟩
 rw [hv]
 refine cB ?_
 exact ⟨_,rfl,_,rfl,d,e.v,rfl,.inl ⟨_,Sum.inr e.n,.inl (s1 _ _ hE.at_),rfl,hv.symm⟩,q H1 s1⟩
theorem aVb {kd:Str} {a b:V} {H:Hp} {Q:VK} (ha:dH kd a) (hb:dH kd b) (q:Q (.bl (!vlt b a)) H):aWj a b H Q:=by
 cases ha with
 |num=>cases hb;exact .inl ⟨_,_,rfl,rfl,q⟩
 |wrd _ _=>cases hb;exact .inr ⟨_,_,rfl,rfl,q⟩
def qK (v:V):List (V × Int)→Nat→Nat→Nat
 |[],_,n=>n
 |c::t,p,n=>qK v t (p+1) (if vlt v c.1=true then n else p)
theorem aBy (v:V):∀(l:List (V × Int)) (c:V × Int) (p n:Nat),qK v (l++[c]) p n=if vlt v c.1=true then qK v l p n else p+l.length
 |[],c,p,n=>by show (if _ then _ else _)=_;rfl
 |a::l,c,p,n=>by
  show qK v (l++[c]) (p+1) _=_
  rw [aBy v l c]
  show (if _ then qK v l (p+1) _ else p+1+l.length)=if _ then qK v l (p+1) _ else p+(l.length+1)
  rw [show p+1+l.length=p+(l.length+1) by lia]
theorem aQ2 (v:V) (l:List (V × Int)):qK v l 1 0≤l.length:=by
 suffices ∀(l:List (V × Int)) (p n:Nat),n≤p+l.length - 1∨n=0→qK v l p n≤p+l.length - 1∨qK v l p n=0 by
  rcases this l 1 0 (.inr rfl) with h|h <;> lia
 intro l
 induction l with
 |nil=>intro p n h;exact h
 |cons c t ih=>
  intro p n h
  have:=ih (p+1) (if vlt v c.1=true then n else p) (by
   rw [List.length_cons] at h
   split
   ·rcases h with h|h
    ·left;lia
    ·right;exact h
   ·left;lia)
  rw [List.length_cons]
  rcases this with h|h
  ·left
   show qK v t (p+1) _≤_
   lia
  ·right;exact h
def aEr (K:PySem.W.Frag):Sp:=fun vs H Q _=>∃(vc v:V) (kd:Str) (h0:Int) (cs:List (V × Int)),vs=[vc,v]∧uM K H (nY K H) vc ((.non,h0)::cs)∧cs.length≤7∧dH kd v∧(∀c∈cs,dH kd c.1)∧Q (.int (qK v cs 1 0:Nat)) H
theorem aLk (T:Txt w K mg):Ok P w K mg base 1 "cut_of" ["cuts","value"] (aEr K):=by
 refine Ok.ofV T.aP1 qD (fun vs H Q E h=>?_) (fun f cdv A outer s H vs Q E hr h=>?_)
 ·obtain ⟨vc,v,kd,h0,cs,rfl,_⟩:=h;rfl
 obtain ⟨vc,v,kd,h0,cs,rfl,⟨a,us,rfl,ha,hu⟩,l7,hk,hks,q⟩:=h
 refine ⟨_,(aF (bA (i:=2) qD.nd rfl (by trivial) aG) (aF (eV PassesOwn.never rfl (aL1 (by rfl) T.iI (aD aG (aD (aR bH (by rfl) T.gQ dY (aD (vv 0) aC)) aC))) (aU (i:=3) qD.nd rfl (by trivial)) (aJ (cR (bY aUh (aZ cA (aZ cA (vv 0) (vv 3) (fun _ _=>rfl)) aG (fun _ _=>rfl)) (vv 1) (bM _)) (aJ (bA (i:=2) qD.nd rfl (by trivial) (vv 3))) bJ))) (aJ (aP (vv 2))))),?_⟩
 have lu:=hu.len
 rw [List.length_cons] at lu
 have lt:us.length≤8:=by lia
 refine ⟨_,rfl,_,_,rfl,.inr ha,1,us.length,rfl,⟨by decide,by decide,by lia,by lia⟩,?_⟩
 rw [show ((us.length:Int) - 1).toNat=cs.length by lia]
 refine iH (fun i σ H'=>H'=H∧∃l,σ=[some (.ref a),some v,some (.int (qK v (cs.take i) 1 0:Nat)),l]) ⟨rfl,_,rfl⟩ (fun i σ H' hi p=>?_) fun σ H' p=>?_
 ·obtain ⟨rfl,l,rfl⟩:=p
  have hi1:i+1<us.length:=by lia
  obtain ⟨c,hc,pc,epc,hpc⟩:=dF hu (List.getElem?_eq_getElem hi1)
  rw [List.getElem?_cons_succ] at hc
  have e:atI us (1+(i:Int))=some (.ref pc):=by
   rw [show (1+(i:Int))=((i+1:Nat):Int) by lia,←epc]
   exact fP (List.getElem?_eq_getElem hi1)
  have hck:=hks c (List.mem_of_getElem? hc)
  have tk:cs.take (i+1)=cs.take i++[c]:=by rw [List.take_add_one,hc];rfl
  have hlt:(cs.take i).length=i:=by rw [List.length_take];lia
  refine ⟨_,rfl,_,rfl,a,us,_,_,rfl,rfl,ha,e,pc,_,0,_,rfl,rfl,hpc,at0 _ _,_,rfl,aVb hck hk ⟨_,rfl,?_⟩⟩
  have sn:=aBy v (cs.take i) c 1 0
  rw [←tk,hlt] at sn
  cases hv:vlt v c.1 with
  |true=>
   rw [hv,if_pos rfl] at sn
   exact cB ⟨rfl,some (.int (1+(i:Int))),by rw [sn];rfl⟩
  |false=>
   rw [hv,if_neg Bool.false_ne_true] at sn
   refine dW ⟨_,rfl,rfl,some (.int (1+(i:Int))),?_⟩
   rw [sn,show (((1+i:Nat)):Int)=1+(i:Int) by lia]
   rfl
 ·obtain ⟨rfl,l,rfl⟩:=p
  rw [List.take_of_length_le (Nat.le_refl _)]
  exact ⟨_,rfl,q⟩
def fW (hd:Hdr) (m:Int) (r:List V) (house:Int):Plc→Bool
 |.copies=>true
 |.keys n=>decide (nm (r.getD (plc hd n) .non) % m=house)
 |.spans n h0 cs=>decide ((((.non,h0)::cs).map (·.2)).getD (qK (r.getD (plc hd n) .non) cs 1 0) 0=house)
def aCb (K:PySem.W.Frag):Sp:=fun vs H Q _=>∃(vh vp vr:V) (house m:Int) (hd:Hdr) (pl:Plc) (r:List V),vs=[vh,vp,vr,.int house,.int m]∧jT K H vh hd∧aMw hd∧wV K H vp pl∧aQ6 hd m pl∧qL K H vr r∧xR hd r∧0<m∧∀H',Same H H'→Q (.bl (fW hd m r house pl)) H'
theorem aSq {hd:Hdr} {r:List V} (h:xR hd r) {n k:Str} (hk:look hd n=some k):∃v,r[plc hd n]?=some v∧r.getD (plc hd n) .non=v∧dH k v:=by
 obtain ⟨h1,_⟩:=aI1 hk
 obtain ⟨v,hv,ok⟩:=dF h h1
 exact ⟨v,hv,by rw [List.getD_eq_getElem?_getD,hv];rfl,ok⟩
theorem aDu (T:Txt w K mg) (aIt:Ok P w K mg base 2 "place_of" ["head","name"] (aEt K)) (aU3:Ok P w K mg base 2 "home" ["value","houses"] aKv) (aNc:Ok P w K mg base 1 "cut_of" ["cuts","value"] (aEr K)):Ok P w K mg base 3 "stands_at" ["head","placing","row","house","houses"] (aCb K):=by
 refine Ok.ofV T.aGl mU (fun vs H Q E h=>?_) (fun f cdv A outer s H vs Q E hr h=>?_)
 ·obtain ⟨vh,vp,vr,house,m,hd,pl,r,rfl,_⟩:=h;rfl
 obtain ⟨vh,vp,vr,house,m,hd,pl,r,rfl,hI,hok,hpl,plok,⟨ra,rfl,hra⟩,hr',m0,q⟩:=h
 have l8:=hok.1.2.2
 refine ⟨_,(aF (cR (bY gA (aZ cA (vv 1) aG (fun _ _=>rfl)) bF (bM _)) (aJ (aP oE)) bJ) (aF (bA (i:=5) mU.nd rfl (by trivial) (aZ cA (vv 2) (aV (aIt.mono (by decide)) hr (by rfl) (aD (vv 0) (aD (aZ cA (vv 1) aG (fun _ _=>rfl)) aC))) (fun _ _=>rfl))) (aF (cR (bY gA (aZ cA (vv 1) aG (fun _ _=>rfl)) bF (bM _)) (aJ (aP (cU gA (aV (aU3.mono (by decide)) hr (by rfl) (aD (vv 5) (aD (vv 4) aC))) (vv 3) (bM _)))) bJ) (aF (bA (i:=6) mU.nd rfl (by trivial) (aZ cA (vv 1) aG (fun _ _=>rfl))) (aJ (aP (cU gA (aZ cA (aZ cA (vv 6) (aV (aNc.mono (by decide)) hr (by rfl) (aD (vv 6) (aD (vv 5) aC))) (fun _ _=>rfl)) aG (fun _ _=>rfl)) (vv 3) (bM _)))))))),?_⟩
 cases pl with
 |copies=>
  obtain ⟨a,rfl,ha⟩:=hpl
  exact ⟨_,rfl,a,_,0,_,rfl,rfl,ha,at0 _ _,rfl,_,rfl,dW (q H (Same.refl H))⟩
 |keys n=>
  obtain ⟨a,rfl,ha⟩:=hpl
  obtain ⟨hn,k,hk⟩:=plok
  obtain ⟨v,hv,hg,okv⟩:=aSq hr' hk
  refine ⟨_,rfl,a,_,0,_,rfl,rfl,ha,at0 _ _,rfl,_,rfl,yI (by decide +kernel) ?_⟩
  refine ⟨_,rfl,_,rfl,_,rfl,a,_,1,_,rfl,rfl,ha,at1 _ _ _,vh,n,hd,k,rfl,hI,by lia,hk,fun H1 s1=>?_⟩
  refine ⟨ra,r,_,v,rfl,rfl,s1.bB hra,fP hv,?_⟩
  refine ⟨_,rfl,a,_,0,_,rfl,rfl,s1.bB ha,at0 _ _,rfl,_,rfl,aNx (by decide +kernel) ?_⟩
  refine ⟨_,rfl,_,rfl,v,m,rfl,vK okv,m0,_,rfl,rfl,?_⟩
  have e:decide (V.int (nm v % m)=V.int house)=fW hd m r house (.keys n):=by
   show _=decide (nm (r.getD (plc hd n) .non) % m=house)
   rw [hg]
   exact decide_eq_decide.mpr ⟨fun z=>V.int.inj z,fun z=>congrArg V.int z⟩
  rw [e]
  exact q H1 s1
 |spans n h0 cs=>
  obtain ⟨a,vc,rfl,ha,hc⟩:=hpl
  obtain ⟨hn,k,hk,hkd,hcs⟩:=plok
  obtain ⟨v,hv,hg,okv⟩:=aSq hr' hk
  refine ⟨_,rfl,a,_,0,_,rfl,rfl,ha,at0 _ _,rfl,_,rfl,yI (by decide +kernel) ?_⟩
  refine ⟨_,rfl,_,rfl,_,rfl,a,_,1,_,rfl,rfl,ha,at1 _ _ _,vh,n,hd,k,rfl,hI,by lia,hk,fun H1 s1=>?_⟩
  refine ⟨ra,r,_,v,rfl,rfl,s1.bB hra,fP hv,?_⟩
  refine ⟨_,rfl,a,_,0,_,rfl,rfl,s1.bB ha,at0 _ _,rfl,_,rfl,yI (by decide +kernel) ?_⟩
  refine ⟨_,rfl,a,_,2,_,rfl,rfl,s1.bB ha,at2 _ _ _ _,?_⟩
  have hc1:=uM.same s1 (fun _ _ z=>z.same s1) hc
  obtain ⟨ca,us,ec,hca,hus⟩:=id hc1
  subst ec
  have lu:=hus.len
  rw [List.length_cons] at lu
  have nle:=aQ2 v cs
  obtain ⟨c,hcc,pc,epc,hpc⟩:=dF hus (List.getElem?_eq_getElem (show qK v cs 1 0<us.length by lia))
  refine ⟨_,rfl,_,rfl,_,rfl,.ref ca,v,k,h0,cs,rfl,hc1,hcs.few,okv,fun c hc=>(hcs.each c hc).1,ca,us,_,.ref pc,rfl,rfl,hca,fP (by rw [List.getElem?_eq_getElem (show qK v cs 1 0<us.length by lia),epc]),pc,_,1,_,rfl,rfl,hpc,at1 _ _ _,_,rfl,rfl,?_⟩
  have e:decide (V.int c.2=V.int house)=fW hd m r house (.spans n h0 cs):=by
   show _=decide ((((.non,h0)::cs).map (·.2)).getD (qK (r.getD (plc hd n) .non) cs 1 0) 0=house)
   rw [hg,List.getD_eq_getElem?_getD,List.getElem?_map,hcc]
   exact decide_eq_decide.mpr ⟨fun z=>V.int.inj z,fun z=>congrArg V.int z⟩
  rw [e]
  exact q H1 s1
theorem yX {α:Type} {p:Nat→Bool} {p':α→Bool}:∀{k:Nat} {xs:List α},(∀(i:Nat) (x:α),xs[i]?=some x→p (k+i)=p' x)→sel p k xs=xs.filter p'
 |_,[],_=>rfl
 |k,x::r,h=>by
  have h0:=h 0 x rfl
  rw [Nat.add_zero] at h0
  show (if p k then x::sel p (k+1) r else sel p (k+1) r)=_
  rw [List.filter_cons,h0,yX (k:=k+1) (xs:=r) fun i y e=>by rw [show k+1+i=k+(i+1) by lia];exact h (i+1) y (by simpa using e)]
theorem aNt {α β:Type} {R:α→β→Prop} {p:Nat→Bool} {as:List α} {bs:List β} (h:bZ R as bs):∀k,bZ R (sel p k as) (sel p k bs):=by
 induction h with
 |nil=>exact fun _=>.nil
 |@cons a b as bs r _ ih=>
  intro k
  show bZ R (if p k then a::sel p (k+1) as else sel p (k+1) as) (if p k then b::sel p (k+1) bs else sel p (k+1) bs)
  split
  ·exact .cons r (ih _)
  ·exact ih _
theorem aR5 {X:Cx} {scope:Scope} {x y z y3:Str} {σ:L2.St} {u v u3:V} (i j k:Nat) (hf:(y,NameKind.free)∈scope.names) (hg:(z,NameKind.free)∈scope.names) (hf3:(y3,NameKind.free)∈scope.names) (hi:X.N[i]?=some y) (hj:X.N[j]?=some z) (hk:X.N[k]?=some y3) (hs:σ[i]?=some (some u)) (ht:σ[j]?=some (some v)) (hs3:σ[k]?=some (some u3)) (hv:Vis X.env.scope y) (hw:Vis X.env.scope z) (hv3:Vis X.env.scope y3):Cap X scope [x,y,z,y3] σ [none,some u,some v,some u3]:=
 ⟨rfl,fun n q r h1 h2=>by
  match n,h1,h2 with
  |0,_,h2=>cases h2
  |1,h1,h2=>cases h1;cases h2;exact ⟨hf,i,hi,hs,hv⟩
  |2,h1,h2=>cases h1;cases h2;exact ⟨hg,j,hj,ht,hw⟩
  |3,h1,h2=>cases h1;cases h2;exact ⟨hf3,k,hk,hs3,hv3⟩
  |n+4,h1,_=>cases h1⟩
def aBd (K:PySem.W.Frag):Sp:=fun vs H Q _=>∃(v vh vp:V) (L:Addr) (t:Tb) (house m:Int),vs=[v,.int house,.int m]∧mW K H v vh vp L t∧rA m t∧0≤house∧house<m ∧
 ∀D' H',H D'=none→Same H H'→bU K H' D' (t.rows.filter fun r=>fW t.hd m r house t.pl)→Q (.ref D') H'
theorem aI3 (T:Txt w K mg) (gK:Ok P w K mg base 2 "is_number_below" ["thing","many"] xM) (aFc:Ok P w K mg base 3 "stands_at" ["head","placing","row","house","houses"] (aCb K)):Ok P w K mg base 4 "rows_at" ["table","house","houses"] (aBd K):=by
 refine Ok.ofV T.aMh aHh (fun vs H Q E h=>?_) (fun f cdv A outer s H vs Q E hr h=>?_)
 ·obtain ⟨v,vh,vp,L,t,house,m,rfl,_⟩:=h;rfl
 obtain ⟨v,vh,vp,L,t,house,m,rfl,hT,ok,h0,hm,q⟩:=h
 refine ⟨_,(aF (cR (cZ (cQ (aV (gK.mono (by decide)) hr (by rfl) (aD (vv 1) (aD (vv 2) aC))))) (aJ oG) bJ) (aJ (aP (cM (N:=["row","house","houses","table"]) (by trivial) (gJ (aH pZ) rfl (by decide +kernel)) rfl (fK (aZ (cH (K:=K)) (vv 0) aG (fun _ _=>rfl))) (fun cl s' H' fp=>⟨(aU (i:=0) (show (["row","house","houses","table"]:List Str).Nodup from by decide +kernel) rfl (Or.inl rfl)),(aUg (cQ (aV (aFc.mono (by decide)) hr (by rfl) (aD (aZ (cH (K:=K)) (vv 3) aG (fun _ _=>rfl)) (aD (aZ (cH (K:=K)) (vv 3) aG (fun _ _=>rfl)) (aD (vv 0) (aD (vv 1) (aD (vv 2) aC)))))))),(vv 0)⟩))))),?_⟩
 refine ⟨_,rfl,_,rfl,house,m,rfl,_,rfl,?_⟩
 rw [decide_eq_true h0,decide_eq_true hm]
 refine cB ?_
 obtain ⟨a,rfl,ha,hI,hpl,⟨us,hL,hu⟩⟩:=hT
 have lu:=hu.len
 have fw:=ok.few
 have m0:0<m:=by lia
 refine aL2 us (fun i=>fW t.hd m (t.rows.getD i []) house t.pl) [none,some (.int house),some (.int m),some (.ref a)] ?_ (small (by lia)) (fun R r=>aSm (fun H' sm=>SqL.of (sm _ _ hL)) (fun R' r'=>⟨_,rfl,a,_,2,_,rfl,rfl,ha,at2 _ _ _ _,r'⟩) R r) (fun i u ex H' R l sm rr=>?_) rfl fun D' H' hN sm hD'=>?_
 ·exact aR5 1 2 0 (by decide +kernel) (by decide +kernel) (by decide +kernel) rfl rfl rfl rfl rfl rfl (by trivial) (by trivial) (by trivial)
 ·obtain ⟨r,er,hr'⟩:=dF hu ex
  have hkr:=ok.rows r (List.mem_of_getElem? er)
  have eg:t.rows.getD i []=r:=by rw [List.getD_eq_getElem?_getD,er];rfl
  rw [eg] at rr
  refine ⟨_,rfl,a,_,0,_,rfl,rfl,sm.bB ha,at0 _ _,_,rfl,a,_,1,_,rfl,rfl,sm.bB ha,at1 _ _ _,_,rfl,_,rfl,_,rfl,vh,vp,u,house,m,t.hd,t.pl,r,rfl,hI.same sm,ok.hd,hpl.same sm,ok.pl,hr'.same sm,hkr,m0,fun H2 s2=>⟨_,rfl,rr H2 s2⟩⟩
 ·refine q D' H' hN sm ⟨_,hD',?_⟩
  have e:(t.rows.filter fun r=>fW t.hd m r house t.pl)=sel (fun i=>fW t.hd m (t.rows.getD i []) house t.pl) 0 t.rows:=(yX fun i r er=>by rw [Nat.zero_add,List.getD_eq_getElem?_getD,er];rfl).symm
  rw [e]
  exact (aNt hu 0).imp fun _ _ r=>r.same sm
def dI (K:PySem.W.Frag) (H:Hp) (C x:Addr) (m:Int) (d:Addr) (es:List En):Prop:=(∃dx,H x=some (.ins C dx [("placed",.ref d),("house_count",.int m)]))∧eU K H d es∧∀e∈es,rA m e.t
theorem dI.same {H H':Hp} {C x d:Addr} {m:Int} {es:List En} (s:Same H H') (h:dI K H C x m d es):dI K H' C x m d es:=by
 obtain ⟨⟨dx,h1⟩,h2,h3⟩:=h
 exact ⟨⟨dx,s _ _ h1⟩,h2.same s,h3⟩
theorem cG.ins {H:Hp} {x C dx:Addr} {fs:List (Str × V)} (h:H x=some (.ins C dx fs)):cG H x:=⟨fun _ z=>(by rw [h] at z;cases z),fun _ _ z=>(by rw [h] at z;cases z),fun _ z=>(by rw [h] at z;cases z)⟩
theorem pY {α β:Type} {R:α→β→Prop} {as:List α} {bs:List β} (h:bZ R as bs) {b:β} (hb:b∈bs):∃a∈as,R a b:=by
 induction h with
 |nil=>cases hb
 |cons r _ ih=>
  rcases List.mem_cons.mp hb with rfl|hb
  ·exact ⟨_,List.mem_cons_self,r⟩
  ·obtain ⟨a,h1,h2⟩:=ih hb
   exact ⟨a,List.mem_cons_of_mem _ h1,h2⟩
theorem rA.sorted {m:Int} {t:Tb} (h:rA m t):rA m { t with rows:=srt t.rows }:=⟨h.hd,h.pl,by show (srt t.rows).length≤60;rw [aRl];exact h.few,fun r hr=>h.rows r (aD6 hr)⟩
def aJw (K:PySem.W.Frag) (C Pt:Addr):Sp:=fun vs H Q _=>∃(H0:Hp) (x dx d:Addr) (m:Int) (es:List En),vs=[.ref x,.int m,.ref d]∧H x=some (.ins C dx [])∧H0 x=none∧Same H0 H∧1≤m∧m≤6∧eU K H0 d es∧(∀e∈es,rA m e.t)∧H0 Pt=some (.tab qC) ∧
 ∀d' H' es',H0 d'=none→Same H0 H'→dI K H' C x m d' es'→bZ (fun e e'=>∃v L,e'=aNk e v L∧H0 L=none) es es'→Q .non H'
theorem aNl (T:Txt w K mg) {C Pt:Addr} (c:Cls K C) (D:qI K C "__init__" "Town.__init__" fH ["self","houses","tables"]) (n1:dC K C "placed") (n2:dC K C "house_count") (wR:Ok P w K mg base 10 "placed_tables" ["houses","tables"] (aB0 K Pt)):OkM P w K mg base C 11 "__init__" ["self","houses","tables"] (aJw K C Pt):=by
 refine OkM.ofV c D vM (fun vs H Q E h=>?_) (fun f cdv A outer s H vs Q E hr h=>?_)
 ·obtain ⟨_,x,dx,d,m,es,rfl,_⟩:=h;rfl
 obtain ⟨H0,x,dx,d,m,es,rfl,hx,hN,s0,m1,m6,hE,ok,hP,q⟩:=h
 refine ⟨_,(aF (aOl (K:=K) (vv 0) (aV (wR.mono (by decide)) hr (by rfl) (aD (vv 1) (aD (vv 2) aC)))) (aJ (aOl (K:=K) (vv 0) (vv 1)))),?_⟩
 refine ⟨_,rfl,_,rfl,d,m,es,rfl,m1,m6,hE.same s0,ok,s0 _ _ hP,fun d' H1 es' hd' s1 hE' a1=>?_⟩
 have hx1:=s1 _ _ hx
 refine ⟨_,rfl,x,C,dx,[],rfl,hx1,c,n1,by decide,?_⟩
 refine ⟨_,rfl,_,rfl,x,C,dx,_,rfl,aK,c,n2,by show 1<1000;decide,?_⟩
 have nx:cG H1 x:=cG.ins hx1
 have dne:d'≠x:=fun z=>by rw [z,hx] at hd';cases hd'
 have b1:But x H1 (L2.upd (L2.upd H1 x (.ins C dx [("placed",.ref d')])) x (.ins C dx [("placed",.ref d'),("house_count",.int m)])):=fun b o hb h=>by rw [aM hb,aM hb];exact h
 have s2:Same H0 (L2.upd (L2.upd H1 x (.ins C dx [("placed",.ref d')])) x (.ins C dx [("placed",.ref d'),("house_count",.int m)])):=fun b o h=>b1 _ _ (fun z=>by rw [z,hN] at h;cases h) (s1 _ _ (s0 _ _ h))
 refine q d' _ es' (none_of s0 hd') s2 ⟨⟨dx,aK⟩,⟨b1 _ _ dne hE'.at_,hE'.nd,hE'.few,hE'.nm,fun e he=>b1.tb nx (hE'.tb e he)⟩,fun e he=>?_⟩ (a1.imp fun e e' ⟨v,L,e1,e2⟩=>⟨v,L,e1,none_of s0 e2⟩)
 obtain ⟨e0,h0,v,L,rfl,_⟩:=pY a1 he
 exact (ok e0 h0).sorted
def aB4 (K:PySem.W.Frag) (C:Addr):Sp:=fun vs H Q _=>∃(x d:Addr) (m:Int) (es:List En),vs=[.ref x]∧dI K H C x m d es∧Q (.int m) H
theorem aJb (T:Txt w K mg) {C:Addr} (c:Cls K C) (D:qI K C "houses" "Town.houses" iM ["self"]) (n2:dC K C "house_count"):OkM P w K mg base C 1 "houses" ["self"] (aB4 K C):=by
 refine OkM.ofV c D aAk (fun vs H Q E h=>?_) (fun f cdv A outer s H vs Q E hr h=>?_)
 ·obtain ⟨x,d,m,es,rfl,_⟩:=h;rfl
 obtain ⟨x,d,m,es,rfl,⟨⟨dx,hx⟩,hE,ok⟩,q⟩:=h
 refine ⟨_,(aJ (aP (rP (K:=K) (vv 0)))),?_⟩
 exact ⟨_,rfl,x,C,dx,_,_,rfl,hx,c,n2,rfl,q⟩
def xK (K:PySem.W.Frag) (C:Addr):Sp:=fun vs H Q _=>∃(x d:Addr) (m:Int) (es:List En) (e:En),vs=[.ref x,.str e.n]∧dI K H C x m d es∧e∈es∧∀H',Same H H'→Q e.vp H'
theorem aFm (T:Txt w K mg) {C:Addr} (c:Cls K C) (D:qI K C "placing" "Town.placing" gH ["self","name"]) (n1:dC K C "placed") (jL:Ok P w K mg base 3 "table_in" ["placed","name"] (aCj K)):OkM P w K mg base C 4 "placing" ["self","name"] (xK K C):=by
 refine OkM.ofV c D wK (fun vs H Q E h=>?_) (fun f cdv A outer s H vs Q E hr h=>?_)
 ·obtain ⟨x,d,m,es,e,rfl,_⟩:=h;rfl
 obtain ⟨x,d,m,es,e,rfl,⟨⟨dx,hx⟩,hE,ok⟩,he,q⟩:=h
 refine ⟨_,(aJ (aP (aZ (cH (K:=K)) (aV (jL.mono (by decide)) hr (by rfl) (aD (rP (K:=K) (vv 0)) (aD (vv 1) aC))) aG (fun _ _=>rfl)))),?_⟩
 obtain ⟨a,ev,ha,h1,h2,h3⟩:=hE.tb e he
 exact ⟨_,rfl,x,C,dx,_,_,rfl,hx,c,n1,rfl,_,rfl,d,es,e,rfl,hE,he,fun H1 s1=>⟨a,_,1,_,ev,rfl,s1.bB ha,at1 _ _ _,q H1 s1⟩⟩
def jB (K:PySem.W.Frag) (C:Addr):Sp:=fun vs H Q _=>∃(x d:Addr) (m:Int) (es:List En) (e:En),vs=[.ref x,.str e.n]∧dI K H C x m d es∧e∈es∧∀L H',H L=none→Same H H'→bU K H' L e.t.rows→Q (.ref L) H'
theorem aLa (T:Txt w K mg) {C:Addr} (c:Cls K C) (D:qI K C "whole" "Town.whole" jE ["self","name"]) (n1:dC K C "placed") (jL:Ok P w K mg base 3 "table_in" ["placed","name"] (aCj K)):OkM P w K mg base C 4 "whole" ["self","name"] (jB K C):=by
 refine OkM.ofV c D aAq (fun vs H Q E h=>?_) (fun f cdv A outer s H vs Q E hr h=>?_)
 ·obtain ⟨x,d,m,es,e,rfl,_⟩:=h;rfl
 obtain ⟨x,d,m,es,e,rfl,⟨⟨dx,hx⟩,hE,ok⟩,he,q⟩:=h
 refine ⟨_,(aJ (aP (cC (wB (K:=K)) (by rfl) T.rM nQ (aD (aZ (cH (K:=K)) (aV (jL.mono (by decide)) hr (by rfl) (aD (rP (K:=K) (vv 0)) (aD (vv 1) aC))) aG (fun _ _=>rfl)) aC)))),?_⟩
 obtain ⟨a,ev,ha,h1,h2,⟨us,h3,h4⟩⟩:=hE.tb e he
 have lu:=h4.len
 have fw:=(ok e he).few
 refine ⟨_,rfl,x,C,dx,_,_,rfl,hx,c,n1,rfl,_,rfl,d,es,e,rfl,hE,he,fun H1 s1=>⟨a,_,2,_,ev,rfl,s1.bB ha,at2 _ _ _ _,e.L,us,rfl,.inl (SqL.of (s1 _ _ h3)),fun L H2 hN s2 g2=>q L H2 (none_of s1 hN) (s1.trans s2) ⟨us,g2,h4.imp fun _ _ r=>r.same (s1.trans s2)⟩⟩⟩
def aCf (K:PySem.W.Frag) (C:Addr):Sp:=fun vs H Q _=>∃(x d:Addr) (m house:Int) (es:List En) (e:En),vs=[.ref x,.str e.n,.int house]∧dI K H C x m d es∧e∈es∧0≤house∧house<m∧∀L H',H L=none→Same H H'→bU K H' L (e.t.rows.filter fun r=>fW e.t.hd m r house e.t.pl)→Q (.ref L) H'
theorem aM4 (T:Txt w K mg) {C:Addr} (c:Cls K C) (D:qI K C "part" "Town.part" jX ["self","name","house"]) (n1:dC K C "placed") (n2:dC K C "house_count") (jL:Ok P w K mg base 3 "table_in" ["placed","name"] (aCj K)) (aL0:Ok P w K mg base 4 "rows_at" ["table","house","houses"] (aBd K)):OkM P w K mg base C 5 "part" ["self","name","house"] (aCf K C):=by
 refine OkM.ofV c D aDm (fun vs H Q E h=>?_) (fun f cdv A outer s H vs Q E hr h=>?_)
 ·obtain ⟨x,d,m,house,es,e,rfl,_⟩:=h;rfl
 obtain ⟨x,d,m,house,es,e,rfl,⟨⟨dx,hx⟩,hE,ok⟩,he,h0,hm,q⟩:=h
 refine ⟨_,(aJ (aP (aV (aL0.mono (by decide)) hr (by rfl) (aD (aV (jL.mono (by decide)) hr (by rfl) (aD (rP (K:=K) (vv 0)) (aD (vv 1) aC))) (aD (vv 2) (aD (rP (K:=K) (vv 0)) aC)))))),?_⟩
 refine ⟨_,rfl,x,C,dx,_,_,rfl,hx,c,n1,rfl,_,rfl,d,es,e,rfl,hE,he,fun H1 s1=>?_⟩
 refine ⟨_,rfl,_,rfl,x,C,dx,_,_,rfl,s1 _ _ hx,c,n2,rfl,e.v,e.vh,e.vp,e.L,e.t,house,m,rfl,(hE.tb e he).same s1,ok e he,h0,hm,fun L H2 hN s2 hR=>q L H2 (none_of s1 hN) (s1.trans s2) hR⟩
theorem yV {K:PySem.W.Frag} {H:Hp} {W:En→V→Prop}:∀{es:List En} {ys:List V},ys.length=es.length→(∀(i:Nat) (y:V),ys[i]?=some y→∃e v tp,es[i]?=some e∧y=.ref tp∧SqT K H tp [.str e.n,v]∧W e v) →
  ∃vs,bZ W es vs∧oY K H ys ((es.zip vs).map fun e=>(Sum.inr e.1.n,e.2))
 |[],[],_,_=>⟨[],.nil,.nil⟩
 |en::es,y::ys,hl,h=>by
  obtain ⟨vs,a1,a2⟩:=yV (es:=es) (ys:=ys) (Nat.succ.inj hl) fun i y hy=>by
   obtain ⟨e,v,tp,he,r⟩:=h (i+1) y (by simpa using hy)
   exact ⟨e,v,tp,by simpa using he,r⟩
  obtain ⟨e,v,tp,he,rfl,ht,hw⟩:=h 0 y rfl
  cases he
  exact ⟨v::vs,.cons hw a1,.cons ⟨tp,rfl,ht⟩ a2⟩
theorem aGv {W:En→V→Prop} {es:List En} {vs:List V} (h:bZ W es vs):((es.zip vs).map fun e=>((Sum.inr e.1.n:Key),e.2)).map (·.1)=es.map fun e=>Sum.inr e.n:=by
 induction h with
 |nil=>rfl
 |cons _ _ ih=>exact congrArg _ ih
theorem aDq {es:List En} (h:(es.map (·.n)).Nodup):(es.map fun e=>(Sum.inr e.n:Key)).Nodup:=
 List.pairwise_map.mpr ((List.pairwise_map.mp h).imp fun {a b} hab z=>hab (Sum.inr.inj z))
theorem aK0 {es:List En} {vs:List V} (h:bZ (fun (e:En) v=>v=e.vh) es vs):((es.zip vs).map fun e=>((Sum.inr e.1.n:Key),e.2))=es.map fun e=>(Sum.inr e.n,e.vh):=by
 induction h with
 |nil=>rfl
 |cons r _ ih=>rw [List.zip_cons_cons,List.map_cons,List.map_cons,ih,r]
theorem oY.but {K:PySem.W.Frag} {H H':Hp} {d:Addr} {ys:List V} {kvs:List (Key × V)} (h:oY K H ys kvs) (b:But d H H') (n:cG H d):oY K H' ys kvs:=by
 induction h with
 |nil=>exact .nil
 |cons r _ ih=>obtain ⟨tp,e,ht⟩:=r;exact .cons ⟨tp,e,b.bB n ht⟩ ih
theorem aLr {R:En→Addr→Prop} {es:List En} {vs:List V} (h:bZ (fun (e:En) v=>∃L,v=.ref L∧R e L) es vs):∃Ls:List Addr,bZ R es Ls∧((es.zip vs).map fun e=>((Sum.inr e.1.n:Key),e.2))=(es.zip Ls).map fun e=>(Sum.inr e.1.n,.ref e.2):=by
 induction h with
 |nil=>exact ⟨[],.nil,rfl⟩
 |cons r _ ih=>
  obtain ⟨L,rfl,r⟩:=r
  obtain ⟨Ls,h1,h2⟩:=ih
  exact ⟨L::Ls,.cons r h1,by rw [List.zip_cons_cons,List.map_cons,h2];rfl⟩
def yE (K:PySem.W.Frag) (C:Addr):Sp:=fun vs H Q _=>∃(x d:Addr) (m:Int) (es:List En),vs=[.ref x]∧dI K H C x m d es∧∀p H',H p=none→Same H H'→H' p=some (.dK (es.map fun e=>(Sum.inr e.n,e.vh)))→Q (.ref p) H'
theorem aLn (T:Txt w K mg) {C:Addr} (c:Cls K C) (D:qI K C "heads" "Town.heads" jC ["self"]) (n1:dC K C "placed"):OkM P w K mg base C 2 "heads" ["self"] (yE K C):=by
 refine OkM.ofV c D aA3 (fun vs H Q E h=>?_) (fun f cdv A outer s H vs Q E hr h=>?_)
 ·obtain ⟨x,d,m,es,rfl,_⟩:=h;rfl
 obtain ⟨x,d,m,es,rfl,⟨⟨dx,hx⟩,hE,ok⟩,q⟩:=h
 refine ⟨_,(aJ (aP (cC (rC rfl) (by rfl) T.aEb wX (aD (aCr (cM (N:=["name","table"]) (by trivial) (iV (by decide +kernel)) rfl (pR (rP (K:=K) (vv 0))) (fun cl s' H' fp=>⟨(pU (K:=K) (n:=2) rfl (bI (aU (i:=0) (show (["name","table"]:List Str).Nodup from by decide +kernel) rfl (Or.inl rfl)) (bI (aU (i:=1) (show (["name","table"]:List Str).Nodup from by decide +kernel) rfl (Or.inl rfl)) fJ))),dD,(cL (aD (vv 0) (aD (aZ (cH (K:=K)) (vv 1) aG (fun _ _=>rfl)) aC)))⟩))) aC)))),?_⟩
 dsimp only [uW,tCB,dJ]
 refine ⟨d,enK es,hE.at_,fun nf=>yQ [none,none] mD ⟨_,rfl,x,C,dx,_,_,rfl,hx,c,n1,rfl,d,_,rfl,hE.at_,tD,nf,fun o=>?_⟩⟩
 have b0:But d H (L2.upd H d (.frz o (.dK (enK es)))):=But.upd
 have g0:L2.upd H d (.frz o (.dK (enK es))) d=some (.frz o (.dK (enK es))):=aK
 have n0:∀b,L2.upd H d (.frz o (.dK (enK es))) b=none→H b=none:=fun b h=>by
  by_cases e:b=d
  ·rw [e,aK] at h;cases h
  ·rw [aM e] at h;exact h
 generalize L2.upd H d (.frz o (.dK (enK es)))=B at b0 g0 n0 ⊢
 refine oK g0 ⟨none,none,rfl⟩ (by rw [iQ];have:=hE.few;lia) (fun D i H' y=>∃e v tp,es[i]?=some e∧y=.ref tp∧SqT K H' tp [.str e.n,v]∧v=e.vh) ?_ ?_ (fun i kv ek H' R D ys sm hD gD r=>?_) fun D H' ys sm hD gD ly hy=>?_
 ·rintro D i H2 H3 y s2 ⟨e,v,tp,he,rfl,ht,hv⟩
  exact ⟨e,v,tp,he,rfl,s2.bB ht,hv⟩
 ·rintro D i H2 ys zs y gD ⟨e,v,tp,he,rfl,ht,hv⟩
  exact ⟨e,v,tp,he,rfl,SqT.iC gD ht,hv⟩
 ·obtain ⟨en,he,rfl⟩:=yF ek
  have hm:=List.mem_of_getElem? he
  obtain ⟨a,ev,ha,h1,h2,h3⟩:=(b0.same sm).tb (cG.dK hE.at_) (hE.tb en hm)
  refine ⟨_,rfl,_,rfl,a,_,0,_,ev,rfl,ha,at0 _ _,?_⟩
  exact ⟨by show 2≤sizeLine;decide,fun t2 H4 _ s4 g4=>r _ H4 s4 ⟨en,en.vh,t2,he,rfl,SqT.of g4,rfl⟩⟩
 ·rw [iQ] at ly
  obtain ⟨vs,a1,a2⟩:=yV ly hy
  have bD:=b0.same sm
  refine ⟨⟨o,sm _ _ g0⟩,?_⟩
  have nz:cG H' d:=cG.fz (sm _ _ g0)
  have bz:But d H' (L2.upd H' d (.dK (enK es))):=But.upd
  have s05:Same H (L2.upd H' d (.dK (enK es))):=bD.thaw hE.at_
  have gD5:=bz.lst nz gD
  have a2':oY K (L2.upd H' d (.dK (enK es))) ys ((es.zip vs).map fun e=>(Sum.inr e.1.n,e.2)):=oY.but a2 bz nz
  generalize L2.upd H' d (.dK (enK es))=H5 at bz s05 gD5 a2'
  have fw:=hE.few
  refine ⟨D,ys,_,rfl,gD5,a2',by lia,fun p H6 hN s6 g6=>?_⟩
  have ndk:(((es.zip vs).map fun e=>((Sum.inr e.1.n:Key),e.2)).map (·.1)).Nodup:=by rw [aGv a1];exact aDq hE.nd
  rw [mX _ [] (by rw [List.nil_append];exact ndk),List.nil_append] at g6
  refine q p H6 (none_of s05 hN) (s05.trans s6) ?_
  rw [g6]
  exact congrArg _ (congrArg _ (aK0 a1))
def vO (K:PySem.W.Frag) (C:Addr):Sp:=fun vs H Q _=>∃(x d:Addr) (m:Int) (es:List En),vs=[.ref x]∧dI K H C x m d es∧∀p H' (Ls:List Addr),H p=none→Same H H'→H' p=some (.dK ((es.zip Ls).map fun e=>(Sum.inr e.1.n,.ref e.2)))→bZ (fun (e:En) L=>H L=none∧bU K H' L e.t.rows) es Ls→p∉Ls→Q (.ref p) H'
theorem aI8 (T:Txt w K mg) {C:Addr} (c:Cls K C) (D:qI K C "tables" "Town.tables" iJ ["self"]) (n1:dC K C "placed"):OkM P w K mg base C 2 "tables" ["self"] (vO K C):=by
 refine OkM.ofV c D aAc (fun vs H Q E h=>?_) (fun f cdv A outer s H vs Q E hr h=>?_)
 ·obtain ⟨x,d,m,es,rfl,_⟩:=h;rfl
 obtain ⟨x,d,m,es,rfl,⟨⟨dx,hx⟩,hE,ok⟩,q⟩:=h
 refine ⟨_,(aJ (aP (cC (rC rfl) (by rfl) T.aEb wX (aD (aCr (cM (N:=["name","table"]) (by trivial) (iV (by decide +kernel)) rfl (pR (rP (K:=K) (vv 0))) (fun cl s' H' fp=>⟨(pU (K:=K) (n:=2) rfl (bI (aU (i:=0) (show (["name","table"]:List Str).Nodup from by decide +kernel) rfl (Or.inl rfl)) (bI (aU (i:=1) (show (["name","table"]:List Str).Nodup from by decide +kernel) rfl (Or.inl rfl)) fJ))),dD,(cL (aD (vv 0) (aD (cC (wB (K:=K)) (by rfl) T.rM nQ (aD (aZ (cH (K:=K)) (vv 1) aG (fun _ _=>rfl)) aC)) aC)))⟩))) aC)))),?_⟩
 dsimp only [uW,tCB,dJ]
 refine ⟨d,enK es,hE.at_,fun nf=>yQ [none,none] mD ⟨_,rfl,x,C,dx,_,_,rfl,hx,c,n1,rfl,d,_,rfl,hE.at_,tD,nf,fun o=>?_⟩⟩
 have b0:But d H (L2.upd H d (.frz o (.dK (enK es)))):=But.upd
 have g0:L2.upd H d (.frz o (.dK (enK es))) d=some (.frz o (.dK (enK es))):=aK
 have n0:∀b,L2.upd H d (.frz o (.dK (enK es))) b=none→H b=none:=fun b h=>by
  by_cases e:b=d
  ·rw [e,aK] at h;cases h
  ·rw [aM e] at h;exact h
 generalize L2.upd H d (.frz o (.dK (enK es)))=B at b0 g0 n0 ⊢
 refine oK g0 ⟨none,none,rfl⟩ (by rw [iQ];have:=hE.few;lia) (fun D i H' y=>∃e v tp,es[i]?=some e∧y=.ref tp∧SqT K H' tp [.str e.n,v]∧∃L,v=.ref L∧H L=none∧L≠D∧bU K H' L e.t.rows) ?_ ?_ (fun i kv ek H' R D ys sm hD gD r=>?_) fun D H' ys sm hD gD ly hy=>?_
 ·rintro D i H2 H3 y s2 ⟨e,v,tp,he,rfl,ht,L,rfl,hL,hne,hR⟩
  exact ⟨e,_,tp,he,rfl,s2.bB ht,L,rfl,hL,hne,hR.same s2⟩
 ·rintro D i H2 ys zs y gD ⟨e,v,tp,he,rfl,ht,L,rfl,hL,hne,⟨ws,h3,h4⟩⟩
  exact ⟨e,_,tp,he,rfl,SqT.iC gD ht,L,rfl,hL,hne,⟨ws,by rw [aM hne];exact h3,h4.imp fun _ _ ⟨p,e,hp⟩=>⟨p,e,SqT.iC gD hp⟩⟩⟩
 ·obtain ⟨en,he,rfl⟩:=yF ek
  have hm:=List.mem_of_getElem? he
  obtain ⟨a,ev,ha,h1,h2,⟨us,h3,h4⟩⟩:=(b0.same sm).tb (cG.dK hE.at_) (hE.tb en hm)
  refine ⟨_,rfl,_,rfl,a,_,2,_,ev,rfl,ha,at2 _ _ _ _,en.L,us,rfl,.inl (SqL.of h3),fun L H3 hN s3 g3=>?_⟩
  refine ⟨by show 2≤sizeLine;decide,fun t2 H4 _ s4 g4=>r _ H4 (s3.trans s4) ⟨en,_,t2,he,rfl,SqT.of g4,L,rfl,n0 _ (none_of sm hN),fun z=>?_,⟨us,s4 _ _ g3,h4.imp fun _ _ z=>z.same (s3.trans s4)⟩⟩⟩
  rw [z,gD] at hN
  cases hN
 ·rw [iQ] at ly
  obtain ⟨vs,a1,a2⟩:=yV ly hy
  have bD:=b0.same sm
  refine ⟨⟨o,sm _ _ g0⟩,?_⟩
  have nz:cG H' d:=cG.fz (sm _ _ g0)
  have bz:But d H' (L2.upd H' d (.dK (enK es))):=But.upd
  have s05:Same H (L2.upd H' d (.dK (enK es))):=bD.thaw hE.at_
  have gD5:=bz.lst nz gD
  have a2':oY K (L2.upd H' d (.dK (enK es))) ys ((es.zip vs).map fun e=>(Sum.inr e.1.n,e.2)):=oY.but a2 bz nz
  generalize L2.upd H' d (.dK (enK es))=H5 at bz s05 gD5 a2'
  have fw:=hE.few
  refine ⟨D,ys,_,rfl,gD5,a2',by lia,fun p H6 hN s6 g6=>?_⟩
  have ndk:(((es.zip vs).map fun e=>((Sum.inr e.1.n:Key),e.2)).map (·.1)).Nodup:=by rw [aGv a1];exact aDq hE.nd
  rw [mX _ [] (by rw [List.nil_append];exact ndk),List.nil_append] at g6
  obtain ⟨Ls,a3,e3⟩:=aLr a1
  rw [e3] at g6
  have a4:bZ (fun (e:En) L=>H L=none∧bU K H5 L e.t.rows) es Ls:=a3.imp fun e L ⟨h1,_,h2⟩=>⟨h1,bz.rows nz h2⟩
  refine q p H6 Ls (none_of s05 hN) (s05.trans s6) g6 (a4.imp fun e L ⟨h1,h2⟩=>⟨h1,h2.same s6⟩) fun hp=>?_
  obtain ⟨e,_,_,⟨us,h1,_⟩⟩:=pY a4 hp
  rw [h1] at hN
  cases hN
end
end My
namespace L2
open PySem PySem.Spec PyProof.Rows
abbrev M61:Int:=2305843009213693951
def eN (H:Hp) (a:Addr):Prop:=∃s d:Int,H a=some (.lst [.int s,.int d])∧(0≤s∧s<M61)∧0≤d
structure Fx (a:Addr) (H H':Hp):Prop where
 same:∀b o,b≠a→H b=some o→H' b=some o
 st:eN H' a
theorem Fx.trans {a:Addr} {H H1 H2:Hp} (f:Fx a H H1) (g:Fx a H1 H2):Fx a H H2:=⟨fun b o n e=>g.same b o n (f.same b o n e),g.st⟩
theorem eN.same {a:Addr} {H H':Hp} (h:eN H a) (e:Same H H'):eN H' a:=by
 obtain ⟨s,d,h1,h2⟩:=h
 exact ⟨s,d,e _ _ h1,h2⟩
theorem Fx.of {a:Addr} {H H':Hp} (h:eN H a) (e:Same H H'):Fx a H H':=⟨fun b o _ q=>e b o q,h.same e⟩
theorem Fx.refl {a:Addr} {H:Hp} (h:eN H a):Fx a H H:=.of h (Same.refl H)
theorem Fx.sm {a:Addr} {H H1 H2:Hp} (f:Fx a H H1) (e:Same H1 H2):Fx a H H2:=f.trans (.of f.st e)
theorem eN.ne {a p:Addr} {H:Hp} (h:eN H a) (f:H p=none):p≠a:=by
 obtain ⟨s,d,h1,_⟩:=h
 exact (aY h1 f).symm
theorem Fx.bB {K:PySem.W.Frag} {a p:Addr} {H H':Hp} {xs:List V} (f:Fx a H H') (h:eN H a) (e:SqT K H p xs):SqT K H' p xs:=by
 obtain ⟨s,d,h1,_⟩:=h
 rcases e with (e|⟨o,e⟩)|e
 ·exact .inl (.inl (f.same p _ (aEp e h1 (by intro z;cases z)) e))
 ·exact .inl (.inr ⟨o,f.same p _ (aEp e h1 (by intro z;cases z)) e⟩)
 ·exact .inr e
theorem Fx.upd {a D:Addr} {H H':Hp} {o:HO} (f:Fx a H H') (hD:H D=none) (ne:D≠a):Fx a H (L2.upd H' D o):=⟨fun b u n e=>by rw [aM (aY e hD)];exact f.same b u n e,by
 obtain ⟨s,d,h1,h2⟩:=f.st
 exact ⟨s,d,by rw [aM ne.symm];exact h1,h2⟩⟩
theorem Fx.free {a p:Addr} {H H':Hp} (f:Fx a H H') (h:H' p=none):H p=none:=by
 cases e:H p with
 |none=>rfl
 |some o=>
  by_cases z:p=a
  ·subst z
   obtain ⟨s,d,hs,_⟩:=f.st
   rw [hs] at h;cases h
  ·rw [f.same p o z e] at h;cases h
theorem aPd {a:Addr} {H:Hp} (h:eN H a):aWb (Fx a) H:=⟨fun D o hD=>.of h (aW hD o),fun a b=>a.trans b,fun D o H' hD f=>f.upd hD (h.ne hD),fun D H1 H2 xs hD _ e f=>f.same _ _ (h.ne hD) e⟩
theorem aLg:bootBuiltins "divmod"=some (.builtin "divmod"):=by decide +kernel
def aVs:List V→Hp→VK→Prop:=fun xs H Q=>∃i j,xs=[.int i,.int j]∧(0<j∧j<2 ^ 64)∧∀p H',H p=none→Same H H'→H' p=some (.tup [.int (i / j),.int (i % j)])→Q (.ref p) H'
theorem aK3 {X:Cx}:bW X (.builtin "divmod") aVs:=by
 intro pins s σ H xs us Q I r h
 obtain ⟨i,j,rfl,⟨h1,h2⟩,q⟩:=h
 obtain ⟨u,w',rfl,⟨t,rfl⟩,⟨t',rfl⟩⟩:=vals2 r
 have h64:j.natAbs<2 ^ 64:=by lia
 have hlog:j.natAbs.log2<9000:=by
  have:=(Nat.log2_lt (show j.natAbs≠0 by lia)).mpr h64
  lia
 refine divmod_int (by lia) ?_ (.inl (PyProof.noPylong_of_log2 hlog))
 rw [Int.fdiv_eq_ediv_of_nonneg i (by lia),Int.fmod_eq_emod_of_nonneg i (by lia)]
 have hn:H s.heap.objs.size=none:=I.hok.fresh (Nat.le_refl _)
 refine ⟨.ref s.heap.objs.size,upd H s.heap.objs.size (.tup [.int (i / j),.int (i % j)]),?_,rfl,q _ _ hn (aW hn _) aK⟩
 refine I.laid (fun b o e=>Heap.get?_push_of_some _ e) (Nat.le_refl _) ⟨by simp only [List.length_cons,List.length_nil];rw [sizeLine_eq];decide,[.int (i / j) s.toks,.int (i % j) (s.toks+1)],.cons ⟨_,rfl⟩ (.cons ⟨_,rfl⟩ .nil),?_⟩
 exact .of (Heap.get?_push_size s.heap rfl) rfl ⟨_,Heap.get?_push_size s.heap rfl,rfl,0,rfl⟩
end L2
namespace My
open PySem PySem.Spec PyProof.Rows L2
section
variable {P:Program} {w:World} {K:PySem.W.Frag} {mg:Str→Option Value} {base:Heap}
def aDh (K:PySem.W.Frag):Sp:=fun vs H Q _=>∃(a:Addr) (ns:List Int),vs=[.ref a]∧SqL K H a (ns.map V.int)∧ns.length≤63∧∀c H',Same H H'→0≤c→c<M61→Q (.int c) H'
theorem aC2 (T:Txt w K mg):Ok P w K mg base 1 "_law_seed" ["_law_script"] (aDh K):=by
 refine Ok.ofV T.aF8 fU (fun vs H Q E h=>?_) (fun f cdv A outer s H vs Q E hr h=>?_)
 ·obtain ⟨a,ns,rfl,_⟩:=h;rfl
 obtain ⟨a,ns,rfl,ha,h63,q⟩:=h
 refine ⟨_,(aF (bA (i:=1) fU.nd rfl (by trivial) aG) (aF (eV PassesOwn.never rfl (aQk (by rfl) T.aFv (aD (vv 0) aC)) (rJ rfl (bI (aU (i:=2) fU.nd rfl (by trivial)) (bI (aU (i:=3) fU.nd rfl (by trivial)) fJ))) (aJ (bA (i:=1) fU.nd rfl (by trivial) (bO oV (bO eG (bO eG (bO eG (bO uQ (vv 1) aG) (bO oV (vv 3) (bO aG6 aG aG))) (bO uQ aG (vv 2))) aG) aG)))) (aJ (aP (vv 1))))),?_⟩
 refine ⟨_,rfl,a,ns.map V.int,rfl,ha,aO9 (fun i σ H'=>Same H H'∧∃(c:Int) (l2 l3:Option V),0≤c∧c<M61∧σ=[some (.ref a),some (.int c),l2,l3]) ⟨Same.refl H,7,_,_,by decide,by decide,rfl⟩ (fun i σ H' _ ⟨e,_⟩=>e.seq ha) ?_ ?_⟩
 ·rintro i σ H' x Tp H'' ex ⟨sm,c,l2,l3,c0,c1,rfl⟩ hT rfl
  obtain ⟨z,hz,rfl⟩:=aO0 ex
  refine ⟨Tp,_,rfl,SqT.of aK,rfl,_,_,rfl,_,_,rfl,rfl,?_⟩
  refine ⟨_,rfl,_,_,rfl,rfl,.inr ⟨by decide,by decide⟩,_,rfl,_,_,rfl,rfl,⟨by decide,by decide,by decide⟩,_,_,rfl,rfl,(by show (0:Int)<10 ^ 30;decide),_,_,rfl,rfl,_,rfl,_,_,rfl,rfl,.inl ⟨by decide,by decide⟩,_,_,rfl,rfl,_,_,rfl,rfl,_,_,rfl,rfl,(by show (0:Int)<2305843009213693951;decide),?_⟩
  exact ⟨sm.trans (aW hT _),_,_,_,Int.emod_nonneg _ (by decide),Int.emod_lt_of_pos _ (by decide),rfl⟩
 ·rintro σ H' ⟨sm,c,l2,l3,c0,c1,rfl⟩
  exact ⟨_,rfl,q c H' sm c0 c1⟩
def kI:Sp:=fun vs H Q _=>∃(a:Addr) (m:Int),vs=[.ref a,.int m]∧eN H a∧(0<m∧m<2 ^ 64)∧∀c H',Fx a H H'→0≤c→c<m→Q (.int c) H'
theorem aDs (T:Txt w K mg):Ok P w K mg base 1 "_law_next" ["_law_state","_law_many"] kI:=by
 refine Ok.ofV T.aGf sH (fun vs H Q E h=>?_) (fun f cdv A outer s H vs Q E hr h=>?_)
 ·obtain ⟨a,m,rfl,_⟩:=h;rfl
 obtain ⟨a,m,rfl,⟨st,dg,hs,s0,d0⟩,⟨hm,hm2⟩,q⟩:=h
 refine ⟨_,(aF (cR (bY aPs (aZ dU (vv 0) aG (fun _ _=>rfl)) aG (bM _)) (aF (zK (aR aK3 (by rfl) T.aOe aLg (aD (aZ dU (vv 0) aG (fun _ _=>rfl)) (aD (vv 1) aC))) (rJ rfl (bI (aOf (vv 0) aG set_list) (bI (aU (i:=2) sH.nd rfl (by trivial)) fJ)))) (aJ (aP (vv 2)))) bJ) (aF (zK (bO oV (bO eG (bO uQ (aZ dU (vv 0) aG (fun _ _=>rfl)) aG) aG) aG) (aOf (vv 0) aG set_list)) (aJ (aP (bO oV (bO aJz (aZ dU (vv 0) aG (fun _ _=>rfl)) aG) (vv 1)))))),?_⟩
 refine ⟨_,rfl,a,_,1,_,rfl,rfl,SqL.of hs,at1 _ _ _,_,_,rfl,rfl,_,rfl,aEe (fun c=>?_) fun c=>?_⟩
 ·refine ⟨_,rfl,a,_,1,_,rfl,rfl,SqL.of hs,at1 _ _ _,_,rfl,_,_,rfl,⟨hm,hm2⟩,fun p H1 fp s1 g1=>?_⟩
  refine ⟨p,_,rfl,SqT.of g1,rfl,_,_,rfl,⟨_,rfl,a,_,1,1,rfl,rfl,s1 _ _ hs,rfl,?_⟩⟩
  refine ⟨_,_,rfl,rfl,_,rfl,?_⟩
  exact q _ _ ⟨fun b o n h=>by rw [aM n];exact s1 _ _ h,st,dg / m,aK,s0,Int.ediv_nonneg d0 (by lia)⟩ (Int.emod_nonneg _ (by lia)) (Int.emod_lt_of_pos _ hm)
 ·refine ⟨_,rfl,a,_,0,_,rfl,rfl,SqL.of hs,at0 _ _,_,_,rfl,rfl,.inr ⟨by decide,by decide⟩,_,_,rfl,rfl,_,_,rfl,rfl,(by show (0:Int)<2305843009213693951;decide),?_⟩
  refine ⟨_,rfl,a,_,0,0,rfl,rfl,hs,rfl,?_⟩
  refine ⟨_,rfl,a,[.int ((st * 1181783497276652981+12345678910987) % 2305843009213693951),.int dg],0,_,rfl,rfl,SqL.of aK,at0 _ _,_,_,rfl,rfl,⟨by decide,by decide⟩,_,rfl,_,_,rfl,rfl,hm,?_⟩
  exact q _ _ ⟨fun b o n h=>by rw [aM n];exact h,(st * 1181783497276652981+12345678910987) % 2305843009213693951,dg,aK,⟨Int.emod_nonneg _ (by decide),Int.emod_lt_of_pos _ (by decide)⟩,d0⟩ (Int.emod_nonneg _ (by lia)) (Int.emod_lt_of_pos _ hm)
def aEq (K:PySem.W.Frag):Sp:=fun vs H Q _=>∃(a:Addr) (ns:List Int),vs=[.ref a]∧SqL K H a (ns.map V.int)∧ns.length≤63∧∀p H',H p=none→Same H H'→eN H' p→Q (.ref p) H'
theorem aAl (T:Txt w K mg) (aFr:Ok P w K mg base 1 "_law_seed" ["_law_script"] (aDh K)):Ok P w K mg base 2 "_law_begin" ["_law_script"] (aEq K):=by
 refine Ok.ofV T.aCp lO (fun vs H Q E h=>?_) (fun f cdv A outer s H vs Q E hr h=>?_)
 ·obtain ⟨a,ns,rfl,_⟩:=h;rfl
 obtain ⟨a,ns,rfl,ha,h63,q⟩:=h
 refine ⟨_,(aF (bA (i:=1) lO.nd rfl (by trivial) aG) (aF (cR (VW.pt (aOh (bY aPs (aR bH (by rfl) T.gQ dY (aD (vv 0) aC)) aG (bM _)) (aJm (bY gA (bO oV (aZ dU (vv 0) aG (fun _ _=>rfl)) aG) aG (bM _))))) (aJ (bA (i:=1) lO.nd rfl (by trivial) (bO aJz (aR aOr (by rfl) T.aVx aUs (aD (aZ dU (vv 0) aG (fun _ _=>rfl)) aC)) aG))) bJ) (aJ (aP (cY (aD (aV (aFr.mono (by decide)) hr (by rfl) (aD (vv 0) aC)) (aD (vv 1) aC))))))),?_⟩
 have fin:∀dg:Int,0≤dg→∀(σ:L2.St),σ=[some (.ref a),some (.int dg)]→(uW (aJ4 (dJ (aAa (aDh K) [] E0 (dJ (aMl 0) zJ)) (dJ (aMl 1) zJ)))) { nx:=fun _ H'=>Q V.non H',rt:=Q } σ H:=by
  rintro dg d0 σ rfl
  exact ⟨_,rfl,a,ns,rfl,ha,h63,fun c H1 s1 c0 c1=>⟨_,rfl,(by show 2≤sizeLine;decide),fun p H2 fp s2 g2=>q p H2 (s1.free fp) (s1.trans s2) ⟨c,dg,g2,⟨c0,c1⟩,d0⟩⟩⟩
 refine ⟨_,rfl,a,_,rfl,.inl ha,_,_,rfl,rfl,_,rfl,?_⟩
 cases ns with
 |nil=>exact cB (fin 0 (by decide) _ rfl)
 |cons n r=>
  have e1:decide ((0:Int)<((n::r).map V.int).length)=true:=decide_eq_true (by simp)
  rw [show (decide (((((n::r).map V.int).length:Nat):Int) > 0))=true from e1]
  refine dW ⟨_,rfl,a,_,0,.int n,rfl,rfl,ha,at0 _ _,_,_,rfl,rfl,(by show (0:Int)<2;decide),rfl,_,rfl,aEe (fun c=>?_) fun c=>?_⟩
  ·exact ⟨_,rfl,a,_,0,.int n,rfl,rfl,ha,at0 _ _,_,rfl,_,_,rfl,rfl,⟨by decide,by decide⟩,fin _ (Int.ediv_nonneg (by split <;> lia) (by decide)) _ rfl⟩
  ·exact fin 0 (by decide) _ rfl
def aE3:Sp:=fun vs H Q _=>∃a:Addr,vs=[.ref a]∧eN H a∧∀i H',Fx a H H'→Q (.int i) H'
theorem aA0 (T:Txt w K mg) (aQ:Ok P w K mg base 1 "_law_next" ["_law_state","_law_many"] kI):Ok P w K mg base 2 "_law_great" ["_law_state"] aE3:=by
 refine Ok.ofV T.aDa iR (fun vs H Q E h=>?_) (fun f cdv A outer s H vs Q E hr h=>?_)
 ·obtain ⟨a,rfl,_⟩:=h;rfl
 obtain ⟨a,rfl,hs,q⟩:=h
 refine ⟨_,(aF (bA (i:=1) iR.nd rfl (by trivial) aG) (aF (eV PassesOwn.never rfl (eO (by rfl) T.iI (aD aG aC)) (aU (i:=2) iR.nd rfl (by trivial)) (aJ (bA (i:=1) iR.nd rfl (by trivial) (bO eG (bO uQ (vv 1) (bO aG6 aG aG)) (aV (aQ.mono (by decide)) hr (by rfl) (aD (vv 0) (aD (bO aG6 aG aG) aC))))))) (aJ (aP (aZ dU (cY (aD (vv 1) (aD (bO aH4 aG (vv 1)) aC))) (aV (aQ.mono (by decide)) hr (by rfl) (aD (vv 0) (aD aG aC))) (fun _ _=>rfl)))))),?_⟩
 refine ⟨_,rfl,by decide,by decide,iH (n:=4) (fun i σ H'=>Fx a H H'∧∃(c:Int) (l2:Option V),σ=[some (.ref a),some (.int c),l2]) ⟨.refl hs,0,_,rfl⟩ ?_ ?_⟩
 ·rintro i σ H' hi ⟨fx,c,l2,rfl⟩
  refine ⟨_,rfl,_,_,rfl,rfl,⟨by decide,by decide,by decide⟩,_,_,rfl,rfl,.inr ⟨by decide,by decide⟩,_,rfl,_,_,rfl,rfl,⟨by decide,by decide,by decide⟩,a,_,rfl,fx.st,(by show (0:Int)<10 ^ 15∧(10:Int) ^ 15<2 ^ 64;decide),fun d H1 f1 _ _=>?_⟩
  exact ⟨_,_,rfl,rfl,fx.trans f1,_,_,rfl⟩
 ·rintro σ H' ⟨fx,c,l2,rfl⟩
  refine ⟨_,rfl,_,rfl,_,_,rfl,rfl,(by show 2≤sizeLine;decide),fun p H1 fp s1 g1=>?_⟩
  refine ⟨_,rfl,a,2,rfl,fx.st.same s1,by decide,fun d H2 f2 d0 d1=>?_⟩
  obtain ⟨v,hv,mv⟩:=at_of (xs:=[.int c,.int (0 - c)]) d0 (by show d<2;lia)
  refine ⟨p,_,_,v,rfl,rfl,SqL.of (f2.same _ _ (fx.st.ne fp) g1),hv,?_⟩
  simp only [List.mem_cons,List.not_mem_nil,or_false] at mv
  rcases mv with rfl|rfl
  ·exact q _ _ ((fx.sm s1).trans f2)
  ·exact q _ _ ((fx.sm s1).trans f2)
abbrev aHq:List V:=[.str "",.str "a",.str "b",.str "ab"]
def aD4:Sp:=fun vs H Q _=>∃(a:Addr) (kd:Str),vs=[.ref a,.str kd]∧eN H a∧aMb kd∧∀v H',Fx a H H'→dH kd v→Q v H'
theorem aIe {v:V} (h:v∈aHq):dH "word" v:=by
 simp only [aHq,List.mem_cons,List.not_mem_nil,or_false] at h
 have le:∀x:Str,(x.cps.all fun c=>decide (97≤c) && decide (c≤122))=true→Lets x:=fun x hx c hc=>by
  have:=(Array.all_eq_true_iff_forall_mem.mp hx) c hc
  rw [Bool.and_eq_true] at this
  exact ⟨of_decide_eq_true this.1,of_decide_eq_true this.2⟩
 rcases h with rfl|rfl|rfl|rfl
 ·exact .wrd (le _ (by decide +kernel)) (by decide +kernel)
 ·exact .wrd (le _ (by decide +kernel)) (by decide +kernel)
 ·exact .wrd (le _ (by decide +kernel)) (by decide +kernel)
 ·exact .wrd (le _ (by decide +kernel)) (by decide +kernel)
theorem aA4 (T:Txt w K mg) (aQ:Ok P w K mg base 1 "_law_next" ["_law_state","_law_many"] kI) (aDy:Ok P w K mg base 2 "_law_great" ["_law_state"] aE3):Ok P w K mg base 3 "_law_value" ["_law_state","_law_kind"] aD4:=by
 refine Ok.ofV T.aDr eY (fun vs H Q E h=>?_) (fun f cdv A outer s H vs Q E hr h=>?_)
 ·obtain ⟨a,kd,rfl,_⟩:=h;rfl
 obtain ⟨a,kd,rfl,hs,hk,q⟩:=h
 refine ⟨_,(aF (bA (i:=2) eY.nd rfl (by trivial) (aV (aQ.mono (by decide)) hr (by rfl) (aD (vv 0) (aD aG aC)))) (aF (cR (bY gA (vv 1) bF (bM _)) (aJ (aP (aZ dU (cY (aD (bO aH4 (aV (aQ.mono (by decide)) hr (by rfl) (aD (vv 0) (aD aG aC))) aG) (aD (aV (aDy.mono (by decide)) hr (by rfl) (aD (vv 0) aC)) aC))) (cC aBn (by rfl) T.aO6 aIx (aD (cU gA (vv 2) aG (bM _)) aC)) (fun _ _=>rfl)))) bJ) (aF (cR (bY aSu (vv 2) aG (bM _)) (aJ (aP (aZ dU (cY (aD bF (aD bF (aD bF (aD bF aC))))) (bO oV (vv 2) aG) (fun _ _=>rfl)))) bJ) (aF (bA (i:=3) eY.nd rfl (by trivial) bF) (aF (eV PassesOwn.never rfl (eO (by rfl) T.iI (aD (aV (aQ.mono (by decide)) hr (by rfl) (aD (vv 0) (aD aG aC))) aC)) (aU (i:=4) eY.nd rfl (by trivial)) (aJ (bA (i:=3) eY.nd rfl (by trivial) (bO mL (vv 3) (pB bF (aV (aQ.mono (by decide)) hr (by rfl) (aD (vv 0) (aD aG aC))) (fun _ _=>rfl)))))) (aJ (aP (vv 3)))))))),?_⟩
 refine ⟨_,rfl,a,10,rfl,hs,by decide,fun way H1 f1 w0 w1=>?_⟩
 rcases hk with rfl|rfl
 ·refine ⟨_,rfl,rfl,_,rfl,dW ?_⟩
  refine ⟨_,rfl,a,4,rfl,f1.st,by decide,fun d H2 f2 d0 d1=>?_⟩
  refine ⟨_,_,rfl,rfl,_,rfl,a,rfl,f2.st,fun g H3 f3=>?_⟩
  refine ⟨(by show 2≤sizeLine;decide),fun p H4 _ s4 g4=>?_⟩
  have fx:=(f1.trans (f2.trans f3)).sm s4
  refine ⟨_,rfl,rfl,.inr ⟨_,rfl,?_⟩⟩
  by_cases e:way=9
  ·rw [decide_eq_true (congrArg V.int e)]
   exact ⟨p,_,_,_,rfl,rfl,SqL.of g4,fP (j:=1) rfl,q _ _ fx .num⟩
  ·rw [decide_eq_false (by intro z;exact e (V.int.inj z))]
   exact ⟨p,_,_,_,rfl,rfl,SqL.of g4,fP (j:=0) rfl,q _ _ fx .num⟩
 ·refine ⟨_,rfl,rfl,_,rfl,cB ?_⟩
  refine ⟨_,rfl,_,_,rfl,rfl,_,rfl,aEe (fun _=>?_) (fun _=>?_)⟩
  ·refine ⟨(by show 4≤sizeLine;decide),fun p H4 _ s4 g4=>?_⟩
   obtain ⟨v,hv,mv⟩:=at_of (xs:=aHq) (j:=way % 4) (by lia) (by show way % 4<4;lia)
   exact ⟨_,rfl,_,_,rfl,rfl,(by show (0:Int)<4;decide),p,_,_,v,rfl,rfl,SqL.of g4,hv,q _ _ (f1.sm s4) (aIe mv)⟩
  ·refine ⟨_,rfl,a,9,rfl,f1.st,by decide,fun n H2 f2 n0 n1=>?_⟩
   refine ⟨_,rfl,by lia,by lia,iH (n:=n.toNat) (fun i σ H'=>Fx a H H'∧∃(x:Str) (l4:Option V),σ=[some (.ref a),some (.str "word"),some (.int way),some (.str x),l4]∧x.length≤i∧Lets x) ⟨f1.trans f2,_,_,rfl,by decide +kernel,fun d hd=>by simp [show (("":Str).cps)=#[] from rfl] at hd⟩ ?_ ?_⟩
   ·rintro i σ H' hi ⟨fx,x,l4,rfl,hl,hx⟩
    have al:abc.length=26:=by decide +kernel
    refine ⟨_,rfl,_,rfl,a,26,rfl,fx.st,by decide,fun d H3 f3 d0 d1=>?_⟩
    obtain ⟨ch,hch⟩:=aJ1 (z:=abc) d0 (by rw [al];exact d1)
    refine ⟨_,_,_,rfl,rfl,d0,(by lia),(by rw [al];exact d1),hch,_,_,rfl,rfl,?_,fx.trans f3,_,_,rfl,?_,hx.add (aGx.one hch)⟩
    ·show x.length+1≤sizeLine
     exact small (by lia)
    ·rw [aDd]
     show x.length+1≤i+1
     lia
   ·rintro σ H' ⟨fx,x,l4,rfl,hl,hx⟩
    exact ⟨_,rfl,q _ _ fx (.wrd hx (by lia))⟩
def aBg:Sp:=fun vs H Q _=>vs=[]∧∀p H',H p=none→Same H H'→H' p=some (.lst words)→Q (.ref p) H'
theorem aA2 (T:Txt w K mg):Ok P w K mg base 1 "_law_words" [] aBg:=by
 refine Ok.ofV T.aC0 qO (fun vs H Q E h=>?_) (fun f cdv A outer s H vs Q E hr h=>?_)
 ·obtain ⟨rfl,_⟩:=h;rfl
 obtain ⟨rfl,q⟩:=h
 refine ⟨_,(aF (bA (i:=0) qO.nd rfl (by trivial) (cY (aD bF (aD bF (aD bF (aD bF (aD bF (aD bF (aD bF (aD bF (aD bF aC))))))))))) (aJ (aP (bO aGa (vv 0) (cY (aD bF (aD bF (aD bF (aD bF (aD bF (aD bF (aD bF (aD bF aC))))))))))))),?_⟩
 refine ⟨(by show 9≤sizeLine;decide),fun p1 H1 _ s1 g1=>?_⟩
 refine ⟨_,rfl,(by show 8≤sizeLine;decide),fun p2 H2 _ s2 g2=>?_⟩
 exact ⟨p1,p2,_,_,rfl,rfl,s2 _ _ g1,g2,(by show 9+8≤sizeLine;decide),fun p H3 f3 s3 g3=>q p H3 ((s1.trans s2).free f3) (s1.trans (s2.trans s3)) g3⟩
def tL (ns:List Str):Prop:=ns.length=17∧(∀n∈ns,Nm n)∧ns.Nodup
theorem tL.rev {ns:List Str} (h:tL ns):tL ns.reverse:=⟨by rw [List.length_reverse];exact h.1,fun n hn=>h.2.1 n (List.mem_reverse.mp hn),List.pairwise_reverse.mpr (h.2.2.imp fun q=>Ne.symm q)⟩
theorem aS8:∀j:_root_.Fin 26,abc.cps[j.val]?=some (97+j.val):=by decide +kernel
theorem aR8 {j:Nat} (h:j<26):abc.cps[j]?=some (97+j):=aS8 ⟨j,h⟩
def sgl (o:Nat):List Str:=(List.range 17).map fun k=>⟨#[97+(o+k)]⟩
theorem aJ6:∀o:_root_.Fin 10,((sgl o.val).all fun n=>nameB (.str n))=true∧(Txt.slice abc (some (o.val:Int)) (some ((o.val:Int)+17))).cps.size=17∧((List.range 17).all fun i=>decide (sgn (Txt.slice abc (some (o.val:Int)) (some ((o.val:Int)+17))) i=⟨#[97+(o.val+i)]⟩))=true:=by decide +kernel
theorem aPb {a b:Nat} (h:(⟨#[a]⟩:Str)=⟨#[b]⟩):a=b:=by
 have:=congrArg (fun x:Str=>x.cps.toList) h
 simpa using this
theorem aP0 {o:Nat} (h:o<10):tL (sgl o):=by
 refine ⟨by simp [sgl],fun n hn=>?_,?_⟩
 ·have:=(aJ6 ⟨o,h⟩).1
  rw [List.all_eq_true] at this
  exact this n hn
 ·refine List.pairwise_map.mpr (List.Pairwise.imp_of_mem ?_ List.nodup_range)
  intro k l _ _ ne e
  have:=aPb e
  exact ne (by lia)
theorem aRq {o:Nat} (h:o<10):((List.range (Txt.slice abc (some (o:Int)) (some ((o:Int)+17))).cps.size).map fun i=>V.str (sgn (Txt.slice abc (some (o:Int)) (some ((o:Int)+17))) i))=(sgl o).map V.str:=by
 obtain ⟨_,h2,h3⟩:=aJ6 ⟨o,h⟩
 have h2:(Txt.slice abc (some (o:Int)) (some ((o:Int)+17))).cps.size=17:=h2
 rw [h2]
 unfold sgl
 rw [List.map_map]
 refine List.map_congr_left fun i hi=>?_
 rw [List.all_eq_true] at h3
 have:=of_decide_eq_true (h3 i hi)
 show V.str _=V.str _
 exact congrArg V.str this
def stm (b:Str) (a o:Nat):Nat→List Str:=fun i=>(List.range i).map fun k=>put b a (97+(o+k))
theorem aVh {b:Str} {a o:Nat} (hb:Lets b) (hl:b.length≤7) (ha:a≤b.length) (ho:o<10) (hw:∀w∈words,inV w ((stm b a o 17).map V.str)=false):tL (stm b a o 17):=by
 refine ⟨by simp [stm],fun n hn=>?_,?_⟩
 ·obtain ⟨k,hk,rfl⟩:=List.mem_map.mp hn
  have hk:=List.mem_range.mp hk
  have hin:inV (.str (put b a (97+(o+k)))) words=false:=by
   cases e:inV (.str (put b a (97+(o+k)))) words with
   |false=>rfl
   |true=>
    exfalso
    unfold inV at e
    rw [List.any_eq_true] at e
    obtain ⟨v,hv,ev⟩:=e
    have hvs:∃z:Str,v=.str z:=by
     simp only [words,List.mem_cons,List.not_mem_nil,or_false] at hv
     rcases hv with rfl|rfl|rfl|rfl|rfl|rfl|rfl|rfl|rfl|rfl|rfl|rfl|rfl|rfl|rfl|rfl|rfl <;> exact ⟨_,rfl⟩
    obtain ⟨z,rfl⟩:=hvs
    have e2:(z == put b a (97+(o+k)))=true:=ev
    have e3:z=put b a (97+(o+k)):=by simpa using e2
    have:=hw _ hv
    rw [aKp,decide_eq_false_iff_not] at this
    exact this (by rw [e3];exact hn)
  show ((decide (1≤(put b a (97+(o+k))).length) && (decide ((put b a (97+(o+k))).length≤8) && allIn (put b a (97+(o+k))))) && !inV (.str (put b a (97+(o+k)))) words)=true
  have hL:Lets (put b a (97+(o+k))):=fun c hc=>by
   rcases aQv ha hc with rfl|z
   ·lia
   ·exact hb c z
  rw [aQ5 ha,decide_eq_true (p:=1≤b.length+1) (by lia),decide_eq_true (p:=b.length+1≤8) (by lia),allIn_of hL,hin]
  rfl
 ·refine List.pairwise_map.mpr (List.Pairwise.imp_of_mem ?_ List.nodup_range)
  intro k l _ _ ne e
  have:=aR1 ha e
  exact ne (by lia)
def aO3:Sp:=fun vs H Q _=>∃a:Addr,vs=[.ref a,.int 17]∧eN H a∧∀p H' ns,Fx a H H'→H p=none→H' p=some (.lst (ns.map V.str))→tL ns→Q (.ref p) H'
theorem aAx (T:Txt w K mg) (aQ:Ok P w K mg base 1 "_law_next" ["_law_state","_law_many"] kI) (aC4:Ok P w K mg base 1 "_law_words" [] aBg):Ok P w K mg base 2 "_law_names" ["_law_state","_law_many"] aO3:=by
 refine Ok.ofV T.aEd bV (fun vs H Q E h=>?_) (fun f cdv A outer s H vs Q E hr h=>?_)
 ·obtain ⟨a,rfl,_⟩:=h;rfl
 obtain ⟨a,rfl,hs,q⟩:=h
 refine ⟨_,(aF (bA (i:=2) bV.nd rfl (by trivial) bF) (aF (bA (i:=3) bV.nd rfl (by trivial) (aV (aQ.mono (by decide)) hr (by rfl) (aD (vv 0) (aD (bO aH4 aG (vv 1)) aC)))) (aF (bA (i:=4) bV.nd rfl (by trivial) bF) (aF (eV PassesOwn.never rfl (eO (by rfl) T.iI (aD (aV (aQ.mono (by decide)) hr (by rfl) (aD (vv 0) (aD aG aC))) aC)) (aU (i:=5) bV.nd rfl (by trivial)) (aJ (bA (i:=4) bV.nd rfl (by trivial) (bO mL (vv 4) (pB (vv 2) (aV (aQ.mono (by decide)) hr (by rfl) (aD (vv 0) (aD aG aC))) (fun _ _=>rfl)))))) (aF (bA (i:=6) bV.nd rfl (by trivial) (aV (aQ.mono (by decide)) hr (by rfl) (aD (vv 0) (aD (bO eG (aR uA (by rfl) T.gQ dY (aD (vv 4) aC)) aG) aC)))) (aF (bA (i:=7) bV.nd rfl (by trivial) (cY aC)) (aF (eV PassesOwn.never rfl (eO (by rfl) T.iI (aD (vv 1) aC)) (aU (i:=5) bV.nd rfl (by trivial)) (aJ (cW (lW PySem.F.plainAttrs_list PySem.F.slot_list_append PySem.F.type_list_append dO (vv 7) (aD (bO mL (bO mL (lX aC6 (vv 4) sW (nW (vv 6))) (pB (vv 2) (bO eG (vv 3) (vv 5)) (fun _ _=>rfl))) (lX aC6 (vv 4) (nW (vv 6)) sW)) aC))))) (aF (cR (cQ (aR (aPp rfl) (by rfl) T.aWo aTv (aD (cM (N:=["_law_word","_law_names_here"]) (by trivial) (gJ (aH jG) rfl (by decide +kernel)) rfl (fK (aU0 (aC4.mono (by decide)) hr (by rfl))) (fun cl s' H' fp=>⟨(aU (i:=0) (show (["_law_word","_law_names_here"]:List Str).Nodup from by decide +kernel) rfl (Or.inl rfl)),dD,(cU (aJg (K:=K)) (vv 0) (vv 1) (by with_unfolding_all rfl))⟩)) aC))) (aJ (bA (i:=7) bV.nd rfl (by trivial) (cC (aIz rfl) (by rfl) T.rM nQ (aD (lX aC6 (vv 2) (nW (vv 3)) (nW (bO eG (vv 3) (vv 1)))) aC)))) bJ) (aF (cR (bY gA (aV (aQ.mono (by decide)) hr (by rfl) (aD (vv 0) (aD aG aC))) aG (bM _)) (aJ (cW (aI5 PySem.F.plainAttrs_list PySem.F.slot_list_reverse PySem.F.type_list_reverse aEg (vv 7)))) bJ) (aJ (aP (vv 7)))))))))))),?_⟩
 have al:abc.length=26:=by decide +kernel
 refine ⟨_,rfl,_,rfl,_,_,rfl,rfl,a,10,rfl,hs,by decide,fun od H1 f1 o0 o1=>?_⟩
 obtain ⟨o,rfl⟩:∃o:Nat,od=o:=⟨od.toNat,by lia⟩
 have ho:o<10:=by lia
 refine ⟨_,rfl,a,8,rfl,f1.st,by decide,fun n H2 f2 n0 n1=>?_⟩
 refine ⟨_,rfl,by lia,by lia,iH (n:=n.toNat) (fun i σ H'=>Fx a H H'∧∃(x:Str) (l5:Option V),σ=[some (.ref a),some (.int 17),some (.str abc),some (.int (o:Nat)),some (.str x),l5,none,none]∧x.length≤i∧Lets x) ⟨f1.trans f2,_,_,rfl,by decide +kernel,fun d hd=>by simp [show (("":Str).cps)=#[] from rfl] at hd⟩ ?_ ?_⟩
 ·rintro i σ H' hi ⟨fx,x,l5,rfl,hl,hx⟩
  refine ⟨_,rfl,_,rfl,_,rfl,a,26,rfl,fx.st,by decide,fun d H3 f3 d0 d1=>?_⟩
  obtain ⟨ch,hch⟩:=aJ1 (z:=abc) d0 (by rw [al];exact d1)
  refine ⟨_,_,_,rfl,rfl,d0,(by lia),(by rw [al];exact d1),hch,_,_,rfl,rfl,?_,fx.trans f3,_,_,rfl,?_,hx.add (aGx.one hch)⟩
  ·show x.length+1≤sizeLine
   exact small (by lia)
  ·rw [aDd]
   show x.length+1≤i+1
   lia
 rintro σ H3 ⟨f3,b,l5,rfl,hl,hb⟩
 have hb7:b.length≤7:=by lia
 refine ⟨_,rfl,_,rfl,_,rfl,small (by lia),_,_,rfl,rfl,a,_,rfl,f3.st,(by show (0:Int)<(b.length:Int)+1∧(b.length:Int)+1<2 ^ 64;lia),fun ai H4 f4 a0 a1=>?_⟩
 obtain ⟨at',rfl⟩:∃at':Nat,ai=at':=⟨ai.toNat,by lia⟩
 have ha:at'≤b.length:=by
  have:(at':Int)<(b.length:Int)+1:=a1
  lia
 have fx4:=f3.trans f4
 refine ⟨(by show 0≤sizeLine;decide),fun p H5 fp s5 g5=>?_⟩
 have fp0:H p=none:=fx4.free fp
 have npa:p≠a:=hs.ne fp0
 refine ⟨_,rfl,_,rfl,by decide,by decide,iH (n:=17) (fun i σ H'=>Fx a H H'∧H' p=some (.lst ((stm b at' o i).map V.str))∧∃l5,σ=[some (.ref a),some (.int 17),some (.str abc),some (.int (o:Nat)),some (.str b),l5,some (.int (at':Nat)),some (.ref p)]) ⟨fx4.sm s5,g5,_,rfl⟩ ?_ ?_⟩
 ·rintro i σ H' hi ⟨fx,gp,l5,rfl⟩
  have s1:=Txt.slice_le b none (some ((at':Nat):Int))
  have s2:=Txt.slice_le b (some ((at':Nat):Int)) none
  have ej:((o:Int)+(0+(i:Int))).toNat=o+i:=by lia
  have hch:abc.cps[((o:Int)+(0+(i:Int))).toNat]?=some (97+(o+i)):=by rw [ej];exact aR8 (by lia)
  refine ⟨_,rfl,.inl ⟨rfl,_,SqL.of gp⟩,_,rfl,_,rfl,_,rfl,_,rfl,small (by lia),_,rfl,_,rfl,_,rfl,_,_,rfl,rfl,_,_,_,rfl,rfl,(by show 0≤(o:Int)+(0+(i:Int));lia),(by show (o:Int)+(0+(i:Int))<2 ^ 63;lia),(by rw [al];show (o:Int)+(0+(i:Int))<26;lia),hch,_,_,rfl,rfl,?_,_,rfl,_,rfl,_,rfl,_,rfl,small (by lia),_,_,rfl,rfl,?_,?_⟩
  ·show (Txt.slice b none (some ((at':Nat):Int))).length+1≤sizeLine
   exact small (by lia)
  ·rw [aDd]
   show (Txt.slice b none (some ((at':Nat):Int))).length+1+_≤sizeLine
   exact small (by lia)
  refine ⟨p,_,_,rfl,rfl,gp,?_,fx.upd fp0 npa,?_,_,rfl⟩
  ·rw [List.length_map]
   exact dX (by simp [stm];lia)
  ·rw [aK]
   unfold stm
   rw [List.range_succ,List.map_append,List.map_append]
   rfl
 rintro σ H6 ⟨f6,g6,l5',rfl⟩
 dsimp only [aGb,aK6,tB,tCB,dJ]
 refine aLb (K:=K) (fun us=>us=words) (fun i _ y=>∃w',words[i]?=some w'∧y=.bl (inV w' ((stm b at' o 17).map V.str))) (fun _ h=>h) (fun _ h=>h) [none,some (.ref p)] ?_ rfl (fun R r=>⟨rfl,fun W H7 _ s7 g7=>r W H7 _ s7 g7 rfl⟩) (fun us e=>by subst e;exact small (by decide)) (fun us e i x ex H' R l sm r=>?_) fun us e D H7 ys s7 g7 hly hR=>?_
 ·exact jF 7 (by decide +kernel) rfl rfl (by trivial)
 ·subst e
  have fl:jR x=true:=by
   have:=zX
   rw [List.all_eq_true] at this
   exact this x (List.mem_of_getElem? ex)
  exact ⟨_,rfl,_,rfl,p,_,rfl,.inl (SqL.of (sm _ _ g6)),fl,aGj,r _ _ (Same.refl _) ⟨x,ex,rfl⟩⟩
 subst e
 have ey:ys=(words.map fun w'=>inV w' ((stm b at' o 17).map V.str)).map V.bl:=by
  rw [List.map_map]
  refine List.ext_getElem? fun i=>?_
  by_cases hi:i<ys.length
  ·obtain ⟨w',h1,h2⟩:=hR i ys[i] (List.getElem?_eq_getElem hi)
   rw [List.getElem?_eq_getElem hi,List.getElem?_map,h1,h2]
   rfl
  ·rw [List.getElem?_eq_none (by lia),List.getElem?_eq_none (by rw [List.length_map];lia)]
 rw [ey] at g7
 refine ⟨D,_,rfl,SqL.of g7,_,rfl,?_⟩
 have f7:=f6.sm s7
 refine aEe (fun c=>?_) (fun c=>?_)
 ·refine ⟨_,rfl,_,rfl,_,rfl,_,rfl,_,rfl,_,_,rfl,rfl,_,rfl,abc,rfl,small (by rw [al];decide),?_⟩
  refine ⟨_,rfl,?_,fun p2 H8 fp2 s8 g8=>?_⟩
  ·have:=Txt.slice_le abc (some (o:Int)) (some ((o:Int)+17))
   rw [al] at this
   exact Nat.le_trans this (by decide)
  have g8':H8 p2=some (.lst ((sgl o).map V.str)):=by rw [g8];exact congrArg (fun z=>some (HO.lst z)) (aRq ho)
  have f8:=f7.sm s8
  have fp20:H p2=none:=f7.free fp2
  refine ⟨_,rfl,a,2,rfl,f8.st,by decide,fun d H9 f9 d0 d1=>?_⟩
  have g9:=f9.same _ _ (hs.ne fp20) g8'
  refine ⟨rfl,_,rfl,aEe (fun _=>?_) (fun _=>?_)⟩
  ·refine ⟨_,rfl,.inl ⟨rfl,_,SqL.of g9⟩,p2,_,rfl,rfl,g9,?_⟩
   refine ⟨_,rfl,q p2 _ (sgl o).reverse ((f8.trans f9).upd fp20 (hs.ne fp20)) fp20 ?_ (aP0 ho).rev⟩
   rw [aK,List.map_reverse]
  ·exact ⟨_,rfl,q p2 _ (sgl o) (f8.trans f9) fp20 g9 (aP0 ho)⟩
 ·have hw:∀w'∈words,inV w' ((stm b at' o 17).map V.str)=false:=fun w' hw'=>by
   cases e:inV w' ((stm b at' o 17).map V.str) with
   |false=>rfl
   |true=>
    exfalso
    apply c
    rw [List.any_eq_true]
    exact ⟨true,List.mem_map.mpr ⟨w',hw',e⟩,rfl⟩
  have hn:=aVh hb hb7 ha ho hw
  refine ⟨_,rfl,a,2,rfl,f7.st,by decide,fun d H9 f9 d0 d1=>?_⟩
  have g9:=f9.same _ _ npa (s7 _ _ g6)
  refine ⟨rfl,_,rfl,aEe (fun _=>?_) (fun _=>?_)⟩
  ·refine ⟨_,rfl,.inl ⟨rfl,_,SqL.of g9⟩,p,_,rfl,rfl,g9,?_⟩
   refine ⟨_,rfl,q p _ (stm b at' o 17).reverse ((f7.trans f9).upd fp0 npa) fp0 ?_ hn.rev⟩
   rw [aK,List.map_reverse]
  ·exact ⟨_,rfl,q p _ (stm b at' o 17) (f7.trans f9) fp0 g9 hn⟩
def aFo (K:PySem.W.Frag):Sp:=fun vs H Q _=>∃(a N:Addr) (ns:List Str),vs=[.ref a,.ref N]∧eN H a∧H N=some (.lst (ns.map V.str))∧N≠a∧tL ns∧∀v H' hd,Fx a H H'→jT K H' v hd→aMw hd→hd.length≤7→Q v H'
theorem aUq {α:Type} {l:List α} (h:l.Nodup) {i j:Nat} {x:α} (h1:l[i]?=some x) (h2:l[j]?=some x):i=j:=by
 have hp:=List.pairwise_iff_getElem.mp h
 obtain ⟨hi,e1⟩:=List.getElem?_eq_some_iff.mp h1
 obtain ⟨hj,e2⟩:=List.getElem?_eq_some_iff.mp h2
 rcases Nat.lt_trichotomy i j with q|q|q
 ·exact absurd (e1.trans e2.symm) (hp i j hi hj q)
 ·exact q
 ·exact absurd (e2.trans e1.symm) (hp j i hj hi q)
theorem aWa {α:Type} {l:List α} (h:∀(i j:Nat) (x:α),l[i]?=some x→l[j]?=some x→i=j):l.Nodup:=by
 refine List.pairwise_iff_getElem.mpr fun i j hi hj hij e=>?_
 have:=h i j l[i] (List.getElem?_eq_getElem hi) (by rw [List.getElem?_eq_getElem hj,e])
 lia
theorem aQb {ns:List Str} (hn:tL ns) {st:Nat} {hd:Hdr} (hl:hd.length≤8) (h:∀(j:Nat) (c:Str × Str),hd[j]?=some c→ns[3+(st+j) % 8]?=some c.1):(hd.map (·.1)).Nodup:=by
 refine aWa fun i j x h1 h2=>?_
 have g:∀k,(hd.map (·.1))[k]?=some x→k<hd.length∧ns[3+(st+k) % 8]?=some x:=fun k hk=>by
  rw [List.getElem?_map] at hk
  cases e:hd[k]? with
  |none=>rw [e] at hk;cases hk
  |some c=>
   rw [e] at hk
   cases hk
   exact ⟨(List.getElem?_eq_some_iff.mp e).1,h k c e⟩
 obtain ⟨l1,g1⟩:=g i h1
 obtain ⟨l2,g2⟩:=g j h2
 have:=aUq hn.2.2 g1 g2
 lia
theorem aEc (T:Txt w K mg) (aQ:Ok P w K mg base 1 "_law_next" ["_law_state","_law_many"] kI):Ok P w K mg base 2 "_law_head" ["_law_state","_law_names_here"] (aFo K):=by
 refine Ok.ofV T.aGs gO (fun vs H Q E h=>?_) (fun f cdv A outer s H vs Q E hr h=>?_)
 ·obtain ⟨a,N,ns,rfl,_⟩:=h;rfl
 obtain ⟨a,N,ns,rfl,hs,hN,nN,hn,q⟩:=h
 refine ⟨_,(aF (bA (i:=2) gO.nd rfl (by trivial) (aV (aQ.mono (by decide)) hr (by rfl) (aD (vv 0) (aD aG aC)))) (aF (bA (i:=3) gO.nd rfl (by trivial) (cY aC)) (aF (eV PassesOwn.never rfl (eO (by rfl) T.iI (aD (bO eG aG (bO uQ (aV (aQ.mono (by decide)) hr (by rfl) (aD (vv 0) (aD aG aC))) (bO eG aG (cC aBn (by rfl) T.aO6 aIx (aD (cU gA (aV (aQ.mono (by decide)) hr (by rfl) (aD (vv 0) (aD aG aC))) aG (bM _)) aC))))) aC)) (aU (i:=4) gO.nd rfl (by trivial)) (aF (bA (i:=5) gO.nd rfl (by trivial) (aZ dU (cY (aD bF (aD bF (aD bF aC)))) (aV (aQ.mono (by decide)) hr (by rfl) (aD (vv 0) (aD aG aC))) (fun _ _=>rfl))) (aJ (cW (lW PySem.F.plainAttrs_list PySem.F.slot_list_append PySem.F.type_list_append dO (vv 3) (aD (cL (aD (aZ dU (vv 1) (bO eG aG (bO oV (bO eG (vv 2) (vv 4)) aG)) (fun _ _=>rfl)) (aD (vv 5) aC))) aC)))))) (aJ (aP (cC oO (by rfl) T.iK eX (aD (vv 3) aC))))))),?_⟩
 have l17:=hn.1
 refine ⟨_,rfl,a,8,rfl,hs,by decide,fun st0 H1 f1 st00 st01=>?_⟩
 obtain ⟨st,rfl⟩:∃st:Nat,st0=st:=⟨st0.toNat,by lia⟩
 refine ⟨(by show 0≤sizeLine;decide),fun p H2 fp s2 g2=>?_⟩
 have f2:=f1.sm s2
 have fp0:H p=none:=f1.free fp
 have npa:p≠a:=hs.ne fp0
 refine ⟨_,rfl,a,4,rfl,f2.st,by decide,fun m H3 f3 m0 m1=>?_⟩
 refine ⟨_,rfl,a,8,rfl,f3.st,by decide,fun e H4 f4 e0 e1=>?_⟩
 have f4':=f2.trans (f3.trans f4)
 have g4:=f4.same _ _ npa (f3.same _ _ npa g2)
 refine ⟨rfl,.inr ⟨_,rfl,?_⟩⟩
 have bnd:∃z:Nat,1+m * (1+(if decide (V.int e=V.int 0) then 1 else 0))=(z:Int)∧1≤z∧z≤7:=by
  cases decide (V.int e=V.int 0)
  ·exact ⟨(1+m).toNat,by simp;lia,by lia,by lia⟩
  ·exact ⟨(1+m * 2).toNat,by simp;lia,by lia,by lia⟩
 obtain ⟨z,ez,z1,z7⟩:=bnd
 refine ⟨_,_,rfl,rfl,_,_,rfl,rfl,.inl ⟨by lia,by lia⟩,_,_,rfl,rfl,?_⟩
 refine ⟨(z:Int),?_,by lia,by lia,?_⟩
 ·show [V.int (1+m * (1+(if decide (V.int e=V.int 0) then 1 else 0)))]=_
  rw [ez]
 rw [Int.toNat_natCast]
 refine iH (n:=z) (fun i σ H'=>Fx a H H'∧∃(us:List V) (hd:Hdr) (l4 l5:Option V),H' p=some (.lst us)∧hd.length=i∧bZ (IsC K H') us hd∧(∀(j:Nat) (c:Str × Str),hd[j]?=some c→ns[3+(st+j) % 8]?=some c.1∧aMb c.2)∧σ=[some (.ref a),some (.ref N),some (.int (st:Nat)),some (.ref p),l4,l5]) ⟨f4',[],[],_,_,g4,rfl,.nil,fun j c h=>by simp at h,rfl⟩ ?_ ?_
 ·rintro i σ H' hi ⟨fx,us,hd,l4,l5,gp,hl,hu,hc,rfl⟩
  have lu:=hu.len
  refine ⟨(by show 3≤sizeLine;decide),fun p1 H5 fp1 s5 g5=>?_⟩
  refine ⟨_,rfl,a,3,rfl,fx.st.same s5,by decide,fun d H6 f6 d0 d1=>?_⟩
  obtain ⟨kv,hkv,mkv⟩:=at_of (xs:=[.str "number",.str "number",.str "word"]) d0 (by show d<3;lia)
  obtain ⟨kd,rfl,hkd⟩:∃kd:Str,kv=.str kd∧aMb kd:=by
   simp only [List.mem_cons,List.not_mem_nil,or_false] at mkv
   rcases mkv with rfl|rfl|rfl
   ·exact ⟨_,rfl,.inl rfl⟩
   ·exact ⟨_,rfl,.inl rfl⟩
   ·exact ⟨_,rfl,.inr rfl⟩
  have f6':=(fx.sm s5).trans f6
  refine ⟨p1,_,_,_,rfl,rfl,SqL.of (f6.same _ _ (fx.st.ne fp1) g5),hkv,?_⟩
  have gp6:=f6.same _ _ npa (s5 _ _ gp)
  have hN6:=f6'.same _ _ nN hN
  have hu6:bZ (IsC K H6) us hd:=hu.imp fun _ _ ⟨p',ep,hp⟩=>⟨p',ep,f6.bB (fx.st.same s5) (s5.bB hp)⟩
  have hix:3+(st+i) % 8<ns.length:=by lia
  refine ⟨_,rfl,.inl ⟨rfl,_,SqL.of gp6⟩,?_⟩
  refine ⟨_,rfl,_,rfl,_,rfl,_,_,rfl,rfl,_,_,rfl,rfl,(by show (0:Int)<8;decide),_,_,rfl,rfl,N,_,_,.str ns[3+(st+i) % 8],rfl,rfl,SqL.of hN6,?_,_,rfl,(by show 2≤sizeLine;decide),fun t H7 ft s7 g7=>?_⟩
  ·have e8:(3:Int)+((st:Int)+(0+(i:Int))) % 8=((3+(st+i) % 8:Nat):Int):=by lia
   show atI (ns.map V.str) ((3:Int)+((st:Int)+(0+(i:Int))) % 8)=_
   rw [e8]
   exact fP (by rw [List.getElem?_map,List.getElem?_eq_getElem hix];rfl)
  refine ⟨p,_,_,rfl,rfl,s7 _ _ gp6,dX (by lia),?_⟩
  have ntp:t≠p:=(aY gp6 ft).symm
  refine ⟨(f6'.sm s7).upd fp0 npa,us++[.ref t],hd++[(ns[3+(st+i) % 8],kd)],_,_,aK,by rw [List.length_append,hl];rfl,?_,fun j c h=>?_,rfl⟩
  ·refine (hu6.imp fun _ _ ⟨p',ep,hp⟩=>⟨p',ep,(s7.bB hp).iC (s7 _ _ gp6)⟩).app (.cons ⟨t,rfl,SqT.of (by rw [aM ntp];exact g7)⟩ .nil)
  ·by_cases hj:j<hd.length
   ·rw [List.getElem?_append_left hj] at h
    exact hc j c h
   ·rw [List.getElem?_append_right (by lia)] at h
    have hj0:j - hd.length=0:=by
     by_cases z0:j - hd.length=0
     ·exact z0
     ·rw [List.getElem?_eq_none (by simp;lia)] at h;cases h
    rw [hj0] at h
    cases h
    have:j=i:=by lia
    subst this
    exact ⟨List.getElem?_eq_getElem hix,hkd⟩
 ·rintro σ H' ⟨fx,us,hd,l4,l5,gp,hl,hu,hc,rfl⟩
  refine ⟨_,rfl,p,us,rfl,SqL.of gp,fun t H5 _ s5 g5=>q _ _ hd (fx.sm s5) ⟨t,us,rfl,SqT.of g5,hu.imp fun _ _ h=>h.same s5⟩ ⟨⟨aQb hn (by lia) fun j c h=>(hc j c h).1,by lia,by lia⟩,fun c hcm=>?_⟩ (by lia)⟩
  obtain ⟨j,hj,e⟩:=List.getElem_of_mem hcm
  have h2:=hc j c (by rw [List.getElem?_eq_getElem hj,e])
  exact ⟨hn.2.1 _ (List.mem_of_getElem? h2.1),h2.2⟩
def TK (K:PySem.W.Frag) (H H':Hp):Prop:=∀p xs,SqT K H p xs→SqT K H' p xs
theorem _root_.L2.Fx.tk {K:PySem.W.Frag} {a:Addr} {H H':Hp} (f:Fx a H H') (h:eN H a):TK K H H':=fun _ _ e=>f.bB h e
theorem TK.of {K:PySem.W.Frag} {H H':Hp} (s:Same H H'):TK K H H':=fun _ _ e=>s.bB e
theorem IsC.tk {K:PySem.W.Frag} {H H':Hp} {v:V} {c:Str × Str} (e:TK K H H') (h:IsC K H v c):IsC K H' v c:=by
 obtain ⟨p,rfl,hp⟩:=h
 exact ⟨p,rfl,e _ _ hp⟩
theorem aKf {α:Type} {K:PySem.W.Frag} {H H':Hp} {R S:V→α→Prop} {v:V} {xs:List α} (e:TK K H H') (k:∀a b,R a b→S a b) (h:uM K H R v xs):uM K H' S v xs:=by
 obtain ⟨a,vs,rfl,ha,hr⟩:=h
 exact ⟨a,vs,rfl,e _ _ ha,hr.imp k⟩
theorem jT.tk {K:PySem.W.Frag} {H H':Hp} {v:V} {hd:Hdr} (e:TK K H H') (h:jT K H v hd):jT K H' v hd:=aKf e (fun _ _ q=>q.tk e) h
theorem aOm {hd:Hdr} (nd:(hd.map (·.1)).Nodup) {c:Str × Str} (h:c∈hd):look hd c.1=some c.2:=by
 induction hd with
 |nil=>cases h
 |cons x r ih=>
  rw [List.map_cons,List.nodup_cons] at nd
  unfold look
  rw [List.find?_cons]
  rcases List.mem_cons.mp h with rfl|h
  ·rw [decide_eq_true rfl];rfl
  ·have ne:¬ x.1=c.1:=fun z=>nd.1 (by rw [z];exact List.mem_map.mpr ⟨c,h,rfl⟩)
   rw [decide_eq_false ne]
   exact ih nd.2 h
theorem zU {α β:Type} {R:α→β→Prop}:∀{as:List α} {bs:List β},as.length=bs.length→(∀(i:Nat) (a:α) (b:β),as[i]?=some a→bs[i]?=some b→R a b)→bZ R as bs
 |[],[],_,_=>.nil
 |[],_::_,h,_=>by cases h
 |_::_,[],h,_=>by cases h
 |a::as,b::bs,h,k=>.cons (k 0 a b rfl rfl) (zU (by simpa using h) fun i x y e1 e2=>k (i+1) x y (by simpa using e1) (by simpa using e2))
theorem uH {α:Type}:∀(k:Nat) (xs:List α),sel (fun _=>true) k xs=xs
 |_,[]=>rfl
 |k,x::r=>by
  show (if true=true then x::sel (fun _=>true) (k+1) r else _)=_
  rw [if_pos rfl,uH (k+1) r]
theorem rO {R:Nat→V→Prop} {n:Nat} {ys:List V} (h:qM R (List.range n) ys):ys.length=n∧∀(i:Nat) (y:V),ys[i]?=some y→R i y:=by
 have aux:∀{is:List Nat} {ys:List V},qM R is ys→∀(i:Nat) (y:V),ys[i]?=some y→∃j,is[i]?=some j∧R j y:=by
  intro is ys h
  induction h with
  |nil=>intro i y e;simp at e
  |cons r _ ih=>
   intro i y e
   cases i with
   |zero=>cases e;exact ⟨_,rfl,r⟩
   |succ i=>obtain ⟨j,h1,h2⟩:=ih i y (by simpa using e);exact ⟨j,by simpa using h1,h2⟩
 have l:=h.len
 rw [List.length_range] at l
 refine ⟨l.symm,fun i y e=>?_⟩
 obtain ⟨j,h1,h2⟩:=aux h i y e
 have hi:i<n:=by
  have:=(List.getElem?_eq_some_iff.mp e).1
  lia
 rw [List.getElem?_range hi] at h1
 cases h1
 exact h2
theorem aV8 {ks:List Bool} {r:List V} (h:KdR ks r):∀x∈r,(∃i,x=.int i)∨∃z,x=.str z:=by
 unfold KdR at h
 induction h with
 |nil=>intro x hx;cases hx
 |@cons b y _ _ h _ ih=>
  intro x hx
  rcases List.mem_cons.mp hx with rfl|hx
  ·cases b with
   |true=>exact .inl h
   |false=>exact .inr h
  ·exact ih x hx
def aDj (K:PySem.W.Frag):Sp:=fun vs H Q _=>∃(a:Addr) (vh:V) (hd:Hdr),vs=[.ref a,vh]∧eN H a∧jT K H vh hd∧aMw hd∧∀t H' r,Fx a H H'→H' t=some (.tup r)→xR hd r→Q (.ref t) H'
theorem aFp (T:Txt w K mg) (mJ:Ok P w K mg base 3 "_law_value" ["_law_state","_law_kind"] aD4):Ok P w K mg base 4 "_law_row" ["_law_state","_law_head_here"] (aDj K):=by
 refine Ok.ofV T.aIq aGq (fun vs H Q E h=>?_) (fun f cdv A outer s H vs Q E hr h=>?_)
 ·obtain ⟨a,vh,hd,rfl,_⟩:=h;rfl
 obtain ⟨a,vh,hd,rfl,hs,⟨b,us,rfl,hb,hu⟩,⟨hgd,hok⟩,q⟩:=h
 refine ⟨_,(aJ (aP (cC oO (by rfl) T.iK eX (aD (cM (N:=["_law_name","_law_kind","_law_state"]) (by trivial) (gJ (aH nH) rfl (by decide +kernel)) rfl (uY (vv 1)) (fun cl s' H' fp=>⟨(pU (K:=K) (n:=2) rfl (bI (aU (i:=0) (show (["_law_name","_law_kind","_law_state"]:List Str).Nodup from by decide +kernel) rfl (Or.inl rfl)) (bI (aU (i:=1) (show (["_law_name","_law_kind","_law_state"]:List Str).Nodup from by decide +kernel) rfl (Or.inl rfl)) fJ))),dD,(aV (mJ.mono (by decide)) hr (by rfl) (aD (vv 2) (aD (vv 1) aC)))⟩)) aC)))),?_⟩
 have lu:=hu.len
 have l8:=hgd.2.2
 dsimp only [uW,tCB,dJ]
 refine aEx [none,none,some (.ref a)] ?_ ⟨_,rfl,b,rfl,⟨_,hb⟩,aN3 (Fx a) (aPd hs) us (fun _=>true) (fun i _ y=>∃c',hd[i]?=some c'∧dH c'.2 y) (fun _ _ h=>h) (fun _ _ _ h=>h) (fun i σ=>∃c',hd[i]?=some c'∧At2 [none,none,some (.ref a)] (.str c'.1) (.str c'.2) σ) (Ps2 [none,none,some (.ref a)]) ⟨none,none,rfl⟩ (small (by lia)) _ (aOb fun H' f'=>f'.bB hs hb) (aFi fun H' f'=>f'.bB hs hb) (fun i x σ' H' Q' ex hps f' qq=>?_) (fun i x σ2 ex hA H' R f' r=>r H' (Fx.refl f'.st)) (fun i x σ2 ex hA hp H' R f' r=>?_) fun D H6 ys f6 fD g6 hys=>?_⟩
 ·refine ⟨rfl,fun i y v h1 h2=>?_⟩
  match i,h1,h2 with
  |0,_,h2=>cases h2
  |1,_,h2=>cases h2
  |2,h1,h2=>cases h1;cases h2;exact ⟨by decide +kernel,0,rfl,rfl,by trivial⟩
  |i+3,h1,_=>cases h1
 ·obtain ⟨c',hc',p',rfl,hp'⟩:=dF hu ex
  exact hg2 (f'.bB hs hp') hps fun σ2 h1 h2=>qq σ2 h1 ⟨c',hc',h2⟩
 ·obtain ⟨c',hc',rfl⟩:=hA
  exact ⟨_,rfl,_,rfl,a,c'.2,rfl,f'.st,(hok c' (List.mem_of_getElem? hc')).2,fun v H2 f2 hv=>r v H2 f2 ⟨c',hc',hv⟩⟩
 ·rw [uH] at hys
  obtain ⟨l1,l2⟩:=rO hys
  refine ⟨D,_,rfl,SqL.of g6,fun t H3 _ s3 g3=>q t H3 ys (f6.sm s3) g3 (zU (by lia) fun i k y ek ey=>?_)⟩
  obtain ⟨c',hc',hv⟩:=l2 i y ey
  rw [hc'] at ek
  cases ek
  exact hv
end
end My
namespace PySem
def Ris (xs:Array Nat):Prop:=∀a b (ha:a<xs.size) (hb:b<xs.size),a<b→xs[a]<xs[b]
theorem yM {xs:Array Nat} {j:Nat} (hp:Ris xs):∀(fuel lo hi:Nat),hi - lo≤fuel→lo≤hi→hi≤xs.size→(∀k (h:k<xs.size),k<lo→xs[k]<j)→(∀k (h:k<xs.size),hi≤k→j≤xs[k]) →
  SetTable.below.go xs j fuel lo hi≤xs.size∧(∀k (h:k<xs.size),k<SetTable.below.go xs j fuel lo hi→xs[k]<j)∧∀k (h:k<xs.size),SetTable.below.go xs j fuel lo hi≤k→j≤xs[k]
 |0,lo,hi,hf,h1,h2,h3,h4=>by
  have e:lo=hi:=by lia
  subst e
  exact ⟨h2,h3,h4⟩
 |fuel+1,lo,hi,hf,h1,h2,h3,h4=>by
  unfold SetTable.below.go
  split
  ·rename_i hlt
   have hm:(lo+hi) / 2<hi:=by lia
   have hm':lo≤(lo+hi) / 2:=by lia
   have hms:(lo+hi) / 2<xs.size:=by lia
   dsimp only
   rw [Array.getD_eq_getD_getElem?,Array.getElem?_eq_getElem hms,Option.getD_some]
   split
   ·rename_i hc
    refine yM hp fuel _ _ (by lia) (by lia) h2 (fun k hk hlo=>?_) h4
    by_cases e:k=(lo+hi) / 2
    ·subst e;exact hc
    ·exact Nat.lt_trans (hp k _ hk hms (by lia)) hc
   ·rename_i hc
    refine yM hp fuel _ _ (by lia) (by lia) (by lia) h3 fun k hk hhi=>?_
    by_cases e:k=(lo+hi) / 2
    ·subst e;lia
    ·exact Nat.le_trans (Nat.le_of_not_lt hc) (Nat.le_of_lt (hp _ k hms hk (by lia)))
  ·have e:lo=hi:=by lia
   subst e
   exact ⟨h2,h3,h4⟩
theorem sE {xs:Array Nat} (hp:Ris xs) (j:Nat):SetTable.below xs j≤xs.size∧(∀k (h:k<xs.size),k<SetTable.below xs j→xs[k]<j)∧∀k (h:k<xs.size),SetTable.below xs j≤k→j≤xs[k]:=
 yM hp xs.size 0 xs.size (by lia) (Nat.zero_le _) (Nat.le_refl _) (fun k _ h=>absurd h (Nat.not_lt_zero _)) (fun k h1 h2=>absurd h1 (by lia))
theorem aAy {α:Type} (xs:Array α) (p:Nat) (x:α) (hp:p≤xs.size):(SetTable.insertAt xs p x).toList=xs.toList.take p++x::xs.toList.drop p:=by
 unfold SetTable.insertAt
 rw [Array.toList_append,Array.toList_push,Array.toList_extract,Array.toList_extract]
 simp only [List.extract_eq_drop_take,List.drop_zero,Nat.sub_zero,List.append_assoc,List.singleton_append]
 have e:(xs.toList.drop p).take (xs.size - p)=xs.toList.drop p:=List.take_of_length_le (by rw [List.length_drop,Array.length_toList];exact Nat.le_refl _)
 rw [e]
theorem aGz {xs:Array Nat}:Ris xs↔xs.toList.Pairwise (·<·):=by
 rw [List.pairwise_iff_getElem]
 unfold Ris
 constructor
 ·intro h i j hi hj hij
  exact h i j (by simpa using hi) (by simpa using hj) hij
 ·intro h a b ha hb hab
  exact h a b (by simpa using ha) (by simpa using hb) hab
theorem xX {xs:Array Nat} {j:Nat} (hp:Ris xs) (hn:xs[SetTable.below xs j]?≠some j):Ris (SetTable.insertAt xs (SetTable.below xs j) j):=by
 obtain ⟨b1,b2,b3⟩:=sE hp j
 rw [aGz,aAy _ _ _ b1,List.pairwise_append,List.pairwise_cons]
 have pw:=aGz.mp hp
 have below:∀a∈xs.toList.take (SetTable.below xs j),a<j:=fun a ha=>by
  obtain ⟨i,hi,rfl⟩:=List.getElem_of_mem ha
  rw [List.getElem_take]
  rw [List.length_take] at hi
  have hi':i<xs.toList.length:=by lia
  exact b2 i (by simpa using hi') (by lia)
 have above:∀a∈xs.toList.drop (SetTable.below xs j),j<a:=fun a ha=>by
  obtain ⟨i,hi,rfl⟩:=List.getElem_of_mem ha
  rw [List.getElem_drop]
  rw [List.length_drop] at hi
  have hs':SetTable.below xs j+i<xs.toList.length:=by lia
  have hs:SetTable.below xs j+i<xs.size:=by simpa using hs'
  have h1:=b3 _ hs (Nat.le_add_right _ _)
  rw [Array.getElem_toList]
  rcases Nat.lt_or_eq_of_le h1 with h|h
  ·exact h
  ·exfalso
   cases i with
   |zero=>exact hn ((Array.getElem?_eq_getElem hs).trans (congrArg some h.symm))
   |succ i=>
    have hb:SetTable.below xs j<xs.size:=by lia
    have h2:=b3 _ hb (Nat.le_refl _)
    have h3:=hp _ _ hb hs (by lia)
    lia
 refine ⟨pw.sublist (List.take_sublist _ _),⟨above,pw.sublist (List.drop_sublist _ _)⟩,fun a ha b hb=>?_⟩
 rcases List.mem_cons.mp hb with rfl|hb
 ·exact below a ha
 ·exact Nat.lt_trans (below a ha) (above b hb)
theorem aH1 {t:SetTable} {j:Nat} (h:t.slot j=.empty):t.place[SetTable.below t.place j]?≠some j:=by
 unfold SetTable.slot at h
 intro e
 simp [e] at h
theorem aDn {t:SetTable} (hd:t.dummies=#[]) (j:Nat):t.slot j≠.dummy:=by
 unfold SetTable.slot
 rw [hd]
 dsimp only
 split
 ·intro z;cases z
 ·have:SetTable.has #[] j=false:=by unfold SetTable.has;simp
  rw [this]
  intro z;cases z
theorem aF0 {t:SetTable} {g:Nat→Int} {h:Int} (hd:t.dummies=#[]):∀(fuel:Nat) (p:SetTable.Probe) (j:Nat) (dm:Option Nat),p.dummy=none→SetTable.probe.go t g h fuel p=some (.empty j dm)→dm=none∧t.slot j=.empty
 |0,p,j,dm,_,e=>by cases e
 |fuel+1,p,j,dm,hp,e=>by
  unfold SetTable.probe.go at e
  have adv:∀q:SetTable.Probe,q.dummy=none→(t.advance q).dummy=none:=fun q hq=>by
   unfold SetTable.advance
   split
   ·exact hq
   ·exact hq
  split at e
  ·rename_i hs
   cases e
   exact ⟨hp,hs⟩
  ·rename_i hs
   exact absurd hs (aDn hd _)
  ·split at e
   ·cases e
   ·exact aF0 hd fuel _ j dm (adv p hp) e
theorem aFh {t:SetTable} {h:Int} {j:Nat} {b:Bool} (hd:t.dummies=#[]) (e:t.freeSlot h=some (j,b)):t.place[SetTable.below t.place j]?≠some j:=by
 unfold SetTable.freeSlot at e
 split at e
 ·rename_i j' dm hq
  unfold SetTable.probe at hq
  obtain ⟨rfl,hs⟩:=aF0 hd _ _ _ _ rfl hq
  cases e
  exact aH1 hs
 ·cases e
def TabOk (b:Bool) (t:SetTable):Prop:=(b=false→t.led=true)∧t.dummies=#[]∧7≤t.mask∧(t.plain=true→Ris t.place)
theorem TabOk.stand {b:Bool} {t:SetTable} {n:Nat} (h:TabOk b t) (hn:1≤n):TabOk b (t.standIn n):=⟨h.1,rfl,by show 7≤4 * n+4;lia,fun z=>by cases z⟩
theorem TabOk.off {b:Bool} {t:SetTable} (h:TabOk b t):TabOk b { t with plain:=false }:=⟨h.1,h.2.1,h.2.2.1,fun z=>by cases z⟩
theorem TabOk.new {b:Bool} {t:SetTable} {es:Array (Int × Value)} {h:Int} {x:Value} (ok:TabOk b t):TabOk b (layNew t es h x).2.1:=by
 unfold layNew
 split
 ·rename_i slot wd e
  have hs:=aFh ok.2.1 e
  dsimp only [SetTable.put]
  have hdm:(if SetTable.has t.dummies slot=true then SetTable.eraseAt t.dummies (SetTable.below t.dummies slot) else t.dummies)=#[]:=by
   rw [ok.2.1]
   have:SetTable.has #[] slot=false:=by unfold SetTable.has;simp
   rw [this]
   rfl
  rw [hdm]
  unfold SetTable.orStandIn
  split
  ·exact ⟨ok.1,rfl,ok.2.2.1,fun z=>xX (ok.2.2.2 z) hs⟩
  ·refine TabOk.stand (t:={ t with place:=_,dummies:=#[] }) ⟨ok.1,rfl,ok.2.2.1,fun z=>xX (ok.2.2.2 z) hs⟩ ?_
   unfold SetTable.insertAt
   simp only [Array.size_append,Array.size_push,Array.size_extract]
   lia
 ·exact ok.stand (Nat.succ_le_succ (Nat.zero_le _))
theorem TabOk.room {b:Bool} {t:SetTable} {n:Nat} (ok:TabOk b t) (hf:t.fits n=true) (hn:n≤4):t.tooFull=false:=by
 unfold SetTable.fits at hf
 rw [Bool.and_eq_true,beq_iff_eq] at hf
 unfold SetTable.tooFull SetTable.fill
 rw [hf.1,ok.2.1]
 have:=ok.2.2.1
 simp only [Array.size_empty,Nat.add_zero,decide_eq_false_iff_not]
 lia
theorem vW {α β:Type} {R:α→β→Prop} {bs' bs:List β} (p:bs'.Perm bs):∀{as:List α},Paired R as bs→∃as',Paired R as' bs'∧as'.Perm as:=by
 induction p with
 |nil=>intro as h;exact ⟨as,h,.refl _⟩
 |cons x _ ih=>
  intro as h
  cases h with
  |cons r t=>
   obtain ⟨as',h1,h2⟩:=ih t
   exact ⟨_,.cons r h1,h2.cons _⟩
 |swap x y l=>
  intro as h
  cases h with
  |cons r t=>
   cases t with
   |cons r2 t2=>exact ⟨_,.cons r2 (.cons r t2),.swap ..⟩
 |trans _ _ ih1 ih2=>
  intro as h
  obtain ⟨a1,h1,h2⟩:=ih2 h
  obtain ⟨a2,h3,h4⟩:=ih1 h1
  exact ⟨a2,h3,h4.trans h2⟩
theorem aGh {α β:Type} {R:α→β→Prop} {as:List α} {bs:List β} {a:α} {b:β} (h:Paired R as bs) (r:R a b):Paired R (as++[a]) (bs++[b]):=by
 induction h with
 |nil=>exact .cons r .nil
 |cons q _ ih=>exact .cons q ih
theorem aEo {α β:Type} {R:α→β→Prop} {as:List α} {bs:List β} (h:Paired R as bs):∀a∈as,∃b∈bs,R a b:=by
 induction h with
 |nil=>intro a ha;cases ha
 |cons q _ ih=>
  intro a ha
  rcases List.mem_cons.mp ha with rfl|ha
  ·exact ⟨_,List.mem_cons_self,q⟩
  ·obtain ⟨b,hb,r⟩:=ih a ha
   exact ⟨b,List.mem_cons_of_mem _ hb,r⟩
theorem wC {α β:Type} {R:α→β→Prop} {as:List α} {bs:List β} (h:Paired R as bs):∀b∈bs,∃a∈as,R a b:=by
 induction h with
 |nil=>intro a ha;cases ha
 |cons q _ ih=>
  intro b hb
  rcases List.mem_cons.mp hb with rfl|hb
  ·exact ⟨_,List.mem_cons_self,q⟩
  ·obtain ⟨a,ha,r⟩:=ih b hb
   exact ⟨a,List.mem_cons_of_mem _ ha,r⟩
section
variable {prog:Program} {w:World} {κ:Type} [DecidableEq κ] {knd:KeyKind prog w κ} {A:Around} {E:Value→Shared→Prop} {s:Shared}
def byT (w:World):Bool:=w.params.followText "set-order"
abbrev ElK (knd:KeyKind prog w κ):κ→Int × Value→Prop:=fun k e=>knd.is k e.2=true∧e.1=knd.hash k∧e.2.scannable=true
def mK (knd:KeyKind prog w κ) (h:Heap) (D:Addr) (kl:List κ):Prop:=∃o es ep t,h.get? D=some o∧o.ExactSet∧o.data=.set es ep t∧t.fits es.size=true∧TabOk (byT w) t∧Paired (ElK knd) kl es.toList
theorem mK.at {h h':Heap} {D:Addr} {kl:List κ} (x:mK knd h D kl) (e:∀o,h.get? D=some o→h'.get? D=some o):mK knd h' D kl:=by
 obtain ⟨o,es,ep,t,ho,r⟩:=x
 exact ⟨o,es,ep,t,e o ho,r⟩
theorem aNs {D:Addr} {kl:List κ} {k:κ} {x:Value} {Q:Bool→Shared→Prop} (hkey:knd.is k x=true) (hsc:x.scannable=true) (hS:mK knd s.heap D kl) (hroom:kl.length<4)
  (h:∀h' kl' b,Heap.SameBut D s.heap h'→mK knd h' D kl'→kl'.Perm (if k∈kl then kl else kl++[k])→Q b { s with heap:=h' }):wpAny (model prog w) A (setAddHashed D x (knd.hash k)) Q E s:=by
 obtain ⟨o,es,ep,t,ho,hex,hd,hf,tab,pr⟩:=hS
 have hn:kl.length=es.size:=by rw [Paired.length pr,Array.length_toList]
 have hel:ElemsOf knd es.toList:=fun e he=>by
  obtain ⟨k',_,r1,r2,r3⟩:=wC pr e he
  exact ⟨⟨k',r1,r2⟩,r3⟩
 have hb:es.size<scanBound:=by unfold scanBound;lia
 unfold setAddHashed setAddHashedIn;refine wpAny_holding (wpAny_bind (wpAny_setState_of ho hd hf ?_));dsimp only
 rw [byScan_of hsc hb hel];simp only [↓reduceIte];unfold setAddByScan
 refine wpAny_bind (wpAny_bind (wpAny_rule (wpAny_bind (wpAny_setScan_of hkey ho hd hf hel ?_))))
 cases hr:List.findIdx? (fun e=>knd.is k e.2) es.toList with
 |some j=>
  dsimp only
  obtain ⟨hj,hpj,_⟩:=List.findIdx?_eq_some_iff_getElem.mp hr
  obtain ⟨k',hk',r1,_⟩:=wC pr _ (List.getElem_mem hj)
  have hin:k∈kl:=by rw [knd.inj _ k k' hpj r1];exact hk'
  refine wpAny_pure (wpAny_pure ?_)
  have e:s={ s with heap:=s.heap }:=by cases s;rfl
  rw [e]
  exact h s.heap kl _ (Heap.SameBut.refl D s.heap) ⟨o,es,ep,t,ho,hex,hd,hf,tab,pr⟩ (by rw [if_pos hin])
 |none=>
  dsimp only
  have hout:k∉kl:=fun z=>by
   obtain ⟨e,he,r1,_⟩:=aEo pr k z
   have:=List.findIdx?_eq_none_iff.mp hr e he
   rw [r1] at this
   cases this
  have hgw:∀(b:Bool) {s₁:Shared} {Q':Unit→Shared→Prop},Q' () s₁→wpAny (model prog w) A (match b with|true=>rule "set.scan.the-table-gave-way"|false=>pure ()) Q' E s₁:=fun b s₁ Q' hq=>match b with
   |true=>wpAny_rule hq
   |false=>wpAny_pure hq
  have hperm:=layNew_perm t es (knd.hash k) x
  have hfits:=layNew_fits t es (knd.hash k) x
  have htab:TabOk (byT w) (layNew t es (knd.hash k) x).2.1:=tab.new
  generalize hL:layNew t es (knd.hash k) x=L at hperm hfits htab ⊢
  obtain ⟨es1,t1,wasDummy,gave⟩:=L
  dsimp only at hperm hfits htab ⊢
  rw [Array.toList_push] at hperm
  obtain ⟨kl',pr',pm⟩:=vW hperm (aGh pr (show ElK knd k (knd.hash k,x) from ⟨hkey,rfl,hsc⟩))
  have hsz:es1.size=es.size+1:=by rw [←Array.length_toList,hperm.length_eq,List.length_append,Array.length_toList];rfl
  refine wpAny_bind (hgw _ ?_)
  have fin:∀t2:SetTable,TabOk (byT w) t2→t2.fits es1.size=true→∀(R:Option Bool→Shared→Prop),(∀h',Heap.SameBut D s.heap h'→mK knd h' D kl'→R (some true) { s with heap:=h' }) →
    wpAny (model prog w) A (storeSet D es1 t2) (fun _ s₁=>t2.tooFull=false∧R (some true) s₁) E s:=fun t2 h2 f2 R hR=>by
   refine wpAny_storeSet_of ho hd ⟨h2.room f2 (by lia),?_⟩ (fits_of_scanBound (by unfold scanBound;lia))
   have hg:=Heap.get?_update_self (Obj.putSet es1 t2) ho (by rw [putSet_of es1 t2 hd];rfl)
   rw [putSet_of es1 t2 hd] at hg
   exact hR _ (Heap.SameBut.update s.heap D (Obj.putSet es1 t2)) ⟨_,es1,ep+1,t2,hg,hex,rfl,f2,h2,pr'⟩
  have hend:∀h',Heap.SameBut D s.heap h'→mK knd h' D kl'→Q true { s with heap:=h' }:=fun h' sb q=>h h' kl' true sb q (by rw [if_neg hout];exact pm)
  split
  ·refine wpAny_bind ?_
   rw [hashByValue_scannable 8 hsc]
   refine wpAny_pure ?_
   refine wpAny_bind (wpAny_mono (fin (if plainKind x=true then t1 else { t1 with plain:=false }) (by split;exact htab;exact htab.off) (by split;exact hfits;exact SetTable.fits_plain_off hfits) (fun r s₁=>wpAny (model prog w) A (match r with|some b=>pure b|none=>unsupported "x") Q E s₁) fun h' sb q=>wpAny_pure (hend h' sb q)) (fun _ s₁ ⟨tf,q⟩=>?_) fun _ _ z=>z)
   rw [tf]
   simp only [Bool.and_false,Bool.false_eq_true,↓reduceIte]
   exact wpAny_pure q
  ·refine wpAny_bind (wpAny_pure ?_)
   simp only [↓reduceIte]
   refine wpAny_bind (wpAny_mono (fin t1 htab hfits (fun r s₁=>wpAny (model prog w) A (match r with|some b=>pure b|none=>unsupported "x") Q E s₁) fun h' sb q=>wpAny_pure (hend h' sb q)) (fun _ s₁ ⟨tf,q⟩=>?_) fun _ _ z=>z)
   rw [tf]
   simp only [Bool.and_false,Bool.false_eq_true,↓reduceIte]
   exact wpAny_pure q
def Ded (kl xs:List κ):Prop:=kl.Nodup∧(∀k,k∈kl↔k∈xs)∧kl.length≤xs.length
theorem Ded.more {kl kl' xs:List κ} {k:κ} (h:Ded kl xs) (p:kl'.Perm (if k∈kl then kl else kl++[k])):Ded kl' (xs++[k]):=by
 obtain ⟨h1,h2,h3⟩:=h
 by_cases hk:k∈kl
 ·rw [if_pos hk] at p
  refine ⟨p.nodup_iff.mpr h1,fun y=>?_,by rw [p.length_eq,List.length_append];lia⟩
  rw [p.mem_iff,h2,List.mem_append,List.mem_singleton]
  exact ⟨.inl,fun z=>z.elim id fun e=>e ▸ (h2 k).mp hk⟩
 ·rw [if_neg hk] at p
  refine ⟨p.nodup_iff.mpr (List.nodup_append.mpr ⟨h1,by simp,fun a ha b hb e=>?_⟩),fun y=>?_,by rw [p.length_eq,List.length_append,List.length_append];exact Nat.add_le_add_right h3 _⟩
  ·rw [List.mem_singleton] at hb
   exact hk (hb ▸ e ▸ ha)
  ·rw [p.mem_iff,List.mem_append,List.mem_append,h2]
theorem aLx {A:Around} {R:Result→Shared→Prop} {I:Addr} {fp wr:List Addr} {n:Nat} {P:Nat→Value→Prop} {St:Nat→Heap→Prop} (W:Walks prog w A.in1 I fp wr n P St) (D:Addr) (hD:D∉fp)
  (ks:List κ) (hks:ks.length=n) (hval:∀i v,P i v→∃k,ks[i]?=some k∧knd.is k v=true∧v.scannable=true) (hb:n≤4) :
  ∀(k i:Nat) (s:Shared) (kl:List κ),i+k=n→St i s.heap→mK knd s.heap D kl→Ded kl (ks.take i) →
   (∀h' tk kl',(∀b o,b∉D::wr→s.heap.get? b=some o→h'.get? b=some o)→mK knd h' D kl'→Ded kl' ks→R (.ok (.ret .none)) { s with heap:=h',toks:=tk }) →
   codeAny (model prog w) A (.builtin "set.update.loop" ⟨[.ref D,.ref I],[]⟩) R s:=by
 have hDw:D∉wr:=fun q=>hD (W.sub _ q)
 intro k
 induction k with
 |zero=>
  intro i s kl hi st hS dd q
  obtain rfl:i=n:=by lia
  refine codeAny_builtin PyProof.Rows.F.entry_set_update_loop ?_
  rw [Around.under_plainId PyProof.Rows.F.plain_set_update_loop _]
  show wpAny _ A.in1 (pyNext (.ref I) >>= _) _ _ _
  refine wpAny_bind (W.done s _ _ st fun h' tk kp=>?_)
  rw [List.take_of_length_le (Nat.le_of_eq hks)] at dd
  exact wpAny_pure (q h' tk kl (fun b o nb e=>kp b o (fun z=>nb (List.mem_cons_of_mem _ z)) e) (hS.at fun o e=>kp D o hDw e) dd)
 |succ k ih=>
  intro i s kl hi st hS dd q
  refine codeAny_builtin PyProof.Rows.F.entry_set_update_loop ?_
  rw [Around.under_plainId PyProof.Rows.F.plain_set_update_loop _]
  show wpAny _ A.in1 (pyNext (.ref I) >>= _) _ _ _
  refine wpAny_bind (W.item i s _ _ (by lia) st fun v h1 tk1 hP st1 kp1=>?_)
  obtain ⟨kk,ek,hkv,hsc⟩:=hval i v hP
  have hS1:mK knd h1 D kl:=hS.at fun o e=>kp1 D o hDw e
  show wpAny _ A.in1 (holding [v] (setAdd D v) >>= _) _ _ _
  refine wpAny_bind (wpAny_holding ?_)
  unfold setAdd
  refine wpAny_holding (wpAny_bind (knd.pyHash hkv ?_))
  have lt:(ks.take i).length=i:=by rw [List.length_take];lia
  refine aNs hkv hsc hS1 (by have:=dd.2.2;lia) fun h2 kl2 b2 sb2 hS2 pm=>?_
  have et:ks.take (i+1)=ks.take i++[kk]:=by rw [List.take_add_one,ek];rfl
  have kp2:∀b o,b∉D::wr→s.heap.get? b=some o→h2.get? b=some o:=fun b o nb e=>by
   rw [sb2.2 b (fun z=>nb (by rw [z];exact List.mem_cons_self))]
   exact kp1 b o (fun z=>nb (List.mem_cons_of_mem _ z)) e
  refine wpAny_pure ⟨plainId_quiet PyProof.Rows.F.plain_set_update_loop _,ih (i+1) _ kl2 (by lia) (W.frame _ _ _ st1 fun b hb o e=>?_) hS2 (by rw [et];exact dd.more pm) fun h' tk kl' kp hS' d'=>q h' tk kl' (fun b o nb e=>kp b o nb (kp2 b o nb e)) hS' d'⟩
  rw [sb2.2 b (fun z=>hD (by rw [←z];exact hb))]
  exact e
theorem aPy {h:Heap} {D:Addr} (hg:h.get? D=some (aX (!byT w))):mK knd h D []:=by
 refine ⟨_,#[],0,_,hg,⟨rfl,rfl,rfl⟩,rfl,rfl,⟨fun e=>?_,rfl,Nat.le_refl _,fun _=>fun a b ha=>absurd ha (by show ¬ (a<0);lia)⟩,.nil⟩
 show (!byT w)=true
 rw [e];rfl
theorem aEh (a:Value) {Q₁:Value→Shared→Prop} (h:Q₁ (.ref s.heap.objs.size) { s with heap:=s.heap.push (aX (!byT w)) }):codeAny (model prog w) A (.call (.builtin "set.__new__") ⟨[.type "set",a],[]⟩) (wants Q₁ E) s:=by
 have hsub:=sub_set_self
 refine codeAny_of_tree (show wpAny _ A.in1 (do checkBuiltinCall "set.__new__" ⟨[.type "set",a],[]⟩;again (.builtin "set.__new__" ⟨[.type "set",a],[]⟩)) _ _ s from wpAny_bind (wpAny_of_eq (F.newCall_set_1 a) (wpAny_pure ⟨plainId_quiet F.plain_set_new _,codeAny_builtin F.entry_set_new ?_⟩)))
 rw [Around.under_plainId F.plain_set_new _];unfold Builtin.«set.__new__» Builtin.Frozenset.newClass
 obtain ⟨hp,g,d,tk,os⟩:=s
 dsimp only;wp_walk
 refine wpAny_askSetting (wpAny_pure ?_);dsimp only;simp only [newObj]
 exact wpAny_bind (wpAny_alloc (wpAny_pure (wpAny_pure h)))
theorem aLw {A:Around} {R:Fin→Shared→Prop} {E:Value→Shared→Prop} {s:Shared} {l:Addr} {its:Array Value} {ks:List κ} (hh:A.handled=none) (hl:s.heap.IsList l its) (hlen:ks.length=its.size)
  (hval:∀(i:Nat) (v:Value),its[i]?=some v→∃k,ks[i]?=some k∧knd.is k v=true∧v.scannable=true) (hb:its.size≤4)
  (q:∀h' tk kl,mK knd h' s.heap.objs.size kl→Ded kl ks→(∀b o,b<s.heap.objs.size→s.heap.get? b=some o→h'.get? b=some o)→R (.done (.ret .none)) { s with heap:=h',toks:=tk }) :
  wpAny (model prog w) A (Builtin.«set.__init__» ⟨[.ref s.heap.objs.size,.ref l],[]⟩) R E { s with heap:=s.heap.push (aX (!byT w)) }:=by
 obtain ⟨⟨oc,od,ox,osl⟩,hol,hcl,nl,hdl⟩:=id hl
 simp only at hcl hdl
 subst hcl hdl
 have hS:(s.heap.push (aX (!byT w))).get? s.heap.objs.size=some (aX (!byT w)):=Heap.get?_push_size _ rfl
 have hT:Shared.TypeIs { s with heap:=s.heap.push (aX (!byT w)) } (.ref s.heap.objs.size) "set":=⟨_,hS,rfl⟩
 have hol':(s.heap.push (aX (!byT w))).get? l=some { cls:=.type "list",dict:=od,data:=.seq its nl,slots:=osl }:=Heap.get?_push_of_some _ hol
 have f1:=F.sub_list_set
 have f2:=F.sub_list_frozenset
 have f3:(Value.type "list" == Value.type "dict")=false:=by decide
 have hl1:(s.heap.push (aX (!byT w))).IsList l its:=⟨_,hol',rfl,nl,rfl⟩
 have hlt:l<s.heap.objs.size:=Heap.lt_size hol
 unfold Builtin.«set.__init__» noKeywords Builtin.Frozenset.updateFrom
 generalize hPI:pyIter=PI
 wp_walk
 subst hPI
 refine wpAny_pyIter_list hl1 ?_
 refine wpAny_bind (wpAny_runValue ?_)
 have hz:(s.heap.push (aX (!byT w))).objs.size=s.heap.objs.size+1:=Heap.size_push ..
 have hne:l≠(s.heap.push (aX (!byT w))).objs.size:=by rw [hz];exact Nat.ne_of_lt (Nat.lt_succ_of_lt hlt)
 have hSf:s.heap.objs.size∉[(s.heap.push (aX (!byT w))).objs.size,l]:=by
  rw [hz]
  simp only [List.mem_cons,List.not_mem_nil,or_false,not_or]
  exact ⟨Nat.ne_of_lt (Nat.lt_succ_self _),Nat.ne_of_gt hlt⟩
 refine aLx (Walks.list (by first|exact hh|simp [hh]) _ l hne its) s.heap.objs.size hSf ks hlen hval hb its.size 0 _ [] (by lia) ⟨⟨_,Heap.get?_push_size _ rfl,rfl,rfl⟩,hl1.push _⟩ ?_ ⟨List.nodup_nil,fun k=>by simp,Nat.zero_le _⟩ fun h' tk kl kp hS' dd=>?_
 ·have hg:((s.heap.push (aX (!byT w))).push { cls:=.type "list_iterator",data:=.fields #[.ref l,.int 0 0] }).get? s.heap.objs.size=some (aX (!byT w)):=Heap.get?_push_of_some _ hS
  exact aPy hg
 ·refine wpAny_pure (wpAny_pure (q h' tk kl hS' dd fun b o hb' e=>kp b o ?_ (Heap.get?_push_of_some _ (Heap.get?_push_of_some _ e))))
  rw [hz]
  simp only [List.mem_cons,List.not_mem_nil,or_false,not_or]
  exact ⟨Nat.ne_of_lt hb',Nat.ne_of_lt (Nat.lt_succ_of_lt hb')⟩
theorem aL6 {l:Addr} {its:Array Value} {ks:List κ} {Q:Value→Shared→Prop} (hh:A.handled=none) (hl:s.heap.IsList l its) (hlen:ks.length=its.size)
  (hval:∀(i:Nat) (v:Value),its[i]?=some v→∃k,ks[i]?=some k∧knd.is k v=true∧v.scannable=true) (hb:its.size≤4)
  (q:∀h' tk kl,mK knd h' s.heap.objs.size kl→Ded kl ks→(∀b o,b<s.heap.objs.size→s.heap.get? b=some o→h'.get? b=some o)→Q (.ref s.heap.objs.size) { s with heap:=h',toks:=tk }) :
  wpAny (model prog w) A (call (.type "set") [.ref l]) Q E s:=by
 have ft:=F.called_set
 obtain ⟨c,tl,hmro⟩:=ft.mro
 have g1:=ft.made
 have g2:=ft.sub
 have g3:=ft.notType
 have g4:=ft.canCreate
 have g5:=F.typeCall_set_1 (.ref l)
 refine wpAny_call (codeAny_of_tree (show wpAny _ _ (callAny (.type "set") _) _ _ _ from wpAny_pure ⟨Code.quiet_builtin _ (by decide +kernel),codeAny_builtin F.entry_type_call ?_⟩))
 rw [Around.under_plain (weight_type_call_type "set" [.ref l] []) (by rfl)]
 repeat (any_goals (first|assumption|wp_step))
 refine codeAny_mono (aEh (.ref l) (Q₁:=fun obj s1=>obj=.ref s.heap.objs.size∧s1={ s with heap:=s.heap.push (aX (!byT w)) }) (E:=E) ⟨rfl,rfl⟩) fun r s1 hr=>?_
 rcases r with e|fl
 ·exact hr
 rcases fl with _|_|_|obj
 ·exact hr.elim
 ·exact hr.elim
 ·exact hr.elim
 obtain ⟨rfl,rfl⟩:=hr
 have hT:Shared.TypeIs { s with heap:=s.heap.push (aX (!byT w)) } (.ref s.heap.objs.size) "set":=⟨_,Heap.get?_push_size _ rfl,rfl⟩
 have g6:=ft.init.lookup
 have g7:=ft.init.bind (.ref s.heap.objs.size)
 repeat (any_goals (first|assumption|wp_step))
 refine codeAny_mono (codeAny_call_builtin (R:=wants (fun r s2=>r=.none∧∃h' tk kl,s2={ s with heap:=h',toks:=tk }∧mK knd h' s.heap.objs.size kl∧Ded kl ks∧∀b o,b<s.heap.objs.size→s.heap.get? b=some o→h'.get? b=some o) E)
  ft.init.plain F.entry_set_init (check_set_init_1 hT (aLw (by first|exact hh|simp [hh]) hl hlen hval hb fun h' tk kl x dd kp=>⟨rfl,h',tk,kl,rfl,x,dd,kp⟩))) fun r2 s2 hr2=>?_
 rcases r2 with e|fl
 ·exact hr2
 rcases fl with _|_|_|v
 ·exact hr2.elim
 ·exact hr2.elim
 ·exact hr2.elim
 obtain ⟨rfl,h',tk,kl,rfl,x,dd,kp⟩:=hr2
 repeat (any_goals (first|assumption|wp_step))
 exact q h' tk kl x dd kp
end
end PySem
namespace PySem
section
variable {prog:Program} {w:World} {A:Around} {E:Value→Shared→Prop} {s:Shared}
theorem rG {α:Type}:∀(l:List α) (i:Nat) (h:i<l.length),(l[i]::l.eraseIdx i).Perm l
 |x::l,0,_=>.refl _
 |x::l,i+1,h=>by
  have ih:=rG l i (Nat.lt_of_succ_lt_succ h)
  exact (List.Perm.swap x _ (l.eraseIdx i)).trans (ih.cons x)
theorem aCh {src:Source} {n:Nat} {Q:Nat→Shared→Prop} (hn:n≠0) (h:∀i dr,i<n→Q i { s with drawn:=dr }):wpAny (model prog w) A (choose src n) Q E s:=
 fun _ _ _=>⟨hn,h _ _ (Nat.mod_lt _ (Nat.pos_of_ne_zero hn))⟩
theorem nZ {α:Type}:∀(n:Nat) (xs:List α) (s:Shared) (Q:List α→Shared→Prop),xs.length=n→(∀ys dr,ys.Perm xs→Q ys { s with drawn:=dr })→wpAny (model prog w) A (drawOrder n xs) Q E s
 |0,xs,s,Q,hl,h=>by
  have e:xs=[]:=List.eq_nil_of_length_eq_zero hl
  subst e
  unfold drawOrder
  exact wpAny_pure (h [] s.drawn (.refl _))
 |n+1,xs,s,Q,hl,h=>by
  cases xs with
  |nil=>cases hl
  |cons x xs=>
   unfold drawOrder
   refine wpAny_bind (aCh (by rw [hl];lia) fun i dr hi=>?_)
   rw [List.getElem?_eq_getElem hi]
   dsimp only
   refine wpAny_bind (nZ n _ _ _ (by rw [List.length_eraseIdx_of_lt hi,hl];rfl) fun ys dr' p=>wpAny_pure ?_)
   refine h _ dr' ?_
   have e:=rG _ _ hi
   exact (p.cons _).trans e
theorem aJ0 {α:Type} (next:Nat→Nat):∀(fuel k:Nat) (left:List α) (out:Array α),left.length=fuel→(pickOrder.go next fuel k left out).toList.Perm (out.toList++left)
 |0,k,left,out,h=>by
  have e:left=[]:=List.eq_nil_of_length_eq_zero h
  subst e
  unfold pickOrder.go
  rw [List.append_nil]
 |fuel+1,k,left,out,h=>by
  have hlt:next k % left.length<left.length:=Nat.mod_lt _ (by lia)
  unfold pickOrder.go
  rw [List.getElem?_eq_getElem hlt]
  dsimp only
  refine (aJ0 next fuel (k+1) _ _ (by rw [List.length_eraseIdx_of_lt hlt,h];rfl)).trans ?_
  rw [Array.toList_push,List.append_assoc]
  exact List.Perm.append_left _ (rG _ _ hlt)
theorem uU {α:Type} (next:Nat→Nat) (xs:Array α):(pickOrder next xs).toList.Perm xs.toList:=by
 unfold pickOrder
 exact aJ0 next xs.size 0 xs.toList #[] (by rw [Array.length_toList])
end
theorem bL:Slot "set_iterator" "__next__" "set_iterator.__next__":=.of (owner:="set_iterator") (n:="__next__") (by rw [typeLookup_type,builtinLookup_eq_fast];kernel_rfl) (by decide +kernel) (by decide +kernel) (by decide +kernel) (by first|exact .inl (by decide +kernel)|exact .inr (by decide +kernel)) (by rw [isSubtype_type];kernel_rfl)
theorem oR:Slot "set_iterator" "__iter__" "set_iterator.__iter__":=.of (owner:="set_iterator") (n:="__iter__") (by rw [typeLookup_type,builtinLookup_eq_fast];kernel_rfl) (by decide +kernel) (by decide +kernel) (by decide +kernel) (by first|exact .inl (by decide +kernel)|exact .inr (by decide +kernel)) (by rw [isSubtype_type];kernel_rfl)
theorem fG:entryFor table "set_iterator.__next__"=some Builtin.«set_iterator.__next__»:=entryFor_of_tree (by kernel_rfl)
theorem wF:entryFor table "set_iterator.__iter__"=some Builtin.«dict_keyiterator.__iter__»:=entryFor_alias (id':="dict_keyiterator.__iter__") (by kernel_rfl) rfl (by decide +kernel) (by kernel_rfl)
theorem zP:entryFor table "set.__iter__"=some Builtin.«frozenset.__iter__»:=entryFor_alias (id':="frozenset.__iter__") (by kernel_rfl) rfl (by decide +kernel) (by kernel_rfl)
theorem xZ:Manifest.owners.lookup (String.ofList ['r','o','t','a','r','e','t','i','_','t','e','s'].reverse)=some Manifest.sig_set_iterator:=by kernel_rfl
theorem fY (a:Value):argsOk "set_iterator.__next__" ⟨[a],[]⟩:=by
 unfold argsOk;rw [signature?_of (id:="set_iterator.__next__") (n:=['_','_','t','x','e','n','_','_']) (o:=['r','o','t','a','r','e','t','i','_','t','e','s']) (by kernel_rfl) xZ];kernel_rfl
theorem yP (a:Value):argsOk "set_iterator.__iter__" ⟨[a],[]⟩:=by
 unfold argsOk;rw [signature?_of (id:="set_iterator.__iter__") (n:=['_','_','r','e','t','i','_','_']) (o:=['r','o','t','a','r','e','t','i','_','t','e','s']) (by kernel_rfl) xZ];kernel_rfl
section
variable {prog:Program} {w:World} {A:Around} {E:Value→Shared→Prop} {s:Shared}
def eF (h:Heap) (I:Addr) (first:Value) (i:Nat) (D:Addr) (n ep:Nat):Prop:=h.get? I=some { cls:=.type "set_iterator",data:=.fields #[first,.int i 0,.ref D,.int n 0,.int ep 0] }
def uJ (h:Heap) (D:Addr) (es:Array (Int × Value)) (ep:Nat) (t:SetTable):Prop:=∃o,h.get? D=some o∧o.ExactSet∧o.data=.set es ep t∧t.fits es.size=true
def aDi (prog:Program) (w:World) (D:Addr) (es:Array (Int × Value)) (ep:Nat) (t:SetTable) (slot i:Nat) (r:Option (Value × Nat)):Prop:=
 ∀(A:Around) (E:Value→Shared→Prop) (s:Shared) (Q:Option (Value × Nat)→Shared→Prop),uJ s.heap D es ep t→Q r s→wpAny (model prog w) A (setNext D slot i ep) Q E s
theorem aBp {I D:Addr} {es:Array (Int × Value)} {ep slot i next:Nat} {t:SetTable} {x:Value} {Q:Option Value→Shared→Prop} (ki:eF s.heap I (.int slot 0) i D es.size ep) (so:uJ s.heap D es ep t) (hne:D≠I)
  (nx:aDi prog w D es ep t slot i (some (x,next)))
  (q:∀h',eF h' I (.int next 0) (i+1) D es.size ep→(∀b o,b≠I→s.heap.get? b=some o→h'.get? b=some o)→Q (some x) { s with heap:=h' }):wpAny (model prog w) A (pyNext (.ref I)) Q E s:=by
 have ty:s.TypeIs (.ref I) "set_iterator":=⟨_,ki,rfl⟩
 obtain ⟨o,ho,hex,hd,hf⟩:=id so
 unfold pyNext
 refine wpAny_bind (wpAny_attempt (wpAny_callSpecial?_slot (name:="__next__") ty bL (wpAny_call_entry bL ty fG (wpAny_bind (wpAny_pure (wpAny_bind (wpAny_fieldsOf ki rfl ?_)))) (fY _))))
 show wpAny _ _ (setEntries D >>= _) _ _ s
 refine wpAny_bind (wpAny_setEntries_of ho hd hf ?_)
 dsimp only
 rw [if_neg (by simp)]
 simp only [Int.toNat_natCast]
 refine wpAny_bind (nx _ _ _ _ so ?_)
 dsimp only
 refine wpAny_bind (wpAny_setField_rec ki (by simp) fun h1 e1 s1=>?_)
 have f1:eF h1 I (.int next 0) i D es.size ep:=by simpa [rawInt,eF] using e1
 refine wpAny_bind (wpAny_setField_rec f1 (by simp) fun h2 e2 s2=>?_)
 have f2:eF h2 I (.int next 0) (i+1) D es.size ep:=by
  have z:((i+1:Nat):Int)=(i:Int)+1:=by lia
  unfold eF
  rw [z]
  simpa [rawInt] using e2
 exact wpAny_pure ⟨_,rfl,wpAny_pure (q h2 f2 fun b o hb e=>s2.extBut b o hb (s1.extBut b o hb e))⟩
theorem aBt {I D:Addr} {es:Array (Int × Value)} {ep slot i:Nat} {t:SetTable} {Q:Option Value→Shared→Prop} (hh:A.handled=none) (ki:eF s.heap I (.int slot 0) i D es.size ep) (so:uJ s.heap D es ep t)
  (nx:aDi prog w D es ep t slot i none) (q:∀h',(∀b o,b≠I→s.heap.get? b=some o→h'.get? b=some o)→Q none { s with heap:=h' }):wpAny (model prog w) A (pyNext (.ref I)) Q E s:=by
 have ty:s.TypeIs (.ref I) "set_iterator":=⟨_,ki,rfl⟩
 obtain ⟨o,ho,hex,hd,hf⟩:=id so
 unfold pyNext
 refine wpAny_bind (wpAny_attempt (wpAny_callSpecial?_slot (name:="__next__") ty bL (wpAny_call_entry bL ty fG (wpAny_bind (wpAny_pure (wpAny_bind (wpAny_fieldsOf ki rfl ?_)))) (fY _))))
 show wpAny _ _ (setEntries D >>= _) _ _ s
 refine wpAny_bind (wpAny_setEntries_of ho hd hf ?_)
 dsimp only
 rw [if_neg (by simp)]
 simp only [Int.toNat_natCast]
 refine wpAny_bind (nx _ _ _ _ so ?_)
 dsimp only
 refine wpAny_bind (wpAny_setField ki rfl (by simp) ?_)
 refine wpAny_bind ?_
 simp only [newExc,newTuple,raiseNew]
 refine wpAny_bind (wpAny_newObj_type ?_ (by size_fits))
 refine wpAny_bind (m:=firstArgMember _ _) (wpAny_of_eq (a:=Value.none) (by simp only [firstArgMember];rfl) ?_)
 refine wpAny_newObj_type (wpAny_bind (wpAny_handled ?_)) (by size_fits)
 rw [show A.in1.handled=none from hh]
 refine wpAny_bind (wpAny_pure (wpAny_throw ?_))
 refine wpAny_bind (wpAny_isInstance (T:="StopIteration") (b:=true) ⟨_,Heap.get?_push_size _ rfl,rfl⟩ isSubtype_stop ?_)
 exact wpAny_pure (q _ (((Heap.SameBut.update ..).extBut.push _).push _))
theorem aIc {I D T:Addr} {es:Array (Int × Value)} {ep i j:Nat} {t:SetTable} {pl:Array Value} {e:Int × Value} {Q:Option Value→Shared→Prop} (ki:eF s.heap I (.ref T) i D es.size ep) (so:uJ s.heap D es ep t) (tp:s.heap.get? T=some { cls:=.type "tuple",data:=.seq pl })
  (hj:pl[i]?=some (.int j 0)) (he:es[j]?=some e)
  (q:∀h',eF h' I (.ref T) (i+1) D es.size ep→(∀b o,b≠I→s.heap.get? b=some o→h'.get? b=some o)→Q (some e.2) { s with heap:=h' }):wpAny (model prog w) A (pyNext (.ref I)) Q E s:=by
 have ty:s.TypeIs (.ref I) "set_iterator":=⟨_,ki,rfl⟩
 obtain ⟨o,ho,hex,hd,hf⟩:=id so
 unfold pyNext
 refine wpAny_bind (wpAny_attempt (wpAny_callSpecial?_slot (name:="__next__") ty bL (wpAny_call_entry bL ty fG (wpAny_bind (wpAny_pure (wpAny_bind (wpAny_fieldsOf ki rfl ?_)))) (fY _))))
 show wpAny _ _ (setEntries D >>= _) _ _ s
 refine wpAny_bind (wpAny_setEntries_of ho hd hf ?_)
 dsimp only
 rw [if_neg (by simp)]
 simp only [Int.toNat_natCast]
 refine wpAny_bind (wpAny_seqItems tp rfl ?_)
 dsimp only
 rw [hj]
 dsimp only
 unfold setNextDrawn
 refine wpAny_bind (wpAny_bind (wpAny_setState_of ho hd hf ?_))
 dsimp only
 rw [if_neg (by simp)]
 refine wpAny_bind (wpAny_pure ?_)
 simp only [Int.toNat_natCast,he]
 refine wpAny_pure (wpAny_bind (wpAny_setField_rec ki (by simp) fun h2 e2 s2=>?_))
 have f2:eF h2 I (.ref T) (i+1) D es.size ep:=by
  have z:((i+1:Nat):Int)=(i:Int)+1:=by lia
  unfold eF
  rw [z]
  simpa [rawInt] using e2
 exact wpAny_pure ⟨_,rfl,wpAny_pure (q h2 f2 fun b o hb e=>s2.extBut b o hb e)⟩
theorem aHb {I D T:Addr} {es:Array (Int × Value)} {ep i:Nat} {t:SetTable} {pl:Array Value} {Q:Option Value→Shared→Prop} (hh:A.handled=none) (ki:eF s.heap I (.ref T) i D es.size ep) (so:uJ s.heap D es ep t) (tp:s.heap.get? T=some { cls:=.type "tuple",data:=.seq pl })
  (hj:pl[i]?=none) (q:∀h',(∀b o,b≠I→s.heap.get? b=some o→h'.get? b=some o)→Q none { s with heap:=h' }):wpAny (model prog w) A (pyNext (.ref I)) Q E s:=by
 have ty:s.TypeIs (.ref I) "set_iterator":=⟨_,ki,rfl⟩
 obtain ⟨o,ho,hex,hd,hf⟩:=id so
 unfold pyNext
 refine wpAny_bind (wpAny_attempt (wpAny_callSpecial?_slot (name:="__next__") ty bL (wpAny_call_entry bL ty fG (wpAny_bind (wpAny_pure (wpAny_bind (wpAny_fieldsOf ki rfl ?_)))) (fY _))))
 show wpAny _ _ (setEntries D >>= _) _ _ s
 refine wpAny_bind (wpAny_setEntries_of ho hd hf ?_)
 dsimp only
 rw [if_neg (by simp)]
 simp only [Int.toNat_natCast]
 refine wpAny_bind (wpAny_seqItems tp rfl ?_)
 dsimp only
 rw [hj]
 dsimp only
 refine wpAny_bind (wpAny_setField_rec ki (by simp) fun h2 e2 s2=>?_)
 refine wpAny_bind (wpAny_setField e2 rfl (by simp) ?_)
 refine wpAny_bind ?_
 simp only [newExc,newTuple,raiseNew]
 refine wpAny_bind (wpAny_newObj_type ?_ (by size_fits))
 refine wpAny_bind (m:=firstArgMember _ _) (wpAny_of_eq (a:=Value.none) (by simp only [firstArgMember];rfl) ?_)
 refine wpAny_newObj_type (wpAny_bind (wpAny_handled ?_)) (by size_fits)
 rw [show A.in1.handled=none from hh]
 refine wpAny_bind (wpAny_pure (wpAny_throw ?_))
 refine wpAny_bind (wpAny_isInstance (T:="StopIteration") (b:=true) ⟨_,Heap.get?_push_size _ rfl,rfl⟩ isSubtype_stop ?_)
 refine wpAny_pure (q _ fun b o hb e=>((((Heap.SameBut.update ..).extBut.push _).push _)) b o hb (s2.extBut b o hb e))
theorem aCa {D:Addr} {es:Array (Int × Value)} {ep slot i:Nat} {t:SetTable} (hb:byT w=true):aDi prog w D es ep t slot i (((pickOrder (w.params.setOrder D ep) es)[i]?).map fun e=>(e.2,slot)):=by
 intro A E s Q so q
 obtain ⟨o,ho,hex,hd,hf⟩:=so
 have hb':(⟨(model prog w).prog,(model prog w).w.params⟩:Setting).params.followText "set-order"=true:=hb
 unfold setNext setsByText setWalk
 refine wpAny_bind (wpAny_setState_of ho hd hf ?_)
 dsimp only
 refine wpAny_bind (wpAny_bind (wpAny_askSetting (wpAny_pure ?_)))
 rw [if_pos hb',if_neg (by simp)]
 refine wpAny_bind (wpAny_bind (wpAny_setState_of ho hd hf ?_))
 dsimp only
 unfold setsByText
 refine wpAny_bind (wpAny_bind (wpAny_askSetting (wpAny_pure ?_)))
 rw [if_pos hb']
 exact wpAny_bind (wpAny_askSetting (wpAny_pure (wpAny_pure q)))
theorem zG {D:Addr} {es:Array (Int × Value)} {ep slot i:Nat} {t:SetTable} (hb:byT w=false) (hl:t.led=true) (hp:t.plain=true∨es.size≤1) :
  aDi prog w D es ep t slot i (match es[SetTable.below t.place slot]?,t.place[SetTable.below t.place slot]? with|some (_,x),some j=>some (x,j+1)|_,_=>none):=by
 intro A E s Q so q
 obtain ⟨o,ho,hex,hd,hf⟩:=so
 have hb':(⟨(model prog w).prog,(model prog w).w.params⟩:Setting).params.followText "set-order"=false:=hb
 unfold setNext setsByText
 refine wpAny_bind (wpAny_setState_of ho hd hf ?_)
 dsimp only
 refine wpAny_bind (wpAny_bind (wpAny_askSetting (wpAny_pure ?_)))
 rw [if_neg (by rw [hb'];exact Bool.false_ne_true)]
 split
 ·rename_i hd'
  have z:(!t.plain && decide (es.size > 1))=true:=hd'
  rw [Bool.and_eq_true,decide_eq_true_eq] at z
  rcases hp with h|h
  ·rw [h] at z;cases z.1
  ·lia
 ·refine wpAny_bind (show wpAny _ _ (if (!t.led && !es.isEmpty)=true then unsupported "set:maker-not-led" else pure ()) _ _ _ from ?_)
  rw [if_neg (by rw [hl];exact Bool.false_ne_true)]
  exact wpAny_pure (wpAny_pure q)
theorem uT {I D:Addr} {first:Value} {n ep i:Nat} {Q:Value→Shared→Prop} (ki:eF s.heap I first i D n ep) (h:Q (.ref I) s):wpAny (model prog w) A (pyIter (.ref I)) Q E s:=by
 have ty:s.TypeIs (.ref I) "set_iterator":=⟨_,ki,rfl⟩
 refine wpAny_pyIter_slot ty oR (wpAny_call_entry oR ty wF ?_ (yP _))
 show wpAny _ _ (ret (.ref I)) _ _ s
 exact wpAny_pure ⟨_,rfl,"set_iterator",_,ty,bL.lookup,h⟩
theorem uJ.at {h h':Heap} {D:Addr} {es:Array (Int × Value)} {ep:Nat} {t:SetTable} (x:uJ h D es ep t) (e:∀o,h.get? D=some o→h'.get? D=some o):uJ h' D es ep t:=by
 obtain ⟨o,ho,r⟩:=x
 exact ⟨o,e o ho,r⟩
theorem aHc {I D:Addr} {es:Array (Int × Value)} {ep:Nat} {t:SetTable} (hb:byT w=true) (hh:A.handled=none) (hne:D≠I) :
  Walks prog w A I [I,D] [I] es.size (fun i v=>((pickOrder (w.params.setOrder D ep) es).toList.map (·.2))[i]?=some v) (fun i h=>eF h I (.int (0:Nat) 0) i D es.size ep∧uJ h D es ep t) where
 sub:=fun b hb=>by simp at hb;simp [hb]
 frame:=fun _ _ _ st hk=>⟨hk I (by simp) _ st.1,st.2.at fun o e=>hk D (by simp) o e⟩
 item:=fun i s Q E hi st hQ=>by
  have hl:(pickOrder (w.params.setOrder D ep) es).size=es.size:=by rw [←Array.length_toList,(uU _ es).length_eq,Array.length_toList]
  have hi':i<(pickOrder (w.params.setOrder D ep) es).size:=by lia
  have nx:=aCa (prog:=prog) (D:=D) (es:=es) (ep:=ep) (slot:=0) (i:=i) (t:=t) hb
  rw [Array.getElem?_eq_getElem hi'] at nx
  refine aBp st.1 st.2 hne nx fun h' k' kp=>?_
  exact hQ _ h' s.toks (by rw [List.getElem?_map,Array.getElem?_toList,Array.getElem?_eq_getElem hi'];rfl) ⟨k',st.2.at fun o e=>kp D o hne e⟩ fun b o hb e=>kp b o (fun z=>hb (by simp [z])) e
 done:=fun s Q E st hQ=>by
  have hl:(pickOrder (w.params.setOrder D ep) es).size=es.size:=by rw [←Array.length_toList,(uU _ es).length_eq,Array.length_toList]
  have nx:=aCa (prog:=prog) (D:=D) (es:=es) (ep:=ep) (slot:=0) (i:=es.size) (t:=t) hb
  rw [Array.getElem?_eq_none (by lia)] at nx
  exact aBt hh st.1 st.2 nx fun h' kp=>hQ h' s.toks fun b o hb e=>kp b o (fun z=>hb (by simp [z])) e
 self:=fun _ _ _ _ st hQ=>uT st.1 hQ
theorem aEi {I D:Addr} {es:Array (Int × Value)} {ep:Nat} {t:SetTable} (hb:byT w=false) (hl:t.led=true) (hp:t.plain=true∨es.size≤1) (hr:Ris t.place) (hsz:t.place.size=es.size) (hh:A.handled=none) (hne:D≠I) :
  Walks prog w A I [I,D] [I] es.size (fun i v=>(es.toList.map (·.2))[i]?=some v) (fun i h=>∃slot,eF h I (.int (slot:Nat) 0) i D es.size ep∧uJ h D es ep t∧SetTable.below t.place slot=i) where
 sub:=fun b hb=>by simp at hb;simp [hb]
 frame:=fun _ _ _ ⟨sl,s1,s2,s3⟩ hk=>⟨sl,hk I (by simp) _ s1,s2.at fun o e=>hk D (by simp) o e,s3⟩
 item:=fun i s Q E hi ⟨sl,s1,s2,s3⟩ hQ=>by
  have nx:=zG (prog:=prog) (D:=D) (es:=es) (ep:=ep) (slot:=sl) (i:=i) (t:=t) hb hl hp
  have hi':i<t.place.size:=by lia
  rw [s3,Array.getElem?_eq_getElem hi,Array.getElem?_eq_getElem hi'] at nx
  refine aBp s1 s2 hne nx fun h' k' kp=>?_
  refine hQ _ h' s.toks (by rw [List.getElem?_map,Array.getElem?_toList,Array.getElem?_eq_getElem hi];rfl) ⟨_,k',s2.at fun o e=>kp D o hne e,?_⟩ fun b o hb e=>kp b o (fun z=>hb (by simp [z])) e
  obtain ⟨b1,b2,b3⟩:=sE hr (t.place[i]+1)
  have h1:i<SetTable.below t.place (t.place[i]+1):=Nat.lt_of_not_le fun z=>by have:=b3 i hi' z;lia
  rcases Nat.lt_or_eq_of_le (Nat.succ_le_of_lt h1) with h2|h2
  ·exfalso
   have hk:i+1<t.place.size:=by lia
   have h3:=b2 (i+1) hk h2
   have h4:=hr i (i+1) hi' hk (Nat.lt_succ_self _)
   lia
  ·exact h2.symm
 done:=fun s Q E ⟨sl,s1,s2,s3⟩ hQ=>by
  have nx:=zG (prog:=prog) (D:=D) (es:=es) (ep:=ep) (slot:=sl) (i:=es.size) (t:=t) hb hl hp
  rw [s3,Array.getElem?_eq_none (Nat.le_refl _)] at nx
  exact aBt hh s1 s2 nx fun h' kp=>hQ h' s.toks fun b o hb e=>kp b o (fun z=>hb (by simp [z])) e
 self:=fun _ _ _ _ ⟨_,s1,_⟩ hQ=>uT s1 hQ
theorem aG2 {I D T:Addr} {es:Array (Int × Value)} {ep:Nat} {t:SetTable} {ys:List Nat} (hy:ys.Perm (List.range es.size)) (hh:A.handled=none) (hne:D≠I) (hnT:T≠I) :
  Walks prog w A I [I,D,T] [I] es.size (fun i v=>((ys.map fun j=>es.getD j (0,.none)).map (·.2))[i]?=some v) (fun i h=>eF h I (.ref T) i D es.size ep∧uJ h D es ep t∧h.get? T=some { cls:=.type "tuple",data:=.seq (ys.map fun j=>rawInt (j:Nat)).toArray }) where
 sub:=fun b hb=>by simp at hb;simp [hb]
 frame:=fun _ _ _ st hk=>⟨hk I (by simp) _ st.1,st.2.1.at fun o e=>hk D (by simp) o e,hk T (by simp) _ st.2.2⟩
 item:=fun i s Q E hi st hQ=>by
  have hyl:ys.length=es.size:=by rw [hy.length_eq,List.length_range]
  have hi':i<ys.length:=by lia
  have hj:ys[i]<es.size:=List.mem_range.mp (hy.mem_iff.mp (List.getElem_mem hi'))
  refine aIc (j:=ys[i]) st.1 st.2.1 st.2.2 (by rw [List.getElem?_toArray,List.getElem?_map,List.getElem?_eq_getElem hi'];rfl) (Array.getElem?_eq_getElem hj) fun h' k' kp=>?_
  refine hQ _ h' s.toks ?_ ⟨k',st.2.1.at fun o e=>kp D o hne e,kp T _ hnT st.2.2⟩ fun b o hb e=>kp b o (fun z=>hb (by simp [z])) e
  rw [List.getElem?_map,List.getElem?_map,List.getElem?_eq_getElem hi']
  show some (es.getD ys[i] (0,.none)).2=some es[ys[i]].2
  rw [Array.getD_eq_getD_getElem?,Array.getElem?_eq_getElem hj]
  rfl
 done:=fun s Q E st hQ=>by
  have hyl:ys.length=es.size:=by rw [hy.length_eq,List.length_range]
  exact aHb hh st.1 st.2.1 st.2.2 (by rw [List.getElem?_toArray,List.getElem?_map,List.getElem?_eq_none (by lia)];rfl) fun h' kp=>hQ h' s.toks fun b o hb e=>kp b o (fun z=>hb (by simp [z])) e
 self:=fun _ _ _ _ st hQ=>uT st.1 hQ
theorem aNu {D:Addr} {es:Array (Int × Value)} {ep:Nat} {t:SetTable} {Q:Value→Shared→Prop} (hh:A.handled=none) (so:uJ s.heap D es ep t) (tab:TabOk (byT w) t) (hn:es.size≤1000)
  (h:∀I fp (order:List (Int × Value)) St h1 dr,(∀b o,s.heap.get? b=some o→h1.get? b=some o)→Walks prog w A I fp [I] es.size (fun i v=>(order.map (·.2))[i]?=some v) St→St 0 h1→(∀b∈fp,b=D∨s.heap.objs.size≤b)→s.heap.objs.size≤I→order.Perm es.toList →
   Q (.ref I) { s with heap:=h1,drawn:=dr }):wpAny (model prog w) A (pyIter (.ref D)) Q E s:=by
 obtain ⟨o,ho,hex,hd,hf⟩:=id so
 have ty:s.TypeIs (.ref D) "set":=⟨o,ho,hex.1⟩
 refine wpAny_pyIter_slot ty F.slot_set_iter (wpAny_call_entry F.slot_set_iter ty zP ?_ (F.args_set_iter_1 _))
 unfold Builtin.«frozenset.__iter__» Builtin.Frozenset.slot0 slotArgs
 simp only [List.isEmpty_nil,Bool.not_true,Bool.false_eq_true,↓reduceIte,bind_assoc,List.length_nil,bne_self_eq_false]
 unfold Builtin.Frozenset.addrOf Builtin.Frozenset.sizeOf setDrawn setsByText
 refine wpAny_bind (wpAny_pure ?_)
 try dsimp only
 refine wpAny_bind (wpAny_pure ?_)
 refine wpAny_bind (wpAny_bind (wpAny_setEntries_of ho hd hf (wpAny_pure ?_)))
 refine wpAny_bind (wpAny_bind (wpAny_setState_of ho hd hf ?_))
 dsimp only
 refine wpAny_bind (wpAny_bind (wpAny_askSetting (wpAny_pure (wpAny_pure ?_))))
 have hlt:D<s.heap.objs.size:=Heap.lt_size ho
 have zr:((0:Nat):Int)=0:=rfl
 split
 ·rename_i hc
  refine wpAny_bind (nZ _ _ _ _ (List.length_range ..) fun ys dr hy=>?_)
  refine wpAny_bind (wpAny_newTuple ?_ (by rw [List.length_map,hy.length_eq,List.length_range];exact Nat.le_trans hn (by decide)))
  have ho2:({ s with drawn:=dr,heap:=s.heap.push { cls:=.type "tuple",data:=.seq (ys.map fun i=>rawInt (i:Nat)).toArray } }:Shared).heap.get? D=some o:=Heap.get?_push_of_some _ ho
  refine wpAny_bind (wpAny_setEpoch_of ho2 hd hf ?_)
  refine wpAny_bind ?_
  unfold newFields
  refine wpAny_newObj_type (wpAny_pure ⟨_,rfl,"set_iterator",_,⟨_,Heap.get?_push_size _ rfl,rfl⟩,bL.lookup,?_⟩)
  have hz:(s.heap.push { cls:=.type "tuple",data:=.seq (ys.map fun i=>rawInt (i:Nat)).toArray }).objs.size=s.heap.objs.size+1:=Heap.size_push ..
  refine h _ [_,D,s.heap.objs.size] (ys.map fun j=>es.getD j (0,.none)) _ _ dr (fun b o e=>Heap.get?_push_of_some _ (Heap.get?_push_of_some _ e)) (aG2 (t:=t) (ep:=ep) hy hh ?_ ?_) ⟨?_,?_,?_⟩ (fun b hb=>?_) ?_ ?_
  ·show D≠Array.size _
   rw [hz];exact Nat.ne_of_lt (Nat.lt_succ_of_lt hlt)
  ·show s.heap.objs.size≠Array.size _
   rw [hz];exact Nat.ne_of_lt (Nat.lt_succ_self _)
  ·exact Heap.get?_push_size _ rfl
  ·exact ⟨o,Heap.get?_push_of_some _ ho2,hex,hd,hf⟩
  ·exact Heap.get?_push_of_some _ (Heap.get?_push_size _ rfl)
  ·simp only [List.mem_cons,List.not_mem_nil,or_false] at hb
   rcases hb with rfl|rfl|rfl
   ·right;rw [hz];exact Nat.le_succ _
   ·left;rfl
   ·right;exact Nat.le_refl _
  ·rw [hz];exact Nat.le_succ _
  ·have e:(List.range es.size).map (fun j=>es.getD j (0,.none))=es.toList:=by
    refine List.ext_getElem? fun j=>?_
    rw [List.getElem?_map,show es.toList[j]?=es[j]? from Array.getElem?_toList]
    by_cases hj:j<es.size
    ·rw [List.getElem?_range hj,Array.getElem?_eq_getElem hj]
     show some (es.getD j (0,.none))=_
     rw [Array.getD_eq_getD_getElem?,Array.getElem?_eq_getElem hj]
     rfl
    ·rw [List.getElem?_eq_none (by rw [List.length_range];lia),Array.getElem?_eq_none (by lia)]
     rfl
   exact (hy.map _).trans (by rw [e])
 ·rename_i hc
  refine wpAny_bind (wpAny_pure (wpAny_bind (wpAny_setEpoch_of ho hd hf (wpAny_bind ?_))))
  unfold newFields
  refine wpAny_newObj_type (wpAny_pure ⟨_,rfl,"set_iterator",_,⟨_,Heap.get?_push_size _ rfl,rfl⟩,bL.lookup,?_⟩)
  have ki:eF (s.heap.push { cls:=.type "set_iterator",data:=.fields [rawInt 0,rawInt 0,Value.ref D,rawInt (es.size:Nat),rawInt (ep:Nat)].toArray }) s.heap.objs.size (.int (0:Nat) 0) 0 D es.size ep:=Heap.get?_push_size _ rfl
  have so2:uJ (s.heap.push { cls:=.type "set_iterator",data:=.fields [rawInt 0,rawInt 0,Value.ref D,rawInt (es.size:Nat),rawInt (ep:Nat)].toArray }) D es ep t:=so.at fun o e=>Heap.get?_push_of_some _ e
  have fpk:∀b∈[s.heap.objs.size,D],b=D∨s.heap.objs.size≤b:=fun b hb=>by
   simp only [List.mem_cons,List.not_mem_nil,or_false] at hb
   rcases hb with rfl|rfl
   ·right;exact Nat.le_refl _
   ·left;rfl
  cases hb:byT w with
  |true=>exact h _ [s.heap.objs.size,D] _ _ _ s.drawn (fun b o e=>Heap.get?_push_of_some _ e) (aHc (t:=t) (ep:=ep) hb hh (Nat.ne_of_lt hlt)) ⟨ki,so2⟩ fpk (Nat.le_refl _) (uU _ es)
  |false=>
   have hl:t.led=true:=tab.1 hb
   have hsz:t.place.size=es.size:=by
    unfold SetTable.fits at hf
    rw [Bool.and_eq_true,beq_iff_eq] at hf
    exact hf.1
   have hp:t.plain=true∨es.size≤1:=by
    have z:¬ (!byT w && (!t.plain && decide (es.size > 1)))=true:=hc
    rw [hb] at z
    cases hpl:t.plain with
    |true=>exact .inl rfl
    |false=>
     rw [hpl] at z
     right
     simpa using z
   have hr:Ris t.place:=by
    rcases hp with z|z
    ·exact tab.2.2.2 z
    ·intro a b ha hb' hab;lia
   refine h _ [s.heap.objs.size,D] es.toList _ _ s.drawn (fun b o e=>Heap.get?_push_of_some _ e) (aEi (t:=t) (ep:=ep) hb hl hp hr hsz hh (Nat.ne_of_lt hlt)) ⟨0,ki,so2,?_⟩ fpk (Nat.le_refl _) (.refl _)
   obtain ⟨_,b2,_⟩:=sE hr 0
   rcases Nat.eq_zero_or_pos (SetTable.below t.place 0) with z|z
   ·exact z
   ·by_cases h0:0<t.place.size
    ·exact absurd (b2 0 h0 z) (Nat.not_lt_zero _)
    ·have:=(sE hr 0).1;lia
theorem aPh {D:Addr} {Q:Bool→Shared→Prop} (hT:s.TypeIs (.ref D) "set") (h:Q false s):wpAny (model prog w) A (Builtin.List.listLengthHint (.ref D)) Q E s:=by
 unfold Builtin.List.listLengthHint;refine wpAny_bind (wpAny_specialOf hT F.slot_set_len.lookup ?_)
 generalize hid:("set.__len__":String)=id0
 wp_delta;rw [show splitId id0=some ("set","__len__") from by subst hid;decide +kernel]
 subst hid
 refine wpAny_bind (wpAny_isInstance (T:="set") (b:=true) hT sub_set_self (wpAny_ite_split (fun hab=>absurd hab (by decide)) (fun _=>wpAny_ite_split (fun _=>?_) (fun hab=>absurd (by decide +kernel) hab))))
 exact wpAny_bind (wpAny_typeOf hT (wpAny_pure h))
theorem aH5 {D:Addr} {es:Array (Int × Value)} {ep:Nat} {t:SetTable} {R:Result→Shared→Prop} (hh:A.handled=none) (so:uJ s.heap D es ep t) (tab:TabOk (byT w) t) (hn:es.size≤1000) (S:Addr) (hSD:S≠D) (res:Value) (hS:s.heap.get? S=some { cls:=.type "list",data:=.seq #[] })
  (hR:∀h' tk dr acc c (order:List (Int × Value)),(∀b o,b≠S→s.heap.get? b=some o→h'.get? b=some o)→h'.get? S=some { cls:=.type "list",dict:=none,data:=.seq acc c,slots:=#[] }→order.Perm es.toList→acc.toList=order.map (·.2)→R (.ok (.ret res)) { s with heap:=h',toks:=tk,drawn:=dr }) :
  wpAny (model prog w) A.in1 (Builtin.List.listExtendWith (.ref S) (.ref D) res) (fun fin s'=>match fin with|.done f=>R (.ok f) s'|.again c'=>c'.quiet=true∧codeAny (model prog w) A c' R s') (fun e s'=>R (.error e) s') s:=by
 obtain ⟨o,ho,hex,hd,hf⟩:=id so
 have ty:s.TypeIs (.ref D) "set":=⟨o,ho,hex.1⟩
 have hSlt:=Heap.lt_size hS
 unfold Builtin.List.listExtendWith
 refine wpAny_bind (wpAny_typeOf (T:="set") ty ?_)
 have h1:Builtin.List.listSameRef (.ref S) (.ref D)=false:=by simp [Builtin.List.listSameRef,hSD]
 simp only [h1,show (Value.type "set" == Value.type "list")=false by decide,show (Value.type "set" == Value.type "tuple")=false by decide,Bool.or_false,Bool.false_eq_true,if_false]
 refine wpAny_bind (aNu (A:=A.in1) hh so tab hn fun I fp order St hI dr kpI W st hfp hI1 hperm=>?_)
 have hSf:S∉fp:=fun z=>(hfp S z).elim hSD fun z=>absurd hSlt (Nat.not_lt.mpr z)
 have hSI:hI.get? S=some { cls:=.type "list",data:=.seq #[] }:=kpI _ _ hS
 have key:∀(h:Heap) (c₁ tk:Nat),St 0 h→(∀b o,b≠S→s.heap.get? b=some o→h.get? b=some o)→h.get? S=some { cls:=.type "list",data:=.seq #[] c₁ } →
   codeAny (model prog w) A (.builtin "list.extend.loop" ⟨[.ref S,.ref I,res],[]⟩) R { s with heap:=h,toks:=tk,drawn:=dr }:=fun h c₁ tk hst hk hS₁=>by
  refine codeAny_extend_loopS W.toS (Nat.le_trans hn (by decide)) S hSf res es.size 0 _ #[] c₁ rfl (Nat.zero_le _) hst hS₁ (ItemsOf.nil _) fun s' acc' c' hm hS' hacc=>?_
  rw [Moved.eq_with hm]
  refine hR s'.heap s'.toks dr acc' c' order (fun b o hb e=>hm.heap b o (fun hmem=>?_) (hk b o hb e)) hS' hperm ?_
  ·rcases List.mem_cons.mp hmem with e'|hmem
   ·exact hb e'
   ·rw [List.mem_singleton.mp hmem] at e
    exact absurd (Heap.lt_size e) (Nat.not_lt.mpr hI1)
  ·have ol:order.length=es.size:=by rw [hperm.length_eq,Array.length_toList]
   refine List.ext_getElem? fun j=>?_
   rw [Array.getElem?_toList]
   by_cases hj:j<acc'.size
   ·rw [Array.getElem?_eq_getElem hj]
    exact (hacc.2 j _ (Array.getElem?_eq_getElem hj)).symm
   ·rw [Array.getElem?_eq_none (by lia),List.getElem?_eq_none (by rw [List.length_map,ol,←hacc.1];lia)]
 refine wpAny_bind (wpAny_holding (aPh (s:={ s with heap:=hI,drawn:=dr }) ⟨o,kpI _ _ ho,hex.1⟩ ?_))
 refine wpAny_ite_split (fun _=>?_) (fun _=>wpAny_pure ⟨plainId_quiet F.plain_extend_loop _,key hI _ _ st (fun b o _ e=>kpI b o e) hSI⟩)
 refine wpAny_bind (wpAny_rule (wpAny_bind ?_))
 show wpAny _ _ (updateSeq S (·.push .none) >>= fun _=>updateSeq S (·.pop)) _ _ _
 refine wpAny_bind (wpAny_updateSeq hSI rfl ?_)
 have hS₂:=Heap.get?_update_self (Obj.mapSeq (·.push Value.none)) hSI rfl
 refine wpAny_updateSeq (hz:=by seq_fits) hS₂ rfl ?_
 have hS₃:=Heap.get?_update_self (Obj.mapSeq (·.pop)) hS₂ rfl
 have oth:∀b o,b≠S→hI.get? b=some o→((hI.update S (Obj.mapSeq (·.push Value.none))).update S (Obj.mapSeq (·.pop))).get? b=some o:=fun b o hb e=>(Heap.get?_update_other _ _ (Ne.symm hb)).trans ((Heap.get?_update_other _ _ (Ne.symm hb)).trans e)
 exact wpAny_pure ⟨plainId_quiet F.plain_extend_loop _,key _ _ _ (W.frame 0 _ _ st fun b hb o e=>oth b o (fun z=>hSf (z ▸ hb)) e) (fun b o hb e=>oth b o hb (kpI b o e)) hS₃⟩
end
end PySem
namespace PySem
open PySem.Calls PyProof.Rows
section
variable {prog:Program} {w:World} {κ:Type} [DecidableEq κ] {knd:PySem.KeyKind prog w κ} {A:Around} {E:Value→Shared→Prop} {s:Shared}
theorem aE6 {D:Addr} {kl:List κ} {R:List Value→Shared→Prop} (hh:A.handled=none) (hS:mK knd s.heap D kl) (hn:kl.length≤1000)
  (h:∀h' tk dr acc kl',(∀b o,s.heap.get? b=some o→h'.get? b=some o)→kl'.Perm kl→Paired (fun k v=>knd.is k v=true) kl' acc→R acc { s with heap:=h',toks:=tk,drawn:=dr }):wpAny (model prog w) A (collect (.ref D)) R E s:=by
 obtain ⟨o,es,ep,t,ho,hex,hd,hf,tab,pr⟩:=hS
 have hlt:=Heap.lt_size ho
 have hsz:es.size≤1000:=by rw [←Array.length_toList,←Paired.length pr];exact hn
 unfold collect
 refine wpAny_bind (wpAny_runValue (codeAny_builtin entry_proto_collect' ?_))
 rw [Around.under_plainId PySem.F.plain_proto_collect _]
 show wpAny _ A.in1 (newList [] >>= fun l=>again (.builtin "list.__iadd__" ⟨[l,.ref D],[]⟩)) _ _ s
 refine wpAny_bind (wpAny_newObj_type (wpAny_pure ⟨plainId_quiet PySem.F.plain_list_iadd _,codeAny_builtin entry_list_iadd' ?_⟩))
 rw [Around.under_plainId PySem.F.plain_list_iadd _]
 have hS₁:(s.heap.push { cls:=.type "list",data:=.seq ([]:List Value).toArray }).get? s.heap.objs.size=some { cls:=.type "list",data:=.seq #[] }:=Heap.get?_push_size _ rfl
 show wpAny _ A.in1 (Builtin.List.listExtendWith (.ref s.heap.objs.size) (.ref D) (.ref s.heap.objs.size)) _ _ _
 have key:=aH5 (prog:=prog) (w:=w) (A:=A) (s:={ s with heap:=s.heap.push { cls:=.type "list",data:=.seq ([]:List Value).toArray } })
  (R:=fun (q:Result) (s':Shared)=>∃(h':Heap) (tk:Nat) (dr:Drawn) (acc:Array Value) (c:Nat) (order:List (Int × Value)),q=.ok (.ret (.ref s.heap.objs.size))∧s'={ s with heap:=h',toks:=tk,drawn:=dr }∧(∀b o,s.heap.get? b=some o→h'.get? b=some o)∧h'.get? s.heap.objs.size=some { cls:=.type "list",dict:=none,data:=.seq acc c,slots:=#[] }∧order.Perm es.toList∧acc.toList=order.map (·.2))
  hh ⟨o,Heap.get?_push_of_some _ ho,hex,hd,hf⟩ tab hsz s.heap.objs.size (Nat.ne_of_gt hlt) (.ref s.heap.objs.size) hS₁
  (fun h' tk dr acc c order hk hS' hp ha=>⟨h',tk,dr,acc,c,order,rfl,rfl,fun b o e=>hk b o (Nat.ne_of_lt (Heap.lt_size e)) (Heap.get?_push_of_some _ e),hS',hp,ha⟩)
 have fin:∀(h':Heap) (tk:Nat) (dr:Drawn) (acc:Array Value) (c:Nat) (order:List (Int × Value)),(∀b o,s.heap.get? b=some o→h'.get? b=some o)→h'.get? s.heap.objs.size=some { cls:=.type "list",dict:=none,data:=.seq acc c,slots:=#[] }→order.Perm es.toList→acc.toList=order.map (·.2) →
   wpAny (model prog w) A (load s.heap.objs.size >>= fun o=>match o.data with|.seq xs _=>pure xs.toList|_=>unsupported "internal:collect") R E { s with heap:=h',toks:=tk,drawn:=dr }:=fun h' tk dr acc c order hk hS' hp ha=>by
  refine wpAny_bind (wpAny_load hS' (wpAny_pure ?_))
  obtain ⟨kl',pr',pm⟩:=vW hp pr
  refine h h' tk dr acc.toList kl' hk pm ?_
  rw [ha]
  clear hp ha pm
  induction pr' with
  |nil=>exact .nil
  |cons r _ ih=>exact .cons r.1 ih
 refine wpAny_mono key (fun fn s' x=>?_) fun e s' x=>?_
 ·cases fn with
  |done f=>
   obtain ⟨h',tk,dr,acc,c,order,e,rfl,hk,hS',hp,ha⟩:=x
   cases e
   exact fin h' tk dr acc c order hk hS' hp ha
  |again c₁=>
   refine ⟨x.1,codeAny_mono x.2 fun q s₂ y=>?_⟩
   obtain ⟨h',tk,dr,acc,c,order,rfl,rfl,hk,hS',hp,ha⟩:=y
   exact fin h' tk dr acc c order hk hS' hp ha
 ·obtain ⟨_,_,_,_,_,_,e',_⟩:=x
  cases e'
end
end PySem
namespace L2
open PySem PySem.Spec PyProof.Rows PySem.Calls
section
variable {prog:Program} {w:World} {A:Around} {E:Value→Shared→Prop} {s:Shared}
theorem aMv {kl:List Key} {acc:List Value} (h:Paired (fun k v=>(bC prog w).is k v=true) kl acc) (hi:∀k∈kl,∃n,k=Sum.inl n):∃ns:List Int,kl=ns.map Sum.inl∧IntsAre acc ns:=by
 induction h with
 |nil=>exact ⟨[],rfl,.nil⟩
 |@cons k v kl acc r _ ih=>
  obtain ⟨ns,rfl,h2⟩:=ih fun k hk=>hi k (List.mem_cons_of_mem _ hk)
  obtain ⟨n,rfl⟩:=hi k List.mem_cons_self
  rcases cD (show oA (Sum.inl n) v=true from r) with ⟨i,t,e,rfl⟩|⟨x,t,e,_⟩
  ·cases e;exact ⟨n::ns,rfl,.cons n t h2⟩
  ·cases e
theorem aL7 {kl:List Key} {acc:List Value} (h:Paired (fun k v=>(bC prog w).is k v=true) kl acc) (hi:∀k∈kl,∃n,k=Sum.inr n):∃ns:List Str,kl=ns.map Sum.inr∧StrsAre acc ns:=by
 induction h with
 |nil=>exact ⟨[],rfl,.nil⟩
 |@cons k v kl acc r _ ih=>
  obtain ⟨ns,rfl,h2⟩:=ih fun k hk=>hi k (List.mem_cons_of_mem _ hk)
  obtain ⟨n,rfl⟩:=hi k List.mem_cons_self
  rcases cD (show oA (Sum.inr n) v=true from r) with ⟨i,t,e,_⟩|⟨x,t,e,rfl⟩
  ·cases e
  ·cases e;exact ⟨n::ns,rfl,.cons n t h2⟩
def ltK:Key→Key→Prop
 |.inl a,.inl b=>a<b
 |.inr a,.inr b=>a.cps.toList<b.cps.toList
 |_,_=>False
theorem aBk:∀(l:List Str) (p:Str),risingS p l=true→∀x∈l,¬ x.cps.toList<p.cps.toList
 |[],_,_,x,hx=>by cases hx
 |y::r,p,h,x,hx=>by
  unfold risingS at h
  rw [Bool.and_eq_true,ltCps_eq,Bool.not_eq_true',decide_eq_false_iff_not] at h
  rcases List.mem_cons.mp hx with rfl|hx
  ·exact h.1
  ·intro z
   have h2:=aBk r y h.2 x hx
   exact h.1 (List.lt_of_le_of_lt (show y.cps.toList≤x.cps.toList from h2) z)
theorem uE:∀(l:List Str) (p:Str),risingS p l=true→l.Nodup→l.Pairwise fun a b=>a.cps.toList<b.cps.toList
 |[],_,_,_=>.nil
 |y::r,p,h,nd=>by
  unfold risingS at h
  rw [Bool.and_eq_true] at h
  rw [List.nodup_cons] at nd
  refine .cons (fun x hx=>?_) (uE r y h.2 nd.2)
  have h1:=aBk r y h.2 x hx
  rcases Classical.em (y.cps.toList<x.cps.toList) with z|z
  ·exact z
  ·exfalso
   have e:y.cps.toList=x.cps.toList:=List.le_antisymm h1 z
   have:y=x:=by
    cases y;cases x
    exact congrArg Str.mk (Array.toList_inj.mp e)
   exact nd.1 (this ▸ hx)
theorem yU {vs:List Value} {ns:List Int} (h:IntsAre vs ns):Vals ((ns.map Sum.inl).map kV) vs:=by
 induction h with
 |nil=>exact .nil
 |cons n t _ ih=>exact .cons ⟨t,rfl⟩ ih
theorem xU {vs:List Value} {ns:List Str} (h:StrsAre vs ns):Vals ((ns.map Sum.inr).map kV) vs:=by
 induction h with
 |nil=>exact .nil
 |cons n t _ ih=>exact .cons ⟨t,rfl⟩ ih
theorem tX {α β:Type} {f:α→β} {l:List α} (h:(l.map f).Nodup):l.Nodup:=List.Pairwise.imp (fun hab e=>hab (congrArg f e)) (List.pairwise_map.mp h)
theorem aIn {D:Addr} {kl:List Key} {Q:Value→Shared→Prop} (hh:A.handled=none) (hS:mK (bC prog w) s.heap D kl) (hn:kl.length≤60) (nd:kl.Nodup) (hi:(∀k∈kl,∃n,k=Sum.inl n)∨∀k∈kl,∃n,k=Sum.inr n)
  (q:∀(h1 h':Heap) (tk:Nat) (dr:Drawn) (B:Addr) (vs:List Value) (ks:List Key) (e:Nat),Vals (ks.map kV) vs→ks.Perm kl→ks.Pairwise ltK→h'.get? B=some (seqObj "list" vs.toArray e)→(∀b o,s.heap.get? b=some o→h1.get? b=some o)→(∀b o,h1.get? b=some o→h'.get? b=some o)→h1.objs.size≤B→Q (.ref B) { s with heap:=h',toks:=tk,drawn:=dr }) :
  wpAny (model prog w) A (call (.builtin "sorted") [.ref D]) Q E s:=by
 refine call_function_entry kind_sorted plain_sorted entry_sorted (args_sorted1 _) ?_
 unfold Builtin.«sorted»
 refine wpAny_bind (m:=checkCount "sorted" 1 1 _) (wpAny_pure (wpAny_bind (aE6 (A:=A.in1) hh hS (by lia) fun h' tk dr acc kl' hk pm hp=>?_)))
 have hl:acc.length=kl.length:=by rw [←Paired.length hp,pm.length_eq]
 have nd':kl'.Nodup:=pm.nodup_iff.mpr nd
 have h64:acc.length<64:=by lia
 refine wpAny_bind (wpAny_newList ?_ (by rw [sizeLine_eq];lia))
 have hoL:(h'.push (seqObj "list" acc.toArray 0)).get? h'.objs.size=some (seqObj "list" acc.toArray 0):=Heap.get?_push_size _ rfl
 have fin:∀(out:Array Value) (ks:List Key),Vals (ks.map kV) out.toList→ks.Perm kl'→ks.Pairwise ltK→Q (.ref h'.objs.size) { s with heap:=sortedHeap (h'.push (seqObj "list" acc.toArray 0)) h'.objs.size acc out,toks:=tk,drawn:=dr }:=fun out ks hv pk pw=>by
  obtain ⟨e,he⟩:=sortedHeap_at (out:=out) hoL
  refine q h' _ tk dr h'.objs.size out.toList ks e hv (pk.trans pm) pw (by rw [Array.toArray_toList];exact he) hk (fun b o hb'=>?_) (Nat.le_refl _)
  have hlt:=Heap.lt_size hb'
  rw [sortedHeap_old (Nat.ne_of_lt hlt) (by rw [size_push'];exact Nat.lt_succ_of_lt hlt)]
  exact Heap.get?_push_of_some _ hb'
 rcases hi with hi|hi
 ·obtain ⟨ns,rfl,hI⟩:=aMv hp fun k hk=>hi k (pm.mem_iff.mp hk)
  refine wpAny_bind (wpAny_holding (wpAny_call_entry slot_list_sort ⟨_,hoL,rfl⟩ entry_list_sort (list_sort_tree hoL hI h64 fun out ns' a1 a2 a3=>⟨_,rfl,wpAny_pure ⟨_,rfl,fin out (ns'.map Sum.inl) (yU a1) (a2.map _) ?_⟩⟩) (args_list_sort _)))
  rw [List.pairwise_map]
  have n2:ns'.Nodup:=a2.nodup_iff.mpr (tX nd')
  refine (List.pairwise_and_iff.mpr ⟨a3,n2⟩).imp fun {a b} ⟨h1,h2⟩=>?_
  show a<b
  lia
 ·obtain ⟨ns,rfl,hI⟩:=aL7 hp fun k hk=>hi k (pm.mem_iff.mp hk)
  refine wpAny_bind (wpAny_holding (wpAny_call_entry slot_list_sort ⟨_,hoL,rfl⟩ entry_list_sort (list_sort_treeK strKind_oneLt hoL hI.keysOf (fun v₁ v₂ rest e=>keyKind_strs (by rw [←e];exact hI)) h64 fun st' a1 a2=>⟨_,rfl,wpAny_pure ⟨_,rfl,?_⟩⟩) (args_list_sort _)))
  obtain ⟨ss',b1,b2,b3⟩:=sorted_out_str hI a1 a2
  refine fin _ (ss'.map Sum.inr) (xU b1) (b2.map _) ?_
  rw [List.pairwise_map]
  have n2:ss'.Nodup:=b2.nodup_iff.mpr (tX nd')
  cases ss' with
  |nil=>exact .nil
  |cons y r=>
   have:=uE (y::r) y (by unfold risingS;rw [Bool.and_eq_true,ltCps_eq];exact ⟨by simpa using List.lt_irrefl _,b3⟩) n2
   exact this
end
def aPq (P:Program) (w:World) (D:Addr) (kl:List Key):HO:=.ext fun h=>mK (bC P w) h D kl
section
variable {X:Cx} {pins:List (Addr × Obj)} {σ:L2.St} {H:Hp} {s:Shared}
theorem Inv.drew (I:Inv X pins σ H s) (dr:Drawn):Inv X pins σ H { s with drawn:=dr }:=⟨I.ok,I.os,I.bare,I.base,I.loc,I.cell,I.free,I.freeC,I.pin,I.hok,I.len⟩
def aWy (P:Program) (w:World) (K:PySem.W.Frag):List V→Hp→VK→Prop:=fun xs H Q=>∃(p:Addr) (ks:List Key),xs=[.ref p]∧SqL K H p (ks.map kV)∧ks.length≤4∧∀D H' kl,H D=none→Same H H'→H' D=some (aPq P w D kl)→Ded kl ks→Q (.ref D) H'
theorem aRu {k:Key} {v:Value} (h:RelV (kV k) v):(bC X.prog X.w).is k v=true∧v.scannable=true:=by
 cases k with
 |inl n=>obtain ⟨t,rfl⟩:=h;exact ⟨aCc n t,rfl⟩
 |inr n=>obtain ⟨t,rfl⟩:=h;exact ⟨aB2 n t,rfl⟩
theorem aMe (hc:X.calm=true):bW X (.type "set") (aWy X.prog X.w X.K):=by
 intro pins s σ H xs us Q I r h
 obtain ⟨p,ks,rfl,hq,hl,q⟩:=h
 obtain ⟨u,rfl,rx⟩:=r.one
 cases rx
 obtain ⟨its,rv,pl,hz⟩:=I.list hq
 have hlen:=rv.length
 rw [List.length_map] at hlen
 refine aL6 (knd:=bC X.prog X.w) (ks:=ks) (I.ok.hd hc) pl.isList (by rw [List.size_toArray];exact hlen) (fun i v hv=>?_) (by rw [List.size_toArray,←hlen];exact hl) fun h' tk kl x dd kp=>?_
 ·have hv':its[i]?=some v:=by simpa using hv
  have hi:i<ks.length:=by rw [hlen];exact (List.getElem?_eq_some_iff.mp hv').1
  obtain ⟨u,hu,ru⟩:=rv.get (i:=i) (x:=kV ks[i]) (by rw [List.getElem?_map,List.getElem?_eq_getElem hi];rfl)
  rw [hv'] at hu
  cases hu
  exact ⟨ks[i],List.getElem?_eq_getElem hi,aRu ru⟩
 ·have e:∃o,h'.get? s.heap.objs.size=some o:=by
   obtain ⟨o,_,_,_,ho,_⟩:=x
   exact ⟨o,ho⟩
  have hf:H s.heap.objs.size=none:=I.hok.fresh (Nat.le_refl _)
  exact ⟨.ref s.heap.objs.size,_,I.laid (t':=tk) (o:=aPq X.prog X.w s.heap.objs.size kl) (fun b o eo=>kp b o (Heap.lt_size eo) eo) (Nat.le_refl _) (show mK (bC X.prog X.w) h' s.heap.objs.size kl∧_∧_ from ⟨x,e,fun h1 h2 y k=>y.at k⟩),rfl,q _ _ kl hf (aW hf _) aK dd⟩
def aOg (P:Program) (w:World):List V→Hp→VK→Prop:=fun xs H Q=>∃(D:Addr) (kl:List Key),xs=[.ref D]∧H D=some (aPq P w D kl)∧kl.length≤60∧kl.Nodup∧((∀k∈kl,∃n,k=Sum.inl n)∨∀k∈kl,∃n,k=Sum.inr n) ∧
 ∀(B:Addr) (H':Hp) (ks:List Key),H B=none→Same H H'→H' B=some (.lst (ks.map kV))→ks.Perm kl→ks.Pairwise ltK→Q (.ref B) H'
theorem aCv (hc:X.calm=true):bW X (.builtin "sorted") (aOg X.prog X.w):=by
 intro pins s σ H xs us Q I r h
 obtain ⟨D,kl,rfl,hD,hl,nd,hi,q⟩:=h
 obtain ⟨u,rfl,rx⟩:=r.one
 cases rx
 have x:mK (bC X.prog X.w) s.heap D kl:=(I.hok D _ hD).1
 refine aIn (I.ok.hd hc) x hl nd hi fun h1 h' tk dr B vs ks e hv pm pw ho k1 k2 hB=>?_
 have I1:Inv X pins σ H { s with heap:=h1,toks:=tk }:=I.kept (t':=tk) k1
 have I2:=I1.drew dr
 have hf:H B=none:=I2.hok.fresh hB
 have lk:ks.length≤60:=by rw [pm.length_eq];exact hl
 exact ⟨.ref B,_,I2.laid (t':=tk) (o:=.lst (ks.map kV)) k2 hB ⟨small (by rw [List.length_map];lia),vs,e,hv,ho⟩,rfl,q B _ ks hf (aW hf _) aK pm pw⟩
end
end L2
namespace My
open PySem PySem.Spec PyProof.Rows L2
section
variable {P:Program} {w:World} {K:PySem.W.Frag} {mg:Str→Option Value} {base:Heap}
theorem aCe {X:Cx} {scope:Scope} {x y z:Str} {σ:L2.St} {u v:V} (i j:Nat) (hf:(y,NameKind.free)∈scope.names) (hg:(z,NameKind.free)∈scope.names) (hi:X.N[i]?=some y) (hj:X.N[j]?=some z) (hs:σ[i]?=some (some u)) (ht:σ[j]?=some (some v)) (hv:Vis X.env.scope y) (hw:Vis X.env.scope z):Cap X scope [x,y,z] σ [none,some u,some v]:=
 ⟨rfl,fun n q r h1 h2=>by
  match n,h1,h2 with
  |0,_,h2=>cases h2
  |1,h1,h2=>cases h1;cases h2;exact ⟨hf,i,hi,hs,hv⟩
  |2,h1,h2=>cases h1;cases h2;exact ⟨hg,j,hj,ht,hw⟩
  |n+3,h1,_=>cases h1⟩
theorem bU.fx {a:Addr} {H H':Hp} {D:Addr} {rs:List (List V)} (f:Fx a H H') (h:eN H a) (hD:D≠a) (r:bU K H D rs):bU K H' D rs:=by
 obtain ⟨us,h1,h2⟩:=r
 exact ⟨us,f.same _ _ hD h1,h2.imp fun _ _ ⟨p,e,hp⟩=>⟨p,e,f.bB h hp⟩⟩
theorem aC9 {n i:Nat} {x:V} (e:((List.range n).map fun i:Nat=>V.int (0+(i:Int)))[i]?=some x):i<n∧x=.int (0+(i:Int)):=by
 have hi:i<n:=by
  have:=(List.getElem?_eq_some_iff.mp e).1
  rw [List.length_map,List.length_range] at this
  exact this
 rw [List.getElem?_map,List.getElem?_range hi] at e
 exact ⟨hi,(Option.some.inj e).symm⟩
theorem yK {X:Cx} {scope:Scope} {N:List Str} {ta:TA} {te:TE} {tt:TT} {g:TG} {σ:L2.St} {H:Hp} {Q:VK} (σ0:L2.St) (cap:Cap X scope N σ σ0) (h:ta σ H fun vs H1=>∃j:Int,vs=[.int j]∧-(2 ^ 62)≤j∧j<2 ^ 62∧qU (Itr 0 j.toNat) H1 σ0 g tt te Q):iZ X scope N (aPj ta) g tt te σ H Q:=⟨σ0,cap,h⟩
theorem aJx {K:PySem.W.Frag} {H:Hp} {Pr:List V→Prop}:∀{ys:List V},(∀y∈ys,∃r,qL K H y r∧Pr r)→∃rs,bZ (qL K H) ys rs∧∀r∈rs,Pr r
 |[],_=>⟨[],.nil,fun r h=>by cases h⟩
 |y::ys,h=>by
  obtain ⟨r,h1,h2⟩:=h y List.mem_cons_self
  obtain ⟨rs,h3,h4⟩:=aJx (ys:=ys) fun z hz=>h z (List.mem_cons_of_mem _ hz)
  refine ⟨r::rs,.cons h1 h3,fun x hx=>?_⟩
  rcases List.mem_cons.mp hx with rfl|hx
  ·exact h2
  ·exact h4 x hx
theorem nY.tk {H H':Hp} {v:V} {c:V × Int} (e:TK K H H') (h:nY K H v c):nY K H' v c:=by
 obtain ⟨p,rfl,hp⟩:=h
 exact ⟨p,rfl,e _ _ hp⟩
theorem wV.tk {H H':Hp} {v:V} {pl:Plc} (e:TK K H H') (h:wV K H v pl):wV K H' v pl:=by
 cases pl with
 |copies=>obtain ⟨a,rfl,ha⟩:=h;exact ⟨a,rfl,e _ _ ha⟩
 |keys n=>obtain ⟨a,rfl,ha⟩:=h;exact ⟨a,rfl,e _ _ ha⟩
 |spans n h0 cs=>obtain ⟨a,vc,rfl,ha,hc⟩:=h;exact ⟨a,vc,rfl,e _ _ ha,aKf e (fun _ _ z=>z.tk e) hc⟩
theorem aKc {k:Str}:∀{ys:List V},(∀y∈ys,dH k y)→∃ks:List Key,ys=ks.map kV∧∀x∈ks,dH k (kV x)
 |[],_=>⟨[],rfl,fun x h=>by cases h⟩
 |y::ys,h=>by
  obtain ⟨ks,e,hk⟩:=aKc (ys:=ys) fun z hz=>h z (List.mem_cons_of_mem _ hz)
  have hy:=h y List.mem_cons_self
  obtain ⟨x,rfl⟩:∃x,y=kV x:=by
   cases hy with
   |num=>exact ⟨.inl _,rfl⟩
   |wrd _ _=>exact ⟨.inr _,rfl⟩
  refine ⟨x::ks,by rw [e];rfl,fun z hz=>?_⟩
  rcases List.mem_cons.mp hz with rfl|hz
  ·exact hy
  ·exact hk z hz
theorem aMc {k:Str} {ks:List Key} (h:∀x∈ks,dH k (kV x)):(∀x∈ks,∃n,x=Sum.inl n)∨∀x∈ks,∃n,x=Sum.inr n:=by
 by_cases hk:k = "number"
 ·refine .inl fun x hx=>?_
  cases x with
  |inl n=>exact ⟨n,rfl⟩
  |inr n=>
   have:=h _ hx
   rw [hk] at this
   generalize hv:kV (Sum.inr n)=v at this
   generalize hkk:("number":Str)=k0 at this
   cases this with
   |num=>cases hv
   |wrd _ _=>exact absurd hkk (by decide)
 ·refine .inr fun x hx=>?_
  cases x with
  |inr n=>exact ⟨n,rfl⟩
  |inl n=>
   have:=h _ hx
   generalize hv:kV (Sum.inl n)=v at this
   cases this with
   |num=>exact absurd rfl hk
   |wrd _ _=>cases hv
theorem aTr {a b:Key} (h:ltK a b):vlt (kV a) (kV b)=true:=by
 cases a <;> cases b <;> first|exact decide_eq_true h|exact absurd h id
def vV (K:PySem.W.Frag):Sp:=fun vs H Q _=>∃(a:Addr) (vh:V) (hd:Hdr) (m:Int),vs=[.ref a,vh,.int m]∧eN H a∧jT K H vh hd∧aMw hd∧1≤m∧m≤6∧∀vp H' pl,Fx a H H'→wV K H' vp pl→aQ6 hd m pl→Q vp H'
theorem wJ (T:Txt w K mg) (aQ:Ok P w K mg base 1 "_law_next" ["_law_state","_law_many"] kI) (mJ:Ok P w K mg base 3 "_law_value" ["_law_state","_law_kind"] aD4):Ok P w K mg base 4 "_law_placing" ["_law_state","_law_head_here","_law_houses"] (vV K):=by
 refine Ok.ofV T.yN cI (fun vs H Q E h=>?_) (fun f cdv A outer s H vs Q E hr h=>?_)
 ·obtain ⟨a,vh,hd,m,rfl,_⟩:=h;rfl
 obtain ⟨a,vh,hd,m,rfl,hs,hI,hok,m1,m6,q⟩:=h
 have l8:=hok.1.2.2
 refine ⟨_,(aF (bA (i:=3) cI.nd rfl (by trivial) (aV (aQ.mono (by decide)) hr (by rfl) (aD (vv 0) (aD aG aC)))) (aF (cR (bY gA (vv 3) aG (bM _)) (aJ (aP (cL (aD bF aC)))) bJ) (aF (zK (aZ cA (vv 1) (aV (aQ.mono (by decide)) hr (by rfl) (aD (vv 0) (aD (aR bH (by rfl) T.gQ dY (aD (vv 1) aC)) aC))) (fun _ _=>rfl)) (rJ rfl (bI (aU (i:=4) cI.nd rfl (by trivial)) (bI (aU (i:=5) cI.nd rfl (by trivial)) fJ)))) (aF (cR (bY gA (vv 3) aG (bM _)) (aJ (aP (cL (aD bF (aD (vv 4) aC))))) bJ) (aF (aCu (i0:=6) cI.nd rfl (by trivial) (N:=["_law_k","_law_state","_law_kind"]) (by trivial) (gJ (aH gC) rfl (by decide +kernel)) rfl (eO (by rfl) T.iI (aD (aV (aQ.mono (by decide)) hr (by rfl) (aD (vv 0) (aD aG aC))) aC)) (fun cl s' H' fp=>⟨(aU (i:=0) (show (["_law_k","_law_state","_law_kind"]:List Str).Nodup from by decide +kernel) rfl (Or.inl rfl)),dD,(aV (mJ.mono (by decide)) hr (by rfl) (aD (vv 1) (aD (vv 2) aC)))⟩)) (aF (bA (i:=7) cI.nd rfl (by trivial) (cY (aD (cL (aD aNi (aD (aV (aQ.mono (by decide)) hr (by rfl) (aD (vv 0) (aD (vv 2) aC))) aC))) aC))) (aF (eV PassesOwn.never rfl (fK (aR (aCv rfl) (by rfl) T.tQ pW (aD (cC (aMe rfl) (by rfl) T.aS6 aN8 (aD (vv 6) aC)) aC))) (aU (i:=8) cI.nd rfl (by trivial)) (aJ (cW (lW PySem.F.plainAttrs_list PySem.F.slot_list_append PySem.F.type_list_append dO (vv 7) (aD (cL (aD (vv 8) (aD (aV (aQ.mono (by decide)) hr (by rfl) (aD (vv 0) (aD (vv 2) aC))) aC))) aC))))) (aJ (aP (cL (aD bF (aD (vv 4) (aD (cC oO (by rfl) T.iK eX (aD (vv 7) aC)) aC))))))))))))),?_⟩
 refine ⟨_,rfl,a,3,rfl,hs,by decide,fun way H1 f1 w0 w1=>?_⟩
 refine ⟨_,rfl,rfl,_,rfl,?_⟩
 cases decide (V.int way=V.int 0) with
 |true=>
  exact dW ⟨by show 1≤sizeLine;decide,fun t H2 _ s2 g2=>q _ H2 .copies (f1.sm s2) ⟨t,rfl,SqT.of g2⟩ trivial⟩
 |false=>
 refine cB ?_
 have hI1:=hI.tk (f1.tk (K:=K) hs)
 obtain ⟨b,us,rfl,hb,hu⟩:=id hI1
 have lu:=hu.len
 have l1:=hok.1.2.1
 refine ⟨_,rfl,_,rfl,_,rfl,b,us,rfl,.inr hb,a,_,rfl,f1.st,⟨by lia,by lia⟩,fun z H2 f2 z0 z1=>?_⟩
 have f12:=f1.trans f2
 obtain ⟨zi,rfl⟩:∃zi:Nat,z=zi:=⟨z.toNat,by lia⟩
 have hz:zi<us.length:=by lia
 obtain ⟨c,hc,pc,epc,hpc⟩:=dF hu (List.getElem?_eq_getElem hz)
 refine ⟨b,us,_,.ref pc,rfl,rfl,f2.bB f1.st hb,fP (by rw [List.getElem?_eq_getElem hz,epc]),?_⟩
 have hcm:=List.mem_of_getElem? hc
 have lk:=aOm hok.1.1 hcm
 obtain ⟨nmc,kdc⟩:=hok.2 c hcm
 refine ⟨pc,_,rfl,f2.bB f1.st hpc,rfl,_,_,rfl,_,_,rfl,rfl,?_⟩
 refine ⟨_,rfl,rfl,_,rfl,?_⟩
 cases decide (V.int way=V.int 1) with
 |true=>
  exact dW ⟨_,rfl,by show 2≤sizeLine;decide,fun t H3 _ s3 g3=>q _ H3 (.keys c.1) (f12.sm s3) ⟨t,rfl,SqT.of g3⟩ ⟨nmc,c.2,lk⟩⟩
 |false=>
 refine cB ?_
 dsimp only [tW,aGb,aBb]
 refine yK [none,some (.ref a),some (.str c.2)] (aCe 0 5 (by decide +kernel) (by decide +kernel) rfl rfl rfl rfl (by trivial) (by trivial)) ?_
 refine ⟨_,rfl,a,5,rfl,f2.st,by decide,fun z H5 f5 z0 z1=>?_⟩
 refine ⟨z,rfl,by lia,by lia,?_⟩
 refine aN3 (Fx a) (aPd f5.st) ((List.range z.toNat).map fun i:Nat=>V.int (0+(i:Int))) (fun _=>true) (fun _ _ y=>dH c.2 y) (fun _ _ h=>h) (fun _ _ _ h=>h) (fun i σ=>∃x,σ=[some x,some (.ref a),some (.str c.2)]) (fun σ=>∃l,σ=[l,some (.ref a),some (.str c.2)]) ⟨none,rfl⟩ (small (by rw [List.length_map,List.length_range];lia)) (Itr 0 z.toNat) (fun H' i x _ ex=>?_) (fun H' _=>?_) (fun i x σ' H' Q' ex ps f' r=>?_) (fun i x σ2 ex at2 H' R f' r=>r H' (Fx.refl f'.st)) (fun i x σ2 ex at2 _ H' R f' r=>?_) fun L H6 ys f6 fL gL hys=>?_
 ·obtain ⟨hi,rfl⟩:=aC9 ex
  exact ⟨hi,fun y H2 hy=>hy⟩
 ·show z.toNat≤_
  rw [List.length_map,List.length_range];exact Nat.le_refl _
 ·obtain ⟨l,rfl⟩:=ps
  exact r _ ⟨some x,rfl⟩ ⟨x,rfl⟩
 ·obtain ⟨x',rfl⟩:=at2
  exact ⟨_,rfl,_,rfl,a,c.2,rfl,f'.st,kdc,fun v H2 f2 hv=>r v H2 f2 hv⟩
 rw [uH,List.length_map,List.length_range] at hys
 obtain ⟨ly,hy⟩:=rO hys
 have f16:=f12.trans (f5.trans f6)
 obtain ⟨ks,rfl,hks⟩:=aKc (k:=c.2) (ys:=ys) fun y hm=>by
  obtain ⟨i,hi⟩:=List.mem_iff_getElem?.mp hm
  exact hy i y hi
 rw [List.length_map] at ly
 have nLa:L≠a:=f5.st.ne fL
 refine ⟨_,rfl,_,rfl,a,m,rfl,f6.st,⟨by lia,by lia⟩,fun h0 H7 f7 h00 h01=>?_⟩
 refine ⟨by show 2≤sizeLine;decide,fun t1 H8 _ s8 g8=>⟨by show 1≤sizeLine;decide,fun C H9 hC s9 g9=>?_⟩⟩
 have f17:=f16.trans f7
 have f19:=(f17.sm s8).sm s9
 have gL9:=s9 _ _ (s8 _ _ (f7.same _ _ nLa gL))
 refine ⟨_,rfl,L,ks,rfl,SqL.of gL9,by lia,fun D H10 kl hND s10 gD ded=>?_⟩
 have hkl:∀x∈kl,dH c.2 (kV x):=fun x hx=>hks x ((ded.2.1 x).mp hx)
 have lkl:=ded.2.2
 refine ⟨D,kl,rfl,gD,by lia,ded.1,aMc hkl,fun B H11 ks' hNB s11 gB perm pw=>?_⟩
 have lks:=perm.length_eq
 have hC0:H C=none:=f17.free (none_of s8 hC)
 have nCa:C≠a:=hs.ne hC0
 have f111:=(f19.sm s10).sm s11
 have gC11:=s11 _ _ (s10 _ _ g9)
 have hB0:H B=none:=f19.free (none_of s10 hNB)
 have nBa:B≠a:=hs.ne hB0
 have nBC:B≠C:=fun z=>by rw [z,s10 _ _ g9] at hNB;cases hNB
 have ht1:SqT K H11 t1 [.non,.int h0]:=s11.bB (s10.bB (s9.bB (SqT.of g8)))
 refine ⟨B,rfl,⟨_,SqL.of gB⟩,tH (xs:=ks'.map kV) (fun i σ H'=>Fx a H H'∧H' B=some (.lst (ks'.map kV))∧∃us' cs l,H' C=some (.lst us')∧bZ (nY K H') us' ((.non,h0)::cs)∧cs.map (·.1)=(ks'.take i).map kV∧(∀x∈cs,0≤x.2∧x.2<m)∧σ=[some (.ref a),some (.ref b),some (.int m),some (.int way),some (.str c.1),some (.str c.2),some (.ref L),some (.ref C),l]) ⟨f111,gB,_,[],none,gC11,.cons ⟨t1,rfl,ht1⟩ .nil,rfl,fun x hx=>(by cases hx),rfl⟩ (fun i σ H' _ p=>SqL.of p.2.1) (fun i x σ H' ex p=>?_) fun σ H' p=>?_⟩
 ·obtain ⟨fx,gB',us',cs,l,gC',hcu,ecs,hcb,rfl⟩:=p
  rw [List.getElem?_map] at ex
  obtain ⟨key,hkey,rfl⟩:=Option.map_eq_some_iff.mp ex
  have lcu:=hcu.len
  have lcs:cs.length≤4:=by
   have:=congrArg List.length ecs
   rw [List.length_map,List.length_map,List.length_take] at this
   lia
  rw [List.length_cons] at lcu
  refine ⟨_,rfl,.inl ⟨rfl,_,SqL.of gC'⟩,_,rfl,_,rfl,_,rfl,a,m,rfl,fx.st,⟨by lia,by lia⟩,fun hh H12 f12' hh0 hh1=>?_⟩
  refine ⟨by show 2≤sizeLine;decide,fun t2 H13 hN13 s13 g13=>?_⟩
  have gC13:=s13 _ _ (f12'.same _ _ nCa gC')
  have gB13:=s13 _ _ (f12'.same _ _ nBa gB')
  have ntC:t2≠C:=fun z=>by rw [z,f12'.same _ _ nCa gC'] at hN13;cases hN13
  refine ⟨C,_,_,rfl,rfl,gC13,dX (by lia),?_⟩
  refine ⟨((fx.trans f12').sm s13).upd hC0 nCa,by rw [aM nBC];exact gB13,us'++[.ref t2],cs++[(kV key,hh)],some (kV key),aK,?_,?_,fun x hx=>?_,rfl⟩
  ·rw [←List.cons_append]
   exact (hcu.imp fun _ _ ⟨p',ep,hp⟩=>⟨p',ep,(s13.bB (f12'.bB fx.st hp)).iC gC13⟩).app (.cons ⟨t2,rfl,SqT.of (by rw [aM ntC];exact g13)⟩ .nil)
  ·rw [List.map_append,ecs,List.take_add_one,hkey,List.map_append];rfl
  ·rcases List.mem_append.mp hx with hx|hx
   ·exact hcb x hx
   ·rw [List.mem_singleton] at hx
    subst hx
    exact ⟨hh0,hh1⟩
 ·obtain ⟨fx,gB',us',cs,l,gC',hcu,ecs,hcb,rfl⟩:=p
  rw [List.length_map,List.take_length] at ecs
  have lcs:cs.length=ks'.length:=by
   have:=congrArg List.length ecs
   rw [List.length_map,List.length_map] at this
   exact this
  refine ⟨_,rfl,_,rfl,C,us',rfl,SqL.of gC',fun t3 H12 _ s12 g12=>⟨by show 3≤sizeLine;decide,fun t4 H13 _ s13 g13=>?_⟩⟩
  refine q _ H13 (.spans c.1 h0 cs) ((fx.sm s12).sm s13) ⟨t4,.ref t3,rfl,SqT.of g13,t3,us',rfl,s13.bB (SqT.of g12),hcu.imp fun _ _ z=>z.same (s12.trans s13)⟩ ⟨nmc,c.2,lk,kdc,⟨h00,h01⟩,fun x hx=>⟨?_,hcb x hx⟩,?_,by lia⟩
  ·have:x.1∈cs.map (·.1):=List.mem_map_of_mem hx
   rw [ecs] at this
   obtain ⟨key,hk1,hk2⟩:=List.mem_map.mp this
   rw [←hk2]
   exact hkl key (perm.mem_iff.mp hk1)
  ·rw [ecs]
   exact List.pairwise_map.mpr (pw.imp fun h=>aTr h)
theorem eU.fx {a:Addr} {H H':Hp} {d:Addr} {es:List En} (f:Fx a H H') (h:eN H a) (hd:d≠a) (hL:∀e∈es,e.L≠a) (hE:eU K H d es):eU K H' d es:=by
 refine ⟨f.same _ _ hd hE.at_,hE.nd,hE.few,hE.nm,fun e he=>?_⟩
 obtain ⟨t,ev,ht,h1,h2,h3⟩:=hE.tb e he
 exact ⟨t,ev,f.bB h ht,h1.tk (f.tk h),h2.tk (f.tk h),h3.fx f h (hL e he)⟩
theorem tZ {κ:Type} [DecidableEq κ] {kvs:List (κ × V)} {k:κ} {v:V} (h:∀kv∈kvs,kv.1≠k):putK kvs k v=kvs++[(k,v)]:=by
 unfold putK
 rw [if_neg]
 intro z
 obtain ⟨kv,h1,h2⟩:=List.any_eq_true.mp z
 exact h kv h1 (of_decide_eq_true h2)
theorem yR {n:Nat} (h:n<1000):n<sizeLine:=Nat.lt_of_lt_of_le h (by decide)
def aE8 (K:PySem.W.Frag):Sp:=fun vs H Q _=>∃(a N:Addr) (ns:List Str),vs=[.ref a,.ref N,.int 12]∧eN H a∧H N=some (.lst (ns.map V.str))∧N≠a∧tL ns∧∀t d (m:Int) es H',Fx a H H'→SqT K H' t [.int m,.ref d]→H d=none→1≤m→m≤6→eU K H' d es→(∀e∈es,rA m e.t∧e.t.rows.length≤12∧H e.L=none)→2≤es.length→es.length≤3→Q (.ref t) H'
theorem aDo (T:Txt w K mg) (aQ:Ok P w K mg base 1 "_law_next" ["_law_state","_law_many"] kI) (aEk:Ok P w K mg base 2 "_law_head" ["_law_state","_law_names_here"] (aFo K)) (aAj:Ok P w K mg base 4 "_law_placing" ["_law_state","_law_head_here","_law_houses"] (vV K)) (mQ:Ok P w K mg base 4 "_law_row" ["_law_state","_law_head_here"] (aDj K)):Ok P w K mg base 5 "_law_town" ["_law_state","_law_names_here","_law_most"] (aE8 K):=by
 refine Ok.ofV T.aEw dR (fun vs H Q E h=>?_) (fun f cdv A outer s H vs Q E hr h=>?_)
 ·obtain ⟨a,N,ns,rfl,_⟩:=h;rfl
 obtain ⟨a,N,ns,rfl,hs,hN,nN,hn,q⟩:=h
 have hu:=aFj hr
 refine ⟨_,(aF (bA (i:=3) dR.nd rfl (by trivial) (bO eG aG (aV (aQ.mono (by decide)) hr (by rfl) (aD (vv 0) (aD aG aC))))) (aF (bA (i:=4) dR.nd rfl (by trivial) aE2) (aF (eV PassesOwn.never rfl (eO (by rfl) T.iI (aD (bO eG aG (aV (aQ.mono (by decide)) hr (by rfl) (aD (vv 0) (aD aG aC)))) aC)) (aU (i:=5) dR.nd rfl (by trivial)) (aF (bA (i:=6) dR.nd rfl (by trivial) (aV (aEk.mono (by decide)) hr (by rfl) (aD (vv 0) (aD (vv 1) aC)))) (aF (bA (i:=7) dR.nd rfl (by trivial) (aV (aAj.mono (by decide)) hr (by rfl) (aD (vv 0) (aD (vv 6) (aD (vv 3) aC))))) (aF (aCu (i0:=8) dR.nd rfl (by trivial) (N:=["_law_j","_law_state","_law_head_here"]) (by trivial) (gJ (aH kJ) rfl (by decide +kernel)) rfl (eO (by rfl) T.iI (aD (aV (aQ.mono (by decide)) hr (by rfl) (aD (vv 0) (aD (bO eG (vv 2) aG) aC))) aC)) (fun cl s' H' fp=>⟨(aU (i:=0) (show (["_law_j","_law_state","_law_head_here"]:List Str).Nodup from by decide +kernel) rfl (Or.inl rfl)),dD,(aV (mQ.mono (by decide)) hr (by rfl) (aD (vv 1) (aD (vv 2) aC)))⟩)) (aJ (aKr hu (vv 4) (aZ dU (vv 1) (vv 5) (fun _ _=>rfl)) (cL (aD (vv 6) (aD (vv 7) (aD (vv 8) aC)))))))))) (aJ (aP (cL (aD (vv 3) (aD (vv 4) aC)))))))),?_⟩
 have l17:=hn.1
 refine ⟨_,rfl,a,4,rfl,hs,by decide,fun z H1 f1 z0 z1=>⟨_,_,rfl,rfl,fun d H2 hd0 s2 g2=>?_⟩⟩
 have f2:=f1.sm s2
 have hd0':H d=none:=f1.free hd0
 have nda:d≠a:=hs.ne hd0'
 refine ⟨_,rfl,a,2,rfl,f2.st,by decide,fun z2 H3 f3 z20 z21=>⟨_,_,rfl,rfl,?_⟩⟩
 have f03:=f2.trans f3
 have g3:=f3.same _ _ nda g2
 have m1:1≤1+z:=by lia
 have m6:1+z≤6:=by lia
 refine ⟨2+z2,rfl,by lia,by lia,?_⟩
 obtain ⟨n,en⟩:∃n:Nat,(2+z2).toNat=n:=⟨_,rfl⟩
 rw [en]
 refine iH (n:=n) (fun i σ H'=>Fx a H H'∧∃es l5 l6 l7 l8,eU K H' d es∧(∀e∈es,rA (1+z) e.t∧e.t.rows.length≤12∧H e.L=none)∧es.map (·.n)=ns.take i∧σ=[some (.ref a),some (.ref N),some (.int 12),some (.int (1+z)),some (.ref d),l5,l6,l7,l8]) ⟨f03,[],none,none,none,none,⟨g3,List.nodup_nil,Nat.zero_le _,fun e h=>(by cases h),fun e h=>(by cases h)⟩,fun e h=>(by cases h),rfl,rfl⟩ (fun i σ H' hi p=>?_) fun σ H' p=>?_
 ·obtain ⟨fx,es,l5,l6,l7,l8,hE,hes,enm,rfl⟩:=p
  have hN':=fx.same _ _ nN hN
  refine ⟨_,rfl,_,rfl,a,N,ns,rfl,fx.st,hN',nN,hn,fun vh H5 hd f5 hI hok _=>?_⟩
  refine ⟨_,rfl,_,rfl,_,rfl,a,vh,hd,1+z,rfl,f5.st,hI,hok,m1,m6,fun vp H6 pl f6 hpl plok=>?_⟩
  have hI6:=hI.tk (f6.tk (K:=K) f5.st)
  dsimp only [cJ,aGb,aBb]
  refine yK [none,some (.ref a),some vh] (aCe 0 6 (by decide +kernel) (by decide +kernel) rfl rfl rfl rfl (by trivial) (by trivial)) ?_
  refine ⟨_,rfl,_,rfl,_,_,rfl,rfl,a,_,rfl,f6.st,(by show (0:Int)<12+1∧(12:Int)+1<2 ^ 64;decide),fun y H7 f7 y0 y1=>?_⟩
  have y1:y<12+1:=y1
  refine ⟨y,rfl,by lia,by lia,?_⟩
  have hI7:=hI6.tk (f7.tk (K:=K) f6.st)
  refine aN3 (Fx a) (aPd f7.st) ((List.range y.toNat).map fun i:Nat=>V.int (0+(i:Int))) (fun _=>true) (fun _ H' y=>∃r,qL K H' y r∧xR hd r) (fun f1 f2 ⟨r,⟨p,e,hp⟩,h⟩=>⟨r,⟨p,e,f2.bB f1.st hp⟩,h⟩) (fun _ _ gD ⟨r,⟨p,e,hp⟩,h⟩=>⟨r,⟨p,e,SqT.iC gD hp⟩,h⟩) (fun i σ=>∃x,σ=[some x,some (.ref a),some vh]) (fun σ=>∃l,σ=[l,some (.ref a),some vh]) ⟨none,rfl⟩ (small (by rw [List.length_map,List.length_range];lia)) (Itr 0 y.toNat) (fun H' i x _ ex=>?_) (fun H' _=>?_) (fun i x σ' H' Q' ex ps f' r=>?_) (fun i x σ2 ex at2 H' R f' r=>r H' (Fx.refl f'.st)) (fun i x σ2 ex at2 _ H' R f' r=>?_) fun L H8 ys f8 fL gL hys=>?_
  ·obtain ⟨hi,rfl⟩:=aC9 ex
   exact ⟨hi,fun y H2 hy=>hy⟩
  ·show y.toNat≤_
   rw [List.length_map,List.length_range];exact Nat.le_refl _
  ·obtain ⟨l,rfl⟩:=ps
   exact r _ ⟨some x,rfl⟩ ⟨x,rfl⟩
  ·obtain ⟨x',rfl⟩:=at2
   exact ⟨_,rfl,_,rfl,a,vh,hd,rfl,f'.st,hI7.tk (f'.tk f7.st),hok,fun t H2 r' f2 g2 hk=>r _ H2 f2 ⟨r',⟨t,rfl,SqT.of g2⟩,hk⟩⟩
  rw [uH,List.length_map,List.length_range] at hys
  obtain ⟨ly,hy⟩:=rO hys
  obtain ⟨rows,hrow,hkd⟩:=aJx (ys:=ys) fun y hm=>by
   obtain ⟨i,hi⟩:=List.mem_iff_getElem?.mp hm
   exact hy i y hi
  have lrow:=hrow.len
  have f68:=f7.trans f8
  have fx8:=(fx.trans f5).trans (f6.trans f68)
  have hL0:H L=none:=(fx.trans f5).free (f6.free (f7.free fL))
  refine ⟨_,rfl,_,rfl,_,rfl,by show 3≤sizeLine;decide,fun t H9 ht0 s9 g9=>?_⟩
  have hix:i<ns.length:=by lia
  have hN9:=s9 _ _ (fx8.same _ _ nN hN)
  have hE8:eU K H8 d es:=hE.fx ((f5.trans f6).trans f68) fx.st nda fun e he=>hs.ne (hes e he).2.2
  have hE9:=hE8.same s9
  have lE:es.length=i:=by
   have:=congrArg List.length enm
   rw [List.length_map,List.length_take] at this
   lia
  refine ⟨_,rfl,_,rfl,_,rfl,N,_,_,.str ns[i],rfl,rfl,SqL.of hN9,?_,d,_,rfl,aK4.k (k:=Sum.inr ns[i]) hE9.at_ (by rw [iQ];exact yR (by lia)),?_⟩
  ·rw [Int.zero_add]
   exact fP (by rw [List.getElem?_map,List.getElem?_eq_getElem hix];rfl)
  have tk:ns.take (i+1)=ns.take i++[ns[i]]:=by rw [List.take_add_one,List.getElem?_eq_getElem hix];rfl
  have nd1:(ns.take (i+1)).Nodup:=hn.2.2.sublist (List.take_sublist _ _)
  have nin:∀e∈es,e.n≠ns[i]:=fun e he z=>by
   rw [tk,←enm] at nd1
   exact (List.nodup_append.mp nd1).2.2 _ (List.mem_map_of_mem he) _ List.mem_cons_self z
  obtain ⟨en1,een⟩:∃en1:En,(⟨ns[i],.ref t,vh,vp,L,⟨hd,pl,rows⟩⟩:En)=en1:=⟨_,rfl⟩
  have ek:putK (enK es) (Sum.inr ns[i]) (.ref t)=enK (es++[en1]):=by
   rw [tZ fun kv hkv=>by
    unfold enK at hkv
    obtain ⟨e,he,rfl⟩:=List.mem_map.mp hkv
    exact fun z=>nin e he (Sum.inr.inj z)]
   unfold enK
   rw [List.map_append,←een]
   rfl
  rw [ek]
  have nz:cG H9 d:=cG.dK hE9.at_
  have bz:But d H9 (L2.upd H9 d (.dK (enK (es++[en1])))):=But.upd
  have tb1:mW K H9 en1.v en1.vh en1.vp en1.L en1.t:=by
   rw [←een]
   exact ⟨t,rfl,SqT.of g9,(hI6.tk (f68.tk f6.st)).same s9,(hpl.tk (f68.tk f6.st)).same s9,ys,s9 _ _ gL,hrow.imp fun _ _ z=>z.same s9⟩
  refine ⟨(fx8.sm s9).upd hd0' nda,es++[en1],_,_,_,_,⟨aK,?_,?_,fun e he=>?_,fun e he=>?_⟩,fun e he=>?_,?_,rfl⟩
  ·rw [List.map_append,enm,←een]
   show (ns.take i++[ns[i]]).Nodup
   rw [←tk]
   exact nd1
  ·rw [List.length_append];show es.length+1≤60;lia
  ·rcases List.mem_append.mp he with he|he
   ·exact hE9.nm e he
   ·rw [List.mem_singleton] at he
    rw [he,←een]
    exact hn.2.1 _ (List.getElem_mem hix)
  ·rcases List.mem_append.mp he with he|he
   ·exact bz.tb nz (hE9.tb e he)
   ·rw [List.mem_singleton] at he
    rw [he]
    exact bz.tb nz tb1
  ·rcases List.mem_append.mp he with he|he
   ·exact hes e he
   ·rw [List.mem_singleton] at he
    rw [he,←een]
    exact ⟨⟨hok,plok,by show rows.length≤60;lia,hkd⟩,by show rows.length≤12;lia,hL0⟩
  ·rw [List.map_append,enm,tk,←een];rfl
 ·obtain ⟨fx,es,l5,l6,l7,l8,hE,hes,enm,rfl⟩:=p
  have lE:es.length=n:=by
   have:=congrArg List.length enm
   rw [List.length_map,List.length_take] at this
   lia
  exact ⟨_,rfl,_,rfl,by show 2≤sizeLine;decide,fun t H5 _ s5 g5=>q t d (1+z) es H5 (fx.sm s5) (SqT.of g5) hd0' m1 m6 (hE.same s5) hes (by lia) (by lia)⟩
end
end My
namespace L2
open PySem PySem.Spec PyProof.Rows
end L2
namespace PySem.SeqAt
open PySem PySem.Spec
end PySem.SeqAt
namespace L2
open PySem PySem.Spec PyProof.Rows
section
variable {X:Cx}
theorem aJq {K:PySem.W.Frag} {H:Hp}:∀{r:List V},(∀x∈r,(∃i,x=.int i)∨∃z,x=.str z)→∀n,Al2 (DEq K H n) r r
 |[],_,_=>.nil
 |x::r,h,n=>.cons (by rcases h x List.mem_cons_self with ⟨i,rfl⟩|⟨z,rfl⟩ <;> cases n <;> first|exact ⟨rfl,rfl⟩|exact .inl ⟨rfl,rfl⟩) (aJq (fun y hy=>h y (List.mem_cons_of_mem _ hy)) n)
theorem aO8 {K:PySem.W.Frag} {H:Hp} {us ws:List V} {rs:List (List V)} (h1:Al2 (qL K H) us rs) (h2:Al2 (qL K H) ws rs) (hf:∀r∈rs,∀x∈r,(∃i,x=.int i)∨∃z,x=.str z):Al2 (DEq K H 40) us ws:=by
 refine Al2.of (h1.len.trans h2.len.symm) fun i u w e1 e2=>?_
 obtain ⟨r,er,a,rfl,ha⟩:=h1.at e1
 obtain ⟨r',er',b,rfl,hb⟩:=h2.at e2
 rw [er] at er'
 cases er'
 exact .inr ⟨a,b,r,r,rfl,rfl,ha,hb,aJq (hf r (List.mem_of_getElem? er)) 39⟩
end
end L2
namespace PySem
section
variable {prog:Program} {w:World} {κ:Type} [DecidableEq κ] {knd:KeyKind prog w κ} {A:Around} {E:Value→Shared→Prop} {s:Shared}
open PySem.Spec PySem.Calls PyProof.Rows L2
end
end PySem
namespace L2
open PySem PySem.Spec PyProof.Rows
section
variable {X:Cx}
def aQu:V→List V→Hp→VK→Prop:=fun x vs H Q=>∃d kvs,x=.ref d∧vs=[]∧H d=some (.dK kvs)∧Q .non (upd H d (.dK []))
theorem aM2:MtR X "dict.clear" aQu:=by
 intro pins s σ H x vs v us Q I rx rv h
 obtain ⟨d,kvs,rfl,rfl,hd,q⟩:=h
 cases rx
 cases rv
 exact aQo I hd fun s' I'=>⟨.non,_,I',rfl,q⟩
end
def EqW (P:Program) (w:World) (A:Around) (s:Shared) (y x:Value):Prop:=∀E Q,Q true s→wpAny (model P w) A (eqBool y x) Q E s
theorem EqW.of {P:Program} {w:World} {A:Around} {s:Shared} {y x:Value} (h:SeqAt.EqAt A s y x true):EqW P w A s y x:=fun E Q q=>h P w E Q q
theorem EqW.refs {P:Program} {w:World} {A:Around} {s:Shared} {a b:Addr} (ne:a≠b) (h:∀E Q,Q (.bool true) s→wpAny (model P w) A (richCompare .Eq (.ref a) (.ref b)) Q E s):EqW P w A s (.ref a) (.ref b):=fun E Q q=>by
 unfold eqBool
 refine wpAny_holding (wpAny_ite_split (fun z=>?_) fun _=>wpAny_bind (h E _ (wpAny_truthy_bool q)))
 exact absurd (by have:=eq_of_beq z;injection this) ne
section
variable {P:Program} {w:World}
open AutoSeq1 (wpAny_loadPart')
open MeetsSeq MeetsSeq2 MeetsSeq3
theorem aP8 {a b:Addr} {xs ys:Array Value} {na nb:Nat} {da db:Option Addr} {sa sb:Array (Option Value)} (sz:xs.size=ys.size) (k:Nat):∀i:Nat,xs.size - i=k→MeetsIn P w (Builtin.«list.__eq__.loop» ⟨[.ref a,.ref b,rawInt i,rawInt 3],[]⟩)
  (fun A R s=>s.heap.get? a=some ⟨.type "list",da,.seq xs na,sa⟩∧s.heap.get? b=some ⟨.type "list",db,.seq ys nb,sb⟩∧(∀j (h1:j<xs.size) (h2:j<ys.size),EqW P w A.in1 s xs[j] ys[j])∧R (.ok (.ret (.bool false))) s):=by
 induction k with
 |zero=>
  rintro i hk A R ⟨hp,g,d,tk,os⟩ ⟨ha,hb,he,r⟩
  wp_walk using wpAny_loadPart' ha,wpAny_loadPart' hb
  have e1:xs[((i:Nat):Int).toNat]?=none:=by rw [Int.toNat_natCast];exact Array.getElem?_eq_none (by lia)
  have e2:ys[((i:Nat):Int).toNat]?=none:=by rw [Int.toNat_natCast];exact Array.getElem?_eq_none (by lia)
  rw [e1,e2]
  wp_walk using wpAny_loadPart' ha,wpAny_loadPart' hb
  show R (.ok (.ret (.bool (xs.size != ys.size)))) _
  have e3:(xs.size != ys.size)=false:=by rw [sz];exact bne_self_eq_false _
  rw [e3]
  exact r
 |succ k ih=>
  rintro i hk A R ⟨hp,g,d,tk,os⟩ ⟨ha,hb,he,r⟩
  wp_walk using wpAny_loadPart' ha,wpAny_loadPart' hb
  have l1:i<xs.size:=by lia
  have l2:i<ys.size:=by lia
  have e1:xs[((i:Nat):Int).toNat]?=some xs[i]:=by rw [Int.toNat_natCast];exact Array.getElem?_eq_getElem l1
  have e2:ys[((i:Nat):Int).toNat]?=some ys[i]:=by rw [Int.toNat_natCast];exact Array.getElem?_eq_getElem l2
  rw [e1,e2]
  refine wpAny_bind (he i l1 l2 _ _ ?_)
  wp_walk
  rw [show (i:Int)+1=((i+1:Nat):Int) from rfl]
  refine ⟨plainId_quiet plain_eq_loop _,codeAny_builtin entry_eq_loop ?_⟩
  rw [Around.under_plainId plain_eq_loop _]
  exact ih (i+1) (by lia) A R _ ⟨ha,hb,he,r⟩
theorem aN6 {a b:Addr} {xs ys:Array Value} {na nb:Nat} {da db:Option Addr} {sa sb:Array (Option Value)} (sz:xs.size=ys.size):MeetsIn P w (Builtin.«list.__ne__» ⟨[.ref a,.ref b],[]⟩)
  (fun A R s=>s.heap.get? a=some ⟨.type "list",da,.seq xs na,sa⟩∧s.heap.get? b=some ⟨.type "list",db,.seq ys nb,sb⟩∧(∀j (h1:j<xs.size) (h2:j<ys.size),EqW P w A.in1 s xs[j] ys[j])∧R (.ok (.ret (.bool false))) s):=by
 rintro A R ⟨hp,g,d,tk,os⟩ ⟨ha,hb,he,r⟩
 have f3:=AutoSeq1.sub_list_list
 have n3:¬ (xs.size != ys.size)=true:=by rw [sz,bne_self_eq_false];exact Bool.false_ne_true
 wp_walk using wpAny_loadPart' ha,wpAny_loadPart' hb
 refine ⟨plainId_quiet plain_eq_loop _,codeAny_builtin entry_eq_loop ?_⟩
 rw [Around.under_plainId plain_eq_loop _]
 exact aP8 sz _ 0 rfl A R _ ⟨ha,hb,he,r⟩
theorem neW {A:Around} {E:Value→Shared→Prop} {Q:Value→Shared→Prop} {s:Shared} {a b:Addr} {xs ys:Array Value} (ha:s.heap.IsList a xs) (hb:s.heap.IsList b ys) (sz:xs.size=ys.size) (hu:A.units<cLine) (he:∀j (h1:j<xs.size) (h2:j<ys.size),EqW P w A.in1 s xs[j] ys[j]) (q:Q (.bool false) s):wpAny (model P w) A (compareOp .NotEq (.ref a) (.ref b)) Q E s:=by
 obtain ⟨⟨c1,d1,t1,s1⟩,g1,k1,n1,e1⟩:=ha
 obtain ⟨⟨c2,d2,t2,s2⟩,g2,k2,n2,e2⟩:=hb
 dsimp only at k1 e1 k2 e2
 subst k1 e1 k2 e2
 exact wpAny_richCompare_same_room (op:=.NotEq) ⟨_,g1,rfl⟩ ⟨_,g2,rfl⟩ F.slot_list_ne (call_meetsIn F.slot_list_ne ⟨_,g1,rfl⟩ F.entry_list_ne (F.args_list_ne_2 _ _) (aN6 sz) ⟨g1,g2,he,(⟨(fun z=>nomatch z),q⟩:Value.bool false≠.notImplemented∧Q (.bool false) s)⟩) hu
end
def DL (K:PySem.W.Frag) (H:Hp):Nat→V→V→Prop
 |0,x,y=>(∃a,x=.ref a∧y=.ref a)∨DEq K H 40 x y
 |n+1,x,y=>DL K H n x y∨∃a b xs ys,x=.ref a∧y=.ref b∧SqL K H a xs∧SqL K H b ys∧Al2 (DL K H n) xs ys
section
variable {X:Cx} {pins:List (Addr × Obj)} {σ:L2.St} {H:Hp} {s:Shared}
theorem aAb {R:V→V→Prop} {T:Value→Value→Prop} {xs ys:List V} {its jts:List Value} (rv:Vals xs its) (rw':Vals ys jts) (h:Al2 R xs ys) (ih:∀{x y v u},R x y→RelV x v→RelV y u→T v u):∀(j:Nat) (h1:j<its.toArray.size) (h2:j<jts.toArray.size),T its.toArray[j] jts.toArray[j]:=fun j h1 h2=>by
 have e1:=rv.length
 have hj1:j<xs.length:=by rw [List.size_toArray] at h1;lia
 obtain ⟨y,hy,d⟩:=h.at (List.getElem?_eq_getElem hj1)
 obtain ⟨u1,hu1,r1⟩:=rv.get (List.getElem?_eq_getElem hj1)
 obtain ⟨u2,hu2,r2⟩:=rw'.get hy
 have g1:its.toArray[j]=u1:=by
  rw [List.getElem_toArray]
  exact (List.getElem?_eq_some_iff.mp hu1).2
 have g2:jts.toArray[j]=u2:=by
  rw [List.getElem_toArray]
  exact (List.getElem?_eq_some_iff.mp hu2).2
 rw [g1,g2]
 exact ih d r1 r2
theorem sJ (I:Inv X pins σ H s):∀(n:Nat) {A:Around} {x y:V} {v u:Value},DL X.K H n x y→RelV x v→RelV y u→A.units+42+n<cLine→SeqAt.EqAt A s v u true
 |0,A,x,y,v,u,h,rv,ru,hu=>by
  rcases h with ⟨a,rfl,rfl⟩|h
  ·cases rv;cases ru;exact SeqAt.EqAt.same _
  ·exact aB9 I 40 h rv ru (by lia)
 |n+1,A,x,y,v,u,h,rv,ru,hu=>by
  rcases h with h|⟨a,b,xs,ys,rfl,rfl,ha,hb,h⟩
  ·exact sJ I n h rv ru (by lia)
  cases rv
  cases ru
  by_cases e:a=b
  ·subst e;exact SeqAt.EqAt.same _
  obtain ⟨its,r1,pl,_⟩:=I.list ha
  obtain ⟨jts,r2,pm,_⟩:=I.list hb
  have l:=h.len
  have l1:=r1.length
  have l2:=r2.length
  refine SeqAt.EqAt.of_refs e ?_
  have zz:=SeqAt.RcAt.lists (A:=A) (e:=fun _=>true) pl.isList pm.isList (by rw [List.size_toArray,List.size_toArray];lia) (by lia) (aAb r1 r2 h fun d q1 q2=>sJ I n d q1 q2 (by show A.units+1+42+n<cLine;lia))
  rw [tY] at zz
  exact zz
def aSf (K:PySem.W.Frag) (H:Hp) (p q:Key × V):Prop:=p.1=q.1∧DL K H 1 p.2 q.2
theorem aJn (I:Inv X pins σ H s) {A:Around} (hA:A.units+43<cLine) {kb:List (Key × Value)} (nd:(kb.map (·.1)).Nodup):∀{kvs kws:List (Key × V)} {ka kc:List (Key × Value)},Al2 (aSf X.K H) kvs kws→KV kvs ka→KV kws kc→(∀p∈kc,p∈kb)→PySem.W.KeqHits A s kb ka true
 |[],[],ka,_,_,r,_,_=>by cases r;exact .nil
 |p::kvs,q::kws,ka,kc,.cons h t,r,r',hm=>by
  cases r with
  |cons r1 rt=>
   rename_i x xt
   cases r' with
   |cons r1' rt'=>
    rename_i y yt
    obtain ⟨hk,hd⟩:=h
    obtain ⟨k1,v1⟩:=r1
    obtain ⟨k2,v2⟩:=r1'
    obtain ⟨x1,x2⟩:=x
    obtain ⟨y1,y2⟩:=y
    have e1:x1=p.1:=k1.symm
    have e2:y1=p.1:=k2.symm.trans hk.symm
    subst e1 e2
    exact PySem.W.KeqHits.hit (e:=true) (b:=true) (aGo nd (hm _ List.mem_cons_self)) (sJ I 1 hd v1 v2 hA) (aJn I hA nd t rt rt' fun z hz=>hm z (List.mem_cons_of_mem _ hz))
def DW (K:PySem.W.Frag) (H:Hp) (x y:V):Prop:=DL K H 2 x y∨∃d e kvs kws,x=.ref d∧y=.ref e∧H d=some (.dK kvs)∧H e=some (.dK kws)∧Al2 (aSf K H) kvs kws
theorem aUa (I:Inv X pins σ H s) {A:Around} {x y:V} {v u:Value} (h:DW X.K H x y) (rv:RelV x v) (ru:RelV y u) (hA:A.units+45<cLine):EqW X.prog X.w A s v u:=by
 rcases h with h|⟨d,e,kvs,kws,rfl,rfl,hd,he,hr⟩
 ·exact .of (sJ I 2 h rv ru (by lia))
 cases rv
 cases ru
 by_cases z:d=e
 ·subst z;exact .of (SeqAt.EqAt.same _)
 refine .refs z fun E Q q=>?_
 obtain ⟨z,hm,vs,rel,dd⟩:=sV I.hok hd
 obtain ⟨z',hm',us,rel',de⟩:=sV I.hok he
 have nd:(us.map (·.1)).Nodup:=let ⟨_,_,_,_,_,_,_,_,hn⟩:=de;hn
 have l1:=KV.length rel
 have l2:=KV.length rel'
 have l3:=hr.len
 refine PySem.W.keq_eq (r:=true) hm hm' dd de (by lia) (fun _=>aJn I (show A.units+1+43<cLine by lia) nd hr rel rel' fun p hp=>hp) ?_
 have ez:(vs.length == us.length && true)=true:=by rw [show vs.length=us.length by lia];simp
 rw [ez]
 exact q
end
def aW3 (K:PySem.W.Frag):R2:=fun x y H Q=>∃(a b:Addr) (us ws:List V),x=.ref a∧y=.ref b∧SqL K H a us∧SqL K H b ws∧Al2 (DW K H) us ws∧Q (.bl false) H
theorem aM8 {X:Cx} (hu:X.A.units+64<cLine):OpR X (compareOp .NotEq) (aW3 X.K):=by
 intro pins s σ H x y v u Q I rx ry h
 obtain ⟨a,b,us,ws,rfl,rfl,ha,hb,hd,q⟩:=h
 cases rx
 cases ry
 obtain ⟨its,r1,pl,hz⟩:=I.list ha
 obtain ⟨jts,r2,pm,hw⟩:=I.list hb
 have l:=hd.len
 have l1:=r1.length
 have l2:=r2.length
 refine neW pl.isList pm.isList (by rw [List.size_toArray,List.size_toArray];lia) (by lia) (aAb r1 r2 hd fun d q1 q2=>aUa I d q1 q2 (by show X.A.units+1+45<cLine;lia)) ?_
 exact ⟨.bl _,H,I,rfl,q⟩
def aXh (K:PySem.W.Frag):R2:=fun x y H Q=>∃(a b:Addr) (us ws:List V),x=.ref a∧y=.ref b∧SqL K H a us∧SqL K H b ws∧Al2 (DL K H 2) us ws∧Q (.bl true) H
theorem aUd {X:Cx} (hu:X.A.units+64<cLine):OpR X (compareOp .Eq) (aXh X.K):=by
 intro pins s σ H x y v u Q I rx ry h
 obtain ⟨a,b,us,ws,rfl,rfl,ha,hb,hd,q⟩:=h
 cases rx
 cases ry
 obtain ⟨its,r1,pl,hz⟩:=I.list ha
 obtain ⟨jts,r2,pm,hw⟩:=I.list hb
 have l:=hd.len
 have l1:=r1.length
 have l2:=r2.length
 refine SeqAt.RcAt.lists (e:=fun _=>true) pl.isList pm.isList (by rw [List.size_toArray,List.size_toArray];lia) (by lia) (aAb r1 r2 hd fun d q1 q2=>sJ I 2 d q1 q2 (by show X.A.units+1+42+2<cLine;lia)) _ _ _ _ ?_
 first
  |(rw [tY];exact ⟨.bl _,H,I,rfl,q⟩)
  |(simp only [tY];exact ⟨.bl _,H,I,rfl,q⟩)
end L2
namespace PySem
namespace LR
theorem aVn:typeLookup (.type "list_reverseiterator") "__len__"=pure none:=by rw [typeLookup_type,builtinLookup_eq_fast];kernel_rfl
theorem aPw:typeLookup (.type "list_reverseiterator") "__length_hint__"=pure (some (.builtin "list_reverseiterator.__length_hint__")):=by rw [typeLookup_type,builtinLookup_eq_fast];kernel_rfl
end LR
section
variable {prog:Program} {w:World} {A:Around} {E:Value→Shared→Prop} {s:Shared}
open PySem.Calls PyProof.Rows
theorem aPr {r l:Addr} {i:Int} {Q:Bool→Shared→Prop} (hT:s.TypeIs (.ref r) "list_reverseiterator") (q:Q false s):wpAny (model prog w) A (Builtin.List.listLengthHint (.ref r)) Q E s:=by
 unfold Builtin.List.listLengthHint;refine wpAny_bind (wpAny_specialOf hT LR.aVn ?_)
 show wpAny _ _ (specialOf (Value.ref r) (Str.ofString "__length_hint__") >>= _) _ _ _
 refine wpAny_bind (wpAny_specialOf hT LR.aPw ?_)
 generalize hid:("list_reverseiterator.__length_hint__":String)=id0;wp_delta;rw [show splitId id0=some ("list_reverseiterator","__length_hint__") from by subst hid;decide +kernel];subst hid
 refine wpAny_bind (wpAny_isInstance (b:=true) hT (by rw [isSubtype_type];kernel_rfl) (wpAny_pure ?_))
 exact q
theorem aNh {I l:Addr} {xs:Array Value} {Q:Value→Shared→Prop} (hh:A.handled=none) (hit:s.heap.IsRevIter I l ((xs.size:Int) - 1)) (hl:s.heap.IsList l xs) (ne:l≠I) (hn:xs.size≤sizeLine)
  (q:∀h' tk acc c,(∀b o,b≠I→s.heap.get? b=some o→h'.get? b=some o)→h'.get? s.heap.objs.size=some ⟨.type "list",none,.seq acc c,#[]⟩→ItemsOf (fun i v=>xs[xs.size - 1 - i]?=some v) acc xs.size→Q (.ref s.heap.objs.size) { s with heap:=h',toks:=tk }) :
  wpAny (model prog w) A (call (.type "list") [.ref I]) Q E s:=by
 have iLt:I<s.heap.objs.size:=let ⟨o,ho,_⟩:=hit;Heap.lt_size ho
 have lLt:l<s.heap.objs.size:=let ⟨o,ho,_⟩:=hl;Heap.lt_size ho
 refine callType_codes (Q₁:=fun obj t=>obj=.ref s.heap.objs.size∧t={ s with heap:=s.heap.push ⟨.type "list",none,.seq #[] 0,#[]⟩ }) F.called_list (F.typeCall_list_1 _) F.entry_list_init (code_list_new _ ⟨rfl,rfl⟩) ?_
 rintro obj t ⟨rfl,rfl⟩
 have g0:(s.heap.push ⟨.type "list",none,.seq #[] 0,#[]⟩).get? s.heap.objs.size=some ⟨.type "list",none,.seq #[] 0,#[]⟩:=Heap.get?_push_size _ rfl
 refine ⟨⟨_,g0,rfl⟩,F.args_list_init_2 _ _,?_⟩
 refine wpAny_bind (m:=Builtin.List.listItems (.ref s.heap.objs.size)) ?_
 unfold Builtin.List.listItems;refine wpAny_bind (wpAny_seqItems g0 rfl (wpAny_pure ?_))
 refine wpAny_bind (m:=updateSeq s.heap.objs.size fun _=>#[]) (wpAny_updateSeq g0 rfl ?_)
 have g1:=Heap.get?_update_self (Obj.mapSeq (fun _=>(#[]:Array Value))) g0 rfl
 have k1:∀b o,b≠s.heap.objs.size→s.heap.get? b=some o→((s.heap.push ⟨.type "list",none,.seq #[] 0,#[]⟩).update s.heap.objs.size (Obj.mapSeq (fun _=>(#[]:Array Value)))).get? b=some o:=fun b o hb e=>(Heap.get?_update_other _ _ (Ne.symm hb)).trans (Heap.get?_push_of_some _ e)
 refine wpAny_bind (wpAny_letGo ?_)
 generalize (s.heap.push ⟨.type "list",none,.seq #[] 0,#[]⟩).update s.heap.objs.size (Obj.mapSeq (fun _=>(#[]:Array Value)))=h1 at g1 k1 ⊢
 have it1:h1.IsRevIter I l ((xs.size:Int) - 1):=hit.at fun o e=>k1 _ _ (Nat.ne_of_lt iLt) e
 have l1:h1.IsList l xs:=hl.at fun o e=>k1 _ _ (Nat.ne_of_lt lLt) e
 unfold Builtin.List.listExtendWith;refine wpAny_bind (wpAny_typeOf (T:="list_reverseiterator") (Heap.IsRevIter.typeIs (s:={ s with heap:=h1 }) it1) ?_)
 have e1:Builtin.List.listSameRef (.ref s.heap.objs.size) (.ref I)=false:=by simp only [Builtin.List.listSameRef];exact beq_eq_false_iff_ne.mpr (Nat.ne_of_gt iLt)
 rw [if_neg (by rw [e1];decide)]
 refine wpAny_bind (wpAny_pyIter_revIter (s:={ s with heap:=h1 }) it1 ?_)
 refine wpAny_bind (wpAny_holding (aPr (l:=l) (i:=0) (Heap.IsRevIter.typeIs (s:={ s with heap:=h1 }) it1) ?_))
 have W:=(Walks.listRev (prog:=prog) (w:=w) (A:=A.in1.in1) hh I l ne xs).toS
 have fin:∀(h2:Heap) (c:Nat),(∀b o,b≠s.heap.objs.size→h1.get? b=some o→h2.get? b=some o)→h2.get? s.heap.objs.size=some ⟨.type "list",none,.seq #[] c,#[]⟩→codeAny (model prog w) A.in1 (.builtin "list.extend.loop" ⟨[.ref s.heap.objs.size,.ref I,.none],[]⟩) (wants (fun r s'=>r=.none∧Q (.ref s.heap.objs.size) s') E) { s with heap:=h2 }:=fun h2 c k2 g2=>by
  refine codeAny_extend_loopS W hn _ (fun z=>?_) _ xs.size 0 _ #[] c rfl (Nat.zero_le _) ⟨Nat.zero_le _,?_,l1.at fun o e=>k2 _ _ (Nat.ne_of_lt lLt) e⟩ g2 (ItemsOf.nil _) fun s' acc c' hm g' ha=>?_
  ·simp only [List.mem_cons,List.not_mem_nil,or_false] at z
   rcases z with z|z
   ·rw [←z] at iLt;exact Nat.lt_irrefl _ iLt
   ·rw [←z] at lLt;exact Nat.lt_irrefl _ lLt
  ·rw [show (xs.size:Int) - 1 - ((0:Nat):Int)=(xs.size:Int) - 1 by lia]
   exact it1.at fun o e=>k2 _ _ (Nat.ne_of_lt iLt) e
  ·rw [Moved.eq_with hm]
   refine ⟨rfl,q s'.heap s'.toks acc c' (fun b o hb e=>hm.heap b o (fun z=>?_) (k2 b o (Nat.ne_of_lt (Heap.lt_size e)) (k1 b o (Nat.ne_of_lt (Heap.lt_size e)) e))) g' ha⟩
   rcases List.mem_cons.mp z with z|z
   ·exact absurd (Heap.lt_size e) (by rw [z];exact Nat.lt_irrefl _)
   ·exact hb (List.mem_singleton.mp z)
 refine wpAny_ite_split (fun _=>?_) (fun _=>wpAny_pure ⟨plainId_quiet F.plain_extend_loop _,fin h1 _ (fun b o _ e=>e) g1⟩)
 refine wpAny_bind (wpAny_rule (wpAny_bind ?_))
 show wpAny _ _ (updateSeq s.heap.objs.size (·.push .none) >>= fun _=>updateSeq s.heap.objs.size (·.pop)) _ _ _
 refine wpAny_bind (wpAny_updateSeq g1 rfl ?_)
 have g2:=Heap.get?_update_self (Obj.mapSeq (·.push Value.none)) g1 rfl
 refine wpAny_updateSeq (hz:=by seq_fits) g2 rfl ?_
 exact wpAny_pure ⟨plainId_quiet F.plain_extend_loop _,fin _ _ (fun b o hb e=>(Heap.get?_update_other _ _ (Ne.symm hb)).trans ((Heap.get?_update_other _ _ (Ne.symm hb)).trans e)) (Heap.get?_update_self (Obj.mapSeq (·.pop)) g2 rfl)⟩
end
end PySem
namespace L2
open PySem PySem.Spec PyProof.Rows
section
variable {X:Cx}
def aWr (K:PySem.W.Frag) (ta:TA):TE:=fun σ H Q=>ta σ H fun vs H1=>∃(a:Addr) (us:List V),vs=[.ref a]∧SqL K H1 a us∧us.length≤1000∧∀p H',H1 p=none→Same H1 H'→H' p=some (.lst us.reverse)→Q (.ref p) H'
theorem rU:∀{us:List V} {vs:List Value},us.length=vs.length→(∀(i:Nat) (u:V) (v:Value),us[i]?=some u→vs[i]?=some v→RelV u v)→Vals us vs
 |[],[],_,_=>.nil
 |u::us,v::vs,hl,h=>.cons (h 0 u v rfl rfl) (rU (Nat.succ.inj hl) fun i u v e1 e2=>h (i+1) u v (by simpa using e1) (by simpa using e2))
theorem aH7 {a:Expr} {ta:TA} {p p2 pos pos2:Pos} (hc:X.calm=true) (hg:Gl X "list") (hm:X.mg "list"=none) (hg2:Gl X "reversed") (hm2:X.mg "reversed"=none) (ha:VA X [a] ta) (hp:cO a=true:=by rfl)
  (he:starEach [.Call (.Name "reversed" p2) [a] [] pos2] X.env=[(false,eval (.Call (.Name "reversed" p2) [a] [] pos2) X.env)]:=by rfl):VE X (.Call (.Name "list" p) [.Call (.Name "reversed" p2) [a] [] pos2] [] pos) (aWr X.K ta):=⟨by
 intro pins s σ H Q I h
 refine wpAny_Call_Name_kw (lH I hg hm nQ ?_)
 refine PyProof.Rows.callWith_type1 ?_ he rfl
 rw [he]
 show wpAny _ _ (spliced ((false,eval (.Call (.Name "reversed" p2) [a] [] pos2) X.env)::backTo pos [])) _ _ s
 refine Calls.spliced_cons ?_
 refine wpAny_Call_Name_kw (lH I hg2 hm2 aF3 ?_)
 refine PyProof.Rows.callWith_type1 (thn (ha.1 pos2 pins s σ H _ I h) fun us s1 ⟨vs,H1,I1,r1,q1⟩=>?_) (aN hp) rfl
 obtain ⟨a,us,e,hl,hb,q⟩:=q1
 subst e
 obtain ⟨v,rfl,rv⟩:=vals1 r1
 cases rv
 obtain ⟨its,rv,pl,hz⟩:=I1.list hl
 have li:=rv.length
 refine call_reversed_list pl.isList ?_
 refine Calls.spliced_nil ?_
 have hlt:a<s1.heap.objs.size:=by obtain ⟨o,ho,_⟩:=pl.isList;exact Heap.lt_size ho
 have kp:∀b o,s1.heap.get? b=some o→(s1.heap.push (revObj a ((its.toArray.size:Int) - 1))).get? b=some o:=fun b o e=>Heap.get?_push_of_some _ e
 refine aNh (s:={ s1 with heap:=s1.heap.push (revObj a ((its.toArray.size:Int) - 1)) }) (I1.ok.hd hc) ⟨_,Heap.get?_push_size _ rfl,rfl,rfl⟩ (pl.isList.at fun o e=>kp _ _ e) (Nat.ne_of_lt hlt) (by rw [List.size_toArray];exact small (by lia)) fun h' tk acc c k g ha'=>?_
 have kp1:∀b o,s1.heap.get? b=some o→h'.get? b=some o:=fun b o e=>k b o (Nat.ne_of_lt (Heap.lt_size e)) (kp b o e)
 have hle:s1.heap.objs.size≤(s1.heap.push (revObj a ((its.toArray.size:Int) - 1))).objs.size:=by rw [Heap.size_push];exact Nat.le_succ _
 have hf:H1 (s1.heap.push (revObj a ((its.toArray.size:Int) - 1))).objs.size=none:=I1.hok.fresh hle
 have la:acc.toList.length=its.length:=by rw [Array.length_toList,ha'.1,List.size_toArray]
 have hv:Vals us.reverse acc.toList:=rU (by rw [List.length_reverse,la,li]) fun i u v e1 e2=>by
  have e3:=ha'.2 i v (by rw [←Array.getElem?_toList];exact e2)
  have hi:i<us.length:=by have:=(List.getElem?_eq_some_iff.mp e1).1;rwa [List.length_reverse] at this
  rw [List.getElem?_reverse hi] at e1
  obtain ⟨x,hx,r⟩:=rv.get e1
  rw [List.size_toArray,List.getElem?_toArray,←li] at e3
  rw [hx] at e3
  cases e3
  exact r
 refine ⟨.ref _,_,I1.laid (t':=tk) (o:=.lst us.reverse) kp1 hle ?_,rfl,q _ _ hf (aW hf _) aK⟩
 exact ⟨small (by rw [List.length_reverse];lia),acc.toList,c,hv,by rw [Array.toArray_toList];exact g⟩⟩
def aUn:List V→Hp→VK→Prop:=fun xs H Q=>∃(d:Addr) (kvs:List (Key × V)),xs=[.ref d]∧H d=some (.dK kvs)∧kvs.length≤1000∧∀(p:Addr) (H':Hp),H p=none→Same H H'→H' p=some (.lst (kvs.map fun kv=>kV kv.1))→Q (.ref p) H'
theorem aIf (hc:X.calm=true):bW X (.type "list") aUn:=by
 intro pins s σ H xs us Q I r h
 obtain ⟨d,kvs,rfl,hd,hb,q⟩:=h
 obtain ⟨u,rfl,ru⟩:=vals1 r
 cases ru
 obtain ⟨z,hm,vs,rel,dd⟩:=sV I.hok hd
 obtain ⟨ep,hat⟩:=dd.dictAt
 have lk:=KV.length rel
 refine PySem.W.kdl_call (PySem.W.kdl_dict (knd:=bC X.prog X.w) (kvs:=vs) (ep:=ep) hm) (I.ok.hd hc) hat (small (by lia)) fun h' tk acc c kp g ha'=>?_
 have hf:H s.heap.objs.size=none:=I.hok.fresh (Nat.le_refl _)
 refine ⟨.ref _,_,I.laid (t':=tk) (o:=.lst (kvs.map fun kv=>kV kv.1)) kp (Nat.le_refl _) ?_,rfl,q _ _ hf (aW hf _) aK⟩
 have la:acc.toList.length=vs.length:=Array.length_toList.trans ha'.1
 refine ⟨small (by rw [List.length_map];lia),acc.toList,c,rU (by rw [List.length_map,la];lia) fun i u v e1 e2=>?_,by rw [Array.toArray_toList];exact g⟩
 obtain ⟨k,x,e3,hi⟩:=ha'.2 i v (by rw [←Array.getElem?_toList];exact e2)
 rw [List.getElem?_map] at e1
 obtain ⟨kv,ek,rfl⟩:=Option.map_eq_some_iff.mp e1
 have ek':(kvs.map (·.1))[i]?=some kv.1:=by rw [List.getElem?_map,ek];rfl
 rw [KV.keys rel,List.getElem?_map,e3] at ek'
 cases ek'
 obtain ⟨k0,y0⟩:=kv
 cases k0 with
 |inl n=>
  cases v with
  |int m t=>
   have e:m=n:=by simpa [bC,oA,Value.isInt] using hi
   exact ⟨t,by rw [e]⟩
  |_=>exact absurd (show false=true from hi) Bool.false_ne_true
 |inr n=>
  cases v with
  |str m t=>
   have e:m=n:=by simpa [bC,oA,Value.isStrOf] using hi
   exact ⟨t,by rw [e]⟩
  |_=>exact absurd (show false=true from hi) Bool.false_ne_true
def aTc (K:PySem.W.Frag):R2:=fun x y H Q=>∃(a b:Addr) (us:List V),x=.ref a∧y=.ref b∧SqL K H a us∧SqL K H b []∧Q (.bl (!us.isEmpty)) H
theorem aO1 (hu':X.A.units+64<cLine):OpR X (compareOp .NotEq) (aTc X.K):=by
 intro pins s σ H x y v u Q I rx ry h
 have hu:X.A.units<cLine:=by lia
 obtain ⟨a,b,us,rfl,rfl,ha,hb,q⟩:=h
 cases rx
 cases ry
 obtain ⟨its,r1,pl,hz⟩:=I.list ha
 obtain ⟨jts,r2,pm,hw⟩:=I.list hb
 cases r2
 cases r1 with
 |nil=>
  refine SeqAt.RcNeAt.lists (e:=fun _=>true) pl.isList pm.isList rfl hu (fun j h1 h2=>by simp at h1) _ _ _ _ ?_
  exact ⟨.bl _,H,I,rfl,q⟩
 |cons r t=>exact SeqAt.RcNeAt.lists_lengths pl.isList pm.isList (by simp) hu _ _ _ _ ⟨.bl _,H,I,rfl,q⟩
def aWu:V→List V→Hp→VK→Prop:=fun x vs H Q=>∃d kvs k v,x=.ref d∧vs=[kV k]∧H d=some (.dK kvs)∧lY kvs k=some v∧Q v (upd H d (.dK (vZ kvs k)))
theorem aKd:MtR X "dict.pop" aWu:=by
 intro pins s σ H x vs v us Q I rx rv h
 obtain ⟨d,kvs,k,y,rfl,rfl,hd,hv,q⟩:=h
 cases rx
 obtain ⟨u,rfl,ru⟩:=vals1 rv
 exact aWv I hd ru hv (.inl rfl) fun w' s' I' rw'=>⟨y,_,I',rw',q⟩
end
end L2
namespace My
open PySem PySem.Spec PyProof.Rows L2
section
variable {P:Program} {w:World} {K:PySem.W.Frag} {mg:Str→Option Value} {base:Heap}
structure KP (K:PySem.W.Frag) (S:Addr→Prop) (H H':Hp):Prop where
 st:∀b o,S b→H b=some o→H' b=some o
 tk:TK K H H'
section
variable {S:Addr→Prop} {H H':Hp}
theorem KP.same (s:Same H H'):KP K S H H':=⟨fun b o _ h=>s b o h,.of s⟩
theorem KP.trans {H2:Hp} (k:KP K S H H') (l:KP K S H' H2):KP K S H H2:=⟨fun b o h e=>l.st b o h (k.st b o h e),fun p xs e=>l.tk p xs (k.tk p xs e)⟩
theorem KP.iC {D:Addr} {ys zs:List V} (hD:H D=some (.lst ys)) (n:¬ S D):KP K S H (L2.upd H D (.lst zs)):=⟨fun b o h e=>by have hb:b≠D:=fun z=>n (z ▸ h);rw [aM hb];exact e,fun p xs e=>SqT.iC hD e⟩
theorem KP.aU6 {D:Addr} {u:HO} (hD:cG H D) (n:¬ S D):KP K S H (L2.upd H D u):=⟨fun b o h e=>by have hb:b≠D:=fun z=>n (z ▸ h);rw [aM hb];exact e,fun p xs e=>But.bB But.upd hD e⟩
theorem KP.fx {a:Addr} (f:Fx a H H') (h:eN H a) (n:¬ S a):KP K S H H':=⟨fun b o hb e=>f.same b o (fun z=>n (z ▸ hb)) e,f.tk h⟩
theorem KP.mono {S':Addr→Prop} (k:KP K S H H') (h:∀b,S' b→S b):KP K S' H H':=⟨fun b o s e=>k.st b o (h b s) e,k.tk⟩
def RL (K:PySem.W.Frag) (S:Addr→Prop) (H:Hp) (L:Addr) (rs:List (List V)):Prop:=S L∧bU K H L rs
theorem bU.kp {L:Addr} {rs:List (List V)} (k:KP K S H H') (s:S L) (h:bU K H L rs):bU K H' L rs:=by
 obtain ⟨us,h1,h2⟩:=h
 exact ⟨us,k.st _ _ s h1,h2.imp fun _ _ ⟨p,e,hp⟩=>⟨p,e,k.tk _ _ hp⟩⟩
theorem RL.kp {L:Addr} {rs:List (List V)} (k:KP K S H H') (h:RL K S H L rs):RL K S H' L rs:=⟨h.1,h.2.kp k h.1⟩
theorem dI.kp {C x d:Addr} {m:Int} {es:List En} (k:KP K S H H') (sx:S x) (sd:S d) (sL:∀e∈es,S e.L) (h:dI K H C x m d es):dI K H' C x m d es:=by
 obtain ⟨⟨dx,h1⟩,h2,h3⟩:=h
 refine ⟨⟨dx,k.st _ _ sx h1⟩,⟨k.st _ _ sd h2.at_,h2.nd,h2.few,h2.nm,fun e he=>?_⟩,h3⟩
 obtain ⟨a,ev,ha,c1,c2,c3⟩:=h2.tb e he
 exact ⟨a,ev,k.tk _ _ ha,c1.tk k.tk,c2.tk k.tk,c3.kp k (sL e he)⟩
def aR7 (K:PySem.W.Frag) (S:Addr→Prop) (H:Hp) (q:Addr) (m:Int) (e:En):Prop:=S q∧∃Ls:List Addr,H q=some (.lst (Ls.map V.ref))∧Ls.length=m.toNat∧∀(i:Nat) L,Ls[i]?=some L→RL K S H L (e.t.rows.filter fun r=>fW e.t.hd m r (0+(i:Int)) e.t.pl)
def TE1 (K:PySem.W.Frag) (S:Addr→Prop) (H:Hp) (m:Int) (e:En) (p:V × V):Prop:=∃a q Lw,p=(.ref a,.ref q)∧S a∧H a=some (.lst [e.vp,.ref Lw])∧RL K S H Lw e.t.rows∧aR7 K S H q m e
theorem TE1.kp {m:Int} {e:En} {p:V × V} (k:KP K S H H') (h:TE1 K S H m e p):TE1 K S H' m e p:=by
 obtain ⟨a,q,Lw,rfl,sa,ha,h1,sq,Ls,hq,hl,h2⟩:=h
 exact ⟨a,q,Lw,rfl,sa,k.st _ _ sa ha,h1.kp k,sq,Ls,k.st _ _ sq hq,hl,fun i L e=>(h2 i L e).kp k⟩
theorem TE1.mono {S':Addr→Prop} {m:Int} {e:En} {p:V × V} (k:∀b,S b→S' b) (h:TE1 K S H m e p):TE1 K S' H m e p:=by
 obtain ⟨a,q,Lw,rfl,sa,ha,h1,sq,Ls,hq,hl,h2⟩:=h
 exact ⟨a,q,Lw,rfl,k _ sa,ha,⟨k _ h1.1,h1.2⟩,k _ sq,Ls,hq,hl,fun i L e=>⟨k _ (h2 i L e).1,(h2 i L e).2⟩⟩
abbrev iW (ps:List (V × V)):List V:=ps.flatMap fun p=>[p.1,p.2]
theorem aCd:∀ps:List (V × V),(iW ps).length=2 * ps.length
 |[]=>rfl
 |p::ps=>by show (iW ps).length+2=_;rw [aCd ps,List.length_cons];lia
theorem aMg (ps:List (V × V)) (a b:V):iW (ps++[(a,b)])=iW ps++[a,b]:=by unfold iW;rw [List.flatMap_append];rfl
def jQ (K:PySem.W.Frag) (S:Addr→Prop) (H:Hp) (L:Addr) (m:Int) (es:List En):Prop:=∃(dh dt:Addr) (Ls:List Addr) (ps:List (V × V)),(S L∧S dh∧S dt)∧H L=some (.lst ([.int m,.ref dh,.ref dt]++iW ps))∧H dh=some (.dK (es.map fun e=>(Sum.inr e.n,e.vh)))∧H dt=some (.dK ((es.zip Ls).map fun e=>(Sum.inr e.1.n,.ref e.2)))∧bZ (fun (e:En) L=>RL K S H L e.t.rows) es Ls∧bZ (TE1 K S H m) es ps
theorem jQ.kp {L:Addr} {m:Int} {es:List En} (k:KP K S H H') (h:jQ K S H L m es):jQ K S H' L m es:=by
 obtain ⟨dh,dt,Ls,ps,⟨s1,s2,s3⟩,h1,h2,h3,h4,h5⟩:=h
 exact ⟨dh,dt,Ls,ps,⟨s1,s2,s3⟩,k.st _ _ s1 h1,k.st _ _ s2 h2,k.st _ _ s3 h3,h4.imp fun _ _ z=>z.kp k,h5.imp fun _ _ z=>z.kp k⟩
theorem jQ.mono {S':Addr→Prop} {L:Addr} {m:Int} {es:List En} (k:∀b,S b→S' b) (h:jQ K S H L m es):jQ K S' H L m es:=by
 obtain ⟨dh,dt,Ls,ps,⟨s1,s2,s3⟩,h1,h2,h3,h4,h5⟩:=h
 exact ⟨dh,dt,Ls,ps,⟨k _ s1,k _ s2,k _ s3⟩,h1,h2,h3,h4.imp fun _ _ z=>⟨k _ z.1,z.2⟩,h5.imp fun _ _ z=>z.mono k⟩
end
theorem jO {J:It} {H:Hp} {σ0:L2.St} {te:TE} {Q:VK} (xs:List V) (h2:Ps1 σ0 σ0) (hsz:xs.length≤1000)
  (go:∀H' i x,Same H H'→xs[i]?=some x→J.go i H'∧∀y H2,J.yld i H' y H2→H2=H'∧y=x) (stop:∀H',Same H H'→J.stop xs.length H') (f:Nat→List (List V))
  (he:∀(i:Nat) x,xs[i]?=some x→∀σ2 H' R,At1 σ0 x σ2→Same H H'→(∀L H2,H' L=none→Same H' H2→bU K H2 L (f i)→R (.ref L) H2)→te σ2 H' R)
  (q:∀D H' (Ls:List Addr),Same H H'→H D=none→H' D=some (.lst (Ls.map V.ref))→Ls.length=xs.length→(∀(i:Nat) L,Ls[i]?=some L→H L=none∧bU K H' L (f i))→Q (.ref D) H'):qU J H σ0 (cJ 0) jV te Q:=by
 intro D hD
 refine ⟨fun i m σ' H' ys=>m=xs.length - i∧i≤xs.length∧Same H H'∧Ps1 σ0 σ'∧H' D=some (.lst ys)∧∃Ls:List Addr,ys=Ls.map V.ref∧Ls.length=i∧∀(j:Nat) L,Ls[j]?=some L→H L=none∧L≠D∧bU K H' L (f j),⟨xs.length,rfl,Nat.zero_le _,aW hD _,h2,aK,[],rfl,rfl,fun j L e=>by cases e⟩,?_⟩
 rintro i m σ' H' ys ⟨rfl,hi,sm,hps,gD,Ls,rfl,lL,hr⟩
 refine ⟨gD,?_⟩
 by_cases hlt:i<xs.length
 ·right
  have hx:=List.getElem?_eq_getElem hlt
  obtain ⟨g1,g2⟩:=go H' i xs[i] sm hx
  refine ⟨g1,fun x H2 hy=>?_⟩
  obtain ⟨rfl,rfl⟩:=g2 x H2 hy
  refine hg1 (i:=i) hps fun σ2 hps2 hat=>?_
  dsimp only [jV]
  rw [if_pos rfl]
  refine he i _ hx σ2 _ _ hat sm fun L H3 hL s3 hR=>?_
  have gD3:=s3 _ _ gD
  have ne:L≠D:=fun z=>by rw [z,gD] at hL;cases hL
  have su:∀{M rs},M≠D→bU K H3 M rs→bU K (L2.upd H3 D (.lst (Ls.map V.ref++[.ref L]))) M rs:=fun hM ⟨us,h1,h2⟩=>⟨us,by rw [aM hM];exact h1,h2.imp fun _ _ ⟨p,e,hp⟩=>⟨p,e,SqT.iC gD3 hp⟩⟩
  refine ⟨gD3,Nat.lt_of_le_of_lt (show (Ls.map V.ref).length≤1000 by rw [List.length_map];lia) (by decide),xs.length - (i+1),by lia,rfl,by lia,eZ hD (sm.trans s3),hps2,aK,Ls++[L],by rw [List.map_append];rfl,by rw [List.length_append,lL];rfl,fun j M e=>?_⟩
  by_cases hj:j<Ls.length
  ·rw [List.getElem?_append_left hj] at e
   obtain ⟨a1,a2,a3⟩:=hr j M e
   exact ⟨a1,a2,su a2 (a3.same s3)⟩
  ·rw [List.getElem?_append_right (by lia)] at e
   have ej:j - Ls.length=0:=by
    have:=(List.getElem?_eq_some_iff.mp e).1
    simpa using this
   rw [ej] at e
   cases e
   have:j=i:=by lia
   rw [this]
   exact ⟨none_of sm hL,ne,su ne hR⟩
 ·left
  have e:i=xs.length:=by lia
  subst e
  exact ⟨stop _ sm,q D H' Ls sm hD gD lL fun j L e=>⟨(hr j L e).1,(hr j L e).2.2⟩⟩
theorem aUe {H:Hp} {n:Nat}:∀H' i x,Same H H'→((List.range n).map fun i:Nat=>V.int (0+(i:Int)))[i]?=some x→(Itr 0 n).go i H'∧∀y H2,(Itr 0 n).yld i H' y H2→H2=H'∧y=x:=fun H' i x _ ex=>by
 obtain ⟨hi,rfl⟩:=aC9 ex
 exact ⟨hi,fun y H2 hy=>hy⟩
theorem aOc {H:Hp} {n:Nat}:∀H',Same H H'→(Itr 0 n).stop ((List.range n).map fun i:Nat=>V.int (0+(i:Int))).length H':=fun H' _=>by
 show n≤_
 rw [List.length_map,List.length_range];exact Nat.le_refl _
def aKl (K:PySem.W.Frag) (C:Addr):Sp:=fun vs H Q _=>∃(x N d:Addr) (m:Int) (es:List En),vs=[.ref x,.ref N,.int m]∧dI K H C x m d es∧H N=some (.lst (es.map fun e=>V.str e.n))∧1≤m∧m≤6∧∀L H',Same H H'→jQ K (fun b=>H b=none) H' L m es→Q (.ref L) H'
theorem aC5 (T:Txt w K mg) {C:Addr} (GM_Town_houses:OkM P w K mg base C 1 "houses" ["self"] (aB4 K C)) (GM_Town_heads:OkM P w K mg base C 2 "heads" ["self"] (yE K C)) (GM_Town_placing:OkM P w K mg base C 4 "placing" ["self","name"] (xK K C)) (GM_Town_whole:OkM P w K mg base C 4 "whole" ["self","name"] (jB K C)) (GM_Town_tables:OkM P w K mg base C 2 "tables" ["self"] (vO K C)) (GM_Town_part:OkM P w K mg base C 5 "part" ["self","name","house"] (aCf K C)):Ok P w K mg base 6 "_law_told" ["_law_town_here","_law_names_here","_law_houses"] (aKl K C):=by
 refine Ok.ofV T.aG1 nC (fun vs H Q E h=>?_) (fun f cdv A outer s H vs Q E hr h=>?_)
 ·obtain ⟨x,N,d,m,es,rfl,_⟩:=h;rfl
 obtain ⟨x,N,d,m,es,rfl,hT,hN,m1,m6,q⟩:=h
 refine ⟨_,(aF (bA (i:=3) nC.nd rfl (by trivial) (cY (aD (pC (GM_Town_houses.mono (by decide)) hr (vv 0)) (aD (pC (GM_Town_heads.mono (by decide)) hr (vv 0)) (aD (pC (GM_Town_tables.mono (by decide)) hr (vv 0)) aC))))) (aF (eV PassesOwn.never rfl (fK (vv 1)) (aU (i:=4) nC.nd rfl (by trivial)) (aF (cW (lW PySem.F.plainAttrs_list PySem.F.slot_list_append PySem.F.type_list_append dO (vv 3) (aD (cY (aD (mG (GM_Town_placing.mono (by decide)) hr (vv 0) (aD (vv 4) aC)) (aD (mG (GM_Town_whole.mono (by decide)) hr (vv 0) (aD (vv 4) aC)) aC))) aC))) (aJ (cW (lW PySem.F.plainAttrs_list PySem.F.slot_list_append PySem.F.type_list_append dO (vv 3) (aD (cM (N:=["_law_house","_law_name","_law_town_here"]) (by trivial) (gJ (aH kO) rfl (by decide +kernel)) rfl (eO (by rfl) T.iI (aD (vv 2) aC)) (fun cl s' H' fp=>⟨(aU (i:=0) (show (["_law_house","_law_name","_law_town_here"]:List Str).Nodup from by decide +kernel) rfl (Or.inl rfl)),dD,(mG (GM_Town_part.mono (by decide)) hr (vv 2) (aD (vv 1) (aD (vv 0) aC)))⟩)) aC)))))) (aJ (aP (vv 3))))),?_⟩
 obtain ⟨⟨dx,hx⟩,hE,ok⟩:=id hT
 have few:=hE.few
 refine ⟨_,rfl,x,dx,_,rfl,hx,rfl,x,d,m,es,rfl,hT,?_⟩
 refine ⟨_,rfl,x,dx,_,rfl,hx,rfl,x,d,m,es,rfl,hT,fun dh H1 hdh s1 gdh=>?_⟩
 refine ⟨_,rfl,x,dx,_,rfl,s1 _ _ hx,rfl,x,d,m,es,rfl,hT.same s1,fun dt H2 Ls hdt s2 gdt aL nin=>?_⟩
 have s02:=s1.trans s2
 refine ⟨by show 3≤sizeLine;decide,fun L H3 hL s3 gL=>?_⟩
 have s03:=s02.trans s3
 have hT2:=hT.same s02
 have hL0:=none_of s02 hL
 have nS:¬ (fun b=>b≠L) L:=fun z=>z rfl
 have hT3:=hT.same s03
 have hN3:=s03 _ _ hN
 have ex:∀{b o},H2 b=some o→b≠L:=fun h z=>by rw [z,hL] at h;cases h
 refine ⟨_,rfl,N,rfl,⟨_,SqL.of hN3⟩,tH (xs:=es.map fun e=>V.str e.n) (fun i σ H'=>KP K (fun b=>b≠L) H3 H'∧(∃l,σ=[some (.ref x),some (.ref N),some (.int m),some (.ref L),l])∧∃ps,H' L=some (.lst ([.int m,.ref dh,.ref dt]++iW ps))∧bZ (TE1 K (fun b=>H3 b=none) H' m) (es.take i) ps) ⟨.same (Same.refl _),⟨none,rfl⟩,[],gL,.nil⟩ (fun i σ H' _ p=>SqL.of (p.1.st _ _ (ex (s02 _ _ hN)) hN3)) (fun i y σ H4 ey p=>?_) fun σ H4 p=>?_⟩
 ·obtain ⟨kp,⟨l,rfl⟩,ps,gp,hps⟩:=p
  rw [List.getElem?_map] at ey
  obtain ⟨e,he,rfl⟩:=Option.map_eq_some_iff.mp ey
  have hm:=List.mem_of_getElem? he
  have hT4:dI K H4 C x m d es:=hT3.kp kp (ex (s02 _ _ hx)) (ex (s02 _ _ hE.at_)) (fun e he=>by obtain ⟨_,_,_,_,_,⟨us,h3,_⟩⟩:=hT2.2.1.tb e he;exact ex h3)
  obtain ⟨⟨dx4,hx4⟩,_,_⟩:=id hT4
  refine ⟨_,rfl,.inl ⟨rfl,_,SqL.of gp⟩,?_⟩
  refine ⟨_,rfl,x,dx4,_,rfl,hx4,rfl,_,rfl,x,d,m,es,e,rfl,hT4,hm,fun H5 s5=>?_⟩
  refine ⟨_,rfl,x,dx4,_,rfl,s5 _ _ hx4,rfl,_,rfl,x,d,m,es,e,rfl,hT4.same s5,hm,fun Lw H6 hLw s6 hRw=>?_⟩
  refine ⟨by show 2≤sizeLine;decide,fun a H7 ha s7 ga=>?_⟩
  have s47:=s5.trans (s6.trans s7)
  have lp:=hps.len
  rw [List.length_take] at lp
  have lf:=aCd ps
  refine ⟨L,_,_,rfl,rfl,s47 _ _ gp,dX (by rw [List.length_append,lf];show 3+_≤_;lia),?_⟩
  have u8:KP K (fun b=>b≠L) H7 (L2.upd H7 L (.lst ([.int m,.ref dh,.ref dt]++iW ps++[.ref a]))):=.iC (s47 _ _ gp) nS
  have v8:KP K (fun b=>H3 b=none) H7 (L2.upd H7 L (.lst ([.int m,.ref dh,.ref dt]++iW ps++[.ref a]))):=.iC (s47 _ _ gp) (by rw [gL];exact fun z=>by cases z)
  have g8:L2.upd H7 L (.lst ([.int m,.ref dh,.ref dt]++iW ps++[.ref a])) L=_:=aK
  generalize L2.upd H7 L (.lst ([.int m,.ref dh,.ref dt]++iW ps++[.ref a]))=H8 at u8 v8 g8 ⊢
  have k48:KP K (fun b=>b≠L) H4 H8:=(KP.same s47).trans u8
  have f8:∀{b},H4 b=none→H3 b=none:=fun {b} h=>by
   cases e3:H3 b with
   |none=>rfl
   |some o=>
    by_cases z:b=L
    ·rw [z,gp] at h;cases h
    ·rw [kp.st _ _ z e3] at h;cases h
  have hT8:dI K H8 C x m d es:=hT4.kp k48 (ex (s02 _ _ hx)) (ex (s02 _ _ hE.at_)) (fun e he=>by obtain ⟨_,_,_,_,_,⟨us,h3,_⟩⟩:=hT2.2.1.tb e he;exact ex h3)
  obtain ⟨⟨dx8,hx8⟩,_,_⟩:=id hT8
  refine ⟨_,rfl,.inl ⟨rfl,_,SqL.of g8⟩,?_⟩
  refine yK [none,some (.str e.n),some (.ref x)] (aCe 4 0 (by decide +kernel) (by decide +kernel) rfl rfl rfl rfl (by trivial) (by trivial)) ⟨_,rfl,m,rfl,by lia,by lia,?_⟩
  refine jO (K:=K) ((List.range m.toNat).map fun i:Nat=>V.int (0+(i:Int))) ⟨none,rfl⟩ (by rw [List.length_map,List.length_range];lia) aUe aOc (fun i=>e.t.rows.filter fun r=>fW e.t.hd m r (0+(i:Int)) e.t.pl) (fun i z ez σ2 H' R hat sm r=>?_) fun D H9 Ps s9 hD gD lP hP=>?_
  ·obtain ⟨hi,rfl⟩:=aC9 ez
   obtain ⟨l,rfl⟩:=hat
   exact ⟨_,rfl,x,dx8,_,rfl,sm _ _ hx8,rfl,_,rfl,_,rfl,x,d,m,0+(i:Int),es,e,rfl,hT8.same sm,hm,by lia,by lia,fun L' H2 hL' s2' hR'=>r L' H2 hL' s2' hR'⟩
  rw [List.length_map,List.length_range] at lP
  refine ⟨L,_,_,rfl,rfl,s9 _ _ g8,dX (by rw [List.length_append,List.length_append,lf];show 3+_+1≤_;lia),?_⟩
  have w9:KP K (fun b=>H3 b=none) H9 (L2.upd H9 L (.lst ([.int m,.ref dh,.ref dt]++iW ps++[.ref a]++[.ref D]))):=.iC (s9 _ _ g8) (by rw [gL];exact fun z=>by cases z)
  have k9:KP K (fun b=>b≠L) H9 (L2.upd H9 L (.lst ([.int m,.ref dh,.ref dt]++iW ps++[.ref a]++[.ref D]))):=.iC (s9 _ _ g8) nS
  have n8:∀{b},H8 b=none→H3 b=none:=fun {b} h=>by
   cases e3:H3 b with
   |none=>rfl
   |some o=>
    by_cases z:b=L
    ·rw [z,g8] at h;cases h
    ·rw [k48.st _ _ z (kp.st _ _ z e3)] at h;cases h
  have kq:KP K (fun b=>H3 b=none) H8 (L2.upd H9 L (.lst ([.int m,.ref dh,.ref dt]++iW ps++[.ref a]++[.ref D]))):=(KP.same s9).trans w9
  have kr:KP K (fun b=>H3 b=none) H4 (L2.upd H9 L (.lst ([.int m,.ref dh,.ref dt]++iW ps++[.ref a]++[.ref D]))):=(KP.same s47).trans (v8.trans kq)
  have tk1:es.take (i+1)=es.take i++[e]:=by rw [List.take_add_one,he];rfl
  refine ⟨kp.trans (k48.trans ((KP.same s9).trans k9)),⟨_,rfl⟩,ps++[(.ref a,.ref D)],?_,?_⟩
  ·rw [aK,aMg];simp only [List.append_assoc];rfl
  ·rw [tk1]
   refine bZ.app (hps.imp fun _ _ z=>z.kp kr) (.cons ⟨a,D,Lw,rfl,f8 (none_of (s5.trans s6) ha),(v8.trans kq).st _ _ (f8 (none_of (s5.trans s6) ha)) ga,?_,n8 hD,Ps,w9.st _ _ (n8 hD) gD,lP,fun i L' eL'=>?_⟩ .nil)
   ·have z:=f8 (none_of s5 hLw)
    exact ⟨z,(hRw.same s7).kp (v8.trans kq) z⟩
   ·obtain ⟨z1,z2⟩:=hP i L' eL'
    exact ⟨n8 z1,z2.kp w9 (n8 z1)⟩
 ·obtain ⟨kp,⟨l,rfl⟩,ps,gp,hps⟩:=p
  rw [List.length_map,List.take_length] at hps
  have n3:∀{b},H3 b=none→H b=none:=fun h=>none_of s03 h
  have kN:∀{b o},b≠L→H3 b=some o→H4 b=some o:=fun z h=>kp.st _ _ z h
  have sm:Same H H4:=fun b o h=>kN (ex (s02 _ _ h)) (s03 _ _ h)
  refine ⟨_,rfl,q L H4 sm ⟨dh,dt,Ls,ps,⟨hL0,hdh,none_of s1 hdt⟩,gp,kN (ex (s2 _ _ gdh)) (s3 _ _ (s2 _ _ gdh)),kN (ex gdt) (s3 _ _ gdt),aL.imp fun e M ⟨h1,h2⟩=>⟨none_of s1 h1,?_⟩,hps.imp fun _ _ z=>z.mono fun b h=>n3 h⟩⟩
  obtain ⟨us,h3,_⟩:=id h2
  exact (h2.same s3).kp kp (ex h3)
theorem aOd {R:En→Addr→Prop} {es:List En} {Ls:List Addr} (h:bZ R es Ls):((es.zip Ls).map fun e=>((Sum.inr e.1.n:Key),V.ref e.2)).map (·.1)=es.map fun e=>Sum.inr e.n:=by
 induction h with
 |nil=>rfl
 |cons _ _ ih=>exact congrArg _ ih
theorem yS:∀{kvs:List (Key × V)} {k:Key} {v:V},(kvs.map (·.1)).Nodup→(k,v)∈kvs→lY kvs k=some v
 |[],k,v,nd,h=>by cases h
 |a::kvs,k,v,nd,h=>by
  rw [List.map_cons,List.nodup_cons] at nd
  rcases List.mem_cons.mp h with h|h
  ·subst h;exact pO rfl
  ·rw [pA fun z=>nd.1 (z ▸ List.mem_map_of_mem h)]
   exact yS nd.2 h
def FlR (rs:List (List V)):Prop:=∀r∈rs,∀x∈r,(∃i,x=.int i)∨∃z,x=.str z
theorem rA.flat {m:Int} {t:Tb} (h:rA m t):FlR t.rows:=fun r hr x hx=>aV8 (aJ7 (h.rows r hr)) x hx
theorem aPm {H:Hp}:∀{n:Nat} {x y:V},DEq K H 40 x y→DL K H n x y
 |0,_,_,h=>.inr h
 |_+1,_,_,h=>.inl (aPm h)
theorem aCi {H:Hp}:∀{n:Nat} {a:Addr},DL K H n (.ref a) (.ref a)
 |0,a=>.inl ⟨a,rfl,rfl⟩
 |_+1,_=>.inl aCi
theorem aQl {α β:Type} {R S:α→β→Prop} (k:∀a b,R a b→S a b) {as:List α} {bs:List β} (h:Al2 R as bs):Al2 S as bs:=by
 induction h with
 |nil=>exact .nil
 |cons r _ ih=>exact .cons (k _ _ r) ih
theorem tR {H:Hp} {n:Nat} {a b:Addr} {rs:List (List V)} (h1:bU K H a rs) (h2:bU K H b rs) (hf:FlR rs):DL K H (n+1) (.ref a) (.ref b):=by
 obtain ⟨us,g1,r1⟩:=h1
 obtain ⟨ws,g2,r2⟩:=h2
 exact .inr ⟨a,b,us,ws,rfl,rfl,SqL.of g1,SqL.of g2,aQl (fun _ _ z=>aPm z) (aO8 (oX r1) (oX r2) hf)⟩
theorem zQ {H:Hp} {a b:Addr} {Ls Ms:List Addr} (h1:H a=some (.lst (Ls.map V.ref))) (h2:H b=some (.lst (Ms.map V.ref))) (hl:Ls.length=Ms.length) (h:∀(i:Nat) L M,Ls[i]?=some L→Ms[i]?=some M→DL K H 1 (.ref L) (.ref M)):DL K H 2 (.ref a) (.ref b):=by
 refine .inr ⟨a,b,_,_,rfl,rfl,SqL.of h1,SqL.of h2,Al2.of (by rw [List.length_map,List.length_map,hl]) fun i u w e1 e2=>?_⟩
 rw [List.getElem?_map] at e1 e2
 obtain ⟨L,f1,rfl⟩:=Option.map_eq_some_iff.mp e1
 obtain ⟨M,f2,rfl⟩:=Option.map_eq_some_iff.mp e2
 exact h i L M f1 f2
theorem xJ {S S':Addr→Prop} {H:Hp} {m:Int}:∀{es:List En} {ps qs:List (V × V)},(∀e∈es,rA m e.t∧∃a,e.vp=.ref a)→bZ (TE1 K S H m) es ps→bZ (TE1 K S' H m) es qs→Al2 (DW K H) (iW ps) (iW qs)
 |[],_,_,_,.nil,.nil=>.nil
 |e::es,_,_,ok,.cons h t,.cons h' t'=>by
  obtain ⟨ot,av,ev⟩:=ok e List.mem_cons_self
  have hf:=ot.flat
  obtain ⟨a,q,Lw,rfl,_,ha,h1,_,Ls,hq,hl,h2⟩:=h
  obtain ⟨a',q',Lw',rfl,_,ha',h1',_,Ls',hq',hl',h2'⟩:=h'
  rw [ev] at ha ha'
  refine .cons (.inl (.inr ⟨a,a',_,_,rfl,rfl,SqL.of ha,SqL.of ha',.cons aCi (.cons (tR h1.2 h1'.2 hf) .nil)⟩)) (.cons (.inl (zQ hq hq' (by lia) fun i L M e1 e2=>tR (h2 i L e1).2 (h2' i M e2).2 fun r hr=>hf r (List.mem_filter.mp hr).1)) (xJ (fun e he=>ok e (List.mem_cons_of_mem _ he)) t t'))
theorem xT {H:Hp}:∀{es:List En},(∀e∈es,∃a,e.vh=.ref a)→Al2 (aSf K H) (es.map fun e=>((Sum.inr e.n:Key),e.vh)) (es.map fun e=>((Sum.inr e.n:Key),e.vh))
 |[],_=>.nil
 |e::es,h=>.cons ⟨rfl,by obtain ⟨a,ea⟩:=h e List.mem_cons_self;show DL K H 1 e.vh e.vh;rw [ea];exact aCi⟩ (xT fun e he=>h e (List.mem_cons_of_mem _ he))
theorem aBf {S S':Addr→Prop} {H:Hp}:∀{es:List En} {Ls Ms:List Addr},(∀e∈es,FlR e.t.rows)→bZ (fun (e:En) L=>RL K S H L e.t.rows) es Ls→bZ (fun (e:En) L=>RL K S' H L e.t.rows) es Ms→Al2 (aSf K H) ((es.zip Ls).map fun e=>((Sum.inr e.1.n:Key),V.ref e.2)) ((es.zip Ms).map fun e=>((Sum.inr e.1.n:Key),V.ref e.2))
 |[],_,_,_,.nil,.nil=>.nil
 |e::es,_,_,ok,.cons h t,.cons h' t'=>.cons ⟨rfl,tR h.2 h'.2 (ok e List.mem_cons_self)⟩ (aBf (fun e he=>ok e (List.mem_cons_of_mem _ he)) t t')
theorem aKe {S S':Addr→Prop} {H:Hp} {C x d L L':Addr} {m:Int} {es:List En} (hT:dI K H C x m d es) (h:jQ K S H L m es) (h':jQ K S' H L' m es):∃us ws,H L=some (.lst us)∧H L'=some (.lst ws)∧Al2 (DW K H) us ws:=by
 obtain ⟨dh,dt,Ls,ps,_,g1,g2,g3,a1,a2⟩:=h
 obtain ⟨dh',dt',Ls',ps',_,g1',g2',g3',a1',a2'⟩:=h'
 have ok:∀e∈es,(∃a,e.vh=.ref a)∧∃a,e.vp=.ref a:=fun e he=>by
  obtain ⟨_,_,_,⟨b,_,eb,_⟩,hp,_⟩:=hT.2.1.tb e he
  refine ⟨⟨b,eb⟩,?_⟩
  generalize e.t.pl=pl at hp
  cases pl with
  |copies=>obtain ⟨a,ea,_⟩:=hp;exact ⟨a,ea⟩
  |keys n=>obtain ⟨a,ea,_⟩:=hp;exact ⟨a,ea⟩
  |spans n h0 cs=>obtain ⟨a,_,ea,_⟩:=hp;exact ⟨a,ea⟩
 exact ⟨_,_,g1,g1',.cons (.inl (aPm (.inl ⟨rfl,rfl⟩))) (.cons (.inr ⟨_,_,_,_,rfl,rfl,g2,g2',xT fun e he=>(ok e he).1⟩) (.cons (.inr ⟨_,_,_,_,rfl,rfl,g3,g3',aBf (fun e he=>(hT.2.2 e he).flat) a1 a1'⟩) (xJ (fun e he=>⟨hT.2.2 e he,(ok e he).2⟩) a2 a2')))⟩
def aFd (K:PySem.W.Frag) (C:Addr):Sp:=fun vs H Q _=>∃(x d:Addr) (m:Int) (es:List En) (e:En),vs=[.ref x,.str e.n]∧dI K H C x m d es∧e∈es∧1≤m∧∀H',Same H H'→Q .non H'
theorem aAu (T:Txt w K mg) {C:Addr} (GM_Town_heads:OkM P w K mg base C 2 "heads" ["self"] (yE K C)) (GM_Town_whole:OkM P w K mg base C 4 "whole" ["self","name"] (jB K C)) (GM_Town_tables:OkM P w K mg base C 2 "tables" ["self"] (vO K C)) (GM_Town_part:OkM P w K mg base C 5 "part" ["self","name","house"] (aCf K C)):Ok P w K mg base 6 "_law_spoil" ["_law_town_here","_law_name"] (aFd K C):=by
 refine Ok.ofV T.aDw aAz (fun vs H Q E h=>?_) (fun f cdv A outer s H vs Q E hr h=>?_)
 ·obtain ⟨x,d,m,es,e,rfl,_⟩:=h;rfl
 obtain ⟨x,d,m,es,e,rfl,hT,he,m1,q⟩:=h
 have hu:=aFj hr
 refine ⟨_,(aF (cW (lW PySem.F.plainAttrs_list PySem.F.slot_list_append PySem.F.type_list_append dO (mG (GM_Town_whole.mono (by decide)) hr (vv 0) (aD (vv 1) aC)) (aD (cL (aD aG aC)) aC))) (aF (cW (lW PySem.F.plainAttrs_list PySem.F.slot_list_append PySem.F.type_list_append dO (mG (GM_Town_part.mono (by decide)) hr (vv 0) (aD (vv 1) (aD aG aC))) (aD (cL (aD aG aC)) aC))) (aF (cW (lW PySem.F.plainAttrs_list PySem.F.slot_list_append PySem.F.type_list_append dO (kW hu (pC (GM_Town_tables.mono (by decide)) hr (vv 0)) (vv 1) (fun _ _=>rfl)) (aD (cL (aD aG aC)) aC))) (aJ (cW (lW PySem.F.plainAttrs_dict PySem.F.slot_dict_pop PySem.F.type_dict_pop aKd (pC (GM_Town_heads.mono (by decide)) hr (vv 0)) (aD (vv 1) aC))))))),?_⟩
 obtain ⟨⟨dx,hx⟩,hE,ok⟩:=id hT
 have few:=(ok e he).few
 refine ⟨_,rfl,x,dx,_,rfl,hx,rfl,_,rfl,x,d,m,es,e,rfl,hT,he,fun L1 H1 h1 s1 hR1=>?_⟩
 obtain ⟨us1,g1,a1⟩:=hR1
 have l1:=a1.len
 refine ⟨.inl ⟨rfl,_,SqL.of g1⟩,by show 1≤sizeLine;decide,fun t H2 _ s2 _=>⟨L1,_,_,rfl,rfl,s2 _ _ g1,dX (by lia),?_⟩⟩
 have z2:Same H (L2.upd H2 L1 (.lst (us1++[.ref t]))):=eZ h1 (s1.trans s2)
 generalize L2.upd H2 L1 (.lst (us1++[.ref t]))=H3 at z2 ⊢
 refine ⟨_,rfl,x,dx,_,rfl,z2 _ _ hx,rfl,_,rfl,x,d,m,0,es,e,rfl,hT.same z2,he,by lia,by lia,fun L4 H4 h4 s4 hR4=>?_⟩
 obtain ⟨us4,g4,a4⟩:=hR4
 have l4:=a4.len
 have l4':=List.length_filter_le (fun r=>fW e.t.hd m r 0 e.t.pl) e.t.rows
 refine ⟨.inl ⟨rfl,_,SqL.of g4⟩,by show 1≤sizeLine;decide,fun t H5 _ s5 _=>⟨L4,_,_,rfl,rfl,s5 _ _ g4,dX (by lia),?_⟩⟩
 have z5:Same H (L2.upd H5 L4 (.lst (us4++[.ref t]))):=z2.trans (eZ h4 (s4.trans s5))
 generalize L2.upd H5 L4 (.lst (us4++[.ref t]))=H6 at z5 ⊢
 refine ⟨_,rfl,x,dx,_,rfl,z5 _ _ hx,rfl,x,d,m,es,rfl,hT.same z5,fun p H7 Ls hp s7 gp aL nin=>?_⟩
 obtain ⟨i,ei⟩:=List.mem_iff_getElem?.mp he
 obtain ⟨L7,eL,n7,⟨us7,g7,a7⟩⟩:=dF aL ei
 have l7:=a7.len
 have nd:(((es.zip Ls).map fun e=>((Sum.inr e.1.n:Key),V.ref e.2)).map (·.1)).Nodup:=by rw [aOd aL];exact aDq hE.nd
 have mem:((Sum.inr e.n:Key),V.ref L7)∈(es.zip Ls).map fun e=>((Sum.inr e.1.n:Key),V.ref e.2):=List.mem_map.mpr ⟨(e,L7),List.mem_of_getElem? (List.getElem?_zip_eq_some.mpr ⟨ei,eL⟩),rfl⟩
 refine ⟨_,rfl,p,.ref L7,rfl,.inl ⟨_,Sum.inr e.n,.inl gp,rfl,(yS nd mem).symm⟩,?_⟩
 refine ⟨.inl ⟨rfl,_,SqL.of g7⟩,by show 1≤sizeLine;decide,fun t H8 _ s8 _=>⟨L7,_,_,rfl,rfl,s8 _ _ g7,dX (by lia),?_⟩⟩
 have z8:Same H (L2.upd H8 L7 (.lst (us7++[.ref t]))):=z5.trans (eZ n7 (s7.trans s8))
 generalize L2.upd H8 L7 (.lst (us7++[.ref t]))=H9 at z8 ⊢
 refine ⟨_,rfl,x,dx,_,rfl,z8 _ _ hx,rfl,x,d,m,es,rfl,hT.same z8,fun p9 H10 hp9 s10 g10=>?_⟩
 refine ⟨.inr (.inr (.inl ⟨rfl,.inl ⟨_,g10⟩⟩)),_,rfl,p9,_,Sum.inr e.n,e.vh,rfl,rfl,g10,yS (by rw [List.map_map];exact aDq hE.nd) (List.mem_map.mpr ⟨e,he,rfl⟩),?_⟩
 exact q _ (z8.trans (eZ hp9 s10))
end
end My
namespace L2
open PySem PySem.Spec PyProof.Rows
theorem aMo {X:Cx}:MtR X "list.clear" aPe:=aP6
end L2
namespace My
open PySem PySem.Spec PyProof.Rows L2
section
variable {P:Program} {w:World} {K:PySem.W.Frag} {mg:Str→Option Value} {base:Heap}
def aJ9 (K:PySem.W.Frag) (Pt:Addr):Sp:=fun vs H Q _=>∃(a:Addr) (ns:List Int),vs=[.ref a]∧SqL K H a (ns.map V.int)∧ns.length≤63∧H Pt=some (.tab qC)∧∀H',H' Pt=some (.tab qC)→Q (.bl true) H'
theorem aQ4 {S R:TS} {D:Ends} {σ:L2.St} {H:Hp} (J:L2.St→Hp→Prop) (h1:∀N:L2.St→Hp→Prop,(∀σ' H',J σ' H'→N σ' H')→S { D with nx:=N } σ H) (h2:∀σ' H',J σ' H'→R D σ' H'):aGb S R D σ H:=h1 _ h2
theorem aWd {c:TT} {t u:TS} {D:Ends} {σ:L2.St} {H:Hp} (Y N:Hp→Prop) (hc:∀R:Bool→Hp→Prop,(∀H8,Y H8→R true H8)→(∀H8,N H8→R false H8)→c σ H R) (go:∀H8,Y H8→t D σ H8) (no:∀H8,N H8→u D σ H8):aK6 c t u D σ H:=
 hc _ (fun H8 y=>dW (go H8 y)) (fun H8 y=>cB (no H8 y))
theorem mW.kp {S:Addr→Prop} {H H':Hp} {v vh vp:V} {L:Addr} {t:Tb} (k:KP K S H H') (s:S L) (h:mW K H v vh vp L t):mW K H' v vh vp L t:=by
 obtain ⟨a,ev,ha,c1,c2,c3⟩:=h
 exact ⟨a,ev,k.tk _ _ ha,c1.tk k.tk,c2.tk k.tk,c3.kp k s⟩
theorem eU.kp {S:Addr→Prop} {H H':Hp} {d:Addr} {es:List En} (k:KP K S H H') (sd:S d) (sL:∀e∈es,S e.L) (h:eU K H d es):eU K H' d es:=⟨k.st _ _ sd h.at_,h.nd,h.few,h.nm,fun e he=>(h.tb e he).kp k (sL e he)⟩
def vQ (es:List En) (i:Nat):List (List V):=((es[i]?).map fun e=>e.t.rows).getD []
theorem iT {es:List En} {i:Nat} {e:En} (h:es[i]?=some e):vQ es i=e.t.rows:=by unfold vQ;rw [h];rfl
theorem aLq (es:List En):((enK es).map fun kv=>kV kv.1)=es.map fun e=>V.str e.n:=by unfold enK;rw [List.map_map];rfl
theorem aEs {H H':Hp} {a:Addr} (h:eN H a) (k:∀o,H a=some o→H' a=some o):eN H' a:=by
 obtain ⟨s,d,e,r⟩:=h
 exact ⟨s,d,k _ e,r⟩
theorem uO {H:Hp} {a:Addr} (h:eN H a):∃xs,H a=some (.lst xs):=let ⟨_,_,e,_⟩:=h;⟨_,e⟩
theorem mH {es es':List En} (h:es.map (·.n)=es'.map (·.n)):(es.map fun e=>V.str e.n)=es'.map fun e=>V.str e.n:=by
 have:=congrArg (List.map V.str) h
 rw [List.map_map,List.map_map] at this
 exact this
theorem aPl {α β:Type} {R:α→β→Prop} {as:List α} {bs:List β} (h:bZ R as bs):bZ R as.reverse bs.reverse:=by
 induction h with
 |nil=>exact .nil
 |cons r _ ih=>rw [List.reverse_cons,List.reverse_cons];exact ih.app (.cons r .nil)
theorem aK9 {α β:Type} {R:α→β→Prop} {as:List α} {bs:List β} (h:bZ R as bs):bZ R (as.drop 1) (bs.drop 1):=by
 cases h with
 |nil=>exact .nil
 |cons _ t=>exact t
def LsOk (Ls:List Addr) (n:Nat) (H:Hp):Prop:=∀L∈Ls,∃us,H L=some (.lst us)∧us.length≤n
theorem LsOk.upd {Ls:List Addr} {n k:Nat} {H:Hp} {D:Addr} {zs:List V} (h:LsOk Ls n H) (hz:zs.length≤k) (hk:n≤k):LsOk Ls k (L2.upd H D (.lst zs)):=fun L hL=>by
 by_cases z:L=D
 ·subst z;exact ⟨zs,aK,hz⟩
 ·obtain ⟨us,h1,h2⟩:=h L hL
  exact ⟨us,by rw [aM z];exact h1,by lia⟩
theorem aTs {f:Addr} {fd:FuncData} (F:Fun K "law" "law" vX f fd) (T:Txt w K mg) {C Pt:Addr} (aCl:Ok P w K mg base 2 "_law_begin" ["_law_script"] (aEq K)) (aD8:Ok P w K mg base 2 "_law_names" ["_law_state","_law_many"] aO3) (aQ:Ok P w K mg base 1 "_law_next" ["_law_state","_law_many"] kI) (mQ:Ok P w K mg base 4 "_law_row" ["_law_state","_law_head_here"] (aDj K)) (aE1:Ok P w K mg base 5 "_law_town" ["_law_state","_law_names_here","_law_most"] (aE8 K)) (GC_Town:OkC P w K mg base C 11 "Town" ["self","houses","tables"] (aJw K C Pt)) (GM_Town_whole:OkM P w K mg base C 4 "whole" ["self","name"] (jB K C)) (kZ:Ok P w K mg base 6 "_law_told" ["_law_town_here","_law_names_here","_law_houses"] (aKl K C)) (sI:Ok P w K mg base 6 "_law_spoil" ["_law_town_here","_law_name"] (aFd K C)):jD P w K mg base CX0 13 f fd ["_law_script"] (aJ9 K Pt):=by
 refine Fun.okV F dM (fun vs H Q E h=>?_) (fun cdv A outer s H vs Q E hr h=>?_)
 ·obtain ⟨a,ns,rfl,_⟩:=h;rfl
 obtain ⟨a,ns,rfl,ha,hn,hPt,q⟩:=h
 have hU:=hr.units
 have hu:=aFj hr
 refine ⟨_,(aF (bA (i:=1) dM.nd rfl (by trivial) (aV (aCl.mono (by decide)) hr (by rfl) (aD (vv 0) aC))) (aF (bA (i:=2) dM.nd rfl (by trivial) (aV (aD8.mono (by decide)) hr (by rfl) (aD (vv 1) (aD aG aC)))) (aF (zK (aV (aE1.mono (by decide)) hr (by rfl) (aD (vv 1) (aD (vv 2) (aD aG aC)))) (rJ rfl (bI (aU (i:=3) dM.nd rfl (by trivial)) (bI (aU (i:=4) dM.nd rfl (by trivial)) fJ)))) (aF (bA (i:=5) dM.nd rfl (by trivial) aE2) (aF (aKh (eV PassesOwn.never rfl (aVf (vv 4)) (aU (i:=6) dM.nd rfl (by trivial)) (aF (zK (kW hu (vv 4) (vv 6) (fun _ _=>rfl)) (rJ rfl (bI (aU (i:=7) dM.nd rfl (by trivial)) (bI (aU (i:=8) dM.nd rfl (by trivial)) (bI (aU (i:=9) dM.nd rfl (by trivial)) fJ))))) (aF (bA (i:=10) dM.nd rfl (by trivial) (bO aGa (aH7 rfl (by rfl) T.rM (by rfl) T.aI4 (aD (vv 9) aC)) (cY (aD (aV (mQ.mono (by decide)) hr (by rfl) (aD (vv 1) (aD (vv 7) aC))) aC)))) (aF (cR (VW.pt (aOh (bY (aO1 hU) (vv 9) (cY aC) (bM _)) (aJm (bY gA (aV (aQ.mono (by decide)) hr (by rfl) (aD (vv 1) (aD aG aC))) aG (bM _))))) (aJ (bA (i:=10) dM.nd rfl (by trivial) (cC xD (by rfl) T.rM nQ (aD (lX aF9 (vv 9) (nW aG) sW) aC)))) bJ) (aJ (aKr hu (vv 5) (vv 6) (cL (aD (vv 7) (aD (vv 8) (aD (vv 10) aC))))))))))) (aF (bA (i:=11) dM.nd rfl (by trivial) (aJ3 (GC_Town.mono (by decide)) hr (by rfl) (aD (vv 3) (aD (vv 4) aC)))) (aF (bA (i:=12) dM.nd rfl (by trivial) (aJ3 (GC_Town.mono (by decide)) hr (by rfl) (aD (vv 3) (aD (vv 5) aC)))) (aF (bA (i:=13) dM.nd rfl (by trivial) (cC (aIf rfl) (by rfl) T.rM nQ (aD (vv 4) aC))) (aF (bA (i:=14) dM.nd rfl (by trivial) (cY (aD (cM (N:=["_law_name","_law_tables"]) (by trivial) (gJ (aH vX) rfl (by decide +kernel)) rfl (fK (vv 13)) (fun cl s' H' fp=>⟨(aU (i:=0) (show (["_law_name","_law_tables"]:List Str).Nodup from by decide +kernel) rfl (Or.inl rfl)),dD,(aR (pD (K:=K)) (by rfl) T.tQ pW (aD (aZ (cH (K:=K)) (kW hu (vv 1) (vv 0) (fun _ _=>rfl)) aG (fun _ _=>rfl)) aC))⟩)) (aD (cM (N:=["_law_name","_law_others"]) (by trivial) (gJ (aH vX) rfl (by decide +kernel)) rfl (fK (vv 13)) (fun cl s' H' fp=>⟨(aU (i:=0) (show (["_law_name","_law_others"]:List Str).Nodup from by decide +kernel) rfl (Or.inl rfl)),dD,(aR (pD (K:=K)) (by rfl) T.tQ pW (aD (aZ (cH (K:=K)) (kW hu (vv 1) (vv 0) (fun _ _=>rfl)) aG (fun _ _=>rfl)) aC))⟩)) aC)))) (aF (bA (i:=15) dM.nd rfl (by trivial) (cY (aD (aV (kZ.mono (by decide)) hr (by rfl) (aD (vv 11) (aD (vv 13) (aD (vv 3) aC)))) (aD (aV (kZ.mono (by decide)) hr (by rfl) (aD (vv 12) (aD (vv 13) (aD (vv 3) aC)))) aC)))) (aF (eV PassesOwn.never rfl (fK (vv 13)) (aU (i:=6) dM.nd rfl (by trivial)) (aF (cW (aI5 PySem.F.plainAttrs_list PySem.F.slot_list_clear PySem.F.type_list_clear aMo (aZ (cH (K:=K)) (kW hu (vv 4) (vv 6) (fun _ _=>rfl)) aG (fun _ _=>rfl)))) (aJ (cW (lW PySem.F.plainAttrs_list PySem.F.slot_list_append PySem.F.type_list_append dO (aZ (cH (K:=K)) (kW hu (vv 5) (vv 6) (fun _ _=>rfl)) aG (fun _ _=>rfl)) (aD (aV (mQ.mono (by decide)) hr (by rfl) (aD (vv 1) (aD (aZ (cH (K:=K)) (kW hu (vv 5) (vv 6) (fun _ _=>rfl)) aG (fun _ _=>rfl)) aC))) aC)))))) (aF (cW (aI5 PySem.F.plainAttrs_dict PySem.F.slot_dict_clear PySem.F.type_dict_clear aM2 (vv 4))) (aF (cW (lW PySem.F.plainAttrs_dict PySem.F.slot_dict_pop PySem.F.type_dict_pop aKd (vv 5) (aD (aZ dU (vv 13) aG (fun _ _=>rfl)) aC))) (aF (eV PassesOwn.never rfl (fK (vv 13)) (aU (i:=6) dM.nd rfl (by trivial)) (aF (cW (aV (sI.mono (by decide)) hr (by rfl) (aD (vv 11) (aD (vv 6) aC)))) (aJ (cW (aV (sI.mono (by decide)) hr (by rfl) (aD (vv 12) (aD (vv 6) aC))))))) (aF (cR (VW.pt (jA (bY (aM8 hU) (aV (kZ.mono (by decide)) hr (by rfl) (aD (vv 11) (aD (vv 13) (aD (vv 3) aC)))) (aZ dU (vv 15) aG (fun _ _=>rfl)) (bM _)) (iB (bY (aM8 hU) (aV (kZ.mono (by decide)) hr (by rfl) (aD (vv 12) (aD (vv 13) (aD (vv 3) aC)))) (aZ dU (vv 15) aG (fun _ _=>rfl)) (bM _))))) (aJ (aP oE)) bJ) (aJ (aP (cU (aUd hU) (vv 14) (cY (aD (cM (N:=["_law_name","_law_town_here"]) (by trivial) (gJ (aH vX) rfl (by decide +kernel)) rfl (fK (vv 13)) (fun cl s' H' fp=>⟨(aU (i:=0) (show (["_law_name","_law_town_here"]:List Str).Nodup from by decide +kernel) rfl (Or.inl rfl)),dD,(mG (GM_Town_whole.mono (by decide)) hr (vv 1) (aD (vv 0) aC))⟩)) (aD (cM (N:=["_law_name","_law_other"]) (by trivial) (gJ (aH vX) rfl (by decide +kernel)) rfl (fK (vv 13)) (fun cl s' H' fp=>⟨(aU (i:=0) (show (["_law_name","_law_other"]:List Str).Nodup from by decide +kernel) rfl (Or.inl rfl)),dD,(mG (GM_Town_whole.mono (by decide)) hr (vv 1) (aD (vv 0) aC))⟩)) aC))) (bM _))))))))))))))))))),?_⟩
 refine ⟨_,rfl,a,ns,rfl,ha,hn,fun st H1 hst s1 hSt=>?_⟩
 refine ⟨_,rfl,st,rfl,hSt,fun N H2 nms f2 hN0 gN hnm=>?_⟩
 have nNs:N≠st:=hSt.ne hN0
 refine ⟨_,rfl,_,rfl,st,N,nms,rfl,f2.st,gN,nNs,hnm,fun t d m es0 H3 f3 ht hd0 m1 m6 hE hes l2 l3=>?_⟩
 have nPs:Pt≠st:=aY hPt hst
 have hPt3:=f3.same _ _ nPs (f2.same _ _ nPs (s1 _ _ hPt))
 refine ⟨t,_,rfl,ht,rfl,_,_,rfl,_,_,rfl,rfl,?_⟩
 refine fun d2 H4 hd2 s4 g4=>?_
 have hE4:=hE.same s4
 have nds:d≠st:=fun z=>by obtain ⟨_,e⟩:=uO f3.st;rw [←z,hE.at_] at e;cases e
 have nd2:∀{b o},H3 b=some o→b≠d2:=fun h=>aY h hd2
 have nd2s:st≠d2:=nd2 (uO f3.st).choose_spec
 have nLs:∀e∈es0,e.L≠st:=fun e he=>f2.st.ne (hes e he).2.2
 refine ⟨d,enK es0,hE4.at_,fun nf=>⟨_,rfl,d,_,rfl,hE4.at_,tD,nf,fun o=>?_⟩⟩
 have b0:But d H4 (L2.upd H4 d (.frz o (.dK (enK es0)))):=But.upd
 have g0:L2.upd H4 d (.frz o (.dK (enK es0))) d=some (.frz o (.dK (enK es0))):=aK
 generalize L2.upd H4 d (.frz o (.dK (enK es0)))=B at b0 g0 ⊢
 have hStB:eN B st:=aEs (f3.st.same s4) fun o h=>b0 _ _ nds.symm h
 have hd2B:B d2=some (.dK []):=b0 _ _ (nd2 hE.at_).symm g4
 have nz:=cG.dK hE4.at_
 have tbB:∀e∈es0,mW K B e.v e.vh e.vp e.L e.t:=fun e he=>b0.tb nz (hE4.tb e he)
 have lst3:∀e∈es0,∃us,H3 e.L=some (.lst us):=fun e he=>by obtain ⟨_,_,_,_,_,⟨us,h3,_⟩⟩:=hE.tb e he;exact ⟨us,h3⟩
 have sL0:∀e∈es0,e.L≠st∧e.L≠d2:=fun e he=>⟨nLs e he,nd2 (lst3 e he).choose_spec⟩
 refine aSj (fun i σ H'=>KP K (fun b=>b≠st∧b≠d2) B H'∧eN H' st∧∃es2,eU K H' d2 es2∧(∀e∈es2,rA m e.t∧e.t.rows.length≤13∧B e.L=none)∧es2.map (·.n)=(es0.take i).map (·.n)∧∃l6 l7 l8 l9 l10,σ=[some (.ref a),some (.ref st),some (.ref N),some (.int m),some (.ref d),some (.ref d2),l6,l7,l8,l9,l10,none,none,none,none,none]) ⟨.same (Same.refl _),hStB,[],⟨hd2B,List.nodup_nil,Nat.zero_le _,fun e h=>(by cases h),fun e h=>(by cases h)⟩,fun e h=>(by cases h),rfl,none,none,none,none,none,rfl⟩ (fun i σ H' _ p=>p.1.st _ _ ⟨nds,nd2 hE.at_⟩ g0) (fun i kv σ H' ek p=>?_) fun σ H' p=>?_
 ·obtain ⟨kp,hSt',es2,hE2,hes2,enm,l6,l7,l8,l9,l10,rfl⟩:=p
  obtain ⟨e0,he0,rfl⟩:=yF ek
  have hm0:=List.mem_of_getElem? he0
  have gd:=kp.st _ _ ⟨nds,nd2 hE.at_⟩ g0
  obtain ⟨ok0,lr0,_⟩:=hes e0 hm0
  obtain ⟨a',ev,ha',h1,h2,⟨us,h3,h4⟩⟩:=(tbB e0 hm0).kp kp (sL0 e0 hm0)
  have lu:=h4.len
  refine ⟨_,rfl,_,rfl,d,e0.v,rfl,.inl ⟨_,Sum.inr e0.n,.inr ⟨o,gd⟩,rfl,(jZ hE.nd hm0).symm⟩,?_⟩
  refine ⟨a',_,ev,ha',rfl,_,_,rfl,_,_,rfl,_,_,rfl,rfl,?_⟩
  refine ⟨_,rfl,e0.L,us,rfl,SqL.of h3,by lia,fun p1 H5 hp1 s5 g5=>?_⟩
  refine ⟨_,rfl,_,rfl,st,e0.vh,e0.t.hd,rfl,hSt'.same s5,h1.same s5,ok0.hd,fun t6 H6 r6 f6 g6 hr6=>?_⟩
  refine ⟨by show 1≤sizeLine;decide,fun p7 H7 hp7 s7 g7=>?_⟩
  have np1:p1≠st:=hSt'.ne hp1
  refine ⟨p1,p7,_,_,rfl,rfl,s7 _ _ (f6.same _ _ np1 g5),g7,small (by rw [List.length_reverse];show _+1≤1000;lia),fun M1 H8 hM1 s8 g8=>?_⟩
  have k8:KP K (fun b=>b≠st) H' H8:=(KP.same s5).trans ((KP.fx f6 (hSt'.same s5) fun z=>z rfl).trans (KP.same (s7.trans s8)))
  have t8:eN H8 st:=(f6.st.same s7).same s8
  have nM1:H' M1=none:=none_of s5 (f6.free (none_of s7 hM1))
  have nM1s:M1≠st:=hSt'.ne nM1
  have okr:∀r∈e0.t.rows.reverse++[r6],xR e0.t.hd r:=fun r hr=>by
   rcases List.mem_append.mp hr with h|h
   ·exact ok0.rows r (List.mem_reverse.mp h)
   ·rw [List.mem_singleton.mp h];exact hr6
  have hR8:bU K H8 M1 (e0.t.rows.reverse++[r6]):=⟨_,g8,bZ.app ((aPl h4).imp fun _ _ ⟨p,e,hp⟩=>⟨p,e,k8.tk _ _ hp⟩) (.cons ⟨t6,rfl,SqT.of (s8 _ _ (s7 _ _ g6))⟩ .nil)⟩
  dsimp only [cJ,List.set]
  refine aQ4 (S:=aK6 _ _ _) (fun σ H''=>KP K (fun b=>b≠st) H' H''∧eN H'' st∧∃M rs,bU K H'' M rs∧(∀r∈rs,xR e0.t.hd r)∧rs.length≤13∧H' M=none∧σ=[some (.ref a),some (.ref st),some (.ref N),some (.int m),some (.ref d),some (.ref d2),some (.str e0.n),some e0.vh,some e0.vp,some (.ref e0.L),some (.ref M),none,none,none,none,none]) (fun NX hN=>?_) fun σ' H'' hJ=>?_
  ·refine aWd (fun H''=>KP K (fun b=>b≠st) H' H''∧eN H'' st) (fun H''=>KP K (fun b=>b≠st) H' H''∧eN H'' st∧bU K H'' M1 (e0.t.rows.reverse++[r6])) (fun R rT rF=>?_) (fun H9 y=>?_) fun H9 y=>?_
   ·refine ⟨_,rfl,by show 0≤sizeLine;decide,fun p9 H9 hp9 s9 g9=>?_⟩
    refine ⟨e0.L,p9,us,rfl,rfl,SqL.of (s9 _ _ (k8.st _ _ (sL0 e0 hm0).1 h3)),SqL.of g9,_,rfl,?_⟩
    have k9:=k8.trans (KP.same s9)
    cases us with
    |nil=>exact cB (rF _ ⟨k9,t8.same s9,hR8.same s9⟩)
    |cons u us=>
     refine dW ⟨_,rfl,st,2,rfl,t8.same s9,by decide,fun c H10 f10 c0 c1=>⟨rfl,_,rfl,?_⟩⟩
     have k10:=k9.trans (KP.fx f10 (t8.same s9) fun z=>z rfl)
     by_cases hc:c=0
     ·rw [show decide (V.int c=V.int 0)=true from decide_eq_true (congrArg V.int hc)]
      exact rT _ ⟨k10,f10.st⟩
     ·rw [show decide (V.int c=V.int 0)=false from decide_eq_false fun z=>hc (V.int.inj z)]
      exact rF _ ⟨k10,f10.st,(hR8.same s9).fx f10 (t8.same s9) nM1s⟩
   ·obtain ⟨k9,t9⟩:=y
    refine ⟨_,rfl,_,rfl,e0.L,us,rfl,SqL.of (k9.st _ _ (sL0 e0 hm0).1 h3),fun p10 H10 hp10 s10 g10=>?_⟩
    refine ⟨p10,_,rfl,.inl (SqL.of g10),fun M2 H11 hM2 s11 g11=>?_⟩
    have k11:=k9.trans (KP.same (s10.trans s11))
    rw [show uB us (some 1) none=us.drop 1 from uX us 1] at g11
    refine hN _ _ ⟨k11,(t9.same s10).same s11,M2,e0.t.rows.drop 1,⟨_,g11,(aK9 h4).imp fun _ _ ⟨p,e,hp⟩=>⟨p,e,k11.tk _ _ hp⟩⟩,fun r hr=>ok0.rows r (List.mem_of_mem_drop hr),by rw [List.length_drop];lia,?_,rfl⟩
    cases e3:H' M2 with
    |none=>rfl
    |some o=>
     have hM2:=none_of s10 hM2
     by_cases z1:M2=st
     ·rw [z1] at hM2;rw [(uO t9).choose_spec] at hM2;cases hM2
     ·rw [k9.st _ _ z1 e3] at hM2;cases hM2
   ·obtain ⟨k9,t9,hR9⟩:=y
    exact hN _ _ ⟨k9,t9,M1,_,hR9,okr,by rw [List.length_append,List.length_reverse];show _+1≤13;lia,nM1,rfl⟩
  ·obtain ⟨k9,t9,M,rs,hRM,okM,lM,nM,rfl⟩:=hJ
   refine ⟨_,rfl,_,rfl,_,rfl,by show 3≤sizeLine;decide,fun t10 H10 ht10 s10 g10=>?_⟩
   have k10:=k9.trans (KP.same s10)
   have nL2:∀e∈es2,e.L≠st:=fun e he=>hStB.ne (hes2 e he).2.2
   have hE10:=hE2.kp k10 nd2s.symm nL2
   have lE:es2.length≤3:=by
    have:=congrArg List.length enm
    rw [List.length_map,List.length_map,List.length_take] at this
    lia
   refine ⟨_,rfl,_,rfl,d2,_,rfl,aK4.k (k:=Sum.inr e0.n) hE10.at_ (by rw [iQ];exact yR (by lia)),?_⟩
   have tk1:es0.take (i+1)=es0.take i++[e0]:=by rw [List.take_add_one,he0];rfl
   have nd1:((es2.map (·.n))++[e0.n]).Nodup:=by
    have:=hE.nd.sublist ((List.take_sublist (i+1) es0).map (·.n))
    rw [tk1,List.map_append,←enm] at this
    exact this
   have nin:∀e∈es2,e.n≠e0.n:=fun e he z=>(List.nodup_append.mp nd1).2.2 _ (List.mem_map_of_mem he) _ List.mem_cons_self z
   obtain ⟨en1,een⟩:∃en1:En,(⟨e0.n,.ref t10,e0.vh,e0.vp,M,⟨e0.t.hd,e0.t.pl,rs⟩⟩:En)=en1:=⟨_,rfl⟩
   have ek2:putK (enK es2) (Sum.inr e0.n) (.ref t10)=enK (es2++[en1]):=by
    rw [tZ fun kv hkv=>by
     unfold enK at hkv
     obtain ⟨e,he,rfl⟩:=List.mem_map.mp hkv
     exact fun z=>nin e he (Sum.inr.inj z)]
    unfold enK
    rw [List.map_append,←een]
    rfl
   rw [ek2]
   have nz2:=cG.dK hE10.at_
   have bz:But d2 H10 (L2.upd H10 d2 (.dK (enK (es2++[en1])))):=But.upd
   have tb1:mW K H10 en1.v en1.vh en1.vp en1.L en1.t:=by
    rw [←een]
    exact ⟨t10,rfl,SqT.of g10,h1.tk k10.tk,h2.tk k10.tk,hRM.same s10⟩
   have kz:KP K (fun b=>b≠st∧b≠d2) H10 (L2.upd H10 d2 (.dK (enK (es2++[en1])))):=.aU6 nz2 fun z=>z.2 rfl
   refine ⟨kp.trans ((k10.mono fun b z=>z.1).trans kz),aEs (t9.same s10) fun o h=>bz _ _ nd2s h,es2++[en1],⟨aK,?_,?_,fun e he=>?_,fun e he=>?_⟩,fun e he=>?_,?_,_,_,_,_,_,rfl⟩
   ·rw [List.map_append,←een];exact nd1
   ·rw [List.length_append];show es2.length+1≤60;lia
   ·rcases List.mem_append.mp he with he|he
    ·exact hE10.nm e he
    ·rw [List.mem_singleton.mp he,←een];exact hE.nm e0 hm0
   ·rcases List.mem_append.mp he with he|he
    ·exact bz.tb nz2 (hE10.tb e he)
    ·rw [List.mem_singleton.mp he];exact bz.tb nz2 tb1
   ·rcases List.mem_append.mp he with he|he
    ·exact hes2 e he
    ·rw [List.mem_singleton.mp he,←een]
     refine ⟨⟨ok0.hd,ok0.pl,by show rs.length≤60;lia,okM⟩,lM,?_⟩
     show B M=none
     cases e3:B M with
     |none=>rfl
     |some o=>
      by_cases z1:M=st
      ·rw [z1,(uO hSt').choose_spec] at nM;cases nM
      ·by_cases z2:M=d2
       ·rw [z2,hE2.at_] at nM;cases nM
       ·rw [kp.st _ _ ⟨z1,z2⟩ e3] at nM;cases nM
   ·rw [List.map_append,tk1,List.map_append,enm,←een];rfl
 ·obtain ⟨kp,hSt',es2,hE2,hes2,enm,l6,l7,l8,l9,l10,rfl⟩:=p
  rw [iQ,List.take_length] at enm
  have gd:=kp.st _ _ ⟨nds,nd2 hE.at_⟩ g0
  refine ⟨⟨o,gd⟩,?_⟩
  have bG:But d H' (L2.upd H' d (.dK (enK es0))):=But.upd
  have gG:L2.upd H' d (.dK (enK es0)) d=some (.dK (enK es0)):=aK
  have nzf:cG H' d:=cG.fz gd
  generalize L2.upd H' d (.dK (enK es0))=G at bG gG ⊢
  have hEG:eU K G d es0:=⟨gG,hE.nd,hE.few,hE.nm,fun e he=>bG.tb nzf ((tbB e he).kp kp (sL0 e he))⟩
  have ndd:d2≠d:=(nd2 hE.at_).symm
  have hFG:eU K G d2 es2:=⟨bG _ _ ndd hE2.at_,hE2.nd,hE2.few,hE2.nm,fun e he=>bG.tb nzf (hE2.tb e he)⟩
  have hSG:eN G st:=aEs hSt' fun o h=>bG _ _ nds.symm h
  have nPd:Pt≠d:=fun z=>by rw [z,hE.at_] at hPt3;cases hPt3
  have hPG:G Pt=some (.tab qC):=bG _ _ nPd (kp.st _ _ ⟨nPs,nd2 hPt3⟩ (b0 _ _ nPd (s4 _ _ hPt3)))
  have nL2:∀e∈es2,e.L≠st:=fun e he=>hStB.ne (hes2 e he).2.2
  have le2:es2.length=es0.length:=by have:=congrArg List.length enm;rwa [List.length_map,List.length_map] at this
  clear gd nzf bG hSt' hE2 kp tbB hStB hd2B b0 g0
  refine ⟨_,rfl,_,rfl,fun x dx hx0 hdx0 hne=>?_⟩
  refine ⟨G,x,dx,d,m,es0,rfl,aK,hx0,eZ hx0 (aW hdx0 _),m1,m6,hEG,fun e he=>(hes e he).1,hPG,fun dA H6 esA hdA s6 hTA aA=>⟨rfl,?_⟩⟩
  refine ⟨_,rfl,_,rfl,fun y dy hy0 hdy0 hne2=>?_⟩
  refine ⟨H6,y,dy,d2,m,es2,rfl,aK,hy0,eZ hy0 (aW hdy0 _),m1,m6,hFG.same s6,fun e he=>(hes2 e he).1,s6 _ _ hPG,fun dB H7 esB hdB s7 hTB aB=>⟨rfl,?_⟩⟩
  have sG7:=s6.trans s7
  have hE7:=hEG.same sG7
  have hF7:=hFG.same sG7
  refine ⟨_,rfl,d,enK es0,rfl,hE7.at_,by rw [iQ];lia,fun N2 H8 hN2 s8 gN2=>?_⟩
  rw [aLq] at gN2
  have sG8:=sG7.trans s8
  have hE8:=hE7.same s8
  have hF8:=hF7.same s8
  dsimp only [cJ,List.set,aGb,aBb,aJ4,dJ]
  refine lU [none,some (.ref d)] (jF 4 (by decide +kernel) rfl rfl (by trivial)) ⟨_,rfl,N2,rfl,⟨_,SqL.of gN2⟩,?_⟩
  refine jO (K:=K) (es0.map fun e=>V.str e.n) ⟨none,rfl⟩ (by rw [List.length_map];lia) (rY fun H' s'=>SqL.of (s' _ _ gN2)) (jJ fun H' s'=>SqL.of (s' _ _ gN2)) (fun i=>srt (vQ es0 i)) (fun i z ez σ2 H' R hat sm r=>?_) fun D1 H9 Ls1 s9 hD1 gD1 lD1 aD1=>?_
  ·rw [List.getElem?_map] at ez
   obtain ⟨e,he,rfl⟩:=Option.map_eq_some_iff.mp ez
   obtain ⟨l,rfl⟩:=hat
   have hm:=List.mem_of_getElem? he
   have ok:=(hes e hm).1
   rw [iT he] at r
   obtain ⟨a',ev,ha',h1,h2,⟨us,h3,h4⟩⟩:=(hE8.same sm).tb e hm
   have lu:=h4.len
   have fw:=ok.few
   exact ⟨_,rfl,_,rfl,d,e.v,rfl,.inl ⟨_,Sum.inr e.n,.inl (sm _ _ hE8.at_),rfl,(jZ hE8.nd hm).symm⟩,a',_,2,_,ev,rfl,ha',at2 _ _ _ _,e.L,us,e.t.rows,knds e.t.hd,rfl,SqL.of h3,oX h4,by lia,aC1 ok.hd.1,fun r hr'=>aJ7 (ok.rows r hr'),fun L H3 us3 hL s3 g3 h5=>r L H3 hL s3 ⟨us3,g3,(zT h5).imp fun _ _ z=>z.same s3⟩⟩
  have hF9:=hF8.same s9
  have eqN:(es2.map fun e=>V.str e.n)=es0.map fun e=>V.str e.n:=mH enm
  have gN9:=s9 _ _ gN2
  rw [←eqN] at gN9
  refine lU [none,some (.ref d2)] (jF 5 (by decide +kernel) rfl rfl (by trivial)) ⟨_,rfl,N2,rfl,⟨_,SqL.of gN9⟩,?_⟩
  refine jO (K:=K) (es2.map fun e=>V.str e.n) ⟨none,rfl⟩ (by rw [List.length_map];lia) (rY fun H' s'=>SqL.of (s' _ _ gN9)) (jJ fun H' s'=>SqL.of (s' _ _ gN9)) (fun i=>srt (vQ es2 i)) (fun i z ez σ2 H' R hat sm r=>?_) fun D2 H10 Ls2 s10 hD2 gD2 lD2 aD2=>?_
  ·rw [List.getElem?_map] at ez
   obtain ⟨e,he,rfl⟩:=Option.map_eq_some_iff.mp ez
   obtain ⟨l,rfl⟩:=hat
   have hm:=List.mem_of_getElem? he
   have ok:=(hes2 e hm).1
   rw [iT he] at r
   obtain ⟨a',ev,ha',h1,h2,⟨us,h3,h4⟩⟩:=(hF9.same sm).tb e hm
   have lu:=h4.len
   have fw:=ok.few
   exact ⟨_,rfl,_,rfl,d2,e.v,rfl,.inl ⟨_,Sum.inr e.n,.inl (sm _ _ hF9.at_),rfl,(jZ hF9.nd hm).symm⟩,a',_,2,_,ev,rfl,ha',at2 _ _ _ _,e.L,us,e.t.rows,knds e.t.hd,rfl,SqL.of h3,oX h4,by lia,aC1 ok.hd.1,fun r hr'=>aJ7 (ok.rows r hr'),fun L H3 us3 hL s3 g3 h5=>r L H3 hL s3 ⟨us3,g3,(zT h5).imp fun _ _ z=>z.same s3⟩⟩
  refine ⟨by show 2≤sizeLine;decide,fun Dd H11 hDd s11 gDd=>?_⟩
  have s811:=s9.trans (s10.trans s11)
  have sG11:=sG8.trans s811
  have nA:=sO aA
  have nB:=sO aB
  have gN11:=s811 _ _ gN2
  have hTA11:=hTA.same (s7.trans (s8.trans s811))
  have hTB11:=hTB.same (s8.trans s811)
  refine ⟨_,rfl,_,rfl,_,rfl,x,N2,dA,m,esA,rfl,hTA11,by rw [mH nA];exact gN11,m1,m6,fun L1 H12 s12 tA=>?_⟩
  refine ⟨_,rfl,_,rfl,_,rfl,y,N2,dB,m,esB,rfl,hTB11.same s12,by rw [mH (nB.trans enm)];exact s12 _ _ gN11,m1,m6,fun LB H13 s13 tB=>?_⟩
  refine ⟨by show 2≤sizeLine;decide,fun Hd H14 hHd s14 gHd=>?_⟩
  have s1114:=s12.trans (s13.trans s14)
  have sG14:=sG11.trans s1114
  have tA14:jQ K (fun b=>G b=none) H14 L1 m esA:=(tA.kp (.same (s13.trans s14))).mono fun b h=>none_of sG11 h
  have tB14:jQ K (fun b=>G b=none) H14 LB m esB:=(tB.kp (.same s14)).mono fun b h=>none_of (sG11.trans s12) h
  have hE14:=hEG.same sG14
  have hF14:=hFG.same sG14
  have gN14:=s1114 _ _ gN11
  have nN2:G N2=none:=none_of sG7 hN2
  have inL:∀{es:List En} {dd:Addr},eU K G dd es→∀e∈es,∃us,G e.L=some (.lst us)∧us.length=e.t.rows.length:=fun hh e he=>by
   obtain ⟨_,_,_,_,_,⟨us,h3,h4⟩⟩:=hh.tb e he
   exact ⟨us,h3,h4.len⟩
  have lsG:LsOk ((es0++es2).map (·.L)) 60 G:=fun L hL=>by
   obtain ⟨e,he,rfl⟩:=List.mem_map.mp hL
   rcases List.mem_append.mp he with he|he
   ·obtain ⟨us,h1,h2⟩:=inL hEG e he
    exact ⟨us,h1,by have:=(hes e he).1.few;lia⟩
   ·obtain ⟨us,h1,h2⟩:=inL hFG e he
    exact ⟨us,h1,by have:=(hes2 e he).1.few;lia⟩
  have nsL:∀L∈(es0++es2).map (·.L),L≠st:=fun L hL=>by
   obtain ⟨e,he,rfl⟩:=List.mem_map.mp hL
   rcases List.mem_append.mp he with he|he
   ·exact nLs e he
   ·exact nL2 e he
  have nGL:∀L∈(es0++es2).map (·.L),¬ (fun b=>G b=none) L:=fun L hL z=>by
   obtain ⟨us,h1,_⟩:=lsG L hL
   have z:G L=none:=z
   rw [h1] at z;cases z
  have m0L:∀e∈es0,e.L∈(es0++es2).map (·.L):=fun e he=>List.mem_map_of_mem (List.mem_append_left _ he)
  have m2L:∀e∈es2,e.L∈(es0++es2).map (·.L):=fun e he=>List.mem_map_of_mem (List.mem_append_right _ he)
  generalize (es0++es2).map (·.L)=Lz at lsG nsL nGL m0L m2L
  have nSs:¬ (fun b=>G b=none) st:=fun z=>by have z:G st=none:=z;rw [(uO hSG).choose_spec] at z;cases z
  have nSd:¬ (fun b=>G b=none) d:=fun z=>by have z:G d=none:=z;rw [hEG.at_] at z;cases z
  have nSd2:¬ (fun b=>G b=none) d2:=fun z=>by have z:G d2=none:=z;rw [hFG.at_] at z;cases z
  refine ⟨_,rfl,N2,rfl,⟨_,SqL.of gN14⟩,tH (xs:=es0.map fun e=>V.str e.n) (fun i σ H'=>KP K (fun b=>G b=none) H14 H'∧eN H' st∧H' d=some (.dK (enK es0))∧H' d2=some (.dK (enK es2))∧H' Pt=some (.tab qC)∧LsOk Lz (60+i) H'∧∃l6,σ=[some (.ref a),some (.ref st),some (.ref N),some (.int m),some (.ref d),some (.ref d2),l6,l7,l8,l9,l10,some (.ref x),some (.ref y),some (.ref N2),some (.ref Dd),some (.ref Hd)]) ⟨.same (Same.refl _),hSG.same sG14,hE14.at_,hF14.at_,sG14 _ _ hPG,fun L hL=>let ⟨us,h1,h2⟩:=lsG L hL;⟨us,sG14 _ _ h1,h2⟩,_,rfl⟩ (fun i σ H' _ p=>SqL.of (p.1.st _ _ nN2 gN14)) (fun i z σ H' ez p=>?_) fun σ H' p=>?_⟩
  ·obtain ⟨kp,hSt',gd,gd2,gP,hLs,l6,rfl⟩:=p
   rw [List.getElem?_map] at ez
   obtain ⟨e,he,rfl⟩:=Option.map_eq_some_iff.mp ez
   have hm:=List.mem_of_getElem? he
   obtain ⟨e2,he2,en2⟩:∃e2,es2[i]?=some e2∧e2.n=e.n:=by
    have:=congrArg (fun l=>l[i]?) enm
    simp only [List.getElem?_map,he] at this
    obtain ⟨e2,h1,h2⟩:=Option.map_eq_some_iff.mp this
    exact ⟨e2,h1,h2⟩
   have hm2:=List.mem_of_getElem? he2
   have li:=(List.getElem?_eq_some_iff.mp he).1
   obtain ⟨a',ev,ha',_,_,_⟩:=hE14.tb e hm
   obtain ⟨a2,ev2,ha2,hh2,_,_⟩:=hF14.tb e2 hm2
   obtain ⟨us,gL,lL⟩:=hLs e.L (m0L e hm)
   refine ⟨_,rfl,_,rfl,d,e.v,rfl,.inl ⟨_,Sum.inr e.n,.inl gd,rfl,(jZ hEG.nd hm).symm⟩,a',_,2,_,ev,rfl,kp.tk _ _ ha',at2 _ _ _ _,.inl ⟨rfl,_,SqL.of gL⟩,e.L,us,rfl,rfl,gL,?_⟩
   have kA:KP K (fun b=>G b=none) H' (L2.upd H' e.L (.lst [])):=.iC gL (nGL _ (m0L e hm))
   have ne1:∀{b u},H' b=some u→(∀ys,u≠.lst ys)→b≠e.L:=fun h hu z=>by rw [z,gL] at h;cases h;exact hu _ rfl
   have hSA:eN (L2.upd H' e.L (.lst [])) st:=aEs hSt' fun o h=>by rw [aM (nsL _ (m0L e hm)).symm];exact h
   have gdA:L2.upd H' e.L (.lst []) d=some (.dK (enK es0)):=by rw [aM (ne1 gd fun _ z=>by cases z)];exact gd
   have gd2A:L2.upd H' e.L (.lst []) d2=some (.dK (enK es2)):=by rw [aM (ne1 gd2 fun _ z=>by cases z)];exact gd2
   have gPA:L2.upd H' e.L (.lst []) Pt=some (.tab qC):=by rw [aM (ne1 gP fun _ z=>by cases z)];exact gP
   have hLA:LsOk Lz (60+i) (L2.upd H' e.L (.lst [])):=hLs.upd (Nat.zero_le _) (Nat.le_refl _)
   generalize L2.upd H' e.L (.lst [])=HA at kA hSA gdA gd2A gPA hLA ⊢
   have kpA:=kp.trans kA
   obtain ⟨vs,gM,lM⟩:=hLA e2.L (m2L e2 hm2)
   have ev':lY (enK es2) (Sum.inr e.n)=some e2.v:=by rw [←en2];exact jZ hFG.nd hm2
   refine ⟨_,rfl,_,rfl,d2,e2.v,rfl,.inl ⟨_,Sum.inr e.n,.inl gd2A,rfl,ev'.symm⟩,a2,_,2,_,ev2,rfl,kpA.tk _ _ ha2,at2 _ _ _ _,.inl ⟨rfl,_,SqL.of gM⟩,?_⟩
   refine ⟨_,rfl,_,rfl,_,rfl,d2,e2.v,rfl,.inl ⟨_,Sum.inr e.n,.inl gd2A,rfl,ev'.symm⟩,a2,_,0,_,ev2,rfl,kpA.tk _ _ ha2,at0 _ _,st,e2.vh,e2.t.hd,rfl,hSA,hh2.tk kpA.tk,(hes2 e2 hm2).1.hd,fun t HB r fB gB hkB=>?_⟩
   have nM:=nsL _ (m2L e2 hm2)
   have gMB:=fB.same _ _ nM gM
   refine ⟨e2.L,_,_,rfl,rfl,gMB,dX (by lia),?_⟩
   have ne2:∀{b u},HB b=some u→(∀ys,u≠.lst ys)→b≠e2.L:=fun h hu z=>by rw [z,gMB] at h;cases h;exact hu _ rfl
   have ns:∀{b u},HA b=some u→(∀ys,u≠.lst ys)→b≠st:=fun h hu z=>by obtain ⟨_,e⟩:=uO hSA;rw [z,e] at h;cases h;exact hu _ rfl
   have gdB:=fB.same _ _ (ns gdA fun _ z=>by cases z) gdA
   have gd2B:=fB.same _ _ (ns gd2A fun _ z=>by cases z) gd2A
   have gPB:=fB.same _ _ (ns gPA fun _ z=>by cases z) gPA
   have hLB:LsOk Lz (60+i) HB:=fun L hL=>let ⟨us,h1,h2⟩:=hLA L hL;⟨us,fB.same _ _ (nsL L hL) h1,h2⟩
   refine ⟨kpA.trans ((KP.fx fB hSA nSs).trans (.iC gMB (nGL _ (m2L e2 hm2)))),aEs fB.st fun o h=>by rw [aM nM.symm];exact h,by rw [aM (ne2 gdB fun _ z=>by cases z)];exact gdB,by rw [aM (ne2 gd2B fun _ z=>by cases z)];exact gd2B,by rw [aM (ne2 gPB fun _ z=>by cases z)];exact gPB,hLB.upd (by rw [List.length_append];show _+1≤_;lia) (by lia),_,rfl⟩
  ·obtain ⟨kp,hSt',gd,gd2,gP,hLs,l6,rfl⟩:=p
   refine ⟨_,rfl,.inr (.inr (.inl ⟨rfl,.inl ⟨_,gd⟩⟩)),d,_,rfl,rfl,gd,?_⟩
   have kA:KP K (fun b=>G b=none) H' (L2.upd H' d (.dK [])):=.aU6 (cG.dK gd) nSd
   have gd2A:L2.upd H' d (.dK []) d2=some (.dK (enK es2)):=by rw [aM ndd];exact gd2
   have gPA:L2.upd H' d (.dK []) Pt=some (.tab qC):=by rw [aM nPd];exact gP
   generalize L2.upd H' d (.dK [])=HA at kA gd2A gPA ⊢
   have kpA:=kp.trans kA
   obtain ⟨e00,he00⟩:∃e,es0[0]?=some e:=⟨_,List.getElem?_eq_getElem (by lia)⟩
   obtain ⟨e20,he20⟩:∃e,es2[0]?=some e:=⟨_,List.getElem?_eq_getElem (by lia)⟩
   have en0:e20.n=e00.n:=by
    have:=congrArg (fun l=>l[0]?) enm
    simp only [List.getElem?_map,he00,he20] at this
    exact Option.some.inj this
   refine ⟨_,rfl,.inr (.inr (.inl ⟨rfl,.inl ⟨_,gd2A⟩⟩)),_,rfl,N2,_,0,.str e00.n,rfl,rfl,SqL.of (kpA.st _ _ nN2 gN14),?_,d2,_,Sum.inr e00.n,e20.v,rfl,rfl,gd2A,by rw [←en0];exact jZ hFG.nd (List.mem_of_getElem? he20),?_⟩
   ·exact fP (j:=0) (by rw [List.getElem?_map,he00];rfl)
   have kB:KP K (fun b=>G b=none) HA (L2.upd HA d2 (.dK (vZ (enK es2) (Sum.inr e00.n)))):=.aU6 (cG.dK gd2A) nSd2
   have gPB:L2.upd HA d2 (.dK (vZ (enK es2) (Sum.inr e00.n))) Pt=some (.tab qC):=by rw [aM (nd2 hPt3)];exact gPA
   generalize L2.upd HA d2 (.dK (vZ (enK es2) (Sum.inr e00.n)))=HB at kB gPB ⊢
   have kpB:=kpA.trans kB
   have lA:∀e∈esA,G e.L=none:=fun e he=>by obtain ⟨_,_,v,L,rfl,h⟩:=pY aA he;exact h
   have lB:∀e∈esB,G e.L=none:=fun e he=>by obtain ⟨_,_,v,L,rfl,h⟩:=pY aB he;exact none_of s6 h
   have hTAB:dI K HB C x m dA esA:=(hTA11.same s1114).kp kpB hx0 hdA lA
   have hTBB:dI K HB C y m dB esB:=(hTB11.same s1114).kp kpB (none_of s6 hy0) (none_of s6 hdB) lB
   have tAB:=tA14.kp kpB
   have tBB:=tB14.kp kpB
   have gNB:=kpB.st _ _ nN2 gN14
   have gDB:=kpB.st _ _ (none_of (sG8.trans (s9.trans s10)) hDd) (s1114 _ _ gDd)
   have gHB:=kpB.st _ _ (none_of (sG11.trans (s12.trans s13)) hHd) gHd
   have nD1:G D1=none:=none_of sG8 hD1
   have nD2:G D2=none:=none_of (sG8.trans s9) hD2
   have g1B:=kpB.st _ _ nD1 (s1114 _ _ (s11 _ _ (s10 _ _ gD1)))
   have g2B:=kpB.st _ _ nD2 (s1114 _ _ (s11 _ _ gD2))
   have a1B:∀(i:Nat) L,Ls1[i]?=some L→bU K HB L (srt (vQ es0 i)):=fun i L e=>((aD1 i L e).2.same (s10.trans (s11.trans s1114))).kp kpB (none_of sG8 (aD1 i L e).1)
   have a2B:∀(i:Nat) L,Ls2[i]?=some L→bU K HB L (srt (vQ es2 i)):=fun i L e=>((aD2 i L e).2.same (s11.trans s1114)).kp kpB (none_of (sG8.trans s9) (aD2 i L e).1)
   have lAn:=aA.len
   have lBn:=aB.len
   refine ⟨_,rfl,N2,rfl,⟨_,SqL.of gNB⟩,tH (xs:=es0.map fun e=>V.str e.n) (fun i σ H'=>Same HB H'∧∃l6,σ=[some (.ref a),some (.ref st),some (.ref N),some (.int m),some (.ref d),some (.ref d2),l6,l7,l8,l9,l10,some (.ref x),some (.ref y),some (.ref N2),some (.ref Dd),some (.ref Hd)]) ⟨Same.refl _,_,rfl⟩ (fun i σ H' _ p=>SqL.of (p.1 _ _ gNB)) (fun i z σ H' ez p=>?_) fun σ H' p=>?_⟩
   ·obtain ⟨sm,l6,rfl⟩:=p
    rw [List.getElem?_map] at ez
    obtain ⟨e,he,rfl⟩:=Option.map_eq_some_iff.mp ez
    have at_n:∀{es:List En},es.map (·.n)=es0.map (·.n)→∃e',e'∈es∧e'.n=e.n:=fun {es} h=>by
     have:=congrArg (fun l=>l[i]?) h
     simp only [List.getElem?_map,he] at this
     obtain ⟨e2,h1,h2⟩:=Option.map_eq_some_iff.mp this
     exact ⟨e2,List.mem_of_getElem? h1,h2⟩
    obtain ⟨eA,mA,qA⟩:=at_n nA
    obtain ⟨eB,mB,qB⟩:=at_n (nB.trans enm)
    refine ⟨_,rfl,_,rfl,x,dA,m,esA,eA,by rw [qA];rfl,hTAB.same sm,mA,m1,fun H5 s5=>?_⟩
    exact ⟨_,rfl,_,rfl,y,dB,m,esB,eB,by rw [qB];rfl,hTBB.same (sm.trans s5),mB,m1,fun H6 s6=>⟨sm.trans (s5.trans s6),_,rfl⟩⟩
   ·obtain ⟨sm,l6,rfl⟩:=p
    have hTC:=hTAB.same sm
    have hUC:=hTBB.same sm
    have gNC:=sm _ _ gNB
    refine ⟨_,rfl,_,rfl,_,rfl,x,N2,dA,m,esA,rfl,hTC,by rw [mH nA];exact gNC,m1,m6,fun L3 H5 s5 t3=>?_⟩
    obtain ⟨us,ws,u1,u2,u3⟩:=aKe (hTC.same s5) t3 (tAB.kp (.same (sm.trans s5)))
    refine ⟨_,rfl,Hd,_,0,.ref L1,rfl,rfl,SqL.of (s5 _ _ (sm _ _ gHB)),at0 _ _,L3,L1,us,ws,rfl,rfl,SqL.of u1,SqL.of u2,u3,_,rfl,cB ?_⟩
    have s6':=sm.trans s5
    refine ⟨_,rfl,_,rfl,_,rfl,y,N2,dB,m,esB,rfl,hTBB.same s6',by rw [mH (nB.trans enm)];exact s5 _ _ gNC,m1,m6,fun L4 H7' s7' t4=>?_⟩
    obtain ⟨us',ws',u1',u2',u3'⟩:=aKe (hTBB.same (s6'.trans s7')) t4 (tBB.kp (.same (s6'.trans s7')))
    refine ⟨_,rfl,Hd,_,1,.ref LB,rfl,rfl,SqL.of (s7' _ _ (s6' _ _ gHB)),at1 _ _ _,L4,LB,us',ws',rfl,rfl,SqL.of u1',SqL.of u2',u3',_,rfl,cB ?_⟩
    have s8':=s6'.trans s7'
    have gN8:=s8' _ _ gNB
    have hT8:=hTAB.same s8'
    have hU8:=hTBB.same s8'
    have gNA:=gN8
    rw [←mH nA] at gNA
    refine ⟨_,rfl,?_⟩
    dsimp only [aJ4,dJ]
    refine lU [none,some (.ref x)] (jF 11 (by decide +kernel) rfl rfl (by trivial)) ⟨_,rfl,N2,rfl,⟨_,SqL.of gNA⟩,?_⟩
    refine jO (K:=K) (esA.map fun e=>V.str e.n) ⟨none,rfl⟩ (by rw [List.length_map];lia) (rY fun H' s'=>SqL.of (s' _ _ gNA)) (jJ fun H' s'=>SqL.of (s' _ _ gNA)) (vQ esA) (fun i z ez σ2 H' R hat sm r=>?_) fun W1 Hq Lw1 sq hW1 gW1 lW1 aW1=>?_
    ·rw [List.getElem?_map] at ez
     obtain ⟨e,he,rfl⟩:=Option.map_eq_some_iff.mp ez
     obtain ⟨l,rfl⟩:=hat
     rw [iT he] at r
     obtain ⟨dx',hx'⟩:=(hT8.same sm).1
     exact ⟨_,rfl,x,dx',_,rfl,hx',rfl,_,rfl,x,dA,m,esA,e,rfl,hT8.same sm,List.mem_of_getElem? he,fun L H2 hL s2 hR=>r L H2 hL s2 hR⟩
    have gNq:=sq _ _ gN8
    rw [←mH (nB.trans enm)] at gNq
    have hUq:=hU8.same sq
    refine lU [none,some (.ref y)] (jF 12 (by decide +kernel) rfl rfl (by trivial)) ⟨_,rfl,N2,rfl,⟨_,SqL.of gNq⟩,?_⟩
    refine jO (K:=K) (esB.map fun e=>V.str e.n) ⟨none,rfl⟩ (by rw [List.length_map];lia) (rY fun H' s'=>SqL.of (s' _ _ gNq)) (jJ fun H' s'=>SqL.of (s' _ _ gNq)) (vQ esB) (fun i z ez σ2 H' R hat sm r=>?_) fun W2 Hr Lw2 sr hW2 gW2 lW2 aW2=>?_
    ·rw [List.getElem?_map] at ez
     obtain ⟨e,he,rfl⟩:=Option.map_eq_some_iff.mp ez
     obtain ⟨l,rfl⟩:=hat
     rw [iT he] at r
     obtain ⟨dx',hx'⟩:=(hUq.same sm).1
     exact ⟨_,rfl,y,dx',_,rfl,hx',rfl,_,rfl,y,dB,m,esB,e,rfl,hUq.same sm,List.mem_of_getElem? he,fun L H2 hL s2 hR=>r L H2 hL s2 hR⟩
    refine ⟨by show 2≤sizeLine;decide,fun Z Hs hZ ss gZ=>?_⟩
    have sBs:=s8'.trans (sq.trans (sr.trans ss))
    rw [List.length_map] at lD1 lD2 lW1 lW2
    refine ⟨Dd,Z,_,_,rfl,rfl,SqL.of (sBs _ _ gDB),SqL.of gZ,.cons ?_ (.cons ?_ .nil),q _ (sBs _ _ gPB)⟩
    ·refine zQ (sBs _ _ g1B) (ss _ _ (sr _ _ gW1)) (by lia) fun i L M e1 e2=>?_
     obtain ⟨e,he⟩:∃e,es0[i]?=some e:=⟨_,List.getElem?_eq_getElem (by have:=(List.getElem?_eq_some_iff.mp e1).1;lia)⟩
     obtain ⟨e',he',v,L',rfl,_⟩:=dF aA he
     have r1:=(a1B i L e1).same sBs
     have r2:=(aW1 i M e2).2.same (sr.trans ss)
     rw [iT he] at r1
     rw [iT he'] at r2
     exact tR r1 r2 fun r hr=>(hes e (List.mem_of_getElem? he)).1.flat r (aD6 hr)
    ·refine zQ (sBs _ _ g2B) (ss _ _ gW2) (by lia) fun i L M e1 e2=>?_
     obtain ⟨e,he⟩:∃e,es2[i]?=some e:=⟨_,List.getElem?_eq_getElem (by have:=(List.getElem?_eq_some_iff.mp e1).1;lia)⟩
     obtain ⟨e',he',v,L',rfl,_⟩:=dF aB he
     have r1:=(a2B i L e1).same sBs
     have r2:=(aW2 i M e2).2.same ss
     rw [iT he] at r1
     rw [iT he'] at r2
     exact tR r1 r2 fun r hr=>(hes2 e (List.mem_of_getElem? he)).1.flat r (aD6 hr)
theorem aUm {fa Pt:Addr} (T:Txt w K mg) (C:aOv K mg "are_cuts" Pt) (hmg:mg "law"=some (.ref fa)) :
  ∃fd:FuncData,(∀(s:Shared) (u:Value),BindsTo s fd ⟨[u],[]⟩ [("_law_script",u)])∧∀base:Heap,K.In base→base.Ns mainGlobals mg→BM mg base→jD P w K mg base CX0 13 fa fd ["_law_script"] (aJ9 K Pt):=by
 obtain ⟨f,fd,F,B,m⟩:=T.aWi
 have e:fa=f:=by
  rw [m] at hmg
  injection hmg with e
  injection e with e
  exact e.symm
 subst e
 refine ⟨fd,?_,fun base hK _ hbm=>?_⟩
 ·obtain ⟨⟨oc,od,kV,doc,pm,an,cdv,ct,osl,rfl,lk,hcd⟩,kp⟩:=F
  exact fun s u=>.of_eq rfl
 ·obtain ⟨Tc,D,m0,m1,m2,m3,m4,m5,m6,a1,a2⟩:=T.aVi
  have c:=D.cls
  have g1:=aFf (P:=P) (base:=base) T
  have g2:=aJj (P:=P) (base:=base) T
  have g3:=aIo T g2
  have g4:=aFz T g1 g2
  have g5:=aHg T g1
  have g6:=aDf (P:=P) (base:=base) T
  have nb:=rW T g1
  have nms:=aDz (P:=P) (base:=base) T
  have cuts:=aGg T C hK hbm (wL T) (aM0 T nb) (oU T g4 g5)
  have pl:=aA5 T g6 (wI T g3 nms) (aHu T) cuts
  have tb:=aFk T (aFb T (aDp T g3 g6) (xV T) (aAw T) nms) pl (aEn T (aHy T (oU T g4 g5)))
  have pt:=vP T (aCy T g1 g3 tb)
  have tin:=aGc T g3
  have ra:=aI3 T nb (aDu T (aF5 T nms) (aSc T g1 (zH T)) (aLk T))
  have n1:=aDs (P:=P) (base:=base) T
  have n2:=aA4 T n1 (aA0 T n1)
  have hs:=aJb (P:=P) (w:=w) (mg:=mg) (base:=base) T c m1 a2
  have hd:=aLn (P:=P) (w:=w) (mg:=mg) (base:=base) T c m2 a1
  have wh:=aLa T c m4 a1 tin
  have tbs:=aI8 (P:=P) (w:=w) (mg:=mg) (base:=base) T c m5 a1
  have pa:=aM4 T c m6 a1 a2 tin ra
  have rw_:=aFp T n2
  exact aTs F T (aAl T (aC2 T)) (aAx T n1 (aA2 T)) n1 rw_ (aDo T n1 (aEc T n1) (wJ T n1 n2) rw_) (OkM.make D (aNl T c m0 a1 a2 pt)) wh (aC5 T hs hd (aFm T c m3 a1 tin) wh tbs pa) (aAu T hd wh tbs pa)
theorem aOs {Pt:Addr} {H:Hp} {a:Addr} {ns:List Int} {E:XK} (hl:ns.length≤63) (hT:qR [(Pt,qC)] H) (hS:SqL K H a (ns.map V.int)):aJ9 K Pt [.ref a] H (fun v H'=>v=.bl true∧qR [(Pt,qC)] H') E:=
 ⟨a,ns,rfl,hS,hl,hT _ (List.mem_singleton.mpr rfl),fun H' h=>⟨rfl,fun p hp=>by rcases List.mem_singleton.mp hp with rfl;exact h⟩⟩
theorem aTx {h:Heap} {Pt f c:Addr} {o:Obj} {fd:FuncData} (X:K.In h) (G:h.Ns mainGlobals mg) (a:PySem.W.nsIn K mainGlobals "are_cuts"=some (some (.ref f))) (l:K.lookup f=some o) (e1:o.data=.func fd) (e2:fd.code=.ref c) (hh:PySem.W.codeHdIn K c Pt=true):aOv K mg "are_cuts" Pt:=
 ⟨f,o,fd,c,PySem.W.mg_of X G a,l,e1,e2,hh⟩
theorem aRb {Pt f c:Addr} {o:Obj} {fd:FuncData} (a:PySem.W.nsIn K mainGlobals "are_cuts"=some (some (.ref f))) (l:K.lookup f=some o) (e1:o.data=.func fd) (e2:fd.code=.ref c) (hh:PySem.W.codeHdIn K c Pt=true) (n:K.lookup Pt=none) :
  ∀p∈[(Pt,qC)],(∃c,PySem.W.codeHdIn K c p.1=true)∧K.lookup p.1=none:=fun p hp=>by
 rcases List.mem_singleton.mp hp with rfl
 exact ⟨⟨c,hh⟩,n⟩
theorem aRr {Pt:Addr} {h:Heap} (x:∀P∈[Pt],h.get? P=some (PySem.W.tabObj #[])):∀p∈[(Pt,qC)],h.get? p.1=some { cls:=.none,data:=.fields #[] }:=fun p hp=>by
 rcases List.mem_singleton.mp hp with rfl
 exact x _ (List.mem_singleton.mpr rfl)
theorem aLj {l:PySem.W.OpenLaw} {n k:Nat} {q:Program} {loose:List Str} {XP:(Str→Option Value)→Heap→Prop} {YP:World→Heap→Prop} {d:DefRec} {K:Params→PySem.W.Frag} {CX:CXT} {sp:PySem.W.Frag→Sp} {x:Str}
  (hn:l.most=some n) (hn2:n≤sizeLine) (hdf:d.params.defaults=[]) (hr:Room k callerA)
  (ts:List (Addr × Str)) (hnd:(ts.map (·.1)).Nodup)
  (hY:∀(w:World) (h:Heap),YP w h→(K w.params).In h∧∀p∈ts,h.get? p.1=some { cls:=.none,data:=.fields #[] })
  (hC:∀(w:World),∀p∈ts,(∃c,PySem.W.codeHdIn (K w.params) c p.1=true)∧(K w.params).lookup p.1=none)
  (F:∀(w:World) (mg:Str→Option Value) (fa:Addr) (h:Heap),(K w.params).In h→h.Ns mainGlobals mg→mg d.name=some (.ref fa) →
   ∃fd:FuncData,(∀(s:Shared) (u:Value),BindsTo s fd ⟨[u],[]⟩ [(x,u)]) ∧
    ∀base:Heap,(K w.params).In base→base.Ns mainGlobals mg→BM mg base→jD l.prog w (K w.params) mg base CX k fa fd [x] (sp (K w.params)))
  (hsp:∀(K:PySem.W.Frag) (H:Hp) (a:Addr) (ns:List Int),ns.length≤n→qR ts H→SqL K H a (ns.map V.int)→sp K [.ref a] H (fun v H'=>v=.bl true∧qR ts H') fun _ _ _=>False)
  (hCX:∀(H:Hp) (s:Shared) (e:Value) (s':Shared),CX [] H s (fun _ _ _=>False) e s'→False) :
  PySem.W.WalkO q loose XP YP l.row.toRowW d [] (fun f vs=>PySem.call f vs):=
 aPg (K:=K) (CX:=fun _=>CX) (sp:=fun w=>sp (K w.params)) hn hn2 hdf hr ts hnd hY hC F (fun w H a ns h1 h2 h3=>hsp (K w.params) H a ns h1 h2 h3) fun _ H s e s'=>hCX H s e s'
end
inductive FA (K:PySem.W.Frag) (n:Str) (s:Stmt) (f:Addr):Prop
 |mk {od an:Option Addr} {sl:Array (Option Value)} {kV dc pm cd ct:Value}:PySem.W.nsIn K mainGlobals n=some (some (.ref f))→K.lookup f=some ⟨.type "function",od,.func (PySem.W.fnOf n n (kY s) (dZ s) (aH s) .none kV dc pm an cd ct),sl⟩→PySem.W.codeIn K cd n=true→PySem.W.keepIn K (.ref f)=true→FA K n s f
section
variable {K:PySem.W.Frag} {h:Heap} {mg:Str→Option Value} {n:Str} {s:Stmt} {f:Addr} {ps:List Str}
theorem aS3 (X:K.In h) (G:h.Ns mainGlobals mg) (a:FA K n s f):mg n=some (.ref f):=by
 obtain ⟨a,_,_,_⟩:=a
 exact PySem.W.mg_of X G a
theorem bQ (X:K.In h) (G:h.Ns mainGlobals mg) (a:FA K n s f) (b:∀(kV doc pm:Value) (an:Option Addr) (cdv ct:Value) (us:List Value),us.length=ps.length→bindArgs (PySem.W.fnOf n n (kY s) (dZ s) (aH s) .none kV doc pm an cdv ct) ⟨us,[]⟩=pure (ps.zip us)):Dn K mg n s ps:=by
 have m:=aS3 X G a
 obtain ⟨_,l,c,k⟩:=a
 exact ⟨f,_,aD9 l c k,(aD9 l c k).binds b,m⟩
theorem aWn (X:K.In h) (G:h.Ns mainGlobals mg) (a:FA K n s f):∃f o,(∃u,mg n=some u∧RelV (.ref f) u)∧K.lookup f=some o∧o.cls=.type "function":=by
 have m:=aS3 X G a
 obtain ⟨_,l,c,k⟩:=a
 exact ⟨f,_,⟨_,m,rfl⟩,l,rfl⟩
end
inductive CA (K:PySem.W.Frag) (x:Str) (C:Addr):Prop
 |mk:PySem.W.nsIn K mainGlobals x=some (some (.ref C))→PySem.W.plainGet K C Str.empty=true→PySem.W.hasDictIn K C=true→PySem.W.plainOver K C=true→PySem.W.findIn K (.ref C) "__setattr__"=some (some (.builtin "object.__setattr__"))→PySem.W.makesIn K C=true→PySem.W.keepIn K (.ref C)=true→CA K x C
theorem aVr {K:PySem.W.Frag} {h:Heap} {mg:Str→Option Value} {x:Str} {C:Addr} (X:K.In h) (G:h.Ns mainGlobals mg) (a:CA K x C):aVa K mg x C:=by
 obtain ⟨a,p1,p2,p3,p4,p5,p6⟩:=a
 exact ⟨PySem.W.mg_of X G a,⟨p1,p2,p3,p4⟩,p5,p6⟩
inductive MA (K:PySem.W.Frag) (C:Addr) (m qual:Str) (s:Stmt) (f:Addr):Prop
 |mk {od an:Option Addr} {sl:Array (Option Value)} {kV dc pm cd ct:Value}:PySem.W.findIn K (.ref C) m=some (some (.ref f))→PySem.W.isFn K (.ref f)=true→K.lookup f=some ⟨.type "function",od,.func (PySem.W.fnOf m qual (kY s) (dZ s) (aH s) .none kV dc pm an cd ct),sl⟩→PySem.W.codeIn K cd qual=true→PySem.W.keepIn K (.ref f)=true→MA K C m qual s f
theorem xE {K:PySem.W.Frag} {C:Addr} {m qual:Str} {s:Stmt} {f:Addr} {ps:List Str} (a:MA K C m qual s f) (b:∀(kV doc pm:Value) (an:Option Addr) (cdv ct:Value) (us:List Value),us.length=ps.length→bindArgs (PySem.W.fnOf m qual (kY s) (dZ s) (aH s) .none kV doc pm an cdv ct) ⟨us,[]⟩=pure (ps.zip us)):qI K C m qual s ps:=by
 obtain ⟨a,i,l,c,k⟩:=a
 exact ⟨f,_,⟨a,i,k⟩,aD9 l c k,(aD9 l c k).binds b⟩
theorem ln0 {P:List Value→Prop} (h:P []):∀us:List Value,us.length=0→P us
 |[],_=>h
theorem ln1 {P:List Value→Prop} (h:∀a0,P [a0]):∀us:List Value,us.length=1→P us
 |[a0],_=>h a0
theorem ln2 {P:List Value→Prop} (h:∀a0 a1,P [a0,a1]):∀us:List Value,us.length=2→P us
 |[a0,a1],_=>h a0 a1
theorem ln3 {P:List Value→Prop} (h:∀a0 a1 a2,P [a0,a1,a2]):∀us:List Value,us.length=3→P us
 |[a0,a1,a2],_=>h a0 a1 a2
theorem ln4 {P:List Value→Prop} (h:∀a0 a1 a2 a3,P [a0,a1,a2,a3]):∀us:List Value,us.length=4→P us
 |[a0,a1,a2,a3],_=>h a0 a1 a2 a3
theorem ln5 {P:List Value→Prop} (h:∀a0 a1 a2 a3 a4,P [a0,a1,a2,a3,a4]):∀us:List Value,us.length=5→P us
 |[a0,a1,a2,a3,a4],_=>h a0 a1 a2 a3 a4
theorem ln6 {P:List Value→Prop} (h:∀a0 a1 a2 a3 a4 a5,P [a0,a1,a2,a3,a4,a5]):∀us:List Value,us.length=6→P us
 |[a0,a1,a2,a3,a4,a5],_=>h a0 a1 a2 a3 a4 a5
local macro_rules
 |`(tactic| trivial)=>`(tactic| first|exact (fun _ _ _ _ _ _=>ln1 fun _=>rfl)|exact (fun _ _ _ _ _ _=>ln2 fun _ _=>rfl)|exact (fun _ _ _ _ _ _=>ln3 fun _ _ _=>rfl)|exact (fun _ _ _ _ _ _=>ln4 fun _ _ _ _=>rfl)|exact (fun _ _ _ _ _ _=>ln0 rfl)|exact (fun _ _ _ _ _ _=>ln5 fun _ _ _ _ _=>rfl)|exact (fun _ _ _ _ _ _=>ln6 fun _ _ _ _ _ _=>rfl))
theorem aVj {K:PySem.W.Frag} {h:Heap} {mg:Str→Option Value} (X:K.In h) (G:h.Ns mainGlobals mg) {w:World} {f0 f1 f2 f3 f4 f5 f6 f7 f8 f9 f10 f11 f12 f13 f14 f15 f16 f17 f18 f19 f20 f21 f22 f23 f24 f25 f26 f27 f28 f29 f37 f38 f39 f40 f41 f42 f43 f44 f45 f46 f47 f48 f49 f50:Addr} {lC:Addr} {eE:Obj} {jY:Array Value} {tU:Nat} {aH2:Tok} {aE5:Addr} {tM:Obj} {aGp:Array Value} {aOo:Nat} {wW:Tok} {wM:Tok} {aD0:Tok} {yZ:Tok} {aDx:Tok} {C_Town:Addr} {g0 g1 g2 g3 g4 g5 g6:Addr}
  (a0:FA K "is_whole" rR f0)
  (a1:FA K "is_number_below" fQ f1)
  (a2:FA K "is_word" uP f2)
  (a3:FA K "is_one_of" oM f3)
  (a4:FA K "is_tuple_of" fC f4)
  (a5:FA K "are_unlike" mZ f5)
  (a6:FA K "names_of" rB f6)
  (a7:FA K "is_name" vB f7)
  (a8:FA K "is_value" rH f8)
  (a9:FA K "kind_of" vN f9)
  (a10:FA K "is_value_of" lJ f10)
  (a11:FA K "is_column" oZ f11)
  (a12:FA K "is_head" uL f12)
  (a13:FA K "is_row" zM f13)
  (a14:FA K "word_number" lK f14)
  (a15:FA K "home" aIs f15)
  (a16:FA K "kind_in" vA f16)
  (a17:FA K "place_of" rN f17)
  (a18:FA K "is_cut" aAd f18)
  (a19:FA K "are_cuts" nO f19)
  (a20:FA K "is_column_in" jN f20)
  (a21:FA K "is_placing" mR f21)
  (a22:FA K "are_rows" mY f22)
  (a23:FA K "is_table" rD f23)
  (a24:FA K "need_town" oN f24)
  (a25:FA K "placed_tables" iY f25)
  (a26:FA K "table_in" qY f26)
  (a27:FA K "cut_of" xN f27)
  (a28:FA K "stands_at" oW f28)
  (a29:FA K "rows_at" pZ f29)
  (a37:FA K "_law_seed" oJ f37)
  (a38:FA K "_law_begin" nP f38)
  (a39:FA K "_law_next" pQ f39)
  (a40:FA K "_law_words" nG f40)
  (a41:FA K "_law_names" jG f41)
  (a42:FA K "_law_great" mO f42)
  (a43:FA K "_law_value" mV f43)
  (a44:FA K "_law_head" pM f44)
  (a45:FA K "_law_row" nH f45)
  (a46:FA K "_law_placing" gC f46)
  (a47:FA K "_law_town" kJ f47)
  (a48:FA K "_law_told" kO f48)
  (a49:FA K "_law_spoil" nJ f49)
  (a50:FA K "law" vX f50)
  (q0:PySem.W.nsIn K mainGlobals "QUESTION_WORDS"=some (some (.ref lC))) (r0:K.lookup lC=some eE) (t0:eE.cls=.type "tuple") (y0:eE.dict=none) (u0:eE.data=.seq jY tU) (v0:Vals [.str "and",.str "by",.str "count",.str "down",.str "first",.str "group",.str "join",.str "keep",.str "least",.str "most",.str "named",.str "on",.str "sum",.str "table",.str "up",.str "where",.str "with"] jY.toList)
  (q1:PySem.W.nsIn K mainGlobals "LETTERS"=some (some (.str "abcdefghijklmnopqrstuvwxyz" aH2)))
  (q2:PySem.W.nsIn K mainGlobals "KINDS"=some (some (.ref aE5))) (r2:K.lookup aE5=some tM) (t2:tM.cls=.type "tuple") (y2:tM.dict=none) (u2:tM.data=.seq aGp aOo) (v2:Vals [.str "number",.str "word"] aGp.toList)
  (q3:PySem.W.nsIn K mainGlobals "MOST_LETTERS"=some (some (.int 8 wW)))
  (q4:PySem.W.nsIn K mainGlobals "MOST_COLUMNS"=some (some (.int 8 wM)))
  (q5:PySem.W.nsIn K mainGlobals "WORD_BASE"=some (some (.int 27 aD0)))
  (q6:PySem.W.nsIn K mainGlobals "MOST_HOUSES"=some (some (.int 6 yZ)))
  (q7:PySem.W.nsIn K mainGlobals "MOST_CUTS"=some (some (.int 8 aDx)))
  (z0:PySem.W.nsIn K mainGlobals "ValueError"=some none)
  (z1:PySem.W.nsIn K mainGlobals "abs"=some none)
  (z2:PySem.W.nsIn K mainGlobals "all"=some none)
  (z3:PySem.W.nsIn K mainGlobals "any"=some none)
  (z4:PySem.W.nsIn K mainGlobals "bool"=some none)
  (z5:PySem.W.nsIn K mainGlobals "dict"=some none)
  (z6:PySem.W.nsIn K mainGlobals "divmod"=some none)
  (z7:PySem.W.nsIn K mainGlobals "enumerate"=some none)
  (z8:PySem.W.nsIn K mainGlobals "int"=some none)
  (z9:PySem.W.nsIn K mainGlobals "isinstance"=some none)
  (z10:PySem.W.nsIn K mainGlobals "len"=some none)
  (z11:PySem.W.nsIn K mainGlobals "list"=some none)
  (z12:PySem.W.nsIn K mainGlobals "range"=some none)
  (z13:PySem.W.nsIn K mainGlobals "reversed"=some none)
  (z14:PySem.W.nsIn K mainGlobals "set"=some none)
  (z15:PySem.W.nsIn K mainGlobals "sorted"=some none)
  (z16:PySem.W.nsIn K mainGlobals "str"=some none)
  (z17:PySem.W.nsIn K mainGlobals "tuple"=some none)
  (z18:PySem.W.nsIn K mainGlobals "zip"=some none)
  (eTown:CA K "Town" C_Town)
  (b0:MA K C_Town "__init__" "Town.__init__" fH g0)
  (b1:MA K C_Town "houses" "Town.houses" iM g1)
  (b2:MA K C_Town "heads" "Town.heads" jC g2)
  (b3:MA K C_Town "placing" "Town.placing" gH g3)
  (b4:MA K C_Town "whole" "Town.whole" jE g4)
  (b5:MA K C_Town "tables" "Town.tables" iJ g5)
  (b6:MA K C_Town "part" "Town.part" jX g6)
  (d0:dC K C_Town "placed")
  (d1:dC K C_Town "house_count"):Txt w K mg:=
 ⟨PySem.W.mg_none_of X G z0,
  PySem.W.mg_none_of X G z1,
  PySem.W.mg_none_of X G z2,
  PySem.W.mg_none_of X G z3,
  PySem.W.mg_none_of X G z4,
  PySem.W.mg_none_of X G z5,
  PySem.W.mg_none_of X G z6,
  PySem.W.mg_none_of X G z7,
  PySem.W.mg_none_of X G z8,
  PySem.W.mg_none_of X G z9,
  PySem.W.mg_none_of X G z10,
  PySem.W.mg_none_of X G z11,
  PySem.W.mg_none_of X G z12,
  PySem.W.mg_none_of X G z13,
  PySem.W.mg_none_of X G z14,
  PySem.W.mg_none_of X G z15,
  PySem.W.mg_none_of X G z16,
  PySem.W.mg_none_of X G z17,
  PySem.W.mg_none_of X G z18,
  ⟨_,PySem.W.mg_of X G q0,fun H=>.inr ⟨_,_,_,r0,t0,y0,u0,by have e:=v0.length;simp only [Array.length_toList] at e;rw [←e];exact small (by decide),v0⟩⟩,
  ⟨_,PySem.W.mg_of X G q1,_,rfl⟩,
  ⟨_,PySem.W.mg_of X G q2,fun H=>.inr ⟨_,_,_,r2,t2,y2,u2,by have e:=v2.length;simp only [Array.length_toList] at e;rw [←e];exact small (by decide),v2⟩⟩,
  ⟨_,PySem.W.mg_of X G q3,_,rfl⟩,
  ⟨_,PySem.W.mg_of X G q4,_,rfl⟩,
  ⟨_,PySem.W.mg_of X G q5,_,rfl⟩,
  ⟨_,PySem.W.mg_of X G q6,_,rfl⟩,
  ⟨_,PySem.W.mg_of X G q7,_,rfl⟩,
  aWn X G a11,
  bQ X G a0 (by trivial),
  bQ X G a1 (by trivial),
  bQ X G a2 (by trivial),
  bQ X G a3 (by trivial),
  bQ X G a4 (by trivial),
  bQ X G a5 (by trivial),
  bQ X G a6 (by trivial),
  bQ X G a7 (by trivial),
  bQ X G a8 (by trivial),
  bQ X G a9 (by trivial),
  bQ X G a10 (by trivial),
  bQ X G a11 (by trivial),
  bQ X G a12 (by trivial),
  bQ X G a13 (by trivial),
  bQ X G a14 (by trivial),
  bQ X G a15 (by trivial),
  bQ X G a16 (by trivial),
  bQ X G a17 (by trivial),
  bQ X G a18 (by trivial),
  bQ X G a19 (by trivial),
  bQ X G a20 (by trivial),
  bQ X G a21 (by trivial),
  bQ X G a22 (by trivial),
  bQ X G a23 (by trivial),
  bQ X G a24 (by trivial),
  bQ X G a25 (by trivial),
  bQ X G a26 (by trivial),
  bQ X G a27 (by trivial),
  bQ X G a28 (by trivial),
  bQ X G a29 (by trivial),
  bQ X G a37 (by trivial),
  bQ X G a38 (by trivial),
  bQ X G a39 (by trivial),
  bQ X G a40 (by trivial),
  bQ X G a41 (by trivial),
  bQ X G a42 (by trivial),
  bQ X G a43 (by trivial),
  bQ X G a44 (by trivial),
  bQ X G a45 (by trivial),
  bQ X G a46 (by trivial),
  bQ X G a47 (by trivial),
  bQ X G a48 (by trivial),
  bQ X G a49 (by trivial),
  bQ X G a50 (by trivial),
  ⟨C_Town,aVr X G eTown,xE b0 (by trivial),xE b1 (by trivial),xE b2 (by trivial),xE b3 (by trivial),xE b4 (by trivial),xE b5 (by trivial),xE b6 (by trivial),d0,d1⟩⟩
end My
open PySem PySem.W PyProof.Rows
def PySem.W.Fast.tw12317897968718793367:=0
def PySem.W.Fast.tw8111872172871581366:=0
def PySem.W.Fast.tw8210050877653271108:=0
def PySem.W.Fast.tw9397447386419379407:=0
def PySem.W.Fast.tw18434139204464304283:=0
def PySem.W.Fast.tw6087578376834806116:=0
def PySem.W.Fast.tw3373345404213992959:=0
def PySem.W.Fast.tw3474934972160714698:=0
def PySem.W.Fast.tw13538130692318679959:=0
def PySem.W.Fast.tw12544697500115251405:=0
def PySem.W.Fast.tw1626941260560019589:=0
def PySem.W.Fast.tw5878641913048082444:=0
def PySem.W.Fast.tw13632501747499099595:=0
def PySem.W.Fast.tw737842244595778:=0
def PySem.W.Fast.tw1274191022777161134:=0
def PySem.W.Fast.tw9115452896370935302:=0
def PySem.W.Fast.tw3187584888737530949:=0
def PySem.W.Fast.tw5019967437469441481:=0
def PySem.W.Fast.tw9413476066846355266:=0
def PySem.W.Fast.tw2573062504342650833:=0
def PySem.W.Fast.tw4056054777347057162:=0
def PySem.W.Fast.tw10310683374681288107:=0
def PySem.W.Fast.tw393662999097399413:=0
def PySem.W.Fast.tw9495614857849868542:=0
def PySem.W.Fast.tw6034222244693343486:=0
def PySem.W.Fast.tw4904902297492882778:=0
def PySem.W.Fast.tw4984767111436170798:=0
def PySem.W.Fast.tw3982267513281337796:=0
def PySem.W.Fast.tw11973840471350015264:=0
def PySem.W.Fast.tw16399285098522117951:=0
def PySem.W.Fast.tw17653554375328872728:=0
def PySem.W.Fast.tw18131008354314345790:=0
def PySem.W.Fast.tw16333185029948477520:=0
def PySem.W.Fast.tw12924009588813147863:=0
def PySem.W.Fast.tw4711558333293491964:=0
def PySem.W.Fast.tw16647517609296926010:=0
def PySem.W.Fast.tw12303074107919054588:=0
def PySem.W.Fast.tw8995840821257532646:=0
def PySem.W.Fast.tw10975488201587668374:=0
def PySem.W.Fast.tw16019476556140269065:=0
def PySem.W.Fast.tw2081952304638072705:=0
def PySem.W.Fast.tw6085628742537542981:=0
def PySem.W.Fast.tw7353601389253218735:=0
def PySem.W.Fast.tw8121569324770866701:=0
def PySem.W.Fast.tw16280817080954535186:=0
def PySem.W.Fast.tw11566636940476971587:=0
def PySem.W.Fast.tw13780802514471449138:=0
def PySem.W.Fast.tw15559598313865935668:=0
def PySem.W.Fast.tw16914039235137953346:=0
def PySem.W.Fast.tw7371295712688660683:=0
def PySem.W.Fast.tw1846536670260345716:=0
def PySem.W.Fast.tw8015930449878227265:=0
def PySem.W.Fast.tw11930422230188105347:=0
def PySem.W.Fast.tw7821622245083055836:=0
def PySem.W.Fast.tw6010914710162813879:=0
def PySem.W.Fast.tw2271985922036240816:=0
def PySem.W.Fast.tw16929537751908017192:=0
def PySem.W.Fast.tw15752337949520381305:=0
def PySem.W.Fast.tw4322825778484657307:=0
def PySem.W.Fast.tw4535837147087872853:=0
def PySem.W.Fast.tw15524630105080026694:=0
def PySem.W.Fast.tw11622235428064949542:=0
def PySem.W.Fast.tw17786169998454957802:=0
def PySem.W.Fast.tw2224135147993310753:=0
def PySem.W.Fast.tw15536889046523816157:=0
def PySem.W.Fast.tw12460010201605341950:=0
def PySem.W.Fast.tw9001103179587170312:=0
def PySem.W.Fast.tw12688459328147927320:=0
def PySem.W.Fast.tw15631929882146696722:=0
def PySem.W.Fast.tw7437250217446749193:=0
def PySem.W.Fast.tw5610042255571657343:=0
def PySem.W.Fast.tw14067358543410286717:=0
def PySem.W.Fast.tw13162871616607066448:=0
def PySem.W.Fast.tw16693819014940251035:=0
def PySem.W.Fast.tw7941298465259416264:=0
def PySem.W.Fast.tw1390680734452010914:=0
def PySem.W.Fast.tw5157917412344096619:=0
def PySem.W.Fast.tw13446189044153534091:=0
def PySem.W.Fast.tw8923116087421506187:=0
def PySem.W.Fast.tw514916794728273412:=0
def PySem.W.Fast.tw191288682844357767:=0
def PySem.W.Fast.tw16284777887081362136:=0
def PySem.W.Fast.tw18317024432008219005:=0
def PySem.W.Fast.tw12540717882705574105:=0
def PySem.W.Fast.tw7482756450118523853:=0
def PySem.W.Fast.tw2393497439447270659:=0
def PySem.W.Fast.tw856660310627347819:=0
def PySem.W.Fast.tw3634053452514363288:=0
def PySem.W.Fast.tw11424454315378250059:=0
def PySem.W.Fast.tw3413609193800445005:=0
def PySem.W.Fast.tw8337663285763396511:=0
def PySem.W.Fast.tw11809035322363652073:=0
def PySem.W.Fast.tw12917649085503615518:=0
def PySem.W.Fast.tw15206657877508723027:=0
def PySem.W.Fast.tw8746787168716627830:=0
def PySem.W.Fast.tw8968479524985326594:=0
def PySem.W.Fast.tw3388226161721631378:=0
def PySem.W.Fast.tw9199935100552646678:=0
def PySem.W.Fast.tw7511254007910310021:=0
def PySem.W.Fast.tw14462200405177708484:=0
def PySem.W.Fast.tw1384838679009481380:=0
def PySem.W.Fast.tw6662066701243811554:=0
def PySem.W.Fast.tw4561610927605396006:=0
def PySem.W.Fast.tw9913060821183590437:=0
def PySem.W.Fast.tw763926283649941195:=0
def PySem.W.Fast.tw14482610852969035218:=0
def PySem.W.Fast.tw8542947389954534801:=0
def PySem.W.Fast.tw10875926339180508532:=0
def PySem.W.Fast.tw6494672470474883994:=0
def PySem.W.Fast.tw5856026386596837947:=0
def PySem.W.Fast.tw8627392532411087479:=0
def PySem.W.Fast.tw8501744647624909208:=0
def PySem.W.Fast.tw9545432704413117508:=0
def PySem.W.Fast.tw14876914467158869642:=0
def PySem.W.Fast.tw9444480317841000750:=0
def PySem.W.Fast.tw14834231725722101693:=0
def PySem.W.Fast.tw8492766136738943735:=0
def PySem.W.Fast.tw3618189919842132792:=0
def PySem.W.Fast.tw1101632201673919150:=0
def PySem.W.Fast.tw8408602429669500747:=0
def PySem.W.Fast.tw1695819956451631238:=0
def PySem.W.Fast.tw13726701992186118318:=0
def PySem.W.Fast.tw1085449672051560490:=0
def PySem.W.Fast.tw1175908760717522464:=0
def PySem.W.Fast.tw8135210105666360533:=0
def PySem.W.Fast.tw3513466251483392400:=0
def PySem.W.Fast.tw5889412797807084502:=0
def PySem.W.Fast.tw3057236508052579201:=0
def PySem.W.Fast.tw11118671932904849656:=0
def PySem.W.Fast.tw8515943394455669332:=0
def PySem.W.Fast.tw12819439464537304056:=0
def PySem.W.Fast.tw10353483728946129988:=0
def PySem.W.Fast.tw18445264170518241640:=0
def PySem.W.Fast.tw11638178036670586973:=0
def PySem.W.Fast.tw15794989786452072256:=0
def PySem.W.Fast.tw16171692419546971899:=0
def PySem.W.Fast.tw17448006746367072738:=0
def PySem.W.Fast.tw8057185045458791049:=0
def PySem.W.Fast.tw10819531454312055661:=0
def PySem.W.Fast.tw875726852785859124:=0
def PySem.W.Fast.tw11243488255343343779:=0
def PySem.W.Fast.tw3064718931831158765:=0
def PySem.W.Fast.tw11278829963609258214:=0
def PySem.W.Fast.tw6900454948474482426:=0
def PySem.W.Fast.tw9735910913775843239:=0
def PySem.W.Fast.tw6946156361431462123:=0
def PySem.W.Fast.tw9598753565237562418:=0
def PySem.W.Fast.tw14614804758153575013:=0
def PySem.W.Fast.tw8383634029687641955:=0
def PySem.W.Fast.tw13577940534343255149:=0
def PySem.W.Fast.tw14285034448073163539:=0
def PySem.W.Fast.tw17793367843996882260:=0
def PySem.W.Fast.tw16312109414555649998:=0
def PySem.W.Fast.tw14972292760663281365:=0
def PySem.W.Fast.tw8058038889167674891:=0
def PySem.W.Fast.tw10224412987180897474:=0
def PySem.W.Fast.tw9985750795088959140:=0
def PySem.W.Fast.tw1400209640126949986:=0
def PySem.W.Fast.tw3254826144191078088:=0
def PySem.W.Fast.tw1230058935334892868:=0
def PySem.W.Fast.tw16662980038070801730:=0
def PySem.W.Fast.tw17479109742287257841:=0
def PySem.W.Fast.tw4292088445598071567:=0
def PySem.W.Fast.tw10549389416534905212:=0
def PySem.W.Fast.tw2048253094985152889:=0
def PySem.W.Fast.tw8753890842093253325:=0
def PySem.W.Fast.tw2083919753761323523:=0
def PySem.W.Fast.tw2069714489380476160:=0
def PySem.W.Fast.tw3760062623191409207:=0
def PySem.W.Fast.tw8257554156524658268:=0
def PySem.W.Fast.tw18323626148304462747:=0
def PySem.W.Fast.tw10060410525558364239:=0
def PySem.W.Fast.tw10599137148737832582:=0
def PySem.W.Fast.tw6405403446630357638:=0
def PySem.W.Fast.tw1979700851289129081:=0
def PySem.W.Fast.tw13048043909100382995:=0
def PySem.W.Fast.tw18042398892168325196:=0
def PySem.W.Fast.tw4316532587076855220:=0
def PySem.W.Fast.tw4492766523525741363:=0
def PySem.W.Fast.tw5698887961368875852:=0
def PySem.W.Fast.tw17635382873877311396:=0
def PySem.W.Fast.tw2069380208959234004:=0
def PySem.W.Fast.tw15204019020870109246:=0
def PySem.W.Fast.tw13555011634483426637:=0
def PySem.W.Fast.tw18082671664214136885:=0
def PySem.W.Fast.tw5452300809582989636:=0
def PySem.W.Fast.tw3856382496613490771:=0
def PySem.W.Fast.tw14859879287613587657:=0
def PySem.W.Fast.tw4100161741209676810:=0
def PySem.W.Fast.tw10350810245506628791:=0
def PySem.W.Fast.tw11483930062190790619:=0
def PySem.W.Fast.tw1258001239497045334:=0
def PySem.W.Fast.tw148456504854176626:=0
def PySem.W.Fast.tw15281833156548516427:=0
def PySem.W.Fast.tw10902464244125502753:=0
def PySem.W.Fast.tw5189050970573120632:=0
def PySem.W.Fast.tw17442651155145803071:=0
def PySem.W.Fast.tw16649655455383839898:=0
def PySem.W.Fast.tw7211281862563925319:=0
def PySem.W.Fast.tw1854396206557366749:=0
def PySem.W.Fast.tw5191422819925505639:=0
def PySem.W.Fast.tw8123807413079493775:=0
def PySem.W.Fast.tw2734452994883924619:=0
def PySem.W.Fast.tw8899010306488031954:=0
def PySem.W.Fast.tw15937444617341821942:=0
def PySem.W.Fast.tw1521883833799552939:=0
def PySem.W.Fast.tw9665882612777152827:=0
def PySem.W.Fast.tw6259242691285777756:=0
def PySem.W.Fast.tw16541911424131543979:=0
def PySem.W.Fast.tw15086133176987984551:=0
def PySem.W.Fast.tw13125979180978587128:=0
def PySem.W.Fast.tw1133552096578194492:=0
def PySem.W.Fast.tw14473918303408080955:=0
def PySem.W.Fast.tw9569228910649313377:=0
def PySem.W.Fast.tw17435792417995475895:=0
def PySem.W.Fast.tw13408933276301880011:=0
def PySem.W.Fast.tw1899439690983599177:=0
def PySem.W.Fast.tw8473858155638467745:=0
def PySem.W.Fast.tw16961467445941030441:=0
def PySem.W.Fast.tw9668179547485464649:=0
def PySem.W.Fast.tw3876330973408079421:=0
def PySem.W.Fast.tw16897216567170636115:=0
def PySem.W.Fast.tw5282412919573378851:=0
def PySem.W.Fast.tw5916211397621815356:=0
def PySem.W.Fast.tw4555878026865475067:=0
def PySem.W.Fast.tw3261013301216836721:=0
def PySem.W.Fast.tw7918324068960539134:=0
def PySem.W.Fast.tw5569713586907988152:=0
def PySem.W.Fast.tw2367905057537680624:=0
def PySem.W.Fast.tw15605835206223281881:=0
def PySem.W.Fast.tw871430461414409233:=0
def PySem.W.Fast.tw13285532545169576573:=0
def PySem.W.Fast.tw14176137483470096377:=0
def PySem.W.Fast.tw13146255127851726741:=0
def PySem.W.Fast.tw16279097283463558130:=0
def PySem.W.Fast.tw17667360228947958783:=0
def PySem.W.Fast.tw16827711954887222771:=0
def PySem.W.Fast.tw2123675164887893374:=0
def PySem.W.Fast.tw10812604328355605133:=0
def PySem.W.Fast.tw9402432099619798014:=0
def PySem.W.Fast.tw5959550016829428767:=0
def PySem.W.Fast.tw15055586128604720829:=0
def PySem.W.Fast.tw14099771808244215703:=0
def PySem.W.Fast.tw202772810793884770:=0
def PySem.W.Fast.tw13890833060830259302:=0
def PySem.W.Fast.tw14404545737124946954:=0
def PySem.W.Fast.tw8122449466204699891:=0
def PySem.W.Fast.tw13145255921448271242:=0
def PySem.W.Fast.tw8322933545951292586:=0
def PySem.W.Fast.tw17971547616325541134:=0
def PySem.W.Fast.tw2129291218384722938:=0
def PySem.W.Fast.tw1310197432118685267:=0
def PySem.W.Fast.tw18368789245440443773:=0
def PySem.W.Fast.tw17664653235828107998:=0
def PySem.W.Fast.tw14754653401259245459:=0
def PySem.W.Fast.tw10333999160077966378:=0
def PySem.W.Fast.tw12944120122667216656:=0
def PySem.W.Fast.tw6978340508346053342:=0
def PySem.W.Fast.tw5126918453381192181:=0
def PySem.W.Fast.tw18328007179842258242:=0
def PySem.W.Fast.tw3014658153242183821:=0
def PySem.W.Fast.tw10247733750864850656:=0
def PySem.W.Fast.tw16492455981477940186:=0
def PySem.W.Fast.tw14894478760568549558:=0
def PySem.W.Fast.tw6945389118839793516:=0
def PySem.W.Fast.tw17738015810591358214:=0
def PySem.W.Fast.tw12817083282612217855:=0
def PySem.W.Fast.tw9202082770931835668:=0
def PySem.W.Fast.tw1859175895651902725:=0
def PySem.W.Fast.tw874753827420882006:=0
def PySem.W.Fast.tw186440908925382583:=0
def PySem.W.Fast.tw478567090127183732:=0
def PySem.W.Fast.tw14708717941726135485:=0
def PySem.W.Fast.tw15993944314776448319:=0
def PySem.W.Fast.tw17671113051909851453:=0
def PySem.W.Fast.tw10522979779652595289:=0
def PySem.W.Fast.tw16923257206674127227:=0
def PySem.W.Fast.tw7479236250791048957:=0
def PySem.W.Fast.tw17057590510567268410:=0
def PySem.W.Fast.tw14124469810137654522:=0
def PySem.W.Fast.tw51146601222190640:=0
def PySem.W.Fast.tw12366486402304015015:=0
def PySem.W.Fast.tw14689865042794398236:=0
def PySem.W.Fast.tw12267064703537449175:=0
def PySem.W.Fast.tw817831037571783723:=0
def PySem.W.Fast.tw4993700134838481386:=0
def PySem.W.Fast.tw12680570966420919942:=0
def PySem.W.Fast.tw11395934510083107502:=0
def PySem.W.Fast.tw9883670298054162228:=0
def PySem.W.Fast.tw9195287385846916093:=0
def PySem.W.Fast.tw11180379293405293747:=0
def PySem.W.Fast.tw12496650979645128515:=0
def PySem.W.Fast.tw13802132014108004294:=0
def PySem.W.Fast.tw6549789739032248952:=0
def PySem.W.Fast.tw7193128059017835598:=0
def PySem.W.Fast.tw307229015545734255:=0
def PySem.W.Fast.tw17221536702968001280:=0
def PySem.W.Fast.tw17981118349135983538:=0
def PySem.W.Fast.tw3097496258825631743:=0
def PySem.W.Fast.tw10792970448820107800:=0
def PySem.W.Fast.tw12763277029662058520:=0
def PySem.W.Fast.tw14998466894703908538:=0
def PySem.W.Fast.tw14437359816648801013:=0
def PySem.W.Fast.tw15347749002786071048:=0
def PySem.W.Fast.tw16800232420702742084:=0
def PySem.W.Fast.tw12587341726081134065:=0
def PySem.W.Fast.tw13250322268936011194:=0
def PySem.W.Fast.tw656093645947400282:=0
def PySem.W.Fast.tw5323980789391563858:=0
def PySem.W.Fast.tw13860536281537055593:=0
def PySem.W.Fast.tw10635958958423286383:=0
def PySem.W.Fast.tw2880876860455372526:=0
def PySem.W.Fast.tw9033922671502830922:=0
def PySem.W.Fast.tw10622499714772368179:=0
def PySem.W.Fast.tw13032292472853780835:=0
def PySem.W.Fast.tw723646814860520939:=0
def PySem.W.Fast.tw12650419632400040714:=0
def PySem.W.Fast.tw4063200759610904811:=0
def PySem.W.Fast.tw17499916163035210726:=0
def PySem.W.Fast.tw1780675666865191083:=0
def PySem.W.Fast.tw2750522112804005036:=0
def PySem.W.Fast.tw13947556896186761961:=0
def PySem.W.Fast.tw14173147161594973426:=0
def PySem.W.Fast.tw8229083191925742543:=0
def PySem.W.Fast.tw17100178214805561051:=0
def PySem.W.Fast.tw11531768824515970670:=0
def PySem.W.Fast.tw2388987344927845067:=0
def PySem.W.Fast.tw13740884701116940091:=0
def PySem.W.Fast.tw2144956606319068958:=0
def PySem.W.Fast.tw10767101610519433106:=0
def PySem.W.Fast.tw10345611941980102734:=0
def PySem.W.Fast.tw2325557950531973975:=0
def PySem.W.Fast.tw17397877647903578171:=0
def PySem.W.Fast.tw2754398916604492221:=0
def PySem.W.Fast.tw579325942770180687:=0
def PySem.W.Fast.tw16837811699549225526:=0
def PySem.W.Fast.tw10998759191181939275:=0
def PySem.W.Fast.tw6816786441105300401:=0
def PySem.W.Fast.tw6584094653967074517:=0
def PySem.W.Fast.tw3133966677862018166:=0
def PySem.W.Fast.tw8759772895934960882:=0
def PySem.W.Fast.tw12088259612303636469:=0
def PySem.W.Fast.tw6055520324513861587:=0
def PySem.W.Fast.tw11328185175316103607:=0
def PySem.W.Fast.tw17582384310665191871:=0
def PySem.W.Fast.tw4509863690710527519:=0
def PySem.W.Fast.tw13068769752383217329:=0
def PySem.W.Fast.tw8347961184555974736:=0
def PySem.W.Fast.tw14141743331790208572:=0
def PySem.W.Fast.tw7569436864033553348:=0
def PySem.W.Fast.tw18443485581469899913:=0
def PySem.W.Fast.tw10877930087582062438:=0
def PySem.W.Fast.tw2008344404233909122:=0
def PySem.W.Fast.tw17344230071761064919:=0
def PySem.W.Fast.tw16057942946801188048:=0
def PySem.W.Fast.tw16048531252205689738:=0
def PySem.W.Fast.tw11337467676426615522:=0
def PySem.W.Fast.tw8778905010124532856:=0
def PySem.W.Fast.tw15090405955106515349:=0
def PySem.W.Fast.tw13221011211886681149:=0
def PySem.W.Fast.tw1292819052305645881:=0
def PySem.W.Fast.tw17752118155047224288:=0
def PySem.W.Fast.tw5653925030490383947:=0
def PySem.W.Fast.tw16812625243138942384:=0
def PySem.W.Fast.tw13032895149893628649:=0
def PySem.W.Fast.tw16579443583252975347:=0
def PySem.W.Fast.tw9109995142258833290:=0
def PySem.W.Fast.tw4542182948484860235:=0
def PySem.W.Fast.tw15240414304549088713:=0
def PySem.W.Fast.tw11505971418567818486:=0
def PySem.W.Fast.tw11657334318953778728:=0
def PySem.W.Fast.tw13259122399806425544:=0
def PySem.W.Fast.tw7788274933963201922:=0
def PySem.W.Fast.tw10347227853907411606:=0
def PySem.W.Fast.tw16805610437193170605:=0
def PySem.W.Fast.tw14122803991952217597:=0
def PySem.W.Fast.tw12778574002524672117:=0
def PySem.W.Fast.tw6801830644528443401:=0
def PySem.W.Fast.tw4926879787555754521:=0
def PySem.W.Fast.tw4247428245396307090:=0
def PySem.W.Fast.tw1473804586906011812:=0
def PySem.W.Fast.tw5848672364063294377:=0
def PySem.W.Fast.tw12281990197735827833:=0
def PySem.W.Fast.tw9600850788232495771:=0
def PySem.W.Fast.tw17459162485849128380:=0
def PySem.W.Fast.tw7068753154169175006:=0
def PySem.W.Fast.tw17811111746601886412:=0
def PySem.W.Fast.tw4065010278979539740:=0
def PySem.W.Fast.tw15337540285150507395:=0
def PySem.W.Fast.tw4177349871337111335:=0
def PySem.W.Fast.tw12897466695242495370:=0
def PySem.W.Fast.tw9568663074008949175:=0
def PySem.W.Fast.tw6929919495845206597:=0
def PySem.W.Fast.tw7128374739958424058:=0
def PySem.W.Fast.tw16993240568562732366:=0
def PySem.W.Fast.tw11043959559956746328:=0
def PySem.W.Fast.tw14439849392380461984:=0
def PySem.W.Fast.tw6382733496014737296:=0
set_option maxRecDepth 100000 in
set_option maxHeartbeats 0 in
theorem PySem.Challenge.cw_shardask_k22_town_stays_holds : PySem.Challenge.rw_shardask_k22_town_stays.Holds := by
 w_on;o_law;k_head;(case hw=>w_witness2)
 k_fill
 refine My.aLj (l:=PySem.Challenge.rw_shardask_k22_town_stays) (n:=63) (k:=13) (x:="_law_script") (CX:=L2.CX0) (sp:=fun K=>My.aJ9 K 211) rfl (by decide) rfl ⟨rfl,by decide,by decide⟩ [(211,My.qC)] (by decide) (fun w h Y=>⟨PySem.W.km_in_of Y,My.aRr (PySem.W.km_tabs_of Y)⟩) ?C ?F (fun K H a ns hl hO hS=>My.aOs hl hO hS) (fun _ _ _ _ z=>z)
 case C=>
  intro w
  refine' My.aRb ?a ?l ?e1 ?e2 ?h ?n
  (case a=>k_is)
  (case l=>k_is)
  (case e1=>rfl)
  (case e2=>rfl)
  (case h=>first|k_is|kernel_rfl|decide +kernel)
  (case n=>first|k_is|kernel_rfl|decide +kernel)
 case F=>
  intro w mg fa h KX G hmg
  have T:My.Txt w (L2.KOf KX) mg:=by
   dsimp only [L2.KOf]
   refine' My.aVj KX G ?a0 ?a1 ?a2 ?a3 ?a4 ?a5 ?a6 ?a7 ?a8 ?a9 ?a10 ?a11 ?a12 ?a13 ?a14 ?a15 ?a16 ?a17 ?a18 ?a19 ?a20 ?a21 ?a22 ?a23 ?a24 ?a25 ?a26 ?a27 ?a28 ?a29 ?a37 ?a38 ?a39 ?a40 ?a41 ?a42 ?a43 ?a44 ?a45 ?a46 ?a47 ?a48 ?a49 ?a50 ?q0 ?r0 ?t0 ?y0 ?u0 ?v0 ?q1 ?q2 ?r2 ?t2 ?y2 ?u2 ?v2 ?q3 ?q4 ?q5 ?q6 ?q7 ?z0 ?z1 ?z2 ?z3 ?z4 ?z5 ?z6 ?z7 ?z8 ?z9 ?z10 ?z11 ?z12 ?z13 ?z14 ?z15 ?z16 ?z17 ?z18 ?eTown ?b0 ?b1 ?b2 ?b3 ?b4 ?b5 ?b6 ?d0 ?d1
   (case a0=>(refine' My.FA.mk ?j0 ?l0 ?c0 ?k0);(case j0=>k_is);(case l0=>k_is);(case c0=>k_is);(case k0=>k_is))
   (case a1=>(refine' My.FA.mk ?j1 ?l1 ?c1 ?k1);(case j1=>k_is);(case l1=>k_is);(case c1=>k_is);(case k1=>k_is))
   (case a2=>(refine' My.FA.mk ?j2 ?l2 ?c2 ?k2);(case j2=>k_is);(case l2=>k_is);(case c2=>k_is);(case k2=>k_is))
   (case a3=>(refine' My.FA.mk ?j3 ?l3 ?c3 ?k3);(case j3=>k_is);(case l3=>k_is);(case c3=>k_is);(case k3=>k_is))
   (case a4=>(refine' My.FA.mk ?j4 ?l4 ?c4 ?k4);(case j4=>k_is);(case l4=>k_is);(case c4=>k_is);(case k4=>k_is))
   (case a5=>(refine' My.FA.mk ?j5 ?l5 ?c5 ?k5);(case j5=>k_is);(case l5=>k_is);(case c5=>k_is);(case k5=>k_is))
   (case a6=>(refine' My.FA.mk ?j6 ?l6 ?c6 ?k6);(case j6=>k_is);(case l6=>k_is);(case c6=>k_is);(case k6=>k_is))
   (case a7=>(refine' My.FA.mk ?j7 ?l7 ?c7 ?k7);(case j7=>k_is);(case l7=>k_is);(case c7=>k_is);(case k7=>k_is))
   (case a8=>(refine' My.FA.mk ?j8 ?l8 ?c8 ?k8);(case j8=>k_is);(case l8=>k_is);(case c8=>k_is);(case k8=>k_is))
   (case a9=>(refine' My.FA.mk ?j9 ?l9 ?c9 ?k9);(case j9=>k_is);(case l9=>k_is);(case c9=>k_is);(case k9=>k_is))
   (case a10=>(refine' My.FA.mk ?j10 ?l10 ?c10 ?k10);(case j10=>k_is);(case l10=>k_is);(case c10=>k_is);(case k10=>k_is))
   (case a11=>(refine' My.FA.mk ?j11 ?l11 ?c11 ?k11);(case j11=>k_is);(case l11=>k_is);(case c11=>k_is);(case k11=>k_is))
   (case a12=>(refine' My.FA.mk ?j12 ?l12 ?c12 ?k12);(case j12=>k_is);(case l12=>k_is);(case c12=>k_is);(case k12=>k_is))
   (case a13=>(refine' My.FA.mk ?j13 ?l13 ?c13 ?k13);(case j13=>k_is);(case l13=>k_is);(case c13=>k_is);(case k13=>k_is))
   (case a14=>(refine' My.FA.mk ?j14 ?l14 ?c14 ?k14);(case j14=>k_is);(case l14=>k_is);(case c14=>k_is);(case k14=>k_is))
   (case a15=>(refine' My.FA.mk ?j15 ?l15 ?c15 ?k15);(case j15=>k_is);(case l15=>k_is);(case c15=>k_is);(case k15=>k_is))
   (case a16=>(refine' My.FA.mk ?j16 ?l16 ?c16 ?k16);(case j16=>k_is);(case l16=>k_is);(case c16=>k_is);(case k16=>k_is))
   (case a17=>(refine' My.FA.mk ?j17 ?l17 ?c17 ?k17);(case j17=>k_is);(case l17=>k_is);(case c17=>k_is);(case k17=>k_is))
   (case a18=>(refine' My.FA.mk ?j18 ?l18 ?c18 ?k18);(case j18=>k_is);(case l18=>k_is);(case c18=>k_is);(case k18=>k_is))
   (case a19=>(refine' My.FA.mk ?j19 ?l19 ?c19 ?k19);(case j19=>k_is);(case l19=>k_is);(case c19=>k_is);(case k19=>k_is))
   (case a20=>(refine' My.FA.mk ?j20 ?l20 ?c20 ?k20);(case j20=>k_is);(case l20=>k_is);(case c20=>k_is);(case k20=>k_is))
   (case a21=>(refine' My.FA.mk ?j21 ?l21 ?c21 ?k21);(case j21=>k_is);(case l21=>k_is);(case c21=>k_is);(case k21=>k_is))
   (case a22=>(refine' My.FA.mk ?j22 ?l22 ?c22 ?k22);(case j22=>k_is);(case l22=>k_is);(case c22=>k_is);(case k22=>k_is))
   (case a23=>(refine' My.FA.mk ?j23 ?l23 ?c23 ?k23);(case j23=>k_is);(case l23=>k_is);(case c23=>k_is);(case k23=>k_is))
   (case a24=>(refine' My.FA.mk ?j24 ?l24 ?c24 ?k24);(case j24=>k_is);(case l24=>k_is);(case c24=>k_is);(case k24=>k_is))
   (case a25=>(refine' My.FA.mk ?j25 ?l25 ?c25 ?k25);(case j25=>k_is);(case l25=>k_is);(case c25=>k_is);(case k25=>k_is))
   (case a26=>(refine' My.FA.mk ?j26 ?l26 ?c26 ?k26);(case j26=>k_is);(case l26=>k_is);(case c26=>k_is);(case k26=>k_is))
   (case a27=>(refine' My.FA.mk ?j27 ?l27 ?c27 ?k27);(case j27=>k_is);(case l27=>k_is);(case c27=>k_is);(case k27=>k_is))
   (case a28=>(refine' My.FA.mk ?j28 ?l28 ?c28 ?k28);(case j28=>k_is);(case l28=>k_is);(case c28=>k_is);(case k28=>k_is))
   (case a29=>(refine' My.FA.mk ?j29 ?l29 ?c29 ?k29);(case j29=>k_is);(case l29=>k_is);(case c29=>k_is);(case k29=>k_is))
   (case a37=>(refine' My.FA.mk ?j37 ?l37 ?c37 ?k37);(case j37=>k_is);(case l37=>k_is);(case c37=>k_is);(case k37=>k_is))
   (case a38=>(refine' My.FA.mk ?j38 ?l38 ?c38 ?k38);(case j38=>k_is);(case l38=>k_is);(case c38=>k_is);(case k38=>k_is))
   (case a39=>(refine' My.FA.mk ?j39 ?l39 ?c39 ?k39);(case j39=>k_is);(case l39=>k_is);(case c39=>k_is);(case k39=>k_is))
   (case a40=>(refine' My.FA.mk ?j40 ?l40 ?c40 ?k40);(case j40=>k_is);(case l40=>k_is);(case c40=>k_is);(case k40=>k_is))
   (case a41=>(refine' My.FA.mk ?j41 ?l41 ?c41 ?k41);(case j41=>k_is);(case l41=>k_is);(case c41=>k_is);(case k41=>k_is))
   (case a42=>(refine' My.FA.mk ?j42 ?l42 ?c42 ?k42);(case j42=>k_is);(case l42=>k_is);(case c42=>k_is);(case k42=>k_is))
   (case a43=>(refine' My.FA.mk ?j43 ?l43 ?c43 ?k43);(case j43=>k_is);(case l43=>k_is);(case c43=>k_is);(case k43=>k_is))
   (case a44=>(refine' My.FA.mk ?j44 ?l44 ?c44 ?k44);(case j44=>k_is);(case l44=>k_is);(case c44=>k_is);(case k44=>k_is))
   (case a45=>(refine' My.FA.mk ?j45 ?l45 ?c45 ?k45);(case j45=>k_is);(case l45=>k_is);(case c45=>k_is);(case k45=>k_is))
   (case a46=>(refine' My.FA.mk ?j46 ?l46 ?c46 ?k46);(case j46=>k_is);(case l46=>k_is);(case c46=>k_is);(case k46=>k_is))
   (case a47=>(refine' My.FA.mk ?j47 ?l47 ?c47 ?k47);(case j47=>k_is);(case l47=>k_is);(case c47=>k_is);(case k47=>k_is))
   (case a48=>(refine' My.FA.mk ?j48 ?l48 ?c48 ?k48);(case j48=>k_is);(case l48=>k_is);(case c48=>k_is);(case k48=>k_is))
   (case a49=>(refine' My.FA.mk ?j49 ?l49 ?c49 ?k49);(case j49=>k_is);(case l49=>k_is);(case c49=>k_is);(case k49=>k_is))
   (case a50=>(refine' My.FA.mk ?j50 ?l50 ?c50 ?k50);(case j50=>k_is);(case l50=>k_is);(case c50=>k_is);(case k50=>k_is))
   (case q0=>k_is)
   (case r0=>k_is)
   (case t0=>rfl)
   (case y0=>rfl)
   (case u0=>rfl)
   (case v0=>repeat (first|exact L2.zR|refine L2.jW rfl ?_|refine L2.jW ⟨_,rfl⟩ ?_))
   (case q1=>k_is)
   (case q2=>k_is)
   (case r2=>k_is)
   (case t2=>rfl)
   (case y2=>rfl)
   (case u2=>rfl)
   (case v2=>repeat (first|exact L2.zR|refine L2.jW rfl ?_|refine L2.jW ⟨_,rfl⟩ ?_))
   (case q3=>k_is)
   (case q4=>k_is)
   (case q5=>k_is)
   (case q6=>k_is)
   (case q7=>k_is)
   (case z0=>k_is)
   (case z1=>k_is)
   (case z2=>k_is)
   (case z3=>k_is)
   (case z4=>k_is)
   (case z5=>k_is)
   (case z6=>k_is)
   (case z7=>k_is)
   (case z8=>k_is)
   (case z9=>k_is)
   (case z10=>k_is)
   (case z11=>k_is)
   (case z12=>k_is)
   (case z13=>k_is)
   (case z14=>k_is)
   (case z15=>k_is)
   (case z16=>k_is)
   (case z17=>k_is)
   (case z18=>k_is)
   (case eTown=>(refine' My.CA.mk ?j ?p1 ?p2 ?p3 ?p4 ?p5 ?p6);(case j=>k_is);(case p1=>first|k_is|kernel_rfl|decide +kernel);(case p2=>first|k_is|kernel_rfl|decide +kernel);(case p3=>first|k_is|kernel_rfl|decide +kernel);(case p4=>first|k_is|kernel_rfl|decide +kernel);(case p5=>first|k_is|kernel_rfl|decide +kernel);(case p6=>first|k_is|kernel_rfl|decide +kernel))
   (case b0=>(refine' My.MA.mk ?j ?i ?l ?c ?k);(case j=>k_is);(case i=>first|k_is|kernel_rfl|decide +kernel);(case l=>k_is);(case c=>k_is);(case k=>k_is))
   (case b1=>(refine' My.MA.mk ?j ?i ?l ?c ?k);(case j=>k_is);(case i=>first|k_is|kernel_rfl|decide +kernel);(case l=>k_is);(case c=>k_is);(case k=>k_is))
   (case b2=>(refine' My.MA.mk ?j ?i ?l ?c ?k);(case j=>k_is);(case i=>first|k_is|kernel_rfl|decide +kernel);(case l=>k_is);(case c=>k_is);(case k=>k_is))
   (case b3=>(refine' My.MA.mk ?j ?i ?l ?c ?k);(case j=>k_is);(case i=>first|k_is|kernel_rfl|decide +kernel);(case l=>k_is);(case c=>k_is);(case k=>k_is))
   (case b4=>(refine' My.MA.mk ?j ?i ?l ?c ?k);(case j=>k_is);(case i=>first|k_is|kernel_rfl|decide +kernel);(case l=>k_is);(case c=>k_is);(case k=>k_is))
   (case b5=>(refine' My.MA.mk ?j ?i ?l ?c ?k);(case j=>k_is);(case i=>first|k_is|kernel_rfl|decide +kernel);(case l=>k_is);(case c=>k_is);(case k=>k_is))
   (case b6=>(refine' My.MA.mk ?j ?i ?l ?c ?k);(case j=>k_is);(case i=>first|k_is|kernel_rfl|decide +kernel);(case l=>k_is);(case c=>k_is);(case k=>k_is))
   (case d0=>(unfold L2.dC);k_is)
   (case d1=>(unfold L2.dC);k_is)
  have C:L2.aOv (L2.KOf KX) mg "are_cuts" 211:=by
   dsimp only [L2.KOf]
   refine' My.aTx KX G ?a ?l ?e1 ?e2 ?h
   (case a=>k_is)
   (case l=>k_is)
   (case e1=>rfl)
   (case e2=>rfl)
   (case h=>first|k_is|kernel_rfl|decide +kernel)
  exact My.aUm (P:=PySem.Challenge.rw_shardask_k22_town_stays.prog) T C hmg
