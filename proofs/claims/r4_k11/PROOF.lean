import PyProof.Rows.All
import Wide.All
import OpenK.AllK
import Wide.FinOn
import Lean
import PyProof.EqAt
import PyProof.EqKinds
import PyProof.TupleCall
import PyProof.CallType
import PyProof.WalkLemmas
import PyProof.StrOps
import PyProof.ForAny
import PyProof.IsInstanceH
import PyProof.IsiFacts
import PyProof.IsiFacts2
import PyProof.FactsAll.object
import PyProof.ListMulRoad
import PyProof.FactsAll.tuple_2
import PyProof.StrLawsIdx
import KE.KDictList
import PyProof.Rows.Range3
import PyProof.EnumMake
import PyProof.EnumFor
import PyProof.CompUse
import PyProof.ListStr
import PyProof.NeKinds
import KE.KDictOf
import KE.KEqDict
import KE.KDictSum
import PyProof.AttrMissHeap
import KE.KSortTup
import PyProof.IsInstanceT
import PyProof.FString5
import PyProof.Rows.SeqMore2
import PyProof.IsiPairs
import PyProof.DictWalks
import PyProof.Cells
import PyProof.StrCalls3
import PyProof.Rows.TupTab
import PySem.Challenge.RW_shardask_k11_joined
set_option Elab.async false
set_option linter.all false
set_option maxRecDepth 100000
set_option maxHeartbeats 6400000
local macro_rules
  | `(tactic| trivial) => `(tactic| first | exact Or.inl rfl | exact Or.inr rfl | exact Or.inr (Or.inl rfl) | exact Or.inr (Or.inr rfl) | exact ⟨rfl, rfl, rfl, by decide +kernel, rfl, by decide +kernel, by decide +kernel⟩ | exact ⟨by decide +kernel, rfl, by decide +kernel, by decide +kernel⟩ | fail)
namespace L2
open PySem PySem.Spec PyProof.Rows
abbrev Key:=Sum Int Str
def aDj:Key→Value→Bool
 |.inl k,v=>Value.isInt k v
 |.inr x,v=>Value.isStrOf x v
def aZz (w:World):Key→Int
 |.inl k=>hashInt k
 |.inr x=>hashStr w x
theorem eE:∀{k:Key} {v:Value},aDj k v=true→(∃i t,k=Sum.inl i∧v=Value.int i t)∨(∃x t,k=Sum.inr x∧v=Value.str x t)
 |.inl i,v,h=>by
  obtain ⟨t,e⟩:=Value.isInt_shape (k:=i) (v:=v) h
  exact .inl ⟨i,t,rfl,e⟩
 |.inr x,v,h=>by
  obtain ⟨t,e⟩:=Value.isStrOf_shape (x:=x) (v:=v) h
  exact .inr ⟨x,t,rfl,e⟩
theorem aOa (i:Int) (t:Tok):aDj (.inl i) (.int i t)=true:=by simp [aDj,Value.isInt]
theorem aPb (x:Str) (t:Tok):aDj (.inr x) (.str x t)=true:=by simp [aDj,Value.isStrOf]
theorem aW4 (a b:Int):decide ((Sum.inl a:Key)=Sum.inl b)=(a == b):=by
 by_cases e:a=b
 ·subst e;simp
 ·have h:¬ (Sum.inl a:Key)=Sum.inl b:=fun q=>e (Sum.inl.inj q)
  rw [decide_eq_false h]
  exact (beq_eq_false_iff_ne.mpr e).symm
theorem aWx (a b:Str):decide ((Sum.inr a:Key)=Sum.inr b)=decide (a=b):=by
 by_cases e:a=b
 ·subst e;simp
 ·have h:¬ (Sum.inr a:Key)=Sum.inr b:=fun q=>e (Sum.inr.inj q)
  rw [decide_eq_false h,decide_eq_false e]
theorem aWy (a:Int) (b:Str):decide ((Sum.inl a:Key)=Sum.inr b)=false:=decide_eq_false (fun q=>nomatch q)
theorem aV2 (a:Str) (b:Int):decide ((Sum.inr a:Key)=Sum.inl b)=false:=decide_eq_false (fun q=>nomatch q)
def dN (prog:Program) (w:World):PySem.KeyKind prog w Key where
 is:=aDj
 hash:=aZz w
 inj:=fun v a b ha hb=>by
  rcases eE ha with ⟨i,t,rfl,rfl⟩|⟨x,t,rfl,rfl⟩
  ·rcases eE hb with ⟨j,u,rfl,e⟩|⟨y,u,rfl,e⟩
   ·injection e with e1 _;rw [e1]
   ·exact nomatch e
  ·rcases eE hb with ⟨j,u,rfl,e⟩|⟨y,u,rfl,e⟩
   ·exact nomatch e
   ·injection e with e1 _;rw [e1]
 byValue:=fun k v h=>by
  rcases eE h with ⟨i,t,rfl,rfl⟩|⟨x,t,rfl,rfl⟩ <;> rfl
 pyHash:=fun hv h=>by
  rcases eE hv with ⟨i,t,rfl,rfl⟩|⟨x,t,rfl,rfl⟩
  ·exact wpAny_pyHash_int h
  ·exact wpAny_pyHash_str h
 eqBool:=fun hu hv h=>by
  rcases eE hu with ⟨i,t,rfl,rfl⟩|⟨x,t,rfl,rfl⟩
  ·rcases eE hv with ⟨j,u,rfl,rfl⟩|⟨y,u,rfl,rfl⟩
   ·rw [aW4] at h;exact wpAny_eqBool_int h
   ·rw [aWy] at h;exact SeqAt.EqAt.int_str i t y u _ _ _ _ h
  ·rcases eE hv with ⟨j,u,rfl,rfl⟩|⟨y,u,rfl,rfl⟩
   ·rw [aV2] at h;exact SeqAt.EqAt.str_int x t j u _ _ _ _ h
   ·rw [aWx] at h;exact wpAny_eqBool_str h
 «strs»:=fun k x t v h=>by
  rcases eE h with ⟨i,u,rfl,e⟩|⟨y,u,rfl,e⟩
  ·exact nomatch e
  ·injection e with e1 _
   subst e1
   cases v <;> rfl
theorem aGo (prog:Program) (w:World) (i:Int) (t:Tok):(dN prog w).is (.inl i) (.int i t)=true:=aOa i t
theorem aGk (prog:Program) (w:World) (x:Str) (t:Tok):(dN prog w).is (.inr x) (.str x t)=true:=aPb x t
inductive V where
 |non|bl (b:Bool)|int (i:Int)|str (x:Str)|byt (b:Array UInt8)|flt (b:UInt64)|ref (a:Addr)|ty (n:String)
 deriving DecidableEq
def RelV:V→Value→Prop
 |.non,u=>u=Value.none
 |.bl b,u=>u=Value.bool b
 |.int i,u=>∃t,u=Value.int i t
 |.str x,u=>∃t,u=Value.str x t
 |.byt b,u=>∃t,u=Value.bytes b t
 |.flt b,u=>∃t,u=Value.float b t
 |.ref a,u=>u=Value.ref a
 |.ty n,u=>u=Value.type n
abbrev Vals:List V→List Value→Prop:=Paired RelV
theorem Vals.length {xs:List V} {us:List Value} (r:Vals xs us):xs.length=us.length:=Paired.length r
theorem Vals.get:∀{xs:List V} {us:List Value} {i:Nat} {x:V},Vals xs us→xs[i]?=some x→∃u,us[i]?=some u∧RelV x u
 |_,_,_,_,.nil,e=>by simp at e
 |_,_,0,_,.cons r _,e=>by simp at e;subst e;exact ⟨_,rfl,r⟩
 |_,_,i+1,x,.cons _ t,e=>by
  obtain ⟨u,h1,h2⟩:=Vals.get (i:=i) (x:=x) t (by simpa using e)
  exact ⟨u,by simpa using h1,h2⟩
theorem Vals.set {x:V} {u:Value} (r:RelV x u):∀{xs:List V} {us:List Value} (i:Nat),Vals xs us→Vals (xs.set i x) (us.set i u)
 |_,_,_,.nil=>.nil
 |_,_,0,.cons _ t=>.cons r t
 |_,_,i+1,.cons q t=>.cons q (Vals.set r i t)
theorem Vals.append:∀{xs ys:List V} {us ws:List Value},Vals xs us→Vals ys ws→Vals (xs++ys) (us++ws)
 |_,_,_,_,.nil,s=>s
 |_,_,_,_,.cons r t,s=>.cons r (Vals.append t s)
theorem Vals.take:∀{xs:List V} {us:List Value} (n:Nat),Vals xs us→Vals (xs.take n) (us.take n)
 |_,_,0,_=>.nil
 |_,_,_+1,.nil=>.nil
 |_,_,n+1,.cons r t=>.cons r (Vals.take n t)
theorem Vals.drop:∀{xs:List V} {us:List Value} (n:Nat),Vals xs us→Vals (xs.drop n) (us.drop n)
 |_,_,0,r=>r
 |_,_,_+1,.nil=>.nil
 |_,_,n+1,.cons _ t=>Vals.drop n t
def zF:Option V→Option Value→Prop
 |some v,some u=>RelV v u
 |none,none=>True
 |_,_=>False
def KV {κ:Type}:List (κ × V)→List (κ × Value)→Prop:=Paired fun (p:κ × V) (q:κ × Value)=>p.1=q.1∧RelV p.2 q.2
def kV:Key→V
 |.inl i=>.int i
 |.inr x=>.str x
inductive HO where
  |lst (xs:List V)
  |tup (xs:List V)
  |dK (kvs:List (Key × V))|dT (kvs:List (List Key × V))
  |set (S:Int→Bool) (n:Nat)
  |ins (C dx:Addr) (fs:List (Str × V))
  |own (x:Addr)
  |xd (fs:List (Str × V))
  |met (f x:Addr)
  |rng (lo hi:Int)
  |frz (o:Obj) (u:HO)
  |tbl (ps:Array Value)
  |tab (q:Str)
  |ext (φ:Heap→Prop)
abbrev Hp:=Addr→Option HO
def upd (H:Hp) (a:Addr) (o:HO):Hp:=fun b=>if b=a then some o else H b
theorem aH {H:Hp} {a:Addr} {o:HO}:upd H a o a=some o:=by unfold upd;rw [if_pos rfl]
theorem aV {H:Hp} {a b:Addr} {o:HO} (h:b≠a):upd H a o b=H b:=by unfold upd;rw [if_neg h]
theorem aUw {H:Hp} {a:Addr} {o u:HO}:upd (upd H a o) a u=upd H a u:=by
 funext b;unfold upd;split <;> rfl
theorem sW {H:Hp} {a b:Addr} {o u:HO} (h:H a=some o) (h':H b=some u) (d:o≠u):a≠b:=by
 intro e;subst e;rw [h] at h';exact d (Option.some.inj h')
theorem bB {H:Hp} {a b:Addr} {o:HO} (h:H a=some o) (h':H b=none):a≠b:=by
 intro e;subst e;rw [h] at h';cases h'
def zH (h:Heap) (a:Addr) (items:Array Value):Prop:=IsTup h a items∧∀o,h.get? a=some o→o.dict=none
theorem zH.of {h:Heap} {a:Addr} {items:Array Value} {o:Obj} (e:h.get? a=some o) (d:o.dict=none) (x:IsTup h a items):zH h a items:=⟨x,fun o' e'=>by rw [e] at e';cases e';exact d⟩
theorem zH.new (h:Heap) (items:Array Value):zH (h.push { cls:=.type "tuple",data:=.seq items }) h.objs.size items:=.of (Heap.get?_push_size _ rfl) rfl (IsTup.new _ _)
theorem zH.keep {h h':Heap} {a:Addr} {items:Array Value} (x:zH h a items) (k:∀o,h.get? a=some o→h'.get? a=some o):zH h' a items:=by
 obtain ⟨⟨o,e,c⟩,d⟩:=x
 exact .of (k o e) (d o e) ⟨o,k o e,c⟩
section
variable (P:Program) (w:World)
def fU (H:Hp) (h:Heap) (a:Addr):HO→Prop
 |.lst xs=>xs.length≤sizeLine∧∃(its:List Value) (n:Nat),Vals xs its∧h.get? a=some { cls:=.type "list",data:=.seq its.toArray n }
 |.tup xs=>xs.length≤sizeLine∧∃its:List Value,Vals xs its∧zH h a its.toArray
 |.dK kvs=>kvs.length≤sizeLine∧(a == sysModules)=false∧∃vs,KV kvs vs∧h.DictOf (dN P w) a vs
 |.dT kvs=>kvs.length≤sizeLine∧(a == sysModules)=false∧∃xs:List (List Key × Addr × Value),
   Paired (fun (p:List Key × V) (q:List Key × Addr × Value)=>p.1=q.1∧H q.2.1=some (.tup (p.1.map kV))∧RelV p.2 q.2.2) kvs xs ∧
   ∃o es ep,h.get? a=some o∧o.ExactDict∧o.data=.dict es ep∧es.toList=xs.map (entryOfKey (tupleKind (dN P w)))∧(xs.map (·.1)).Nodup
 |.set S n=>h.SetOf (intKind P w) a S n
 |.ins C dx fs=>H dx=some (.own a)∧fs.length≤1000∧dx≠a∧h.get? a=some (PySem.W.instObj C dx) ∧
   ∃mA,h.Ns1 dx mA∧(∀f,zF (fs.lookup f) (mA f))∧PySem.Within mA (fs.map (·.1))
 |.own _=>∃o,h.get? a=some o
 |.xd fs=>∃mA,h.Ns1 a mA∧∀f,zF (fs.lookup f) (mA f)
 |.rng lo hi=>∃t u v,h.get? a=some { cls:=.type "range",data:=.fields #[.int lo t,.int hi u,.int 1 v] }
 |.frz o u=>h.get? a=some o∧fU H h a u
 |.tbl ps=>h.get? a=some { cls:=.none,data:=.fields ps }
 |.tab q=>∃ps:Array Value,h.get? a=some { cls:=.none,data:=.fields ps }∧TriplesOk ps.toList∧∀(pos:Pos) (cv:Value),codeAmong pos ps.toList=some cv→∃(c:Addr) (oc:Obj) (vs:Array Value) (t:Tok),cv=.ref c∧H c=some (.own a)∧h.get? c=some oc∧oc.data=.fields vs∧vs[1]?=some (.str q t)
 |.met f x=>h.get? a=some (PySem.W.methodObj (.ref f) (.ref x))
 |.ext φ=>φ h∧(∃o,h.get? a=some o)∧∀h1 h2:Heap,φ h1→(∀o,h1.get? a=some o→h2.get? a=some o)→φ h2
def HOk (H:Hp) (h:Heap):Prop:=∀a o,H a=some o→fU P w H h a o
end
section
variable {P:Program} {w:World} {H H':Hp} {h h':Heap} {a:Addr} {o:HO}
theorem fU.lt (x:fU P w H h a o):a<h.objs.size:=by
 cases o with
 |lst xs=>obtain ⟨_,_,_,_,e⟩:=x;exact Heap.lt_size e
 |tup xs=>obtain ⟨_,_,_,p⟩:=x;exact p.1.lt
 |dK kvs=>obtain ⟨_,_,_,_,o,_,_,e,_⟩:=x;exact Heap.lt_size e
 |dT kvs=>obtain ⟨_,_,_,_,o,_,_,e,_⟩:=x;exact Heap.lt_size e
 |set S n=>obtain ⟨o,_,_,_,e,_⟩:=x;exact Heap.lt_size e
 |ins C dx fs=>obtain ⟨_,_,_,e,_⟩:=x;exact Heap.lt_size e
 |own y=>obtain ⟨_,e⟩:=x;exact Heap.lt_size e
 |xd fs=>obtain ⟨_,⟨_,_,_,e,_⟩,_⟩:=x;exact Heap.lt_size e
 |rng lo hi=>obtain ⟨_,_,_,e⟩:=x;exact Heap.lt_size e
 |frz ob u=>obtain ⟨e,_⟩:=x;exact Heap.lt_size e
 |tbl ps=>exact Heap.lt_size (show h.get? a=some _ from x)
 |tab q=>obtain ⟨_,e,_⟩:=x;exact Heap.lt_size e
 |met f y=>exact Heap.lt_size (show h.get? a=some _ from x)
 |ext φ=>obtain ⟨_,⟨_,e⟩,_⟩:=x;exact Heap.lt_size e
theorem Paired.aYc {α β:Type} {F G:α→β→Prop}:∀{l₁:List α} {l₂:List β},Paired F l₁ l₂→(∀a b,F a b→G a b)→Paired G l₁ l₂
 |_,_,.nil,_=>.nil
 |_,_,.cons r t,f=>.cons (f _ _ r) (Paired.aYc t f)
theorem fU.stay (x:fU P w H h a o) (k:∀b u,(b=a∨H b=some (.own a))→h.get? b=some u→h'.get? b=some u)
  (ho:∀b,H b=some (.own a)→H' b=some (.own a)) (ht:∀b xs,H b=some (.tup xs)→H' b=some (.tup xs)):fU P w H' h' a o:=by
 induction o with
 |lst xs=>obtain ⟨z,its,n,r,e⟩:=x;exact ⟨z,its,n,r,k _ _ (.inl rfl) e⟩
 |tup xs=>obtain ⟨z,its,r,p⟩:=x;exact ⟨z,its,r,p.keep fun o e=>k _ _ (.inl rfl) e⟩
 |dK kvs=>obtain ⟨z,y,vs,r,ob,es,ep,e,c⟩:=x;exact ⟨z,y,vs,r,ob,es,ep,k _ _ (.inl rfl) e,c⟩
 |dT kvs=>
  obtain ⟨z,y,xs,r,ob,es,ep,e,c⟩:=x
  exact ⟨z,y,xs,Paired.aYc r fun p q z=>⟨z.1,ht _ _ z.2.1,z.2.2⟩,ob,es,ep,k _ _ (.inl rfl) e,c⟩
 |set S n=>obtain ⟨ob,es,ep,t,e,c⟩:=x;exact ⟨ob,es,ep,t,k _ _ (.inl rfl) e,c⟩
 |ins C dx fs=>
  obtain ⟨d,z,ne,e,mA,⟨od,es,ep,e2,c⟩,r⟩:=x
  exact ⟨ho _ d,z,ne,k _ _ (.inl rfl) e,mA,⟨od,es,ep,k _ _ (.inr d) e2,c⟩,r⟩
 |own y=>obtain ⟨ob,e⟩:=x;exact ⟨ob,k _ _ (.inl rfl) e⟩
 |xd fs=>obtain ⟨mA,⟨od,es,ep,e,c⟩,r⟩:=x;exact ⟨mA,⟨od,es,ep,k _ _ (.inl rfl) e,c⟩,r⟩
 |rng lo hi=>obtain ⟨t,u,v,e⟩:=x;exact ⟨t,u,v,k _ _ (.inl rfl) e⟩
 |frz ob u ih=>obtain ⟨e,q⟩:=x;exact ⟨k _ _ (.inl rfl) e,ih q⟩
 |tab q=>obtain ⟨ps,e,t,c⟩:=x;exact ⟨ps,k _ _ (.inl rfl) e,t,fun pos cv q=>let ⟨c',oc,vs,tk,a1,a2,a3,a4⟩:=c pos cv q;⟨c',oc,vs,tk,a1,ho _ a2,k _ _ (.inr a2) a3,a4⟩⟩
 |tbl ps=>
  have e:h.get? a=some { cls:=.none,data:=.fields ps }:=x
  show h'.get? a=some { cls:=.none,data:=.fields ps }
  exact k a _ (.inl rfl) e
 |met f y=>
  have e:h.get? a=some (PySem.W.methodObj (.ref f) (.ref y)):=x
  show h'.get? a=some (PySem.W.methodObj (.ref f) (.ref y))
  exact k a _ (.inl rfl) e
 |ext φ=>obtain ⟨p,⟨o,e⟩,st⟩:=x;exact ⟨st _ _ p fun o q=>k _ _ (.inl rfl) q,⟨o,k _ _ (.inl rfl) e⟩,st⟩
theorem HOk.lt (x:HOk P w H h) (e:H a=some o):a<h.objs.size:=(x a o e).lt
theorem HOk.fresh (x:HOk P w H h) (e:h.objs.size≤a):H a=none:=by
 cases q:H a with
 |none=>rfl
 |some u=>exact absurd (Nat.lt_of_lt_of_le (x.lt q) e) (Nat.lt_irrefl _)
theorem HOk.kept (x:HOk P w H h) (k:∀b u,h.get? b=some u→h'.get? b=some u):HOk P w H h':=fun a o e=>
 (x a o e).stay (fun b u _ q=>k b u q) (fun _ q=>q) fun _ _ q=>q
theorem HOk.laid (x:HOk P w H h) (k:∀b u,h.get? b=some u→h'.get? b=some u) (hp:h.objs.size≤a) (new:fU P w (upd H a o) h' a o):HOk P w (upd H a o) h':=fun b u e=>by
 have hn:=x.fresh hp
 by_cases hb:b=a
 ·subst hb;rw [aH] at e;cases e;exact new
 ·rw [aV hb] at e
  exact (x b u e).stay (fun c v _ q=>k c v q) (fun c q=>by rw [aV (bB q hn)];exact q) fun c xs q=>by rw [aV (bB q hn)];exact q
end
def Rd (H:Hp) (a:Addr) (u:HO):Prop:=H a=some u∨∃o,H a=some (.frz o u)
theorem Rd.ok {P:Program} {w:World} {H:Hp} {h:Heap} {a:Addr} {u:HO} (r:Rd H a u) (x:HOk P w H h):fU P w H h a u:=by
 rcases r with r|⟨o,r⟩
 ·exact x a u r
 ·obtain ⟨_,q⟩:=x a _ r
  exact q
def Mut:Option HO→Prop
 |some (.lst _)=>True
 |some (.dK _)=>True
 |some (.dT _)=>True
 |some (.set _ _)=>True
 |some (.ins _ _ _)=>True
 |some (.ext _)=>True
 |some (.tab _)=>True
 |_=>False
section
variable {P:Program} {w:World} {H:Hp} {h h':Heap} {x e:Addr} {o':HO}
theorem HOk.write (ok:HOk P w H h) (mu:Mut (H x)) (he:e=x∨H e=some (.own x)) (k:∀b u,b≠e→h.get? b=some u→h'.get? b=some u) (heo:∃u,h'.get? e=some u)
  (new:fU P w (upd H x o') h' x o'):HOk P w (upd H x o') h':=fun b u q=>by
 have nown:∀c y,H c=some (.own y)→c≠x:=fun c y r z=>by subst z;rw [r] at mu;exact mu
 have ntup:∀c xs,H c=some (.tup xs)→c≠x:=fun c xs r z=>by subst z;rw [r] at mu;exact mu
 by_cases hb:b=x
 ·subst hb;rw [aH] at q;cases q;exact new
 ·rw [aV hb] at q
  by_cases hbe:b=e
  ·have q':H b=some (.own x):=by
    rcases he with z|z
    ·exact absurd (hbe.trans z) hb
    ·rw [hbe];exact z
   rw [q] at q';cases q'
   obtain ⟨v,hv⟩:=heo
   exact ⟨v,by rw [hbe];exact hv⟩
  ·refine (ok b u q).stay (fun c v hc r=>k c v ?_ r) (fun c r=>by rw [aV (nown c b r)];exact r) fun c xs r=>by rw [aV (ntup c xs r)];exact r
   rcases hc with rfl|hc
   ·exact hbe
   ·rintro rfl
    rcases he with z|z
    ·exact nown c b hc z
    ·rw [hc] at z;cases z;exact hb rfl
end
structure Un (fs ex:List Addr) (H H':Hp) (h h':Heap):Prop where
 keep:∀b o,h.get? b=some o→H b=none→b∉fs→b∉ex→h'.get? b=some o
 slot:∀b o,h.get? b=some o→H b=none→b∈fs→b∉ex→∃sl,h'.get? b=some { o with slots:=sl }
 free:∀b o,h.get? b=some o→H b=none→b∉ex→H' b=none
 there:∀b o,h.get? b=some o→b∉ex→∃o',h'.get? b=some o'
 tups:∀b xs,H b=some (.tup xs)→H' b=some (.tup xs)
 frzs:∀b o u,H b=some (.frz o u)→H' b=some (.frz o u)
 tbls:∀b ps,H b=some (.tbl ps)→∃more,H' b=some (.tbl (ps++more))
section
variable {fs fs' ex ex':List Addr} {H H1 H2:Hp} {h h1 h2 h':Heap} {a x e:Addr} {o:HO}
theorem Un.any (u:Un fs ex H H1 h h1) {b:Addr} {ob:Obj} (q:h.get? b=some ob) (n:H b=none) (hx:b∉ex):∃sl,h1.get? b=some { ob with slots:=sl }:=by
 by_cases hb:b∈fs
 ·exact u.slot b ob q n hb hx
 ·exact ⟨ob.slots,u.keep b ob q n hb hx⟩
theorem Un.kept (k:∀b u,h.get? b=some u→h'.get? b=some u):Un fs ex H H h h':=
 ⟨fun b ob q _ _ _=>k b ob q,fun b ob q _ _ _=>⟨ob.slots,k b ob q⟩,fun _ _ _ n _=>n,fun b ob q _=>⟨ob,k b ob q⟩,fun _ _ q=>q,fun _ _ _ q=>q,fun _ ps q=>⟨#[],by rw [q];simp⟩⟩
theorem Un.refl:Un fs ex H H h h:=Un.kept fun _ _ q=>q
theorem Un.laid (k:∀b u,h.get? b=some u→h'.get? b=some u) (hp:h.objs.size≤a) (hn:H a=none):Un fs ex H (upd H a o) h h' where
 keep:=fun b u q _ _ _=>k b u q
 slot:=fun b u q _ _ _=>⟨u.slots,k b u q⟩
 free:=fun b u q n _=>by rw [aV (Nat.ne_of_lt (Nat.lt_of_lt_of_le (Heap.lt_size q) hp))];exact n
 there:=fun b u q _=>⟨u,k b u q⟩
 tups:=fun b xs q=>by rw [aV (bB q hn)];exact q
 frzs:=fun b u xs q=>by rw [aV (bB q hn)];exact q
 tbls:=fun b ps q=>⟨#[],by rw [aV (bB q hn),q];simp⟩
theorem Un.write (mu:Mut (H x)) (he:e=x∨H e=some (.own x)) (k:∀b u,b≠e→h.get? b=some u→h'.get? b=some u) (heo:∃u,h'.get? e=some u):Un fs ex H (upd H x o) h h':=by
 have hx:∀b,H b=none→b≠x:=fun b n z=>by subst z;rw [n] at mu;exact mu
 have hb:∀b,H b=none→b≠e:=fun b n z=>by
  subst z
  rcases he with r|r
  ·exact hx b n r
  ·rw [n] at r;cases r
 have hm:∀b u,H b=some u→¬ Mut (some u)→b≠x:=fun b u q nm z=>by subst z;rw [q] at mu;exact nm mu
 refine ⟨fun b u q n _ _=>k b u (hb b n) q,fun b u q n _ _=>⟨u.slots,k b u (hb b n) q⟩,fun b u q n _=>by rw [aV (hx b n)];exact n,fun b u q _=>?_,
  fun b xs q=>by rw [aV (hm b _ q fun z=>z)];exact q,fun b u xs q=>by rw [aV (hm b _ q fun z=>z)];exact q,fun b ps q=>⟨#[],by rw [aV (hm b _ q fun z=>z),q];simp⟩⟩
 by_cases hbe:b=e
 ·subst hbe;exact heo
 ·exact ⟨u,k b u hbe q⟩
end
def trk (h:Heap) (H:Hp):List Addr:=(List.range h.objs.size).filter fun a=>(H a).isSome
def aFa (h:Heap) (H:Hp):Heap:=PySem.W.hideAll h (trk h H)
theorem aO1 (h:Heap) (H:Hp):(aFa h H).objs.size=h.objs.size:=PySem.W.hideAll_size _ _
theorem aP2 {h:Heap} {H:Hp} {b:Addr} {o:Obj} (e:h.get? b=some o) (n:H b=none):(aFa h H).get? b=some o:=
 PySem.W.hideAll_get _ e fun hm=>by
  have q:(H b).isSome=true:=(List.mem_filter.mp hm).2
  rw [n] at q;simp at q
theorem aT9 {h:Heap} {H:Hp} {b:Addr} {o:Obj} (e:(aFa h H).get? b=some o):h.get? b=some o∧H b=none:=by
 have e':h.get? b=some o:=PySem.W.of_hideAll (trk h H) e
 refine ⟨e',?_⟩
 cases q:H b with
 |none=>rfl
 |some x=>
  have hm:b∈trk h H:=List.mem_filter.mpr ⟨List.mem_range.mpr (Heap.lt_size e'),by simp [q]⟩
  have z:(aFa h H).get? b=none:=PySem.W.hideAll_none (trk h H) hm
  rw [z] at e;cases e
structure Mod (K:PySem.W.Frag) (mg:Str→Option Value) (base:Heap):Prop where
 kin:K.In base
 glob:base.Ns mainGlobals mg
 blt:∃mb,base.Ns builtinsNs mb∧∀x:Str,x≠"__name__"→mb x=bootBuiltins x
 nolimit:base.NoLimit
structure Cx where
 prog:Program
 w:World
 K:PySem.W.Frag
 mg:Str→Option Value
 base:Heap
 A:Around
 N:List Str
 s₀:Shared
 H₀:Hp
 env:Env
 outer:List Env
 stack:List Env
 ex:List Addr
 fn:Str→Bool
 calm:Bool
 pn:List (Addr × Obj)
 xe:Value→Shared→Prop
def frs (l:List Env):List Addr:=l.filterMap (·.frame)
abbrev Cx.fs (X:Cx):List Addr:=frs X.outer
def Vis (sc:Scope) (x:Str):Prop:=sc.names.lookup x=some .local∨sc.names.lookup x=some .cell∨sc.names.lookup x=some .free
def Loc (sc:Scope) (x:Str):Prop:=sc.names.lookup x=some .local∨sc.names.lookup x=some .cell
def Look (env:Env) (h:Heap) (m:Str→Option Value) (x:Str) (u:Value):Prop:=
 (env.kindOf x=some .local∧m x=some u)∨((env.kindOf x=some .cell∨env.kindOf x=some .free)∧∃c,env.cells.lookup x=some c∧h.IsCell c (some u))
structure Cx.Ok (X:Cx):Prop where
 mod:Mod X.K X.mg X.base
 kind:X.env.scope.kind=.function
 glob:X.env.globals=mainGlobals
 blt:X.env.builtins=builtinsNs
 above:X.s₀.heap.objs.size≤X.env.locals
 inj:∀x y c,X.env.cells.lookup x=some c→X.env.cells.lookup y=some c→x=y
 has:∀x,(X.env.kindOf x=some .cell∨X.env.kindOf x=some .free)→∃c,X.env.cells.lookup x=some c
 cab:∀x c,X.fn x=true→X.env.cells.lookup x=some c→X.s₀.heap.objs.size≤c
 hd:X.calm=true→X.A.handled=none
 frames:X.A.frames=some X.stack
 stk:X.stack=X.outer∨(X.stack=X.env::X.outer∧X.env.frame=some X.env.locals)
 exf:∀b∈X.ex,b≠X.env.locals∧∀x c,X.env.cells.lookup x=some c→c≠b
 bs:∀b o,X.base.get? b=some o→X.s₀.heap.get? b=some o∧X.H₀ b=none
 bsz:X.base.objs.size≤X.s₀.heap.objs.size
 noex:∀b o,X.base.get? b=some o→b∉X.ex
 exfs:∀b∈X.ex,b∉X.fs
 funs:X.s₀.heap.FunFrames X.base X.outer
 frf:∀b∈X.fs,X.H₀ b=none
structure Inv (X:Cx) (pins:List (Addr × Obj)) (σ:List (Option V)) (H:Hp) (s:Shared):Prop where
 ok:X.Ok
 os:s.os=X.s₀.os
 bare:AllBare s.gens
 base:Un X.fs X.ex X.H₀ H X.s₀.heap s.heap
 loc:∃m,s.heap.Ns X.env.locals m∧∀(i:Nat) (x:Str) (v:V),X.N[i]?=some x→σ[i]?=some (some v)→Vis X.env.scope x→∃u,RelV v u∧Look X.env s.heap m x u
 cell:∀x c,X.env.cells.lookup x=some c→∃v,s.heap.IsCell c v
 free:H X.env.locals=none
 freeC:∀x c,X.env.cells.lookup x=some c→H c=none
 pin:∀p∈X.pn++pins,s.heap.get? p.1=some p.2∧H p.1=none∧p.1≠X.env.locals∧p.1∉X.fs∧∀v,p.2.data≠.cell v
 hok:HOk X.prog X.w H s.heap
 len:σ.length=X.N.length
section
variable {X:Cx} {pins:List (Addr × Obj)} {σ:List (Option V)} {H H':Hp} {s:Shared} {h':Heap}
theorem Cx.Ok.nofr (ok:X.Ok) {b:Addr} {o:Obj} (e:X.base.get? b=some o):b∉X.fs:=fun hb=>by
 have:=(ok.funs.mem hb).1
 rw [e] at this;cases this
theorem Inv.bs (I:Inv X pins σ H s):∀b o,X.base.get? b=some o→s.heap.get? b=some o∧H b=none:=fun b o e=>
 ⟨I.base.keep b o (I.ok.bs b o e).1 (I.ok.bs b o e).2 (I.ok.nofr e) (I.ok.noex b o e),I.base.free b o (I.ok.bs b o e).1 (I.ok.bs b o e).2 (I.ok.noex b o e)⟩
theorem Inv.bk (I:Inv X pins σ H s):∀b o,X.base.get? b=some o→s.heap.get? b=some o:=fun b o e=>(I.bs b o e).1
theorem Inv.mod (I:Inv X pins σ H s):Mod X.K X.mg X.base:=I.ok.mod
theorem Inv.kIn (I:Inv X pins σ H s):X.K.In s.heap:=I.ok.mod.kin.keeps I.bk
theorem Inv.lt (I:Inv X pins σ H s):X.env.locals<s.heap.objs.size:=let ⟨_,hn,_⟩:=I.loc;hn.lt
theorem Inv.sz (I:Inv X pins σ H s):X.s₀.heap.objs.size≤s.heap.objs.size:=Nat.le_trans I.ok.above (Nat.le_of_lt I.lt)
theorem Inv.nofs (I:Inv X pins σ H s) {a:Addr} (h:s.heap.objs.size≤a):a∉X.fs:=fun hb=>by
 obtain ⟨_,o,ho,_⟩:=I.ok.funs.mem hb
 exact absurd (Nat.lt_of_lt_of_le (Heap.lt_size ho) (Nat.le_trans I.sz h)) (Nat.lt_irrefl _)
theorem Inv.cne (I:Inv X pins σ H s):∀x c,X.env.cells.lookup x=some c→c≠X.env.locals:=fun x c e z=>by
 obtain ⟨v,o,ho,hd⟩:=I.cell x c e
 obtain ⟨m,⟨o',es,ep,ho',hd',_⟩,_⟩:=I.loc
 rw [z,ho'] at ho;cases ho;rw [hd'] at hd;cases hd
theorem Inv.funs (I:Inv X pins σ H s):s.heap.FunFrames X.base X.outer:=by
 have all:∀(l:List Env),(∀b∈frs l,b∈X.fs)→X.s₀.heap.FunFrames X.base l→s.heap.FunFrames X.base l:=by
  intro l
  induction l with
  |nil=>intro _ _;trivial
  |cons env r ih=>
   intro hs hl
   obtain ⟨hk,⟨L,o,hf,hn,ho,hd⟩,hr⟩:=hl
   have hL:L∈X.fs:=hs L (by unfold frs;rw [List.filterMap_cons,hf];exact List.mem_cons_self)
   obtain ⟨sl,e⟩:=I.base.slot L o ho (I.ok.frf L hL) hL fun z=>I.ok.exfs L z hL
   exact ⟨hk,⟨L,_,hf,hn,e,hd⟩,ih (fun b hb=>hs b (by unfold frs;rw [List.filterMap_cons,hf];exact List.mem_cons_of_mem _ hb)) hr⟩
 exact all X.outer (fun _ hb=>hb) I.ok.funs
theorem Inv.stack (I:Inv X pins σ H s):s.heap.FunFrames X.base X.stack:=by
 rcases I.ok.stk with e|⟨e,hf⟩
 ·rw [e];exact I.funs
 ·rw [e]
  obtain ⟨m,hn,_⟩:=I.loc
  refine .cons (by rw [I.ok.kind];decide) hf hn ?_ I.funs
  exact Heap.get?_none_of_le (Nat.le_trans I.ok.bsz I.ok.above)
theorem Inv.aKa (I:Inv X pins σ H s):∀b∈frs X.stack,b∈X.env.locals::X.fs:=fun b hb=>by
 rcases I.ok.stk with e|⟨e,hf⟩
 ·rw [e] at hb;exact List.mem_cons_of_mem _ hb
 ·rw [e] at hb
  unfold frs at hb
  rw [List.filterMap_cons,hf] at hb
  exact hb
theorem Inv.aMu (I:Inv X pins σ H s):∀b∈frs X.stack,H b=none:=fun b hb=>by
 rcases List.mem_cons.mp (I.aKa b hb) with e|hb
 ·rw [e];exact I.free
 ·obtain ⟨_,o,ho,_⟩:=I.ok.funs.mem hb
  exact I.base.free b o ho (I.ok.frf b hb) fun z=>I.ok.exfs b z hb
theorem Inv.step {g':Array GenState} {t':Nat} {d':Drawn} {ch:List Addr} (I:Inv X pins σ H s)
  (hch:∀b∈ch,(b∈X.ex∨X.s₀.heap.objs.size≤b)∧b≠X.env.locals∧(∀x c,X.env.cells.lookup x=some c→c≠b)∧∀p∈X.pn++pins,p.1≠b)
  (keep:∀b o,b≠X.env.locals→b∉X.fs→b∉ch→s.heap.get? b=some o→H b=none→h'.get? b=some o)
  (slot:∀b o,b≠X.env.locals→b∈X.fs→b∉ch→s.heap.get? b=some o→H b=none→∃sl,h'.get? b=some { o with slots:=sl }) (free:∀b o,b∉ch→s.heap.get? b=some o→H b=none→H' b=none)
  (there:∀b o,b∉ch→s.heap.get? b=some o→∃o',h'.get? b=some o')
  (tups:∀b xs,H b=some (.tup xs)→H' b=some (.tup xs)) (frzs:∀b o u,H b=some (.frz o u)→H' b=some (.frz o u)) (tbls:∀b ps,H b=some (.tbl ps)→∃more,H' b=some (.tbl (ps++more)))
  (ns:∀m,s.heap.Ns X.env.locals m→h'.Ns X.env.locals m) (hok:HOk X.prog X.w H' h') (hg:AllBare g') :
  Inv X pins σ H' { s with heap:=h',gens:=g',drawn:=d',toks:=t' }:=by
 have neL:∀b o,X.s₀.heap.get? b=some o→b≠X.env.locals:=fun b o e=>Nat.ne_of_lt (Nat.lt_of_lt_of_le (Heap.lt_size e) I.ok.above)
 have neC:∀b o,X.s₀.heap.get? b=some o→b∉X.ex→b∉ch:=fun b o e hx hb=>by
  rcases (hch b hb).1 with z|z
  ·exact hx z
  ·exact absurd (Nat.lt_of_lt_of_le (Heap.lt_size e) z) (Nat.lt_irrefl _)
 have cellK:∀x c,X.env.cells.lookup x=some c→∀v,s.heap.IsCell c v→h'.IsCell c v:=fun x c e v ⟨o,ho,hd⟩=>by
  have nch:c∉ch:=fun z=>(hch c z).2.2.1 x c e rfl
  by_cases hc:c∈X.fs
  ·obtain ⟨sl,q⟩:=slot c o (I.cne x c e) hc nch ho (I.freeC x c e)
   exact ⟨_,q,hd⟩
  ·exact ⟨o,keep c o (I.cne x c e) hc nch ho (I.freeC x c e),hd⟩
 refine ⟨I.ok,I.os,hg,⟨fun b o e n hb hx=>?_,fun b o e n hb hx=>?_,fun b o e n hx=>?_,fun b o e hx=>?_,fun b xs e=>tups b xs (I.base.tups b xs e),fun b o xs e=>frzs b o xs (I.base.frzs b o xs e),fun b ps e=>?_⟩,?_,fun x c e=>?_,?_,fun x c e=>?_,fun p hp=>?_,hok,I.len⟩
 ·exact keep b o (neL b o e) hb (neC b o e hx) (I.base.keep b o e n hb hx) (I.base.free b o e n hx)
 ·obtain ⟨sl,e1⟩:=I.base.slot b o e n hb hx
  obtain ⟨sl',e2⟩:=slot b _ (neL b o e) hb (neC b o e hx) e1 (I.base.free b o e n hx)
  exact ⟨sl',e2⟩
 ·obtain ⟨o',e1⟩:=I.base.there b o e hx
  exact free b o' (neC b o e hx) e1 (I.base.free b o e n hx)
 ·obtain ⟨o',e1⟩:=I.base.there b o e hx
  exact there b o' (neC b o e hx) e1
 ·obtain ⟨m1,e1⟩:=I.base.tbls b ps e
  obtain ⟨m2,e2⟩:=tbls b _ e1
  exact ⟨m1++m2,by rw [e2,Array.append_assoc]⟩
 ·obtain ⟨m,hn,hl⟩:=I.loc
  refine ⟨m,ns m hn,fun i x v e1 e2 e3=>?_⟩
  obtain ⟨u,r,l⟩:=hl i x v e1 e2 e3
  refine ⟨u,r,?_⟩
  rcases l with l|⟨k,c,e,z⟩
  ·exact .inl l
  ·exact .inr ⟨k,c,e,cellK x c e _ z⟩
 ·obtain ⟨v,z⟩:=I.cell x c e
  exact ⟨v,cellK x c e v z⟩
 ·obtain ⟨m,⟨o,_,_,ho,_⟩,_⟩:=I.loc
  exact free _ o (fun z=>(hch _ z).2.1 rfl) ho I.free
 ·obtain ⟨v,o,ho,hd⟩:=I.cell x c e
  exact free c o (fun z=>(hch c z).2.2.1 x c e rfl) ho (I.freeC x c e)
 ·obtain ⟨e,n,ne,nf,d⟩:=I.pin p hp
  have nch:p.1∉ch:=fun z=>(hch p.1 z).2.2.2 p hp rfl
  exact ⟨keep p.1 p.2 ne nf nch e n,free p.1 p.2 nch e n,ne,nf,d⟩
theorem Inv.un {t':Nat} (I:Inv X pins σ H s) (u:Un X.fs [] H H' s.heap h') (hok:HOk X.prog X.w H' h'):Inv X pins σ H' { s with heap:=h',toks:=t' }:=by
 obtain ⟨m,⟨o,es,ep,ho,r⟩,_⟩:=id I.loc
 obtain ⟨sl,hL⟩:=u.any ho I.free (by simp)
 exact I.step (g':=s.gens) (d':=s.drawn) (ch:=[]) (fun _ z=>nomatch z) (fun b o _ hb _ e n=>u.keep b o e n hb (by simp)) (fun b o _ hb _ e n=>u.slot b o e n hb (by simp)) (fun b o _ e n=>u.free b o e n (by simp)) (fun b o _ e=>u.there b o e (by simp)) u.tups u.frzs u.tbls (fun m' hm=>by
  obtain ⟨o',es',ep',ho',r'⟩:=hm
  rw [ho] at ho';cases ho'
  exact ⟨_,es',ep',hL,r'⟩) hok I.bare
theorem Inv.call {g':Array GenState} {t':Nat} {d':Drawn} {ch:List Addr} (I:Inv X pins σ H s) (u:Un (frs X.stack) ch H H' s.heap h') (hok:HOk X.prog X.w H' h') (hg:AllBare g')
  (hch:∀b∈ch,(b∈X.ex∨X.s₀.heap.objs.size≤b)∧b≠X.env.locals∧(∀x c,X.env.cells.lookup x=some c→c≠b)∧∀p∈X.pn++pins,p.1≠b) :
  Inv X pins σ H' { s with heap:=h',gens:=g',drawn:=d',toks:=t' }:=by
 obtain ⟨m,⟨o,es,ep,ho,r⟩,_⟩:=id I.loc
 obtain ⟨sl,hL⟩:=u.any ho I.free fun z=>(hch _ z).2.1 rfl
 exact I.step (ch:=ch) hch (fun b o hL hb hc e n=>u.keep b o e n (fun z=>(List.mem_cons.mp (I.aKa b z)).elim hL hb) hc) (fun b o _ _ hc e n=>u.any e n hc) (fun b o hc e n=>u.free b o e n hc) (fun b o hc e=>u.there b o e hc) u.tups u.frzs u.tbls (fun m' hm=>by
  obtain ⟨o',es',ep',ho',r'⟩:=hm
  rw [ho] at ho';cases ho'
  exact ⟨_,es',ep',hL,r'⟩) hok hg
theorem Inv.turned {t':Nat} {it:Addr} (I:Inv X pins σ H s) (k:∀b o,b≠it→s.heap.get? b=some o→h'.get? b=some o) (hn:H it=none) (hL:it≠X.env.locals)
  (h1:it∈X.ex∨X.s₀.heap.objs.size≤it) (h2:∀x c,X.env.cells.lookup x=some c→c≠it) (h3:∀p∈X.pn++pins,p.1≠it):Inv X pins σ H { s with heap:=h',toks:=t' }:=by
 have nit:∀b u,H b=some u→b≠it:=fun b u e z=>by rw [z,hn] at e;cases e
 refine I.step (g':=s.gens) (d':=s.drawn) (ch:=[it]) (fun b hb=>?_) (fun b o _ _ hc e _=>k b o (fun z=>hc (by simp [z])) e) (fun b o _ _ hc e _=>⟨o.slots,k b o (fun z=>hc (by simp [z])) e⟩) (fun _ _ _ _ n=>n)
  (fun b o hc e=>⟨o,k b o (fun z=>hc (by simp [z])) e⟩) (fun _ _ e=>e) (fun _ _ _ e=>e) (fun b ps e=>⟨#[],by rw [e];simp⟩) (fun m hm=>?_) (fun b u e=>?_) I.bare
 ·have e:b=it:=by simpa using hb
  subst e
  exact ⟨h1,hL,h2,h3⟩
 ·obtain ⟨o,es,ep,ho,r⟩:=hm
  exact ⟨o,es,ep,k _ o (Ne.symm hL) ho,r⟩
 ·refine (I.hok b u e).stay (fun c v hc q=>k c v ?_ q) (fun _ q=>q) fun _ _ q=>q
  rcases hc with z|z
  ·rw [z];exact nit b u e
  ·exact nit c _ z
theorem Inv.tok (I:Inv X pins σ H s) (t:Nat):Inv X pins σ H { s with toks:=t }:=I.un (h':=s.heap) (t':=t) Un.refl I.hok
theorem Inv.kept {t':Nat} (I:Inv X pins σ H s) (k:∀b u,s.heap.get? b=some u→h'.get? b=some u):Inv X pins σ H { s with heap:=h',toks:=t' }:=I.un (Un.kept k) (I.hok.kept k)
theorem Inv.laid {a:Addr} {o:HO} {t':Nat} (I:Inv X pins σ H s) (k:∀b u,s.heap.get? b=some u→h'.get? b=some u) (hp:s.heap.objs.size≤a) (new:fU X.prog X.w (upd H a o) h' a o) :
  Inv X pins σ (upd H a o) { s with heap:=h',toks:=t' }:=I.un (Un.laid k hp (I.hok.fresh hp)) (I.hok.laid k hp new)
theorem Inv.write {x e:Addr} {o:HO} {t':Nat} (I:Inv X pins σ H s) (mu:Mut (H x)) (he:e=x∨H e=some (.own x)) (k:∀b u,b≠e→s.heap.get? b=some u→h'.get? b=some u) (heo:∃u,h'.get? e=some u)
  (new:fU X.prog X.w (upd H x o) h' x o):Inv X pins σ (upd H x o) { s with heap:=h',toks:=t' }:=I.un (Un.write mu he k heo) (I.hok.write mu he k heo new)
theorem Inv.aMb {pins':List (Addr × Obj)} (I:Inv X pins σ H s) (h:∀p∈pins',s.heap.get? p.1=some p.2∧H p.1=none∧p.1≠X.env.locals∧p.1∉X.fs∧∀v,p.2.data≠.cell v):Inv X pins' σ H s:=
 ⟨I.ok,I.os,I.bare,I.base,I.loc,I.cell,I.free,I.freeC,fun p hp=>(List.mem_append.mp hp).elim (fun z=>I.pin p (List.mem_append_left _ z)) (h p),I.hok,I.len⟩
theorem aG5 {N:List Str} (hN:N.Nodup) {i j:Nat} {x:Str} (a:N[i]?=some x) (b:N[j]?=some x):i=j:=by
 obtain ⟨h1,e1⟩:=List.getElem?_eq_some_iff.mp a
 obtain ⟨h2,e2⟩:=List.getElem?_eq_some_iff.mp b
 exact (List.getElem_inj hN).mp (e1.trans e2.symm)
theorem aCy {M:Model} {A:Around} {E:Value→Shared→Prop} {i:Nat} {x:Str} {v:V} {u:Value} {Q:Unit→Shared→Prop} (I:Inv X pins σ H s) (hN:X.N.Nodup) (hi:X.N[i]?=some x) (hx:Loc X.env.scope x) (r:RelV v u)
  (h:∀s',Inv X pins (σ.set i (some v)) H s'→(∃a,Heap.SameBut a s.heap s'.heap∧(a=X.env.locals∨X.env.cells.lookup x=some a))→Q () s') (hf:X.fn x=true∨X.env.scope.names.lookup x=some .local:=by first|exact .inl rfl|exact .inr rfl|assumption):wpAny M A (storeName X.env x u) Q E s:=by
 obtain ⟨m,hn,hl⟩:=id I.loc
 have hcls:(X.env.scope.kind == .class || (X.env.scope.kind == .module && X.env.locals != X.env.globals))=false:=by rw [I.ok.kind];rfl
 have hiσ:i<σ.length:=by rw [I.len];exact (List.getElem?_eq_some_iff.mp hi).1
 have cne:=I.cne
 have tracked:∀{a:Addr} {h':Heap},(∃o,s.heap.get? a=some o∧H a=none)→Heap.SameBut a s.heap h'→HOk X.prog X.w H h':=fun {a h'} ha hs b ob e=>by
  obtain ⟨_,_,hfree⟩:=ha
  refine (I.hok b ob e).stay (fun c w' hc q=>(hs.2 c ?_).trans q) (fun _ q=>q) fun _ _ q=>q
  rintro rfl
  rcases hc with rfl|hc
  ·rw [hfree] at e;cases e
  ·rw [hfree] at hc;cases hc
 rcases hx with hk|hk
 ·refine wpAny_storeName_local hk hn (fun h' hn' hs=>?_) hcls
  obtain ⟨oL,_,_,hoL,_⟩:=id hn
  refine h _ ⟨I.ok,I.os,I.bare,⟨fun b o e n hb hx=>?_,fun b o e n hb hx=>?_,I.base.free,fun b o e hx=>?_,I.base.tups,I.base.frzs,I.base.tbls⟩,⟨_,hn',fun j y v' e1 e2 e3=>?_⟩,fun y c e=>?_,I.free,I.freeC,fun p hp=>?_,tracked ⟨oL,hoL,I.free⟩ hs,by simpa using I.len⟩ ⟨_,hs,.inl rfl⟩
  ·exact (hs.2 b (Nat.ne_of_lt (Nat.lt_of_lt_of_le (Heap.lt_size e) I.ok.above))).trans (I.base.keep b o e n hb hx)
  ·obtain ⟨sl,e1⟩:=I.base.slot b o e n hb hx
   exact ⟨sl,(hs.2 b (Nat.ne_of_lt (Nat.lt_of_lt_of_le (Heap.lt_size e) I.ok.above))).trans e1⟩
  ·obtain ⟨o',e1⟩:=I.base.there b o e hx
   exact ⟨o',(hs.2 b (Nat.ne_of_lt (Nat.lt_of_lt_of_le (Heap.lt_size e) I.ok.above))).trans e1⟩
  ·by_cases hj:j=i
   ·subst hj
    rw [hi] at e1;cases e1
    rw [List.getElem?_set_self hiσ] at e2
    cases e2
    exact ⟨u,r,.inl ⟨hk,by simp⟩⟩
   ·rw [List.getElem?_set_ne (Ne.symm hj)] at e2
    obtain ⟨u',r',q⟩:=hl j y v' e1 e2 e3
    refine ⟨u',r',?_⟩
    rcases q with ⟨k,e⟩|⟨k,c,e,z⟩
    ·refine .inl ⟨k,?_⟩
     have:y≠x:=fun e=>hj (aG5 hN e1 (e ▸ hi))
     simp [this,e]
    ·exact .inr ⟨k,c,e,z.sameBut hs (cne y c e)⟩
  ·obtain ⟨w',z⟩:=I.cell y c e
   exact ⟨w',z.sameBut hs (cne y c e)⟩
  ·obtain ⟨e,n,ne,nf,d⟩:=I.pin p hp
   exact ⟨(hs.2 p.1 ne).trans e,n,ne,nf,d⟩
 ·have hfn:X.fn x=true:=by
   rcases hf with z|z
   ·exact z
   ·rw [z] at hk;cases hk
  obtain ⟨c,hc⟩:=I.ok.has x (.inl hk)
  obtain ⟨w',z⟩:=I.cell x c hc
  refine wpAny_storeName_cell I.ok.kind hk hc z (fun h' hc' hs=>?_)
  obtain ⟨oc,hoc,hocd⟩:=id z
  refine h { s with heap:=h' } ⟨I.ok,I.os,I.bare,⟨fun b o e n hb hx=>?_,fun b o e n hb hx=>?_,I.base.free,fun b o e hx=>?_,I.base.tups,I.base.frzs,I.base.tbls⟩,⟨m,hn.sameBut hs (Ne.symm (cne x c hc)),fun j y v' e1 e2 e3=>?_⟩,fun y c' e=>?_,I.free,I.freeC,fun p hp=>?_,tracked ⟨oc,hoc,I.freeC x c hc⟩ hs,by simpa using I.len⟩ ⟨c,hs,.inr hc⟩
  ·exact (hs.2 b (Nat.ne_of_lt (Nat.lt_of_lt_of_le (Heap.lt_size e) (I.ok.cab x c hfn hc)))).trans (I.base.keep b o e n hb hx)
  ·obtain ⟨sl,e1⟩:=I.base.slot b o e n hb hx
   exact ⟨sl,(hs.2 b (Nat.ne_of_lt (Nat.lt_of_lt_of_le (Heap.lt_size e) (I.ok.cab x c hfn hc)))).trans e1⟩
  ·obtain ⟨o',e1⟩:=I.base.there b o e hx
   exact ⟨o',(hs.2 b (Nat.ne_of_lt (Nat.lt_of_lt_of_le (Heap.lt_size e) (I.ok.cab x c hfn hc)))).trans e1⟩
  ·by_cases hj:j=i
   ·subst hj
    rw [hi] at e1;cases e1
    rw [List.getElem?_set_self hiσ] at e2
    cases e2
    exact ⟨u,r,.inr ⟨.inl hk,c,hc,hc'⟩⟩
   ·rw [List.getElem?_set_ne (Ne.symm hj)] at e2
    obtain ⟨u',r',q⟩:=hl j y v' e1 e2 e3
    refine ⟨u',r',?_⟩
    rcases q with q|⟨k,c',e,z'⟩
    ·exact .inl q
    ·refine .inr ⟨k,c',e,z'.sameBut hs ?_⟩
     rintro rfl
     exact hj (aG5 hN e1 (I.ok.inj _ _ _ e hc ▸ hi))
  ·by_cases hcc:c'=c
   ·subst hcc;exact ⟨_,hc'⟩
   ·obtain ⟨w2,z2⟩:=I.cell y c' e
    exact ⟨w2,z2.sameBut hs hcc⟩
  ·obtain ⟨e,n,ne,nf,d⟩:=I.pin p hp
   refine ⟨(hs.2 p.1 ?_).trans e,n,ne,nf,d⟩
   intro q
   rw [q,hoc] at e
   have q':oc=p.2:=Option.some.inj e
   exact d w' (by rw [←q'];exact hocd)
theorem aIj {M:Model} {A:Around} {E:Value→Shared→Prop} {i:Nat} {x:Str} {v:V} {u:Value} {Q:Unit→Shared→Prop} (I:Inv X pins σ H s) (hN:X.N.Nodup) (hi:X.N[i]?=some x) (hx:Loc X.env.scope x) (r:RelV v u)
  (h:∀s',Inv X pins (σ.set i (some v)) H s'→Q () s') (hf:X.fn x=true∨X.env.scope.names.lookup x=some .local:=by first|exact .inl rfl|exact .inr rfl|assumption):wpAny M A (storeName X.env x u) Q E s:=
 aCy I hN hi hx r (fun s' I' _=>h s' I') hf
theorem Inv.call' {s':Shared} {ch:List Addr} (I:Inv X pins σ H s) (ho:s'.os=s.os) (u:Un (frs X.stack) ch H H' s.heap s'.heap) (hok:HOk X.prog X.w H' s'.heap) (hg:AllBare s'.gens)
  (hch:∀b∈ch,(b∈X.ex∨X.s₀.heap.objs.size≤b)∧b≠X.env.locals∧(∀x c,X.env.cells.lookup x=some c→c≠b)∧∀p∈X.pn++pins,p.1≠b):Inv X pins σ H' s':=by
 obtain ⟨h',g',d',t',o'⟩:=s'
 have e:o'=s.os:=ho
 subst e
 exact I.call (g':=g') (t':=t') (d':=d') u hok hg hch
end
abbrev XK:=Value→Option Addr→Hp→Prop
abbrev St:=List (Option V)
abbrev VK:=V→Hp→Prop
abbrev TE:=St→Hp→VK→Prop
abbrev TT:=St→Hp→(Bool→Hp→Prop)→Prop
abbrev TA:=St→Hp→(List V→Hp→Prop)→Prop
structure Ends where
 nx:St→Hp→Prop
 rt:VK
 bk:St→Hp→Prop:=fun _ _=>False
 ct:St→Hp→Prop:=fun _ _=>False
abbrev TS:=Ends→St→Hp→Prop
def EP (X:Cx) (pins:List (Addr × Obj)) (σ:St) (Q:VK) (u:Value) (s':Shared):Prop:=∃v H',Inv X pins σ H' s'∧RelV v u∧Q v H'
def TP (X:Cx) (pins:List (Addr × Obj)) (σ:St) (Q:Bool→Hp→Prop) (b:Bool) (s':Shared):Prop:=∃H',Inv X pins σ H' s'∧Q b H'
def AP (X:Cx) (pins:List (Addr × Obj)) (σ:St) (Q:List V→Hp→Prop) (us:List Value) (s':Shared):Prop:=∃vs H',Inv X pins σ H' s'∧Vals vs us∧Q vs H'
def SP (X:Cx) (pins:List (Addr × Obj)) (D:Ends) (f:Flow) (s':Shared):Prop:=
 match f with
 |.next=>∃σ' H',Inv X pins σ' H' s'∧D.nx σ' H'
 |.brk=>∃σ' H',Inv X pins σ' H' s'∧D.bk σ' H'
 |.cont=>∃σ' H',Inv X pins σ' H' s'∧D.ct σ' H'
 |.ret u=>∃v σ' H',Inv X pins σ' H' s'∧RelV v u∧D.rt v H'
def PE (X:Cx) (e:Expr) (t:TE):Prop:=
 ∀(pins:List (Addr × Obj)) (s:Shared) (σ:St) (H:Hp) (Q:VK),Inv X pins σ H s→t σ H Q→wpAny (model X.prog X.w) X.A (eval e X.env) (EP X pins σ Q) X.xe s
def PT (X:Cx) (e:Expr) (t:TT):Prop:=
 ∀(pins:List (Addr × Obj)) (s:Shared) (σ:St) (H:Hp) (Q:Bool→Hp→Prop),Inv X pins σ H s→t σ H Q→wpAny (model X.prog X.w) X.A (isTrue e X.env (eval e X.env)) (TP X pins σ Q) X.xe s
def PW (X:Cx) (e:Expr) (t:TT):Prop:=
 ∀(whole:Sem Value) (pins:List (Addr × Obj)) (s:Shared) (σ:St) (H:Hp) (Q:Bool→Hp→Prop),Inv X pins σ H s→t σ H Q→wpAny (model X.prog X.w) X.A (isTrue e X.env whole) (TP X pins σ Q) X.xe s
theorem PW.pt {X:Cx} {e:Expr} {t:TT} (h:PW X e t):PT X e t:=h _
def PA (X:Cx) (es:List Expr) (t:TA):Prop:=
 ∀(pos:Pos) (pins:List (Addr × Obj)) (s:Shared) (σ:St) (H:Hp) (Q:List V→Hp→Prop),Inv X pins σ H s→t σ H Q→wpAny (model X.prog X.w) X.A (spliced (backTo pos (starEach es X.env))) (AP X pins σ Q) X.xe s
def PS (X:Cx) (st:Stmt) (t:TS):Prop:=
 ∀(pins:List (Addr × Obj)) (s:Shared) (σ:St) (H:Hp) (D:Ends),Inv X pins σ H s→t D σ H→wpAny (model X.prog X.w) X.A (exec st X.env) (SP X pins D) X.xe s
def PSs (X:Cx) (st:List Stmt) (t:TS):Prop:=
 ∀(pins:List (Addr × Obj)) (s:Shared) (σ:St) (H:Hp) (D:Ends),Inv X pins σ H s→t D σ H→wpAny (model X.prog X.w) X.A (execs st X.env) (SP X pins D) X.xe s
theorem thn {α:Type} {t:Sem α} {Q Q':α→Shared→Prop} {M:Model} {A:Around} {E:Value→Shared→Prop} {s:Shared} (h:wpAny M A t Q E s) (hQ:∀a s,Q a s→Q' a s):wpAny M A t Q' E s:=wpAny_mono h hQ fun _ _ x=>x
section
variable {X:Cx}
def yX (i:Nat):TE:=fun σ H Q=>∃v,σ[i]?=some (some v)∧Q v H
def tC (v:V):TE:=fun _ H Q=>Q v H
theorem aW3 {i:Nat} {x:Str} {pos:Pos} (hN:X.N[i]?=some x) (hv:Vis X.env.scope x) (hd:(x == ("__debug__":Str))=false:=by decide) (hcd:(x == ("__classdict__":Str))=false:=by decide):PE X (.Name x pos) (yX i):=by
 intro pins s σ H Q I h
 obtain ⟨v,e,h⟩:=h
 obtain ⟨m,hn,hl⟩:=I.loc
 obtain ⟨u,r,l⟩:=hl i x v hN e hv
 have fin:EP X pins σ Q u s:=⟨v,H,I,r,h⟩
 rcases l with ⟨hk,hm⟩|⟨hk,c,hc,hcell⟩
 ·exact wpAny_Name (wpAny_loadName_local I.ok.kind hk hn hm fin) hd
 ·rcases hk with hk|hk
  ·exact wpAny_Name (wpAny_loadName_cell I.ok.kind hk hc hcell fin) hd
  ·exact wpAny_Name (wpAny_loadName_free I.ok.kind hk hc hcell fin hcd) hd
theorem aXn {i j pos}:PE X (.Constant (.int i) j pos) (tC (.int i)):=fun _ _ _ H _ I h=>wpAny_Constant_int ⟨.int i,H,I.tok _,⟨_,rfl⟩,h⟩
theorem aYp {b j pos}:PE X (.Constant (.bool b) j pos) (tC (.bl b)):=fun _ _ _ H _ I h=>Constant_bool ⟨.bl b,H,I,rfl,h⟩
theorem aX5 {j pos}:PE X (.Constant .none j pos) (tC .non):=fun _ _ _ H _ I h=>Constant_none ⟨.non,H,I,rfl,h⟩
theorem aX6 {x j pos}:PE X (.Constant (.str x) j pos) (tC (.str x)):=fun _ _ _ H _ I h=>Calls.Constant_str ⟨.str x,H,I.tok _,⟨_,rfl⟩,h⟩
def Gl (X:Cx) (x:Str):Prop:=X.env.kindOf x=some .globalImplicit
theorem aGd {E:Value→Shared→Prop} {pins:List (Addr × Obj)} {s:Shared} {σ:St} {H:Hp} {x:Str} {u:Value} {pos:Pos} {Q:Value→Shared→Prop} (I:Inv X pins σ H s) (hg:Gl X x) (hm:X.mg x=some u) (h:Q u s)
  (hd:(x == ("__debug__":Str))=false:=by decide):wpAny (model X.prog X.w) X.A (eval (.Name x pos) X.env) Q E s:=
 Calls.Name_function_global I.ok.kind hg (Calls.loadGlobal_global (by rw [I.ok.glob];exact I.mod.glob.keeps I.bk) hm h) hd
theorem uG {E:Value→Shared→Prop} {pins:List (Addr × Obj)} {s:Shared} {σ:St} {H:Hp} {x:Str} {u:Value} {pos:Pos} {Q:Value→Shared→Prop} (I:Inv X pins σ H s) (hg:Gl X x) (hm:X.mg x=none) (hv:bootBuiltins x=some u) (h:Q u s)
  (hn:x≠"__name__":=by decide) (hd:(x == ("__debug__":Str))=false:=by decide):wpAny (model X.prog X.w) X.A (eval (.Name x pos) X.env) Q E s:=by
 obtain ⟨mb,h1,h2⟩:=I.mod.blt
 exact Calls.Name_function_global I.ok.kind hg (Calls.loadGlobal_builtin (by rw [I.ok.glob];exact I.mod.glob.keeps I.bk) hm (by rw [I.ok.blt];exact h1.keeps I.bk) ((h2 x hn).trans hv) h) hd
theorem aTm {x:Str} {v:V} {u:Value} {pos:Pos} (hg:Gl X x) (hm:X.mg x=some u) (r:RelV v u) (hd:(x == ("__debug__":Str))=false:=by decide):PE X (.Name x pos) (tC v):=
 fun _ _ _ H _ I h=>aGd I hg hm ⟨v,H,I,r,h⟩ hd
theorem aTi {x:Str} {v:V} {u:Value} {pos:Pos} (hg:Gl X x) (hm:X.mg x=none) (hv:bootBuiltins x=some u) (r:RelV v u) (hn:x≠"__name__":=by decide) (hd:(x == ("__debug__":Str))=false:=by decide):PE X (.Name x pos) (tC v):=
 fun _ _ _ H _ I h=>uG I hg hm hv ⟨v,H,I,r,h⟩ hn hd
variable {a b:Expr} {ta tb:TE} {pos:Pos}
def PC (X:Cx) (op:CmpOp) (a b:Expr) (t:TE):Prop:=
 ∀(pins:List (Addr × Obj)) (s:Shared) (σ:St) (H:Hp) (Q:VK),Inv X pins σ H s→t σ H Q →
  wpAny (model X.prog X.w) X.A (eval a X.env) (fun v s₁=>wpAny (model X.prog X.w) X.A (eval b X.env) (fun u s₂=>wpAny (model X.prog X.w) X.A (compareOp op v u) (EP X pins σ Q) X.xe s₂) X.xe s₁) X.xe s
def tB (t:TE):TT:=fun σ H Q=>t σ H fun x H1=>∃c,x=.bl c∧Q c H1
theorem aWd {op:CmpOp} {t:TE} (h:PC X op a b t) (h1:behindInMarks op b=false:=by first|exact nobehind _ (by decide) (by decide)|rfl):PT X (.Compare a [op] [b] pos) (tB t):=by
 intro pins s σ H Q I hw
 refine wpAny_isTrue_Compare1 (thn (h pins s σ H _ I hw) fun v s1 h1=>thn h1 fun u s2 h2=>thn h2 fun c s3 ⟨x,H1,I1,r1,q1⟩=>?_) h1
 obtain ⟨d,rfl,q⟩:=q1
 cases r1
 exact wpAny_truthy_bool ⟨H1,I1,q⟩
theorem aWu {e:Expr} {t:TE} (h:PE X e t) (he:∀whole,isTrue e X.env whole=(do let v ←whole;standAt e.pos;holding [v] (truthy v)):=by intro _;rfl):PT X e (tB t):=by
 intro pins s σ H Q I hw
 refine isTrue_plain (thn (h pins s σ H _ I hw) fun v s1 ⟨x,H1,I1,r1,q1⟩=>?_) (he _)
 obtain ⟨d,rfl,q⟩:=q1
 cases r1
 exact wpAny_truthy_bool ⟨H1,I1,q⟩
variable {tA tB':TT} {rest:List Expr}
def aY9 (t u:TT):TT:=fun σ H Q=>t σ H fun c H1=>if c=true then u σ H1 Q else Q false H1
def tOr (t u:TT):TT:=fun σ H Q=>t σ H fun c H1=>if c=true then Q true H1 else u σ H1 Q
def aX7 (t:TT):TT:=fun σ H Q=>t σ H fun c H1=>Q (!c) H1
theorem aTh (ha:PT X a tA):PW X (.BoolOp .And [a] pos) tA:=by
 intro wh pins s σ H Q I h
 refine isTrue_and (thn (ha pins s σ H Q I h) fun c s1 e=>?_)
 cases c with
 |true=>exact isTrue_and_nil e
 |false=>exact e
theorem aX1 (ha:PT X a tA):PW X (.BoolOp .Or [a] pos) tA:=by
 intro wh pins s σ H Q I h
 refine isTrue_or (thn (ha pins s σ H Q I h) fun c s1 e=>?_)
 cases c with
 |false=>exact isTrue_or_nil e
 |true=>exact e
theorem aW0 (ha:PT X a tA) (hb:PW X (.BoolOp .And (b::rest) pos) tB'):PW X (.BoolOp .And (a::b::rest) pos) (aY9 tA tB'):=by
 intro wh pins s σ H Q I h
 refine isTrue_and (thn (ha pins s σ H _ I h) fun c s1 ⟨H1,I1,q1⟩=>?_)
 cases c with
 |true=>exact hb wh pins s1 σ H1 Q I1 q1
 |false=>exact ⟨H1,I1,q1⟩
theorem aZn (ha:PT X a tA) (hb:PW X (.BoolOp .Or (b::rest) pos) tB'):PW X (.BoolOp .Or (a::b::rest) pos) (tOr tA tB'):=by
 intro wh pins s σ H Q I h
 refine isTrue_or (thn (ha pins s σ H _ I h) fun c s1 ⟨H1,I1,q1⟩=>?_)
 cases c with
 |true=>exact ⟨H1,I1,q1⟩
 |false=>exact hb wh pins s1 σ H1 Q I1 q1
theorem aX0 (ha:PT X a tA):PT X (.UnaryOp .Not a pos) (aX7 tA):=by
 intro pins s σ H Q I h
 exact isTrue_not (ha pins s σ H (fun c H1=>Q (!c) H1) I h)
def aSf (ta tb:TE):TE:=fun σ H Q=>ta σ H fun x H1=>∃c,x=.bl c∧if c=true then tb σ H1 Q else Q (.bl false) H1
def aZa (ta tb:TE):TE:=fun σ H Q=>ta σ H fun x H1=>∃c,x=.bl c∧if c=true then Q (.bl true) H1 else tb σ H1 Q
def aV0 (ta:TE):TE:=fun σ H Q=>ta σ H fun x H1=>∃c,x=.bl c∧Q (.bl (!c)) H1
theorem aV9 {op} {t:TE} (h:PE X a t):PE X (.BoolOp op [a] pos) t:=fun pins s σ H Q I hw=>BoolOp_one (h pins s σ H Q I hw)
theorem aV5 (ha:PE X a ta) (hb:PE X (.BoolOp .And (b::rest) pos) tb):PE X (.BoolOp .And (a::b::rest) pos) (aSf ta tb):=by
 intro pins s σ H Q I h
 refine BoolOp_and (thn (ha pins s σ H _ I h) fun v s1 ⟨x,H1,I1,r1,q1⟩=>?_)
 obtain ⟨c,rfl,q1⟩:=q1
 cases r1
 refine wpAny_truthy_bool ?_
 cases c with
 |true=>exact hb pins s1 σ H1 Q I1 q1
 |false=>exact ⟨.bl false,H1,I1,rfl,q1⟩
theorem aYt (ha:PE X a ta) (hb:PE X (.BoolOp .Or (b::rest) pos) tb):PE X (.BoolOp .Or (a::b::rest) pos) (aZa ta tb):=by
 intro pins s σ H Q I h
 refine BoolOp_or (thn (ha pins s σ H _ I h) fun v s1 ⟨x,H1,I1,r1,q1⟩=>?_)
 obtain ⟨c,rfl,q1⟩:=q1
 cases r1
 refine wpAny_truthy_bool ?_
 cases c with
 |false=>exact hb pins s1 σ H1 Q I1 q1
 |true=>exact ⟨.bl true,H1,I1,rfl,q1⟩
theorem aWz (ha:PE X a ta):PE X (.UnaryOp .Not a pos) (aV0 ta):=by
 intro pins s σ H Q I h
 refine UnaryOp_ (thn (ha pins s σ H _ I h) fun v s1 ⟨x,H1,I1,r1,q1⟩=>?_)
 obtain ⟨c,rfl,q1⟩:=q1
 cases r1
 exact not_of (wpAny_truthy_bool ⟨.bl (!c),H1,I1,rfl,q1⟩)
def tIf (t:TT) (ta tb:TE):TE:=fun σ H Q=>t σ H fun c H1=>if c=true then ta σ H1 Q else tb σ H1 Q
theorem aPx {c:Expr} (hc:PT X c tA) (ha:PE X a ta) (hb:PE X b tb):PE X (.IfExp c a b pos) (tIf tA ta tb):=by
 intro pins s σ H Q I h
 refine wpAny_IfExp (thn (hc pins s σ H _ I h) fun d s1 ⟨H1,I1,q1⟩=>?_)
 cases d with
 |true=>exact ha pins s1 σ H1 Q I1 q1
 |false=>exact hb pins s1 σ H1 Q I1 q1
end
def SqL (K:PySem.W.Frag) (H:Hp) (a:Addr) (xs:List V):Prop:=
 Rd H a (.lst xs) ∨
  ∃(o:Obj) (its:Array Value) (n:Nat),K.lookup a=some o∧o.cls=.type "list"∧o.dict=none∧o.data=.seq its n∧its.size≤sizeLine∧Vals xs its.toList
def SqT (K:PySem.W.Frag) (H:Hp) (a:Addr) (xs:List V):Prop:=
 Rd H a (.tup xs) ∨
  ∃(o:Obj) (its:Array Value) (n:Nat),K.lookup a=some o∧o.cls=.type "tuple"∧o.dict=none∧o.data=.seq its n∧its.size≤sizeLine∧Vals xs its.toList
def aZ4:Value→Option V
 |.none=>some .non
 |.bool b=>some (.bl b)
 |.int i _=>some (.int i)
 |.str x _=>some (.str x)
 |.bytes b _=>some (.byt b)
 |.float b _=>some (.flt b)
 |.ref a=>some (.ref a)
 |.type n=>some (.ty n)
 |_=>none
theorem RelV.abs {x:V} {u:Value} (r:RelV x u):aZ4 u=some x:=by
 cases x with
 |non=>cases r;rfl
 |bl _=>cases r;rfl
 |int _=>obtain ⟨t,rfl⟩:=r;rfl
 |str _=>obtain ⟨t,rfl⟩:=r;rfl
 |byt _=>obtain ⟨t,rfl⟩:=r;rfl
 |flt _=>obtain ⟨t,rfl⟩:=r;rfl
 |ref _=>cases r;rfl
 |ty _=>cases r;rfl
theorem RelV.inj {x y:V} {u:Value} (r:RelV x u) (q:RelV y u):x=y:=Option.some.inj (r.abs.symm.trans q.abs)
theorem Vals.inj:∀{xs ys:List V} {us:List Value},Vals xs us→Vals ys us→xs=ys
 |_,_,_,.nil,.nil=>rfl
 |_,_,_,.cons r t,.cons r' t'=>by rw [r.inj r',Vals.inj t t']
section
variable {X:Cx} {pins:List (Addr × Obj)} {σ:St} {H:Hp} {s:Shared} {a:Addr} {xs ys:List V}
theorem SqL.of {K:PySem.W.Frag} (h:H a=some (.lst xs)):SqL K H a xs:=.inl (.inl h)
theorem SqT.of {K:PySem.W.Frag} (h:H a=some (.tup xs)):SqT K H a xs:=.inl (.inl h)
theorem Inv.list (I:Inv X pins σ H s) (h:SqL X.K H a xs):∃its:List Value,Vals xs its∧PlainL s.heap a its.toArray∧xs.length≤sizeLine:=by
 rcases h with h|⟨o,its,n,hk,hc,hd,hs,hz,r⟩
 ·obtain ⟨z,its,n,r,e⟩:=h.ok I.hok
  exact ⟨its,r,⟨_,n,e,rfl,rfl,rfl⟩,z⟩
 ·refine ⟨its.toList,r,⟨o,n,I.kIn a o hk,hc,hd,by simpa using hs⟩,?_⟩
  have e:=r.length
  simp only [Array.length_toList] at e
  lia
theorem Inv.tuple (I:Inv X pins σ H s) (h:SqT X.K H a xs):∃its:List Value,Vals xs its∧IsTup s.heap a its.toArray∧xs.length≤sizeLine:=by
 rcases h with h|⟨o,its,n,hk,hc,hd,hs,hz,r⟩
 ·obtain ⟨z,its,r,p⟩:=h.ok I.hok
  exact ⟨its,r,p.1,z⟩
 ·refine ⟨its.toList,r,⟨o,I.kIn a o hk,hc,n,by simpa using hs⟩,?_⟩
  have e:=r.length
  simp only [Array.length_toList] at e
  lia
theorem Inv.aR0 (I:Inv X pins σ H s) (h:SqL X.K H a xs) (h':SqL X.K H a ys):xs=ys:=by
 obtain ⟨its,r,⟨o,n,e,_,_,d⟩,_⟩:=I.list h
 obtain ⟨its',r',⟨o',n',e',_,_,d'⟩,_⟩:=I.list h'
 rw [e] at e';cases e'
 rw [d] at d'
 injection d' with d1 _
 have:its=its':=by simpa using congrArg Array.toList d1
 subst this
 exact r.inj r'
theorem Inv.aCj (I:Inv X pins σ H s) (h:SqT X.K H a xs) (h':SqT X.K H a ys):xs=ys:=by
 obtain ⟨its,r,⟨o,e,_,n,d⟩,_⟩:=I.tuple h
 obtain ⟨its',r',⟨o',e',_,n',d'⟩,_⟩:=I.tuple h'
 rw [e] at e';cases e'
 rw [d] at d'
 injection d' with d1 _
 have:its=its':=by simpa using congrArg Array.toList d1
 subst this
 exact r.inj r'
end
abbrev Cx.wish (X:Cx) (E:Value→Shared→Prop):Cx:={ X with xe:=E }
abbrev Cx.nox (X:Cx):Cx:=X.wish fun _ _=>False
theorem Cx.Ok.wish {X:Cx} (ok:X.Ok) (E:Value→Shared→Prop):(X.wish E).Ok:=
 ⟨ok.mod,ok.kind,ok.glob,ok.blt,ok.above,ok.inj,ok.has,ok.cab,ok.hd,ok.frames,ok.stk,ok.exf,ok.bs,ok.bsz,ok.noex,ok.exfs,ok.funs,ok.frf⟩
theorem Cx.Ok.rE {X:Cx} {E:Value→Shared→Prop} (ok:(X.wish E).Ok):X.Ok:=
 ⟨ok.mod,ok.kind,ok.glob,ok.blt,ok.above,ok.inj,ok.has,ok.cab,ok.hd,ok.frames,ok.stk,ok.exf,ok.bs,ok.bsz,ok.noex,ok.exfs,ok.funs,ok.frf⟩
section
variable {X:Cx} {pins:List (Addr × Obj)} {σ:St} {H:Hp} {s:Shared} {E:Value→Shared→Prop}
theorem Inv.wish (I:Inv X pins σ H s) (E:Value→Shared→Prop):Inv (X.wish E) pins σ H s:=⟨I.ok.wish E,I.os,I.bare,I.base,I.loc,I.cell,I.free,I.freeC,I.pin,I.hok,I.len⟩
theorem Inv.rE (I:Inv (X.wish E) pins σ H s):Inv X pins σ H s:=⟨I.ok.rE,I.os,I.bare,I.base,I.loc,I.cell,I.free,I.freeC,I.pin,I.hok,I.len⟩
theorem SP.rE {D:Ends} {f:Flow} {s':Shared} (h:SP (X.wish E) pins D f s'):SP X pins D f s':=by
 cases f with
 |next=>obtain ⟨σ',H',I,q⟩:=h;exact ⟨σ',H',I.rE,q⟩
 |brk=>obtain ⟨σ',H',I,q⟩:=h;exact ⟨σ',H',I.rE,q⟩
 |cont=>obtain ⟨σ',H',I,q⟩:=h;exact ⟨σ',H',I.rE,q⟩
 |ret u=>obtain ⟨v,σ',H',I,r,q⟩:=h;exact ⟨v,σ',H',I.rE,r,q⟩
theorem PSs.nox {st:List Stmt} {t:TS} (h:PSs X.nox st t):PSs X st t:=fun pins s σ H D I hw=>
 wpAny_mono (h pins s σ H D (I.wish _) hw) (fun _ _ q=>q.rE) fun _ _ z=>False.elim z
end
section
variable {X:Cx} {st:Stmt} {rest:List Stmt} {t u:TS} {e:Expr} {te:TE} {pos:Pos}
def yN:TS:=fun D σ H=>D.nx σ H
def mR (t u:TS):TS:=fun D σ H=>t { D with nx:=u D } σ H
theorem aUu:PSs X [] yN:=fun _ _ σ H _ I h=>wpAny_execs_nil ⟨σ,H,I,h⟩
theorem aRc (h1:PS X st t) (h2:PSs X rest u):PSs X (st::rest) (mR t u):=by
 intro pins s σ H D I h
 refine wpAny_execs_cons (thn (h1 pins s σ H { D with nx:=u D } I h) fun f s1 q=>?_)
 cases f with
 |next=>
  obtain ⟨σ',H',I',q⟩:=q
  exact h2 pins s1 σ' H' D I' q
 |ret v=>exact q
 |brk=>exact q
 |cont=>exact q
theorem aT3 (h1:PS X st t):PSs X [st] t:=by
 intro pins s σ H D I h
 refine wpAny_execs_cons (thn (h1 pins s σ H D I h) fun f s1 q=>?_)
 cases f with
 |next=>exact wpAny_execs_nil q
 |ret v=>exact q
 |brk=>exact q
 |cont=>exact q
theorem Inv.quiet {pins:List (Addr × Obj)} {σ:St} {H:Hp} {s:Shared} (I:Inv X pins σ H s):interactive X.env=false:=by simp [interactive,I.ok.kind]
def aMy (te:TE):TS:=fun D σ H=>te σ H fun _ H1=>D.nx σ H1
theorem aU9 (he:PE X e te) (hs:swapsWith e none pos.line X.env=pure false:=by rfl):PS X (.Expr e pos) (aMy te):=by
 intro pins s σ H D I h
 exact wpAny_Expr_any (thn (he pins s σ H _ I h) fun v s1 ⟨x,H1,I1,r1,q1⟩=>⟨σ,H1,I1,q1⟩) I.quiet hs
def zK (te:TE):TS:=fun D σ H=>te σ H D.rt
theorem aWi (he:PE X e te):PS X (.Return (some e) pos) (zK te):=by
 intro pins s σ H D I h
 exact wpAny_Return_some (thn (he pins s σ H _ I h) fun v s1 ⟨x,H1,I1,r1,q1⟩=>⟨x,σ,H1,I1,r1,q1⟩)
def aL2 (c:TT) (t u:TS):TS:=fun D σ H=>c σ H fun b H1=>if b=true then t D σ H1 else u D σ H1
theorem aY1 {c:Expr} {a b:List Stmt} {tc:TT} (hc:PT X c tc) (ha:PSs X a t) (hb:PSs X b u):PS X (.If c a b pos) (aL2 tc t u):=by
 intro pins s σ H D I h
 refine wpAny_If (thn (hc pins s σ H _ I h) fun d s1 ⟨H1,I1,q1⟩=>?_)
 cases d with
 |true=>exact ha pins s1 σ H1 D I1 q1
 |false=>exact hb pins s1 σ H1 D I1 q1
def aP3:TS:=fun _ _ _=>False
theorem aPt:PS X st aP3:=fun _ _ _ _ _ _ h=>h.elim
end
abbrev TG:=V→St→Hp→(St→Hp→Prop)→Prop
abbrev TGs:=List V→St→Hp→(St→Hp→Prop)→Prop
def PG (X:Cx) (target:Expr) (t:TG):Prop:=
 ∀(pins:List (Addr × Obj)) (s:Shared) (σ:St) (H:Hp) (v:V) (u:Value) (Q:St→Hp→Prop),Inv X pins σ H s→RelV v u→t v σ H Q →
  wpAny (model X.prog X.w) X.A (assign target X.env u) (fun _ s'=>∃σ' H',Inv X pins σ' H' s'∧Q σ' H') X.xe s
def PGs (X:Cx) (ts:List Expr) (t:TGs):Prop:=
 ∀(pins:List (Addr × Obj)) (s:Shared) (σ:St) (H:Hp) (vs:List V) (us:List Value) (Q:St→Hp→Prop),Inv X pins σ H s→Vals vs us→t vs σ H Q →
  wpAny (model X.prog X.w) X.A (assignInOrder ((assignEach ts X.env).map (·.2)) us) (fun _ s'=>∃σ' H',Inv X pins σ' H' s'∧Q σ' H') X.xe s
abbrev aU2:=V→V→V→Hp→(Hp→Prop)→Prop
def aXt (X:Cx) (t:aU2):Prop:=
 ∀(pins:List (Addr × Obj)) (s:Shared) (σ:St) (H:Hp) (o i v:V) (ov iv u:Value) (Q:Hp→Prop),Inv X pins σ H s→RelV o ov→RelV i iv→RelV v u→t o i v H Q →
  wpAny (model X.prog X.w) X.A (setItem ov iv u) (fun _ s'=>∃H',Inv X pins σ H' s'∧Q H') X.xe s
section
variable {X:Cx} {pos:Pos}
def bQ (i:Nat):TG:=fun v σ H Q=>Q (σ.set i (some v)) H
theorem aUk {i:Nat} {x:Str} (hN:X.N.Nodup) (hi:X.N[i]?=some x) (hx:Loc X.env.scope x) (hf:X.fn x=true∨X.env.scope.names.lookup x=some .local:=by first|exact .inl rfl|exact .inr rfl|assumption):PG X (.Name x pos) (bQ i):=by
 intro pins s σ H v u Q I r h
 exact wpAny_assign_Name (aIj I hN hi hx r (fun s' I'=>⟨_,H,I',h⟩) hf)
def aIh:TGs:=fun vs σ H Q=>vs=[]∧Q σ H
def oE (t:TG) (u:TGs):TGs:=fun vs σ H Q=>∃v r,vs=v::r∧t v σ H fun σ' H'=>u r σ' H' Q
theorem aU4:PGs X [] aIh:=by
 intro pins s σ H vs us Q I r h
 obtain ⟨e,h⟩:=h
 subst e
 cases r
 exact assignInOrder_nil ⟨σ,H,I,h⟩
theorem aPw {e:Expr} {es:List Expr} {t:TG} {u:TGs} (h1:PG X e t) (h2:PGs X es u)
  (hs:(assignEach (e::es) X.env).map (·.2)=assign e X.env::(assignEach es X.env).map (·.2):=by rfl):PGs X (e::es) (oE t u):=by
 intro pins s σ H vs us Q I r h
 obtain ⟨v,vr,e1,h⟩:=h
 subst e1
 cases r with
 |cons r rr=>
  rw [hs]
  refine assignInOrder_cons (thn (h1 pins s σ H _ _ _ I r h) fun _ s1 ⟨σ1,H1,I1,q1⟩=>?_)
  exact h2 pins s1 σ1 H1 _ _ Q I1 rr q1
def aJk (K:PySem.W.Frag) (n:Nat) (t:TGs):TG:=fun v σ H Q=>∃a xs,v=.ref a∧SqT K H a xs∧xs.length=n∧t xs σ H Q
theorem aYd {es:List Expr} {k:Nat} {t:TGs} {n:Nat} (hc:X.calm=true) (h:PGs X es t)
  (hn:(assignEach es X.env).length=n:=by rfl) (hst:(assignEach es X.env).findIdx? (·.1)=none:=by rfl):PG X (.Tuple es k pos) (aJk X.K n t):=by
 intro pins s σ H v u Q I r hw
 obtain ⟨a,xs,e1,hq,hl,hw⟩:=hw
 subst e1
 cases r
 obtain ⟨its,rv,ht,hz⟩:=I.tuple hq
 refine assign_Tuple_tuple (I.ok.hd hc) ht (by simp [hn,←hl,rv.length]) hst fun h' hx=>?_
 have I1:Inv X pins σ H { s with heap:=h' }:=I.kept (t':=s.toks) fun b o e=>hx b o (Nat.ne_of_lt (Heap.lt_size e)) e
 exact h pins _ σ H xs _ Q I1 (by simpa using rv) hw
def aYw (to ti:TE) (t:aU2):TG:=fun v σ H Q=>to σ H fun o H1=>ti σ H1 fun i H2=>t o i v H2 fun H3=>Q σ H3
theorem aXi {o i:Expr} {to ti:TE} {t:aU2} (ho:PE X o to) (hi:PE X i ti) (hs:aXt X t)
  (ha:∀v,assign (.Subscript o i pos) X.env v=(do
   let ov ←holding [v] (eval o X.env)
   let iv ←holding [v,ov] (eval i X.env)
   standAt pos
   holding [v,ov,iv] (setItem ov iv v)
   release [v,ov,iv] []):=by intro _;rfl):PG X (.Subscript o i pos) (aYw to ti t):=by
 intro pins s σ H v u Q I r h
 rw [ha]
 refine wpAny_bind (wpAny_holding (thn (ho pins s σ H _ I h) fun ov s1 ⟨x,H1,I1,r1,q1⟩=>?_))
 refine wpAny_bind (wpAny_holding (thn (hi pins s1 σ H1 _ I1 q1) fun iv s2 ⟨y,H2,I2,r2,q2⟩=>?_))
 refine wpAny_bind (wpAny_standAt (wpAny_bind (wpAny_holding (thn (hs pins s2 σ H2 x y v ov iv u _ I2 r1 r2 r q2) fun _ s3 ⟨H3,I3,q3⟩=>?_))))
 exact wpAny_release ⟨σ,H3,I3,q3⟩
def mO (te:TE) (g:TG):TS:=fun D σ H=>te σ H fun x H1=>g x σ H1 D.nx
theorem aYb {tg e:Expr} {te:TE} {g:TG} (he:PE X e te) (hg:PG X tg g) (hs:swapsWithSole [tg] e pos.line X.env=pure false:=by rfl) (hw:swappedStores [tg] e X.env=pure none:=by rfl)
  (h1:(assignEach [tg] X.env).map (·.2)=[assign tg X.env]:=by rfl):PS X (.Assign [tg] e pos) (mO te g):=by
 intro pins s σ H D I h
 refine wpAny_Assign_stores (thn (he pins s σ H _ I h) fun v s1 ⟨x,H1,I1,r1,q1⟩=>?_) hs hw
 rw [h1]
 exact thn (hg pins s1 σ H1 x v _ I1 r1 q1) fun _ s2 q=>q
theorem aXx {i:Nat} {x:Str} {e:Expr} {te:TE} {pos':Pos} (hN:X.N.Nodup) (hi:X.N[i]?=some x) (hx:Loc X.env.scope x) (he:PE X e te) (hs:swapsWith e (some (.Name x pos')) pos.line X.env=pure false:=by rfl) (hf:X.fn x=true∨X.env.scope.names.lookup x=some .local:=by first|exact .inl rfl|exact .inr rfl|assumption) :
  PS X (.Assign [.Name x pos'] e pos) (mO te (bQ i)):=by
 intro pins s σ H D I h
 refine wpAny_Assign_Name (thn (he pins s σ H _ I h) fun v s1 ⟨y,H1,I1,r1,q1⟩=>?_) hs
 exact aIj I1 hN hi hx r1 (fun s2 I2=>⟨_,H1,I2,q1⟩) hf
end
section
variable {X:Cx} {pos:Pos}
def aSw (c:TT) (tb:TS):TS:=fun D σ H=>∃W:Nat→St→Hp→Prop,(∃m,W m σ H)∧∀m σ H,W m σ H →
 c σ H fun b H1=>if b=true then ∃N:St→Hp→Prop,(∀σ' H',N σ' H'→∃m',m'<m∧W m' σ' H')∧tb { D with nx:=N,ct:=N,bk:=D.nx } σ H1 else D.nx σ H1
theorem aQh {c:Expr} {body:List Stmt} {tc:TT} {tb:TS} (hp:PassesOwn (model X.prog X.w) X.A X.env X.xe) (hc:PT X c tc) (hb:PSs X body tb):PS X (.While c body [] pos) (aSw tc tb):=by
 intro pins s σ H D I h
 obtain ⟨W,⟨m0,w0⟩,turn⟩:=h
 refine wpAny_While (codeAny_whileLoop (fun n s'=>∃σ' H',Inv X pins σ' H' s'∧W n σ' H') ?_ m0 ⟨σ,H,I,w0⟩)
 rintro n s1 ⟨σ1,H1,I1,w1⟩
 refine wpAny_passesOwn hp (thn (hc pins s1 σ1 H1 _ I1 (turn n σ1 H1 w1)) fun b s2 ⟨H2,I2,q2⟩=>?_)
 cases b with
 |true=>
  obtain ⟨N,hN,q2⟩:=q2
  rw [if_pos rfl]
  refine wpAny_passesOwn hp (thn (hb pins s2 σ1 H2 _ I2 q2) fun f s3 q3=>?_)
  cases f with
  |next=>
   obtain ⟨σ3,H3,I3,n3⟩:=q3
   obtain ⟨m',hm,w3⟩:=hN σ3 H3 n3
   exact ⟨m',hm,σ3,H3,I3,w3⟩
  |cont=>
   obtain ⟨σ3,H3,I3,n3⟩:=q3
   obtain ⟨m',hm,w3⟩:=hN σ3 H3 n3
   exact ⟨m',hm,σ3,H3,I3,w3⟩
  |brk=>exact q3
  |ret v=>exact q3
 |false=>
  rw [if_neg Bool.false_ne_true]
  exact wpAny_execs_nil ⟨σ1,H2,I2,q2⟩
end
structure It where
 go:Nat→Hp→Prop
 yld:Nat→Hp→V→Hp→Prop
 stop:Nat→Hp→Prop
def uK (X:Cx) (pins:List (Addr × Obj)) (H:Hp) (b:Addr):Prop:=
 H b=none∧b≠X.env.locals∧b∉X.fs∧(b∈X.ex∨X.s₀.heap.objs.size≤b)∧(∀x c,X.env.cells.lookup x=some c→c≠b)∧∀p∈X.pn++pins,p.1≠b
theorem Inv.aG2 {X:Cx} {pins:List (Addr × Obj)} {σ:St} {H H':Hp} {s:Shared} {b:Addr} (I:Inv X pins σ H s) (hb:s.heap.objs.size≤b) (hn:H' b=none):uK X pins H' b:=by
 refine ⟨hn,Nat.ne_of_gt (Nat.lt_of_lt_of_le I.lt hb),I.nofs hb,.inr (Nat.le_trans I.sz hb),fun x c e z=>?_,fun p hp z=>?_⟩
 ·obtain ⟨v,q⟩:=I.cell x c e
  exact absurd (Nat.lt_of_lt_of_le q.lt (by rw [z];exact hb)) (Nat.lt_irrefl _)
 ·exact absurd (Nat.lt_of_lt_of_le (Heap.lt_size (I.pin p hp).1) (by rw [z];exact hb)) (Nat.lt_irrefl _)
structure Turn (P:Program) (w:World) (K:PySem.W.Frag) (tg:Expr) (J:It) (fp:List Addr) (it:Addr) (tn:Nat→Heap→Prop):Prop where
 mem:it∈fp
 obj:∀i h,tn i h→∀b∈fp,∃o,h.get? b=some o∧∀v,o.data≠.cell v
 keep:∀i h h',tn i h→(∀b∈fp,∀o,h.get? b=some o→h'.get? b=some o)→tn i h'
 item:∀(X:Cx),X.prog=P→X.w=w→X.K=K→X.calm=true→∀(i:Nat) (pins:List (Addr × Obj)) (s:Shared) (σ:St) (H:Hp) (E:Value→Shared→Prop),Inv X pins σ H s→(∀b∈fp,uK X pins H b)→tn i s.heap→J.go i H →
  wpAny (model P w) X.A (pyNext (.ref it)) (fun r s1=>∃u,r=some u ∧
   wpAny (model P w) X.A (letOwnedTupleGo tg (.ref it) u) (fun _ s2=>∃x H',Inv X pins σ H' s2∧RelV x u∧J.yld i H x H'∧tn (i+1) s2.heap∧∀b∈fp,H' b=none) E s1) E s
 done:∀(X:Cx),X.prog=P→X.w=w→X.K=K→X.calm=true→∀(i:Nat) (pins:List (Addr × Obj)) (s:Shared) (σ:St) (H:Hp) (E:Value→Shared→Prop),Inv X pins σ H s→(∀b∈fp,uK X pins H b)→tn i s.heap→J.stop i H →
  wpAny (model P w) X.A (pyNext (.ref it)) (fun r s1=>r=none∧Inv X pins σ H s1) E s
 self:∀(A:Around) (i:Nat) (s:Shared) (Q:Value→Shared→Prop) (E:Value→Shared→Prop),tn i s.heap→Q (.ref it) s→wpAny (model P w) A (pyIter (.ref it)) Q E s
abbrev TI:=St→Hp→(It→Hp→Prop)→Prop
def PIE (X:Cx) (pins:List (Addr × Obj)) (σ:St) (tg:Expr) (R:It→Hp→Prop) (itv:Value) (s2:Shared):Prop:=
 ∃(it:Addr) (fp:List Addr) (tn:Nat→Heap→Prop) (J:It) (H':Hp),itv=.ref it∧Inv X pins σ H' s2∧Turn X.prog X.w X.K tg J fp it tn∧tn 0 s2.heap∧(∀b∈fp,uK X pins H' b)∧R J H'
def PI (X:Cx) (tg iter:Expr) (wi:TI):Prop:=
 ∀(pins:List (Addr × Obj)) (s:Shared) (σ:St) (H:Hp) (R:It→Hp→Prop),Inv X pins σ H s→wi σ H R →
  wpAny (model X.prog X.w) X.A (eval iter X.env) (fun v s1=>wpAny (model X.prog X.w) X.A (pyIter v) (PIE X pins σ tg R) X.xe s1) X.xe s
theorem aCz {M:Model} {A:Around} {E:Value→Shared→Prop} {s:Shared} {tg:Expr} {it:Addr} {u:Value} {o:Obj} {n:String} {vs:Array Value} {Q:Unit→Shared→Prop} (ho:s.heap.get? it=some o) (hc:o.cls=.type n) (hd:o.data=.fields vs)
  (hn:["enumerate","zip","dict_itemiterator","dict_reverseitemiterator","odict_iterator","itertools.zip_longest","itertools.pairwise"].contains n=false) (hQ:Q () s):wpAny M A (letOwnedTupleGo tg (.ref it) u) Q E s:=by
 unfold letOwnedTupleGo
 cases tg <;> first
  |exact wpAny_pure hQ
  |(cases u <;> first
    |exact wpAny_pure hQ
    |(refine wpAny_bind (wpAny_load ho ?_);rw [hc,hd];show wpAny M A (if (["enumerate","zip","dict_itemiterator","dict_reverseitemiterator","odict_iterator","itertools.zip_longest","itertools.pairwise"].contains n && vs[0]? == some (rawInt _))=true then _ else _) Q E s;rw [if_neg (by intro h;rw [hn,Bool.false_and] at h;cases h)];exact wpAny_pure hQ))
def Itl (K:PySem.W.Frag) (a:Addr):It:=
 ⟨fun i H=>∃xs x,SqL K H a xs∧xs[i]?=some x,fun i H x H'=>H'=H∧∀xs,SqL K H a xs→xs[i]?=some x,fun i H=>∃xs,SqL K H a xs∧xs.length≤i⟩
def Itt (K:PySem.W.Frag) (a:Addr):It:=
 ⟨fun i H=>∃xs x,SqT K H a xs∧xs[i]?=some x,fun i H x H'=>H'=H∧∀xs,SqT K H a xs→xs[i]?=some x,fun i H=>∃xs,SqT K H a xs∧xs.length≤i⟩
def Itr (lo:Int) (n:Nat):It:=⟨fun i _=>i<n,fun i H x H'=>H'=H∧x=.int (lo+i),fun i _=>n≤i⟩
theorem aN1 {P:Program} {w:World} {K:PySem.W.Frag} {tg:Expr} (a it:Addr):Turn P w K tg (Itl K a) [it] it (fun i h=>h.IsListIter it a i) where
 mem:=by simp
 obj:=fun i h st b hb=>by
  have e:b=it:=by simpa using hb
  subst e
  obtain ⟨o,e,c,d⟩:=st
  exact ⟨o,e,fun v z=>by rw [d] at z;cases z⟩
 keep:=fun i h h' st k=>st.at fun o e=>k it (by simp) o e
 item:=by
  intro X hP hw hK hc i pins s σ H E I hf st hg
  subst hP hw hK
  obtain ⟨xs,x,hq,hx⟩:=hg
  obtain ⟨its,rv,p,hz⟩:=I.list hq
  obtain ⟨u,hu,ru⟩:=rv.get hx
  obtain ⟨f0,f1,f2,f3,f4,f5⟩:=hf it (by simp)
  refine wpAny_pyNext_list_item st p.isList (x:=u) (by simpa using hu) fun h' st' sb=>?_
  have I1:Inv X pins σ H { s with heap:=h' }:=I.turned (t':=s.toks) (fun b o hb e=>(sb.2 b hb).trans e) f0 f1 f3 f4 f5
  obtain ⟨o,e,c,d⟩:=id st'
  exact ⟨u,rfl,aCz (s:={ s with heap:=h' }) e c d (by decide) ⟨x,H,I1,ru,⟨rfl,fun ys hy=>by rw [I.aR0 hy hq];exact hx⟩,st',fun b hb=>(hf b hb).1⟩⟩
 done:=by
  intro X hP hw hK hc i pins s σ H E I hf st hg
  subst hP hw hK
  obtain ⟨xs,hq,hx⟩:=hg
  obtain ⟨its,rv,p,hz⟩:=I.list hq
  obtain ⟨f0,f1,f2,f3,f4,f5⟩:=hf it (by simp)
  have hl:=rv.length
  exact wpAny_pyNext_list_end (I.ok.hd hc) st p.isList (by simp;lia) fun h' eb=>⟨rfl,I.turned (t':=s.toks) (fun b o hb e=>eb b o hb e) f0 f1 f3 f4 f5⟩
 self:=fun _ _ _ _ _ st h=>wpAny_pyIter_listiter st h
theorem aLg {P:Program} {w:World} {K:PySem.W.Frag} {tg:Expr} (a it:Addr):Turn P w K tg (Itt K a) [it] it (fun i h=>h.IsTupleIter it a i) where
 mem:=by simp
 obj:=fun i h st b hb=>by
  have e:b=it:=by simpa using hb
  subst e
  obtain ⟨o,e,c,d⟩:=st
  exact ⟨o,e,fun v z=>by rw [d] at z;cases z⟩
 keep:=fun i h h' st k=>st.at fun o e=>k it (by simp) o e
 item:=by
  intro X hP hw hK hc i pins s σ H E I hf st hg
  subst hP hw hK
  obtain ⟨xs,x,hq,hx⟩:=hg
  obtain ⟨its,rv,p,hz⟩:=I.tuple hq
  obtain ⟨u,hu,ru⟩:=rv.get hx
  obtain ⟨f0,f1,f2,f3,f4,f5⟩:=hf it (by simp)
  refine wpAny_pyNext_tuple_item st (show s.heap.IsTuple a its.toArray from p) (x:=u) (by simpa using hu) fun h' st' sb=>?_
  have I1:Inv X pins σ H { s with heap:=h' }:=I.turned (t':=s.toks) (fun b o hb e=>(sb.2 b hb).trans e) f0 f1 f3 f4 f5
  obtain ⟨o,e,c,d⟩:=id st'
  exact ⟨u,rfl,aCz (s:={ s with heap:=h' }) e c d (by decide) ⟨x,H,I1,ru,⟨rfl,fun ys hy=>by rw [I.aCj hy hq];exact hx⟩,st',fun b hb=>(hf b hb).1⟩⟩
 done:=by
  intro X hP hw hK hc i pins s σ H E I hf st hg
  subst hP hw hK
  obtain ⟨xs,hq,hx⟩:=hg
  obtain ⟨its,rv,p,hz⟩:=I.tuple hq
  obtain ⟨f0,f1,f2,f3,f4,f5⟩:=hf it (by simp)
  have hl:=rv.length
  exact wpAny_pyNext_tuple_end (I.ok.hd hc) st (show s.heap.IsTuple a its.toArray from p) (by simp;lia) fun h' eb=>⟨rfl,I.turned (t':=s.toks) (fun b o hb e=>eb b o hb e) f0 f1 f3 f4 f5⟩
 self:=fun _ _ _ _ _ st h=>wpAny_pyIter_tupleiter st h
theorem aKt {P:Program} {w:World} {K:PySem.W.Frag} {tg:Expr} (it:Addr) (lo:Int) (n:Nat):Turn P w K tg (Itr lo n) [it] it (fun i h=>IsRangeIter h it (lo+(i:Nat) * 1) ((n:Int) - (i:Nat)) 1) where
 mem:=by simp
 obj:=fun i h st b hb=>by
  have e:b=it:=by simpa using hb
  subst e
  exact ⟨_,st,fun v z=>by
   have z':Data.fields _=Data.cell v:=z
   cases z'⟩
 keep:=fun i h h' st k=>k it (by simp) _ st
 item:=by
  intro X hP hw hK hc i pins s σ H E I hf st hg
  subst hP hw hK
  obtain ⟨f0,f1,f2,f3,f4,f5⟩:=hf it (by simp)
  have W:=Walks.range (prog:=X.prog) (w:=X.w) (I.ok.hd hc) it lo 1 n
  refine W.item i s _ _ hg st fun v h' tk hv st' kk=>?_
  obtain ⟨t,rfl⟩:=hv
  have I1:Inv X pins σ H { s with heap:=h',toks:=tk }:=I.turned (fun b o hb e=>kk b o (by simpa using hb) e) f0 f1 f3 f4 f5
  refine ⟨_,rfl,aCz (s:={ s with heap:=h',toks:=tk }) (n:="range_iterator") st' rfl rfl (by decide) ⟨.int (lo+i),H,I1,⟨t,?_⟩,⟨rfl,rfl⟩,st',fun b hb=>(hf b hb).1⟩⟩
  rw [Int.mul_one]
 done:=by
  intro X hP hw hK hc i pins s σ H E I hf st hg
  subst hP hw hK
  obtain ⟨f0,f1,f2,f3,f4,f5⟩:=hf it (by simp)
  exact wpAny_pyNext_range_end (I.ok.hd hc) st (by have:n≤i:=hg;lia) fun h' eb=>⟨rfl,I.turned (t':=s.toks) (fun b o hb e=>eb b o hb e) f0 f1 f3 f4 f5⟩
 self:=fun _ _ _ _ _ st h=>wpAny_pyIter_rangeiter st h
section
variable {X:Cx} {tg:Expr}
def sY (K:PySem.W.Frag) (tl:TE):TI:=fun σ H R=>tl σ H fun x H1=>∃a,x=.ref a∧(∃xs,SqL K H1 a xs)∧R (Itl K a) H1
def aJ9 (K:PySem.W.Frag) (tl:TE):TI:=fun σ H R=>tl σ H fun x H1=>∃a,x=.ref a∧(∃xs,SqT K H1 a xs)∧R (Itt K a) H1
theorem aMq {l:Expr} {tl:TE} (hl:PE X l tl):PI X tg l (sY X.K tl):=by
 intro pins s σ H R I h
 refine thn (hl pins s σ H _ I h) fun v s1 ⟨x,H1,I1,r1,q1⟩=>?_
 obtain ⟨a,e,⟨xs,hq⟩,q⟩:=q1
 subst e
 cases r1
 obtain ⟨its,rv,p,hz⟩:=I1.list hq
 refine wpAny_pyIter_list p.isList ?_
 refine ⟨s1.heap.objs.size,[s1.heap.objs.size],_,_,H1,rfl,I1.kept (t':=s1.toks) fun b o e=>Heap.get?_push_of_some _ e,aN1 a _,⟨_,Heap.get?_push_size _ rfl,rfl,rfl⟩,fun b hb=>?_,q⟩
 have e:b=s1.heap.objs.size:=by simpa using hb
 subst e
 exact I1.aG2 (Nat.le_refl _) (I1.hok.fresh (Nat.le_refl _))
theorem aRu {l:Expr} {tl:TE} (hl:PE X l tl):PI X tg l (aJ9 X.K tl):=by
 intro pins s σ H R I h
 refine thn (hl pins s σ H _ I h) fun v s1 ⟨x,H1,I1,r1,q1⟩=>?_
 obtain ⟨a,e,⟨xs,hq⟩,q⟩:=q1
 subst e
 cases r1
 obtain ⟨its,rv,p,hz⟩:=I1.tuple hq
 refine wpAny_pyIter_tuple (show s1.heap.IsTuple a its.toArray from p) ?_
 refine ⟨s1.heap.objs.size,[s1.heap.objs.size],_,_,H1,rfl,I1.kept (t':=s1.toks) fun b o e=>Heap.get?_push_of_some _ e,aLg a _,⟨_,Heap.get?_push_size _ rfl,rfl,rfl⟩,fun b hb=>?_,q⟩
 have e:b=s1.heap.objs.size:=by simpa using hb
 subst e
 exact I1.aG2 (Nat.le_refl _) (I1.hok.fresh (Nat.le_refl _))
theorem aPr {pins:List (Addr × Obj)} {σ:St} {H:Hp} {s:Shared} {R:It→Hp→Prop} {E:Value→Shared→Prop} {lo hi:Int} {t u v:Tok} {tk:Nat} (I:Inv X pins σ H s) (h1:-(2 ^ 62)≤lo) (h2:lo<2 ^ 62) (h3:-(2 ^ 62)≤hi) (h4:hi<2 ^ 62)
  (q:R (Itr lo (hi - lo).toNat) H):wpAny (model X.prog X.w) X.A (pyIter (.ref s.heap.objs.size)) (PIE X pins σ tg R) E { s with heap:=s.heap.push { cls:=.type "range",data:=.fields #[.int lo t,.int hi u,.int 1 v] },toks:=tk }:=by
 refine wpAny_pyIter_range (IsRange.new ..) (small_one h1 h2 h3 h4) ?_
 have I1:Inv X pins σ H { s with heap:=s.heap.push { cls:=.type "range",data:=.fields #[.int lo t,.int hi u,.int 1 v] },toks:=tk }:=I.kept fun b o e=>Heap.get?_push_of_some _ e
 refine ⟨(s.heap.push { cls:=.type "range",data:=.fields #[.int lo t,.int hi u,.int 1 v] }).objs.size,[(s.heap.push { cls:=.type "range",data:=.fields #[.int lo t,.int hi u,.int 1 v] }).objs.size],_,_,H,rfl,
  I1.kept (t':=tk) fun b o e=>Heap.get?_push_of_some _ e,aKt _ lo (hi - lo).toNat,?_,fun b hb=>?_,q⟩
 ·have e1:lo+((0:Nat):Int) * 1=lo:=by simp
  have e2:(((hi - lo).toNat:Nat):Int) - ((0:Nat):Int)=Builtin.Range.rangeSize lo hi 1:=by rw [rangeSize_one];split <;> lia
  show IsRangeIter _ _ (lo+((0:Nat):Int) * 1) ((((hi - lo).toNat:Nat):Int) - ((0:Nat):Int)) 1
  rw [e1,e2]
  exact Heap.get?_push_size _ rfl
 ·have e:b=(s.heap.push { cls:=.type "range",data:=.fields #[.int lo t,.int hi u,.int 1 v] }).objs.size:=by simpa using hb
  subst e
  exact I1.aG2 (Nat.le_refl _) (I1.hok.fresh (Nat.le_refl _))
def aJj (ta:TA):TI:=fun σ H R=>ta σ H fun vs H1=>∃j:Int,vs=[.int j]∧-(2 ^ 62)≤j∧j<2 ^ 62∧R (Itr 0 j.toNat) H1
theorem aOk {a:Expr} {ta:TA} {p pos:Pos} (hg:Gl X "range") (hm:X.mg "range"=none) (ha:PA X [a] ta) (hs:starEach [a] X.env=[(false,eval a X.env)]:=by rfl):PI X tg (.Call (.Name "range" p) [a] [] pos) (aJj ta):=by
 intro pins s σ H R I h
 refine Call_ (uG I hg hm boot_range (PyProof.Rows.callWith_type1 (thn (ha pos pins s σ H _ I h) fun us s1 ⟨vs,H1,I1,r1,q1⟩=>?_) hs rfl))
 obtain ⟨j,e,q1,q2,q⟩:=q1
 subst e
 cases r1 with
 |cons r rr=>
  cases rr
  obtain ⟨t,rfl⟩:=r
  exact call_range_1 (aPr I1 (by lia) (by lia) q1 q2 (by simpa using q))
def aZh (wi:TI) (g:TG) (tb:TS):TS:=fun D σ H=>wi σ H fun J H1=>∃W:Nat→Nat→St→Hp→Prop,(∃m,W 0 m σ H1)∧∀i m σ H,W i m σ H →
 (J.stop i H∧D.nx σ H)∨(J.go i H∧∃N:St→Hp→Prop,(∀σ' H',N σ' H'→∃m',m'<m∧W (i+1) m' σ' H')∧∀x H',J.yld i H x H'→g x σ H' fun σ2 H2=>tb { D with nx:=N,ct:=N,bk:=D.nx } σ2 H2)
def wR (fp:List Addr) (h:Heap):List (Addr × Obj):=fp.filterMap fun b=>(h.get? b).map fun o=>(b,o)
theorem jD {fp:List Addr} {h:Heap} {b:Addr} {o:Obj} (hb:b∈fp) (e:h.get? b=some o):(b,o)∈wR fp h:=List.mem_filterMap.mpr ⟨b,hb,by rw [e];rfl⟩
theorem aOr {fp:List Addr} {h:Heap} {p:Addr × Obj} (hp:p∈wR fp h):p.1∈fp∧h.get? p.1=some p.2:=by
 obtain ⟨b,hb,e⟩:=List.mem_filterMap.mp hp
 cases q:h.get? b with
 |none=>rw [q] at e;cases e
 |some o=>
  rw [q] at e
  have e':(b,o)=p:=Option.some.inj e
  subst e'
  exact ⟨hb,q⟩
theorem Inv.pinned {pins:List (Addr × Obj)} {σ:St} {H:Hp} {s:Shared} {fp:List Addr} (I:Inv X pins σ H s) (hf:∀b∈fp,uK X pins H b) (ho:∀b∈fp,∃o,s.heap.get? b=some o∧∀v,o.data≠.cell v):Inv X (pins++wR fp s.heap) σ H s:=
 I.aMb fun p hp=>(List.mem_append.mp hp).elim (fun z=>I.pin p (List.mem_append_right _ z)) fun z=>by
  obtain ⟨hb,e⟩:=aOr z
  obtain ⟨f0,f1,f2,_⟩:=hf p.1 hb
  obtain ⟨o,e',d⟩:=ho p.1 hb
  rw [e] at e';cases e'
  exact ⟨e,f0,f1,f2,d⟩
theorem Inv.mC {pins pl:List (Addr × Obj)} {σ:St} {H:Hp} {s:Shared} (I:Inv X (pins++pl) σ H s):Inv X pins σ H s:=I.aMb fun p hp=>I.pin p (List.mem_append_right _ (List.mem_append_left _ hp))
theorem aW6 {iter:Expr} {body:List Stmt} {wi:TI} {g:TG} {tb:TS} {pos:Pos} (hp:PassesOwn (model X.prog X.w) X.A X.env X.xe) (hc:X.calm=true) (hi:PI X tg iter wi) (hg:PG X tg g) (hb:PSs X body tb)
  (hs:∀x,foldedSetIterable iter X.env x=pure x:=by intro _;rfl):PS X (.For tg iter body [] pos) (aZh wi g tb):=by
 intro pins s σ H D I h
 refine wpAny_For (thn (hi pins s σ H _ I h) fun v s1 h1=>thn h1 fun itv s2 h2=>?_) hs
 obtain ⟨it,fp,tn,J,H2,e,I2,T,st2,f2,W,⟨m0,w0⟩,turn⟩:=h2
 subst e
 have stat:∀{H':Hp},(∀b∈fp,H' b=none)→∀b∈fp,uK X pins H' b:=fun hn b hb=>⟨hn b hb,(f2 b hb).2⟩
 refine codeAny_forLoop_any (fun n s'=>∃i σ' H',Inv X pins σ' H' s'∧tn i s'.heap∧(∀b∈fp,H' b=none)∧W i n σ' H') ?_ m0 ⟨0,σ,H2,I2,st2,fun b hb=>(f2 b hb).1,w0⟩
 rintro n s3 ⟨i,σ3,H3,I3,st3,fr3,w3⟩
 rcases turn i n σ3 H3 w3 with ⟨stop,qn⟩|⟨go,N,hN,step⟩
 ·refine wpAny_passesOwn hp (thn (T.done X rfl rfl rfl hc i pins s3 σ3 H3 X.xe I3 (stat fr3) st3 stop) fun r s4 ⟨hr,I4⟩=>?_)
  subst hr
  exact wpAny_execs_nil ⟨σ3,H3,I4,qn⟩
 ·refine wpAny_passesOwn hp (thn (T.item X rfl rfl rfl hc i pins s3 σ3 H3 X.xe I3 (stat fr3) st3 go) fun r s4 ⟨u,hr,h4⟩=>?_)
  subst hr
  refine wpAny_passesOwn hp (thn h4 fun _ s5 ⟨x,H5,I5,r5,y5,st5,fr5⟩=>?_)
  have I5':=I5.pinned (stat fr5) (T.obj _ _ st5)
  refine wpAny_passesOwn hp (thn (hg _ s5 σ3 H5 x u _ I5' r5 (step x H5 y5)) fun _ s6 ⟨σ6,H6,I6,q6⟩=>?_)
  refine wpAny_passesOwn hp (thn (hb _ s6 σ6 H6 _ I6 q6) fun f s7 q7=>?_)
  have again:∀{σ7:St} {H7:Hp},Inv X (pins++wR fp s5.heap) σ7 H7 s7→N σ7 H7→∃m,m<n∧∃i σ' H',Inv X pins σ' H' s7∧tn i s7.heap∧(∀b∈fp,H' b=none)∧W i m σ' H':=fun {σ7 H7} I7 n7=>by
   obtain ⟨m',hm,w7⟩:=hN σ7 H7 n7
   refine ⟨m',hm,i+1,σ7,H7,I7.mC,T.keep _ _ _ st5 fun b hb o e=>(I7.pin (b,o) (List.mem_append_right _ (List.mem_append_right _ (jD hb e)))).1,fun b hb=>?_,w7⟩
   obtain ⟨o,e,d⟩:=T.obj _ _ st5 b hb
   exact (I7.pin (b,o) (List.mem_append_right _ (List.mem_append_right _ (jD hb e)))).2.1
  cases f with
  |next=>obtain ⟨σ7,H7,I7,n7⟩:=q7;exact again I7 n7
  |cont=>obtain ⟨σ7,H7,I7,n7⟩:=q7;exact again I7 n7
  |brk=>obtain ⟨σ7,H7,I7,q7⟩:=q7;exact ⟨σ7,H7,I7.mC,q7⟩
  |ret v=>obtain ⟨x7,σ7,H7,I7,r7,q7⟩:=q7;exact ⟨x7,σ7,H7,I7.mC,r7,q7⟩
end
theorem oK {K:PySem.W.Frag} {a:Addr} {xs:List V} {g:TG} {tb:TS} {D:Ends} {σ:St} {H:Hp} (Pv:Nat→St→Hp→Prop) (h0:Pv 0 σ H) (hl:∀i σ H,i≤xs.length→Pv i σ H→SqL K H a xs)
  (hs:∀i x σ H,xs[i]?=some x→Pv i σ H→g x σ H fun σ2 H2=>tb { D with nx:=Pv (i+1),ct:=Pv (i+1),bk:=D.nx } σ2 H2) (hd:∀σ H,Pv xs.length σ H→D.nx σ H) :
  ∃W:Nat→Nat→St→Hp→Prop,(∃m,W 0 m σ H)∧∀i m σ H,W i m σ H →
   ((Itl K a).stop i H∧D.nx σ H)∨((Itl K a).go i H∧∃N:St→Hp→Prop,(∀σ' H',N σ' H'→∃m',m'<m∧W (i+1) m' σ' H')∧∀x H',(Itl K a).yld i H x H'→g x σ H' fun σ2 H2=>tb { D with nx:=N,ct:=N,bk:=D.nx } σ2 H2):=by
 refine ⟨fun i m σ H=>m=xs.length - i∧i≤xs.length∧Pv i σ H,⟨xs.length,by simp,Nat.zero_le _,h0⟩,?_⟩
 rintro i m σ H ⟨rfl,hi,p⟩
 have q:=hl i σ H hi p
 by_cases hlt:i<xs.length
 ·refine .inr ⟨⟨xs,xs[i],q,by simp [hlt]⟩,Pv (i+1),fun σ' H' p'=>⟨xs.length - (i+1),by lia,rfl,hlt,p'⟩,fun x H' y=>?_⟩
  obtain ⟨e,y⟩:=y
  subst e
  exact hs i x σ _ (y xs q) p
 ·have e:i=xs.length:=by lia
  subst e
  exact .inl ⟨⟨xs,q,Nat.le_refl _⟩,hd σ H p⟩
theorem aMd {K:PySem.W.Frag} {a:Addr} {xs:List V} {g:TG} {tb:TS} {D:Ends} {σ:St} {H:Hp} (Pv:Nat→St→Hp→Prop) (h0:Pv 0 σ H) (hl:∀i σ H,i≤xs.length→Pv i σ H→SqT K H a xs)
  (hs:∀i x σ H,xs[i]?=some x→Pv i σ H→g x σ H fun σ2 H2=>tb { D with nx:=Pv (i+1),ct:=Pv (i+1),bk:=D.nx } σ2 H2) (hd:∀σ H,Pv xs.length σ H→D.nx σ H) :
  ∃W:Nat→Nat→St→Hp→Prop,(∃m,W 0 m σ H)∧∀i m σ H,W i m σ H →
   ((Itt K a).stop i H∧D.nx σ H)∨((Itt K a).go i H∧∃N:St→Hp→Prop,(∀σ' H',N σ' H'→∃m',m'<m∧W (i+1) m' σ' H')∧∀x H',(Itt K a).yld i H x H'→g x σ H' fun σ2 H2=>tb { D with nx:=N,ct:=N,bk:=D.nx } σ2 H2):=by
 refine ⟨fun i m σ H=>m=xs.length - i∧i≤xs.length∧Pv i σ H,⟨xs.length,by simp,Nat.zero_le _,h0⟩,?_⟩
 rintro i m σ H ⟨rfl,hi,p⟩
 have q:=hl i σ H hi p
 by_cases hlt:i<xs.length
 ·refine .inr ⟨⟨xs,xs[i],q,by simp [hlt]⟩,Pv (i+1),fun σ' H' p'=>⟨xs.length - (i+1),by lia,rfl,hlt,p'⟩,fun x H' y=>?_⟩
  obtain ⟨e,y⟩:=y
  subst e
  exact hs i x σ _ (y xs q) p
 ·have e:i=xs.length:=by lia
  subst e
  exact .inl ⟨⟨xs,q,Nat.le_refl _⟩,hd σ H p⟩
theorem jG {lo:Int} {n:Nat} {g:TG} {tb:TS} {D:Ends} {σ:St} {H:Hp} (Pv:Nat→St→Hp→Prop) (h0:Pv 0 σ H)
  (hs:∀i σ H,i<n→Pv i σ H→g (.int (lo+i)) σ H fun σ2 H2=>tb { D with nx:=Pv (i+1),ct:=Pv (i+1),bk:=D.nx } σ2 H2) (hd:∀σ H,Pv n σ H→D.nx σ H) :
  ∃W:Nat→Nat→St→Hp→Prop,(∃m,W 0 m σ H)∧∀i m σ H,W i m σ H →
   ((Itr lo n).stop i H∧D.nx σ H)∨((Itr lo n).go i H∧∃N:St→Hp→Prop,(∀σ' H',N σ' H'→∃m',m'<m∧W (i+1) m' σ' H')∧∀x H',(Itr lo n).yld i H x H'→g x σ H' fun σ2 H2=>tb { D with nx:=N,ct:=N,bk:=D.nx } σ2 H2):=by
 refine ⟨fun i m σ H=>m=n - i∧i≤n∧Pv i σ H,⟨n,by simp,Nat.zero_le _,h0⟩,?_⟩
 rintro i m σ H ⟨rfl,hi,p⟩
 by_cases hlt:i<n
 ·refine .inr ⟨hlt,Pv (i+1),fun σ' H' p'=>⟨n - (i+1),by lia,rfl,hlt,p'⟩,fun x H' y=>?_⟩
  obtain ⟨e,y⟩:=y
  subst e y
  exact hs i σ _ hlt p
 ·have e:i=n:=by lia
  subst e
  exact .inl ⟨Nat.le_refl _,hd σ H p⟩
abbrev R2:=V→V→Hp→VK→Prop
def OpR (X:Cx) (f:Value→Value→Sem Value) (r:R2):Prop:=
 ∀(pins:List (Addr × Obj)) (s:Shared) (σ:St) (H:Hp) (x y:V) (v u:Value) (Q:VK),Inv X pins σ H s→RelV x v→RelV y u→r x y H Q →
  wpAny (model X.prog X.w) X.A (f v u) (EP X pins σ Q) X.xe s
def cR (X:Cx) (f:Value) (r:List V→Hp→VK→Prop):Prop:=
 ∀(pins:List (Addr × Obj)) (s:Shared) (σ:St) (H:Hp) (xs:List V) (us:List Value) (Q:VK),Inv X pins σ H s→Vals xs us→r xs H Q →
  wpAny (model X.prog X.w) X.A (call f us) (EP X pins σ Q) X.xe s
def bAd (X:Cx) (r:V→Hp→(Bool→Hp→Prop)→Prop):Prop:=
 ∀(pins:List (Addr × Obj)) (s:Shared) (σ:St) (H:Hp) (x:V) (v:Value) (Q:Bool→Hp→Prop),Inv X pins σ H s→RelV x v→r x H Q →
  wpAny (model X.prog X.w) X.A (truthy v) (TP X pins σ Q) X.xe s
def tOp (r:R2) (ta tb:TE):TE:=fun σ H Q=>ta σ H fun x H1=>tb σ H1 fun y H2=>r x y H2 Q
def rI (C:Int→Int→Prop) (g:Int→Int→V):R2:=fun x y H Q=>∃i j,x=.int i∧y=.int j∧C i j∧Q (g i j) H
def rI0 (g:Int→Int→V):R2:=fun x y H Q=>∃i j,x=.int i∧y=.int j∧Q (g i j) H
section
variable {X:Cx} {a b c:Expr} {ta tb tc:TE} {pos:Pos}
theorem aUh (ha:PE X a ta) (hb:PE X b tb) {pins:List (Addr × Obj)} {s:Shared} {σ:St} {H:Hp} {R:V→V→Hp→Prop} (I:Inv X pins σ H s)
  (h:ta σ H fun x H1=>tb σ H1 fun y H2=>R x y H2) {Q:Value→Shared→Prop} {f:Value→Value→Sem Value}
  (hf:∀v u s2 x y H2,Inv X pins σ H2 s2→RelV x v→RelV y u→R x y H2→wpAny (model X.prog X.w) X.A (f v u) Q X.xe s2) :
  wpAny (model X.prog X.w) X.A (eval a X.env) (fun v s₁=>wpAny (model X.prog X.w) X.A (eval b X.env) (fun u s₂=>wpAny (model X.prog X.w) X.A (f v u) Q X.xe s₂) X.xe s₁) X.xe s:=by
 refine thn (ha pins s σ H _ I h) fun v s1 ⟨x,H1,I1,r1,q1⟩=>?_
 refine thn (hb pins s1 σ H1 _ I1 q1) fun u s2 ⟨y,H2,I2,r2,q2⟩=>?_
 exact hf v u s2 x y H2 I2 r1 r2 q2
theorem aZf {op:Operator} {r:R2} (ho:OpR X (binaryOp op) r) (ha:PE X a ta) (hb:PE X b tb):PE X (.BinOp a op b pos) (tOp r ta tb):=by
 intro pins s σ H Q I h
 exact wpAny_BinOp (aUh ha hb I h fun v u s2 x y H2 I2 rx ry q=>ho pins s2 σ H2 x y v u Q I2 rx ry q)
theorem opI {f:Value→Value→Sem Value} {C:Int→Int→Prop} {g:Int→Int→Int}
  (rule:∀(i j:Int) (t u:Tok) (s:Shared) (Q:Value→Shared→Prop) (E:Value→Shared→Prop),C i j→Q (.int (g i j) s.toks) { s with toks:=s.toks+1 }→wpAny (model X.prog X.w) X.A (f (.int i t) (.int j u)) Q E s) :
  OpR X f (rI C fun i j=>.int (g i j)):=by
 intro pins s σ H x y v u Q I rx ry h
 obtain ⟨i,j,rfl,rfl,hc,q⟩:=h
 obtain ⟨t,rfl⟩:=rx
 obtain ⟨t',rfl⟩:=ry
 exact rule i j t t' s _ _ hc ⟨.int (g i j),H,I.tok _,⟨_,rfl⟩,q⟩
theorem aYv {f:Value→Value→Sem Value} {g:Int→Int→Int}
  (rule:∀(i j:Int) (t u:Tok) (s:Shared) (Q:Value→Shared→Prop) (E:Value→Shared→Prop),Q (.int (g i j) s.toks) { s with toks:=s.toks+1 }→wpAny (model X.prog X.w) X.A (f (.int i t) (.int j u)) Q E s) :
  OpR X f (rI0 fun i j=>.int (g i j)):=by
 intro pins s σ H x y v u Q I rx ry h
 obtain ⟨i,j,rfl,rfl,q⟩:=h
 obtain ⟨t,rfl⟩:=rx
 obtain ⟨t',rfl⟩:=ry
 exact rule i j t t' s _ _ ⟨.int (g i j),H,I.tok _,⟨_,rfl⟩,q⟩
theorem aX4 {f:Value→Value→Sem Value} {g:Int→Int→Bool}
  (rule:∀(i j:Int) (t u:Tok) (s:Shared) (Q:Value→Shared→Prop) (E:Value→Shared→Prop),Q (.bool (g i j)) s→wpAny (model X.prog X.w) X.A (f (.int i t) (.int j u)) Q E s) :
  OpR X f (rI0 fun i j=>.bl (g i j)):=by
 intro pins s σ H x y v u Q I rx ry h
 obtain ⟨i,j,rfl,rfl,q⟩:=h
 obtain ⟨t,rfl⟩:=rx
 obtain ⟨t',rfl⟩:=ry
 exact rule i j t t' s _ _ ⟨.bl (g i j),H,I,rfl,q⟩
def aZ5 (i j:Int):Prop:=0<j∧j<1073741824
def bAe (i j:Int):Prop:=0≤j∧j≤1000000∧i.natAbs<2 ^ 64
def aXc (i j:Int):Prop:=(-(2 ^ 64)<i∧i<2 ^ 64)∨(-(2 ^ 64)<j∧j<2 ^ 64)
theorem aXc.ok {i j:Int} (h:aXc i j):IntMulOk i j:=by
 rcases h with ⟨h1,h2⟩|⟨h1,h2⟩
 ·exact .of_left (intBits_le_64 h1 h2)
 ·exact .of_right (intBits_le_64 h1 h2)
theorem iY:OpR X (binaryOp .Add) (rI0 fun i j=>.int (i+j)):=aYv fun _ _ _ _ _ _ _ q=>add_int q
theorem aLm:OpR X (binaryOp .Sub) (rI0 fun i j=>.int (i - j)):=aYv fun _ _ _ _ _ _ _ q=>sub_int q
theorem aFi:OpR X (binaryOp .Mult) (rI aXc fun i j=>.int (i * j)):=opI fun _ _ _ _ _ _ _ hc q=>mul_int q hc.ok
theorem aMj:OpR X (binaryOp .FloorDiv) (rI aZ5 fun i j=>.int (i / j)):=opI fun i j _ _ _ _ _ hc q=>by
 have h1:(0:Int)<j:=hc.1
 have h2:j<1073741824:=hc.2
 exact floordiv_int (by lia) (by rw [Int.fdiv_eq_ediv_of_nonneg i (by lia)];exact q) (.inl (PyProof.noPylong_small (by lia)))
theorem tZ:OpR X (binaryOp .Mod) (rI (fun _ j=>0<j) fun i j=>.int (i % j)):=opI fun i j _ _ _ _ _ hc q=>by
 have h1:(0:Int)<j:=hc
 exact mod_int' (by lia) (by rw [Int.fmod_eq_emod_of_nonneg i (by lia)];exact q)
theorem aJ6:OpR X (binaryOp .Pow) (rI bAe fun i j=>.int (i ^ j.toNat)):=opI fun _ _ _ _ _ _ _ hc q=>pow_int_small hc.1 hc.2.1 hc.2.2 q
end
def scal:V→V→Bool
 |.non,.non=>true|.non,.int _=>true|.int _,.non=>true|.non,.bl _=>true|.bl _,.non=>true|.non,.str _=>true|.str _,.non=>true
 |.int _,.int _=>true|.bl _,.bl _=>true|.str _,.str _=>true|.byt _,.byt _=>true
 |.int _,.str _=>true|.str _,.int _=>true|.bl _,.str _=>true|.str _,.bl _=>true
 |_,_=>false
def rEq:R2:=fun x y H Q=>scal x y=true∧Q (.bl (decide (x=y))) H
def rNe:R2:=fun x y H Q=>scal x y=true∧Q (.bl (!decide (x=y))) H
theorem aNk {i j:Int}:decide (V.int i=V.int j)=(i == j):=by
 rw [Bool.eq_iff_iff]
 simp
theorem aRq {i j:Bool}:decide (V.bl i=V.bl j)=(i == j):=by
 rw [Bool.eq_iff_iff]
 simp
theorem aMt {i j:Str}:decide (V.str i=V.str j)=(i == j):=by
 rw [Bool.eq_iff_iff]
 simp
theorem aNa {i j:Array UInt8}:decide (V.byt i=V.byt j)=(i.toList == j.toList):=by
 rw [Bool.eq_iff_iff]
 cases i
 cases j
 simp
section
variable {X:Cx} {a b c:Expr} {ta tb tc:TE} {pos:Pos}
theorem cF {pins:List (Addr × Obj)} {σ:St} {H:Hp} {s:Shared} {Q:VK} {k k':Bool} (I:Inv X pins σ H s) (q:Q (.bl k) H) (e:k=k'):EP X pins σ Q (.bool k') s:=by
 subst e
 exact ⟨.bl k,H,I,rfl,q⟩
theorem dC:OpR X (compareOp .Eq) rEq:=by
 intro pins s σ H x y v u Q I rx ry h
 obtain ⟨hs,q⟩:=h
 cases x with
 |non=>
  cases rx
  cases y with
  |non=>cases ry;exact PySem.EqNone.eq_none_none (cF I q (by simp))
  |bl j=>cases ry;exact PySem.EqNone.eq_none_bool (cF I q (by simp))
  |int j=>obtain ⟨t',rfl⟩:=ry;exact PySem.EqNone.eq_none_int (cF I q (by simp))
  |str j=>obtain ⟨t',rfl⟩:=ry;exact PySem.EqNone.eq_none_str (cF I q (by simp))
  |_=>exact absurd (show false=true from hs) Bool.false_ne_true
 |bl i=>
  cases rx
  cases y with
  |non=>cases ry;exact PySem.EqNone.eq_bool_none (cF I q (by simp))
  |bl j=>cases ry;exact eq_bool (cF I q aRq)
  |str j=>obtain ⟨t',rfl⟩:=ry;exact PySem.EqMixed.eq_bool_str (cF I q (by simp))
  |_=>exact absurd (show false=true from hs) Bool.false_ne_true
 |int i=>
  obtain ⟨t,rfl⟩:=rx
  cases y with
  |non=>cases ry;exact PySem.EqNone.eq_int_none (cF I q (by simp))
  |int j=>obtain ⟨t',rfl⟩:=ry;exact eq_int (cF I q aNk)
  |str j=>obtain ⟨t',rfl⟩:=ry;exact PySem.EqMixed.eq_int_str (cF I q (by simp))
  |_=>exact absurd (show false=true from hs) Bool.false_ne_true
 |str i=>
  obtain ⟨t,rfl⟩:=rx
  cases y with
  |non=>cases ry;exact PySem.EqNone.eq_str_none (cF I q (by simp))
  |bl j=>cases ry;exact PySem.EqMixed.eq_str_bool (cF I q (by simp))
  |int j=>obtain ⟨t',rfl⟩:=ry;exact PySem.EqMixed.eq_str_int (cF I q (by simp))
  |str j=>obtain ⟨t',rfl⟩:=ry;exact eq_str (cF I q aMt)
  |_=>exact absurd (show false=true from hs) Bool.false_ne_true
 |byt i=>
  obtain ⟨t,rfl⟩:=rx
  cases y with
  |byt j=>obtain ⟨t',rfl⟩:=ry;exact PySem.W.eq_bytes (cF I q aNa)
  |_=>exact absurd (show false=true from hs) Bool.false_ne_true
 |_=>cases y <;> exact absurd (show false=true from hs) Bool.false_ne_true
theorem yJ:OpR X (compareOp .NotEq) rNe:=by
 intro pins s σ H x y v u Q I rx ry h
 obtain ⟨hs,q⟩:=h
 cases x with
 |non=>
  cases rx
  cases y with
  |non=>cases ry;exact PySem.EqNone.ne_none_none (cF I q (by simp))
  |bl j=>cases ry;exact PySem.EqNone.ne_none_bool (cF I q (by simp))
  |int j=>obtain ⟨t',rfl⟩:=ry;exact PySem.EqNone.ne_none_int (cF I q (by simp))
  |str j=>obtain ⟨t',rfl⟩:=ry;exact PySem.EqNone.ne_none_str (cF I q (by simp))
  |_=>exact absurd (show false=true from hs) Bool.false_ne_true
 |bl i=>
  cases rx
  cases y with
  |non=>cases ry;exact PySem.EqNone.ne_bool_none (cF I q (by simp))
  |bl j=>cases ry;exact ne_bool (cF I q (congrArg not aRq))
  |str j=>obtain ⟨t',rfl⟩:=ry;exact PySem.EqMixed.ne_bool_str (cF I q (by simp))
  |_=>exact absurd (show false=true from hs) Bool.false_ne_true
 |int i=>
  obtain ⟨t,rfl⟩:=rx
  cases y with
  |non=>cases ry;exact PySem.EqNone.ne_int_none (cF I q (by simp))
  |int j=>obtain ⟨t',rfl⟩:=ry;exact ne_int (cF I q (congrArg not aNk))
  |str j=>obtain ⟨t',rfl⟩:=ry;exact PySem.EqMixed.ne_int_str (cF I q (by simp))
  |_=>exact absurd (show false=true from hs) Bool.false_ne_true
 |str i=>
  obtain ⟨t,rfl⟩:=rx
  cases y with
  |non=>cases ry;exact PySem.EqNone.ne_str_none (cF I q (by simp))
  |bl j=>cases ry;exact PySem.EqMixed.ne_str_bool (cF I q (by simp))
  |int j=>obtain ⟨t',rfl⟩:=ry;exact PySem.EqMixed.ne_str_int (cF I q (by simp))
  |str j=>obtain ⟨t',rfl⟩:=ry;exact ne_str (cF I q (congrArg not aMt))
  |_=>exact absurd (show false=true from hs) Bool.false_ne_true
 |byt i=>
  obtain ⟨t,rfl⟩:=rx
  cases y with
  |byt j=>obtain ⟨t',rfl⟩:=ry;exact PySem.W.ne_bytes (cF I q (congrArg not aNa))
  |_=>exact absurd (show false=true from hs) Bool.false_ne_true
 |_=>cases y <;> exact absurd (show false=true from hs) Bool.false_ne_true
theorem aYm:OpR X (compareOp .Lt) (rI0 fun i j=>.bl (decide (i<j))):=aX4 fun _ _ _ _ _ _ _ q=>lt_int q
theorem aDk:OpR X (compareOp .LtE) (rI0 fun i j=>.bl (decide (i≤j))):=aX4 fun _ _ _ _ _ _ _ q=>le_int q
theorem aM4:OpR X (compareOp .Gt) (rI0 fun i j=>.bl (decide (j<i))):=aX4 fun _ _ _ _ _ _ _ q=>gt_int q
theorem aPd:OpR X (compareOp .In) (fun x y H Q=>∃i j,x=.str i∧y=.str j∧Q (.bl (!(Builtin.Str.occurrences j i 0 j.length 1).isEmpty)) H):=by
 intro pins s σ H x y v u Q I rx ry h
 obtain ⟨i,j,rfl,rfl,q⟩:=h
 obtain ⟨t,rfl⟩:=rx
 obtain ⟨t',rfl⟩:=ry
 exact in_str (cF I q rfl)
theorem aV3:OpR X (compareOp .Is) (fun x y H Q=>y=.non∧Q (.bl (decide (x=.non))) H):=by
 intro pins s σ H x y v u Q I rx ry h
 obtain ⟨rfl,q⟩:=h
 cases ry
 refine is_none_gen (cF I q ?_)
 cases x <;> first
  |(cases rx;rfl)
  |(obtain ⟨t,rfl⟩:=rx;rfl)
theorem OpR.or {f:Value→Value→Sem Value} {r r':R2} (h:OpR X f r) (h':OpR X f r'):OpR X f (fun x y H Q=>r x y H Q∨r' x y H Q):=by
 intro pins s σ H x y v u Q I rx ry q
 rcases q with q|q
 ·exact h pins s σ H x y v u Q I rx ry q
 ·exact h' pins s σ H x y v u Q I rx ry q
theorem bI (b:Expr) {op:CmpOp} (h:op≠.In:=by decide) (h2:op≠.NotIn:=by decide):behindInMarks op b=false:=by
 have e1:(op == CmpOp.In)=false:=by cases op <;> first|rfl|exact absurd rfl h
 have e2:(op == CmpOp.NotIn)=false:=by cases op <;> first|rfl|exact absurd rfl h2
 cases b <;> simp [behindInMarks,e1,e2]
theorem aU1 {op:CmpOp} {r:R2} (ho:OpR X (compareOp op) r) (ha:PE X a ta) (hb:PE X b tb) (hm:behindInMarks op b=false):PE X (.Compare a [op] [b] pos) (tOp r ta tb):=by
 intro pins s σ H Q I h
 exact wpAny_Compare1 (aUh ha hb I h fun v u s2 x y H2 I2 rx ry q=>ho pins s2 σ H2 x y v u Q I2 rx ry q) hm
def aJm (t:TE):TT:=fun σ H Q=>t σ H fun x H'=>∃k,x=.bl k∧Q k H'
theorem aTs {op:CmpOp} {r:R2} (ho:OpR X (compareOp op) r) (ha:PE X a ta) (hb:PE X b tb) (hm:behindInMarks op b=false):PT X (.Compare a [op] [b] pos) (aJm (tOp r ta tb)):=by
 intro pins s σ H Q I h
 refine wpAny_isTrue_Compare1 (thn (ha pins s σ H _ I h) fun v s1 ⟨x,H1,I1,r1,q1⟩=>thn (hb pins s1 σ H1 _ I1 q1) fun u s2 ⟨y,H2,I2,r2,q2⟩=>
  thn (ho pins s2 σ H2 x y v u _ I2 r1 r2 q2) fun c s3 ⟨z,H3,I3,r3,k,e,q3⟩=>?_) hm
 subst e
 cases r3
 exact wpAny_truthy_bool ⟨H3,I3,q3⟩
def aF0 (r r':R2) (ta tb tc:TE):TE:=fun σ H Q=>ta σ H fun x H1=>tb σ H1 fun y H2=>r x y H2 fun z H3=>∃k,z=.bl k ∧
 (if k=true then tc σ H3 fun w' H4=>r' y w' H4 Q else Q (.bl false) H3)
theorem aQq {op op':CmpOp} {r r':R2} (ho:OpR X (compareOp op) r) (ho':OpR X (compareOp op') r') (ha:PE X a ta) (hb:PE X b tb) (hc:PE X c tc)
  (hm:lastMarks [op,op'] [b,c]=false:=by with_unfolding_all rfl):PE X (.Compare a [op,op'] [b,c] pos) (aF0 r r' ta tb tc):=by
 intro pins s σ H Q I h
 refine Compare_chain (thn (ha pins s σ H _ I h) fun v s1 ⟨x,H1,I1,r1,q1⟩=>chain_link (thn (hb pins s1 σ H1 _ I1 q1) fun u s2 ⟨y,H2,I2,r2,q2⟩=>
  thn (ho pins s2 σ H2 x y v u _ I2 r1 r2 q2) fun d s3 ⟨z,H3,I3,r3,k,e,q3⟩=>?_)) hm
 subst e
 cases r3
 refine wpAny_truthy_bool ?_
 cases k with
 |false=>exact ite_ff ⟨.bl false,H3,I3,rfl,q3⟩
 |true=>exact ite_tt (chain_last (thn (hc pins s3 σ H3 _ I3 q3) fun w' s4 ⟨z',H4,I4,r4,q4⟩=>ho' pins s4 σ H4 y z' u w' Q I4 r2 r4 q4))
theorem aQ6 {op op':CmpOp} {r r':R2} (ho:OpR X (compareOp op) r) (ho':OpR X (compareOp op') r') (ha:PE X a ta) (hb:PE X b tb) (hc:PE X c tc)
  (hm:lastMarks [op,op'] [b,c]=false:=by with_unfolding_all rfl):PT X (.Compare a [op,op'] [b,c] pos) (aJm (aF0 r r' ta tb tc)):=by
 intro pins s σ H Q I h
 refine isTrue_chain (thn (ha pins s σ H _ I h) fun v s1 ⟨x,H1,I1,r1,q1⟩=>test_link (thn (hb pins s1 σ H1 _ I1 q1) fun u s2 ⟨y,H2,I2,r2,q2⟩=>
  thn (ho pins s2 σ H2 x y v u _ I2 r1 r2 q2) fun d s3 ⟨z,H3,I3,r3,k,e,q3⟩=>?_)) hm
 subst e
 cases r3
 refine wpAny_truthy_bool ?_
 cases k with
 |false=>
  obtain ⟨k',e',q'⟩:=q3
  cases e'
  exact ite_ff ⟨H3,I3,q'⟩
 |true=>
  refine ite_tt (test_last (thn (hc pins s3 σ H3 _ I3 q3) fun w' s4 ⟨z',H4,I4,r4,q4⟩=>thn (ho' pins s4 σ H4 y z' u w' _ I4 r2 r4 q4) fun d' s5 ⟨z2,H5,I5,r5,k2,e2,q5⟩=>?_))
  subst e2
  cases r5
  exact wpAny_truthy_bool ⟨H5,I5,q5⟩
def aYa (K:PySem.W.Frag) (x:V) (H:Hp) (k:Bool):Prop:=
 match x with
 |.non=>k=false
 |.bl b=>k=b
 |.int i=>k=(i != 0)
 |.str y=>y.length≤sizeLine∧k=((y.length:Int) != 0)
 |.byt y=>y.size≤sizeLine∧k=((y.size:Int) != 0)
 |.ref p=>(∃xs,SqL K H p xs∧k=!xs.isEmpty)∨(∃xs,SqT K H p xs∧k=!xs.isEmpty)∨∃kvs,H p=some (.dK kvs)∧k=!kvs.isEmpty
 |_=>False
theorem aJ7 {κ:Type} {kvs:List (κ × V)} {vs:List (κ × Value)} (r:KV kvs vs):(!vs.isEmpty)=!kvs.isEmpty:=by
 cases r <;> rfl
theorem aA2 {xs:List V} {its:List Value} (r:Vals xs its):(!its.toArray.isEmpty)=!xs.isEmpty:=by
 cases r <;> simp
theorem uU:(sizeLine:Nat)<2 ^ 63:=by rw [sizeLine_eq];decide
theorem aXz:bAd X (fun x H Q=>∃k,aYa X.K x H k∧Q k H):=by
 intro pins s σ H x v Q I rx h
 obtain ⟨k,e,q⟩:=h
 have hl:=uU
 have hs:sizeLine=16777216:=sizeLine_eq
 cases x with
 |non=>
  cases rx
  have e':k=false:=e
  subst e'
  exact truthy_none ⟨H,I,q⟩
 |bl b=>
  cases rx
  have e':k=b:=e
  subst e'
  exact wpAny_truthy_bool ⟨H,I,q⟩
 |int i=>
  obtain ⟨t,rfl⟩:=rx
  have e':k=(i != 0):=e
  subst e'
  exact PySem.P.truthy_int ⟨H,I,q⟩
 |str y=>
  obtain ⟨t,rfl⟩:=rx
  obtain ⟨hy,e'⟩:y.length≤sizeLine∧k=((y.length:Int) != 0):=e
  subst e'
  exact PySem.P.truthy_str (by lia) ⟨H,I.tok _,q⟩
 |byt y=>
  obtain ⟨t,rfl⟩:=rx
  obtain ⟨hy,e'⟩:y.size≤sizeLine∧k=((y.size:Int) != 0):=e
  subst e'
  exact PySem.W.truthy_bytes (by lia) ⟨H,I.tok _,q⟩
 |ref p=>
  cases rx
  have e':(∃xs,SqL X.K H p xs∧k=!xs.isEmpty)∨(∃xs,SqT X.K H p xs∧k=!xs.isEmpty)∨∃kvs,H p=some (.dK kvs)∧k=!kvs.isEmpty:=e
  rcases e' with ⟨xs,hx,e'⟩|⟨xs,hx,e'⟩|⟨kvs,hx,e'⟩
  ·subst e'
   obtain ⟨its,r,pl,hz⟩:=I.list hx
   have hlen:=r.length
   exact wpAny_truthy_list pl.isList (by simp only [List.size_toArray];lia) ⟨H,I.tok _,by rw [aA2 r];exact q⟩
  ·subst e'
   obtain ⟨its,r,pl,hz⟩:=I.tuple hx
   have hlen:=r.length
   exact truthy_tuple pl (by simp only [List.size_toArray];lia) ⟨H,I.tok _,by rw [aA2 r];exact q⟩
  ·subst e'
   obtain ⟨hz,hS,vs,r,m⟩:kvs.length≤sizeLine∧(p == sysModules)=false∧∃vs,KV kvs vs∧s.heap.DictOf (dN X.prog X.w) p vs:=I.hok p _ hx
   have hlen:kvs.length=vs.length:=Paired.length r
   exact wpAny_truthy_dict hS m (by lia) ⟨H,I.tok _,by rw [aJ7 r];exact q⟩
 |_=>exact (show False from e).elim
theorem aQm (ha:PE X a ta) (he:∀whole,isTrue a X.env whole=(do let v ←whole;standAt a.pos;holding [v] (truthy v))) :
  PT X a (fun σ H Q=>ta σ H fun x H'=>∃k,aYa X.K x H' k∧Q k H'):=by
 intro pins s σ H Q I h
 exact isTrue_plain (thn (ha pins s σ H _ I h) fun v s1 ⟨x,H1,I1,r1,q1⟩=>aXz pins s1 σ H1 x v Q I1 r1 q1) (he _)
theorem pM:OpR X (binaryOp .Add) (fun x y H Q=>∃i j,x=.str i∧y=.str j∧i.length+j.length≤sizeLine∧Q (.str (i++j)) H):=by
 intro pins s σ H x y v u Q I rx ry h
 obtain ⟨i,j,rfl,rfl,hz,q⟩:=h
 obtain ⟨t,rfl⟩:=rx
 obtain ⟨t',rfl⟩:=ry
 exact add_str (fun t' tk=>⟨.str (i++j),H,I.tok _,⟨_,rfl⟩,q⟩) hz
def aJo (b:Expr):Prop:=∀o i,subscripted b false o i=operate [o,i] (getItem o i)
theorem aHf (ha:PE X a ta) (hb:PE X b tb) (hs:aJo b) :
  PE X (.Subscript a b pos) (tOp (fun x y H Q=>∃z i c,x=.str z∧y=.int i∧0≤i∧i<2 ^ 63∧i<z.length∧z.cps[i.toNat]?=some c∧Q (.str ⟨#[c]⟩) H) ta tb):=by
 intro pins s σ H Q I h
 refine Subscript_ (aUh ha hb I h fun v u s2 x y H2 I2 rx ry q=>?_)
 obtain ⟨z,i,c,rfl,rfl,h0,h63,h1,hc,q⟩:=q
 obtain ⟨t,rfl⟩:=rx
 obtain ⟨t',rfl⟩:=ry
 have e:seqIndex? i z.length=some i.toNat:=PySem.StrLaws.seqIndex_nonneg h0 h1
 exact tail_any (typeIs_str s2 z t) slot_str_getitem.lookup (getItem_str (c:=c) (by
  have e1:decide (i < -(2 ^ 63:Int))=false:=decide_eq_false (by lia)
  have e2:decide (i ≥ 2 ^ 63)=false:=decide_eq_false (by lia)
  rw [e1,e2] <;> rfl) (by rw [e];exact hc) ⟨.str ⟨#[c]⟩,H2,I2.tok _,⟨_,rfl⟩,q⟩) (hs _ _)
theorem vals1 {x:V} {us:List Value} (r:Vals [x] us):∃u,us=[u]∧RelV x u:=by
 cases r with
 |cons r1 r2=>cases r2;exact ⟨_,rfl,r1⟩
theorem vals2 {x y:V} {us:List Value} (r:Vals [x,y] us):∃u w',us=[u,w']∧RelV x u∧RelV y w':=by
 cases r with
 |cons r1 r2=>
  cases r2 with
  |cons r3 r4=>cases r4;exact ⟨_,_,rfl,r1,r3⟩
theorem aR9:cR X (.builtin "abs") (fun xs H Q=>∃i,xs=[.int i]∧Q (.int (if i<0 then -i else i)) H):=by
 intro pins s σ H xs us Q I r h
 obtain ⟨i,rfl,q⟩:=h
 obtain ⟨u,rfl,t,rfl⟩:=vals1 r
 exact call_abs_int fun u tk=>⟨.int (if i<0 then -i else i),H,I.tok _,⟨_,rfl⟩,q⟩
theorem aCt:cR X (.type "int") (fun xs H Q=>(∃i,xs=[.int i]∧Q (.int i) H)∨∃k,xs=[.bl k]∧Q (.int (if k then 1 else 0)) H):=by
 intro pins s σ H xs us Q I r h
 rcases h with ⟨i,rfl,q⟩|⟨k,rfl,q⟩
 ·obtain ⟨u,rfl,t,rfl⟩:=vals1 r
  exact call_int_int ⟨.int i,H,I,⟨_,rfl⟩,q⟩
 ·obtain ⟨u,rfl,r1⟩:=vals1 r
  cases r1
  exact call_int_bool ⟨.int (if k then 1 else 0),H,I.tok _,⟨_,rfl⟩,q⟩
end
section
variable {prog:Program} {w:World} {A:Around} {E:Value→Shared→Prop} {s:Shared} {K:PySem.W.Frag} {x dx C f:Addr} {mA:Str→Option Value} {name:Str} {v:Value}
end
theorem zF.some_of {v:V} {o:Option Value} (r:zF (some v) o):∃u,o=some u∧RelV v u:=by
 cases o with
 |none=>exact (show False from r).elim
 |some u=>exact ⟨u,rfl,r⟩
section
variable {P:Program} {w:World} {H H':Hp} {h h':Heap} {a C dx:Addr} {fs fs':List (Str × V)}
end
section
variable {X:Cx} {pins:List (Addr × Obj)} {σ:St} {H:Hp} {s:Shared} {a C dx:Addr} {fs:List (Str × V)} {f:Str} {v:V} {A:Around} {E:Value→Shared→Prop}
end
section
variable {X:Cx} {o e value:Expr} {f:Str} {pos pos' tpos:Pos} {ta tv:TE}
end
section
variable {X:Cx} {pins:List (Addr × Obj)} {σ:St} {H:Hp} {s:Shared} {A:Around} {E:Value→Shared→Prop} {Q:Value→Shared→Prop} {c:Value} {b:Bool}
end
structure Room (k:Nat) (A:Around):Prop where
 hd:A.handled=none
 dp:A.depth+3 * k+5<recursionLimit
 un:A.units+16 * k+200<cLine
theorem Room.mono {j k:Nat} {A:Around} (r:Room k A) (h:j≤k):Room j A:=⟨r.hd,by have:=r.dp;lia,by have:=r.un;lia⟩
theorem Room.deeper {k:Nat} {A:Around} (r:Room (k+1) A) (env:Env):Room k (A.deeper env):=
 ⟨r.hd,by have:=r.dp;show A.depth+1+3 * k+5<_;lia,by have:=r.un;show A.units+3+16 * k+200<_;lia⟩
theorem Room.depth {k:Nat} {A:Around} (r:Room k A):A.depth<recursionLimit:=by have:=r.dp;lia
theorem Room.units {k:Nat} {A:Around} (r:Room k A):A.units+64<cLine:=by have:=r.un;lia
def aAu:TA:=fun _ H Q=>Q [] H
def cT (ta:TE) (tr:TA):TA:=fun σ H Q=>ta σ H fun x H1=>tr σ H1 fun xs H2=>Q (x::xs) H2
section
variable {X:Cx} {e:Expr} {es:List Expr} {te:TE} {t:TA} {pos:Pos}
theorem aXo:PA X [] aAu:=fun _ _ _ _ H Q I h=>Calls.spliced_nil ⟨[],H,I,.nil,h⟩
theorem aTq (ha:PE X e te) (hr:PA X es t) (hs:starEach (e::es) X.env=(false,eval e X.env)::starEach es X.env:=by rfl):PA X (e::es) (cT te t):=by
 intro pos pins s σ H Q I h
 rw [hs]
 show wpAny _ _ (spliced ((false,eval e X.env)::backTo pos (starEach es X.env))) _ _ s
 refine Calls.spliced_cons (thn (ha pins s σ H _ I h) fun u s1 ⟨x,H1,I1,r1,q1⟩=>?_)
 exact thn (hr pos pins s1 σ H1 _ I1 q1) fun us s2 ⟨xs,H2,I2,r2,q2⟩=>⟨x::xs,H2,I2,.cons r1 r2,q2⟩
def aYn (t:TA):TE:=fun σ H Q=>t σ H fun xs H1=>xs.length≤sizeLine∧∀p,H1 p=none→Q (.ref p) (upd H1 p (.tup xs))
theorem aWj {x1} (h:PA X es t):PE X (.Tuple es x1 pos) (aYn t):=by
 intro pins s σ H Q I hq
 refine wpAny_Tuple_spliced (thn (h pos pins s σ H _ I hq) fun us s1 ⟨xs,H1,I1,r,z,q⟩=>⟨by rw [←r.length];exact z,?_⟩)
 have hf:H1 s1.heap.objs.size=none:=I1.hok.fresh (Nat.le_refl _)
 refine ⟨.ref s1.heap.objs.size,upd H1 s1.heap.objs.size (.tup xs),I1.laid (t':=s1.toks) (fun b u e=>Heap.get?_push_of_some _ e) (Nat.le_refl _) ?_,rfl,q _ hf⟩
 exact ⟨z,us,r,.of (Heap.get?_push_size _ rfl) rfl ⟨_,Heap.get?_push_size _ rfl,rfl,_,rfl⟩⟩
end
abbrev Sp:=List V→Hp→VK→XK→Prop
abbrev CXT:=List Env→Hp→Shared→XK→Value→Shared→Prop
structure aTb (P:Program) (w:World) (K:PySem.W.Frag) (mg:Str→Option Value) (base:Heap) (A:Around) (outer:List Env) (s:Shared) (H:Hp):Prop where
 frames:A.frames=some outer
 mod:Mod K mg base
 bs:∀b o,base.get? b=some o→s.heap.get? b=some o∧H b=none
 bsz:base.objs.size≤s.heap.objs.size
 funs:s.heap.FunFrames base outer
 frf:∀b∈frs outer,H b=none
 hok:HOk P w H s.heap
 bare:AllBare s.gens
def CE (outer:List Env) (P:Program) (w:World) (H:Hp) (s:Shared) (Q:VK) (u:Value) (s':Shared):Prop:=
 ∃v H',s'.os=s.os∧AllBare s'.gens∧Un (frs outer) [] H H' s.heap s'.heap∧HOk P w H' s'.heap∧RelV v u∧Q v H'
def CR (CX:CXT) (outer:List Env) (P:Program) (w:World) (H:Hp) (s:Shared) (Q:VK) (E:XK) (r:Result) (s':Shared):Prop:=
 match r with
 |.ok (.ret u)=>CE outer P w H s Q u s'
 |.ok _=>False
 |.error e=>CX outer H s E e s'
structure pJ (P:Program) (w:World) (K:PySem.W.Frag) (mg:Str→Option Value) (base:Heap) (CX:CXT) (k:Nat) (f:Addr) (fd:FuncData) (ps:List Str) (sp:Sp):Prop where
 len:∀vs H Q E,sp vs H Q E→vs.length=ps.length
 run:∀(A:Around) (outer:List Env) (s:Shared) (H:Hp) (args:Args) (us:List Value) (vs:List V) (Q:VK) (E:XK),Room k A→aTb P w K mg base A outer s H→BindsTo s fd args (ps.zip us)→Vals vs us→sp vs H Q E →
  codeAny (model P w) A (.call (.ref f) args) (CR CX outer P w H s Q E) s
theorem pJ.mono {P:Program} {w:World} {K:PySem.W.Frag} {mg:Str→Option Value} {base:Heap} {CX:CXT} {j k:Nat} {f:Addr} {fd:FuncData} {ps:List Str} {sp:Sp} (F:pJ P w K mg base CX j f fd ps sp) (h:j≤k) :
  pJ P w K mg base CX k f fd ps sp:=⟨F.len,fun A outer s H args us vs Q E hr=>F.run A outer s H args us vs Q E (hr.mono h)⟩
theorem pJ.imp {P:Program} {w:World} {K:PySem.W.Frag} {mg:Str→Option Value} {base:Heap} {CX:CXT} {k:Nat} {f:Addr} {fd:FuncData} {ps:List Str} {sp sp':Sp} (F:pJ P w K mg base CX k f fd ps sp)
  (h:∀vs H Q E,sp' vs H Q E→sp vs H Q E):pJ P w K mg base CX k f fd ps sp':=
 ⟨fun vs H Q E q=>F.len vs H Q E (h _ _ _ _ q),fun A outer s H args us vs Q E hr he hb hv hs=>F.run A outer s H args us vs Q E hr he hb hv (h _ _ _ _ hs)⟩
section
variable {X:Cx} {pins:List (Addr × Obj)} {σ:St} {H:Hp} {s s':Shared}
theorem Inv.env0 (I:Inv X pins σ H s):aTb X.prog X.w X.K X.mg X.base X.A X.stack s H:=
 ⟨I.ok.frames,I.ok.mod,I.bs,Nat.le_trans I.ok.bsz I.sz,I.stack,I.aMu,I.hok,I.bare⟩
theorem Inv.after {Q:VK} {u:Value} (I:Inv X pins σ H s) (h:CE X.stack X.prog X.w H s Q u s'):EP X pins σ Q u s':=by
 obtain ⟨v,H',os,bare,un,hok,r,q⟩:=h
 obtain ⟨hh,g,d,t,os'⟩:=s'
 obtain rfl:os'=s.os:=os
 exact ⟨v,H',I.call (h':=hh) (g':=g) (d':=d) (t':=t) (ch:=[]) un hok bare (fun b z=>absurd z (by simp)),r,q⟩
end
def nD (sp:Sp) (dvs:List V) (E:XK) (t:TA):TE:=fun σ H Q=>t σ H fun vs H1=>sp (vs++dvs) H1 Q E
def Binds (K:PySem.W.Frag) (fd:FuncData) (ps:List Str) (ds:List Value):Prop:=
 ∀(s:Shared) (us:List Value),K.In s.heap→(us++ds).length=ps.length→BindsTo s fd ⟨us,[]⟩ (ps.zip (us++ds))
theorem Binds.all {K:PySem.W.Frag} {fd:FuncData} {ps:List Str} (h:∀us:List Value,us.length=ps.length→bindArgs fd ⟨us,[]⟩=pure (ps.zip us)):Binds K fd ps []:=fun s us _ hl=>by
 rw [List.append_nil] at hl ⊢
 exact .of_eq (h us hl)
def aFc (CX:CXT) (X:Cx) (E:XK):Prop:=∀(pins:List (Addr × Obj)) (σ:St) (H:Hp) (s:Shared) (e:Value) (s':Shared),Inv X pins σ H s→CX X.stack H s E e s'→X.xe e s'
section
variable {X:Cx} {CX:CXT} {k:Nat} {f C:Addr} {fd:FuncData} {ps:List Str} {sp:Sp} {dvs:List V} {ds:List Value} {E:XK} {x m:Str} {p pos apos:Pos} {e o:Expr} {es:List Expr} {ta:TE} {t:TA}
theorem aLn {pins:List (Addr × Obj)} {σ:St} {H:Hp} {s:Shared} {Q:VK} {us:List Value} {vs:List V} (F:pJ X.prog X.w X.K X.mg X.base CX k f fd ps sp) (hr:Room k X.A) (hb:Binds X.K fd ps ds) (hd:Vals dvs ds) (hx:aFc CX X E)
  (I:Inv X pins σ H s) (r:Vals vs us) (h:sp (vs++dvs) H Q E):wpAny (model X.prog X.w) X.A (call (.ref f) us) (EP X pins σ Q) X.xe s:=by
 have r2:Vals (vs++dvs) (us++ds):=r.append hd
 have hl:(us++ds).length=ps.length:=by rw [←r2.length];exact F.len _ _ _ _ h
 refine wpAny_call (codeAny_mono (F.run X.A X.stack s H ⟨us,[]⟩ (us++ds) (vs++dvs) Q E hr I.env0 (hb s us I.kIn hl) r2 h) fun r s' hq=>?_)
 cases r with
 |error e=>exact hx pins σ H s e s' I hq
 |ok fl=>
  cases fl with
  |ret u=>exact I.after hq
  |next=>exact False.elim hq
  |brk=>exact False.elim hq
  |cont=>exact False.elim hq
theorem aS3 (F:pJ X.prog X.w X.K X.mg X.base CX k f fd ps sp) (hr:Room k X.A) (hg:Gl X x) (hm:X.mg x=some (.ref f)) (hk:PySem.W.keepIn X.K (.ref f)=true) (hb:Binds X.K fd ps ds) (hd:Vals dvs ds) (hx:aFc CX X E)
  (ha:PA X (e::es) t) (hdb:(x == ("__debug__":Str))=false:=by decide) (he:starEach (e::es) X.env=(false,eval e X.env)::starEach es X.env:=by rfl) (hpl:(backTo pos (starEach es X.env)).any (·.1)=false:=by rfl) :
  PE X (.Call (.Name x p) (e::es) [] pos) (nD sp dvs E t):=by
 intro pins s σ H Q I h
 refine wpAny_Call_Name_kw (aGd I hg hm ?_ hdb)
 refine PySem.W.callWith_K (h₀:=X.base) I.ok.mod.kin hk (thn (ha pos pins s σ H _ I h) fun us s1 ⟨vs,H1,I1,r,q⟩=>⟨I1.kIn,?_⟩) he hpl
 exact aLn F hr hb hd hx I1 r q
theorem aS1 (F:pJ X.prog X.w X.K X.mg X.base CX k f fd ps sp) (hr:Room k X.A) (hg:Gl X x) (hm:X.mg x=some (.ref f)) (hk:PySem.W.keepIn X.K (.ref f)=true) (hb:Binds X.K fd ps ds) (hd:Vals dvs ds) (hx:aFc CX X E)
  (hdb:(x == ("__debug__":Str))=false:=by decide):PE X (.Call (.Name x p) [] [] pos) (nD sp dvs E aAu):=by
 intro pins s σ H Q I h
 refine wpAny_Call_Name_kw (aGd I hg hm ?_ hdb)
 exact PySem.W.callWith_K0 I.kIn hk (aLn (us:=[]) F hr hb hd hx I .nil h)
end
section
variable {X:Cx} {CX:CXT} {k:Nat} {f C:Addr} {fd:FuncData} {ps ks:List Str} {sp:Sp} {E:XK} {x m:Str} {p pos apos kpos:Pos} {e o:Expr} {es:List Expr} {kws:List Keyword} {te ta:TE} {t tk:TA} {nm:Option Str}
variable {g:List Value→List Value→List Value} {gV:List V→List V→List V}
end
structure aM (N P:List Str) (sc:Scope):Prop where
 kind:sc.kind=.function
 co:sc.isCoroutine=false
 gen:sc.isGenerator=false
 nd:N.Nodup
 pre:N.take P.length=P
 par:∀x∈P,sc.names.lookup x=some .local∨sc.names.lookup x=some .cell
 nofree:∀y∈sc.names,y.2≠.free
theorem aCu {kindOf:Str→Option NameKind} {x:Str}:∀{binds:List (Str × Value)} {m:Str→Option Value},(∀v,(x,v)∉binds)→bindL kindOf binds m x=m x
 |[],_,_=>rfl
 |(n,v)::r,m,h=>by
  unfold bindL
  rw [aCu fun w hw=>h w (List.mem_cons_of_mem _ hw)]
  split
  ·have:x≠n:=by rintro rfl;exact h v List.mem_cons_self
   simp [this]
  ·rfl
theorem aC9 {kindOf:Str→Option NameKind} {x:Str}:∀{binds:List (Str × Value)} {m:Str→Option Value},(∀v,(x,v)∉binds)→bindC kindOf binds m x=m x
 |[],_,_=>rfl
 |(n,v)::r,m,h=>by
  unfold bindC
  rw [aC9 fun w hw=>h w (List.mem_cons_of_mem _ hw)]
  split
  ·rfl
  ·have:x≠n:=by rintro rfl;exact h v List.mem_cons_self
   simp [this]
theorem aC8 {kindOf:Str→Option NameKind} {x:Str} {v:Value}:∀{P:List Str} {vs:List Value} {i:Nat} {m:Str→Option Value},P.Nodup→P[i]?=some x→vs[i]?=some v→kindOf x=some .local →
  bindL kindOf (P.zip vs) m x=some v
 |[],_,_,_,_,h,_,_=>by simp at h
 |_::_,[],_,_,_,_,h,_=>by simp at h
 |p::P,w::vs,0,m,nd,h1,h2,hk=>by
  simp at h1 h2;subst h1;subst h2
  show bindL kindOf ((p,w)::P.zip vs) m p=_
  unfold bindL
  rw [aCu fun v hv=>(List.nodup_cons.mp nd).1 (List.of_mem_zip hv).1,if_pos hk]
  simp
 |p::P,w::vs,i+1,m,nd,h1,h2,hk=>by
  show bindL kindOf ((p,w)::P.zip vs) m x=_
  unfold bindL
  exact aC8 (i:=i) (List.nodup_cons.mp nd).2 (by simpa using h1) (by simpa using h2) hk
theorem aCi {kindOf:Str→Option NameKind} {x:Str} {v:Value}:∀{P:List Str} {vs:List Value} {i:Nat} {m:Str→Option Value},P.Nodup→P[i]?=some x→vs[i]?=some v→kindOf x≠some .local →
  bindC kindOf (P.zip vs) m x=some v
 |[],_,_,_,_,h,_,_=>by simp at h
 |_::_,[],_,_,_,_,h,_=>by simp at h
 |p::P,w::vs,0,m,nd,h1,h2,hk=>by
  simp at h1 h2;subst h1;subst h2
  show bindC kindOf ((p,w)::P.zip vs) m p=_
  unfold bindC
  rw [aC9 fun v hv=>(List.nodup_cons.mp nd).1 (List.of_mem_zip hv).1,if_neg hk]
  simp
 |p::P,w::vs,i+1,m,nd,h1,h2,hk=>by
  show bindC kindOf ((p,w)::P.zip vs) m x=_
  unfold bindC
  exact aCi (i:=i) (List.nodup_cons.mp nd).2 (by simpa using h1) (by simpa using h2) hk
def start (N:List Str) (vs:List V):St:=vs.map some++List.replicate (N.length - vs.length) none
def aEq (CX:CXT) (P:Program) (w:World) (K:PySem.W.Frag) (mg:Str→Option Value) (base:Heap) (N:List Str) (qual:Str) (scope:Scope) (f:Addr) (cd:Value) (A:Around) (outer:List Env) (s:Shared) (H:Hp) (E:XK):Cx where
 prog:=P
 w:=w
 K:=K
 mg:=mg
 base:=base
 A:=A.deeper (envOfC qual scope s.heap.objs.size f cd)
 N:=N
 s₀:=s
 H₀:=H
 env:=envOfC qual scope s.heap.objs.size f cd
 outer:=outer
 stack:=envOfC qual scope s.heap.objs.size f cd::outer
 ex:=[]
 calm:=true
 fn:=fun _=>true
 pn:=[]
 xe:=fun e s'=>wpAny (model P w) (A.deeper (envOfC qual scope s.heap.objs.size f cd)) (leaving (envOfC qual scope s.heap.objs.size f cd) e) (fun _ s''=>CX outer H s E e s'') (fun e' s''=>CX outer H s E e' s'') s'
theorem aGm {sc:Scope} {n:Nat} {x:Str} (h:sc.names.lookup x=some .cell):∃c,(cellsFrom n sc.names []).lookup x=some c:=by
 have q:=PySem.W.cellsFrom_some sc.names n [] (.inl h)
 exact Option.isSome_iff_exists.mp q
theorem aPh {CX:CXT} {P:Program} {w:World} {K:PySem.W.Frag} {mg:Str→Option Value} {base:Heap} {N ps:List Str} {qual:Str} {scope:Scope} {f:Addr} {cd:Value} {A:Around} {outer:List Env} {s s1:Shared} {H:Hp} {E:XK} {us:List Value} {vs:List V}
  (S:aM N ps scope) (hd:A.handled=none) (e0:aTb P w K mg base A outer s H) (hl:vs.length=ps.length) (r:Vals vs us)
  (x:InCallC s s.heap.objs.size (bindL (envOfC qual scope s.heap.objs.size f cd).kindOf (ps.zip us) fun _=>none) (cellsFrom (s.heap.objs.size+1) scope.names []) (bindC (envOfC qual scope s.heap.objs.size f cd).kindOf (ps.zip us) fun _=>none) s1) :
  Inv (aEq CX P w K mg base N qual scope f cd A outer s H E) [] (start N vs) H s1:=by
 have hpl:ps.length≤N.length:=by have:=congrArg List.length S.pre;rw [List.length_take] at this;lia
 obtain ⟨h1,tk,rfl,hk⟩:=x.done
 have noA:∀b:Addr,b∉(aEq CX P w K mg base N qual scope f cd A outer s H E).ex:=fun b z=>absurd (show b∈([]:List Addr) from z) (by simp)
 refine ⟨⟨e0.mod,S.kind,rfl,rfl,Nat.le_refl _,fun y z c h1 h2=>?_,fun y hy=>?_,fun y c _ h=>?_,fun _=>hd,Around.frames_deeper e0.frames,.inr ⟨rfl,rfl⟩,fun b z=>absurd z (noA b),e0.bs,e0.bsz,fun b _ _=>noA b,fun b z=>absurd z (noA b),e0.funs,e0.frf⟩,
  rfl,e0.bare,Un.kept hk,⟨_,x.toInCall.ns,fun i y v h1 h2 h3=>?_⟩,fun y c h=>⟨_,x.cell y c h⟩,e0.hok.fresh (Nat.le_refl _),fun y c h=>?_,fun p hp=>absurd (show p∈([]:List (Addr × Obj)) from hp) (by simp),e0.hok.kept hk,?_⟩
 ·exact name_of_addr x.apart (PySem.mem_of_lookup h1) (PySem.mem_of_lookup h2)
 ·have hy:scope.names.lookup y=some .cell∨scope.names.lookup y=some .free:=hy
  rcases hy with hy|hy
  ·exact aGm hy
  ·exact absurd rfl (S.nofree _ (PySem.mem_of_lookup hy))
 ·exact Nat.le_of_lt (x.above y c (PySem.mem_of_lookup h))
 ·have hi:i<vs.length:=by
   unfold start at h2
   by_cases hi:i<vs.length
   ·exact hi
   ·rw [List.getElem?_append_right (by simpa using hi)] at h2
    rw [List.getElem?_replicate] at h2
    split at h2 <;> cases h2
  have ha:vs[i]?=some v:=by
   unfold start at h2
   rw [List.getElem?_append_left (by simpa using hi),List.getElem?_map] at h2
   cases e:vs[i]? with
   |none=>rw [e] at h2;cases h2
   |some a=>rw [e] at h2;cases h2;rfl
  obtain ⟨u,hu,rv⟩:=r.get ha
  have hp:ps[i]?=some y:=by
   rw [←S.pre,List.getElem?_take_of_lt (by lia)];exact h1
  have ndP:ps.Nodup:=by rw [←S.pre];exact S.nd.sublist (List.take_sublist _ _)
  refine ⟨u,rv,?_⟩
  rcases S.par y (List.mem_of_getElem? hp) with k|k
  ·exact .inl ⟨k,aC8 ndP hp hu k⟩
  ·obtain ⟨c,e⟩:=aGm (n:=s.heap.objs.size+1) k
   refine .inr ⟨.inl k,c,e,?_⟩
   have q:=x.cell y c e
   rw [aCi ndP hp hu (by show scope.names.lookup y≠_;rw [k];decide)] at q
   exact q
 ·exact e0.hok.fresh (Nat.le_of_lt (x.above y c (PySem.mem_of_lookup h)))
 ·unfold start
  show _=N.length
  rw [List.length_append,List.length_map,List.length_replicate]
  lia
theorem aYx {CX:CXT} {P:Program} {w:World} {K:PySem.W.Frag} {mg:Str→Option Value} {base:Heap} {k:Nat} {f:Addr} {name qual:Str} {params:Arguments} {body:List Stmt} {scope:Scope} {dV kV doc pm cdv ct oc:Value} {an od:Option Addr}
  {osl:Array (Option Value)} {N ps:List Str} {sp:Sp} (lk:K.lookup f=some ⟨oc,od,.func (PySem.W.fnOf name qual params body scope dV kV doc pm an cdv ct),osl⟩) (hcd:PySem.W.codeIn K cdv qual=true) (S:aM N ps scope)
  (len:∀vs H Q E,sp vs H Q E→vs.length=ps.length)
  (hbody:∀(A:Around) (outer:List Env) (s:Shared) (H:Hp) (vs:List V) (Q:VK) (E:XK),Room k (A.deeper (envOfC qual scope s.heap.objs.size f cdv))→sp vs H Q E →
   ∃t,PSs (aEq CX P w K mg base N qual scope f cdv A outer s H E) body t∧t { nx:=fun _ H'=>Q .non H',rt:=Q } (start N vs) H) :
  pJ P w K mg base CX (k+1) f (PySem.W.fnOf name qual params body scope dV kV doc pm an cdv ct) ps sp:=by
 refine ⟨len,fun A outer s H args us vs Q E hr e0 hb r hsp=>?_⟩
 have hl:=len _ _ _ _ hsp
 have KX:K.In s.heap:=e0.mod.kin.keeps fun b o e=>(e0.bs b o e).1
 have lim:s.heap.NoLimit:=e0.mod.nolimit.keeps fun b o e=>(e0.bs b o e).1
 have hkind:∀y∈ps.zip us,scope.names.lookup y.1=some .local∨(scope.names.lookup y.1=some .cell∧((cellsFrom (s.heap.objs.size+1) scope.names []).lookup y.1).isSome=true):=fun ⟨n,v⟩ hy=>by
  rcases S.par n (List.of_mem_zip hy).1 with q|q
  ·exact .inl q
  ·exact .inr ⟨q,PySem.W.cellsFrom_some _ _ _ (.inl q)⟩
 refine codeAny_call_function hr.depth (KX _ _ lk) rfl S.co S.gen rfl (PySem.W.codeRec_of KX hcd) (hb _ _ _ _ ?_)
 refine wpAny_newFunctionEnv_cells S.kind hkind fun env he s1 x=>?_
 subst he
 refine ⟨lim.keeps x.toInCall.keep,codeAny_func ?_⟩
 obtain ⟨t,ht,hq⟩:=hbody A outer s H vs Q E (hr.deeper _) hsp
 have I:Inv (aEq CX P w K mg base N qual scope f cdv A outer s H E) [] (start N vs) H s1:=aPh S hr.hd e0 hl r x
 refine wpAny_mono (ht [] s1 (start N vs) H _ I hq) (fun fl s' hs=>?_) fun e s' hs=>hs
 have fin:∀{σ':St} {H':Hp} {v:V} {u:Value},Inv (aEq CX P w K mg base N qual scope f cdv A outer s H E) [] σ' H' s'→RelV v u→Q v H'→CE outer P w H s Q u s':=
  fun {σ' H' v u} J rv q=>⟨v,H',J.os,J.bare,J.base,J.hok,rv,q⟩
 cases fl with
 |ret u=>
  obtain ⟨v,σ',H',J,rv,q⟩:=hs
  exact fin J rv q
 |next=>
  obtain ⟨σ',H',J,q⟩:=hs
  exact fin (v:=V.non) (u:=Value.none) J rfl q
 |brk=>
  obtain ⟨_,_,_,q⟩:=hs
  exact False.elim q
 |cont=>
  obtain ⟨_,_,_,q⟩:=hs
  exact False.elim q
section
variable {X:Cx} {x:Str} {p pos:Pos} {e:Expr} {es:List Expr} {t:TA} {id T:String} {r:List V→Hp→VK→Prop}
def tCB (r:List V→Hp→VK→Prop) (t:TA):TE:=fun σ H Q=>t σ H fun vs H1=>r vs H1 Q
theorem aPy (hc:cR X (.builtin id) r) (hg:Gl X x) (hm:X.mg x=none) (hv:bootBuiltins x=some (.builtin id)) (ha:PA X (e::es) t) (hn:x≠"__name__":=by decide) (hdb:(x == ("__debug__":Str))=false:=by decide)
  (he:starEach (e::es) X.env=(false,eval e X.env)::starEach es X.env:=by rfl) (hpl:(backTo pos (starEach es X.env)).any (·.1)=false:=by rfl):PE X (.Call (.Name x p) (e::es) [] pos) (tCB r t):=by
 intro pins s σ H Q I h
 refine wpAny_Call_Name_kw (uG I hg hm hv ?_ hn hdb)
 exact PyProof.Rows.callWith_builtin1 (thn (ha pos pins s σ H _ I h) fun us s1 ⟨vs,H1,I1,r1,q1⟩=>hc pins s1 σ H1 vs us Q I1 r1 q1) he hpl
theorem aPe (hc:cR X (.type T) r) (hg:Gl X x) (hm:X.mg x=none) (hv:bootBuiltins x=some (.type T)) (ha:PA X (e::es) t) (hn:x≠"__name__":=by decide) (hdb:(x == ("__debug__":Str))=false:=by decide)
  (he:starEach (e::es) X.env=(false,eval e X.env)::starEach es X.env:=by rfl) (hpl:(backTo pos (starEach es X.env)).any (·.1)=false:=by rfl):PE X (.Call (.Name x p) (e::es) [] pos) (tCB r t):=by
 intro pins s σ H Q I h
 refine wpAny_Call_Name_kw (uG I hg hm hv ?_ hn hdb)
 exact PyProof.Rows.callWith_type1 (thn (ha pos pins s σ H _ I h) fun us s1 ⟨vs,H1,I1,r1,q1⟩=>hc pins s1 σ H1 vs us Q I1 r1 q1) he hpl
end
end L2
namespace HT
open PySem PyProof.Rows
section
open PySem.SeqAt
open PySem.AutoSeq1 (wpAny_loadPart')
open PySem.MeetsSeq PySem.MeetsSeq2 PySem.MeetsSeq3
end
section
variable {prog:Program} {w:World} {A:Around} {E:Value→Shared→Prop} {s:Shared}
theorem aT1 {t b:Addr} {vs ws:List Value} {Q:Value→Shared→Prop} (ht:IsTup s.heap t vs.toArray) (hb:IsTup s.heap b ws.toArray) (hv:vs≠[])
  (h1:ws=[]→Q (.ref t) s) (h2:ws≠[]→Q (.ref s.heap.objs.size) { s with heap:=s.heap.push { cls:=.type "tuple",data:=.seq (vs++ws).toArray } })
  (hsz:vs.length+ws.length≤sizeLine):wpAny (model prog w) A (binaryOp .Add (.ref t) (.ref b)) Q E s:=by
 obtain ⟨⟨cls,dd,data,sl⟩,ho,hc,n,hd⟩:=id ht
 obtain ⟨⟨cls2,dd2,data2,sl2⟩,ho2,hc2,n2,hd2⟩:=id hb
 simp only at hc hd hc2 hd2
 subst hc hd hc2 hd2
 have e:vs.toArray++ws.toArray=(vs++ws).toArray:=by simp
 by_cases hw:ws=[]
 ·exact concat_meets ⟨_,ho,rfl⟩ ⟨_,ho2,rfl⟩ noFill_tuple_add seq_tuple_add PySem.F.slot_tuple_add PySem.F.entry_tuple_add (PySem.F.args_tuple_add_2 _ _)
   (tuple_addW1 t b vs.toArray ws.toArray n n2 dd dd2 sl sl2 (by simpa using hv) (by simp [hw])) ⟨ho,ho2,h1 hw⟩
 ·refine concat_meets ⟨_,ho,rfl⟩ ⟨_,ho2,rfl⟩ noFill_tuple_add seq_tuple_add PySem.F.slot_tuple_add PySem.F.entry_tuple_add (PySem.F.args_tuple_add_2 _ _)
   (tuple_addW2 t b vs.toArray ws.toArray n n2 dd dd2 sl sl2 (by simpa using hv) (by simpa using hw) (by rw [List.size_toArray,List.size_toArray];exact hsz)) ⟨ho,ho2,?_⟩
  rw [e]
  exact h2 hw
def sIx (n d:Nat):Option Int→Nat
 |none=>d
 |some v=>if v<0 then (v+(n:Int)).toNat else min v.toNat n
theorem aAh (n d:Nat):sIx n d none=d:=rfl
theorem zP (n d k:Nat):sIx n d (some (k:Int))=min k n:=by
 show (if (k:Int)<0 then ((k:Int)+(n:Int)).toNat else min (k:Int).toNat n)=min k n
 rw [if_neg (by lia),Int.toNat_natCast]
theorem aW7 (n d:Nat) (hd:d≤n) (o:Option Int):sIx n d o≤n:=by
 cases o with
 |none=>exact hd
 |some v=>
  show (if v<0 then (v+(n:Int)).toNat else min v.toNat n)≤n
  by_cases hv:v<0
  ·rw [if_pos hv];lia
  ·rw [if_neg hv];exact Nat.min_le_right _ _
theorem aMl (v:Int) (n d:Nat):(if v<0 then max (v+(n:Int)) 0 else min v (n:Int))=((sIx n d (some v):Nat):Int):=by
 show (if v<0 then max (v+(n:Int)) 0 else min v (n:Int))=(((if v<0 then (v+(n:Int)).toNat else min v.toNat n):Nat):Int)
 by_cases hv:v<0
 ·simp only [if_pos hv];lia
 ·simp only [if_neg hv];lia
theorem aLr (lo hi:Option Int) (n:Nat):Builtin.Slice.sliceAdjust lo hi 1 (n:Int)=(((sIx n 0 lo:Nat):Int),((sIx n n hi:Nat):Int)):=by
 have h1:¬ ((1:Int)<0):=by lia
 unfold Builtin.Slice.sliceAdjust
 simp only [h1,if_false]
 refine Prod.ext ?_ ?_
 ·cases lo with
  |none=>rfl
  |some v=>exact aMl v n 0
 ·cases hi with
  |none=>rfl
  |some v=>exact aMl v n n
theorem aKi (i j:Nat):Builtin.Slice.slicePlaces (i:Int) (j:Int) 1=j - i:=by
 unfold Builtin.Slice.slicePlaces
 have h1:(1:Int) > 0:=by lia
 simp only [h1,if_true,Int.ediv_one]
 split <;> lia
theorem aAs {v:Value} {o:Option Int} {Q:Option Int→Shared→Prop} (p:IsPart v o) (h:Q o s):wpAny (model prog w) A (Builtin.Slice.slicePartIndex v) Q E s:=by
 cases p with
 |none=>exact slicePart_none h
 |int i t=>exact slicePart_int h
theorem nZ {sl:Addr} {vl vu:Value} {lo hi:Option Int} {n:Nat} {Q:Int × Int × Nat→Shared→Prop} (hs:s.heap.IsSliceOf sl vl vu .none) (pl:IsPart vl lo) (pu:IsPart vu hi)
  (h:Q (((sIx n 0 lo:Nat):Int),1,sIx n n hi - sIx n 0 lo) s):wpAny (model prog w) A (Builtin.Slice.sliceApplied (.ref sl) (pure (n:Int))) Q E s:=by
 obtain ⟨os,hos,hcs,hds⟩:=id hs
 unfold Builtin.Slice.sliceApplied Builtin.Slice.sliceFields
 refine wpAny_bind (wpAny_bind (wpAny_field hos hds (x:=vl) rfl (wpAny_bind (wpAny_field hos hds (x:=vu) rfl (wpAny_bind (wpAny_field hos hds (x:=.none) rfl (wpAny_pure ?_)))))))
 refine wpAny_bind (slicePart_none ?_)
 show wpAny _ _ (if ((1:Int) == 0)=true then _ else _) _ _ s
 rw [if_neg (by decide)]
 refine wpAny_bind (aAs pl (wpAny_bind (aAs pu (wpAny_bind (wpAny_pure ?_)))))
 show wpAny _ _ (match Builtin.Slice.sliceAdjust lo hi 1 (n:Int) with|(lo,hi)=>pure (lo,(1:Int),Builtin.Slice.slicePlaces lo hi 1)) _ _ s
 rw [aLr lo hi n]
 show wpAny _ _ (pure (((sIx n 0 lo:Nat):Int),(1:Int),Builtin.Slice.slicePlaces ((sIx n 0 lo:Nat):Int) ((sIx n n hi:Nat):Int) 1)) _ _ s
 rw [aKi]
 exact wpAny_pure h
theorem aRh (xs:Array Value) (i k:Nat):((List.range k).filterMap fun (m:Nat)=>xs[((i:Int)+(m:Int) * 1).toNat]?).toArray=((xs.toList.drop i).take k).toArray:=by
 have e:(fun (m:Nat)=>xs[((i:Int)+(m:Int) * 1).toNat]?)=fun m=>xs[i+m]?:=by
  funext m
  have:((i:Int)+(m:Int) * 1).toNat=i+m:=by lia
  rw [this]
 rw [e]
 have:=pick_run xs i k
 rw [List.filterMap_map] at this
 have e2:((fun x=>xs[x]?) ∘ fun x=>i+x)=fun m=>xs[i+m]?:=rfl
 rw [e2] at this
 rw [this]
theorem vB {t sl:Addr} {items:Array Value} {vl vu:Value} {lo hi:Option Int} {Q:Value→Shared→Prop} (ht:IsTup s.heap t items) (hs:s.heap.IsSliceOf sl vl vu .none) (pl:IsPart vl lo) (pu:IsPart vu hi)
  (hw:¬ (sIx items.size 0 lo=0∧sIx items.size items.size hi=items.size))
  (h:Q (.ref s.heap.objs.size) { s with heap:=s.heap.push { cls:=.type "tuple",data:=.seq ((items.toList.drop (sIx items.size 0 lo)).take (sIx items.size items.size hi - sIx items.size 0 lo)).toArray } })
  (hsz:items.size≤sizeLine):wpAny (model prog w) A (getItem (.ref t) (.ref sl)) Q E s:=by
 have htake:sizeOk (.seq ((items.toList.drop (sIx items.size 0 lo)).take (sIx items.size items.size hi - sIx items.size 0 lo)).toArray):=by
  show ((items.toList.drop (sIx items.size 0 lo)).take (sIx items.size items.size hi - sIx items.size 0 lo)).toArray.size≤sizeLine
  rw [List.size_toArray,List.length_take,List.length_drop,Array.length_toList]
  lia
 have hj:sIx items.size items.size hi≤items.size:=aW7 _ _ (Nat.le_refl _) hi
 obtain ⟨os,hos,hcs,hds⟩:=id hs
 have hTs:s.TypeIs (.ref sl) "slice":=⟨os,hos,hcs⟩
 unfold getItem
 try with_reducible refine wpAny_holding ?_
 first|refine wpAny_bind (wpAny_pure ?_)|skip
 refine wpAny_bind (wpAny_sequenceKey ht.typeIs (by decide) ?_)
 refine wpAny_bind (wpAny_callSpecial?_slot (name:=Str.ofString "__getitem__") ht.typeIs PyProof.Rows.slot_tuple_getitem
  (wpAny_call_entry PyProof.Rows.slot_tuple_getitem ht.typeIs entry_tuple_getitem ?_ (args_tuple_getitem _ _)))
 show wpAny _ _ (Builtin.Tuple.tupleItemsOf (.ref t) >>= _) _ _ s
 refine wpAny_bind (tupleItemsOf_ ht ?_)
 refine wpAny_bind (wpAny_typeOf hTs ?_)
 rw [if_pos (by decide)]
 refine wpAny_bind (nZ hs pl pu ?_)
 have hno:¬ ((((sIx items.size 0 lo:Nat):Int) == 0 && (1:Int) == 1 && (sIx items.size items.size hi - sIx items.size 0 lo) == items.size)=true):=by
  intro q
  rw [Bool.and_eq_true,Bool.and_eq_true] at q
  have q1:((sIx items.size 0 lo:Nat):Int)=0:=eq_of_beq q.1.1
  have q2:sIx items.size items.size hi - sIx items.size 0 lo=items.size:=eq_of_beq q.2
  exact hw ⟨by lia,by lia⟩
 show wpAny _ _ (if (((sIx items.size 0 lo:Nat):Int) == 0 && (1:Int) == 1 && (sIx items.size items.size hi - sIx items.size 0 lo) == items.size)=true then _ else _) _ _ s
 rw [if_neg hno,aRh]
 first
  |exact wpAny_bind (m:=Builtin.Tuple.tupleExact _) (wpAny_newObj_type (wpAny_pure ⟨_,rfl,wpAny_pure h⟩) htake)
  |exact wpAny_bind (m:=Builtin.Tuple.tupleExact _) (wpAny_newObj_type (wpAny_bind (wpAny_pure (wpAny_pure ⟨_,rfl,wpAny_pure h⟩))) htake)
  |exact wpAny_bind (wpAny_bind (m:=Builtin.Tuple.tupleExact _) (wpAny_newObj_type (wpAny_pure (wpAny_pure ⟨_,rfl,wpAny_pure h⟩)) htake))
  |exact wpAny_bind (wpAny_bind (m:=Builtin.Tuple.tupleExact _) (wpAny_newObj_type (wpAny_pure ⟨_,rfl,wpAny_pure h⟩) htake))
end
end HT
namespace L2
open PySem PySem.Spec PyProof.Rows
abbrev TO:=St→Hp→(Option Int→Hp→Prop)→Prop
def PO (X:Cx) (e:Option Expr) (t:TO):Prop:=
 ∀(pins:List (Addr × Obj)) (s:Shared) (σ:St) (H:Hp) (Q:Option Int→Hp→Prop),Inv X pins σ H s→t σ H Q →
  wpAny (model X.prog X.w) X.A (evalPart e X.env) (fun u s'=>∃o H',Inv X pins σ H' s'∧IsPart u o∧Q o H') X.xe s
def aNj:TO:=fun _ H Q=>Q none H
def aVu (t:TE):TO:=fun σ H Q=>t σ H fun x H1=>∃i,x=.int i∧Q (some i) H1
section
variable {X:Cx} {e:Expr} {te:TE} {lo hi:Option Expr} {tl th:TO} {pos p2:Pos}
theorem aUz:PO X none aNj:=by
 intro pins s σ H Q I h
 rw [evalPart_none]
 exact wpAny_pure ⟨none,H,I,.none,h⟩
theorem aTl (h:PE X e te):PO X (some e) (aVu te):=by
 intro pins s σ H Q I hw
 rw [evalPart_some]
 refine thn (h pins s σ H _ I hw) fun u s1 ⟨x,H1,I1,r1,q1⟩=>?_
 obtain ⟨i,rfl,q⟩:=q1
 obtain ⟨t,rfl⟩:=r1
 exact ⟨some i,H1,I1,.int i t,q⟩
def SlR (X:Cx) (r:V→Option Int→Option Int→Hp→VK→Prop):Prop:=
 ∀(pins:List (Addr × Obj)) (s:Shared) (σ:St) (H:Hp) (x:V) (v vl vu:Value) (lo hi:Option Int) (sl:Addr) (Q:VK),Inv X pins σ H s→RelV x v→s.heap.IsSliceOf sl vl vu .none→IsPart vl lo→IsPart vu hi→r x lo hi H Q →
  ∃T id,typeLookup (.type T) "__getitem__"=pure (some (.builtin id))∧s.TypeIs v T∧wpAny (model X.prog X.w) X.A (getItem v (.ref sl)) (EP X pins σ Q) X.xe s
def tSl (r:V→Option Int→Option Int→Hp→VK→Prop) (te:TE) (tl th:TO):TE:=fun σ H Q=>te σ H fun x H1=>tl σ H1 fun l H2=>th σ H2 fun u H3=>r x l u H3 Q
theorem aP7 {r:V→Option Int→Option Int→Hp→VK→Prop} (hr:SlR X r) (he:PE X e te) (hl:PO X lo tl) (hu:PO X hi th):PE X (.Subscript e (.Slice lo hi none p2) pos) (tSl r te tl th):=by
 intro pins s σ H Q I h
 refine Subscript_ (thn (he pins s σ H _ I h) fun v s1 ⟨x,H1,I1,r1,q1⟩=>?_)
 refine wpAny_Slice (thn (hl pins s1 σ H1 _ I1 q1) fun vl s2 ⟨l,H2,I2,pl,q2⟩=>thn (hu pins s2 σ H2 _ I2 q2) fun vu s3 ⟨u,H3,I3,pu,q3⟩=>?_)
 rw [evalPart_none]
 refine wpAny_pure ?_
 have I4:Inv X pins σ H3 { s3 with heap:=s3.heap.push { cls:=.type "slice",data:=.fields #[vl,vu,.none] } }:=I3.kept (t':=s3.toks) fun b ob q=>Heap.get?_push_of_some _ q
 obtain ⟨T,id,hT,ht,hg⟩:=hr pins { s3 with heap:=s3.heap.push { cls:=.type "slice",data:=.fields #[vl,vu,.none] } } σ H3 x v vl vu l u s3.heap.objs.size Q I4 r1 (Heap.IsSliceOf.new ..) pl pu q3
 show wpAny (model X.prog X.w) X.A (subscriptTail e (.Slice lo hi none p2) v (.ref s3.heap.objs.size)) (EP X pins σ Q) X.xe { s3 with heap:=s3.heap.push { cls:=.type "slice",data:=.fields #[vl,vu,.none] } }
 exact tail_any (ops:=[.ref s3.heap.objs.size,v]) ht hT hg (by with_unfolding_all rfl)
def rK (xs:List V) (lo hi:Option Int):List V:=(xs.drop (HT.sIx xs.length 0 lo)).take (HT.sIx xs.length xs.length hi - HT.sIx xs.length 0 lo)
theorem yL (xs:List V) (lo hi:Option Int):(rK xs lo hi).length≤xs.length:=by
 unfold rK
 rw [List.length_take,List.length_drop]
 lia
def bAg (K:PySem.W.Frag):V→Option Int→Option Int→Hp→VK→Prop:=fun x lo hi H Q=>∃a xs,x=.ref a∧SqT K H a xs ∧
 ¬ (HT.sIx xs.length 0 lo=0∧HT.sIx xs.length xs.length hi=xs.length)∧∀p,H p=none→Q (.ref p) (upd H p (.tup (rK xs lo hi)))
theorem aWv:SlR X (bAg X.K):=by
 intro pins s σ H x v vl vu lo hi sl Q I rx hs pl pu h
 obtain ⟨a,xs,rfl,hx,hw,q⟩:=h
 cases rx
 obtain ⟨its,r,ht,hz⟩:=I.tuple hx
 have hlen:its.toArray.size=xs.length:=by rw [List.size_toArray];exact r.length.symm
 refine ⟨"tuple",_,PyProof.Rows.slot_tuple_getitem.lookup,ht.typeIs,?_⟩
 refine HT.vB ht hs pl pu (by rw [hlen];exact hw) ?_ (by rw [hlen];exact hz)
 rw [hlen]
 refine ⟨.ref s.heap.objs.size,_,I.laid (t':=s.toks) (o:=.tup (rK xs lo hi)) (fun b ob q=>Heap.get?_push_of_some _ q) (Nat.le_refl _) ?_,rfl,q _ (I.hok.fresh (Nat.le_refl _))⟩
 exact ⟨Nat.le_trans (yL xs lo hi) hz,_,(r.drop (HT.sIx xs.length 0 lo)).take (HT.sIx xs.length xs.length hi - HT.sIx xs.length 0 lo),zH.new _ _⟩
def aY3 (K:PySem.W.Frag):R2:=fun x y H Q=>∃a b xs ys,x=.ref a∧y=.ref b∧SqT K H a xs∧SqT K H b ys∧xs≠[]∧xs.length+ys.length≤sizeLine ∧
 (ys=[]→Q (.ref a) H)∧(ys≠[]→∀p,H p=none→Q (.ref p) (upd H p (.tup (xs++ys))))
theorem Vals.aEo {xs:List V} {us:List Value} (r:Vals xs us):us=[]↔xs=[]:=by
 cases r with
 |nil=>simp
 |cons _ _=>simp
theorem aTz:OpR X (binaryOp .Add) (aY3 X.K):=by
 intro pins s σ H x y v u Q I rx ry h
 obtain ⟨a,b,xs,ys,rfl,rfl,ha,hb,hx,hz,q1,q2⟩:=h
 cases rx
 cases ry
 obtain ⟨its,r1,p1,_⟩:=I.tuple ha
 obtain ⟨its2,r2,p2,_⟩:=I.tuple hb
 refine HT.aT1 p1 p2 (fun z=>hx (r1.aEo.mp z)) (fun z=>⟨.ref a,H,I,rfl,q1 (r2.aEo.mp z)⟩) (fun z=>?_) (by rw [←r1.length,←r2.length];exact hz)
 refine ⟨.ref s.heap.objs.size,_,I.laid (t':=s.toks) (o:=.tup (xs++ys)) (fun b ob q=>Heap.get?_push_of_some _ q) (Nat.le_refl _) ?_,rfl,q2 (fun w=>z (r2.aEo.mpr w)) _ (I.hok.fresh (Nat.le_refl _))⟩
 exact ⟨by rw [List.length_append];exact hz,_,r1.append r2,zH.new _ _⟩
end
def ixN (n:Nat) (i:Int):Option Nat:=if 0≤i then (if i<n then some i.toNat else none) else if -(n:Int)≤i then some (i+n).toNat else none
def atI {α:Type} (xs:List α) (i:Int):Option α:=(ixN xs.length i).bind fun j=>xs[j]?
theorem aM3 {n:Nat} {i:Int} {j:Nat} (h:ixN n i=some j):seqIndex? i n=some j∧j<n∧-(n:Int)≤i∧i<n:=by
 unfold ixN at h
 by_cases h0:0≤i
 ·rw [if_pos h0] at h
  by_cases h1:i<n
  ·rw [if_pos h1] at h
   have e:i.toNat=j:=Option.some.inj h
   exact ⟨by rw [seqIndex_of h0 h1,e],by lia,by lia,h1⟩
  ·rw [if_neg h1] at h;cases h
 ·rw [if_neg h0] at h
  by_cases h1:-(n:Int)≤i
  ·rw [if_pos h1] at h
   have e:(i+n).toNat=j:=Option.some.inj h
   exact ⟨by rw [seqIndex_neg (by lia) h1,e],by lia,h1,by lia⟩
  ·rw [if_neg h1] at h;cases h
theorem aMp {α:Type} {xs:List α} {i:Int} {v:α} (h:atI xs i=some v):∃j,seqIndex? i xs.length=some j∧xs[j]?=some v∧j<xs.length∧-(xs.length:Int)≤i∧i<xs.length:=by
 unfold atI at h
 cases e:ixN xs.length i with
 |none=>rw [e] at h;cases h
 |some j=>
  rw [e] at h
  obtain ⟨h1,h2,h3,h4⟩:=aM3 e
  exact ⟨j,h1,h,h2,h3,h4⟩
theorem dR {α:Type} {xs:List α} {j:Nat} {v:α} (h:xs[j]?=some v):atI xs (j:Int)=some v:=by
 have hj:j<xs.length:=(List.getElem?_eq_some_iff.mp h).1
 have e:ixN xs.length (j:Int)=some j:=by
  unfold ixN
  rw [if_pos (by lia),if_pos (by lia)];simp
 unfold atI;rw [e];exact h
def aMo (b:Expr):Prop:=∀o i,subscripted b false o i=operate [o,i] (getItem o i)
def IxR (X:Cx) (r:R2):Prop:=
 ∀(value slice:Expr) (pins:List (Addr × Obj)) (s:Shared) (σ:St) (H:Hp) (x y:V) (v u:Value) (Q:VK),Inv X pins σ H s→RelV x v→RelV y u→r x y H Q →
  subscripted slice false v u=operate [v,u] (getItem v u)→wpAny (model X.prog X.w) X.A (subscriptTail value slice v u) (EP X pins σ Q) X.xe s
def MtR (X:Cx) (id:String) (r:V→List V→Hp→VK→Prop):Prop:=
 ∀(pins:List (Addr × Obj)) (s:Shared) (σ:St) (H:Hp) (x:V) (xs:List V) (v:Value) (us:List Value) (Q:VK),Inv X pins σ H s→RelV x v→Vals xs us→r x xs H Q →
  wpAny (model X.prog X.w) X.A (call (.builtin id) (v::us)) (EP X pins σ Q) X.xe s
section
variable {X:Cx} {a b:Expr} {ta tb:TE} {pos:Pos}
theorem aYk {r:R2} (hr:IxR X r) (ha:PE X a ta) (hb:PE X b tb) (hs:aMo b):PE X (.Subscript a b pos) (tOp r ta tb):=by
 intro pins s σ H Q I h
 exact Subscript_ (aUh ha hb I h fun v u s2 x y H2 I2 rx ry q=>hr a b pins s2 σ H2 x y v u Q I2 rx ry q (hs _ _))
def aYi (K:PySem.W.Frag):R2:=fun x y H Q=>∃p xs i v,x=.ref p∧y=.int i∧SqL K H p xs∧atI xs i=some v∧Q v H
def aY4 (K:PySem.W.Frag):R2:=fun x y H Q=>∃p xs i v,x=.ref p∧y=.int i∧SqT K H p xs∧atI xs i=some v∧Q v H
theorem aX:IxR X (aYi X.K):=by
 intro value slice pins s σ H x y v u Q I rx ry h hs
 obtain ⟨p,xs,i,z,rfl,rfl,hq,he,q⟩:=h
 cases rx
 obtain ⟨t,rfl⟩:=ry
 obtain ⟨its,r,pl,hz⟩:=I.list hq
 obtain ⟨j,h1,h2,h3,h4,h5⟩:=aMp he
 obtain ⟨w,ew,rw'⟩:=r.get h2
 have hl:=r.length
 have hn:=uU
 have fin:EP X pins σ Q w s:=⟨z,H,I,rw',q⟩
 by_cases h0:0≤i
 ·have hj:i.toNat=j:=by
   rw [seqIndex_of h0 h5] at h1
   exact Option.some.inj h1
  exact item_listR pl.isList h0 (by lia) (by rw [hj];simpa using ew) fin hs
 ·have hj:(i+(its.toArray.size:Int)).toNat=j:=by
   rw [seqIndex_neg (by lia) h4] at h1
   rw [List.size_toArray,←hl]
   exact Option.some.inj h1
  exact subscriptTail_builtinR (x:=w) pl.isList.typeIs slot_list_getitem.lookup
   (wpAny_getItem_list_neg (Q:=fun r s'=>r=w∧EP X pins σ Q r s') pl.isList (by lia) (by rw [List.size_toArray] <;> lia) (by lia) (by rw [hj];simpa using ew) ⟨rfl,fin⟩) hs
theorem bH:IxR X (aY4 X.K):=by
 intro value slice pins s σ H x y v u Q I rx ry h hs
 obtain ⟨p,xs,i,z,rfl,rfl,hq,he,q⟩:=h
 cases rx
 obtain ⟨t,rfl⟩:=ry
 obtain ⟨its,r,pl,hz⟩:=I.tuple hq
 obtain ⟨j,h1,h2,h3,h4,h5⟩:=aMp he
 obtain ⟨w,ew,rw'⟩:=r.get h2
 have hl:=r.length
 have hn:=uU
 have fin:EP X pins σ Q w s:=⟨z,H,I,rw',q⟩
 exact subscriptTail_builtinR (x:=w) pl.typeIs slot_tuple_getitem.lookup
  (getItem_tuple (j:=j) (Q:=fun r s'=>r=w∧EP X pins σ Q r s') pl (by lia) (by lia) (by rw [List.size_toArray,←hl];exact h1) (by simpa using ew) ⟨rfl,fin⟩) hs
theorem aLu (its:List Value) (n j:Nat) (u:Value):Obj.mapSeq (·.setIfInBounds j u) { cls:=.type "list",data:=.seq its.toArray n }={ cls:=.type "list",data:=.seq (its.set j u).toArray n }:=by
 simp [Obj.mapSeq]
theorem Inv.lst {pins:List (Addr × Obj)} {σ:St} {H:Hp} {s:Shared} {p:Addr} {xs:List V} (I:Inv X pins σ H s) (h:H p=some (.lst xs)) :
  ∃(its:List Value) (n:Nat),Vals xs its∧s.heap.get? p=some { cls:=.type "list",data:=.seq its.toArray n }∧xs.length≤sizeLine:=by
 obtain ⟨z,its,n,r,e⟩:=I.hok p _ h
 exact ⟨its,n,r,e,z⟩
theorem Inv.aX3 {pins:List (Addr × Obj)} {σ:St} {H:Hp} {s:Shared} {p:Addr} {xs ys:List V} {its its':List Value} {n n':Nat} {f:Obj→Obj} (I:Inv X pins σ H s) (h:H p=some (.lst xs))
  (ho:s.heap.get? p=some { cls:=.type "list",data:=.seq its.toArray n }) (hf:f { cls:=.type "list",data:=.seq its.toArray n }={ cls:=.type "list",data:=.seq its'.toArray n' }) (r:Vals ys its') (hz:ys.length≤sizeLine) (t:Nat) :
  Inv X pins σ (upd H p (.lst ys)) { s with heap:=s.heap.update p f,toks:=t }:=by
 have e:(s.heap.update p f).get? p=some { cls:=.type "list",data:=.seq its'.toArray n' }:=by
  rw [Heap.get?_update_self f ho (by rw [hf] <;> rfl),hf]
 refine I.write (x:=p) (e:=p) (by rw [h];trivial) (.inl rfl) (fun b u hb q=>(Heap.get?_update_other _ _ (Ne.symm hb)).trans q) ⟨_,e⟩ ?_
 exact ⟨hz,its',n',r,e⟩
def aZs:V→V→V→Hp→(Hp→Prop)→Prop:=fun o i v H Q=>∃p xs k j,o=.ref p∧i=.int k∧H p=some (.lst xs)∧ixN xs.length k=some j∧Q (upd H p (.lst (xs.set j v)))
theorem set_list:aXt X aZs:=by
 intro pins s σ H o i v ov iv u Q I ro ri rv h
 obtain ⟨p,xs,k,j,rfl,rfl,hp,hj,q⟩:=h
 cases ro
 obtain ⟨t,rfl⟩:=ri
 obtain ⟨its,n,r,ho,hz⟩:=I.lst hp
 obtain ⟨h1,h2,h3,h4⟩:=aM3 hj
 have hl:=r.length
 have hn:=uU
 have I':Inv X pins σ (upd H p (.lst (xs.set j v))) { s with heap:=s.heap.update p (Obj.mapSeq (·.setIfInBounds j u)) }:=
  I.aX3 hp ho (aLu its n j u) (r.set rv j) (by rw [List.length_set];exact hz) s.toks
 by_cases h0:0≤k
 ·have hk:k.toNat=j:=by
   rw [seqIndex_of h0 h4] at h1
   exact Option.some.inj h1
  exact PySem.W.ki_setAt ho h0 (by lia) (by rw [List.size_toArray,←hl];exact h4) (by rw [hk];exact ⟨_,I',q⟩)
 ·have hk:(k+(its.toArray.size:Int)).toNat=j:=by
   rw [seqIndex_neg (by lia) h3] at h1
   rw [List.size_toArray,←hl]
   exact Option.some.inj h1
  exact PySem.W.ki_setBack ho (by lia) (by rw [List.size_toArray,←hl];exact h3) (by lia) (by rw [hk];exact ⟨_,I',q⟩)
theorem aF6 (lo hi:Option Int) (n:Nat):(sliceBounds lo hi none n).1=((HT.sIx n 0 lo:Nat):Int)∧(sliceBounds lo hi none n).2.1=((HT.sIx n n hi:Nat):Int)∧(sliceBounds lo hi none n).2.2=1:=by
 refine ⟨?_,?_,rfl⟩
 ·cases lo with
  |none=>simp [sliceBounds,HT.sIx]
  |some i=>
   simp only [sliceBounds,HT.sIx,Option.getD_none,show (1:Int) > 0 by decide,if_true]
   by_cases h:i<0
   ·simp only [h,if_true] <;> lia
   ·simp only [h,if_false] <;> lia
 ·cases hi with
  |none=>simp [sliceBounds,HT.sIx]
  |some i=>
   simp only [sliceBounds,HT.sIx,Option.getD_none,show (1:Int) > 0 by decide,if_true]
   by_cases h:i<0
   ·simp only [h,if_true] <;> lia
   ·simp only [h,if_false] <;> lia
theorem aB1 (its:List Value) (lo hi:Option Int):slicePick its.toArray lo hi none=((its.drop (HT.sIx its.length 0 lo)).take (HT.sIx its.length its.length hi - HT.sIx its.length 0 lo)).toArray:=by
 obtain ⟨h1,h2,h3⟩:=aF6 lo hi its.toArray.size
 unfold slicePick
 rw [h1,h2,h3]
 simp only [sliceRange_one,pick_run,List.size_toArray] <;> rfl
def aZ8 (K:PySem.W.Frag):V→Option Int→Option Int→Hp→VK→Prop:=fun x lo hi H Q=>∃a xs,x=.ref a∧SqL K H a xs∧∀p,H p=none→Q (.ref p) (upd H p (.lst (rK xs lo hi)))
theorem aUr:SlR X (aZ8 X.K):=by
 intro pins s σ H x v vl vu lo hi sl Q I rx hs pl pu h
 obtain ⟨a,xs,rfl,hx,q⟩:=h
 cases rx
 obtain ⟨its,r,ht,hz⟩:=I.list hx
 have hlen:=r.length
 refine ⟨"list",_,slot_list_getitem.lookup,ht.isList.typeIs,?_⟩
 refine wpAny_getItem_list_slice ht.isList hs pl pu .none (by simp) ?_ (by rw [List.size_toArray] <;> lia)
 rw [aB1,←hlen]
 refine ⟨.ref s.heap.objs.size,_,I.laid (t':=s.toks) (o:=.lst (rK xs lo hi)) (fun b ob q=>Heap.get?_push_of_some _ q) (Nat.le_refl _) ?_,rfl,q _ (I.hok.fresh (Nat.le_refl _))⟩
 exact ⟨Nat.le_trans (yL xs lo hi) hz,_,0,(r.drop (HT.sIx xs.length 0 lo)).take (HT.sIx xs.length xs.length hi - HT.sIx xs.length 0 lo),Heap.get?_push_size _ rfl⟩
def kW:V→Bool
 |.non=>true
 |.bl _=>true
 |.int _=>true
 |.str _=>true
 |_=>false
def eqV:V→V→Bool
 |.non,.non=>true
 |.bl a,.bl b=>a == b
 |.bl a,.int b=>(if a then 1 else 0) == b
 |.int a,.bl b=>a == (if b then 1 else 0)
 |.int a,.int b=>a == b
 |.str a,.str b=>a == b
 |_,_=>false
theorem aV4 {A:Around} {s:Shared} {y x:V} {u v:Value} (ry:RelV y u) (rx:RelV x v) (fy:kW y=true) (fx:kW x=true):SeqAt.EqAt A s u v (eqV y x):=by
 cases y with
 |non=>
  cases ry
  cases x with
  |non=>cases rx;exact SeqAt.EqAt.same _
  |bl b=>cases rx;exact SeqAt.EqAt.none_bool b
  |int b=>obtain ⟨t,rfl⟩:=rx;exact SeqAt.EqAt.none_int b t
  |str b=>obtain ⟨t,rfl⟩:=rx;exact SeqAt.EqAt.none_str b t
  |_=>exact absurd (show false=true from fx) Bool.false_ne_true
 |bl a=>
  cases ry
  cases x with
  |non=>cases rx;exact SeqAt.EqAt.bool_none a
  |bl b=>cases rx;exact SeqAt.EqAt.bool_bool a b
  |int b=>obtain ⟨t,rfl⟩:=rx;exact SeqAt.EqAt.bool_int a b t
  |str b=>obtain ⟨t,rfl⟩:=rx;exact SeqAt.EqAt.bool_str a b t
  |_=>exact absurd (show false=true from fx) Bool.false_ne_true
 |int a=>
  obtain ⟨t',rfl⟩:=ry
  cases x with
  |non=>cases rx;exact SeqAt.EqAt.int_none a t'
  |bl b=>cases rx;exact SeqAt.EqAt.int_bool a t' b
  |int b=>obtain ⟨t,rfl⟩:=rx;exact SeqAt.EqAt.int_int a t' b t
  |str b=>obtain ⟨t,rfl⟩:=rx;exact SeqAt.EqAt.int_str a t' b t
  |_=>exact absurd (show false=true from fx) Bool.false_ne_true
 |str a=>
  obtain ⟨t',rfl⟩:=ry
  cases x with
  |non=>cases rx;exact SeqAt.EqAt.str_none a t'
  |bl b=>cases rx;exact SeqAt.EqAt.str_bool a t' b
  |int b=>obtain ⟨t,rfl⟩:=rx;exact SeqAt.EqAt.str_int a t' b t
  |str b=>obtain ⟨t,rfl⟩:=rx;exact SeqAt.EqAt.str_str a t' b t
  |_=>exact absurd (show false=true from fx) Bool.false_ne_true
 |_=>exact absurd (show false=true from fy) Bool.false_ne_true
def eqU (x:V) (u:Value):Bool:=match u with
 |.none=>eqV .non x
 |.bool b=>eqV (.bl b) x
 |.int i _=>eqV (.int i) x
 |.str z _=>eqV (.str z) x
 |_=>false
theorem aSb {x y:V} {u:Value} (r:RelV y u) (f:kW y=true):eqU x u=eqV y x:=by
 cases y with
 |non=>cases r;rfl
 |bl b=>cases r;rfl
 |int i=>obtain ⟨t,rfl⟩:=r;rfl
 |str z=>obtain ⟨t,rfl⟩:=r;rfl
 |_=>exact absurd (show false=true from f) Bool.false_ne_true
theorem vU {x:V}:∀{xs:List V} {us:List Value},Vals xs us→xs.all kW=true→us.any (eqU x)=xs.any fun y=>eqV y x
 |_,_,.nil,_=>rfl
 |y::xs,u::us,.cons r t,f=>by
  rw [List.all_cons,Bool.and_eq_true] at f
  rw [List.any_cons,List.any_cons,aSb r f.1,vU t f.2]
theorem qL {A:Around} {s:Shared} {x:V} {v:Value} (rx:RelV x v) (fx:kW x=true):∀{xs:List V} {us:List Value},Vals xs us→xs.all kW=true→∀u∈us,SeqAt.EqAt A s u v (eqU x u)
 |_,_,.nil,_=>fun u hu=>by cases hu
 |y::xs,u::us,.cons r t,f=>fun u' hu=>by
  rw [List.all_cons,Bool.and_eq_true] at f
  rcases List.mem_cons.mp hu with rfl|hu
  ·rw [aSb r f.1];exact aV4 r rx f.1 fx
  ·exact qL rx fx t f.2 u' hu
def inV (x:V) (xs:List V):Bool:=xs.any fun y=>eqV y x
def rIn (K:PySem.W.Frag) (neg:Bool):R2:=fun x y H Q=>∃p xs,y=.ref p∧(SqL K H p xs∨SqT K H p xs)∧kW x=true∧xs.all kW=true∧Q (.bl (if neg then !inV x xs else inV x xs)) H
theorem aCr:OpR X (compareOp .In) (rIn X.K false):=by
 intro pins s σ H x y v u Q I rx ry h
 obtain ⟨p,xs,rfl,hq,fx,fs,q⟩:=h
 cases ry
 rcases hq with hq|hq
 ·obtain ⟨its,r,pl,hz⟩:=I.list hq
  refine SeqAt.in_listAt (eqU x) pl.isList (fun w hw=>qL rx fx r fs w (by simpa using hw)) ⟨.bl _,H,I,rfl,?_⟩
  rw [show its.toArray.any (eqU x)=its.any (eqU x) by simp,vU r fs]
  exact q
 ·obtain ⟨its,r,pl,hz⟩:=I.tuple hq
  refine SeqAt.in_tupleAt (eqU x) pl (fun w hw=>qL rx fx r fs w (by simpa using hw)) ⟨.bl _,H,I,rfl,?_⟩
  rw [show its.toArray.any (eqU x)=its.any (eqU x) by simp,vU r fs]
  exact q
theorem pZ:OpR X (compareOp .NotIn) (rIn X.K true):=by
 intro pins s σ H x y v u Q I rx ry h
 obtain ⟨p,xs,rfl,hq,fx,fs,q⟩:=h
 cases ry
 rcases hq with hq|hq
 ·obtain ⟨its,r,pl,hz⟩:=I.list hq
  refine SeqAt.notIn_listAt (eqU x) pl.isList (fun w hw=>qL rx fx r fs w (by simpa using hw)) ⟨.bl _,H,I,rfl,?_⟩
  rw [show its.toArray.any (eqU x)=its.any (eqU x) by simp,vU r fs]
  exact q
 ·obtain ⟨its,r,pl,hz⟩:=I.tuple hq
  refine SeqAt.notIn_tupleAt (eqU x) pl (fun w hw=>qL rx fx r fs w (by simpa using hw)) ⟨.bl _,H,I,rfl,?_⟩
  rw [show its.toArray.any (eqU x)=its.any (eqU x) by simp,vU r fs]
  exact q
theorem bC:cR X (.builtin "len") (fun xs H Q=>∃p ys,xs=[.ref p]∧(SqL X.K H p ys∨SqT X.K H p ys)∧Q (.int ys.length) H):=by
 intro pins s σ H xs us Q I r h
 obtain ⟨p,ys,rfl,hq,q⟩:=h
 obtain ⟨u,rfl,rx⟩:=vals1 r
 cases rx
 have hn:=uU
 rcases hq with hq|hq
 ·obtain ⟨its,r',pl,hz⟩:=I.list hq
  have hlen:=r'.length
  exact Calls.call_len_list pl.isList (by simp only [List.size_toArray] <;> lia) ⟨.int ys.length,H,I.tok _,⟨s.toks+1,by rw [List.size_toArray,hlen]⟩,q⟩
 ·obtain ⟨its,r',pl,hz⟩:=I.tuple hq
  have hlen:=r'.length
  exact len_tuple pl (by simp only [List.size_toArray] <;> lia) ⟨.int ys.length,H,I.tok _,⟨s.toks+1,by rw [List.size_toArray,hlen]⟩,q⟩
theorem vC:cR X (.builtin "len") (fun xs H Q=>∃z,xs=[.str z]∧z.length≤sizeLine∧Q (.int z.length) H):=by
 intro pins s σ H xs us Q I r h
 obtain ⟨z,rfl,hz,q⟩:=h
 obtain ⟨u,rfl,t,rfl⟩:=vals1 r
 have hn:=uU
 exact len_str (by lia) ⟨.int z.length,H,I.tok _,⟨_,rfl⟩,q⟩
theorem cR.or {f:Value} {r r':List V→Hp→VK→Prop} (h:cR X f r) (h':cR X f r'):cR X f (fun xs H Q=>r xs H Q∨r' xs H Q):=by
 intro pins s σ H xs us Q I rs q
 rcases q with q|q
 ·exact h pins s σ H xs us Q I rs q
 ·exact h' pins s σ H xs us Q I rs q
theorem aDn:cR X (.type "list") (fun xs H Q=>∃p ys,xs=[.ref p]∧(SqL X.K H p ys∨SqT X.K H p ys)∧∀l,H l=none→Q (.ref l) (upd H l (.lst ys))):=by
 intro pins s σ H xs us Q I r h
 obtain ⟨p,ys,rfl,hq,q⟩:=h
 obtain ⟨u,rfl,rx⟩:=vals1 r
 cases rx
 have fin:∀(its:List Value),Vals ys its→ys.length≤sizeLine→∀(h':Heap) (c':Nat),(∀b o',s.heap.get? b=some o'→h'.get? b=some o') →
   h'.get? s.heap.objs.size=some { cls:=.type "list",dict:=none,data:=.seq its.toArray c',slots:=#[] }→EP X pins σ Q (.ref s.heap.objs.size) { s with heap:=h' }:=fun its r' hz h' c' kp e=>
  ⟨.ref s.heap.objs.size,_,I.laid (t':=s.toks) kp (Nat.le_refl _) (show fU X.prog X.w _ h' _ (.lst ys) from ⟨hz,its,c',r',e⟩),rfl,q _ (I.hok.fresh (Nat.le_refl _))⟩
 rcases hq with hq|hq
 ·obtain ⟨its,r',pl,hz⟩:=I.list hq
  have hlen:=r'.length
  obtain ⟨o,ho,hc,n,hd⟩:=pl.isList
  exact call_list_seq p (.inl rfl) ho hc hd (fun h' c' kp e=>fin its r' hz h' c' kp e) (by simp only [List.size_toArray] <;> lia)
 ·obtain ⟨its,r',pl,hz⟩:=I.tuple hq
  have hlen:=r'.length
  obtain ⟨o,ho,hc,n,hd⟩:=pl
  exact call_list_seq p (.inr rfl) ho hc hd (fun h' c' kp e=>fin its r' hz h' c' kp e) (by simp only [List.size_toArray] <;> lia)
theorem aBv:cR X (.type "tuple") (fun xs H Q=>∃p ys,xs=[.ref p]∧((SqL X.K H p ys∧∀l,H l=none→Q (.ref l) (upd H l (.tup ys)))∨(SqT X.K H p ys∧Q (.ref p) H))):=by
 intro pins s σ H xs us Q I r h
 obtain ⟨p,ys,rfl,h⟩:=h
 obtain ⟨u,rfl,rx⟩:=vals1 r
 cases rx
 rcases h with ⟨hq,q⟩|⟨hq,q⟩
 ·obtain ⟨its,r',pl,hz⟩:=I.list hq
  have hlen:=r'.length
  refine call_tuple_list pl.isList (fun h' kp=>?_) (by simp only [List.size_toArray] <;> lia)
  have I1:Inv X pins σ H { s with heap:=h' }:=I.kept (t':=s.toks) kp
  have I2:Inv X pins σ (upd H h'.objs.size (.tup ys)) { s with heap:=h'.push { cls:=.type "tuple",data:=.seq its.toArray } }:=
   I1.laid (t':=s.toks) (fun b o e=>Heap.get?_push_of_some _ e) (Nat.le_refl _) (show fU X.prog X.w _ _ _ (.tup ys) from ⟨hz,its,r',zH.new _ _⟩)
  exact ⟨.ref h'.objs.size,_,I2,rfl,q _ (I1.hok.fresh (Nat.le_refl _))⟩
 ·obtain ⟨its,r',pl,hz⟩:=I.tuple hq
  exact call_tuple_same pl ⟨.ref p,H,I,rfl,q⟩
def tyV (K:PySem.W.Frag) (T:String) (x:V) (H:Hp):Prop:=match x with
 |.str _=>T = "str"
 |.int _=>T = "int"
 |.ref p=>(T = "list"∧∃xs,SqL K H p xs)∨(T = "tuple"∧∃o,K.lookup p=some o∧o.cls=.type "tuple"∧o.dict=none) ∨
   (T = "dict"∧((∃kvs,H p=some (.dK kvs))∨∃kvs,H p=some (.dT kvs)))∨(T = "set"∧∃S n,H p=some (.set S n))
 |_=>False
theorem aQj {pins:List (Addr × Obj)} {σ:St} {H:Hp} {s:Shared} {T:String} {x:V} {v:Value} (I:Inv X pins σ H s) (r:RelV x v) (ty:tyV X.K T x H) :
  s.TypeIs v T∧∀a,v=.ref a→∃ob,s.heap.get? a=some ob∧ob.dict=none:=by
 cases x with
 |str z=>
  obtain ⟨t,rfl⟩:=r
  cases (show T = "str" from ty)
  exact ⟨typeIs_str s z t,fun _ e=>nomatch e⟩
 |int i=>
  obtain ⟨t,rfl⟩:=r
  cases (show T = "int" from ty)
  exact ⟨typeIs_int s i t,fun _ e=>nomatch e⟩
 |ref p=>
  cases r
  rcases ty with ⟨rfl,xs,hq⟩|⟨rfl,o,hk,hc,hd⟩|⟨rfl,hk⟩|⟨rfl,S,n,hk⟩
  ·obtain ⟨its,_,pl,_⟩:=I.list hq
   refine ⟨pl.isList.typeIs,fun a e=>?_⟩
   cases e
   obtain ⟨o,n,e,c,hd,_⟩:=pl
   exact ⟨o,e,hd⟩
  ·refine ⟨⟨o,I.kIn p o hk,hc⟩,fun a e=>?_⟩
   cases e
   exact ⟨o,I.kIn _ o hk,hd⟩
  ·have z:∃o,s.heap.get? p=some o∧o.ExactDict:=by
    rcases hk with ⟨kvs,hk⟩|⟨kvs,hk⟩
    ·obtain ⟨_,_,_,_,o,_,_,e,ex,_⟩:=I.hok p _ hk
     exact ⟨o,e,ex⟩
    ·obtain ⟨_,_,_,_,o,_,_,e,ex,_⟩:=I.hok p _ hk
     exact ⟨o,e,ex⟩
   obtain ⟨o,e,ex⟩:=z
   refine ⟨⟨o,e,ex.1⟩,fun a e2=>?_⟩
   cases e2
   exact ⟨o,e,ex.2.1⟩
  ·obtain ⟨o,_,_,_,e,ex,_⟩:=I.hok p _ hk
   refine ⟨⟨o,e,ex.1⟩,fun a e2=>?_⟩
   cases e2
   exact ⟨o,e,ex.2.1⟩
 |_=>exact False.elim ty
def aYz (K:PySem.W.Frag) (T:String) (r:V→List V→Hp→VK→Prop) (to:TE):TE:=fun σ H Q=>to σ H fun x H1=>tyV K T x H1∧r x [] H1 Q
def tBM (K:PySem.W.Frag) (T:String) (r:V→List V→Hp→VK→Prop) (to:TE) (t:TA):TE:=fun σ H Q=>to σ H fun x H1=>tyV K T x H1∧t σ H1 fun xs H2=>r x xs H2 Q
variable {o e:Expr} {es:List Expr} {to:TE} {t:TA} {name:Str} {apos cpos:Pos} {T id:String} {r:V→List V→Hp→VK→Prop}
theorem aX2 (pa:PlainAttrs T) (slot:Slot T name id) (hty:typeOf (.builtin id)=pure (.type "method_descriptor")) (hm:MtR X id r) (ho:PE X o to)
  (hbase:attributeBase o name X.env (eval o X.env)=eval o X.env:=by rfl) (hline:(apos.endLine == cpos.line)=true:=by rfl):PE X (.Call (.Attribute o name apos) [] [] cpos) (aYz X.K T r to):=by
 intro pins s σ H Q I h
 refine wpAny_Call_method0_late hbase hline (thn (ho pins s σ H _ I h) fun v s1 ⟨x,H1,I1,r1,ty,q1⟩=>?_)
 obtain ⟨h1,h2⟩:=aQj I1 r1 ty
 exact ⟨T,id,pa,slot,hty,h1,h2,Calls.callWith_builtin rfl (PySem.evalArgs_none (hm pins s1 σ H1 x [] v [] Q I1 r1 .nil q1))⟩
theorem aZb (pa:PlainAttrs T) (slot:Slot T name id) (hty:typeOf (.builtin id)=pure (.type "method_descriptor")) (hm:MtR X id r) (ho:PE X o to) (ha:PA X (e::es) t)
  (hbase:attributeBase o name X.env (eval o X.env)=eval o X.env:=by rfl)
  (hfew:((backTo cpos (starEach (e::es) X.env)).all (fun x=>!x.1) && (backToKw cpos (keywordEach [] X.env)).all (fun x=>x.1.isSome)
   && decide ((e::es).length+([]:List Keyword).length+(if ([]:List Keyword).isEmpty then 0 else 1)<30))=true:=by rfl)
  (hline:(apos.endLine == cpos.line)=true:=by rfl) (hs:starEach (e::es) X.env=(false,eval e X.env)::starEach es X.env:=by rfl) (hplain:(backTo cpos (starEach es X.env)).any (·.1)=false:=by rfl) :
  PE X (.Call (.Attribute o name apos) (e::es) [] cpos) (tBM X.K T r to t):=by
 intro pins s σ H Q I h
 refine wpAny_Call_method_late hbase hfew hline rfl (thn (ho pins s σ H _ I h) fun v s1 ⟨x,H1,I1,r1,ty,q1⟩=>?_)
 obtain ⟨h1,h2⟩:=aQj I1 r1 ty
 refine ⟨T,id,pa,slot,hty,h1,h2,?_⟩
 have hA:=ha cpos pins s1 σ H1 _ I1 q1
 rw [hs] at hA ⊢
 refine Calls.callWith_builtin (by show (false || (backTo cpos (starEach es X.env)).any (·.1))=false;rw [hplain] <;> rfl) (Calls.evalArgs_plain ?_)
 exact thn hA fun us s2 ⟨vs,H2,I2,r2,q2⟩=>hm pins s2 σ H2 x vs v us Q I2 r1 r2 q2
end
def MtM (X:Cx) (id:String) (r:V→List V→Hp→VK→Prop):Prop:=
 ∀(pins:List (Addr × Obj)) (s:Shared) (σ:St) (H:Hp) (x:V) (xs:List V) (v:Value) (us:List Value) (Q:VK),Inv X pins σ H s→RelV x v→Vals xs us→r x xs H Q →
  wpAny (model X.prog X.w) X.A (call (.builtin id) (v::us)) (EP X pins σ Q) X.xe s
theorem Vals.one:∀{x:V} {us:List Value},Vals [x] us→∃u,us=[u]∧RelV x u
 |_,_,.cons r .nil=>⟨_,rfl,r⟩
theorem Vals.two:∀{x y:V} {us:List Value},Vals [x,y] us→∃u v,us=[u,v]∧RelV x u∧RelV y v
 |_,_,_,.cons r (.cons q .nil)=>⟨_,_,rfl,r,q⟩
theorem Vals.zero:∀{us:List Value},Vals [] us→us=[]
 |_,.nil=>rfl
theorem Vals.dropLast {xs:List V} {us:List Value} (h:Vals xs us):Vals xs.dropLast us.dropLast:=by
 induction h with
 |nil=>exact .nil
 |cons r t ih=>
  cases t with
  |nil=>exact .nil
  |cons q t'=>exact .cons r ih
theorem Vals.reverse {xs:List V} {us:List Value} (h:Vals xs us):Vals xs.reverse us.reverse:=by
 induction h with
 |nil=>exact .nil
 |cons r t ih=>rw [List.reverse_cons,List.reverse_cons];exact Vals.append ih (.cons r .nil)
theorem aJs {α:Type} (l:List α):l.eraseIdx (l.length - 1)=l.dropLast:=by
 induction l with
 |nil=>rfl
 |cons a r ih=>
  cases r with
  |nil=>rfl
  |cons b r=>
   have e:(a::b::r).length - 1=((b::r).length - 1)+1:=by
    have h1:(a::b::r).length=r.length+2:=rfl
    have h2:(b::r).length=r.length+1:=rfl
    lia
   rw [e,List.eraseIdx_cons_succ,ih]
   all_goals rfl
section
variable {X:Cx} {pins:List (Addr × Obj)} {σ:St} {H:Hp} {s:Shared} {l b:Addr} {xs ys zs:List V}
theorem Inv.lset {its its':List Value} {n:Nat} {f:Array Value→Array Value} {t':Nat} (I:Inv X pins σ H s) (hH:H l=some (.lst xs))
  (e:s.heap.get? l=some { cls:=.type "list",data:=.seq its.toArray n }) (hf:f its.toArray=its'.toArray) (hv:Vals ys its') (hz:ys.length≤sizeLine) :
  Inv X pins σ (upd H l (.lst ys)) { s with heap:=s.heap.update l (Obj.mapSeq f),toks:=t' }:=by
 have q:=PySem.IsL.update e f
 rw [hf] at q
 refine I.write (x:=l) (e:=l) (by rw [hH];exact trivial) (.inl rfl) (fun b' u hb hu=>(Heap.get?_update_other s.heap (Obj.mapSeq f) (Ne.symm hb)).trans hu) ⟨_,q⟩ ?_
 exact ⟨hz,its',_,hv,q⟩
theorem Inv.lnew {its:List Value} {t':Nat} (I:Inv X pins σ H s) (hv:Vals ys its) (hz:ys.length≤sizeLine) :
  Inv X pins σ (upd H s.heap.objs.size (.lst ys)) { s with heap:=s.heap.push { cls:=.type "list",data:=.seq its.toArray },toks:=t' }:=
 I.laid (fun _ _ q=>Heap.get?_push_of_some _ q) (Nat.le_refl _) ⟨hz,its,0,hv,Heap.get?_push_size _ rfl⟩
theorem Inv.fresh (I:Inv X pins σ H s):H s.heap.objs.size=none:=I.hok.fresh (Nat.le_refl _)
theorem Inv.aKo (I:Inv X pins σ H s) (hH:H l=some (.lst xs)):xs.length≤sizeLine∧∃(its:List Value) (n:Nat),Vals xs its∧xs.length=its.length∧s.heap.get? l=some { cls:=.type "list",data:=.seq its.toArray n }:=by
 obtain ⟨z,its,n,r,e⟩:=I.hok l _ hH
 exact ⟨z,its,n,r,r.length,e⟩
theorem aRl {n:Nat} (h:n≤sizeLine):Builtin.List.listTooLong n=false:=by
 unfold Builtin.List.listTooLong
 exact decide_eq_false (by lia)
end
section
variable {X:Cx}
def aM6:V→List V→Hp→VK→Prop:=fun x vs H Q=>∃l xs y,x=.ref l∧vs=[y]∧H l=some (.lst xs)∧xs.length<sizeLine∧Q .non (upd H l (.lst (xs++[y])))
theorem wQ:MtM X "list.append" aM6:=by
 intro pins s σ H x vs v us Q I rx rv h
 obtain ⟨l,xs,y,rfl,rfl,hH,hz,q⟩:=h
 cases rx
 obtain ⟨u,rfl,ru⟩:=rv.one
 obtain ⟨z,its,n,r,hl,e⟩:=I.aKo hH
 refine call_meets F.slot_list_append ⟨_,e,rfl⟩ F.entry_list_append (F.args_list_append_2 _ _) (PySem.list_append l its.toArray n u (by rw [List.size_toArray];lia)) ⟨e,?_⟩
 refine ⟨.non,_,I.lset (its':=its++[u]) hH e (by simp) (r.append (.cons ru .nil)) ?_,rfl,q⟩
 rw [List.length_append,List.length_singleton]
 lia
def aM0:V→List V→Hp→VK→Prop:=fun x vs H Q=>∃l b xs zs,x=.ref l∧vs=[.ref b]∧H l=some (.lst xs)∧H b=some (.lst zs)∧xs.length+zs.length≤sizeLine∧Q .non (upd H l (.lst (xs++zs)))
theorem aN0:MtM X "list.extend" aM0:=by
 intro pins s σ H x vs v us Q I rx rv h
 obtain ⟨l,b,xs,zs,rfl,rfl,hH,hB,hz,q⟩:=h
 cases rx
 obtain ⟨u,rfl,ru⟩:=rv.one
 cases ru
 obtain ⟨z,its,n,r,hl,e⟩:=I.aKo hH
 obtain ⟨z2,its2,n2,r2,hl2,e2⟩:=I.aKo hB
 have hsz:its.toArray.size+its2.toArray.size≤sizeLine:=by rw [List.size_toArray,List.size_toArray];lia
 have hlong:¬ (!its.toArray.isEmpty && Builtin.List.listTooLong (its.toArray.size+its2.toArray.size))=true:=by
  rw [aRl hsz,Bool.and_false]
  exact Bool.false_ne_true
 refine call_meets F.slot_list_extend ⟨_,e,rfl⟩ F.entry_list_extend (F.args_list_extend_2 _ _)
  (AutoSeq1.list_extend_list_list_0 l its.toArray n b its2.toArray n2 hlong (by rw [List.size_toArray];lia) (by lia)) ⟨e,e2,?_⟩
 refine ⟨.non,_,I.lset (its':=its++its2) hH e (by simp) (r.append r2) ?_,rfl,q⟩
 rw [List.length_append]
 lia
def aZe:V→List V→Hp→VK→Prop:=fun x vs H Q=>∃l xs y,x=.ref l∧vs=[]∧H l=some (.lst xs)∧xs[xs.length - 1]?=some y∧Q y (upd H l (.lst xs.dropLast))
theorem aXd:MtM X "list.pop" aZe:=by
 intro pins s σ H x vs v us Q I rx rv h
 obtain ⟨l,xs,y,rfl,rfl,hH,hy,q⟩:=h
 cases rx
 have hus:=rv.zero
 subst hus
 obtain ⟨z,its,n,r,hl,e⟩:=I.aKo hH
 obtain ⟨u,hu,ru⟩:=r.get hy
 have hy':its.toArray[its.toArray.size - 1]?=some u:=by
  show its.toArray[its.length - 1]?=some u
  rw [←Array.getElem?_toList,←hl]
  exact hu
 refine call_meets F.slot_list_pop ⟨_,e,rfl⟩ F.entry_list_pop (F.args_list_pop_1 _) (MeetsSeq.list_pop_last l its.toArray n u hy' (by rw [List.size_toArray];lia)) ⟨e,?_⟩
 refine ⟨y,_,I.lset (its':=its.dropLast) hH e ?_ r.dropLast ?_,ru,q⟩
 ·show its.toArray.eraseIdxIfInBounds (its.toArray.size - 1)=its.dropLast.toArray
  rw [List.size_toArray,List.eraseIdxIfInBounds_toArray,aJs]
 ·rw [List.length_dropLast]
  lia
def aHi:V→List V→Hp→VK→Prop:=fun x vs H Q=>∃l xs,x=.ref l∧vs=[]∧H l=some (.lst xs)∧Q .non (upd H l (.lst xs.reverse))
theorem aLa:MtM X "list.reverse" aHi:=by
 intro pins s σ H x vs v us Q I rx rv h
 obtain ⟨l,xs,rfl,rfl,hH,q⟩:=h
 cases rx
 have hus:=rv.zero
 subst hus
 obtain ⟨z,its,n,r,hl,e⟩:=I.aKo hH
 refine call_meets F.slot_list_reverse ⟨_,e,rfl⟩ F.entry_list_reverse (F.args_list_reverse_1 _) (AutoSeq1.list_reverse_list_0 l its.toArray n (by rw [List.size_toArray];lia)) ⟨e,?_⟩
 refine ⟨.non,_,I.lset (its':=its.reverse) hH e (by simp) r.reverse ?_,rfl,q⟩
 rw [List.length_reverse]
 lia
def bAh:R2:=fun x y H Q=>∃l b xs zs,x=.ref l∧y=.ref b∧H l=some (.lst xs)∧H b=some (.lst zs)∧xs.length+zs.length≤sizeLine∧∀p,H p=none→Q (.ref p) (upd H p (.lst (xs++zs)))
theorem aXm:OpR X (binaryOp .Add) bAh:=by
 intro pins s σ H x y v u Q I rx ry h
 obtain ⟨l,b,xs,zs,rfl,rfl,hH,hB,hz,q⟩:=h
 cases rx
 cases ry
 obtain ⟨z,its,n,r,hl,e⟩:=I.aKo hH
 obtain ⟨z2,its2,n2,r2,hl2,e2⟩:=I.aKo hB
 refine PySem.P.add_list e e2 ?_ (by rw [List.size_toArray,List.size_toArray];lia)
 have ea:its.toArray++its2.toArray=(its++its2).toArray:=by simp
 rw [ea]
 exact ⟨.ref _,_,I.lnew (t':=s.toks) (r.append r2) (by rw [List.length_append];lia),rfl,q _ I.fresh⟩
end
section
variable {prog:Program} {w:World} {A:Around} {E:Value→Shared→Prop} {s:Shared}
end
section
variable {X:Cx}
end
end L2
namespace Att
open PySem PySem.W PySem.Calls PyProof.Rows
theorem zJ {P:Params} {h:Heap}:∀(ns:List Int) (vs:List Value),WellAll P h vs (ns.map WData.int)→IntsAre vs ns:=by
 intro ns
 induction ns with
 |nil=>
  intro vs w
  rw [List.map_nil] at w
  cases w
  exact .nil
 |cons n ns ih=>
  intro vs w
  rw [List.map_cons] at w
  cases w with
  |cons a b=>
   cases a
   exact .cons _ _ (ih _ b)
theorem aO6 {l:OpenLaw} {n:Nat} (hn:l.most=some n) {P:Params} {h:Heap} {args:List WData} {vals:List Value}
  (hpre:l.row.toRowW.claim.pre args=true) (hwl:WellAll P h vals args) :
  ∃a vs ns,vals=[Value.ref a]∧args=[WData.list (ns.map WData.int)]∧h.get? a=some { cls:=.type "list",data:=.seq vs.toArray }∧IntsAre vs ns∧ns.length≤n:=by
 have hsh:WShape.hasAll [] args [.list .int]=true:=(pre_splitW hpre).1
 have hc:l.pre.holds [] { args:=args }=true:=(pre_splitW hpre).2
 obtain ⟨d,r,rfl,h1,h2⟩:=hasAllW_cons hsh
 obtain rfl:=hasAllW_nil h2
 obtain ⟨xs,rfl,h3⟩:=hasW_list h1
 obtain ⟨ns,rfl⟩:=items_int h3
 have hlen:ns.length≤n:=by
  unfold OpenLaw.pre at hc
  have h4:(WTm.not (.lt (.lit (.int (n:Int))) (.len (.arg 0)))).holds [] { args:=[.list (ns.map .int)] }=true:=by
   have h4:=(holds_andW hc).1
   rw [hn] at h4
   exact h4
  have h5:=condW_of h4 (w_not (w_lt w_lit (w_len_list (w_arg rfl))))
  rw [List.length_map] at h5
  refine Nat.le_of_not_lt fun q=>?_
  have q':(n:Int)<((ns.length:Nat):Int):=by lia
  first
   |(rw [decide_eq_true q'] at h5;exact absurd h5 (by decide))
   |(simp at h5;lia)
 cases hwl with
 |cons w1 w2=>
  cases w2
  cases w1 with
  |list ho hall=>exact ⟨_,_,ns,rfl,rfl,ho,zJ ns _ hall,hlen⟩
theorem aOg (l:OpenLaw) (args:List WData):l.row.toRowW.claim.post args (.bool true) args=true:=
 postW_of (r:=l.row.toRowW) (X:=(true == true))
  (show WShape.has [] (.bool true) .bool=true by first|rfl|decide|simp [WShape.has,WShape.arms,WShape.armsAll])
  (show (WTm.eq .res (.lit (.bool true))).value [] { args:=args,res:=some (.bool true),after:=args }=some (.bool (true == true)) from w_eq_bool (w_res rfl) w_lit) rfl
theorem aH4 {l:OpenLaw} {n:Nat} {q:Program} {loose:List Str} {XP:(Str→Option Value)→Heap→Prop} {YP:World→Heap→Prop} {d:DefRec}
  (hn:l.most=some n) (hdf:d.params.defaults=[])
  (call:∀(w:World) (s₀ s₁:Shared) (mg mb:Str→Option Value) (fa:Addr) (o:Obj) (pm cd doc:Value) (a:Addr) (vs:List Value) (ns:List Int),
   Ground q loose [] XP w s₀ mg mb s₁.heap→YP w s₁.heap →
   s₁.heap.get? fa=some o→o.data=.func (docDef d.name d.params d.body d.scope pm cd doc)→s₁.heap.CodeRec cd d.name→mg d.name=some (.ref fa) →
   s₁.heap.get? a=some { cls:=.type "list",data:=.seq vs.toArray }→IntsAre vs ns→ns.length≤n→s₁.gens=#[] →
   codeAny (model l.prog w) callerA (.call (.ref fa) ⟨[.ref a],[]⟩) (fun r s'=>r=.ok (.ret (.bool true))∧OldK s₁.heap s'.heap∧s'.os=s₁.os∧AllBare s'.gens) s₁) :
  WalkO q loose XP YP l.row.toRowW d [] (fun f vs=>PySem.call f vs):=by
 intro w s₀ s₁ mg mb G Y fa o pm cd doc dV kV ho hd hcd hD hmg hg args vals as hpre hlay hrd hwl hlo
 obtain rfl:dV=.none:=Dflts.none hD hdf
 obtain rfl:kV=.none:=Dflts.noKw hD
 obtain ⟨a,vs,ns,rfl,rfl,hobj,hints,hlen⟩:=aO6 hn hpre hwl
 refine enter_call (codeAny_mono (call w s₀ s₁ mg mb fa o pm cd doc a vs ns G Y ho (fd_plain hd) hcd hmg hobj hints hlen hg) fun r s' hq=>?_)
 obtain ⟨rfl,h2,h3,h4⟩:=hq
 exact ⟨.inl ⟨.bool true,.bool true,[],rfl,fun _=>rfl,.bool true,aOg l _,fun _=>⟨List.Pairwise.nil,fun _ hm=>(nomatch hm)⟩⟩,h2,h3,h4⟩
section
variable {prog:Program} {w:World} {A:Around} {E:Value→Shared→Prop} {s:Shared} {K:Frag}
end
end Att
namespace L2
open PySem PySem.Spec PyProof.Rows
theorem aC3:∀{vs:List Value} {ns:List Int},IntsAre vs ns→Vals (ns.map V.int) vs
 |_,_,.nil=>.nil
 |_,_,.cons n t h=>.cons ⟨t,rfl⟩ (aC3 h)
def Only (H:Hp):Prop:=∀b,H b=none∨∃o xs,H b=some (.frz o (.lst xs))
theorem aPq {P:Program} {w:World} {K:PySem.W.Frag} {mg mb:Str→Option Value} {CX:CXT} {k:Nat} {fa a:Addr} {fd:FuncData} {x:Str} {sp:Sp} {s₁:Shared} {vs:List Value} {ns:List Int}
  (KX:K.In s₁.heap) (hns:s₁.heap.Ns mainGlobals mg) (hb:s₁.heap.Ns builtinsNs mb) (hbb:∀x:Str,x≠"__name__"→mb x=bootBuiltins x) (hlim:s₁.heap.NoLimit) (hg:s₁.gens=#[])
  (ha:s₁.heap.get? a=some { cls:=.type "list",data:=.seq vs.toArray }) (hi:IntsAre vs ns) (hl:ns.length≤sizeLine) (hr:Room k callerA)
  (F:∀base:Heap,K.In base→base.Ns mainGlobals mg→pJ P w K mg base CX k fa fd [x] sp) (hbind:∀(s:Shared) (u:Value),BindsTo s fd ⟨[u],[]⟩ [(x,u)])
  (hsp:∀H:Hp,Only H→SqL K H a (ns.map V.int)→sp [.ref a] H (fun v _=>v=.bl true) fun _ _ _=>False)
  (hCX:∀H e s',CX [] H s₁ (fun _ _ _=>False) e s'→False) :
  codeAny (model P w) callerA (.call (.ref fa) ⟨[.ref a],[]⟩) (fun r s'=>r=.ok (.ret (.bool true))∧OldK s₁.heap s'.heap∧s'.os=s₁.os∧AllBare s'.gens) s₁:=by
 have rv:=aC3 hi
 have lenV:=hi.length
 have core:∀H:Hp,Only H→SqL K H a (ns.map V.int)→HOk P w H s₁.heap→(∀b,H b≠none→b=a)→(H a≠none→K.lookup a=none) →
   codeAny (model P w) callerA (.call (.ref fa) ⟨[.ref a],[]⟩) (fun r s'=>r=.ok (.ret (.bool true))∧OldK s₁.heap s'.heap∧s'.os=s₁.os∧AllBare s'.gens) s₁:=by
  intro H hO hS hok hA hK
  have base_of:∀{b:Addr} {o:Obj},s₁.heap.get? b=some o→H b=none→(aFa s₁.heap H).get? b=some o:=fun e n=>aP2 e n
  have noA:∀{b:Addr} {o:Obj} {es:Array DictEntry} {ep:Nat},s₁.heap.get? b=some o→o.data=.dict es ep→H b=none:=fun {b o es ep} e d=>by
   cases q:H b with
   |none=>rfl
   |some u=>
    have e':b=a:=hA b (by rw [q];simp)
    subst e'
    rw [ha] at e;cases e
    have d':Data.seq vs.toArray _=Data.dict es ep:=d
    cases d'
  have nsK:∀{b:Addr} {m:Str→Option Value},s₁.heap.Ns b m→(aFa s₁.heap H).Ns b m:=fun {b m} ⟨o,es,ep,e,d,r⟩=>⟨o,es,ep,base_of e (noA e d),d,r⟩
  have hKb:K.In (aFa s₁.heap H):=fun b o e=>base_of (KX b o e) (by
   cases q:H b with
   |none=>rfl
   |some u=>
    have e':b=a:=hA b (by rw [q];simp)
    subst e'
    rw [hK (by rw [q];simp)] at e;cases e)
  have hM:Mod K mg (aFa s₁.heap H):=⟨hKb,nsK hns,⟨mb,nsK hb,hbb⟩,let ⟨mc,h1,h2⟩:=hlim;⟨mc,nsK h1,h2⟩⟩
  have e0:aTb P w K mg (aFa s₁.heap H) callerA [] s₁ H:=⟨rfl,hM,fun b o e=>aT9 e,Nat.le_of_eq (aO1 _ _),trivial,fun b hb=>absurd (show b∈([]:List Addr) from hb) (by simp),hok,.of_eq hg⟩
  refine codeAny_mono ((F _ hKb (nsK hns)).run callerA [] s₁ H ⟨[.ref a],[]⟩ [.ref a] [.ref a] _ _ hr e0 (hbind s₁ (.ref a)) (.cons rfl .nil) (hsp H hO hS)) fun r s' h=>?_
  cases r with
  |error e=>exact (hCX H e s' h).elim
  |ok fl=>
   cases fl with
   |next=>exact False.elim h
   |brk=>exact False.elim h
   |cont=>exact False.elim h
   |ret u=>
    obtain ⟨v,H',os,bare,un,hok',r',q⟩:=h
    have q':v=.bl true:=q
    subst q'
    obtain rfl:u=Value.bool true:=r'
    refine ⟨rfl,OldK.of_keep fun b o e=>?_,os,bare⟩
    cases q:H b with
    |none=>exact un.keep b o e q (by intro z;exact absurd (show b∈([]:List Addr) from z) (by simp)) (by simp)
    |some u=>
     rcases hO b with z|⟨ob,xs,z⟩
     ·rw [q] at z;cases z
     ·have z2:=un.frzs b ob _ z
      obtain ⟨e1,_⟩:=hok b _ z
      obtain ⟨e2,_⟩:=hok' b _ z2
      rw [e] at e1;cases e1
      exact e2
 cases hk:K.lookup a with
 |some o=>
  have e:=KX a o hk
  rw [ha] at e
  cases e
  refine core (fun _=>none) (fun _=>.inl rfl) (.inr ⟨_,vs.toArray,_,hk,rfl,rfl,rfl,by rw [List.size_toArray,lenV];exact hl,by simpa using rv⟩) (fun b u z=>by have z':(none:Option HO)=some u:=z;cases z') (fun b z=>absurd rfl z) fun z=>absurd rfl z
 |none=>
  refine core (fun b=>if b=a then some (.frz { cls:=.type "list",data:=.seq vs.toArray } (.lst (ns.map V.int))) else none) (fun b=>?_) (.inl (.inr ⟨{ cls:=.type "list",data:=.seq vs.toArray },if_pos rfl⟩)) (fun b u z=>?_) (fun b z=>?_) fun _=>hk
  ·by_cases hb:b=a
   ·exact .inr ⟨_,_,if_pos hb⟩
   ·exact .inl (if_neg hb)
  ·by_cases hb:b=a
   ·have z':=(if_pos hb).symm.trans z
    cases z'
    subst hb
    exact ⟨ha,by rw [List.length_map];exact hl,vs,_,rv,ha⟩
   ·have z':=(if_neg hb).symm.trans z
    cases z'
  ·by_cases hb:b=a
   ·exact hb
   ·exact absurd (if_neg hb) z
abbrev KOf {K:PySem.W.Frag} {h:Heap} (_:K.In h):PySem.W.Frag:=K
theorem aS5 {l:PySem.W.OpenLaw} {n k:Nat} {q:Program} {loose:List Str} {XP:(Str→Option Value)→Heap→Prop} {YP:World→Heap→Prop} {d:DefRec} {K:Params→PySem.W.Frag} {CX:World→CXT} {sp:World→Sp} {x:Str}
  (hn:l.most=some n) (hn2:n≤sizeLine) (hdf:d.params.defaults=[]) (hr:Room k callerA)
  (hY:∀(w:World) (h:Heap),YP w h→(K w.params).In h)
  (F:∀(w:World) (mg:Str→Option Value) (fa:Addr) (h:Heap),(K w.params).In h→h.Ns mainGlobals mg→mg d.name=some (.ref fa) →
   ∃fd:FuncData,(∀(s:Shared) (u:Value),BindsTo s fd ⟨[u],[]⟩ [(x,u)]) ∧
    ∀base:Heap,(K w.params).In base→base.Ns mainGlobals mg→pJ l.prog w (K w.params) mg base (CX w) k fa fd [x] (sp w))
  (hsp:∀(w:World) (H:Hp) (a:Addr) (ns:List Int),ns.length≤n→Only H→SqL (K w.params) H a (ns.map V.int)→sp w [.ref a] H (fun v _=>v=.bl true) fun _ _ _=>False)
  (hCX:∀(w:World) (H:Hp) (s:Shared) (e:Value) (s':Shared),CX w [] H s (fun _ _ _=>False) e s'→False) :
  PySem.W.WalkO q loose XP YP l.row.toRowW d [] (fun f vs=>PySem.call f vs):=by
 refine Att.aH4 hn hdf fun w s₀ s₁ mg mb fa o pm cd doc a vs ns G Y ho hd hcd hmg hobj hints hlen hg=>?_
 have KX:=hY w _ Y
 obtain ⟨fd,hb,hF⟩:=F w mg fa _ KX G.T.g hmg
 exact aPq KX G.T.g G.T.b G.T.builtins G.T.nolimit hg hobj hints (Nat.le_trans hlen hn2) hr hF hb (fun H hO hS=>hsp w H a ns hlen hO hS) fun H e s'=>hCX w H s₁ e s'
theorem aRs {l:PySem.W.OpenLaw} {n k:Nat} {q:Program} {loose:List Str} {XP:(Str→Option Value)→Heap→Prop} {YP:World→Heap→Prop} {d:DefRec} {K:Params→PySem.W.Frag} {CX:CXT} {sp:PySem.W.Frag→Sp} {x:Str}
  (hn:l.most=some n) (hn2:n≤sizeLine) (hdf:d.params.defaults=[]) (hr:Room k callerA)
  (hY:∀(w:World) (h:Heap),YP w h→(K w.params).In h)
  (F:∀(w:World) (mg:Str→Option Value) (fa:Addr) (h:Heap),(K w.params).In h→h.Ns mainGlobals mg→mg d.name=some (.ref fa) →
   ∃fd:FuncData,(∀(s:Shared) (u:Value),BindsTo s fd ⟨[u],[]⟩ [(x,u)]) ∧
    ∀base:Heap,(K w.params).In base→base.Ns mainGlobals mg→pJ l.prog w (K w.params) mg base CX k fa fd [x] (sp (K w.params)))
  (hsp:∀(K:PySem.W.Frag) (H:Hp) (a:Addr) (ns:List Int),ns.length≤n→Only H→SqL K H a (ns.map V.int)→sp K [.ref a] H (fun v _=>v=.bl true) fun _ _ _=>False)
  (hCX:∀(H:Hp) (s:Shared) (e:Value) (s':Shared),CX [] H s (fun _ _ _=>False) e s'→False) :
  PySem.W.WalkO q loose XP YP l.row.toRowW d [] (fun f vs=>PySem.call f vs):=
 aS5 (K:=K) (CX:=fun _=>CX) (sp:=fun w=>sp (K w.params)) hn hn2 hdf hr hY F (fun w H a ns h1 h2 h3=>hsp (K w.params) H a ns h1 h2 h3) fun _ H s e s'=>hCX H s e s'
def rZ (s:Stmt):Arguments:=match s with
 |.FunctionDef _ a _ _ _ _ _ _ _ _=>a
 |_=>{ posonlyargs:=[],args:=[],vararg:=none,kwonlyargs:=[],kw_defaults:=[],kwarg:=none,defaults:=[] }
def jU (s:Stmt):List Stmt:=match s with
 |.FunctionDef _ _ b _ _ _ _ _ _ _=>b
 |_=>[]
def aF (s:Stmt):Scope:=match s with
 |.FunctionDef _ _ _ _ _ _ sc _ _ _=>sc
 |_=>{ kind:=.function,names:=[],isGenerator:=false,isCoroutine:=false }
abbrev CX0:CXT:=fun _ _ _ _ _ _=>False
abbrev E0:XK:=fun _ _ _=>False
theorem aRf {X:Cx}:aFc CX0 X E0:=fun _ _ _ _ _ _ _ h=>h.elim
structure Fun (K:PySem.W.Frag) (x qual:Str) (st:Stmt) (f:Addr) (fd:FuncData):Prop where
 ex:∃(oc:Value) (od:Option Addr) (kV doc pm:Value) (an:Option Addr) (cdv ct:Value) (osl:Array (Option Value)),
  fd=PySem.W.fnOf x qual (rZ st) (jU st) (aF st) .none kV doc pm an cdv ct∧K.lookup f=some ⟨oc,od,.func fd,osl⟩∧PySem.W.codeIn K cdv qual=true
 kp:PySem.W.keepIn K (.ref f)=true
section
variable {P:Program} {w:World} {K:PySem.W.Frag} {mg:Str→Option Value} {base:Heap}
theorem Fun.ok {x qual:Str} {st:Stmt} {f:Addr} {fd:FuncData} {N ps:List Str} {k:Nat} {sp:Sp} (F:Fun K x qual st f fd) (S:aM N ps (aF st)) (len:∀vs H Q E,sp vs H Q E→vs.length=ps.length)
  (hbody:∀(cdv:Value) (A:Around) (outer:List Env) (s:Shared) (H:Hp) (vs:List V) (Q:VK) (E:XK),Room k (A.deeper (envOfC qual (aF st) s.heap.objs.size f cdv))→sp vs H Q E →
   ∃t,PSs (aEq CX0 P w K mg base N qual (aF st) f cdv A outer s H E).nox (jU st) t∧t { nx:=fun _ H'=>Q .non H',rt:=Q } (start N vs) H):pJ P w K mg base CX0 (k+1) f fd ps sp:=by
 obtain ⟨oc,od,kV,doc,pm,an,cdv,ct,osl,rfl,lk,hcd⟩:=F.ex
 refine aYx lk hcd S len fun A outer s H vs Q E hr hsp=>?_
 obtain ⟨t,h,q⟩:=hbody cdv A outer s H vs Q E hr hsp
 exact ⟨t,h.nox,q⟩
theorem Fun.binds {x qual:Str} {st:Stmt} {f:Addr} {fd:FuncData} {ps:List Str} (F:Fun K x qual st f fd)
  (h:∀(kV doc pm:Value) (an:Option Addr) (cdv ct:Value) (us:List Value),us.length=ps.length→bindArgs (PySem.W.fnOf x qual (rZ st) (jU st) (aF st) .none kV doc pm an cdv ct) ⟨us,[]⟩=pure (ps.zip us)):Binds K fd ps []:=by
 obtain ⟨oc,od,kV,doc,pm,an,cdv,ct,osl,rfl,lk,hcd⟩:=F.ex
 exact .all (h kV doc pm an cdv ct)
theorem aSy {x qual:Str} {st:Stmt} {f:Addr} {oc:Value} {od an:Option Addr} {osl:Array (Option Value)} {kV doc pm cdv ct:Value} (l:K.lookup f=some ⟨oc,od,.func (PySem.W.fnOf x qual (rZ st) (jU st) (aF st) .none kV doc pm an cdv ct),osl⟩)
  (c:PySem.W.codeIn K cdv qual=true) (k:PySem.W.keepIn K (.ref f)=true):Fun K x qual st f (PySem.W.fnOf x qual (rZ st) (jU st) (aF st) .none kV doc pm an cdv ct):=⟨⟨oc,od,kV,doc,pm,an,cdv,ct,osl,rfl,l,c⟩,k⟩
end
theorem yQ {A:Around} {k:Nat} (hr:Room k A):A.units+1<cLine:=Nat.lt_of_le_of_lt (Nat.add_le_add_left (by decide:1≤64) _) hr.units
theorem wZ {n:Nat} (h:n≤1000):n<sizeLine:=Nat.lt_of_le_of_lt h (by decide)
section
variable {X:Cx}
theorem pv (i:Nat) {x:Str} {pos:Pos} (hN:X.N[i]?=some x:=by rfl) (hv:Vis X.env.scope x:=by trivial) (hd:(x == ("__debug__":Str))=false:=by decide)
  (hcd:(x == ("__classdict__":Str))=false:=by decide):PE X (.Name x pos) (yX i):=aW3 hN hv hd hcd
end
theorem bK {A B:Prop} (h:B):if false=true then A else B:=by
 rw [if_neg Bool.false_ne_true]
 exact h
theorem eX {A B:Prop} (h:A):if true=true then A else B:=by
 rw [if_pos rfl]
 exact h
theorem aBh {c A B:Prop} [Decidable c] (h1:c→A) (h2:¬ c→B):if c then A else B:=by
 by_cases h:c
 ·rw [if_pos h]
  exact h1 h
 ·rw [if_neg h]
  exact h2 h
def Same (H H':Hp):Prop:=∀b o,H b=some o→H' b=some o
theorem Same.refl (H:Hp):Same H H:=fun _ _ h=>h
theorem Same.trans {H H1 H2:Hp} (a:Same H H1) (b:Same H1 H2):Same H H2:=fun c o h=>b c o (a c o h)
theorem Same.free {H H':Hp} (e:Same H H') {l:Addr} (h:H' l=Option.none):H l=Option.none:=by
 cases q:H l with
 |none=>rfl
 |some o=>
  rw [e l o q] at h
  cases h
theorem Same.seq {K:PySem.W.Frag} {H H':Hp} {a:Addr} {xs:List V} (e:Same H H') (h:SqL K H a xs):SqL K H' a xs:=by
 rcases h with (h|⟨o,h⟩)|h
 ·exact .inl (.inl (e _ _ h))
 ·exact .inl (.inr ⟨o,e _ _ h⟩)
 ·exact .inr h
end L2
namespace PySem
namespace RvF
theorem slot_next:Slot "reversed" "__next__" "reversed.__next__":=
 .of (owner:="reversed") (n:="__next__") (by rw [typeLookup_type,builtinLookup_eq_fast];kernel_rfl) (by decide +kernel) (by decide +kernel) (by decide +kernel)
  (by first|exact .inl (by decide +kernel)|exact .inr (by decide +kernel)) (by rw [isSubtype_type];kernel_rfl)
theorem aDf:Slot "reversed" "__iter__" "reversed.__iter__":=
 .of (owner:="reversed") (n:="__iter__") (by rw [typeLookup_type,builtinLookup_eq_fast];kernel_rfl) (by decide +kernel) (by decide +kernel) (by decide +kernel)
  (by first|exact .inl (by decide +kernel)|exact .inr (by decide +kernel)) (by rw [isSubtype_type];kernel_rfl)
theorem aO2:Slot "reversed" "__init__" "object.__init__":=
 .of (owner:="object") (n:="__init__") (by rw [typeLookup_type,builtinLookup_eq_fast];kernel_rfl) (by decide +kernel) (by decide +kernel) (by decide +kernel)
  (by first|exact .inl (by decide +kernel)|exact .inr (by decide +kernel)) (by rw [isSubtype_type];kernel_rfl)
theorem entry_next:entryFor table "reversed.__next__"=some Builtin.«reversed.__next__»:=entryFor_of_tree (by kernel_rfl)
theorem aLk:entryFor table "reversed.__iter__"=some Builtin.«dict_keyiterator.__iter__»:=
 entryFor_alias (id':="dict_keyiterator.__iter__") (by kernel_rfl) (by first|rfl|decide +kernel|(unfold String.splitOn;simp +decide [String.splitOnAux])) (by decide +kernel) (by kernel_rfl)
theorem aNv:entryFor table "reversed.__new__"=some Builtin.«reversed.__new__»:=entryFor_of_tree (by kernel_rfl)
theorem owner:Manifest.owners.lookup (String.ofList ['d','e','s','r','e','v','e','r'].reverse)=some Manifest.sig_reversed:=by kernel_rfl
theorem yS (a:Value):argsOk "reversed.__next__" ⟨[a],[]⟩:=by
 unfold argsOk;rw [signature?_of (id:="reversed.__next__") (n:=['_','_','t','x','e','n','_','_']) (o:=['d','e','s','r','e','v','e','r']) (by kernel_rfl) owner];kernel_rfl
theorem aGu (a:Value):argsOk "reversed.__iter__" ⟨[a],[]⟩:=by
 unfold argsOk;rw [signature?_of (id:="reversed.__iter__") (n:=['_','_','r','e','t','i','_','_']) (o:=['d','e','s','r','e','v','e','r']) (by kernel_rfl) owner];kernel_rfl
theorem mro:mroOf (.type "reversed")=pure [.type "reversed",.type "object"]:=by rw [mroOf_type];kernel_rfl
theorem aJ5:typeLookup (.type "reversed") "__new__"=pure (some (.builtin "reversed.__new__")):=by rw [typeLookup_type,builtinLookup_eq_fast];kernel_rfl
theorem sub_self:isSubtype (.type "reversed") (.type "reversed")=pure true:=by rw [isSubtype_type];kernel_rfl
theorem called:TypeCalled "reversed" "reversed.__new__" "object.__init__":=
 ⟨by decide +kernel,by decide +kernel,⟨_,_,mro⟩,madeBy_type mro aJ5 (by decide +kernel),by decide +kernel,sub_self,aO2⟩
theorem aL5 (a:Value):checkTypeCall "reversed" ⟨[a],[]⟩=pure ():=by kernel_rfl
theorem aOd (a:Value):checkBuiltinCall "reversed.__new__" ⟨[.type "reversed",a],[]⟩=pure ():=by kernel_rfl
end RvF
theorem aI0 (a:Value):Builtin.SmallTypes.newClass "reversed" ⟨[.type "reversed",a],[]⟩=pure (.type "reversed",[a]):=by
 unfold Builtin.SmallTypes.newClass
 simp only [isType,RvF.sub_self,pure_bind,Bool.not_true,Bool.false_eq_true,if_false]
section
variable {prog:Program} {w:World} {A:Around} {E:Value→Shared→Prop} {s:Shared}
end
end PySem
namespace L2
open PySem PySem.Spec PyProof.Rows
theorem aF7:bootBuiltins "int"=some (.type "int"):=by decide +kernel
theorem aM2:bootBuiltins "bool"=some (.type "bool"):=by decide +kernel
theorem aLx:bootBuiltins "str"=some (.type "str"):=by decide +kernel
theorem vO:bootBuiltins "list"=some (.type "list"):=by decide +kernel
theorem cB:bootBuiltins "tuple"=some (.type "tuple"):=by decide +kernel
theorem aXr:bootBuiltins "set"=some (.type "set"):=by decide +kernel
theorem aG3:bootBuiltins "reversed"=some (.type "reversed"):=by decide +kernel
theorem aW5:bootBuiltins "zip"=some (.type "zip"):=by decide +kernel
theorem aE6:bootBuiltins "enumerate"=some (.type "enumerate"):=by decide +kernel
theorem bR:bootBuiltins "isinstance"=some (.builtin "isinstance"):=by decide +kernel
theorem cP:bootBuiltins "len"=some (.builtin "len"):=by decide +kernel
theorem aEv:bootBuiltins "all"=some (.builtin "all"):=by decide +kernel
theorem aQi:bootBuiltins "any"=some (.builtin "any"):=by decide +kernel
theorem lL:bootBuiltins "sorted"=some (.builtin "sorted"):=by decide +kernel
theorem aXj:bootBuiltins "abs"=some (.builtin "abs"):=by decide +kernel
def sgn (x:Str) (i:Nat):Str:=⟨#[x.cps.getD i 0]⟩
theorem aP8 {x:Str} {i c:Nat} (h:x.cps[i]?=some c):(⟨#[c]⟩:Str)=sgn x i:=by
 unfold sgn
 rw [Array.getD_eq_getD_getElem?,h]
 rfl
def Its (x:Str):It:=⟨fun i _=>i<x.cps.size,fun i H v H'=>H'=H∧v=.str (sgn x i),fun i _=>x.cps.size≤i⟩
theorem aO3 {P:Program} {w:World} {K:PySem.W.Frag} {tg:Expr} (it:Addr) (x:Str) (t:Tok):Turn P w K tg (Its x) [it] it (fun i h=>h.IsStrIter it "str_ascii_iterator" x t i) where
 mem:=by simp
 obj:=fun i h st b hb=>by
  have e:b=it:=by simpa using hb
  subst e
  obtain ⟨o,e,c,d⟩:=st
  exact ⟨o,e,fun v z=>by rw [d] at z;cases z⟩
 keep:=fun i h h' st k=>let ⟨o,ho,r⟩:=st;⟨o,k it (by simp) o ho,r⟩
 item:=by
  intro X hP hw hK hc i pins s σ H E I hf st hg
  subst hP hw hK
  obtain ⟨f0,f1,f2,f3,f4,f5⟩:=hf it (by simp)
  refine (Walks.strAscii (prog:=X.prog) (w:=X.w) (I.ok.hd hc) it x t).item i s _ _ hg st fun v h' tk hv st' kk=>?_
  obtain ⟨c,u,hcx,rfl⟩:=hv
  have I1:Inv X pins σ H { s with heap:=h',toks:=tk }:=I.turned (fun b o hb e=>kk b o (by simpa using hb) e) f0 f1 f3 f4 f5
  obtain ⟨o,e,c',d⟩:=id st'
  exact ⟨_,rfl,aCz (s:={ s with heap:=h',toks:=tk }) e c' d (by decide) ⟨.str ⟨#[c]⟩,H,I1,⟨u,rfl⟩,⟨rfl,by rw [aP8 hcx]⟩,st',fun b hb=>(hf b hb).1⟩⟩
 done:=by
  intro X hP hw hK hc i pins s σ H E I hf st hg
  subst hP hw hK
  obtain ⟨f0,f1,f2,f3,f4,f5⟩:=hf it (by simp)
  exact wpAny_pyNext_ascii_end (I.ok.hd hc) st (Array.getElem?_eq_none_iff.mpr hg) fun h' eb=>⟨rfl,I.turned (t':=s.toks) (fun b o hb e=>eb b o hb e) f0 f1 f3 f4 f5⟩
 self:=fun _ _ _ _ _ st h=>wpAny_pyIter_striter_ascii st h
theorem aPm {P:Program} {w:World} {K:PySem.W.Frag} {tg:Expr} (it:Addr) (x:Str) (t:Tok):Turn P w K tg (Its x) [it] it (fun i h=>h.IsStrIter it "str_iterator" x t i) where
 mem:=by simp
 obj:=fun i h st b hb=>by
  have e:b=it:=by simpa using hb
  subst e
  obtain ⟨o,e,c,d⟩:=st
  exact ⟨o,e,fun v z=>by rw [d] at z;cases z⟩
 keep:=fun i h h' st k=>let ⟨o,ho,r⟩:=st;⟨o,k it (by simp) o ho,r⟩
 item:=by
  intro X hP hw hK hc i pins s σ H E I hf st hg
  subst hP hw hK
  obtain ⟨f0,f1,f2,f3,f4,f5⟩:=hf it (by simp)
  refine (Walks.strWide (prog:=X.prog) (w:=X.w) (I.ok.hd hc) it x t).item i s _ _ hg st fun v h' tk hv st' kk=>?_
  obtain ⟨c,u,hcx,rfl⟩:=hv
  have I1:Inv X pins σ H { s with heap:=h',toks:=tk }:=I.turned (fun b o hb e=>kk b o (by simpa using hb) e) f0 f1 f3 f4 f5
  obtain ⟨o,e,c',d⟩:=id st'
  exact ⟨_,rfl,aCz (s:={ s with heap:=h',toks:=tk }) e c' d (by decide) ⟨.str ⟨#[c]⟩,H,I1,⟨u,rfl⟩,⟨rfl,by rw [aP8 hcx]⟩,st',fun b hb=>(hf b hb).1⟩⟩
 done:=by
  intro X hP hw hK hc i pins s σ H E I hf st hg
  subst hP hw hK
  obtain ⟨f0,f1,f2,f3,f4,f5⟩:=hf it (by simp)
  exact wpAny_pyNext_wide_end (I.ok.hd hc) st (Array.getElem?_eq_none_iff.mpr hg) fun h' eb=>⟨rfl,I.turned (t':=s.toks) (fun b o hb e=>eb b o hb e) f0 f1 f3 f4 f5⟩
 self:=fun _ _ _ _ _ st h=>wpAny_pyIter_striter_wide st h
section
variable {X:Cx} {tg:Expr}
def aWh (tl:TE):TI:=fun σ H R=>tl σ H fun x H1=>∃z,x=.str z∧R (Its z) H1
theorem aW2 {l:Expr} {tl:TE} (hl:PE X l tl):PI X tg l (aWh tl):=by
 intro pins s σ H R I h
 refine thn (hl pins s σ H _ I h) fun v s1 ⟨x,H1,I1,r1,q1⟩=>?_
 obtain ⟨z,e,q⟩:=q1
 subst e
 obtain ⟨t,rfl⟩:=r1
 have fp:∀b∈[s1.heap.objs.size],uK X pins H1 b:=fun b hb=>by
  have e:b=s1.heap.objs.size:=by simpa using hb
  subst e
  exact I1.aG2 (Nat.le_refl _) (I1.hok.fresh (Nat.le_refl _))
 cases ha:z.cps.all (·<128)
 ·exact wpAny_pyIter_wide ha ⟨s1.heap.objs.size,[s1.heap.objs.size],_,_,H1,rfl,I1.kept (t':=s1.toks) fun b o e=>Heap.get?_push_of_some _ e,aPm _ z t,⟨_,Heap.get?_push_size _ rfl,rfl,rfl⟩,fp,q⟩
 ·exact wpAny_pyIter_ascii ha ⟨s1.heap.objs.size,[s1.heap.objs.size],_,_,H1,rfl,I1.kept (t':=s1.toks) fun b o e=>Heap.get?_push_of_some _ e,aO3 _ z t,⟨_,Heap.get?_push_size _ rfl,rfl,rfl⟩,fp,q⟩
def aK5 (x:V) (T:String):Option Bool:=match x with
 |.int _=>if T = "int" then some true else if T = "bool" then some false else if T = "str" then some false else none
 |.str _=>if T = "int" then some false else if T = "bool" then some false else if T = "str" then some true else none
 |.bl _=>if T = "int" then some true else if T = "bool" then some true else if T = "str" then some false else none
 |_=>none
def aY0:List V→Hp→VK→Prop:=fun xs H Q=>∃x T b,xs=[x,.ty T]∧aK5 x T=some b∧Q (.bl b) H
theorem qW:cR X (.builtin "isinstance") aY0:=by
 intro pins s σ H xs us Q I r h
 obtain ⟨x,T,b,rfl,e,q⟩:=h
 obtain ⟨u,v,rfl,rx,rT⟩:=r.two
 cases rT
 have f0:∀{k:Bool},some k=some b→EP X pins σ Q (.bool k) s:=fun e=>by cases e;exact ⟨.bl _,H,I,rfl,q⟩
 have f1:∀{k:Bool},some k=some b→EP X pins σ Q (.bool k) { s with toks:=s.toks+1 }:=fun e=>by cases e;exact ⟨.bl _,H,I.tok _,rfl,q⟩
 cases x with
 |int i=>
  obtain ⟨t,rfl⟩:=rx
  unfold aK5 at e
  dsimp only at e
  split at e
  ·rename_i hT;subst hT;exact IsiPair.int_int (f0 e)
  split at e
  ·rename_i hT;subst hT;exact IsiPair.int_bool (f1 e)
  split at e
  ·rename_i hT;subst hT;exact IsiPair.int_str (f1 e)
  ·cases e
 |str z=>
  obtain ⟨t,rfl⟩:=rx
  unfold aK5 at e
  dsimp only at e
  split at e
  ·rename_i hT;subst hT;exact IsiPair.str_int (f1 e)
  split at e
  ·rename_i hT;subst hT;exact IsiPair.str_bool (f1 e)
  split at e
  ·rename_i hT;subst hT;exact IsiPair.str_str (f0 e)
  ·cases e
 |bl z=>
  cases rx
  unfold aK5 at e
  dsimp only at e
  split at e
  ·rename_i hT;subst hT;exact IsiPair.bool_int (f0 e)
  split at e
  ·rename_i hT;subst hT;exact IsiPair.bool_bool (f0 e)
  split at e
  ·rename_i hT;subst hT;exact IsiPair.bool_str (f1 e)
  ·cases e
 |_=>cases (show (none:Option Bool)=some b from e)
end
theorem small {n:Nat} (h:n≤1000):n≤sizeLine:=Nat.le_of_lt (wZ h)
theorem dI:Vals [] []:=.nil
theorem bJ {x:V} {u:Value} {xs:List V} {us:List Value} (r:RelV x u) (t:Vals xs us):Vals (x::xs) (u::us):=.cons r t
def iK:Expr→Bool
 |.Starred ..=>false
 |_=>true
theorem cA {e:Expr} {es:List Expr} {env:Env} (h:iK e=true):starEach (e::es) env=(false,eval e env)::starEach es env:=by
 cases e <;> first|rfl|cases h
theorem aZ7 {X:Cx} {e:Expr} {es:List Expr} {te:TE} {t:TA} (ha:PE X e te) (hr:PA X es t) (hp:iK e=true:=by rfl) :
  PA X (e::es) (cT te t):=aTq ha hr (cA hp)
theorem aZj {X:Cx} {x:Str} {v:V} {pos:Pos} (hg:Gl X x) (hm:∃u,X.mg x=some u∧RelV v u) (hd:(x == ("__debug__":Str))=false:=by decide):PE X (.Name x pos) (tC v):=by
 obtain ⟨u,hm,r⟩:=hm
 exact aTm hg hm r hd
section
variable {P:Program} {w:World} {K:PySem.W.Frag} {mg:Str→Option Value} {base:Heap}
def Dn (K:PySem.W.Frag) (mg:Str→Option Value) (x:Str) (st:Stmt) (ps:List Str):Prop:=∃f fd,Fun K x x st f fd∧Binds K fd ps []∧mg x=some (.ref f)
def Ok (P:Program) (w:World) (K:PySem.W.Frag) (mg:Str→Option Value) (base:Heap) (k:Nat) (x:Str) (ps:List Str) (sp:Sp):Prop:=
 ∃f fd,mg x=some (.ref f)∧PySem.W.keepIn K (.ref f)=true∧Binds K fd ps []∧pJ P w K mg base CX0 k f fd ps sp
theorem Ok.mono {j k:Nat} {x:Str} {ps:List Str} {sp:Sp} (h:Ok P w K mg base j x ps sp) (hj:j≤k):Ok P w K mg base k x ps sp:=by
 obtain ⟨f,fd,h1,h2,h3,h4⟩:=h
 exact ⟨f,fd,h1,h2,h3,h4.mono hj⟩
theorem Ok.of {x:Str} {st:Stmt} {N ps:List Str} {k:Nat} {sp:Sp} (D:Dn K mg x st ps) (S:aM N ps (aF st)) (len:∀vs H Q E,sp vs H Q E→vs.length=ps.length)
  (hbody:∀(f:Addr) (cdv:Value) (A:Around) (outer:List Env) (s:Shared) (H:Hp) (vs:List V) (Q:VK) (E:XK),Room k (A.deeper (envOfC x (aF st) s.heap.objs.size f cdv))→sp vs H Q E →
   ∃t,PSs (aEq CX0 P w K mg base N x (aF st) f cdv A outer s H E).nox (jU st) t∧t { nx:=fun _ H'=>Q .non H',rt:=Q } (start N vs) H):Ok P w K mg base (k+1) x ps sp:=by
 obtain ⟨f,fd,F,B,m⟩:=D
 exact ⟨f,fd,m,F.kp,B,F.ok S len fun cdv A outer s H vs Q E hr h=>hbody f cdv A outer s H vs Q E hr h⟩
end
section
variable {X:Cx} {k:Nat} {ps:List Str} {sp:Sp} {x:Str} {p pos:Pos} {e:Expr} {es:List Expr} {t:TA}
theorem aZq (G:Ok X.prog X.w X.K X.mg X.base k x ps sp) (hr:Room k X.A) (hg:Gl X x) (ha:PA X (e::es) t) (hdb:(x == ("__debug__":Str))=false:=by decide)
  (he:starEach (e::es) X.env=(false,eval e X.env)::starEach es X.env:=by rfl) (hpl:(backTo pos (starEach es X.env)).any (·.1)=false:=by rfl) :
  PE X (.Call (.Name x p) (e::es) [] pos) (nD sp [] E0 t):=by
 obtain ⟨f,fd,h1,h2,h3,h4⟩:=G
 exact aS3 h4 hr hg h1 h2 h3 .nil aRf ha hdb he hpl
theorem aX9 (G:Ok X.prog X.w X.K X.mg X.base k x ps sp) (hr:Room k X.A) (hg:Gl X x) (hdb:(x == ("__debug__":Str))=false:=by decide) :
  PE X (.Call (.Name x p) [] [] pos) (nD sp [] E0 aAu):=by
 obtain ⟨f,fd,h1,h2,h3,h4⟩:=G
 exact aS1 h4 hr hg h1 h2 h3 .nil aRf hdb
end
theorem tY {env:Env} (f:Str × NameKind→List (Str × Addr)→Sem (ForInStep (List (Str × Addr))))
  (h1:∀n r,f (n,.free) r=(cellOf env n >>= fun a=>pure (.yield ((n,a)::r)))) (h2:∀n k r,k≠.free→f (n,k) r=pure (.yield r)) :
  ∀(names:List (Str × NameKind)) (acc:List (Str × Addr)),(∀y∈names,y.2=.free→∃c,env.cells.lookup y.1=some c) →
  ∃cl,forIn names acc f=(pure (cl++acc):Sem _)∧(∀p∈cl,env.cells.lookup p.1=some p.2∧(p.1,NameKind.free)∈names)∧∀y,(y,NameKind.free)∈names→∃c,(y,c)∈cl
 |[],acc,_=>⟨[],by simp,fun _ h=>(nomatch h),fun _ h=>(nomatch h)⟩
 |(n,k)::r,acc,h=>by
  by_cases hk:k=.free
  ·subst hk
   obtain ⟨c,hc⟩:=h (n,.free) List.mem_cons_self rfl
   obtain ⟨cl,e,p1,p2⟩:=tY f h1 h2 r ((n,c)::acc) fun y hy=>h y (List.mem_cons_of_mem _ hy)
   refine ⟨cl++[(n,c)],?_,fun p hp=>?_,fun y hy=>?_⟩
   ·rw [List.forIn_cons,h1]
    have e0:cellOf env n=pure c:=by unfold cellOf;rw [hc]
    rw [e0,pure_bind,pure_bind]
    show forIn r ((n,c)::acc) f=_
    rw [e,List.append_assoc]
    rfl
   ·rcases List.mem_append.mp hp with hp|hp
    ·exact ⟨(p1 p hp).1,List.mem_cons_of_mem _ (p1 p hp).2⟩
    ·obtain rfl:=List.mem_singleton.mp hp
     exact ⟨hc,List.mem_cons_self⟩
   ·rcases List.mem_cons.mp hy with e|hy
    ·cases e
     exact ⟨c,by simp⟩
    ·obtain ⟨c',q⟩:=p2 y hy
     exact ⟨c',List.mem_append_left _ q⟩
  ·obtain ⟨cl,e,p1,p2⟩:=tY f h1 h2 r acc fun y hy=>h y (List.mem_cons_of_mem _ hy)
   refine ⟨cl,?_,fun p hp=>⟨(p1 p hp).1,List.mem_cons_of_mem _ (p1 p hp).2⟩,fun y hy=>?_⟩
   ·rw [List.forIn_cons,h2 n k acc hk,pure_bind]
    exact e
   ·rcases List.mem_cons.mp hy with e|hy
    ·cases e
     exact absurd rfl hk
    ·exact p2 y hy
theorem aA3 {scope:Scope} {env:Env} (h:∀y∈scope.names,y.2=.free→∃c,env.cells.lookup y.1=some c) :
  ∃cl,closureFor scope env=pure cl∧(∀p∈cl,env.cells.lookup p.1=some p.2∧(p.1,NameKind.free)∈scope.names)∧∀y,(y,NameKind.free)∈scope.names→∃c,(y,c)∈cl:=by
 unfold closureFor
 obtain ⟨cl,e,p1,p2⟩:=tY (env:=env) (fun x r=>match x with|(name,kind)=>if (kind == NameKind.free)=true then do let a ←cellOf env name;pure (.yield ((name,a)::r)) else pure (.yield r))
  (fun n r=>rfl) (fun n k r hk=>by
   have:(k == NameKind.free)=false:=by simpa using hk
   simp only [this,Bool.false_eq_true,if_false]) scope.names [] h
 refine ⟨cl,?_,p1,p2⟩
 rw [List.append_nil] at e
 refine Eq.trans ?_ e
 first
 |rfl
 |simp
theorem lookup_mem {α β:Type} [BEq α] [LawfulBEq α] {a:α} {b:β}:∀{l:List (α × β)},(a,b)∈l→∃b',l.lookup a=some b'
 |(x,y)::r,h=>by
  rw [List.lookup_cons]
  by_cases e:(a == x)=true
  ·exact ⟨y,by rw [e]⟩
  ·have e':(a == x)=false:=by simpa using e
   rw [e']
   rcases List.mem_cons.mp h with z|z
   ·cases z
    simp at e
   ·exact lookup_mem z
theorem uZ {env:Env} {y:Str} {k:NameKind}:∀{names:List (Str × NameKind)},names.lookup y=some .free →
  (names.map fun (x:Str × NameKind)=>match x with|(n,k)=>if (k == NameKind.free && env.scope.kind == ScopeKind.function && env.kindOf n == some NameKind.cell) then (n,NameKind.cell) else (n,k)).lookup y=some .cell ∨
  (names.map fun (x:Str × NameKind)=>match x with|(n,k)=>if (k == NameKind.free && env.scope.kind == ScopeKind.function && env.kindOf n == some NameKind.cell) then (n,NameKind.cell) else (n,k)).lookup y=some .free
 |[],h=>by simp at h
 |(n,k')::r,h=>by
  rw [List.map_cons]
  rw [List.lookup_cons] at h
  by_cases e:(y == n)=true
  ·rw [e] at h
   cases h
   by_cases q:((NameKind.free == NameKind.free) && env.scope.kind == ScopeKind.function && env.kindOf n == some NameKind.cell)=true
   ·left
    simp only [q,if_true,List.lookup_cons,e]
   ·right
    have q':=Bool.eq_false_iff.mpr q
    simp only [q',Bool.false_eq_true,if_false,List.lookup_cons,e]
  ·have e':(y == n)=false:=by simpa using e
   rw [e'] at h
   have ih:=uZ (env:=env) (k:=k) h
   have key:∀z:Str × NameKind,z.1=n→(List.lookup y (z::(r.map fun (x:Str × NameKind)=>match x with|(n,k)=>if (k == NameKind.free && env.scope.kind == ScopeKind.function && env.kindOf n == some NameKind.cell) then (n,NameKind.cell) else (n,k)))) =
     List.lookup y (r.map fun (x:Str × NameKind)=>match x with|(n,k)=>if (k == NameKind.free && env.scope.kind == ScopeKind.function && env.kindOf n == some NameKind.cell) then (n,NameKind.cell) else (n,k)):=fun z hz=>by
    obtain ⟨z1,z2⟩:=z
    cases hz
    rw [List.lookup_cons,e']
   have kz:(match ((n,k'):Str × NameKind) with|(n,k)=>if (k == NameKind.free && env.scope.kind == ScopeKind.function && env.kindOf n == some NameKind.cell) then (n,NameKind.cell) else (n,k)).1=n:=by
    dsimp only
    split <;> rfl
   rw [key _ kz]
   exact ih
theorem uX {env:Env} {y:Str}:∀{names:List (Str × NameKind)},(∀z∈names,z.2≠.cell) →
  ((names.map fun (x:Str × NameKind)=>match x with|(n,k)=>if (k == NameKind.free && env.scope.kind == ScopeKind.function && env.kindOf n == some NameKind.cell) then (n,NameKind.cell) else (n,k)).lookup y=some .cell ∨
  (names.map fun (x:Str × NameKind)=>match x with|(n,k)=>if (k == NameKind.free && env.scope.kind == ScopeKind.function && env.kindOf n == some NameKind.cell) then (n,NameKind.cell) else (n,k)).lookup y=some .free)→(y,NameKind.free)∈names
 |[],_,h=>by simp at h
 |(n,k')::r,hc,h=>by
  rw [List.map_cons] at h
  by_cases e:(y == n)=true
  ·have ey:y=n:=by simpa using e
   subst ey
   have hk:k'=.free:=by
    by_cases q:((k' == NameKind.free) && env.scope.kind == ScopeKind.function && env.kindOf y == some NameKind.cell)=true
    ·rw [Bool.and_eq_true,Bool.and_eq_true] at q
     simpa using q.1.1
    ·have q':=Bool.eq_false_iff.mpr q
     simp only [q',Bool.false_eq_true,if_false,List.lookup_cons,e] at h
     rcases h with h|h
     ·cases h
      exact absurd rfl (hc (y,.cell) List.mem_cons_self)
     ·cases h;rfl
   subst hk
   exact List.mem_cons_self
  ·have e':(y == n)=false:=by simpa using e
   have key:∀z:Str × NameKind,z.1=n→(List.lookup y (z::(r.map fun (x:Str × NameKind)=>match x with|(n,k)=>if (k == NameKind.free && env.scope.kind == ScopeKind.function && env.kindOf n == some NameKind.cell) then (n,NameKind.cell) else (n,k)))) =
     List.lookup y (r.map fun (x:Str × NameKind)=>match x with|(n,k)=>if (k == NameKind.free && env.scope.kind == ScopeKind.function && env.kindOf n == some NameKind.cell) then (n,NameKind.cell) else (n,k)):=fun z hz=>by
    obtain ⟨z1,z2⟩:=z
    cases hz
    rw [List.lookup_cons,e']
   have kz:(match ((n,k'):Str × NameKind) with|(n,k)=>if (k == NameKind.free && env.scope.kind == ScopeKind.function && env.kindOf n == some NameKind.cell) then (n,NameKind.cell) else (n,k)).1=n:=by
    dsimp only
    split <;> rfl
   rw [key _ kz] at h
   exact List.mem_cons_of_mem _ (uX (fun z hz=>hc z (List.mem_cons_of_mem _ hz)) h)
section
variable {prog:Program} {w:World} {A:Around} {E:Value→Shared→Prop} {R:Result→Shared→Prop} {s:Shared}
theorem aCx {elt target iter:Expr} {ifs:List Expr} {scope:Scope} {pos:Pos} {it acc:Value} {env:Env} (I:Nat→Shared→Prop)
  (turn:∀n s,I n s→wpAny (model prog w) A (pyNext it) (fun r s₁=>match r with
   |none=>R (.ok .next) s₁
   |some v=>wpAny (model prog w) A (letOwnedTupleGo target it v) (fun _ s'=>wpAny (model prog w) A (assign target env v) (fun _ s₂=>
     wpAny (model prog w) A (forIn ifs true fun c r=>if r=true then do let ok ←isTrue c env (eval c env);pure (ForInStep.yield ok) else pure (ForInStep.yield r)) (fun ok s₃=>
      if ok=true then wpAny (model prog w) A (eval elt env) (fun x s₄=>
       wpAny (model prog w) A (call (.builtin "list.append") [acc,x]) (fun _ s₅=>∃m,m<n∧I m s₅) (notedBy (model prog w) A env fun e s'=>R (.error e) s') s₄) (notedBy (model prog w) A env fun e s'=>R (.error e) s') s₃
      else ∃m,m<n∧I m s₃) (notedBy (model prog w) A env fun e s'=>R (.error e) s') s₂) (notedBy (model prog w) A env fun e s'=>R (.error e) s') s') (notedBy (model prog w) A env fun e s'=>R (.error e) s') s₁)
   (notedBy (model prog w) A env fun e s'=>R (.error e) s') s)
  (n:Nat) (h:I n s):codeAny (model prog w) A (.compLoop (.ListComp elt [⟨target,iter,ifs,0⟩] scope pos) 0 it acc env) R s:=by
 refine codeAny_loop rfl I (fun n s hI=>?_) n h
 show wpAny _ A ((compTurn (.ListComp elt [⟨target,iter,ifs,0⟩] scope pos) 0 it acc env).onRaise (fun x=>do noteFrame x env;theTreesLotGoes x)) _ _ s
 refine wpAny_noted ?_
 rw [compTurn_list]
 refine wpAny_bind (wpAny_standAt (wpAny_bind (wpAny_mono (turn n s hI) (fun r s₁ h₁=>?_) fun _ _ h'=>h')))
 cases r with
 |none=>exact wpAny_pure h₁
 |some v=>
  refine wpAny_bind (wpAny_mono h₁ (fun _ s' h₁'=>wpAny_bind (wpAny_mono h₁' (fun _ s₂ h₂=>wpAny_bind (wpAny_mono h₂ (fun ok s₃ h₃=>?_) fun _ _ h'=>h')) fun _ _ h'=>h')) fun _ _ h'=>h')
  cases ok with
  |false=>exact wpAny_pure ⟨rfl,h₃⟩
  |true=>
   exact wpAny_bind (wpAny_bind (wpAny_mono h₃ (fun x s₄ h₄=>wpAny_bind (wpAny_mono h₄ (fun _ s₅ h₅=>wpAny_pure (wpAny_pure ⟨rfl,h₅⟩)) fun _ _ h'=>h')) fun _ _ h'=>h'))
end
def cxC (X:Cx) (N:List Str) (scope:Scope) (cl:List (Str × Addr)) (s:Shared) (H:Hp) (fp:List Addr):Cx:=
 { X with N:=N,s₀:=s,H₀:=H,env:=compEnvC scope cl s.heap.objs.size X.env,outer:=X.stack,stack:=X.stack,ex:=fp,fn:=fun _=>false,pn:=[],xe:=fun _ _=>False }
def aQz (X:Cx) (ifs:List Expr) (tt:TT):Prop:=
 ∀(pins:List (Addr × Obj)) (s:Shared) (σ:St) (H:Hp) (Q:Bool→Hp→Prop),Inv X pins σ H s→tt σ H Q →
  wpAny (model X.prog X.w) X.A (forIn ifs true fun c r=>if r=true then do let ok ←isTrue c X.env (eval c X.env);pure (ForInStep.yield ok) else pure (ForInStep.yield r)) (TP X pins σ Q) X.xe s
def mL:TT:=fun _ H Q=>Q true H
theorem aXk {X:Cx}:aQz X [] mL:=fun _ _ _ H _ I h=>wpAny_tests_nil ⟨H,I,h⟩
theorem aXb {X:Cx} {c:Expr} {tc:TT} (h:PT X c tc):aQz X [c] tc:=fun pins s σ H Q I q=>wpAny_tests_one (h pins s σ H Q I q)
structure xK (scope:Scope) (N:List Str):Prop where
 cell:∀y∈scope.names,y.2≠.cell
 kind:scope.kind=.function
 names:∀y∈scope.names,y.2=.local→scope.names.lookup y.1=some .local
 free:∀y∈scope.names,y.2=.free→scope.names.lookup y.1=some .free
def Cap (X:Cx) (scope:Scope) (N:List Str) (σ σ':St):Prop:=
 σ'.length=N.length∧∀(i:Nat) (y:Str) (v:V),N[i]?=some y→σ'[i]?=some (some v)→(y,NameKind.free)∈scope.names∧∃j:Nat,X.N[j]?=some y∧σ[j]?=some (some v)∧Vis X.env.scope y
theorem aGl {X:Cx} {pins:List (Addr × Obj)} {σ σ':St} {H:Hp} {s:Shared} {scope:Scope} {N:List Str} {cl:List (Str × Addr)} {fp:List Addr} {h1:Heap} {tk:Nat} {m1:Str→Option Value}
  (I:Inv X pins σ H s) (C:xK scope N) (hfr:∀y,(y,NameKind.free)∈scope.names→X.env.kindOf y=some .cell∨X.env.kindOf y=some .free)
  (p1:∀p∈cl,X.env.cells.lookup p.1=some p.2∧(p.1,NameKind.free)∈scope.names) (p2:∀y,(y,NameKind.free)∈scope.names→∃c,(y,c)∈cl)
  (cap:Cap X scope N σ σ') (hf:∀b∈fp,uK X pins H b) (hfl:∀b∈fp,b<s.heap.objs.size)
  (hn:h1.Ns s.heap.objs.size m1) (hk:∀b o,s.heap.get? b=some o→h1.get? b=some o) :
  Inv (cxC X N scope cl s H fp) [] σ' H { s with heap:=h1,toks:=tk }:=by
 have ok:=I.ok
 have lk:∀y c,cl.lookup y=some c→X.env.cells.lookup y=some c:=fun y c e=>(p1 _ (PySem.mem_of_lookup e)).1
 have lk2:∀y,(y,NameKind.free)∈scope.names→∃c,cl.lookup y=some c∧X.env.cells.lookup y=some c:=fun y hy=>by
  obtain ⟨c,hc⟩:=p2 y hy
  obtain ⟨c',e⟩:=lookup_mem hc
  exact ⟨c',e,lk y c' e⟩
 have fsub:∀b∈fp,b∉frs X.stack:=fun b hb z=>by
  obtain ⟨f0,f1,f2,_⟩:=hf b hb
  rcases List.mem_cons.mp (I.aKa b z) with e|e
  ·exact f1 e
  ·exact f2 e
 have ok':(cxC X N scope cl s H fp).Ok:=by
  refine ⟨ok.mod,C.kind,ok.glob,ok.blt,Nat.le_refl _,fun x y c h1 h2=>ok.inj x y c (lk x c h1) (lk y c h2),fun y hy=>?_,fun y c h _=>?_,ok.hd,ok.frames,.inl rfl,fun b hb=>?_,I.bs,Nat.le_trans ok.bsz I.sz,
   fun b o e hb=>?_,fsub,I.stack,I.aMu⟩
  ·obtain ⟨c,e,_⟩:=lk2 y (uX (env:=X.env) C.cell hy)
   exact ⟨c,e⟩
  ·exact absurd (show false=true from h) Bool.false_ne_true
  ·obtain ⟨f0,f1,f2,f3,f4,f5⟩:=hf b hb
   exact ⟨Nat.ne_of_lt (hfl b hb),fun x c e=>f4 x c (lk x c e)⟩
  ·obtain ⟨f0,f1,f2,f3,f4,f5⟩:=hf b hb
   rcases f3 with z|z
   ·exact ok.noex b o e z
   ·exact absurd (Nat.lt_of_lt_of_le (Heap.lt_size e) (Nat.le_trans ok.bsz z)) (Nat.lt_irrefl _)
 refine ⟨ok',rfl,I.bare,Un.kept hk,⟨m1,hn,fun i y v e1 e2 e3=>?_⟩,fun y c e=>?_,I.hok.fresh (Nat.le_refl _),fun y c e=>I.freeC y c (lk y c e),fun p hp=>absurd (show p∈([]:List (Addr × Obj)) from hp) (by simp),I.hok.kept hk,cap.1⟩
 ·obtain ⟨hy,j,e4,e5,e6⟩:=cap.2 i y v e1 e2
  obtain ⟨m,_,hl⟩:=I.loc
  obtain ⟨u,r,l⟩:=hl j y v e4 e5 e6
  refine ⟨u,r,.inr ?_⟩
  rcases l with ⟨k,_⟩|⟨k,c,e,z⟩
  ·rcases hfr y hy with q|q <;> (rw [k] at q;cases q)
  ·obtain ⟨c',e',e''⟩:=lk2 y hy
   rw [e] at e''
   cases e''
   have rl:=uZ (env:=X.env) (k:=.free) (C.free (y,.free) hy rfl)
   refine ⟨rl,c,e',?_⟩
   obtain ⟨o,ho,hd⟩:=z
   exact ⟨o,hk _ _ ho,hd⟩
 ·obtain ⟨v,o,ho,hd⟩:=I.cell y c (lk y c e)
  exact ⟨v,o,hk _ _ ho,hd⟩
def iV (X:Cx) (scope:Scope) (N:List Str) (wi:TI) (g:TG) (tt:TT) (te:TE):TE:=fun σ H Q=>∃σ0,Cap X scope N σ σ0∧wi σ H fun J H1=>∀D,H1 D=none→∃W:Nat→Nat→St→Hp→List V→Prop,(∃m,W 0 m σ0 (upd H1 D (.lst [])) []) ∧
 ∀i m σ' H' ys,W i m σ' H' ys→H' D=some (.lst ys)∧((J.stop i H'∧Q (.ref D) H')∨(J.go i H'∧∀x H2,J.yld i H' x H2→g x σ' H2 fun σ3 H3=>tt σ3 H3 fun b H4=>
  if b=true then te σ3 H4 fun y H5=>H5 D=some (.lst ys)∧ys.length<sizeLine∧∃m',m'<m∧W (i+1) m' σ3 (upd H5 D (.lst (ys++[y]))) (ys++[y]) else H4 D=some (.lst ys)∧∃m',m'<m∧W (i+1) m' σ3 H4 ys))
theorem aUx {X:Cx} {elt target iter:Expr} {ifs:List Expr} {scope:Scope} {pos:Pos} {N:List Str} {wi:TI} {g:TG} {tt:TT} {te:TE}
  (C:xK scope N) (hfr:∀y,(y,NameKind.free)∈scope.names→X.env.kindOf y=some .cell∨X.env.kindOf y=some .free) (hc:X.calm=true)
  (hi:PI X target iter wi)
  (hb:∀cl s H fp,PG (cxC X N scope cl s H fp) target g∧aQz (cxC X N scope cl s H fp) ifs tt∧PE (cxC X N scope cl s H fp) elt te)
  (hs:∀x,foldedSetIterable iter X.env x=pure x:=by intro _;rfl) :
  PE X (.ListComp elt [⟨target,iter,ifs,0⟩] scope pos) (iV X scope N wi g tt te):=by
 intro pins s σ H Q I hq
 obtain ⟨σ0,cap,hq⟩:=hq
 obtain ⟨cl,hcl,p1,p2⟩:=aA3 (scope:=scope) (env:=X.env) (fun y hy hk=>by
  obtain ⟨n,k⟩:=y
  cases hk
  exact I.ok.has n (hfr n hy))
 rw [eval_ListComp]
 refine wpAny_comprehension_free (use:=none) rfl hs hcl C.kind C.names (thn (hi pins s σ H _ I hq) fun xv s1 h1=>thn h1 fun itv s2 h2=>?_)
 obtain ⟨it,fp,tn,J,H2,rfl,I2,T,st2,f2,q2⟩:=h2
 refine wpAny_newObj_type (wpAny_newFunctionEnv C.cell (by intro y hy;simp at hy) (fun h₁ hns₁ hsb₁=>?_) C.kind)
 dsimp only at hns₁ hsb₁ ⊢
 have hD:H2 s2.heap.objs.size=none:=I2.hok.fresh (Nat.le_refl _)
 have I3:Inv X pins σ (upd H2 s2.heap.objs.size (.lst [])) { s2 with heap:=s2.heap.push { cls:=.type "list",dict:=none,data:=.seq ([]:List Value).toArray } }:=
  I2.laid (t':=s2.toks) (fun b u e=>Heap.get?_push_of_some _ e) (Nat.le_refl _) ⟨Nat.zero_le _,[],0,.nil,Heap.get?_push_size _ rfl⟩
 generalize hs3:({ s2 with heap:=s2.heap.push { cls:=.type "list",dict:=none,data:=.seq ([]:List Value).toArray } }:Shared)=s3 at I3
 have hh3:s2.heap.push { cls:=.type "list",dict:=none,data:=.seq ([]:List Value).toArray }=s3.heap:=by rw [←hs3]
 rw [hh3] at hns₁ hsb₁
 have fl2:∀b∈fp,b<s2.heap.objs.size:=fun b hb=>by
  obtain ⟨o,e,_⟩:=T.obj _ _ st2 b hb
  exact Heap.lt_size e
 have fl3:∀b∈fp,b<s3.heap.objs.size:=fun b hb=>by
  rw [←hh3,Heap.size_push]
  exact Nat.lt_succ_of_lt (fl2 b hb)
 have f3:∀b∈fp,uK X pins (upd H2 s2.heap.objs.size (.lst [])) b:=fun b hb=>by
  obtain ⟨f0,fr⟩:=f2 b hb
  exact ⟨by rw [aV (Nat.ne_of_lt (fl2 b hb))];exact f0,fr⟩
 have keep3:∀b o,s3.heap.get? b=some o→h₁.get? b=some o:=fun b o e=>hsb₁.extBut b o (Nat.ne_of_lt (Heap.lt_size e)) (Heap.get?_push_of_some _ e)
 have I4:=aGl (tk:=s3.toks) I3 C hfr p1 p2 cap f3 fl3 hns₁ keep3
 have st4:tn 0 h₁:=T.keep _ _ _ st2 fun b hb o e=>keep3 b o (by rw [←hh3];exact Heap.get?_push_of_some _ e)
 obtain ⟨W,⟨m0,w0⟩,turn⟩:=q2 s2.heap.objs.size hD
 have fpc:∀{H':Hp},(∀b∈fp,H' b=none)→∀b∈fp,uK (cxC X N scope cl s3 (upd H2 s2.heap.objs.size (.lst [])) fp) [] H' b:=fun {H'} hn b hb=>by
  obtain ⟨e1,e2⟩:=I4.ok.exf b hb
  exact ⟨hn b hb,e1,I4.ok.exfs b hb,.inl hb,e2,fun p hp=>absurd (show p∈([]:List (Addr × Obj)) from hp) (by simp)⟩
 have loop:∀s4:Shared,s4={ s3 with heap:=h₁,toks:=s3.toks } →
   codeAny (model X.prog X.w) X.A (.compLoop (.ListComp elt [⟨target,iter,ifs,0⟩] scope pos) 0 (.ref it) (.ref s2.heap.objs.size) (compEnvC scope cl s3.heap.objs.size X.env))
    (compPost (model X.prog X.w) X.A X.xe none (EP X pins σ Q) (.ref s2.heap.objs.size) s3.heap.objs.size) s4:=by
  rintro s4 rfl
  refine aCx (fun n s'=>∃i σ' H' ys,Inv (cxC X N scope cl s3 (upd H2 s2.heap.objs.size (.lst [])) fp) [] σ' H' s'∧tn i s'.heap∧(∀b∈fp,H' b=none)∧W i n σ' H' ys) ?_ m0 ⟨0,σ0,_,[],I4,st4,fun b hb=>(f3 b hb).1,w0⟩
  rintro n s5 ⟨i,σ5,H5,ys,I5,st5,fr5,w5⟩
  obtain ⟨hacc,w5⟩:=turn i n σ5 H5 ys w5
  have noE:∀{α:Type} {t:Sem α} {Q':α→Shared→Prop} {E':Value→Shared→Prop} {s':Shared},wpAny (model X.prog X.w) X.A t Q' (fun _ _=>False) s'→wpAny (model X.prog X.w) X.A t Q' E' s':=fun h=>wpAny_mono h (fun _ _ q=>q) fun _ _ z=>z.elim
  rcases w5 with ⟨stop,qn⟩|⟨go,step⟩
  ·refine noE (thn (T.done (cxC X N scope cl s3 (upd H2 s2.heap.objs.size (.lst [])) fp) rfl rfl rfl hc i [] s5 σ5 H5 _ I5 (fpc fr5) st5 stop) fun r s6 ⟨hr,I6⟩=>?_)
   subst hr
   obtain ⟨m6,hn6,_⟩:=I6.loc
   refine ⟨m6,hn6,fun h' sb=>?_⟩
   have kp:∀b o,b≠s3.heap.objs.size→s6.heap.get? b=some o→h'.get? b=some o:=fun b o hb e=>sb.extBut b o hb e
   have ne3:∀b o,s3.heap.get? b=some o→b≠s3.heap.objs.size:=fun b o e=>Nat.ne_of_lt (Heap.lt_size e)
   have un:Un (frs X.stack) fp (upd H2 s2.heap.objs.size (.lst [])) H5 s3.heap h':=by
    have u:=I6.base
    exact ⟨fun b o e n hb hx=>kp b o (ne3 b o e) (u.keep b o e n hb hx),fun b o e n hb hx=>by
     obtain ⟨sl,e1⟩:=u.slot b o e n hb hx
     exact ⟨sl,kp b _ (ne3 b o e) e1⟩,u.free,fun b o e hx=>by
     obtain ⟨o',e1⟩:=u.there b o e hx
     exact ⟨o',kp b _ (ne3 b o e) e1⟩,u.tups,u.frzs,u.tbls⟩
   have hok:HOk X.prog X.w H5 h':=fun b u e=>by
    refine (I6.hok b u e).stay (fun c v hc' q=>kp c v ?_ q) (fun _ q=>q) fun _ _ q=>q
    have hfree:H5 s3.heap.objs.size=none:=I6.free
    rintro rfl
    rcases hc' with z|z
    ·rw [z] at hfree;rw [hfree] at e;cases e
    ·rw [hfree] at z;cases z
   have I7:Inv X pins σ H5 { s6 with heap:=h' }:=by
    refine I3.call' (s':={ s6 with heap:=h' }) I6.os un hok I6.bare fun b hb=>?_
    obtain ⟨f0,f1,f2',f3',f4,f5⟩:=f3 b hb
    exact ⟨f3',f1,f4,f5⟩
   exact ⟨.ref s2.heap.objs.size,H5,I7,rfl,qn⟩
  ·refine noE (thn (T.item (cxC X N scope cl s3 (upd H2 s2.heap.objs.size (.lst [])) fp) rfl rfl rfl hc i [] s5 σ5 H5 (fun _ _=>False) I5 (fpc fr5) st5 go) fun r s6 ⟨u,hr,h6⟩=>?_)
   subst hr
   refine noE (thn h6 fun _ s7 ⟨x,H7,I7,r7,y7,st7,fr7⟩=>?_)
   obtain ⟨hg,ht,he⟩:=hb cl s3 (upd H2 s2.heap.objs.size (.lst [])) fp
   have I7':=I7.pinned (fpc fr7) (T.obj _ _ st7)
   have back:∀{σ8:St} {H8:Hp} {s8:Shared},Inv (cxC X N scope cl s3 (upd H2 s2.heap.objs.size (.lst [])) fp) ([]++wR fp s7.heap) σ8 H8 s8→tn (i+1) s8.heap∧∀b∈fp,H8 b=none:=fun {σ8 H8 s8} I8=>
    ⟨T.keep _ _ _ st7 fun b hb o e=>(I8.pin (b,o) (List.mem_append_right _ (List.mem_append_right _ (jD hb e)))).1,fun b hb=>by
     obtain ⟨o,e,d⟩:=T.obj _ _ st7 b hb
     exact (I8.pin (b,o) (List.mem_append_right _ (List.mem_append_right _ (jD hb e)))).2.1⟩
   refine noE (thn (hg _ s7 σ5 H7 x u _ I7' r7 (step x H7 y7)) fun _ s8 ⟨σ8,H8,I8,q8⟩=>?_)
   refine noE (thn (ht _ s8 σ8 H8 _ I8 q8) fun b s9 ⟨H9,I9,q9⟩=>?_)
   cases b with
   |false=>
    rw [if_neg Bool.false_ne_true] at q9 ⊢
    obtain ⟨_,m',hm,w9⟩:=q9
    exact ⟨m',hm,i+1,σ8,H9,ys,I9.mC,(back I9).1,(back I9).2,w9⟩
   |true=>
    rw [if_pos rfl] at q9 ⊢
    refine noE (thn (he _ s9 σ8 H9 _ I9 q9) fun yv s10 ⟨y,H10,I10,r10,hacc10,hlen,m',hm,w10⟩=>?_)
    refine noE (thn (wQ _ s10 σ8 H10 (.ref s2.heap.objs.size) [y] (.ref s2.heap.objs.size) [yv] (fun _ H11=>H11=upd H10 s2.heap.objs.size (.lst (ys++[y]))) I10 rfl (.cons r10 .nil) ⟨_,_,_,rfl,rfl,hacc10,hlen,rfl⟩) fun _ s11 ⟨z,H11,I11,_,e11⟩=>?_)
    subst e11
    exact ⟨m',hm,i+1,σ8,_,ys++[y],I11.mC,(back I11).1,(back I11).2,w10⟩
 have fin:=codeAny_compStart_list (loop { s3 with heap:=h₁,toks:=s3.toks } rfl) (T.self _ _ _ _ _ st4 (loop { s3 with heap:=h₁,toks:=s3.toks } rfl))
 subst hs3
 exact fin
end L2
namespace PySem
open Sem (wp)
namespace IfF
theorem aSg:typeLookup (.type "function") "__class__"=pure (some (.builtin "object.__class__")):=by rw [typeLookup_type,builtinLookup_eq_fast];kernel_rfl
theorem zT:Slot "function" "__getattribute__" "object.__getattribute__":=
 .of (owner:="object") (n:="__getattribute__") (by rw [typeLookup_type,builtinLookup_eq_fast];kernel_rfl) (by decide +kernel) (by decide +kernel) (by decide +kernel)
  (by first|exact .inl (by decide +kernel)|exact .inr (by decide +kernel)) (by rw [isSubtype_type];kernel_rfl)
theorem aRo:entryFor table "object.__getattribute__"=some Builtin.«object.__getattribute__»:=entryFor_of_tree (by kernel_rfl)
theorem yZ:isSubtype (.type "function") (.type (".".intercalate ("object.__class__".cutAt '.').dropLast))=pure true:=by
 rw [F.owner_object_class,isSubtype_type];kernel_rfl
theorem sub_int:isSubtype (.type "function") (.type "int")=pure false:=by rw [isSubtype_type];kernel_rfl
theorem sub_bool:isSubtype (.type "function") (.type "bool")=pure false:=by rw [isSubtype_type];kernel_rfl
theorem aS4:isSubtype (.type "function") (.type "str")=pure false:=by rw [isSubtype_type];kernel_rfl
end IfF
section
variable {prog:Program} {w:World} {A:Around} {E:Value→Shared→Prop} {h:Heap} {g:Array GenState} {d:Drawn} {t:Nat} {os:OsState} {a:Addr} {o:Obj}
theorem aEk {R:Result→Shared→Prop} (hx:h.get? a=some o) (hc:o.cls=.type "function") (hq:R (.ok (.ret (.type "function"))) ⟨h,g,d,t,os⟩) :
  codeAny (model prog w) A (.call (.builtin "getset_descriptor.__get__") ⟨[.builtin "object.__class__",.ref a,.type "function"],[]⟩) R ⟨h,g,d,t,os⟩:=by
 have hT:(⟨h,g,d,t,os⟩:Shared).TypeIs (.ref a) "function":=⟨_,hx,hc⟩
 have hT5:(⟨h,g,d,t,os⟩:Shared).TypeIs (.builtin "object.__class__") "getset_descriptor":=F.typeOf_object_class
 have f8:=IfF.yZ
 refine codeAny_call_builtin F.slot_gs_get.plain F.entry_gs_get (F.slot_gs_get.check _ _ _ _ _ _ _ _ hT5 (F.args_gs_get _ _ _) ?_)
 repeat (any_goals (first|assumption|wp_step))
 refine ⟨Code.quiet_builtin _ (by decide +kernel),codeAny_builtin F.entry_object_class ?_⟩
 repeat (any_goals (first|assumption|wp_step))
theorem aAa {tk:Tok} {Q:Fin→Shared→Prop} (hx:h.get? a=some o) (hc:o.cls=.type "function") (hq:Q (.done (.ret (.type "function"))) ⟨h,g,d,t,os⟩) :
  wpAny (model prog w) A (Builtin.«object.__getattribute__» ⟨[.ref a,.str "__class__" tk],[]⟩) Q E ⟨h,g,d,t,os⟩:=by
 have hT:(⟨h,g,d,t,os⟩:Shared).TypeIs (.ref a) "function":=⟨_,hx,hc⟩
 have hT5:(⟨h,g,d,t,os⟩:Shared).TypeIs (.builtin "object.__class__") "getset_descriptor":=F.typeOf_object_class
 have f4:=IfF.aSg
 have f5:=F.typeOf_object_class
 have f6:=F.slot_gs_get.lookup
 have f7:=F.slot_gs_set.lookup
 repeat (any_goals (first|assumption|wp_step))
 refine aEk hx hc ?_
 repeat (any_goals (first|assumption|wp_step))
theorem aI3 {tk:Tok} {Q:Value→Shared→Prop} (hx:h.get? a=some o) (hc:o.cls=.type "function") (hq:Q (.type "function") ⟨h,g,d,t,os⟩):wpAny (model prog w) A (getAttrBy (.ref a) (.str "__class__" tk) false) Q E ⟨h,g,d,t,os⟩:=by
 have hT:(⟨h,g,d,t,os⟩:Shared).TypeIs (.ref a) "function":=⟨_,hx,hc⟩
 have f2:=IfF.zT.lookup
 have f3:=IfF.zT.bind (.ref a)
 repeat (any_goals (first|assumption|wp_step))
 refine codeAny_call_builtin IfF.zT.plain IfF.aRo (IfF.zT.check _ _ _ _ _ _ _ _ hT (F.args_object_getattribute_2 _ _) (aAa hx hc ?_))
 repeat (any_goals (first|assumption|wp_step))
theorem aBj {Q:Option Value→Shared→Prop} (hx:h.get? a=some o) (hc:o.cls=.type "function") (hq:Q (some (.type "function")) ⟨h,g,d,t+1,os⟩):wpAny (model prog w) A (getAttr? (.ref a) "__class__") Q E ⟨h,g,d,t,os⟩:=by
 unfold getAttr? getAttrBy?
 repeat (any_goals (first|assumption|with_reducible apply aI3 hx hc|wp_step))
theorem aB9 {T:String} {dep:Int} {tk:Tok} {Q:Fin→Shared→Prop} (hx:h.get? a=some o) (hc:o.cls=.type "function") (hne:(Value.type "function" == Value.type T)=false) (hty:typeOf (.type T)=pure (.type "type"))
  (hsub:isSubtype (.type "function") (.type T)=pure false) (hq:Q (.done (.ret (.bool false))) ⟨h,g,d,t+1,os⟩) :
  wpAny (model prog w) A (Builtin.«isinstance.nested» ⟨[.ref a,.type T,.int dep tk],[]⟩) Q E ⟨h,g,d,t,os⟩:=by
 have hT:(⟨h,g,d,t,os⟩:Shared).TypeIs (.ref a) "function":=⟨_,hx,hc⟩
 repeat (any_goals (first|assumption|with_reducible apply aBj hx hc|wp_step))
end
theorem pL {a:Addr} {T:String} (hne:(Value.type "function" == Value.type T)=false) (hty:typeOf (.type T)=pure (.type "type")) (hsub:isSubtype (.type "function") (.type T)=pure false) :
  Meets (Builtin.«isinstance» ⟨[.ref a,.type T],[]⟩) (fun _ R s=>(∃o,s.heap.get? a=some o∧o.cls=.type "function")∧R (.ok (.ret (.bool false))) { s with toks:=s.toks+1 }):=
 fun _ _ _ _ s hs=>by
  obtain ⟨h,g,d,t,os⟩:=s
  obtain ⟨⟨o,hx,hc⟩,hq⟩:=hs
  exact isinstance_outer (aB9 hx hc hne hty hsub hq)
section
variable {prog:Program} {w:World} {A:Around} {E:Value→Shared→Prop} {s:Shared} {Q:Value→Shared→Prop} {a:Addr} {o:Obj}
theorem aKn (hx:s.heap.get? a=some o) (hc:o.cls=.type "function") (h:Q (.bool false) { s with toks:=s.toks+1 }):wpAny (model prog w) A (call (.builtin "isinstance") [.ref a,.type "int"]) Q E s:=
 call_isinstance (pL (by decide) F.isi_meta_int IfF.sub_int) ⟨⟨o,hx,hc⟩,h⟩
theorem aIt (hx:s.heap.get? a=some o) (hc:o.cls=.type "function") (h:Q (.bool false) { s with toks:=s.toks+1 }):wpAny (model prog w) A (call (.builtin "isinstance") [.ref a,.type "bool"]) Q E s:=
 call_isinstance (pL (by decide) F.isi_meta_bool IfF.sub_bool) ⟨⟨o,hx,hc⟩,h⟩
theorem aL0 (hx:s.heap.get? a=some o) (hc:o.cls=.type "function") (h:Q (.bool false) { s with toks:=s.toks+1 }):wpAny (model prog w) A (call (.builtin "isinstance") [.ref a,.type "str"]) Q E s:=
 call_isinstance (pL (by decide) F.isi_meta_str IfF.aS4) ⟨⟨o,hx,hc⟩,h⟩
end
end PySem
namespace L2
open PySem PySem.Spec PyProof.Rows
section
variable {X:Cx}
theorem PE.imp {e:Expr} {t t':TE} (h:PE X e t) (k:∀σ H Q,t' σ H Q→t σ H Q):PE X e t':=fun pins s σ H Q I q=>h pins s σ H Q I (k σ H Q q)
def aZv (K:PySem.W.Frag):List V→Hp→VK→Prop:=fun xs H Q=>∃(p:Addr) (bs:List Bool),xs=[.ref p]∧SqL K H p (bs.map V.bl)∧Q (.bl (bs.all id)) H
theorem all_range (bs:List Bool):(List.range bs.length).all (fun i=>bs.getD i false)=bs.all id:=by
 rw [Bool.eq_iff_iff,List.all_eq_true,List.all_eq_true]
 constructor
 ·intro h b hb
  obtain ⟨i,hi,e⟩:=List.mem_iff_getElem.mp hb
  have:=h i (List.mem_range.mpr hi)
  rw [List.getD_eq_getElem?_getD,List.getElem?_eq_getElem hi] at this
  rw [←e]
  exact this
 ·intro h i hi
  have hi:=List.mem_range.mp hi
  rw [List.getD_eq_getElem?_getD,List.getElem?_eq_getElem hi]
  exact h _ (List.getElem_mem hi)
theorem vV (hc:X.calm=true):cR X (.builtin "all") (aZv X.K):=by
 intro pins s σ H xs us Q I r h
 obtain ⟨p,bs,rfl,hq,q⟩:=h
 obtain ⟨u,rfl,rx⟩:=r.one
 cases rx
 obtain ⟨its,rv,pl,hz⟩:=I.list hq
 have hl:=rv.length
 rw [List.length_map] at hl
 have hne:p≠s.heap.objs.size:=by
  obtain ⟨o,ho,_⟩:=pl.isList
  exact Nat.ne_of_lt (Heap.lt_size ho)
 refine call_all_walk (wpAny_pyIter_list pl.isList ?_)
 refine ⟨s.heap.objs.size,_,_,_,_,_,fun i=>bs.getD i false,rfl,Walks.list (show X.A.in1.handled=none from I.ok.hd hc) _ p hne its.toArray,⟨⟨_,Heap.get?_push_size _ rfl,rfl,rfl⟩,?_⟩,?_,fun h' tk kp=>?_⟩
 ·exact pl.isList.at fun o e=>Heap.get?_push_of_some _ e
 ·intro i v s' Q' E' hv hq'
  have hv':its[i]?=some v:=by simpa using hv
  have hi:i<bs.length:=by rw [hl];exact (List.getElem?_eq_some_iff.mp hv').1
  obtain ⟨u,hu,ru⟩:=rv.get (i:=i) (x:=.bl bs[i]) (by rw [List.getElem?_map,List.getElem?_eq_getElem hi];rfl)
  rw [hv'] at hu
  cases hu
  cases ru
  have e:bs.getD i false=bs[i]:=by rw [List.getD_eq_getElem?_getD,List.getElem?_eq_getElem hi];rfl
  replace hq':Q' (bs.getD i false) s':=hq'
  rw [e] at hq'
  exact wpAny_truthy_bool hq'
 ·have e:(List.range its.toArray.size).all (fun i=>bs.getD i false)=bs.all id:=by
   rw [List.size_toArray,←hl];exact all_range bs
  rw [e]
  refine ⟨.bl (bs.all id),H,?_,rfl,q⟩
  exact I.kept fun b o eo=>kp b o (by
   intro z
   have:b=s.heap.objs.size:=by simpa using z
   rw [this] at eo
   exact absurd (Heap.lt_size eo) (Nat.lt_irrefl _)) (Heap.get?_push_of_some _ eo)
inductive Rk (K:PySem.W.Frag) (H:Hp):V→String→Prop
 |non:Rk K H .non "NoneType"
 |lst {a xs}:SqL K H a xs→Rk K H (.ref a) "list"
 |tup {a xs}:SqT K H a xs→Rk K H (.ref a) "tuple"
 |dct {a kvs}:H a=some (.dK kvs)→Rk K H (.ref a) "dict"
 |fn {a o}:K.lookup a=some o→o.cls=.type "function"→Rk K H (.ref a) "function"
def aVd (K:PySem.W.Frag):List V→Hp→VK→Prop:=fun xs H Q=>∃x k T,xs=[x,.ty T]∧Rk K H x k∧(T = "int"∨T = "bool"∨T = "str")∧Q (.bl false) H
theorem rQ:cR X (.builtin "isinstance") (aVd X.K):=by
 intro pins s σ H xs us Q I r h
 obtain ⟨x,k,T,rfl,hx,hT,q⟩:=h
 obtain ⟨u,v,rfl,rx,rT⟩:=r.two
 cases rT
 have f1:EP X pins σ Q (.bool false) { s with toks:=s.toks+1 }:=⟨.bl _,H,I.tok _,rfl,q⟩
 cases hx with
 |non=>
  cases rx
  rcases hT with rfl|rfl|rfl
  ·exact IsiPair.NoneType_int f1
  ·exact IsiPair.NoneType_bool f1
  ·exact IsiPair.NoneType_str f1
 |lst hq=>
  cases rx
  obtain ⟨its,rv,⟨o,n,e,c,_⟩,hz⟩:=I.list hq
  rcases hT with rfl|rfl|rfl
  ·exact IsiPair.list_int e c f1
  ·exact IsiPair.list_bool e c f1
  ·exact IsiPair.list_str e c f1
 |tup hq=>
  cases rx
  obtain ⟨its,rv,⟨o,e,c,_⟩,hz⟩:=I.tuple hq
  rcases hT with rfl|rfl|rfl
  ·exact IsiPair.tuple_int e c f1
  ·exact IsiPair.tuple_bool e c f1
  ·exact IsiPair.tuple_str e c f1
 |dct hq=>
  cases rx
  obtain ⟨_,_,_,_,o,_,_,e,ex,_⟩:=I.hok _ _ hq
  rcases hT with rfl|rfl|rfl
  ·exact IsiPair.dict_int e ex.1 f1
  ·exact IsiPair.dict_bool e ex.1 f1
  ·exact IsiPair.dict_str e ex.1 f1
 |fn hk hc=>
  cases rx
  have e:=I.kIn _ _ hk
  rcases hT with rfl|rfl|rfl
  ·exact aKn e hc f1
  ·exact aIt e hc f1
  ·exact aL0 e hc f1
end
theorem cY {X:Cx} {scope:Scope} (h:∀z∈scope.names,z.2≠.free):∀y,(y,NameKind.free)∈scope.names→X.env.kindOf y=some .cell∨X.env.kindOf y=some .free:=fun y hy=>absurd rfl (h _ hy)
theorem cO {X:Cx} {scope:Scope} (sc:Scope) (e:X.env.scope=sc) (h:∀z∈scope.names,z.2=.free→sc.names.lookup z.1=some .cell∨sc.names.lookup z.1=some .free) :
  ∀y,(y,NameKind.free)∈scope.names→X.env.kindOf y=some .cell∨X.env.kindOf y=some .free:=fun y hy=>by
 show X.env.scope.names.lookup y=some .cell∨X.env.scope.names.lookup y=some .free
 rw [e]
 exact h _ hy rfl
theorem Same.aP {K:PySem.W.Frag} {H H':Hp} {a:Addr} {xs:List V} (e:Same H H') (h:SqT K H a xs):SqT K H' a xs:=by
 rcases h with (h|⟨o,h⟩)|h
 ·exact .inl (.inl (e _ _ h))
 ·exact .inl (.inr ⟨o,e _ _ h⟩)
 ·exact .inr h
theorem bF {H:Hp} {p:Addr} (h:H p=none) (o:HO):Same H (upd H p o):=fun b u q=>by rw [aV (bB q h)];exact q
theorem Rk.same {K:PySem.W.Frag} {H H':Hp} {v:V} {k:String} (e:Same H H') (h:Rk K H v k):Rk K H' v k:=by
 cases h with
 |non=>exact .non
 |lst q=>exact .lst (e.seq q)
 |tup q=>exact .tup (e.aP q)
 |dct q=>exact .dct (e _ _ q)
 |fn q c=>exact .fn q c
theorem fH {X:Cx} {scope:Scope} {x:Str} {σ:St}:Cap X scope [x] σ [none]:=⟨rfl,fun i y v _ h2=>by
 cases i with
 |zero=>cases h2
 |succ i=>cases h2⟩
section
theorem aNu {X:Cx} {scope:Scope} {N:List Str} {wi:TI} {te:TE} {σ:St} {H:Hp} {Q:VK} (xs:List V) (f:V→V) (σ0:St) (cap:Cap X scope N σ σ0) (hsz:xs.length≤sizeLine)
  (hw:∀R:It→Hp→Prop,(∀J:It,(∀H' i x,Same H H'→xs[i]?=some x→J.go i H'∧∀y H2,J.yld i H' y H2→H2=H'∧y=x)→(∀H',Same H H'→J.stop xs.length H')→R J H)→wi σ H R)
  (he:∀x∈xs,∀H' R l,Same H H'→R (f x) H'→te ((σ0.set 0 l).set 0 (some x)) H' R) (h0:σ0[0]?=some none)
  (q:∀D,H D=none→Q (.ref D) (upd H D (.lst (xs.map f)))) :
  iV X scope N wi (bQ 0) mL te σ H Q:=by
 refine ⟨σ0,cap,hw _ fun J go stop D hD=>?_⟩
 have sm:∀ys:List V,Same H (upd H D (.lst ys)):=fun ys b o e=>by rw [aV (bB e hD)];exact e
 refine ⟨fun i m σ' H' ys=>i≤xs.length∧m=xs.length - i∧(∃l,σ'=σ0.set 0 l)∧H'=upd H D (.lst ys)∧ys=(xs.take i).map f,⟨xs.length,Nat.zero_le _,rfl,⟨none,?_⟩,rfl,rfl⟩,?_⟩
 ·refine (List.ext_getElem? fun j=>?_)
  rw [List.getElem?_set]
  split
  ·rename_i hj
   subst hj
   split
   ·exact h0
   ·rename_i hlt
    exact List.getElem?_eq_none_iff.mpr (by lia)
  ·rfl
 ·rintro i m σ' H' ys ⟨hi,rfl,⟨l,rfl⟩,rfl,rfl⟩
  refine ⟨aH,?_⟩
  by_cases hlt:i<xs.length
  ·right
   obtain ⟨g1,g2⟩:=go (upd H D (.lst ((xs.take i).map f))) i xs[i] (sm _) (List.getElem?_eq_getElem hlt)
   refine ⟨g1,fun x H2 hy=>?_⟩
   obtain ⟨rfl,rfl⟩:=g2 x H2 hy
   unfold bQ mL
   dsimp only
   rw [if_pos rfl]
   refine he xs[i] (List.getElem_mem hlt) _ _ l (sm _) ⟨aH,?_,xs.length - (i+1),by lia,hlt,rfl,⟨some xs[i],?_⟩,?_,?_⟩
   ·rw [List.length_map,List.length_take];lia
   ·rw [List.set_set]
   ·rw [aUw]
   ·rw [List.take_add_one,List.getElem?_eq_getElem hlt,List.map_append]
    rfl
  ·left
   have e:i=xs.length:=by lia
   subst e
   refine ⟨stop _ (sm _),?_⟩
   rw [List.take_length]
   exact q D hD
theorem aWp {z:Str} {tl:TE} {σ:St} {H:Hp} (h:∀R:VK,R (.str z) H→tl σ H R) (R:It→Hp→Prop)
  (q:∀J:It,(∀H' i x,Same H H'→((List.range z.cps.size).map fun i=>V.str (sgn z i))[i]?=some x→J.go i H'∧∀y H2,J.yld i H' y H2→H2=H'∧y=x) →
   (∀H',Same H H'→J.stop ((List.range z.cps.size).map fun i=>V.str (sgn z i)).length H')→R J H):aWh tl σ H R:=by
 refine h _ ⟨z,rfl,q _ (fun H' i x _ e=>?_) fun H' _=>?_⟩
 ·rw [List.getElem?_map] at e
  have hi:i<z.cps.size:=by
   cases hr:(List.range z.cps.size)[i]? with
   |none=>rw [hr] at e;cases e
   |some j=>have:=(List.getElem?_eq_some_iff.mp hr).1;rwa [List.length_range] at this
  rw [List.getElem?_range hi] at e
  cases e
  exact ⟨hi,fun y H2 hy=>hy⟩
 ·rw [List.length_map,List.length_range]
  exact Nat.le_refl _
theorem lJ {K:PySem.W.Frag} {a:Addr} {xs:List V} {tl:TE} {σ:St} {H:Hp} (hS:∀H',Same H H'→SqL K H' a xs) (h:∀R:VK,R (.ref a) H→tl σ H R) (R:It→Hp→Prop)
  (q:∀J:It,(∀H' i x,Same H H'→xs[i]?=some x→J.go i H'∧∀y H2,J.yld i H' y H2→H2=H'∧y=x)→(∀H',Same H H'→J.stop xs.length H')→R J H):sY K tl σ H R:=by
 refine h _ ⟨a,rfl,⟨xs,hS H (Same.refl H)⟩,q _ (fun H' i x s e=>⟨⟨xs,x,hS H' s,e⟩,fun y H2 hy=>?_⟩) fun H' s=>⟨xs,hS H' s,Nat.le_refl _⟩⟩
 obtain ⟨e1,e2⟩:=hy
 have e3:=e2 xs (hS H' s)
 rw [e] at e3
 cases e3
 exact ⟨e1,rfl⟩
end
end L2
namespace PySem
abbrev sO (t:Addr) (i:Nat):Obj:={ cls:=.type "tuple_iterator",data:=.fields #[.ref t,.int (i:Int) 0] }
abbrev xP (f0:Value) (TI TO:Addr):Obj:={ cls:=.type "zip",dict:=none,data:=.fields #[f0,.bool false,.bool false,.ref TI,.ref TO],slots:=#[] }
abbrev pD (a b:Value):Obj:={ cls:=.type "tuple",data:=.seq #[a,b] }
section
variable {prog:Program} {w:World} {A:Around} {E:Value→Shared→Prop} {s:Shared}
theorem zY {it t:Addr} {i:Nat} {its:Array Value} {x:Value} {Q:Value→Shared→Prop} (ho:s.heap.get? it=some (sO t i)) (ht:s.heap.IsTuple t its) (hx:its[i]?=some x)
  (q:∀h',h'.get? it=some (sO t (i+1))→Heap.SameBut it s.heap h'→Q x { s with heap:=h' }):wpAny (model prog w) A (Builtin.SmallTypes.nextOf (.ref it)) Q E s:=by
 have hT:s.TypeIs (.ref it) "tuple_iterator":=⟨_,ho,rfl⟩
 obtain ⟨ol,hol,_,nl,hdl⟩:=ht
 unfold Builtin.SmallTypes.nextOf
 refine wpAny_bind (wpAny_callSpecial?_slot (name:=Str.ofString "__next__") hT F.slot_tuple_iterator_next (wpAny_call_entry F.slot_tuple_iterator_next hT F.entry_tuple_iterator_next ?_ (F.args_tuple_iterator_next_1 _)))
 refine wpAny_bind (m:=field (.ref it) 0) (wpAny_field ho rfl (x:=.ref t) rfl ?_)
 refine (if_neg (show ¬ ((Value.ref t == Value.none)=true) from Bool.false_ne_true)).symm ▸ ?_
 refine wpAny_bind (m:=field (.ref it) 1) (wpAny_field ho rfl (x:=.int i 0) rfl ?_)
 refine wpAny_bind (m:=seqItems? (.ref t)) (wpAny_seqItems hol hdl ?_)
 simp only [Int.toNat_natCast,hx]
 refine wpAny_bind (wpAny_setField ho rfl (by simp) (wpAny_pure ⟨x,rfl,wpAny_pure (q _ ?_ (Heap.SameBut.update ..))⟩))
 exact Heap.get?_update_self _ ho rfl
theorem aAg {it t:Addr} {i:Nat} {its:Array Value} {Q:Value→Shared→Prop} (hh:A.handled=none) (ho:s.heap.get? it=some (sO t i)) (ht:s.heap.IsTuple t its) (hx:its[i]?=none)
  (q:∀h' e,Heap.ExtBut it s.heap h'→(∃o,h'.get? e=some o∧o.cls=.type "StopIteration")→E (.ref e) { s with heap:=h' }):wpAny (model prog w) A (Builtin.SmallTypes.nextOf (.ref it)) Q E s:=by
 have hT:s.TypeIs (.ref it) "tuple_iterator":=⟨_,ho,rfl⟩
 obtain ⟨ol,hol,_,nl,hdl⟩:=ht
 unfold Builtin.SmallTypes.nextOf
 refine wpAny_bind (wpAny_callSpecial?_slot (name:=Str.ofString "__next__") hT F.slot_tuple_iterator_next (wpAny_call_entry F.slot_tuple_iterator_next hT F.entry_tuple_iterator_next ?_ (F.args_tuple_iterator_next_1 _)))
 refine wpAny_bind (m:=field (.ref it) 0) (wpAny_field ho rfl (x:=.ref t) rfl ?_)
 refine (if_neg (show ¬ ((Value.ref t == Value.none)=true) from Bool.false_ne_true)).symm ▸ ?_
 refine wpAny_bind (m:=field (.ref it) 1) (wpAny_field ho rfl (x:=.int i 0) rfl ?_)
 refine wpAny_bind (m:=seqItems? (.ref t)) (wpAny_seqItems hol hdl ?_)
 simp only [Int.toNat_natCast,hx]
 refine wpAny_bind (wpAny_rule (wpAny_bind (wpAny_setField ho rfl (by simp) ?_)))
 unfold Builtin.SmallTypes.stopIteration
 refine wpAny_bind ?_
 simp only [newExc,newTuple]
 refine wpAny_bind (wpAny_newObj_type ?_ (by size_fits))
 refine wpAny_bind (m:=firstArgMember _ _) (wpAny_of_eq (a:=Value.none) (by first|rfl|(simp only [firstArgMember];rfl)) ?_)
 refine wpAny_newObj_type ?_ (by size_fits)
 simp only [raiseNew]
 refine wpAny_bind (wpAny_handled ?_)
 first|rw [show A.in1.handled=none from hh]|rw [hh]
 refine wpAny_bind (wpAny_pure (wpAny_throw ?_))
 exact q _ _ (((Heap.SameBut.update ..).extBut.push _).push _) ⟨_,Heap.get?_push_size _ rfl,rfl⟩
structure aE5 (z TI TO a b:Addr):Prop where
 h1:TI≠z
 h2:TO≠z
 h3:a≠z
 h4:b≠z
 h5:TI≠TO
 h6:TI≠a
 h7:TI≠b
 h8:TO≠a
 h9:TO≠b
 h10:a≠b
theorem aMe {T:Addr} {a b x:Value} {k:Nat} {Q:Unit→Shared→Prop} (hT:s.heap.get? T=some (pD a b))
  (q:∀h',h'.get? T=some { cls:=.type "tuple",data:=.seq ((#[a,b]:Array Value).setIfInBounds k x) }→Heap.SameBut T s.heap h'→Q () { s with heap:=h' }) :
  wpAny (model prog w) A (updateSeq T (·.setIfInBounds k x)) Q E s:=by
 refine wpAny_updateSeq hT rfl (q _ ?_ (Heap.SameBut.update ..))
 rw [Heap.get?_update_self _ hT rfl]
 simp [Obj.mapSeq]
theorem aOl {z TI TO i1 i2 t u:Addr} {k:Nat} {xs ys:Array Value} {x y a b:Value} {Q:Option Value→Shared→Prop} (D:aE5 z TI TO i1 i2)
  (hz:s.heap.get? z=some (xP .none TI TO)) (hTI:s.heap.get? TI=some (pD (.ref i1) (.ref i2))) (hTO:s.heap.get? TO=some (pD a b))
  (g1:s.heap.get? i1=some (sO t k)) (g2:s.heap.get? i2=some (sO u k)) (ht:s.heap.IsTuple t xs) (hu:s.heap.IsTuple u ys) (hx:xs[k]?=some x) (hy:ys[k]?=some y)
  (t1:t≠z) (t2:t≠TO) (t3:t≠i1) (t4:t≠i2) (u1:u≠z) (u2:u≠TO) (u3:u≠i1) (u4:u≠i2)
  (q:∀h',h'.get? z=some (xP (rawInt s.heap.objs.size) TI TO)→h'.get? TO=some (pD x y)→h'.get? i1=some (sO t (k+1))→h'.get? i2=some (sO u (k+1))→h'.get? s.heap.objs.size=some (pD x y) →
   (∀c o,c≠z→c≠TO→c≠i1→c≠i2→s.heap.get? c=some o→h'.get? c=some o)→Q (some (.ref s.heap.objs.size)) { s with heap:=h' }) :
  wpAny (model prog w) A (pyNext (.ref z)) Q E s:=by
 have hT:s.TypeIs (.ref z) "zip":=⟨_,hz,rfl⟩
 unfold pyNext
 refine wpAny_bind (wpAny_attempt (wpAny_callSpecial?_slot (name:=Str.ofString "__next__") hT F.slot_zip_next (wpAny_call_entry F.slot_zip_next hT F.entry_zip_next ?_ (F.args_zip_next_1 _))))
 refine wpAny_bind (m:=field (.ref z) 2) (wpAny_field hz rfl (x:=.bool false) rfl ?_)
 refine wpAny_bind (m:=field (.ref z) 3) (wpAny_field hz rfl (x:=.ref TI) rfl (wpAny_bind (wpAny_seqItems hTI rfl ?_)))
 refine wpAny_bind (m:=Builtin.SmallTypes.ownedTupleIsFree (.ref z)) ?_
 unfold Builtin.SmallTypes.ownedTupleIsFree
 refine wpAny_bind (wpAny_field hz rfl (x:=.none) rfl (wpAny_pure ?_))
 simp only [if_true]
 refine wpAny_bind (wpAny_rule (wpAny_bind (wpAny_field hz rfl (x:=.ref TO) rfl (wpAny_bind (wpAny_setField_rec hz (by simp) fun h1 z1 s1=>?_)))))
 replace z1:h1.get? z=some (xP .ellipsis TI TO):=z1
 refine wpAny_bind ?_
 simp only [List.zipIdx_cons,List.zipIdx_nil,List.forIn_cons,List.forIn_nil]
 refine wpAny_bind (wpAny_bind (wpAny_onRaise ?_))
 refine wpAny_bind (m:=Builtin.SmallTypes.nextOf (.ref i1)) (zY (s:={ s with heap:=h1 }) (s1.extBut _ _ D.h3 g1) (ht.extBut s1.extBut t1) hx fun h2 g12 s2=>wpAny_pure ?_)
 have TO2:h2.get? TO=some (pD a b):=s2.extBut _ _ D.h8 (s1.extBut _ _ D.h2 hTO)
 refine wpAny_bind (wpAny_seqItems TO2 rfl (wpAny_bind (aMe (s:={ s with heap:=h2 }) TO2 fun h3 TO3 s3=>wpAny_bind (wpAny_letGo (wpAny_pure ?_)))))
 replace TO3:h3.get? TO=some (pD x b):=TO3
 refine wpAny_bind (wpAny_bind (wpAny_onRaise ?_))
 refine wpAny_bind (m:=Builtin.SmallTypes.nextOf (.ref i2)) (zY (s:={ s with heap:=h3 }) (s3.extBut _ _ D.h9.symm (s2.extBut _ _ D.h10.symm (s1.extBut _ _ D.h4 g2))) (((hu.extBut s1.extBut u1).extBut s2.extBut u3).extBut s3.extBut u2) hy fun h4 g24 s4=>wpAny_pure ?_)
 have TO4:h4.get? TO=some (pD x b):=s4.extBut _ _ D.h9 TO3
 refine wpAny_bind (wpAny_seqItems TO4 rfl (wpAny_bind (aMe (s:={ s with heap:=h4 }) TO4 fun h5 TO5 s5=>wpAny_bind (wpAny_letGo (wpAny_pure (wpAny_pure ?_))))))
 replace TO5:h5.get? TO=some (pD x y):=TO5
 refine wpAny_bind (wpAny_seqItems TO5 rfl (wpAny_bind (wpAny_newTuple ?_)))
 have hsz:h5.objs.size=s.heap.objs.size:=by rw [s5.1,s4.1,s3.1,s2.1,s1.1]
 have z5:h5.get? z=some (xP .ellipsis TI TO):=s5.extBut _ _ D.h2.symm (s4.extBut _ _ D.h4.symm (s3.extBut _ _ D.h2.symm (s2.extBut _ _ D.h3.symm z1)))
 have kp:∀c o,c≠z→c≠TO→c≠i1→c≠i2→s.heap.get? c=some o→h5.get? c=some o:=fun c o c1 c2 c3 c4 e=>s5.extBut _ _ c2 (s4.extBut _ _ c4 (s3.extBut _ _ c2 (s2.extBut _ _ c3 (s1.extBut _ _ c1 e))))
 have g15:h5.get? i1=some (sO t (k+1)):=s5.extBut _ _ D.h8.symm (s4.extBut _ _ D.h10 (s3.extBut _ _ D.h8.symm g12))
 have g25:h5.get? i2=some (sO u (k+1)):=s5.extBut _ _ D.h9.symm g24
 refine wpAny_bind (m:=Builtin.SmallTypes.ownedTupleHandOut (.ref z) (.ref h5.objs.size)) ?_
 unfold Builtin.SmallTypes.ownedTupleHandOut
 have z6:(h5.push (pD x y)).get? z=some (xP .ellipsis TI TO):=Heap.get?_push_of_some _ z5
 refine wpAny_bind (wpAny_setField_rec z6 (by simp) fun h7 z7 s7=>?_)
 replace z7:h7.get? z=some (xP (rawInt h5.objs.size) TI TO):=z7
 refine wpAny_setField_rec z7 (by simp) fun h8 z8 s8=>?_
 replace z8:h8.get? z=some (xP (rawInt h5.objs.size) TI TO):=z8
 have up:∀c o,c≠z→h5.get? c=some o→h8.get? c=some o:=fun c o c1 e=>s8.extBut _ _ c1 (s7.extBut _ _ c1 (Heap.get?_push_of_some _ e))
 have nz:h5.objs.size≠z:=Nat.ne_of_gt (Heap.lt_size z5)
 have T8:h8.get? h5.objs.size=some (pD x y):=s8.extBut _ _ nz (s7.extBut _ _ nz (Heap.get?_push_size _ rfl))
 rw [hsz] at z8 T8
 refine wpAny_pure ⟨_,rfl,wpAny_pure ?_⟩
 show Q (some (.ref h5.objs.size)) _
 rw [hsz]
 exact q h8 z8 (up _ _ D.h2 TO5) (up _ _ D.h3 g15) (up _ _ D.h4 g25) T8 fun c o c1 c2 c3 c4 e=>up c o c1 (kp c o c1 c2 c3 c4 e)
theorem aSk {z TI TO i1 i2 t:Addr} {k:Nat} {xs:Array Value} {a b:Value} {Q:Option Value→Shared→Prop} (hh:A.handled=none) (D:aE5 z TI TO i1 i2)
  (hz:s.heap.get? z=some (xP .none TI TO)) (hTI:s.heap.get? TI=some (pD (.ref i1) (.ref i2))) (hTO:s.heap.get? TO=some (pD a b))
  (g1:s.heap.get? i1=some (sO t k)) (ht:s.heap.IsTuple t xs) (hx:xs[k]?=none) (t1:t≠z)
  (q:∀h',(∀c o,c≠z→c≠TO→c≠i1→c≠i2→s.heap.get? c=some o→h'.get? c=some o)→Q none { s with heap:=h' }) :
  wpAny (model prog w) A (pyNext (.ref z)) Q E s:=by
 have hT:s.TypeIs (.ref z) "zip":=⟨_,hz,rfl⟩
 unfold pyNext
 refine wpAny_bind (wpAny_attempt (wpAny_callSpecial?_slot (name:=Str.ofString "__next__") hT F.slot_zip_next (wpAny_call_entry F.slot_zip_next hT F.entry_zip_next ?_ (F.args_zip_next_1 _))))
 refine wpAny_bind (m:=field (.ref z) 2) (wpAny_field hz rfl (x:=.bool false) rfl ?_)
 refine wpAny_bind (m:=field (.ref z) 3) (wpAny_field hz rfl (x:=.ref TI) rfl (wpAny_bind (wpAny_seqItems hTI rfl ?_)))
 refine wpAny_bind (m:=Builtin.SmallTypes.ownedTupleIsFree (.ref z)) ?_
 unfold Builtin.SmallTypes.ownedTupleIsFree
 refine wpAny_bind (wpAny_field hz rfl (x:=.none) rfl (wpAny_pure ?_))
 simp only [if_true]
 refine wpAny_bind (wpAny_rule (wpAny_bind (wpAny_field hz rfl (x:=.ref TO) rfl (wpAny_bind (wpAny_setField_rec hz (by simp) fun h1 z1 s1=>?_)))))
 replace z1:h1.get? z=some (xP .ellipsis TI TO):=z1
 refine wpAny_bind ?_
 simp only [List.zipIdx_cons,List.zipIdx_nil,List.forIn_cons,List.forIn_nil]
 refine wpAny_bind (wpAny_bind (wpAny_onRaise ?_))
 refine wpAny_bind (m:=Builtin.SmallTypes.nextOf (.ref i1)) (aAg (s:={ s with heap:=h1 }) hh (s1.extBut _ _ D.h3 g1) (ht.extBut s1.extBut t1) hx fun h2 e s2 he=>?_)
 obtain ⟨oe,hoe,hce⟩:=he
 have z2:h2.get? z=some (xP .ellipsis TI TO):=s2 _ _ D.h3.symm z1
 have hez:e≠z:=fun x=>by subst x;rw [z2] at hoe;cases hoe;simp at hce
 refine wpAny_setField_rec z2 (by simp) fun h3 _ s3=>?_
 refine wpAny_bind (wpAny_isInstance (T:="StopIteration") (b:=true) ⟨oe,s3.extBut _ _ hez hoe,hce⟩ isSubtype_stop ?_)
 exact wpAny_pure (q _ fun c o c1 _ c3 _ x=>s3.extBut _ _ c1 (s2 _ _ c3 (s1.extBut _ _ c1 x)))
end
end PySem
namespace PySem
section
variable {prog:Program} {w:World} {A:Around} {E:Value→Shared→Prop} {s:Shared}
abbrev zT1 (h:Heap) (t:Addr):Heap:=h.push (sO t 0)
abbrev zT2 (h:Heap) (t u:Addr):Heap:=(zT1 h t).push (sO u 0)
abbrev zT3 (h:Heap) (t u:Addr):Heap:=(zT2 h t u).push (pD (.ref h.objs.size) (.ref (zT1 h t).objs.size))
abbrev zT4 (h:Heap) (t u:Addr):Heap:=(zT3 h t u).push (pD .none .none)
abbrev zT5 (h:Heap) (t u:Addr):Heap:=(zT4 h t u).push (xP .none (zT2 h t u).objs.size (zT3 h t u).objs.size)
theorem aLw (t u:Addr) (xs ys:Array Value):Meets (Builtin.«zip.__new__» ⟨[.type "zip",.ref t,.ref u],[]⟩)
  (fun _ R s=>s.heap.IsTuple t xs∧s.heap.IsTuple u ys∧R (.ok (.ret (.ref (zT4 s.heap t u).objs.size))) { s with heap:=zT5 s.heap t u }):=
 .of_wp fun prog w A R s h=>by
  obtain ⟨hp,g,d,tk,os⟩:=s
  obtain ⟨a1,a2,h⟩:=h
  have hsub:=sub_zip
  have b1:Heap.IsTuple (Shared.heap ⟨hp,g,d,tk,os⟩) t xs:=a1
  have b2:Heap.IsTuple (Shared.heap ⟨hp.push { cls:=.type "tuple_iterator",data:=.fields #[.ref t,.int 0 0] },g,d,tk,os⟩) u ys:=by
   obtain ⟨o,ho,r⟩:=a2
   exact ⟨o,Heap.get?_push_of_some _ ho,r⟩
  wp_walk using wpAny_pyIter_tuple b1,wpAny_pyIter_tuple b2
  exact ⟨_,rfl,h⟩
theorem aOz {t u:Addr} {xs ys:Array Value} {Q:Value→Shared→Prop} (ht:s.heap.IsTuple t xs) (hu:s.heap.IsTuple u ys) (q:Q (.ref (zT4 s.heap t u).objs.size) { s with heap:=zT5 s.heap t u }) :
  wpAny (model prog w) A (call (.type "zip") [.ref t,.ref u]) Q E s:=by
 refine callType_new F.called_zip (by decide) (F.typeCall_zip_2 _ _) (F.newCall_zip_2 _ _) (fun obj=>F.args_object_init_3 obj _ _) F.entry_zip_new (aLw t u xs ys) ⟨ht,hu,?_⟩
 exact ⟨⟨_,Heap.get?_push_size _ rfl,rfl⟩,q⟩
end
end PySem
namespace L2
open PySem PySem.Spec PyProof.Rows
section
variable {X:Cx} {pins:List (Addr × Obj)} {σ:St} {H:Hp} {s:Shared}
theorem Inv.tup_ne {t b:Addr} {xs:List V} (I:Inv X pins σ H s) (h:SqT X.K H t xs) (f:uK X pins H b):t≠b:=by
 rintro rfl
 obtain ⟨f0,f1,f2,f3,_⟩:=f
 rcases h with (h|⟨o,h⟩)|⟨o,its,n,hk,_⟩
 ·rw [f0] at h;cases h
 ·rw [f0] at h;cases h
 ·have e:=I.ok.mod.kin t o hk
  rcases f3 with z|z
  ·exact I.ok.noex t o e z
  ·exact absurd (Nat.lt_of_lt_of_le (Heap.lt_size e) (Nat.le_trans I.ok.bsz z)) (Nat.lt_irrefl _)
theorem Inv.drawn {ch:List Addr} {h':Heap} {vs:List V} {its:List Value} {T:Addr} (I:Inv X pins σ H s) (hch:∀b∈ch,uK X pins H b) (kp:∀b o,b∉ch→s.heap.get? b=some o→h'.get? b=some o)
  (hT:s.heap.objs.size≤T) (hv:Vals vs its) (hz:vs.length≤sizeLine) (ho:zH h' T its.toArray) (hth:∀b∈ch,∃o,h'.get? b=some o):Inv X pins σ (upd H T (.tup vs)) { s with heap:=h' }:=by
 have fT:H T=none:=I.hok.fresh hT
 have nT:∀b o,s.heap.get? b=some o→b≠T:=fun b o e=>Nat.ne_of_lt (Nat.lt_of_lt_of_le (Heap.lt_size e) hT)
 have nch:∀b u,H b=some u→b∉ch:=fun b u e z=>by rw [(hch b z).1] at e;cases e
 refine I.step (g':=s.gens) (d':=s.drawn) (t':=s.toks) (ch:=ch) (fun b hb=>?_) (fun b o _ _ hc e _=>kp b o hc e) (fun b o _ _ hc e _=>⟨o.slots,kp b o hc e⟩) (fun b o hc e n=>by rw [aV (nT b o e)];exact n)
  (fun b o hc e=>⟨o,kp b o hc e⟩) (fun b xs e=>by rw [aV (bB e fT)];exact e) (fun b o u e=>by rw [aV (bB e fT)];exact e) (fun b ps e=>⟨#[],by rw [aV (bB e fT),e];simp⟩) (fun m hm=>?_) (fun b u e=>?_) I.bare
 ·obtain ⟨_,f1,_,f3,f4,f5⟩:=hch b hb
  exact ⟨f3,f1,f4,f5⟩
 ·obtain ⟨o,es,ep,ho',r⟩:=hm
  exact ⟨o,es,ep,kp _ o (fun z=>(hch _ z).2.1 rfl) ho',r⟩
 ·by_cases hb:b=T
  ·subst hb
   rw [aH] at e
   cases e
   exact ⟨hz,its,hv,ho⟩
  ·rw [aV hb] at e
   refine (I.hok b u e).stay (fun c v hc' q=>kp c v ?_ q) (fun c q=>by rw [aV (bB q fT)];exact q) fun c xs q=>by rw [aV (bB q fT)];exact q
   rcases hc' with z|z
   ·rw [z];exact nch b u e
   ·exact nch c _ z
theorem Inv.aM5 {ch:List Addr} {h':Heap} (I:Inv X pins σ H s) (hch:∀b∈ch,uK X pins H b) (kp:∀b o,b∉ch→s.heap.get? b=some o→h'.get? b=some o):Inv X pins σ H { s with heap:=h' }:=by
 have nch:∀b u,H b=some u→b∉ch:=fun b u e z=>by rw [(hch b z).1] at e;cases e
 refine I.step (g':=s.gens) (d':=s.drawn) (t':=s.toks) (ch:=ch) (fun b hb=>?_) (fun b o _ _ hc e _=>kp b o hc e) (fun b o _ _ hc e _=>⟨o.slots,kp b o hc e⟩) (fun _ _ _ _ n=>n)
  (fun b o hc e=>⟨o,kp b o hc e⟩) (fun _ _ e=>e) (fun _ _ _ e=>e) (fun b ps e=>⟨#[],by rw [e];simp⟩) (fun m hm=>?_) (fun b u e=>?_) I.bare
 ·obtain ⟨_,f1,_,f3,f4,f5⟩:=hch b hb
  exact ⟨f3,f1,f4,f5⟩
 ·obtain ⟨o,es,ep,ho',r⟩:=hm
  exact ⟨o,es,ep,kp _ o (fun z=>(hch _ z).2.1 rfl) ho',r⟩
 ·refine (I.hok b u e).stay (fun c v hc' q=>kp c v ?_ q) (fun _ q=>q) fun _ _ q=>q
  rcases hc' with z|z
  ·rw [z];exact nch b u e
  ·exact nch c _ z
end
def Itz (K:PySem.W.Frag) (t u:Addr) (xs ys:List V):It:=
 ⟨fun i H=>SqT K H t xs∧SqT K H u ys∧i<xs.length∧i<ys.length,fun i H v H'=>∃T a b,H T=none∧v=.ref T∧H'=upd H T (.tup [a,b])∧xs[i]?=some a∧ys[i]?=some b,fun i H=>SqT K H t xs∧xs.length≤i⟩
def ztn (z TI TO i1 i2 t u:Addr) (i:Nat) (h:Heap):Prop:=
 h.get? z=some (xP .none TI TO)∧h.get? TI=some (pD (.ref i1) (.ref i2))∧(∃a b,h.get? TO=some (pD a b))∧h.get? i1=some (sO t i)∧h.get? i2=some (sO u i)
theorem aSi {P:Program} {w:World} {K:PySem.W.Frag} {elts:List Expr} {kt:Nat} {pos:Pos} {z TI TO i1 i2 t u:Addr} {xs ys:List V} (D:aE5 z TI TO i1 i2) :
  Turn P w K (.Tuple elts kt pos) (Itz K t u xs ys) [z,TI,TO,i1,i2] z (ztn z TI TO i1 i2 t u) where
 mem:=by simp
 obj:=fun i h st b hb=>by
  obtain ⟨e1,e2,⟨a,c,e3⟩,e4,e5⟩:=st
  simp only [List.mem_cons,List.not_mem_nil,or_false] at hb
  rcases hb with rfl|rfl|rfl|rfl|rfl
  ·exact ⟨_,e1,fun v z=>by cases (show Data.fields _=Data.cell v from z)⟩
  ·exact ⟨_,e2,fun v z=>by cases (show Data.seq _ _=Data.cell v from z)⟩
  ·exact ⟨_,e3,fun v z=>by cases (show Data.seq _ _=Data.cell v from z)⟩
  ·exact ⟨_,e4,fun v z=>by cases (show Data.fields _=Data.cell v from z)⟩
  ·exact ⟨_,e5,fun v z=>by cases (show Data.fields _=Data.cell v from z)⟩
 keep:=fun i h h' st k=>by
  obtain ⟨e1,e2,⟨a,c,e3⟩,e4,e5⟩:=st
  exact ⟨k z (by simp) _ e1,k TI (by simp) _ e2,⟨a,c,k TO (by simp) _ e3⟩,k i1 (by simp) _ e4,k i2 (by simp) _ e5⟩
 item:=by
  intro X hP hw hK hc i pins s σ H E I hf st hg
  subst hP hw hK
  obtain ⟨e1,e2,⟨a0,c0,e3⟩,e4,e5⟩:=st
  obtain ⟨ht,hu,l1,l2⟩:=hg
  obtain ⟨its,rv,pt,hz⟩:=I.tuple ht
  obtain ⟨jts,rw',pu,hz'⟩:=I.tuple hu
  obtain ⟨x,hx,rx⟩:=rv.get (List.getElem?_eq_getElem l1)
  obtain ⟨y,hy,ry⟩:=rw'.get (List.getElem?_eq_getElem l2)
  have fz:=hf z (by simp)
  have fO:=hf TO (by simp)
  have f1:=hf i1 (by simp)
  have f2:=hf i2 (by simp)
  refine aOl D e1 e2 e3 e4 e5 (show s.heap.IsTuple t its.toArray from pt) (show s.heap.IsTuple u jts.toArray from pu) (by simpa using hx) (by simpa using hy) (I.tup_ne ht fz) (I.tup_ne ht fO) (I.tup_ne ht f1) (I.tup_ne ht f2)
   (I.tup_ne hu fz) (I.tup_ne hu fO) (I.tup_ne hu f1) (I.tup_ne hu f2) fun h' a1 a2 a3 a4 a5 kp=>?_
  refine ⟨_,rfl,?_⟩
  have fT:H s.heap.objs.size=none:=I.hok.fresh (Nat.le_refl _)
  have I1:Inv X pins σ (upd H s.heap.objs.size (.tup [xs[i],ys[i]])) { s with heap:=h' }:=by
   refine I.drawn (ch:=[z,TO,i1,i2]) (its:=[x,y]) (fun b hb=>?_) (fun b o hb e=>?_) (Nat.le_refl _) (.cons rx (.cons ry .nil)) (small (by simp)) (.of a5 rfl ⟨_,a5,rfl,_,rfl⟩) (fun b hb=>?_)
   ·refine hf b ?_
    simp only [List.mem_cons,List.not_mem_nil,or_false] at hb ⊢
    rcases hb with h|h|h|h <;> simp [h]
   ·simp only [List.mem_cons,List.not_mem_nil,or_false,not_or] at hb
    exact kp b o hb.1 hb.2.1 hb.2.2.1 hb.2.2.2 e
   ·simp only [List.mem_cons,List.not_mem_nil,or_false] at hb
    rcases hb with rfl|rfl|rfl|rfl
    ·exact ⟨_,a1⟩
    ·exact ⟨_,a2⟩
    ·exact ⟨_,a3⟩
    ·exact ⟨_,a4⟩
  have nT:∀b∈[z,TI,TO,i1,i2],b≠s.heap.objs.size:=fun b hb=>by
   have e:∃o,s.heap.get? b=some o:=by
    simp only [List.mem_cons,List.not_mem_nil,or_false] at hb
    rcases hb with rfl|rfl|rfl|rfl|rfl
    ·exact ⟨_,e1⟩
    ·exact ⟨_,e2⟩
    ·exact ⟨_,e3⟩
    ·exact ⟨_,e4⟩
    ·exact ⟨_,e5⟩
   obtain ⟨o,e⟩:=e
   exact Nat.ne_of_lt (Heap.lt_size e)
  refine wpAny_letOwnedTupleGo_zip (s:={ s with heap:=h' }) a1 fun h2 z2 s2=>?_
  obtain ⟨g0,g1,g2,g3,g4,g5⟩:=fz
  have I2:Inv X pins σ (upd H s.heap.objs.size (.tup [xs[i],ys[i]])) { s with heap:=h2 }:=Inv.turned (s:={ s with heap:=h' }) I1 (t':=s.toks) (it:=z) (fun b o hb e=>(s2.2 b hb).trans e) (by rw [aV (nT z (by simp))];exact g0) g1 g3 g4 g5
  refine ⟨.ref s.heap.objs.size,_,I2,rfl,⟨_,_,_,fT,rfl,rfl,List.getElem?_eq_getElem l1,List.getElem?_eq_getElem l2⟩,?_,fun b hb=>by rw [aV (nT b hb)];exact (hf b hb).1⟩
  exact ⟨z2,s2.extBut _ _ D.h1 (kp TI _ D.h1 D.h5 D.h6 D.h7 e2),⟨_,_,s2.extBut _ _ D.h2 a2⟩,s2.extBut _ _ D.h3 a3,s2.extBut _ _ D.h4 a4⟩
 done:=by
  intro X hP hw hK hc i pins s σ H E I hf st hg
  subst hP hw hK
  obtain ⟨e1,e2,⟨a0,c0,e3⟩,e4,e5⟩:=st
  obtain ⟨ht,hl⟩:=hg
  obtain ⟨its,rv,pt,hz⟩:=I.tuple ht
  have hlen:=rv.length
  refine aSk (I.ok.hd hc) D e1 e2 e3 e4 (show s.heap.IsTuple t its.toArray from pt) (by simp;lia) (I.tup_ne ht (hf z (by simp))) fun h' kp=>⟨rfl,?_⟩
  refine Inv.aM5 (ch:=[z,TO,i1,i2]) I (fun b hb=>hf b ?_) fun b o hb e=>?_
  ·simp only [List.mem_cons,List.not_mem_nil,or_false] at hb ⊢
   rcases hb with h|h|h|h <;> simp [h]
  ·simp only [List.mem_cons,List.not_mem_nil,or_false,not_or] at hb
   exact kp b o hb.1 hb.2.1 hb.2.2.1 hb.2.2.2 e
 self:=fun _ _ _ _ _ st h=>wpAny_pyIter_zip st.1 h
section
variable {X:Cx}
def aM1 (K:PySem.W.Frag) (ta:TA):TI:=fun σ H R=>ta σ H fun vs H1=>∃t u xs ys,vs=[.ref t,.ref u]∧SqT K H1 t xs∧SqT K H1 u ys∧R (Itz K t u xs ys) H1
theorem aU0 {elts:List Expr} {kt:Nat} {tp:Pos} {a b:Expr} {ta:TA} {p pos:Pos} (hg:Gl X "zip") (hm:X.mg "zip"=none) (ha:PA X [a,b] ta) (hs:starEach [a,b] X.env=(false,eval a X.env)::starEach [b] X.env:=by rfl)
  (hs2:starEach [b] X.env=[(false,eval b X.env)]:=by rfl):PI X (.Tuple elts kt tp) (.Call (.Name "zip" p) [a,b] [] pos) (aM1 X.K ta):=by
 intro pins s σ H R I h
 refine Call_ (uG I hg hm aW5 (PyProof.Rows.callWith_type1 (thn (ha pos pins s σ H _ I h) fun us s1 ⟨vs,H1,I1,r1,q1⟩=>?_) hs (by rw [hs2];rfl)))
 obtain ⟨t,u,xs,ys,e,ht,hu,q⟩:=q1
 subst e
 obtain ⟨its,rv,pt,hz⟩:=I1.tuple ht
 obtain ⟨jts,rw',pu,hz'⟩:=I1.tuple hu
 cases r1 with
 |cons r rr=>
  cases rr with
  |cons r' rr'=>
   cases rr'
   cases r
   cases r'
   refine aOz (show s1.heap.IsTuple t its.toArray from pt) (show s1.heap.IsTuple u jts.toArray from pu) ?_
   have z1:(zT1 s1.heap t).objs.size=s1.heap.objs.size+1:=Heap.size_push ..
   have z2:(zT2 s1.heap t u).objs.size=s1.heap.objs.size+2:=by rw [Heap.size_push,z1]
   have z3:(zT3 s1.heap t u).objs.size=s1.heap.objs.size+3:=by rw [Heap.size_push,z2]
   have z4:(zT4 s1.heap t u).objs.size=s1.heap.objs.size+4:=by rw [Heap.size_push,z3]
   have D:aE5 (zT4 s1.heap t u).objs.size (zT2 s1.heap t u).objs.size (zT3 s1.heap t u).objs.size s1.heap.objs.size (zT1 s1.heap t).objs.size:=by
    constructor <;> (show (_:Nat)≠(_:Nat);rw [Ne];intro h;simp only [z1,z2,z3,z4] at h;lia)
   have g5:(zT5 s1.heap t u).get? (zT4 s1.heap t u).objs.size=some (xP .none (zT2 s1.heap t u).objs.size (zT3 s1.heap t u).objs.size):=Heap.get?_push_size _ rfl
   have g4:(zT5 s1.heap t u).get? (zT3 s1.heap t u).objs.size=some (pD .none .none):=Heap.get?_push_of_some _ (Heap.get?_push_size _ rfl)
   have g3:(zT5 s1.heap t u).get? (zT2 s1.heap t u).objs.size=some (pD (.ref s1.heap.objs.size) (.ref (zT1 s1.heap t).objs.size)):=Heap.get?_push_of_some _ (Heap.get?_push_of_some _ (Heap.get?_push_size _ rfl))
   have g2:(zT5 s1.heap t u).get? (zT1 s1.heap t).objs.size=some (sO u 0):=Heap.get?_push_of_some _ (Heap.get?_push_of_some _ (Heap.get?_push_of_some _ (Heap.get?_push_size _ rfl)))
   have g1:(zT5 s1.heap t u).get? s1.heap.objs.size=some (sO t 0):=Heap.get?_push_of_some _ (Heap.get?_push_of_some _ (Heap.get?_push_of_some _ (Heap.get?_push_of_some _ (Heap.get?_push_size _ rfl))))
   have I2:Inv X pins σ H1 { s1 with heap:=zT5 s1.heap t u }:=I1.kept (t':=s1.toks) fun b o e=>Heap.get?_push_of_some _ (Heap.get?_push_of_some _ (Heap.get?_push_of_some _ (Heap.get?_push_of_some _ (Heap.get?_push_of_some _ e))))
   refine wpAny_pyIter_zip (s:={ s1 with heap:=zT5 s1.heap t u }) g5 ⟨_,_,_,_,H1,rfl,I2,aSi (xs:=xs) (ys:=ys) D,⟨g5,g3,⟨_,_,g4⟩,g1,g2⟩,fun b hb=>?_,q⟩
   have hb':s1.heap.objs.size≤b:=by
    simp only [List.mem_cons,List.not_mem_nil,or_false] at hb
    rcases hb with rfl|rfl|rfl|rfl|rfl
    ·rw [z4];exact Nat.le_add_right ..
    ·rw [z2];exact Nat.le_add_right ..
    ·rw [z3];exact Nat.le_add_right ..
    ·exact Nat.le_refl _
    ·rw [z1];exact Nat.le_add_right ..
   exact I1.aG2 hb' (I1.hok.fresh hb')
end
section
variable {X:Cx}
inductive Tk (K:PySem.W.Frag) (H:Hp):V→Bool→Prop
 |int {i}:Tk K H (.int i) false
 |str {x}:Tk K H (.str x) false
 |bl {b}:Tk K H (.bl b) false
 |non:Tk K H .non false
 |lst {a xs}:SqL K H a xs→Tk K H (.ref a) false
 |dct {a kvs}:H a=some (.dK kvs)→Tk K H (.ref a) false
 |tup {a xs}:SqT K H a xs→Tk K H (.ref a) true
def aZi (K:PySem.W.Frag):List V→Hp→VK→Prop:=fun xs H Q=>∃x b,xs=[x,.ty "tuple"]∧Tk K H x b∧Q (.bl b) H
theorem jF:cR X (.builtin "isinstance") (aZi X.K):=by
 intro pins s σ H xs us Q I r h
 obtain ⟨x,b,rfl,hx,q⟩:=h
 obtain ⟨u,v,rfl,rx,rT⟩:=r.two
 cases rT
 have f0:EP X pins σ Q (.bool b) s:=⟨.bl _,H,I,rfl,q⟩
 have f1:EP X pins σ Q (.bool b) { s with toks:=s.toks+1 }:=⟨.bl _,H,I.tok _,rfl,q⟩
 cases hx with
 |int=>obtain ⟨t,rfl⟩:=rx;exact IsiPair.int_tuple f1
 |str=>obtain ⟨t,rfl⟩:=rx;exact IsiPair.str_tuple f1
 |bl=>cases rx;exact IsiPair.bool_tuple f1
 |non=>cases rx;exact IsiPair.NoneType_tuple f1
 |lst hq=>
  cases rx
  obtain ⟨its,rv,⟨o,n,e,c,_⟩,hz⟩:=I.list hq
  exact IsiPair.list_tuple e c f1
 |dct hq=>
  cases rx
  obtain ⟨_,_,_,_,o,_,_,e,ex,_⟩:=I.hok _ _ hq
  exact IsiPair.dict_tuple e ex.1 f1
 |tup hq=>
  cases rx
  obtain ⟨its,rv,⟨o,e,c,_⟩,hz⟩:=I.tuple hq
  exact IsiPair.tuple_tuple e c f0
end
section
variable {X:Cx} {scope:Scope} {N:List Str} {wi:TI} {te:TE} {σ:St} {H:Hp} {Q:VK}
theorem fV {σ0:St} {j:Nat} (h0:σ0[j]?=some none):σ0=σ0.set j none:=by
 refine (List.ext_getElem? fun i=>?_)
 rw [List.getElem?_set]
 split
 ·rename_i hj
  subst hj
  split
  ·exact h0
  ·rename_i hlt
   exact List.getElem?_eq_none_iff.mpr (by lia)
 ·rfl
theorem aNy (xs:List V) (f:V→V) (σ0:St) (cap:Cap X scope N σ σ0) (hsz:xs.length≤sizeLine)
  (hw:∀R:It→Hp→Prop,(∀J:It,(∀H' i x,Same H H'→xs[i]?=some x→J.go i H'∧∀y H2,J.yld i H' y H2→H2=H'∧y=x)→(∀H',Same H H'→J.stop xs.length H')→R J H)→wi σ H R)
  (he:∀x∈xs,∀H' R l,Same H H'→(∀H2,Same H' H2→R (f x) H2)→te ((σ0.set 0 l).set 0 (some x)) H' R) (h0:σ0[0]?=some none)
  (q:∀D H',Same H H'→H' D=some (.lst (xs.map f))→Q (.ref D) H') :
  iV X scope N wi (bQ 0) mL te σ H Q:=by
 refine ⟨σ0,cap,hw _ fun J go stop D hD=>?_⟩
 refine ⟨fun i m σ' H' ys=>i≤xs.length∧m=xs.length - i∧(∃l,σ'=σ0.set 0 l)∧Same H H'∧H' D=some (.lst ys)∧ys=(xs.take i).map f,⟨xs.length,Nat.zero_le _,rfl,⟨none,fV h0⟩,bF hD _,aH,rfl⟩,?_⟩
 rintro i m σ' H' ys ⟨hi,rfl,⟨l,rfl⟩,sm,hL,rfl⟩
 refine ⟨hL,?_⟩
 by_cases hlt:i<xs.length
 ·right
  obtain ⟨g1,g2⟩:=go H' i xs[i] sm (List.getElem?_eq_getElem hlt)
  refine ⟨g1,fun x H2 hy=>?_⟩
  obtain ⟨rfl,rfl⟩:=g2 x H2 hy
  unfold bQ mL
  dsimp only
  rw [if_pos rfl]
  refine he xs[i] (List.getElem_mem hlt) _ _ l sm fun H3 s3=>⟨s3 _ _ hL,?_,xs.length - (i+1),by lia,hlt,rfl,⟨some xs[i],?_⟩,?_,aH,?_⟩
  ·rw [List.length_map,List.length_take];lia
  ·rw [List.set_set]
  ·intro b o e
   rw [aV (bB e hD)]
   exact s3 _ _ (sm _ _ e)
  ·rw [List.take_add_one,List.getElem?_eq_getElem hlt,List.map_append]
   rfl
 ·left
  have e:i=xs.length:=by lia
  subst e
  refine ⟨stop _ sm,?_⟩
  rw [List.take_length] at hL
  exact q D _ sm hL
theorem jN {K:PySem.W.Frag} {a:Addr} {xs:List V} {tl:TE} (hS:SqT K H a xs) (h:∀R:VK,R (.ref a) H→tl σ H R) (R:It→Hp→Prop)
  (q:∀J:It,(∀H' i x,Same H H'→xs[i]?=some x→J.go i H'∧∀y H2,J.yld i H' y H2→H2=H'∧y=x)→(∀H',Same H H'→J.stop xs.length H')→R J H):aJ9 K tl σ H R:=by
 refine h _ ⟨a,rfl,⟨xs,hS⟩,q _ (fun H' i x s e=>⟨⟨xs,x,s.aP hS,e⟩,fun y H2 hy=>?_⟩) fun H' s=>⟨xs,s.aP hS,Nat.le_refl _⟩⟩
 obtain ⟨e1,e2⟩:=hy
 have e3:=e2 xs (s.aP hS)
 rw [e] at e3
 cases e3
 exact ⟨e1,rfl⟩
end
section
variable {κ:Type} [DecidableEq κ]
def jX (kvs:List (κ × V)) (k:κ):Option V:=(kvs.find? fun kv=>decide (kv.1=k)).map (·.2)
def putK (kvs:List (κ × V)) (k:κ) (v:V):List (κ × V):=
 if (kvs.any fun kv=>decide (kv.1=k))=true then kvs.map (fun kv=>if kv.1=k then (kv.1,v) else kv) else kvs++[(k,v)]
theorem kE {p:κ × V} {r:List (κ × V)} {k:κ} (e:p.1=k):jX (p::r) k=some p.2:=by simp [jX,List.find?_cons,e]
theorem lY {p:κ × V} {r:List (κ × V)} {k:κ} (e:¬ p.1=k):jX (p::r) k=jX r k:=by simp [jX,List.find?_cons,e]
theorem aAn (k:κ):∀kvs:List (κ × V),(kvs.any fun kv=>decide (kv.1=k))=(jX kvs k).isSome
 |[]=>rfl
 |p::r=>by
  rw [List.any_cons]
  by_cases e:p.1=k
  ·simp only [kE e,decide_eq_true e,Bool.true_or,Option.isSome_some]
  ·rw [lY e,decide_eq_false e,Bool.false_or];exact aAn k r
theorem yV (kvs:List (κ × V)) (k:κ) (v:V):(putK kvs k v).length≤kvs.length+1:=by
 unfold putK
 split
 ·rw [List.length_map];lia
 ·rw [List.length_append,List.length_cons,List.length_nil];lia
theorem zF.xX {o:Option V} {u:Option Value} (r:zF o u):o.isSome=u.isSome:=by
 cases o with
 |none=>cases u with
  |none=>rfl
  |some _=>exact (show False from r).elim
 |some _=>cases u with
  |none=>exact (show False from r).elim
  |some _=>rfl
theorem zF.getD {o:Option V} {u:Option Value} {d:V} {d':Value} (r:zF o u) (rd:RelV d d'):RelV (o.getD d) (u.getD d'):=by
 cases o with
 |none=>cases u with
  |none=>exact rd
  |some _=>exact (show False from r).elim
 |some _=>cases u with
  |none=>exact (show False from r).elim
  |some _=>exact r
theorem KV.val {kvs:List (κ × V)} {vs:List (κ × Value)} (r:KV kvs vs) (k:κ):zF (jX kvs k) (valueAt vs k):=by
 unfold KV at r
 induction r with
 |nil=>exact True.intro
 |@cons p q ps qs h t ih=>
  obtain ⟨h1,h2⟩:=h
  by_cases e:p.1=k
  ·have e':q.1=k:=h1.symm.trans e
   have b:valueAt (q::qs) k=some q.2:=by simp [valueAt,List.find?_cons,e']
   rw [kE e,b];exact h2
  ·have e':¬ q.1=k:=fun z=>e (h1.trans z)
   have b:valueAt (q::qs) k=valueAt qs k:=by simp [valueAt,List.find?_cons,e']
   rw [lY e,b];exact ih
theorem KV.any {kvs:List (κ × V)} {vs:List (κ × Value)} (r:KV kvs vs) (k:κ):(kvs.any fun kv=>decide (kv.1=k))=vs.any fun kv=>decide (kv.1=k):=by
 unfold KV at r
 induction r with
 |nil=>rfl
 |cons h t ih=>rw [List.any_cons,List.any_cons,ih,h.1]
theorem KV.repl {kvs:List (κ × V)} {vs:List (κ × Value)} (r:KV kvs vs) (k:κ) {y:V} {u:Value} (ry:RelV y u) :
  KV (kvs.map fun kv=>if kv.1=k then (kv.1,y) else kv) (vs.map fun kv=>if kv.1=k then (kv.1,u) else kv):=by
 unfold KV at r ⊢
 induction r with
 |nil=>exact .nil
 |@cons p q ps qs h t ih=>
  rw [List.map_cons,List.map_cons]
  refine .cons ?_ ih
  obtain ⟨h1,h2⟩:=h
  by_cases e:p.1=k
  ·rw [if_pos e,if_pos (h1.symm.trans e)];exact ⟨h1,ry⟩
  ·rw [if_neg e,if_neg (fun z=>e (h1.trans z))];exact ⟨h1,h2⟩
theorem KV.put {kvs:List (κ × V)} {vs:List (κ × Value)} (r:KV kvs vs) (k:κ) {y:V} {u:Value} (ry:RelV y u):KV (putK kvs k y) (stored vs k u):=by
 unfold putK stored
 rw [r.any k]
 by_cases e:(vs.any fun kv=>decide (kv.1=k))=true
 ·rw [if_pos e,if_pos e];exact r.repl k ry
 ·rw [if_neg e,if_neg e];exact Paired.snoc r ⟨rfl,ry⟩
end
theorem aHn {P:Program} {w:World} {k:Key} {u:Value} (r:RelV (kV k) u):(dN P w).is k u=true:=by
 cases k with
 |inl i=>obtain ⟨t,e⟩:=(show ∃t,u=Value.int i t from r);subst e;exact aGo P w i t
 |inr x=>obtain ⟨t,e⟩:=(show ∃t,u=Value.str x t from r);subst e;exact aGk P w x t
theorem aCg {P:Program} {w:World}:∀{ks:List Key} {us:List Value},Vals (ks.map kV) us→ItemsAre (dN P w) ks us
 |[],_,r=>by rw [List.map_nil] at r;cases r;exact .nil
 |k::ks,_,r=>by
  rw [List.map_cons] at r
  cases r with
  |cons h t=>exact .cons (aHn h) (aCg t)
abbrev KT (H:Hp):List (List Key × V)→List (List Key × Addr × Value)→Prop:=Paired fun p q=>p.1=q.1∧H q.2.1=some (.tup (p.1.map kV))∧RelV p.2 q.2.2
theorem KT.val {H:Hp} {kvs:List (List Key × V)} {xs:List (List Key × Addr × Value)} (r:KT H kvs xs) (k:List Key):zF (jX kvs k) ((atKey xs k).map (·.2)):=by
 induction r with
 |nil=>exact True.intro
 |@cons p q ps qs h t ih=>
  obtain ⟨h1,_,h2⟩:=h
  by_cases e:p.1=k
  ·have e':q.1=k:=h1.symm.trans e
   have b:atKey (q::qs) k=some q.2:=by simp [atKey,List.find?_cons,e']
   rw [kE e,b];exact h2
  ·have e':¬ q.1=k:=fun z=>e (h1.trans z)
   have b:atKey (q::qs) k=atKey qs k:=by simp [atKey,List.find?_cons,e']
   rw [lY e,b];exact ih
theorem KT.repl {H:Hp} {kvs:List (List Key × V)} {xs:List (List Key × Addr × Value)} (r:KT H kvs xs) (k:List Key) {y:V} {u:Value} (ry:RelV y u) :
  KT H (kvs.map fun kv=>if kv.1=k then (kv.1,y) else kv) (xs.map (putAt k u)):=by
 induction r with
 |nil=>exact .nil
 |@cons p q ps qs h t ih=>
  rw [List.map_cons,List.map_cons]
  refine .cons ?_ ih
  obtain ⟨h1,h2,h3⟩:=h
  unfold putAt
  by_cases e:p.1=k
  ·rw [if_pos e,if_pos (h1.symm.trans e)];exact ⟨h1,h2,ry⟩
  ·rw [if_neg e,if_neg (fun z=>e (h1.trans z))];exact ⟨h1,h2,h3⟩
theorem KT.put {H:Hp} {kvs:List (List Key × V)} {xs:List (List Key × Addr × Value)} (r:KT H kvs xs) (k:List Key) {b:Addr} {y:V} {u:Value} (hb:H b=some (.tup (k.map kV))) (ry:RelV y u) :
  KT H (putK kvs k y) (storedH xs k b u):=by
 have e:(kvs.any fun kv=>decide (kv.1=k))=(atKey xs k).isSome:=by
  rw [aAn,(r.val k).xX,Option.isSome_map]
 unfold putK storedH
 rw [e]
 by_cases q:(atKey xs k).isSome=true
 ·rw [if_pos q,if_pos q];exact r.repl k ry
 ·rw [if_neg q,if_neg q];exact Paired.snoc r ⟨rfl,hb,ry⟩
theorem KT.keeps {H H':Hp} {kvs:List (List Key × V)} {xs:List (List Key × Addr × Value)} (r:KT H kvs xs) (ht:∀b ys,H b=some (.tup ys)→H' b=some (.tup ys)):KT H' kvs xs:=
 Paired.aYc r fun _ _ z=>⟨z.1,ht _ _ z.2.1,z.2.2⟩
section
variable {P:Program} {w:World} {H:Hp} {h:Heap} {a:Addr}
theorem aVs {u:HO} (ok:HOk P w H h) (e:Rd H a u):fU P w H h a u:=e.ok ok
theorem aC5 {kvs:List (Key × V)} (ok:HOk P w H h) (e:Rd H a (.dK kvs)):kvs.length≤sizeLine∧(a == sysModules)=false∧∃vs,KV kvs vs∧h.DictOf (dN P w) a vs:=
 show fU P w H h a (.dK kvs) from aVs ok e
theorem aPs {kvs:List (Key × V)} (ok:HOk P w H h) (e:H a=some (.dK kvs)):kvs.length≤sizeLine∧(a == sysModules)=false∧∃vs,KV kvs vs∧h.DictOf (dN P w) a vs:=aC5 ok (.inl e)
theorem aAi {ks:List Key} (ok:HOk P w H h) (e:H a=some (.tup (ks.map kV))):(tupleKind (dN P w)).is h ks a:=by
 obtain ⟨_,its,r,⟨o,h1,h2,n,h3⟩,_⟩:=(show fU P w H h a (.tup (ks.map kV)) from ok a _ e)
 exact ⟨o,its.toArray,n,h1,h2,h3,by simpa using aCg r⟩
theorem aC4 {kvs:List (List Key × V)} (ok:HOk P w H h) (e:Rd H a (.dT kvs)):kvs.length≤sizeLine∧(a == sysModules)=false ∧
  ∃xs,KT H kvs xs∧h.DictOfH (tupleKind (dN P w)) a xs:=by
 obtain ⟨z,y,xs,r,o,es,ep,h1,h2,h3,h4,h5⟩:=(show fU P w H h a (.dT kvs) from aVs ok e)
 refine ⟨z,y,xs,r,o,es,ep,h1,h2,h3,h4,fun x hx=>?_,h5⟩
 have all:∀{l:List (List Key × V)} {m:List (List Key × Addr × Value)},KT H l m→∀x∈m,(tupleKind (dN P w)).is h x.1 x.2.1:=by
  intro l m q
  induction q with
  |nil=>intro x hx;exact nomatch hx
  |@cons p q ps qs hq t ih=>
   intro x hx
   rcases List.mem_cons.mp hx with e|hx
   ·subst e
    exact aAi ok (by rw [←hq.1];exact hq.2.1)
   ·exact ih x hx
 exact all r x hx
theorem aYg {kvs:List (List Key × V)} (ok:HOk P w H h) (e:H a=some (.dT kvs)):kvs.length≤sizeLine∧(a == sysModules)=false ∧
  ∃xs,KT H kvs xs∧h.DictOfH (tupleKind (dN P w)) a xs:=aC4 ok (.inl e)
end
def zB (H:Hp) (a:Addr) (y:V) (r:Option V):Prop:=
 (∃kvs k,Rd H a (.dK kvs)∧y=kV k∧r=jX kvs k)∨∃kvs k b,Rd H a (.dT kvs)∧y=.ref b∧H b=some (.tup (k.map kV))∧r=jX kvs k
theorem zB.k {H:Hp} {a:Addr} {kvs:List (Key × V)} {k:Key} (e:H a=some (.dK kvs)):zB H a (kV k) (jX kvs k):=.inl ⟨kvs,k,.inl e,rfl,rfl⟩
section
variable {X:Cx} {pins:List (Addr × Obj)} {σ:St} {H:Hp} {s:Shared} {a:Addr} {y v:V} {u r:Value} {o:Option V} {A:Around} {E:Value→Shared→Prop}
theorem Inv.big (I:Inv X pins σ H s):sysModules<s.heap.objs.size:=by
 have h:mainGlobals<s.heap.objs.size:=(I.mod.glob.keeps I.bk).lt
 exact Nat.lt_trans (by decide) h
theorem aOi {Q:Value→Shared→Prop} (hu:A.units+1<cLine) (I:Inv X pins σ H s) (g:zB H a y (some v)) (ry:RelV y u) (h:∀w' s',Inv X pins σ H s'→RelV v w'→Q w' s') :
  wpAny (model X.prog X.w) A (getItem (.ref a) u) Q E s:=by
 rcases g with ⟨kvs,k,e,ey,l⟩|⟨kvs,k,b,e,ey,eb,l⟩
 ·subst ey
  obtain ⟨z,hd,vs,rel,dd⟩:=aC5 I.hok e
  obtain ⟨w',hw,rw'⟩:=zF.some_of (v:=v) (o:=valueAt vs k) (by rw [l];exact rel.val k)
  exact wpAny_getItem_of (aHn ry) dd.mapOf hw (h w' _ (I.tok _) rw')
 ·subst ey
  cases (show u=Value.ref b from ry)
  obtain ⟨z,hd,xs,rel,dd⟩:=aC4 I.hok e
  obtain ⟨w',hw,rw'⟩:=zF.some_of (v:=v) (o:=(atKey xs k).map (·.2)) (by rw [l];exact rel.val k)
  obtain ⟨p,hp,hp2⟩:=Option.map_eq_some_iff.mp hw
  refine wpAny_getItem_heap (tupleKind_room_in1 hu) (aAi I.hok eb) dd hp ?_
  rw [hp2]
  exact h w' _ (I.tok _) rw'
theorem aU6 {Q:Value→Shared→Prop} (hu:A.units+1<cLine) (I:Inv X pins σ H s) (g:zB H a y o) (ry:RelV y u) (h:∀s',Inv X pins σ H s'→Q (.bool (!o.isSome)) s') :
  wpAny (model X.prog X.w) A (compareOp .NotIn u (.ref a)) Q E s:=by
 rcases g with ⟨kvs,k,e,ey,l⟩|⟨kvs,k,b,e,ey,eb,l⟩
 ·subst ey
  obtain ⟨z,hd,vs,rel,dd⟩:=aC5 I.hok e
  refine wpAny_notIn_of (aHn ry) hd dd.mapOf ?_
  rw [←(rel.val k).xX,←l]
  exact h _ (I.tok _)
 ·subst ey
  cases (show u=Value.ref b from ry)
  obtain ⟨z,hd,xs,rel,dd⟩:=aC4 I.hok e
  refine wpAny_notIn_heap (tupleKind_room_in1 hu) (aAi I.hok eb) hd dd ?_
  have q:=(rel.val k).xX
  rw [Option.isSome_map] at q
  rw [←q,←l]
  exact h _ (I.tok _)
theorem aNn {h':Heap} {t':Nat} {ob:HO} (I:Inv X pins σ H s) (mu:Mut (H a)) (hs:Heap.SameBut a s.heap h') (he:∃q,h'.get? a=some q) (new:fU X.prog X.w (upd H a ob) h' a ob) :
  Inv X pins σ (upd H a ob) { s with heap:=h',toks:=t' }:=
 I.write (x:=a) (e:=a) mu (.inl rfl) (fun b q hb z=>(hs.2 b hb).trans z) he new
theorem aW1 {P:Program} {w:World} {H':Hp} {h':Heap} {kvs:List (Key × V)} {vs:List (Key × Value)} (z:kvs.length≤sizeLine) (hd:(a == sysModules)=false) (rel:KV kvs vs) (dd:h'.DictOf (dN P w) a vs) :
  fU P w H' h' a (.dK kvs):=⟨z,hd,vs,rel,dd⟩
end
section
variable {X:Cx} {pins:List (Addr × Obj)} {σ:St} {H:Hp} {s:Shared} {a:Addr} {kvs:List (Key × V)} {k:Key} {u:Value} {A:Around} {E:Value→Shared→Prop}
end
def aX8 (i:Expr):Prop:=∀ov iv,subscripted i false ov iv=operate [ov,iv] (getItem ov iv)
theorem aUn {prog:Program} {w:World} {A:Around} {E:Value→Shared→Prop} {s:Shared} {env:Env} {value slice:Expr} {pos:Pos} {T id:String} {Q:Value→Shared→Prop}
  (hl:typeLookup (.type T) "__getitem__"=pure (some (.builtin id))) (hs:aX8 slice)
  (h:wpAny (model prog w) A (eval value env) (fun o s₁=>wpAny (model prog w) A (eval slice env) (fun i s₂=>s₂.TypeIs o T∧wpAny (model prog w) A (getItem o i) Q E s₂) E s₁) E s) :
  wpAny (model prog w) A (eval (.Subscript value slice pos) env) Q E s:=by
 refine Subscript_ (wpAny_mono h (fun o s₁ h₁=>wpAny_mono h₁ (fun i s₂ h₂=>?_) fun _ _ x=>x) fun _ _ x=>x)
 obtain ⟨hT,h₂⟩:=h₂
 unfold subscriptTail
 refine wpAny_bind ?_
 rw [getitemInPython_of_ne hT.not_modules]
 refine wpAny_bind (wpAny_specialOf hT hl ?_)
 have fin:wpAny (model prog w) A (subscripted slice false o i) (fun r s₃=>wpAny (model prog w) A (letTemporaryGo value o r >>= fun _=>pure r) Q E s₃) E s₂:=by
  rw [hs o i]
  exact wpAny_operating (wpAny_mono h₂ (fun r s₃ h₃=>wpAny_bind (wpAny_letTemporaryGo (wpAny_pure h₃))) fun _ _ x=>x)
 first
  |exact wpAny_pure (wpAny_bind fin)
  |exact wpAny_bind (wpAny_pure (wpAny_bind fin))
  |exact wpAny_bind fin
theorem aIx {X:Cx} {pins:List (Addr × Obj)} {σ:St} {H:Hp} {s:Shared} {a:Addr} {y:V} {o:Option V} (I:Inv X pins σ H s) (g:zB H a y o):s.TypeIs (.ref a) "dict":=by
 rcases g with ⟨kvs,k,e,_,_⟩|⟨kvs,k,b,e,_,_,_⟩
 ·obtain ⟨_,_,vs,_,dd⟩:=aC5 I.hok e
  exact dd.typeIs
 ·obtain ⟨_,_,xs,_,dd⟩:=aC4 I.hok e
  exact dd.typeIs
def aVo (td ty:TE):TE:=fun σ H Q=>td σ H fun x H1=>ty σ H1 fun y H2=>∃a v,x=.ref a∧zB H2 a y (some v)∧Q v H2
def aNb (ty td:TE):TE:=fun σ H Q=>ty σ H fun y H1=>td σ H1 fun x H2=>∃a o,x=.ref a∧zB H2 a y o∧Q (.bl (!o.isSome)) H2
section
variable {X:Cx} {o i e value:Expr} {pos pos' tpos:Pos} {td ty tv:TE}
theorem aT4 (hu:X.A.units+1<cLine) (ho:PE X o td) (hi:PE X i ty) (hs:aX8 i):PE X (.Subscript o i pos) (aVo td ty):=by
 intro pins s σ H Q I h
 refine aUn PySem.F.slot_dict_getitem.lookup hs (thn (ho pins s σ H _ I h) fun u s1 ⟨x,H1,I1,rx,q1⟩=>thn (hi pins s1 σ H1 _ I1 q1) fun iv s2 ⟨y,H2,I2,ry,a,v,ex,g,q2⟩=>?_)
 subst ex
 obtain rfl:u=Value.ref a:=rx
 exact ⟨aIx I2 g,aOi hu I2 g ry fun w' s3 I3 rw'=>⟨v,H2,I3,rw',q2⟩⟩
theorem aN5 (hu:X.A.units+1<cLine) (hi:PE X i ty) (ho:PE X o td):PC X .NotIn i o (aNb ty td):=by
 intro pins s σ H Q I h
 refine thn (hi pins s σ H _ I h) fun iv s1 ⟨y,H1,I1,ry,q1⟩=>thn (ho pins s1 σ H1 _ I1 q1) fun u s2 ⟨x,H2,I2,rx,a,ov,ex,g,q2⟩=>?_
 subst ex
 obtain rfl:u=Value.ref a:=rx
 exact aU6 hu I2 g ry fun s3 I3=>⟨.bl (!ov.isSome),H2,I3,rfl,q2⟩
end
theorem aSs {P:Program} {w:World} {H:Hp} (h:Heap) (hb:sysModules<h.objs.size):fU P w H (h.push { cls:=.type "dict",data:=.dict #[] }) h.objs.size (.dK []):=
 ⟨Nat.zero_le _,beq_eq_false_iff_ne.mpr (Ne.symm (Nat.ne_of_lt hb)),[],.nil,Heap.DictOf.new h⟩
theorem aRy {P:Program} {w:World} {H:Hp} (h:Heap) (hb:sysModules<h.objs.size):fU P w H (h.push { cls:=.type "dict",data:=.dict #[] }) h.objs.size (.dT []):=
 ⟨Nat.zero_le _,beq_eq_false_iff_ne.mpr (Ne.symm (Nat.ne_of_lt hb)),[],.nil,_,#[],0,Heap.get?_push_size _ rfl,⟨rfl,rfl,rfl⟩,rfl,rfl,List.nodup_nil⟩
def aWm:TE:=fun _ H Q=>∀p,H p=none→Q (.ref p) (upd H p (.dT []))
section
variable {X:Cx} {pos:Pos}
theorem aSl:PE X (.Dict [] [] pos) aWm:=fun pins s σ H Q I h=>
 wpAny_Dict_empty ⟨.ref s.heap.objs.size,_,I.laid (a:=s.heap.objs.size) (o:=.dT []) (t':=s.toks) (fun _ _ q=>Heap.get?_push_of_some _ q) (Nat.le_refl _) (aRy s.heap I.big),rfl,h _ (I.hok.fresh (Nat.le_refl _))⟩
end
def aKm:List (TE × TE)→St→Hp→(List (V × V)→Hp→Prop)→Prop
 |[],_,H,Q=>Q [] H
 |(tk,tv)::r,σ,H,Q=>tk σ H fun x H1=>tv σ H1 fun y H2=>aKm r σ H2 fun ps H3=>Q ((x,y)::ps) H3
abbrev VV:List (V × V)→List (Value × Value)→Prop:=Paired fun p q=>RelV p.1 q.1∧RelV p.2 q.2
def PPs (X:Cx) (pos:Pos) (keys:List (Option Expr)) (values:List Expr) (trs:List (TE × TE)):Prop:=
 ∀(pins:List (Addr × Obj)) (s:Shared) (σ:St) (H:Hp) (Q:List (V × V)→Hp→Prop),Inv X pins σ H s→aKm trs σ H Q →
  wpAny (model X.prog X.w) X.A (evalPairs (pairTrees keys values X.env pos)) (fun vs s'=>∃ps H',Inv X pins σ H' s'∧VV ps vs∧Q ps H') X.xe s
theorem aUs {X:Cx} {pos:Pos}:PPs X pos [] [] []:=fun pins s σ H Q I h=>pairTrees_nil_walk ⟨[],H,I,.nil,h⟩
theorem aQc {X:Cx} {pos:Pos} {k v:Expr} {ks:List (Option Expr)} {vs:List Expr} {tk tv:TE} {trs:List (TE × TE)} (hk:PE X k tk) (hv:PE X v tv) (hr:PPs X pos ks vs trs) :
  PPs X pos (some k::ks) (v::vs) ((tk,tv)::trs):=fun pins s σ H Q I h=>
 pairTrees_cons_walk (thn (hk pins s σ H _ I h) fun u s1 ⟨x,H1,I1,rx,q1⟩=>thn (hv pins s1 σ H1 _ I1 q1) fun w2 s2 ⟨y,H2,I2,ry,q2⟩=>
  thn (hr pins s2 σ H2 _ I2 q2) fun ws s3 ⟨ps,H3,I3,rel,q3⟩=>⟨(x,y)::ps,H3,I3,.cons ⟨rx,ry⟩ rel,q3⟩)
def uQ (kvs more:List (Key × V)):List (Key × V):=more.foldl (fun acc kv=>putK acc kv.1 kv.2) kvs
theorem KV.merge:∀{more:List (Key × V)} {rs:List (Key × Value)} {kvs:List (Key × V)} {vs:List (Key × Value)},KV more rs→KV kvs vs→KV (uQ kvs more) (merged vs rs):=by
 intro more rs kvs vs r
 unfold KV at r
 induction r generalizing kvs vs with
 |nil=>intro q;exact q
 |@cons p q ps qs h t ih=>
  intro r0
  have e:KV (putK kvs p.1 p.2) (stored vs q.1 q.2):=by
   have:=r0.put p.1 h.2
   rw [←h.1];exact this
  exact ih e
theorem tG:∀(more kvs:List (Key × V)),(uQ kvs more).length≤kvs.length+more.length
 |[],kvs=>by show kvs.length≤kvs.length+0;lia
 |p::r,kvs=>by
  have h1:=tG r (putK kvs p.1 p.2)
  have h2:=yV kvs p.1 p.2
  show (uQ (putK kvs p.1 p.2) r).length≤_
  rw [List.length_cons];lia
theorem aAj {P:Program} {w:World}:∀{kvs:List (Key × V)} {ws:List (Value × Value)},VV (kvs.map fun kv=>(kV kv.1,kv.2)) ws→∃rs,Carries (dN P w) ws rs∧KV kvs rs
 |[],_,r=>by rw [List.map_nil] at r;cases r;exact ⟨[],True.intro,.nil⟩
 |p::kvs,_,r=>by
  rw [List.map_cons] at r
  cases r with
  |@cons a b as bs h t=>
   obtain ⟨rs,c,q⟩:=aAj (P:=P) (w:=w) t
   obtain ⟨b1,b2⟩:=b
   exact ⟨(p.1,b2)::rs,⟨aHn h.1,rfl,c⟩,.cons ⟨rfl,h.2⟩ q⟩
def aVe (trs:List (TE × TE)):TE:=fun σ H Q=>∀p,H p=none→aKm trs σ (upd H p (.dK [])) fun ps H2=>H2 p=some (.dK [])∧∃kvs:List (Key × V),ps=kvs.map (fun kv=>(kV kv.1,kv.2))∧kvs.length≤15∧Q (.ref p) (upd H2 p (.dK (uQ [] kvs)))
theorem aUc {X:Cx} {pos:Pos} {keys:List (Option Expr)} {values:List Expr} {trs:List (TE × TE)} (h:PPs X pos keys values trs) (hall:keys.all (·.isSome)=true) (hl:keys.length=values.length) (h0:keys≠[])
  (h15:keys.length≤15):PE X (.Dict keys values pos) (aVe trs):=by
 intro pins s σ H Q I q
 have hn:=I.hok.fresh (Nat.le_refl s.heap.objs.size)
 have I1:=I.laid (a:=s.heap.objs.size) (o:=.dK []) (h':=s.heap.push { cls:=.type "dict",data:=.dict #[] }) (t':=s.toks) (fun _ _ q=>Heap.get?_push_of_some _ q) (Nat.le_refl _) (aSs s.heap I.big)
 refine wpAny_Dict_walk (knd:=dN X.prog X.w) hall hl h0 h15 (thn (h pins _ σ _ _ I1 (q _ hn)) fun ws s2 ⟨ps,H2,I2,rel,e,kvs,ep,lk,q2⟩=>?_)
 subst ep
 obtain ⟨rs,c,rk⟩:=aAj (P:=X.prog) (w:=X.w) rel
 obtain ⟨z,hd,vs0,r0,dd⟩:=aPs I2.hok e
 cases r0
 refine ⟨rs,c,dd,fun h' dd' hs=>⟨.ref s.heap.objs.size,_,?_,rfl,q2⟩⟩
 have hz:(uQ [] kvs).length≤sizeLine:=by
  have h1:=tG kvs []
  rw [List.length_nil] at h1
  rw [sizeLine_eq];lia
 have he:∃q,h'.get? s.heap.objs.size=some q:=let ⟨q,_,_,hq,_⟩:=dd';⟨q,hq⟩
 exact aNn I2 (by rw [e];exact True.intro) hs he (aW1 hz hd (rk.merge .nil) dd')
structure M2 (X:Cx) (o:Expr) (m:Str) (apos:Pos) (e f:Expr) (cpos:Pos):Prop where
 base:attributeBase o m X.env (eval o X.env)=eval o X.env
 few:((backTo cpos (starEach [e,f] X.env)).all (fun x=>!x.1) && (backToKw cpos (keywordEach [] X.env)).all (fun x=>x.1.isSome)
  && decide (([e,f]:List Expr).length+([]:List Keyword).length+(if ([]:List Keyword).isEmpty then 0 else 1)<30))=true
 line:(apos.endLine == cpos.line)=true
 trees:backTo cpos (starEach [e,f] X.env)=[(false,eval e X.env),(false,eval f X.env)]
def IsD (H:Hp) (a:Addr):Prop:=(∃kvs,Rd H a (.dK kvs))∨∃kvs,Rd H a (.dT kvs)
theorem aXp {X:Cx} {pins:List (Addr × Obj)} {σ:St} {H:Hp} {s:Shared} {a:Addr} (I:Inv X pins σ H s) (d:IsD H a) :
  s.TypeIs (.ref a) "dict"∧(∀b,Value.ref a=.ref b→∃ob,s.heap.get? b=some ob∧ob.dict=none)∧(a == sysModules)=false:=by
 rcases d with ⟨kvs,e⟩|⟨kvs,e⟩
 ·obtain ⟨_,hd,vs,_,dd⟩:=aC5 I.hok e
  refine ⟨dd.typeIs,fun b q=>?_,hd⟩
  cases q
  obtain ⟨ob,_,_,h1,h2,_⟩:=dd
  exact ⟨ob,h1,h2.2.1⟩
 ·obtain ⟨_,hd,xs,_,dd⟩:=aC4 I.hok e
  refine ⟨dd.typeIs,fun b q=>?_,hd⟩
  cases q
  obtain ⟨ob,_,_,h1,h2,_⟩:=dd
  exact ⟨ob,h1,h2.2.1⟩
section
variable {X:Cx} {pins:List (Addr × Obj)} {σ:St} {H:Hp} {s:Shared} {a:Addr} {y d:V} {u r:Value} {o:Option V} {A:Around} {E:Value→Shared→Prop}
theorem aXe {Q:Value→Shared→Prop} (hu:A.units+1<cLine) (I:Inv X pins σ H s) (g:zB H a y o) (ry:RelV y u) (rd:RelV d r) (h:∀w' s',Inv X pins σ H s'→RelV (o.getD d) w'→Q w' s') :
  wpAny (model X.prog X.w) A (call (.builtin "dict.get") [.ref a,u,r]) Q E s:=by
 rcases g with ⟨kvs,k,e,ey,l⟩|⟨kvs,k,b,e,ey,eb,l⟩
 ·subst ey
  obtain ⟨z,hd,vs,rel,dd⟩:=aC5 I.hok e
  refine call_meetsIn PySem.F.slot_dict_get dd.typeIs PySem.F.entry_dict_get (PySem.F.args_dict_get_3 _ _ _) (meets_dict_get_default (dN X.prog X.w) a (aHn ry) hd r) ⟨_,dd.mapOf,h _ _ (I.tok _) ?_⟩
  rw [l]
  exact (rel.val k).getD rd
 ·subst ey
  cases (show u=Value.ref b from ry)
  obtain ⟨z,hd,xs,rel,dd⟩:=aC4 I.hok e
  refine call_meetsIn PySem.F.slot_dict_get dd.typeIs PySem.F.entry_dict_get (PySem.F.args_dict_get_3 _ _ _) (meetsH_dict_get_default (tupleKind (dN X.prog X.w)) a b hd r) ⟨tupleKind_room_in1 hu,k,xs,aAi I.hok eb,dd,h _ _ (I.tok _) ?_⟩
  rw [l]
  exact (rel.val k).getD rd
end
def aQ5 (td ty tx:TE):TE:=fun σ H Q=>td σ H fun x H1=>∃a,x=.ref a∧IsD H1 a∧ty σ H1 fun y H2=>tx σ H2 fun z H3=>∃o,zB H3 a y o∧Q (o.getD z) H3
section
variable {X:Cx} {o e f:Expr} {apos cpos:Pos} {td ty tx:TE}
theorem aRz (hu:X.A.units+1<cLine) (ho:PE X o td) (he:PE X e ty) (hf:PE X f tx) (m:M2 X o "get" apos e f cpos):PE X (.Call (.Attribute o "get" apos) [e,f] [] cpos) (aQ5 td ty tx):=by
 intro pins s σ H Q I h
 refine wpAny_Call_method m.base m.few m.line PySem.F.plainAttrs_dict PySem.F.slot_dict_get PySem.F.type_dict_get (thn (ho pins s σ H _ I h) fun u s1 ⟨x,H1,I1,rx,a,ex,d,q1⟩=>?_)
 subst ex
 obtain rfl:u=Value.ref a:=rx
 obtain ⟨t1,t2,_⟩:=aXp I1 d
 refine ⟨t1,t2,?_⟩
 rw [m.trees]
 refine Calls.callWith_builtin rfl (Calls.evalArgs_plain (Calls.spliced_cons (thn (he pins s1 σ H1 _ I1 q1) fun iv s2 ⟨y,H2,I2,ry,q2⟩=>
  Calls.spliced_cons (thn (hf pins s2 σ H2 _ I2 q2) fun fv s3 ⟨z,H3,I3,rz,ov,g,q3⟩=>Calls.spliced_nil ?_))))
 exact aXe hu I3 g ry rz fun w' s4 I4 rw'=>⟨_,H3,I4,rw',q3⟩
end
section
variable {X:Cx} {pins:List (Addr × Obj)} {σ:St} {H:Hp} {s:Shared} {a:Addr} {kvs:List (Key × V)} {A:Around} {E:Value→Shared→Prop}
end
section
variable {X:Cx} {pins:List (Addr × Obj)} {σ:St} {H:Hp} {s:Shared} {a:Addr} {y:V} {u:Value} {A:Around} {E:Value→Shared→Prop}
end
section
variable {X:Cx}
end
section
variable {κ:Type} [DecidableEq κ]
end
structure VE (X:Cx) (e:Expr) (t:TE):Prop where
 out:PE X e t
structure VT (X:Cx) (e:Expr) (t:TT):Prop where
 out:PT X e t
structure VW (X:Cx) (e:Expr) (t:TT):Prop where
 out:PW X e t
structure VA (X:Cx) (es:List Expr) (t:TA):Prop where
 out:PA X es t
structure VS (X:Cx) (st:Stmt) (t:TS):Prop where
 out:PS X st t
structure VSs (X:Cx) (st:List Stmt) (t:TS):Prop where
 out:PSs X st t
structure VI (X:Cx) (tg iter:Expr) (t:TI):Prop where
 out:PI X tg iter t
structure VG (X:Cx) (tg:Expr) (t:TG):Prop where
 out:PG X tg t
structure VGs (X:Cx) (tg:List Expr) (t:TGs):Prop where
 out:PGs X tg t
structure VO (X:Cx) (e:Option Expr) (t:TO):Prop where
 out:PO X e t
structure VF (X:Cx) (ifs:List Expr) (t:TT):Prop where
 out:aQz X ifs t
structure VP (X:Cx) (pos:Pos) (keys:List (Option Expr)) (values:List Expr) (trs:List (TE × TE)):Prop where
 out:PPs X pos keys values trs
section
variable {X:Cx} {a b c e:Expr} {es:List Expr} {ta tb tc te:TE} {t:TA} {tA tB':TT} {pos p:Pos} {x:Str}
theorem vv (i:Nat) {x:Str} {pos:Pos} (hN:X.N[i]?=some x:=by rfl) (hv:Vis X.env.scope x:=by trivial) (hd:(x == ("__debug__":Str))=false:=by decide)
  (hcd:(x == ("__classdict__":Str))=false:=by decide):VE X (.Name x pos) (yX i):=⟨pv i hN hv hd hcd⟩
theorem fM {v:V} (hg:Gl X x) (hm:∃u,X.mg x=some u∧RelV v u) (hd:(x == ("__debug__":Str))=false:=by decide):VE X (.Name x pos) (tC v):=⟨aZj hg hm hd⟩
theorem fB {v:V} {u:Value} (hg:Gl X x) (hm:X.mg x=none) (hv:bootBuiltins x=some u) (r:RelV v u) (hn:x≠"__name__":=by decide) (hd:(x == ("__debug__":Str))=false:=by decide):VE X (.Name x pos) (tC v):=⟨aTi hg hm hv r hn hd⟩
theorem aD {i j}:VE X (.Constant (.int i) j pos) (tC (.int i)):=⟨aXn⟩
theorem kY {b j}:VE X (.Constant (.bool b) j pos) (tC (.bl b)):=⟨aYp⟩
theorem aWl {j}:VE X (.Constant .none j pos) (tC .non):=⟨aX5⟩
theorem aU {x j}:VE X (.Constant (.str x) j pos) (tC (.str x)):=⟨aX6⟩
theorem cD {op:Operator} {r:R2} (ho:OpR X (binaryOp op) r) (ha:VE X a ta) (hb:VE X b tb):VE X (.BinOp a op b pos) (tOp r ta tb):=⟨aZf ho ha.1 hb.1⟩
theorem gO {op:CmpOp} {r:R2} (ho:OpR X (compareOp op) r) (ha:VE X a ta) (hb:VE X b tb) (hm:behindInMarks op b=false):VE X (.Compare a [op] [b] pos) (tOp r ta tb):=⟨aU1 ho ha.1 hb.1 hm⟩
theorem aY {op:CmpOp} {r:R2} (ho:OpR X (compareOp op) r) (ha:VE X a ta) (hb:VE X b tb) (hm:behindInMarks op b=false):VT X (.Compare a [op] [b] pos) (aJm (tOp r ta tb)):=⟨aTs ho ha.1 hb.1 hm⟩
theorem aSo {op op':CmpOp} {r r':R2} (ho:OpR X (compareOp op) r) (ho':OpR X (compareOp op') r') (ha:VE X a ta) (hb:VE X b tb) (hc:VE X c tc)
  (hm:lastMarks [op,op'] [b,c]=false:=by with_unfolding_all rfl):VE X (.Compare a [op,op'] [b,c] pos) (aF0 r r' ta tb tc):=⟨aQq ho ho' ha.1 hb.1 hc.1 hm⟩
theorem aGx {op op':CmpOp} {r r':R2} (ho:OpR X (compareOp op) r) (ho':OpR X (compareOp op') r') (ha:VE X a ta) (hb:VE X b tb) (hc:VE X c tc)
  (hm:lastMarks [op,op'] [b,c]=false:=by with_unfolding_all rfl):VT X (.Compare a [op,op'] [b,c] pos) (aJm (aF0 r r' ta tb tc)):=⟨aQ6 ho ho' ha.1 hb.1 hc.1 hm⟩
theorem nG {op} (h:VE X a te):VE X (.BoolOp op [a] pos) te:=⟨aV9 h.1⟩
theorem nP {rest:List Expr} (ha:VE X a ta) (hb:VE X (.BoolOp .And (b::rest) pos) tb):VE X (.BoolOp .And (a::b::rest) pos) (aSf ta tb):=⟨aV5 ha.1 hb.1⟩
theorem aVf {rest:List Expr} (ha:VE X a ta) (hb:VE X (.BoolOp .Or (b::rest) pos) tb):VE X (.BoolOp .Or (a::b::rest) pos) (aZa ta tb):=⟨aYt ha.1 hb.1⟩
theorem aRd (ha:VE X a ta):VE X (.UnaryOp .Not a pos) (aV0 ta):=⟨aWz ha.1⟩
theorem lX (hc:VT X c tA) (ha:VE X a ta) (hb:VE X b tb):VE X (.IfExp c a b pos) (tIf tA ta tb):=⟨aPx hc.1 ha.1 hb.1⟩
theorem aA:VA X [] aAu:=⟨aXo⟩
theorem aB (ha:VE X e te) (hr:VA X es t) (hp:iK e=true:=by rfl):VA X (e::es) (cT te t):=⟨aZ7 ha.1 hr.1 hp⟩
theorem aO {k:Nat} {ps:List Str} {sp:Sp} (G:Ok X.prog X.w X.K X.mg X.base k x ps sp) (hr:Room k X.A) (hg:Gl X x) (ha:VA X (e::es) t) (hdb:(x == ("__debug__":Str))=false:=by decide)
  (hp:iK e=true:=by rfl) (hpl:(backTo pos (starEach es X.env)).any (·.1)=false:=by rfl) :
  VE X (.Call (.Name x p) (e::es) [] pos) (nD sp [] E0 t):=⟨aZq G hr hg ha.1 hdb (cA hp) hpl⟩
theorem aWt {k:Nat} {ps:List Str} {sp:Sp} (G:Ok X.prog X.w X.K X.mg X.base k x ps sp) (hr:Room k X.A) (hg:Gl X x) (hdb:(x == ("__debug__":Str))=false:=by decide) :
  VE X (.Call (.Name x p) [] [] pos) (nD sp [] E0 aAu):=⟨aX9 G hr hg hdb⟩
theorem aR {id:String} {r:List V→Hp→VK→Prop} (hc:cR X (.builtin id) r) (hg:Gl X x) (hm:X.mg x=none) (hv:bootBuiltins x=some (.builtin id)) (ha:VA X (e::es) t) (hn:x≠"__name__":=by decide) (hdb:(x == ("__debug__":Str))=false:=by decide)
  (hp:iK e=true:=by rfl) (hpl:(backTo pos (starEach es X.env)).any (·.1)=false:=by rfl):VE X (.Call (.Name x p) (e::es) [] pos) (tCB r t):=⟨aPy hc hg hm hv ha.1 hn hdb (cA hp) hpl⟩
theorem bO {T:String} {r:List V→Hp→VK→Prop} (hc:cR X (.type T) r) (hg:Gl X x) (hm:X.mg x=none) (hv:bootBuiltins x=some (.type T)) (ha:VA X (e::es) t) (hn:x≠"__name__":=by decide) (hdb:(x == ("__debug__":Str))=false:=by decide)
  (hp:iK e=true:=by rfl) (hpl:(backTo pos (starEach es X.env)).any (·.1)=false:=by rfl):VE X (.Call (.Name x p) (e::es) [] pos) (tCB r t):=⟨aPe hc hg hm hv ha.1 hn hdb (cA hp) hpl⟩
theorem qH {o:Expr} {to:TE} {name:Str} {apos cpos:Pos} {T id:String} {r:V→List V→Hp→VK→Prop} (pa:PlainAttrs T) (slot:Slot T name id) (hty:typeOf (.builtin id)=pure (.type "method_descriptor")) (hm:MtR X id r) (ho:VE X o to) (ha:VA X (e::es) t)
  (hbase:attributeBase o name X.env (eval o X.env)=eval o X.env:=by rfl)
  (hfew:((backTo cpos (starEach (e::es) X.env)).all (fun x=>!x.1) && (backToKw cpos (keywordEach [] X.env)).all (fun x=>x.1.isSome)
   && decide ((e::es).length+([]:List Keyword).length+(if ([]:List Keyword).isEmpty then 0 else 1)<30))=true:=by rfl)
  (hline:(apos.endLine == cpos.line)=true:=by rfl) (hp:iK e=true:=by rfl) (hplain:(backTo cpos (starEach es X.env)).any (·.1)=false:=by rfl) :
  VE X (.Call (.Attribute o name apos) (e::es) [] cpos) (tBM X.K T r to t):=⟨aZb pa slot hty hm ho.1 ha.1 hbase hfew hline (cA hp) hplain⟩
theorem qO (ha:VE X a ta) (hb:VE X b tb) (hs:aJo b) :
  VE X (.Subscript a b pos) (tOp (fun x y H Q=>∃z i c,x=.str z∧y=.int i∧0≤i∧i<2 ^ 63∧i<z.length∧z.cps[i.toNat]?=some c∧Q (.str ⟨#[c]⟩) H) ta tb):=⟨aHf ha.1 hb.1 hs⟩
theorem sG:VO X none aNj:=⟨aUz⟩
theorem jQ (h:VE X e te):VO X (some e) (aVu te):=⟨aTl h.1⟩
theorem jY {r:V→Option Int→Option Int→Hp→VK→Prop} {lo hi:Option Expr} {tl th:TO} {p2:Pos} (hr:SlR X r) (he:VE X e te) (hl:VO X lo tl) (hu:VO X hi th):VE X (.Subscript e (.Slice lo hi none p2) pos) (tSl r te tl th):=⟨aP7 hr he.1 hl.1 hu.1⟩
theorem aK {r:R2} (hr:IxR X r) (ha:VE X a ta) (hb:VE X b tb) (hs:aMo b):VE X (.Subscript a b pos) (tOp r ta tb):=⟨aYk hr ha.1 hb.1 hs⟩
theorem aW9 {x1} (h:VA X es t):VE X (.Tuple es x1 pos) (aYn t):=⟨aWj h.1⟩
theorem aFd:VP X pos [] [] []:=⟨aUs⟩
theorem oN {k v:Expr} {ks:List (Option Expr)} {vs:List Expr} {tk tv:TE} {trs:List (TE × TE)} (hk:VE X k tk) (hv:VE X v tv) (hr:VP X pos ks vs trs):VP X pos (some k::ks) (v::vs) ((tk,tv)::trs):=⟨aQc hk.1 hv.1 hr.1⟩
theorem aEi {keys:List (Option Expr)} {values:List Expr} {trs:List (TE × TE)} (h:VP X pos keys values trs) (hall:keys.all (·.isSome)=true) (hl:keys.length=values.length) (h0:keys≠[]) (h15:keys.length≤15):VE X (.Dict keys values pos) (aVe trs):=⟨aUc h.1 hall hl h0 h15⟩
theorem VE.imp {t t':TE} (h:VE X e t) (k:∀σ H Q,t' σ H Q→t σ H Q):VE X e t':=⟨PE.imp h.1 k⟩
theorem aEw (ha:VT X a tA):VW X (.BoolOp .And [a] pos) tA:=⟨aTh ha.1⟩
theorem nO (ha:VT X a tA):VW X (.BoolOp .Or [a] pos) tA:=⟨aX1 ha.1⟩
theorem aJx {rest:List Expr} (ha:VT X a tA) (hb:VW X (.BoolOp .And (b::rest) pos) tB'):VW X (.BoolOp .And (a::b::rest) pos) (aY9 tA tB'):=⟨aW0 ha.1 hb.1⟩
theorem qI {rest:List Expr} (ha:VT X a tA) (hb:VW X (.BoolOp .Or (b::rest) pos) tB'):VW X (.BoolOp .Or (a::b::rest) pos) (tOr tA tB'):=⟨aZn ha.1 hb.1⟩
theorem VW.pt (h:VW X e tA):VT X e tA:=⟨h.1.pt⟩
theorem fK (ha:VT X a tA):VT X (.UnaryOp .Not a pos) (aX7 tA):=⟨aX0 ha.1⟩
theorem eO (h:VE X e te) (he:∀whole,isTrue e X.env whole=(do let v ←whole;standAt e.pos;holding [v] (truthy v)):=by intro _;rfl):VT X e (tB te):=⟨aWu h.1 he⟩
theorem aRk (ha:VE X a ta) (he:∀whole,isTrue a X.env whole=(do let v ←whole;standAt a.pos;holding [v] (truthy v)):=by intro _;rfl) :
  VT X a (fun σ H Q=>ta σ H fun x H'=>∃k,aYa X.K x H' k∧Q k H'):=⟨aQm ha.1 he⟩
variable {st:Stmt} {rest:List Stmt} {u w':TS}
theorem bA:VSs X [] yN:=⟨aUu⟩
theorem aC (h1:VS X st u) (h2:VSs X rest w'):VSs X (st::rest) (mR u w'):=⟨aRc h1.1 h2.1⟩
theorem aG (h1:VS X st u):VSs X [st] u:=⟨aT3 h1.1⟩
theorem aN (he:VE X e te):VS X (.Return (some e) pos) (zK te):=⟨aWi he.1⟩
theorem bW {a b:List Stmt} (hc:VT X c tA) (ha:VSs X a u) (hb:VSs X b w'):VS X (.If c a b pos) (aL2 tA u w'):=⟨aY1 hc.1 ha.1 hb.1⟩
theorem aW {i:Nat} {pos':Pos} (hN:X.N.Nodup) (hi:X.N[i]?=some x) (hx:Loc X.env.scope x) (he:VE X e te) (hs:swapsWith e (some (.Name x pos')) pos.line X.env=pure false:=by rfl) (hf:X.fn x=true∨X.env.scope.names.lookup x=some .local:=by first|exact .inl rfl|exact .inr rfl|assumption) :
  VS X (.Assign [.Name x pos'] e pos) (mO te (bQ i)):=⟨aXx hN hi hx he.1 hs hf⟩
theorem eF (he:VE X e te) (hs:swapsWith e none pos.line X.env=pure false:=by rfl):VS X (.Expr e pos) (aMy te):=⟨aU9 he.1 hs⟩
theorem fQ {tg iter:Expr} {body:List Stmt} {wi:TI} {g:TG} {tb:TS} (hp:PassesOwn (model X.prog X.w) X.A X.env X.xe) (hc:X.calm=true) (hi:VI X tg iter wi) (hg:VG X tg g) (hb:VSs X body tb)
  (hs:∀x,foldedSetIterable iter X.env x=pure x:=by intro _;rfl):VS X (.For tg iter body [] pos) (aZh wi g tb):=⟨aW6 hp hc hi.1 hg.1 hb.1 hs⟩
theorem aL {i:Nat} (hN:X.N.Nodup) (hi:X.N[i]?=some x) (hx:Loc X.env.scope x) (hf:X.fn x=true∨X.env.scope.names.lookup x=some .local:=by first|exact .inl rfl|exact .inr rfl|assumption):VG X (.Name x pos) (bQ i):=⟨aUk hN hi hx hf⟩
theorem eQ:VGs X [] aIh:=⟨aU4⟩
theorem bL {t:TG} {u:TGs} (h1:VG X e t) (h2:VGs X es u) (hs:(assignEach (e::es) X.env).map (·.2)=assign e X.env::(assignEach es X.env).map (·.2):=by rfl):VGs X (e::es) (oE t u):=⟨aPw h1.1 h2.1 hs⟩
theorem tW {k:Nat} {t:TGs} {n:Nat} (hc:X.calm=true) (h:VGs X es t) (hn:(assignEach es X.env).length=n:=by rfl) (hst:(assignEach es X.env).findIdx? (·.1)=none:=by rfl):VG X (.Tuple es k pos) (aJk X.K n t):=⟨aYd hc h.1 hn hst⟩
variable {tg:Expr}
theorem cV (h:VE X e te):VI X tg e (sY X.K te):=⟨aMq h.1⟩
theorem eG (h:VE X e te):VI X tg e (aJ9 X.K te):=⟨aRu h.1⟩
theorem aXv (h:VE X e te):VI X tg e (aWh te):=⟨aW2 h.1⟩
theorem dW (hg:Gl X "range") (hm:X.mg "range"=none) (ha:VA X [a] t) (hp:iK a=true:=by rfl):VI X tg (.Call (.Name "range" p) [a] [] pos) (aJj t):=⟨aOk hg hm ha.1 (cA (es:=[]) hp)⟩
theorem bT:VF X [] mL:=⟨aXk⟩
theorem aA4 (h:VT X c tA):VF X [c] tA:=⟨aXb h.1⟩
theorem bN {elt target iter:Expr} {ifs:List Expr} {scope:Scope} {N:List Str} {wi:TI} {g:TG} {tt:TT}
  (C:xK scope N) (hfr:∀y,(y,NameKind.free)∈scope.names→X.env.kindOf y=some .cell∨X.env.kindOf y=some .free) (hc:X.calm=true)
  (hi:VI X target iter wi)
  (hb:∀cl s H fp,VG (cxC X N scope cl s H fp) target g∧VF (cxC X N scope cl s H fp) ifs tt∧VE (cxC X N scope cl s H fp) elt te)
  (hs:∀x,foldedSetIterable iter X.env x=pure x:=by intro _;rfl) :
  VE X (.ListComp elt [⟨target,iter,ifs,0⟩] scope pos) (iV X scope N wi g tt te):=
 ⟨aUx C hfr hc hi.1 (fun cl s H fp=>⟨(hb cl s H fp).1.1,(hb cl s H fp).2.1.1,(hb cl s H fp).2.2.1⟩) hs⟩
end
section
variable {P:Program} {w:World} {K:PySem.W.Frag} {mg:Str→Option Value} {base:Heap}
theorem Fun.okV {x qual:Str} {st:Stmt} {f:Addr} {fd:FuncData} {N ps:List Str} {k:Nat} {sp:Sp} (F:Fun K x qual st f fd) (S:aM N ps (aF st)) (len:∀vs H Q E,sp vs H Q E→vs.length=ps.length)
  (hbody:∀(cdv:Value) (A:Around) (outer:List Env) (s:Shared) (H:Hp) (vs:List V) (Q:VK) (E:XK),Room k (A.deeper (envOfC qual (aF st) s.heap.objs.size f cdv))→sp vs H Q E →
   ∃t,VSs (aEq CX0 P w K mg base N qual (aF st) f cdv A outer s H E).nox (jU st) t∧t { nx:=fun _ H'=>Q .non H',rt:=Q } (start N vs) H):pJ P w K mg base CX0 (k+1) f fd ps sp:=
 F.ok S len fun cdv A outer s H vs Q E hr h=>let ⟨t,h1,h2⟩:=hbody cdv A outer s H vs Q E hr h;⟨t,h1.1,h2⟩
theorem Ok.ofV {x:Str} {st:Stmt} {N ps:List Str} {k:Nat} {sp:Sp} (D:Dn K mg x st ps) (S:aM N ps (aF st)) (len:∀vs H Q E,sp vs H Q E→vs.length=ps.length)
  (hbody:∀(f:Addr) (cdv:Value) (A:Around) (outer:List Env) (s:Shared) (H:Hp) (vs:List V) (Q:VK) (E:XK),Room k (A.deeper (envOfC x (aF st) s.heap.objs.size f cdv))→sp vs H Q E →
   ∃t,VSs (aEq CX0 P w K mg base N x (aF st) f cdv A outer s H E).nox (jU st) t∧t { nx:=fun _ H'=>Q .non H',rt:=Q } (start N vs) H):Ok P w K mg base (k+1) x ps sp:=
 Ok.of D S len fun f cdv A outer s H vs Q E hr h=>let ⟨t,h1,h2⟩:=hbody f cdv A outer s H vs Q E hr h;⟨t,h1.1,h2⟩
end
def Held (P:Program) (w:World) (K:PySem.W.Frag) (mg:Str→Option Value) (base:Heap) (k:Nat) (f:Addr) (ps:List Str) (sp:Sp):Prop:=
 ∃fd,PySem.W.keepIn K (.ref f)=true∧Binds K fd ps []∧pJ P w K mg base CX0 k f fd ps sp
theorem Ok.held {P:Program} {w:World} {K:PySem.W.Frag} {mg:Str→Option Value} {base:Heap} {k:Nat} {x:Str} {ps:List Str} {sp:Sp} (G:Ok P w K mg base k x ps sp):∃f,mg x=some (.ref f)∧Held P w K mg base k f ps sp:=by
 obtain ⟨f,fd,h1,h2,h3,h4⟩:=G
 exact ⟨f,h1,fd,h2,h3,h4⟩
theorem Held.mono {P:Program} {w:World} {K:PySem.W.Frag} {mg:Str→Option Value} {base:Heap} {j k:Nat} {f:Addr} {ps:List Str} {sp:Sp} (h:Held P w K mg base j f ps sp) (hj:j≤k):Held P w K mg base k f ps sp:=by
 obtain ⟨fd,h1,h2,h3⟩:=h
 exact ⟨fd,h1,h2,h3.mono hj⟩
section
variable {X:Cx} {x:Str} {p pos:Pos} {e:Expr} {es:List Expr} {te:TE} {t:TA}
def aQt (P:Program) (w:World) (K:PySem.W.Frag) (mg:Str→Option Value) (base:Heap) (k:Nat) (te:TE) (t:TA):TE:=fun σ H Q=>te σ H fun v H1=>∃f ps sp,v=.ref f∧Held P w K mg base k f ps sp∧t σ H1 fun vs H2=>sp vs H2 Q E0
theorem aT2 {k:Nat} (hr:Room k X.A) (hf:PE X (.Name x p) te) (ha:PA X (e::es) t)
  (he:starEach (e::es) X.env=(false,eval e X.env)::starEach es X.env:=by rfl) (hpl:(backTo pos (starEach es X.env)).any (·.1)=false:=by rfl) :
  PE X (.Call (.Name x p) (e::es) [] pos) (aQt X.prog X.w X.K X.mg X.base k te t):=by
 intro pins s σ H Q I h
 refine wpAny_Call_Name_kw (thn (hf pins s σ H _ I h) fun u s1 ⟨v,H1,I1,r1,q1⟩=>?_)
 obtain ⟨f,ps,sp,rfl,⟨fd,hk,hb,F⟩,q⟩:=q1
 obtain rfl:u=Value.ref f:=r1
 refine PySem.W.callWith_K (h₀:=X.base) I1.ok.mod.kin hk (thn (ha pos pins s1 σ H1 _ I1 q) fun us s2 ⟨vs,H2,I2,r,q2⟩=>⟨I2.kIn,?_⟩) he hpl
 exact aLn F hr hb .nil aRf I2 r (by simpa using q2)
end
end L2
namespace PySem
end PySem
namespace L2
open PySem PySem.Spec PyProof.Rows
section
variable {X:Cx}
theorem aUj:OpR X (binaryOp .Add) (fun x y H Q=>∃a b ys,x=.ref a∧y=.ref b∧SqT X.K H a []∧SqT X.K H b ys∧Q (.ref b) H):=by
 intro pins s σ H x y v u Q I rx ry h
 obtain ⟨a,b,ys,rfl,rfl,ha,hb,q⟩:=h
 cases rx
 cases ry
 obtain ⟨its,r1,p1,_⟩:=I.tuple ha
 obtain ⟨its2,r2,p2,_⟩:=I.tuple hb
 cases r1
 obtain ⟨⟨cls,dd,data,sl⟩,ho,hc,n,hd⟩:=id p1
 obtain ⟨⟨cls2,dd2,data2,sl2⟩,ho2,hc2,n2,hd2⟩:=id p2
 simp only at hc hd hc2 hd2
 subst hc hd hc2 hd2
 exact concat_meets ⟨_,ho,rfl⟩ ⟨_,ho2,rfl⟩ noFill_tuple_add seq_tuple_add PySem.F.slot_tuple_add PySem.F.entry_tuple_add (PySem.F.args_tuple_add_2 _ _)
  (tuple_addW0 a b #[] its2.toArray n n2 dd dd2 sl sl2 rfl) ⟨ho,ho2,⟨.ref b,H,I,rfl,q⟩⟩
end
end L2
namespace PySem
def xR (σ:List Str) (v:Str):List Str:=if v∈σ then σ else σ++[v]
def oJ (ss:List Str):List Str:=ss.foldl xR []
theorem aDh (ss:List Str) (v:Str):oJ (ss++[v])=xR (oJ ss) v:=by
 unfold oJ
 rw [List.foldl_append]
 rfl
theorem aRj (σ:List Str) (v k:Str):k∈xR σ v↔k∈σ∨k=v:=by
 unfold xR
 by_cases h:v∈σ
 ·rw [if_pos h]
  exact ⟨.inl,fun q=>q.elim id fun e=>e ▸ h⟩
 ·rw [if_neg h]
  simp
theorem aHz (σ:List Str) (v:Str):(xR σ v).length=if v∈σ then σ.length else σ.length+1:=by
 unfold xR
 split <;> simp
theorem xW:∀(ss σ:List Str),(ss.foldl xR σ).length≤σ.length+ss.length
 |[],σ=>by simp
 |v::r,σ=>by
  rw [List.foldl_cons,List.length_cons]
  have h:=xW r (xR σ v)
  rw [aHz] at h
  split at h <;> lia
theorem aQf (ss:List Str):(oJ ss).length≤ss.length:=by
 have h:=xW ss []
 unfold oJ
 simpa using h
section
variable {prog:Program} {w:World}
def dY (prog:Program) (w:World) (h:Heap) (D:Addr) (ss:List Str):Prop:=h.SetOf (strKind prog w) D (fun y=>decide (y∈oJ ss)) (oJ ss).length
theorem dY.at {h h':Heap} {D:Addr} {ss:List Str} (x:dY prog w h D ss) (e:∀o,h.get? D=some o→h'.get? D=some o):dY prog w h' D ss:=by
 obtain ⟨o,es,ep,t,ho,r⟩:=x
 exact ⟨o,es,ep,t,e o ho,r⟩
theorem dY.congr {h:Heap} {D:Addr} {S:Str→Bool} {n:Nat} {ss:List Str} (x:h.SetOf (strKind prog w) D S n) (e1:∀y,S y=decide (y∈oJ ss)) (e2:n=(oJ ss).length):dY prog w h D ss:=by
 have e:S=fun y=>decide (y∈oJ ss):=funext e1
 subst e e2
 exact x
theorem aAy {A:Around} {R:Result→Shared→Prop} {I:Addr} {fp wr:List Addr} {n:Nat} {P:Nat→Value→Prop} {St:Nat→Heap→Prop} (W:Walks prog w A.in1 I fp wr n P St) (D:Addr) (hD:D∉fp)
  (ss:List Str) (hss:ss.length=n) (hval:∀i v,P i v→∃t,v=.str (ss.getD i "") t) (hb:n+1<scanBound) :
  ∀(k i:Nat) (s:Shared),i+k=n→St i s.heap→dY prog w s.heap D (ss.take i) →
   (∀h' tk,(∀b o,b∉D::wr→s.heap.get? b=some o→h'.get? b=some o)→dY prog w h' D ss→R (.ok (.ret .none)) { s with heap:=h',toks:=tk }) →
   codeAny (model prog w) A (.builtin "set.update.loop" ⟨[.ref D,.ref I],[]⟩) R s:=by
 have hDw:D∉wr:=fun q=>hD (W.sub _ q)
 intro k
 induction k with
 |zero=>
  intro i s hi st hS q
  obtain rfl:i=n:=by lia
  refine codeAny_builtin PyProof.Rows.F.entry_set_update_loop ?_
  rw [Around.under_plainId PyProof.Rows.F.plain_set_update_loop _]
  show wpAny _ A.in1 (pyNext (.ref I) >>= _) _ _ _
  refine wpAny_bind (W.done s _ _ st fun h' tk kp=>?_)
  refine wpAny_pure (q h' tk (fun b o nb e=>kp b o (fun z=>nb (List.mem_cons_of_mem _ z)) e) ?_)
  rw [List.take_of_length_le (Nat.le_of_eq hss)] at hS
  exact hS.at fun o e=>kp D o hDw e
 |succ k ih=>
  intro i s hi st hS q
  refine codeAny_builtin PyProof.Rows.F.entry_set_update_loop ?_
  rw [Around.under_plainId PyProof.Rows.F.plain_set_update_loop _]
  show wpAny _ A.in1 (pyNext (.ref I) >>= _) _ _ _
  refine wpAny_bind (W.item i s _ _ (by lia) st fun v h1 tk1 hP st1 kp1=>?_)
  obtain ⟨t,rfl⟩:=hval i v hP
  have hS1:dY prog w h1 D (ss.take i):=hS.at fun o e=>kp1 D o hDw e
  show wpAny _ A.in1 (holding [Value.str (ss.getD i "") t] (setAdd D (.str (ss.getD i "") t)) >>= _) _ _ _
  refine wpAny_bind (wpAny_holding ?_)
  unfold setAdd
  refine wpAny_holding (wpAny_bind ((strKind prog w).pyHash (k:=ss.getD i "") (strKind_is _ _ _ _) ?_))
  have room:(oJ (ss.take i)).length+1<scanBound:=by
   have h1:=aQf (ss.take i)
   have h2:(ss.take i).length≤ss.length:=by rw [List.length_take];exact Nat.min_le_right _ _
   lia
  refine wpAny_setAddHashed_of (knd:=strKind prog w) (strKind_is _ _ _ _) rfl hS1 room fun h2 sb2 hS2=>?_
  have hlt:i<ss.length:=by lia
  have et:ss.take (i+1)=ss.take i++[ss.getD i ""]:=by
   rw [List.take_add_one,List.getElem?_eq_getElem hlt,List.getD_eq_getElem?_getD,List.getElem?_eq_getElem hlt]
   rfl
  have hS3:dY prog w h2 D (ss.take (i+1)):=by
   refine dY.congr hS2 (fun y=>?_) ?_
   ·rw [et,aDh,Bool.eq_iff_iff,Bool.or_eq_true,decide_eq_true_eq,decide_eq_true_eq,decide_eq_true_eq,aRj]
   ·rw [et,aDh,aHz]
    by_cases z:ss.getD i ""∈oJ (ss.take i)
    ·rw [if_pos z,if_pos (decide_eq_true z)]
    ·rw [if_neg z,if_neg (by rw [decide_eq_false z];exact Bool.false_ne_true)]
  have kp2:∀b o,b∉D::wr→s.heap.get? b=some o→h2.get? b=some o:=fun b o nb e=>by
   rw [sb2.2 b (fun z=>nb (by rw [z];exact List.mem_cons_self))]
   exact kp1 b o (fun z=>nb (List.mem_cons_of_mem _ z)) e
  refine wpAny_pure ⟨plainId_quiet PyProof.Rows.F.plain_set_update_loop _,ih (i+1) _ (by lia) (W.frame _ _ _ st1 fun b hb o e=>?_) hS3 fun h' tk kp hS'=>q h' tk (fun b o nb e=>kp b o nb (kp2 b o nb e)) hS'⟩
  rw [sb2.2 b (fun z=>hD (by rw [←z];exact hb))]
  exact e
variable {A:Around} {E:Value→Shared→Prop} {s:Shared}
abbrev dG (led:Bool):Obj:={ cls:=.type "set",dict:=none,data:=.set #[] 0 (.fresh 0 0 led) }
theorem aLc {A:Around} {R:Fin→Shared→Prop} {E:Value→Shared→Prop} {s:Shared} {l:Addr} {its:Array Value} {ss:List Str} (led:Bool) (hh:A.handled=none) (hl:s.heap.IsList l its) (hlen:ss.length=its.size)
  (hval:∀(i:Nat) (v:Value),its[i]?=some v→∃t,v=Value.str (ss.getD i "") t) (hb:its.size+1<scanBound)
  (q:∀h' tk,dY prog w h' s.heap.objs.size ss→(∀b o,b<s.heap.objs.size→s.heap.get? b=some o→h'.get? b=some o)→R (.done (.ret .none)) { s with heap:=h',toks:=tk }) :
  wpAny (model prog w) A (Builtin.«set.__init__» ⟨[.ref s.heap.objs.size,.ref l],[]⟩) R E { s with heap:=s.heap.push (dG led) }:=by
 obtain ⟨⟨oc,od,ox,osl⟩,hol,hcl,nl,hdl⟩:=id hl
 simp only at hcl hdl
 subst hcl hdl
 have hS:(s.heap.push (dG led)).get? s.heap.objs.size=some (dG led):=Heap.get?_push_size _ rfl
 have hT:Shared.TypeIs { s with heap:=s.heap.push (dG led) } (.ref s.heap.objs.size) "set":=⟨_,hS,rfl⟩
 have hol':(s.heap.push (dG led)).get? l=some { cls:=.type "list",dict:=od,data:=.seq its nl,slots:=osl }:=Heap.get?_push_of_some _ hol
 have f1:=F.sub_list_set
 have f2:=F.sub_list_frozenset
 have f3:(Value.type "list" == Value.type "dict")=false:=by decide
 have hl1:(s.heap.push (dG led)).IsList l its:=⟨_,hol',rfl,nl,rfl⟩
 have hlt:l<s.heap.objs.size:=Heap.lt_size hol
 unfold Builtin.«set.__init__» noKeywords Builtin.Frozenset.updateFrom
 generalize hPI:pyIter=PI
 wp_walk
 subst hPI
 refine wpAny_pyIter_list hl1 ?_
 refine wpAny_bind (wpAny_runValue ?_)
 have hz:(s.heap.push (dG led)).objs.size=s.heap.objs.size+1:=Heap.size_push ..
 have hne:l≠(s.heap.push (dG led)).objs.size:=by rw [hz];exact Nat.ne_of_lt (Nat.lt_succ_of_lt hlt)
 have hSf:s.heap.objs.size∉[(s.heap.push (dG led)).objs.size,l]:=by
  rw [hz]
  simp only [List.mem_cons,List.not_mem_nil,or_false,not_or]
  exact ⟨Nat.ne_of_lt (Nat.lt_succ_self _),Nat.ne_of_gt hlt⟩
 refine aAy (Walks.list (by first|exact hh|simp [hh]) _ l hne its) s.heap.objs.size hSf ss hlen hval hb its.size 0 _ (by lia) ⟨⟨_,Heap.get?_push_size _ rfl,rfl,rfl⟩,hl1.push _⟩ ?_ fun h' tk kp hS'=>?_
 ·have hg:((s.heap.push (dG led)).push { cls:=.type "list_iterator",data:=.fields #[.ref l,.int 0 0] }).get? s.heap.objs.size=some (dG led):=Heap.get?_push_of_some _ hS
  exact dY.congr ((PyProof.Rows.setObjOf_fresh (knd:=strKind prog w) led).setOf hg (by unfold scanBound;lia)) (fun _=>rfl) rfl
 ·refine wpAny_pure (wpAny_pure (q h' tk hS' fun b o hb' e=>kp b o ?_ (Heap.get?_push_of_some _ (Heap.get?_push_of_some _ e))))
  rw [hz]
  simp only [List.mem_cons,List.not_mem_nil,or_false,not_or]
  exact ⟨Nat.ne_of_lt hb',Nat.ne_of_lt (Nat.lt_succ_of_lt hb')⟩
theorem aAf {l:Addr} {its:Array Value} {ss:List Str} {Q:Value→Shared→Prop} (hh:A.handled=none) (hl:s.heap.IsList l its) (hlen:ss.length=its.size)
  (hval:∀(i:Nat) (v:Value),its[i]?=some v→∃t,v=Value.str (ss.getD i "") t) (hb:its.size+1<scanBound)
  (q:∀h' tk,dY prog w h' s.heap.objs.size ss→(∀b o,b<s.heap.objs.size→s.heap.get? b=some o→h'.get? b=some o)→Q (.ref s.heap.objs.size) { s with heap:=h',toks:=tk }) :
  wpAny (model prog w) A (call (.type "set") [.ref l]) Q E s:=by
 have ft:=F.called_set
 obtain ⟨c,tl,hmro⟩:=ft.mro
 have g1:=ft.made
 have g2:=ft.sub
 have g3:=ft.notType
 have g4:=ft.canCreate
 have g5:=F.typeCall_set_1 (.ref l)
 refine wpAny_call (codeAny_of_tree (show wpAny _ _ (callAny (.type "set") _) _ _ _ from wpAny_pure ⟨Code.quiet_builtin _ (by decide +kernel),codeAny_builtin F.entry_type_call ?_⟩))
 rw [Around.under_plain (weight_type_call_type "set" [.ref l] []) (by rfl)]
 repeat (any_goals (first|assumption|wp_step))
 refine codeAny_mono (code_set_new_1 (.ref l) (Q₁:=fun obj s1=>∃led:Bool,obj=.ref s.heap.objs.size∧s1={ s with heap:=s.heap.push (dG led) }) (E:=E) fun led=>⟨led,rfl,rfl⟩) fun r s1 hr=>?_
 rcases r with e|fl
 ·exact hr
 rcases fl with _|_|_|obj
 ·exact hr.elim
 ·exact hr.elim
 ·exact hr.elim
 obtain ⟨led,rfl,rfl⟩:=hr
 have hT:Shared.TypeIs { s with heap:=s.heap.push (dG led) } (.ref s.heap.objs.size) "set":=⟨_,Heap.get?_push_size _ rfl,rfl⟩
 have g6:=ft.init.lookup
 have g7:=ft.init.bind (.ref s.heap.objs.size)
 repeat (any_goals (first|assumption|wp_step))
 refine codeAny_mono (codeAny_call_builtin (R:=wants (fun r s2=>r=.none∧∃h' tk,s2={ s with heap:=h',toks:=tk }∧dY prog w h' s.heap.objs.size ss∧∀b o,b<s.heap.objs.size→s.heap.get? b=some o→h'.get? b=some o) E)
  ft.init.plain F.entry_set_init (check_set_init_1 hT (aLc led (by first|exact hh|simp [hh]) hl hlen hval hb fun h' tk x kp=>⟨rfl,h',tk,rfl,x,kp⟩))) fun r2 s2 hr2=>?_
 rcases r2 with e|fl
 ·exact hr2
 rcases fl with _|_|_|v
 ·exact hr2.elim
 ·exact hr2.elim
 ·exact hr2.elim
 obtain ⟨rfl,h',tk,rfl,x,kp⟩:=hr2
 repeat (any_goals (first|assumption|wp_step))
 exact q h' tk x kp
theorem aN6 {D:Addr} {ss:List Str} {Q:Value→Shared→Prop} (x:dY prog w s.heap D ss) (q:Q (.int ((oJ ss).length:Nat) (s.toks+1)) { s with toks:=s.toks+1+1 }):wpAny (model prog w) A (call (.builtin "len") [.ref D]) Q E s:=by
 obtain ⟨o,es,ep,t,ho,hex,hd,hel,hmem,hb,hf,hn⟩:=x
 refine call_len_set ho hex hd hf ?_ ?_
 ·unfold scanBound at hb
  lia
 ·rw [hn]
  exact q
end
end PySem
namespace L2
open PySem PySem.Spec PyProof.Rows
def aQ7 (P:Program) (w:World) (D:Addr) (ss:List Str):HO:=.ext fun h=>dY P w h D ss
section
variable {X:Cx}
def aWr (P:Program) (w:World) (K:PySem.W.Frag):List V→Hp→VK→Prop:=fun xs H Q=>∃(p:Addr) (ss:List Str),xs=[.ref p]∧SqL K H p (ss.map V.str)∧ss.length≤1000∧∀D,H D=none→Q (.ref D) (upd H D (aQ7 P w D ss))
theorem aKb (hc:X.calm=true):cR X (.type "set") (aWr X.prog X.w X.K):=by
 intro pins s σ H xs us Q I r h
 obtain ⟨p,ss,rfl,hq,hl,q⟩:=h
 obtain ⟨u,rfl,rx⟩:=r.one
 cases rx
 obtain ⟨its,rv,pl,hz⟩:=I.list hq
 have hlen:=rv.length
 rw [List.length_map] at hlen
 refine aAf (I.ok.hd hc) pl.isList (by rw [List.size_toArray];exact hlen) (fun i v hv=>?_) (by rw [List.size_toArray,←hlen];unfold scanBound;lia) fun h' tk x kp=>?_
 ·have hv':its[i]?=some v:=by simpa using hv
  have hi:i<ss.length:=by rw [hlen];exact (List.getElem?_eq_some_iff.mp hv').1
  obtain ⟨u,hu,t,rfl⟩:=rv.get (i:=i) (x:=.str ss[i]) (by rw [List.getElem?_map,List.getElem?_eq_getElem hi];rfl)
  rw [hv'] at hu
  cases hu
  exact ⟨t,by rw [List.getD_eq_getElem?_getD,List.getElem?_eq_getElem hi];rfl⟩
 ·have e:∃o,h'.get? s.heap.objs.size=some o:=by
   obtain ⟨o,_,_,_,ho,_⟩:=x
   exact ⟨o,ho⟩
  exact ⟨.ref s.heap.objs.size,_,I.laid (o:=aQ7 X.prog X.w s.heap.objs.size ss) (fun b o eo=>kp b o (Heap.lt_size eo) eo) (Nat.le_refl _) (show dY X.prog X.w h' s.heap.objs.size ss∧_∧_ from ⟨x,e,fun h1 h2 y k=>y.at k⟩),rfl,q _ (I.hok.fresh (Nat.le_refl _))⟩
theorem aKl:cR X (.builtin "len") (fun xs H Q=>∃(D:Addr) (ss:List Str),xs=[.ref D]∧H D=some (aQ7 X.prog X.w D ss)∧Q (.int ((oJ ss).length:Nat)) H):=by
 intro pins s σ H xs us Q I r h
 obtain ⟨D,ss,rfl,hD,q⟩:=h
 obtain ⟨u,rfl,rx⟩:=r.one
 cases rx
 obtain ⟨x,_⟩:=I.hok D _ hD
 exact aN6 x ⟨.int ((oJ ss).length:Nat),H,I.tok _,⟨_,rfl⟩,q⟩
end
theorem dO {X:Cx} {scope:Scope} {x y:Str} {σ:St} {v:V} (j:Nat) (hf:(y,NameKind.free)∈scope.names) (hj:X.N[j]?=some y) (hs:σ[j]?=some (some v)) (hv:Vis X.env.scope y):Cap X scope [x,y] σ [none,some v]:=
 ⟨rfl,fun i z u h1 h2=>by
  match i,h1,h2 with
  |0,_,h2=>cases h2
  |1,h1,h2=>cases h1;cases h2;exact ⟨hf,j,hj,hs,hv⟩
  |i+2,h1,_=>cases h1⟩
theorem lK {X:Cx} {scope:Scope} {x y:Str} {σ:St}:Cap X scope [x,y] σ [none,none]:=⟨rfl,fun i z u h1 h2=>by
  match i,h1,h2 with
  |0,_,h2=>cases h2
  |1,_,h2=>cases h2
  |i+2,h1,_=>cases h1⟩
section
variable {X:Cx} {a b e:Expr} {es:List Expr} {te:TE} {t:TA} {pos p:Pos} {x:Str}
theorem aVb {k:Nat} (hr:Room k X.A) (hf:VE X (.Name x p) te) (ha:VA X (e::es) t) (hp:iK e=true:=by rfl) (hpl:(backTo pos (starEach es X.env)).any (·.1)=false:=by rfl) :
  VE X (.Call (.Name x p) (e::es) [] pos) (aQt X.prog X.w X.K X.mg X.base k te t):=⟨aT2 hr hf.1 ha.1 (cA hp) hpl⟩
theorem aJd {P:Program} {w:World} {K:PySem.W.Frag} {mg:Str→Option Value} {base:Heap} {k:Nat} (hr:Room k X.A) (hf:VE X (.Name x p) te) (ha:VA X (e::es) t) (hp:iK e=true:=by rfl) (hpl:(backTo pos (starEach es X.env)).any (·.1)=false:=by rfl)
  (h1:X.prog=P:=by rfl) (h2:X.w=w:=by rfl) (h3:X.K=K:=by rfl) (h4:X.mg=mg:=by rfl) (h5:X.base=base:=by rfl) :
  VE X (.Call (.Name x p) (e::es) [] pos) (aQt P w K mg base k te t):=by
 subst h1 h2 h3 h4 h5
 exact aVb hr hf ha hp hpl
theorem bZ {K:PySem.W.Frag} (h:X.K=K:=by rfl):IxR X (aY4 K):=by subst h;exact bH
theorem jP {K:PySem.W.Frag} {k:Nat} {u:TGs} {n:Nat} (hc:X.calm=true) (h:VGs X es u) (hn:(assignEach es X.env).length=n:=by rfl) (hst:(assignEach es X.env).findIdx? (·.1)=none:=by rfl) (hK:X.K=K:=by rfl):VG X (.Tuple es k pos) (aJk K n u):=by
 subst hK
 exact tW hc h hn hst
theorem aF5 {elts:List Expr} {kt:Nat} {tp:Pos} (hg:Gl X "zip") (hm:X.mg "zip"=none) (ha:VA X [a,b] t) (hp:iK a=true:=by rfl) (hp2:iK b=true:=by rfl) :
  VI X (.Tuple elts kt tp) (.Call (.Name "zip" p) [a,b] [] pos) (aM1 X.K t):=⟨aU0 hg hm ha.1 (cA hp) (cA (es:=[]) hp2)⟩
theorem aFz {tg:Expr} {g:TG} (he:VE X e te) (hg:VG X tg g) (hs:swapsWithSole [tg] e pos.line X.env=pure false:=by rfl) (hw:swappedStores [tg] e X.env=pure none:=by rfl)
  (h1:(assignEach [tg] X.env).map (·.2)=[assign tg X.env]:=by rfl):VS X (.Assign [tg] e pos) (mO te g):=⟨aYb he.1 hg.1 hs hw h1⟩
end
section
variable {X:Cx}
def aZ9:V→Option Int→Option Int→Hp→VK→Prop:=fun x lo hi H Q=>∃z,x=.str z∧z.length≤sizeLine∧Q (.str (Txt.slice z lo hi)) H
theorem aEh:SlR X aZ9:=by
 intro pins s σ H x v vl vu lo hi sl Q I rx hs pl pu h
 obtain ⟨z,rfl,hz,q⟩:=h
 obtain ⟨t,rfl⟩:=rx
 have fin:∀l u:Option (Int × Tok),l.map (·.1)=lo→u.map (·.1)=hi→s.heap.IsSlice sl l u none→wpAny (model X.prog X.w) X.A (getItem (.str z t) (.ref sl)) (EP X pins σ Q) X.xe s:=fun l u e1 e2 hsl=>by
  subst e1 e2
  refine wpAny_getItem_str_slice (st:=none) hsl rfl ?_
  unfold sliceMade
  have hle:=Txt.slice_le z (l.map (·.1)) (u.map (·.1))
  exact post_val_or_str ⟨Nat.le_trans hle hz,fun t' k=>⟨.str (Txt.slice z (l.map (·.1)) (u.map (·.1))),H,I.tok _,⟨_,rfl⟩,q⟩⟩
 refine ⟨"str",_,F.slot_str_getitem.lookup,typeIs_str _ _ _,?_⟩
 obtain ⟨o,ho,hc,hd⟩:=hs
 cases pl with
 |none=>
  cases pu with
  |none=>exact fin none none rfl rfl ⟨o,ho,hc,hd⟩
  |int j u=>exact fin none (some (j,u)) rfl rfl ⟨o,ho,hc,hd⟩
 |int i t=>
  cases pu with
  |none=>exact fin (some (i,t)) none rfl rfl ⟨o,ho,hc,hd⟩
  |int j u=>exact fin (some (i,t)) (some (j,u)) rfl rfl ⟨o,ho,hc,hd⟩
end
theorem aFu {ta:TA} {σ:St} {H:Hp} (n:Nat) (h:∀R:List V→Hp→Prop,R [.int n] H→ta σ H R) (hn:(n:Int)<2 ^ 62) (R:It→Hp→Prop)
  (q:∀J:It,(∀H' i x,Same H H'→((List.range n).map fun i:Nat=>V.int (0+(i:Int)))[i]?=some x→J.go i H'∧∀y H2,J.yld i H' y H2→H2=H'∧y=x) →
   (∀H',Same H H'→J.stop ((List.range n).map fun i:Nat=>V.int (0+(i:Int))).length H')→R J H):aJj ta σ H R:=by
 refine h _ ⟨n,rfl,by lia,hn,?_⟩
 refine q _ (fun H' i x _ e=>?_) fun H' _=>?_
 ·rw [List.getElem?_map] at e
  have hi:i<n:=by
   cases hr:(List.range n)[i]? with
   |none=>rw [hr] at e;cases e
   |some j=>have:=(List.getElem?_eq_some_iff.mp hr).1;rwa [List.length_range] at this
  rw [List.getElem?_range hi] at e
  cases e
  exact ⟨show i<((n:Int)).toNat from by lia,fun y H2 hy=>hy⟩
 ·rw [List.length_map,List.length_range]
  simp [Itr]
theorem aRn {x:Str} {j:Nat} (h:j≤x.length):(Txt.slice x none (some (j:Int))).cps.toList=x.cps.toList.take j:=by
 have e:=StrLaws.sliceText_to (x:=x) (j:=(j:Int)) ⟨by lia,by rw [Array.length_toList];exact Int.ofNat_le.mpr h⟩
 show (StrLaws.sliceText x none (some (j:Int))).cps.toList=_
 rw [e]
 simp
theorem aK0 {x:Str} {j:Nat} (h:j≤x.length):(Txt.slice x (some (j:Int)) none).cps.toList=x.cps.toList.drop j:=by
 have e:=StrLaws.sliceText_from (x:=x) (i:=(j:Int)) ⟨by lia,by rw [Array.length_toList];exact Int.ofNat_le.mpr h⟩
 show (StrLaws.sliceText x (some (j:Int)) none).cps.toList=_
 rw [e]
 simp only [Int.toNat_natCast]
 refine List.take_of_length_le ?_
 rw [List.length_drop]
 lia
def put (x:Str) (a:Nat) (c:Nat):Str:=Txt.slice x none (some (a:Int))++⟨#[c]⟩++Txt.slice x (some (a:Int)) none
theorem aFw {x:Str} {a c:Nat} (h:a≤x.length):(put x a c).cps.toList=x.cps.toList.take a++c::x.cps.toList.drop a:=by
 show ((Txt.slice x none (some (a:Int))).cps++#[c]++(Txt.slice x (some (a:Int)) none).cps).toList=_
 rw [Array.toList_append,Array.toList_append,aRn h,aK0 h]
 simp
theorem aU7 {x:Str} {a c d:Nat} (h:a≤x.length) (e:put x a c=put x a d):c=d:=by
 have e1:=congrArg (fun y:Str=>y.cps.toList) e
 simp only [aFw h] at e1
 have e2:=List.append_cancel_left e1
 exact (List.cons.inj e2).1
theorem zN {x:Str} {a c:Nat} (h:a≤x.length):(put x a c).length=x.length+1:=by
 have e:=congrArg List.length (aFw (c:=c) h)
 have l:x.length=x.cps.toList.length:=by rw [Array.length_toList];rfl
 rw [Array.length_toList,List.length_append,List.length_cons,List.length_take,List.length_drop] at e
 show (put x a c).cps.size=_
 lia
theorem aTc {x:Str} {a c d:Nat} (h:a≤x.length) (m:d∈(put x a c).cps):d=c∨d∈x.cps:=by
 have m1:d∈(put x a c).cps.toList:=Array.mem_toList_iff.mpr m
 rw [aFw h] at m1
 rcases List.mem_append.mp m1 with z|z
 ·exact .inr (Array.mem_toList_iff.mp (List.mem_of_mem_take z))
 ·rcases List.mem_cons.mp z with z|z
  ·exact .inl z
  ·exact .inr (Array.mem_toList_iff.mp (List.mem_of_mem_drop z))
section
variable {X:Cx} {scope:Scope} {N:List Str} {wi:TI} {te:TE} {σ:St} {H:Hp} {Q:VK}
theorem aIn {K:PySem.W.Frag} (h:X.K=K:=by rfl):IxR X (aYi K):=by subst h;exact aX
end
section
variable {X:Cx} {scope:Scope} {N:List Str} {wi:TI} {te:TE} {σ:St} {H:Hp} {Q:VK}
theorem aN7 {K:PySem.W.Frag} {tl:TA} (xs ys:List V) (f:V→V→V) (σ0:St) (cap:Cap X scope N σ σ0) (hsz:xs.length≤sizeLine) (hl:xs.length=ys.length)
  (hw:∀R:List V→Hp→Prop,(∀t u H1,Same H H1→SqT K H1 t xs→SqT K H1 u ys→R [.ref t,.ref u] H1)→tl σ H R)
  (he:∀(i:Nat) (x y:V),xs[i]?=some x→ys[i]?=some y→∀H' R l1 l2,Same H H'→(∀H2,Same H' H2→R (f x y) H2)→te ((((σ0.set 0 l1).set 1 l2).set 0 (some x)).set 1 (some y)) H' R) (h0:σ0[0]?=some none) (h1:σ0[1]?=some none)
  (q:∀D H',Same H H'→H' D=some (.lst (List.zipWith f xs ys))→Q (.ref D) H') :
  iV X scope N (aM1 K tl) (aJk K 2 (oE (bQ 0) (oE (bQ 1) aIh))) mL te σ H Q:=by
 refine ⟨σ0,cap,hw _ fun t u H1 s1 ht hu=>⟨t,u,xs,ys,rfl,ht,hu,fun D hD=>?_⟩⟩
 refine ⟨fun i m σ' H' zs=>i≤xs.length∧m=xs.length - i∧(∃l1 l2,σ'=(σ0.set 0 l1).set 1 l2)∧Same H1 H'∧H' D=some (.lst zs)∧zs=(List.zipWith f xs ys).take i,⟨xs.length,Nat.zero_le _,rfl,⟨none,none,?_⟩,bF hD _,aH,rfl⟩,?_⟩
 ·rw [←fV h0];exact fV h1
 rintro i m σ' H' zs ⟨hi,rfl,⟨l1,l2,rfl⟩,sm,hL,rfl⟩
 refine ⟨hL,?_⟩
 by_cases hlt:i<xs.length
 ·right
  refine ⟨⟨sm.aP ht,sm.aP hu,hlt,by lia⟩,fun v H2 hy=>?_⟩
  obtain ⟨T,a,b,hT,rfl,rfl,ha,hb⟩:=hy
  have s2:Same H' (upd H' T (.tup [a,b])):=bF hT _
  refine ⟨T,[a,b],rfl,.inl (.inl aH),rfl,a,[b],rfl,b,[],rfl,rfl,?_⟩
  unfold mL
  dsimp only
  rw [if_pos rfl]
  refine he i a b ha hb _ _ l1 l2 (fun b o e=>s2 _ _ (sm _ _ (s1 _ _ e))) fun H3 s3=>⟨s3 _ _ (s2 _ _ hL),?_,xs.length - (i+1),by lia,hlt,rfl,⟨some a,some b,?_⟩,?_,aH,?_⟩
  ·rw [List.length_take,List.length_zipWith];lia
  ·rw [List.set_comm _ _ (show (1:Nat)≠0 by decide),List.set_set,List.set_set]
  ·intro c o e
   rw [aV (bB e hD)]
   exact s3 _ _ (s2 _ _ (sm _ _ e))
  ·rw [List.take_add_one,List.getElem?_zipWith,ha,hb]
   rfl
 ·left
  have e:i=xs.length:=by lia
  subst e
  refine ⟨⟨sm.aP ht,Nat.le_refl _⟩,?_⟩
  rw [List.take_of_length_le (by rw [List.length_zipWith];lia)] at hL
  exact q D _ (s1.trans sm) hL
end
section
variable {X:Cx} {e:Expr} {es:List Expr} {t:TA} {pos:Pos}
def aYe (t:TA):TE:=fun σ H Q=>t σ H fun xs H1=>xs.length≤sizeLine∧∀p H',H1 p=none→Same H1 H'→H' p=some (.tup xs)→Q (.ref p) H'
def aVj (t:TA):TE:=fun σ H Q=>t σ H fun xs H1=>xs.length≤sizeLine∧∀p H',H1 p=none→Same H1 H'→H' p=some (.lst xs)→Q (.ref p) H'
theorem bY {x1} (h:VA X es t):VE X (.Tuple es x1 pos) (aYe t):=⟨by
 intro pins s σ H Q I hq
 refine wpAny_Tuple_spliced (thn (h.1 pos pins s σ H _ I hq) fun us s1 ⟨xs,H1,I1,r,z,q⟩=>⟨by rw [←r.length];exact z,?_⟩)
 have hf:H1 s1.heap.objs.size=none:=I1.hok.fresh (Nat.le_refl _)
 refine ⟨.ref s1.heap.objs.size,upd H1 s1.heap.objs.size (.tup xs),I1.laid (t':=s1.toks) (fun b u e=>Heap.get?_push_of_some _ e) (Nat.le_refl _) ?_,rfl,q _ _ hf (bF hf _) aH⟩
 exact ⟨z,us,r,.of (Heap.get?_push_size _ rfl) rfl ⟨_,Heap.get?_push_size _ rfl,rfl,_,rfl⟩⟩⟩
theorem cU (h:VA X es t):VE X (.List es pos) (aVj t):=⟨by
 intro pins s σ H Q I hq
 refine wpAny_List_spliced (thn (h.1 pos pins s σ H _ I hq) fun us s1 ⟨xs,H1,I1,r,z,q⟩=>⟨by rw [←r.length];exact z,?_⟩)
 have hf:H1 s1.heap.objs.size=none:=I1.hok.fresh (Nat.le_refl _)
 refine ⟨.ref s1.heap.objs.size,upd H1 s1.heap.objs.size (.lst xs),I1.laid (t':=s1.toks) (fun b u e=>Heap.get?_push_of_some _ e) (Nat.le_refl _) ?_,rfl,q _ _ hf (bF hf _) aH⟩
 exact ⟨z,us,0,r,Heap.get?_push_size _ rfl⟩⟩
theorem OpR.imp {f:Value→Value→Sem Value} {r r':R2} (h:OpR X f r) (k:∀x y H Q,r' x y H Q→r x y H Q):OpR X f r':=fun pins s σ H x y v u Q I rx ry q=>h pins s σ H x y v u Q I rx ry (k _ _ _ _ q)
theorem cR.imp {f:Value} {r r':List V→Hp→VK→Prop} (h:cR X f r) (k:∀xs H Q,r' xs H Q→r xs H Q):cR X f r':=fun pins s σ H xs us Q I rv q=>h pins s σ H xs us Q I rv (k _ _ _ q)
def aZt (K:PySem.W.Frag):R2:=fun x y H Q=>∃a b xs ys,x=.ref a∧y=.ref b∧SqT K H a xs∧SqT K H b ys∧xs.length+ys.length≤sizeLine∧∀r H',Same H H'→SqT K H' r (xs++ys)→Q (.ref r) H'
theorem rW:OpR X (binaryOp .Add) (aZt X.K):=OpR.imp (aTz.or aUj) fun x y H Q ⟨a,b,xs,ys,ex,ey,ha,hb,hz,q⟩=>by
 by_cases h:xs=[]
 ·subst h
  exact .inr ⟨a,b,ys,ex,ey,ha,hb,q b H (Same.refl H) hb⟩
 ·refine .inl ⟨a,b,xs,ys,ex,ey,ha,hb,h,hz,fun z=>?_,fun _ p hp=>q p _ (bF hp _) (SqT.of aH)⟩
  subst z
  exact q a H (Same.refl H) (by rw [List.append_nil];exact ha)
def bAi (K:PySem.W.Frag):V→Option Int→Option Int→Hp→VK→Prop:=fun x lo hi H Q=>∃a xs,x=.ref a∧SqT K H a xs ∧
 ¬ (HT.sIx xs.length 0 lo=0∧HT.sIx xs.length xs.length hi=xs.length)∧∀p H',Same H H'→H' p=some (.tup (rK xs lo hi))→Q (.ref p) H'
theorem aFg:SlR X (bAi X.K):=fun pins s σ H x v vl vu lo hi sl Q I rx hs pl pu ⟨a,xs,e,ha,hn,q⟩=>
 aWv pins s σ H x v vl vu lo hi sl Q I rx hs pl pu ⟨a,xs,e,ha,hn,fun p hp=>q p _ (bF hp _) aH⟩
def aXw:R2:=fun x y H Q=>∃l b xs zs,x=.ref l∧y=.ref b∧H l=some (.lst xs)∧H b=some (.lst zs)∧xs.length+zs.length≤sizeLine∧∀p H',H p=none→Same H H'→H' p=some (.lst (xs++zs))→Q (.ref p) H'
theorem aP4:OpR X (binaryOp .Add) aXw:=OpR.imp aXm fun x y H Q ⟨l,b,xs,zs,ex,ey,hl,hb,hz,q⟩=>⟨l,b,xs,zs,ex,ey,hl,hb,hz,fun p hp=>q p _ hp (bF hp _) aH⟩
def aXg (K:PySem.W.Frag):List V→Hp→VK→Prop:=fun xs H Q=>∃p ys,xs=[.ref p]∧(SqL K H p ys∨SqT K H p ys)∧∀l H',H l=none→Same H H'→H' l=some (.lst ys)→Q (.ref l) H'
theorem tO:cR X (.type "list") (aXg X.K):=cR.imp aDn fun xs H Q ⟨p,ys,e,h,q⟩=>⟨p,ys,e,h,fun l hl=>q l _ hl (bF hl _) aH⟩
def aTj (K:PySem.W.Frag):List V→Hp→VK→Prop:=fun xs H Q=>∃p ys,xs=[.ref p]∧SqL K H p ys∧∀l H',H l=none→Same H H'→H' l=some (.tup ys)→Q (.ref l) H'
theorem cC:cR X (.type "tuple") (aTj X.K):=cR.imp aBv fun xs H Q ⟨p,ys,e,h,q⟩=>⟨p,ys,e,.inl ⟨h,fun l hl=>q l _ hl (bF hl _) aH⟩⟩
theorem jE:MtR X "list.append" aM6:=wQ
theorem cN {H H':Hp} {D:Addr} {o:HO} (f:H D=none) (s:Same H H'):Same H (upd H' D o):=fun b u e=>by rw [aV (bB e f)];exact s _ _ e
end
end L2
namespace PySem
section
variable {prog:Program} {w:World} {A:Around} {E:Value→Shared→Prop} {s:Shared} {T:String} {r d:Addr} {n:Nat} {P:Nat→Value→Prop} {OK:Heap→Prop}
theorem aIv {Q:List Value→Shared→Prop} (Kd:PySem.W.KdlSrc prog w T r d n P OK) (hh:A.handled=none) (hok:OK s.heap)
  (hQ:∀h' tk acc,(∀b o,s.heap.get? b=some o→h'.get? b=some o)→ItemsOf P acc n→Q acc.toList { s with heap:=h',toks:=tk }) (hn:n≤sizeLine) :
  wpAny (model prog w) A (collect (.ref r)) Q E s:=by
 unfold collect
 refine wpAny_bind (wpAny_runValue (codeAny_builtin F.entry_proto_collect ?_))
 rw [Around.under_plainId F.plain_proto_collect _]
 show wpAny _ A.in1 (newList [] >>= fun l=>again (.builtin "list.__iadd__" ⟨[l,.ref r],[]⟩)) _ _ s
 refine wpAny_bind (wpAny_newObj_type ?_)
 refine wpAny_pure ⟨plainId_quiet F.plain_list_iadd _,codeAny_builtin F.entry_list_iadd ?_⟩
 rw [Around.under_plainId F.plain_list_iadd _]
 show wpAny _ A.in1 (Builtin.List.listExtendWith (.ref s.heap.objs.size) (.ref r) (.ref s.heap.objs.size)) _ _ _
 have hS:(s.heap.push { cls:=.type "list",data:=.seq ([]:List Value).toArray }).get? s.heap.objs.size=some { cls:=.type "list",data:=.seq #[] 0 }:=Heap.get?_push_size _ rfl
 have hlt:=Kd.there _ hok
 have fin':∀h' tk acc' c',(∀b o,b≠s.heap.objs.size→(s.heap.push { cls:=.type "list",data:=.seq ([]:List Value).toArray }).get? b=some o→h'.get? b=some o) →
   h'.get? s.heap.objs.size=some { cls:=.type "list",dict:=none,data:=.seq acc' c',slots:=#[] }→ItemsOf P acc' n →
   wpAny (model prog w) A (match Value.ref s.heap.objs.size with
   |Value.ref a=>do
    match (←load a).data with
     |Data.seq xs _=>pure xs.toList
     |_=>unsupported "internal:collect"
   |_=>unsupported "internal:collect") Q E { s with heap:=h',toks:=tk }:=by
  intro h' tk acc' c' kp hS' hacc
  show wpAny _ A (load s.heap.objs.size >>= _) _ _ _
  refine wpAny_bind (wpAny_load hS' ?_)
  refine wpAny_pure ?_
  exact hQ h' tk acc' (fun b o e=>kp b o (Nat.ne_of_lt (Heap.lt_size e)) (Heap.get?_push_of_some _ e)) hacc
 refine wpAny_mono (PySem.W.kdl_extend (A:=A) (R:=fun q s'=>∃h' tk acc' c',q=.ok (.ret (.ref s.heap.objs.size))∧s'={ s with heap:=h',toks:=tk }∧(∀b o,b≠s.heap.objs.size→(s.heap.push { cls:=.type "list",data:=.seq ([]:List Value).toArray }).get? b=some o→h'.get? b=some o) ∧
   h'.get? s.heap.objs.size=some { cls:=.type "list",dict:=none,data:=.seq acc' c',slots:=#[] }∧ItemsOf P acc' n)
  (s:={ s with heap:=s.heap.push { cls:=.type "list",data:=.seq ([]:List Value).toArray } }) Kd hh (Kd.keep _ _ hok fun b _ o e=>Heap.get?_push_of_some _ e) s.heap.objs.size (Nat.ne_of_gt hlt.1) (Nat.ne_of_gt hlt.2) (.ref s.heap.objs.size) 0 hS
   (fun h' tk acc' c' kp hS' hacc=>⟨h',tk,acc',c',rfl,rfl,kp,hS',hacc⟩) hn) (fun fin s' h=>?_) (fun e s' h=>?_)
 ·cases fin with
  |done f=>
   obtain ⟨h',tk,acc',c',e,rfl,kp,hS',hacc⟩:=h
   cases e
   exact fin' h' tk acc' c' kp hS' hacc
  |again c'=>exact ⟨h.1,codeAny_mono h.2 fun q s'' hr=>by
    obtain ⟨h',tk,acc',c',rfl,rfl,kp,hS',hacc⟩:=hr
    exact fin' h' tk acc' c' kp hS' hacc⟩
 ·obtain ⟨_,_,_,_,e,_⟩:=h
  cases e
end
theorem rC {prog:Program} {w:World} (d:Addr) (kvs:List (Str × Value)) (lo:(d == sysModules)=false) (hn:kvs.length≤sizeLine) :
  MeetsIn prog w (Builtin.«tuple.__new__» ⟨[.type "tuple",.ref d],[]⟩)
   (fun A R s=>A.handled=none∧(s.heap.DictOf (strKind prog w) d kvs)∧∀(h':Heap) (tk:Nat) (acc:Array Value),(∀b o,s.heap.get? b=some o→h'.get? b=some o) →
    ItemsOf (fun i v=>∃k x t,kvs[i]?=some (k,x)∧v=.str k t) acc kvs.length→R (.ok (.ret (.ref h'.objs.size))) { s with heap:=h'.push { cls:=.type "tuple",data:=.seq acc },toks:=tk }):=
 .of_wp fun A R s h=>by
  obtain ⟨hh,hm,h⟩:=h
  have hsub:=sub_tuple_self
  have hinit:=init_tuple_lookup
  have hmh:=madeHere_tuple
  have hT:s.TypeIs (.ref d) "dict":=hm.typeIs
  have hh1:A.in1.handled=none:=hh
  obtain ⟨ep,hat⟩:=hm.dictAt
  obtain ⟨o,es,ho,hx⟩:=id hat
  wp_walk using AutoSeq1.wpAny_loadPart' ho,wpAny_typeOf hT,aIv (hn:=hn) (PySem.W.kdl_dict (knd:=strKind prog w) (kvs:=kvs) (ep:=ep) lo) hh1 hat
  intro h' tk acc kp hacc
  show wpAny _ _ (Builtin.Tuple.tupleExact acc.toList.toArray >>= fun v=>ret v) _ _ _
  unfold Builtin.Tuple.tupleExact
  refine wpAny_bind (wpAny_newObj_type ?_ (show acc.toList.toArray.size≤sizeLine by simp only [Array.toArray_toList];rw [hacc.1];exact hn))
  refine wpAny_pure ⟨_,rfl,?_⟩
  have e:acc.toList.toArray=acc:=by simp
  rw [e]
  refine h h' tk acc kp ⟨hacc.1,fun j v hv=>?_⟩
  obtain ⟨k,x,e1,e2⟩:=hacc.2 j v hv
  obtain ⟨t,rfl⟩:=Value.isStrOf_shape (x:=k) (v:=v) e2
  exact ⟨k,x,t,e1,rfl⟩
end PySem
namespace L2
open PySem PySem.Spec PyProof.Rows
def aUp (w:World) (K:PySem.W.Frag) (d:Addr) (kvs:List (Str × Addr)):Prop:=∃o,K.lookup d=some o∧(d == sysModules)=false∧∀P:Program,o.IsDictOf (strKind P w) (kvs.map fun p=>(p.1,Value.ref p.2))
section
variable {X:Cx}
def bAj (w:World) (K:PySem.W.Frag):R2:=fun x y H Q=>∃d kvs k p,x=.ref d∧y=.str k∧aUp w K d kvs∧(kvs.find? fun q=>decide (q.1=k)).map (·.2)=some p∧Q (.ref p) H
theorem aSe (kvs:List (Str × Addr)) (k:Str) {p:Addr} (h:(kvs.find? fun q=>decide (q.1=k)).map (·.2)=some p):valueAt (kvs.map fun q=>(q.1,Value.ref q.2)) k=some (.ref p):=by
 unfold valueAt
 rw [List.find?_map]
 cases e:kvs.find? fun q=>decide (q.1=k) with
 |none=>rw [e] at h;cases h
 |some q=>
  rw [e] at h
  have h:q.2=p:=Option.some.inj h
  have e':kvs.find? ((fun kv:Str × Value=>decide (kv.1=k)) ∘ fun q=>(q.1,Value.ref q.2))=some q:=e
  rw [e',←h]
  rfl
theorem aTd:IxR X (bAj X.w X.K):=by
 intro value slice pins s σ H x y v u Q I rx ry h hs
 obtain ⟨d,kvs,k,p,rfl,rfl,⟨o,hk,lo,hd⟩,hp,q⟩:=h
 cases rx
 obtain ⟨t,rfl⟩:=ry
 have hm:s.heap.DictOf (strKind X.prog X.w) d (kvs.map fun p=>(p.1,Value.ref p.2)):=Heap.dictOf_iff.mpr ⟨o,I.kIn _ _ hk,hd _⟩
 exact tail_any hm.typeIs slot_dict_getitem.lookup (wpAny_getItem_of (strKind_is _ _ _ _) hm.mapOf (aSe kvs k hp) ⟨.ref p,H,I.tok _,rfl,q⟩) hs
def aYy (w:World) (K:PySem.W.Frag):List V→Hp→VK→Prop:=fun xs H Q=>∃d kvs,xs=[.ref d]∧aUp w K d kvs∧kvs.length≤1000∧∀p H',Same H H'→H' p=some (.tup (kvs.map fun q=>V.str q.1))→Q (.ref p) H'
theorem aC7:∀(kvs:List (Str × Value)) (vs:List Value),vs.length=kvs.length→(∀(j:Nat) (v:Value),vs[j]?=some v→∃k x t,kvs[j]?=some (k,x)∧v=.str k t)→Vals (kvs.map fun q=>V.str q.1) vs
 |[],[],_,_=>.nil
 |(k,x)::r,v::vs,hl,h=>by
  obtain ⟨k',x',t,e,rfl⟩:=h 0 v rfl
  cases e
  exact .cons ⟨t,rfl⟩ (aC7 r vs (by simpa using hl) fun j u e=>h (j+1) u e)
theorem aO4 (hc:X.calm=true):cR X (.type "tuple") (aYy X.w X.K):=by
 intro pins s σ H xs us Q I r h
 obtain ⟨d,kvs,rfl,⟨o,hk,lo,hd⟩,hl,q⟩:=h
 obtain ⟨u,rfl,ru⟩:=vals1 r
 cases ru
 have hm:s.heap.DictOf (strKind X.prog X.w) d (kvs.map fun p=>(p.1,Value.ref p.2))  :=Heap.dictOf_iff.mpr ⟨o,I.kIn _ _ hk,hd _⟩
 have hn:(kvs.map fun p=>(p.1,Value.ref p.2)).length≤sizeLine:=small (by rw [List.length_map];exact hl)
 refine callType_newIn F.called_tuple (by decide) (F.typeCall_tuple_1 _) (F.newCall_tuple_1 _) (fun obj=>F.args_object_init_2 obj _) F.entry_tuple_new
  (rC d _ lo hn) ⟨I.ok.hd hc,hm,fun h' tk acc kp hacc=>⟨⟨_,Heap.get?_push_size _ rfl,rfl⟩,?_⟩⟩
 have hv:=aC7 (kvs.map fun p=>(p.1,Value.ref p.2)) acc.toList (by rw [Array.length_toList];exact hacc.1) fun j v e=>hacc.2 j v (by rw [←Array.getElem?_toList];exact e)
 rw [List.map_map] at hv
 have hv:Vals (kvs.map fun q=>V.str q.1) acc.toList:=hv
 have I1:Inv X pins σ H { s with heap:=h',toks:=tk }:=I.kept (t':=tk) kp
 refine ⟨.ref h'.objs.size,_,I1.laid (t':=tk) (o:=.tup (kvs.map fun q=>V.str q.1)) (fun b ob e=>Heap.get?_push_of_some _ e) (Nat.le_refl _) ?_,rfl,q _ _ (bF (I1.hok.fresh (Nat.le_refl _)) _) aH⟩
 have ea:acc.toList.toArray=acc:=by simp
 refine ⟨small (by rw [List.length_map];exact hl),acc.toList,hv,?_⟩
 rw [ea]
 exact .of (Heap.get?_push_size _ rfl) rfl ⟨_,Heap.get?_push_size _ rfl,rfl,_,rfl⟩
end
section
variable {X:Cx} {pins:List (Addr × Obj)} {σ:St} {H:Hp} {s:Shared}
end
def Ite (K:PySem.W.Frag) (l:Addr) (xs:List V):It:=
 ⟨fun i H=>SqL K H l xs∧i<xs.length,fun i H v H'=>∃T a,H T=none∧v=.ref T∧H'=upd H T (.tup [.int (i:Nat),a])∧xs[i]?=some a,fun i H=>SqL K H l xs∧xs.length≤i⟩
def etn (e it l:Addr) (i:Nat) (h:Heap):Prop:=(∃old,IsEnum h e it (i:Int) old)∧h.IsListIter it l i
theorem aOq {P:Program} {w:World} {K:PySem.W.Frag} {elts:List Expr} {kt:Nat} {pos:Pos} {e it l:Addr} {xs:List V} (hne:e≠it) :
  Turn P w K (.Tuple elts kt pos) (Ite K l xs) [e,it] e (etn e it l) where
 mem:=by simp
 obj:=fun i h st b hb=>by
  obtain ⟨⟨old,e1⟩,o,e2,c2,d2⟩:=st
  simp only [List.mem_cons,List.not_mem_nil,or_false] at hb
  rcases hb with rfl|rfl
  ·exact ⟨_,e1,fun v z=>by cases (show Data.fields _=Data.cell v from z)⟩
  ·exact ⟨_,e2,fun v z=>by rw [d2] at z;cases z⟩
 keep:=fun i h h' st k=>by
  obtain ⟨⟨old,e1⟩,o,e2,r⟩:=st
  exact ⟨⟨old,k e (by simp) _ e1⟩,o,k it (by simp) _ e2,r⟩
 item:=by
  intro X hP hw hK hc i pins s σ H E I hf st hg
  subst hP hw hK
  obtain ⟨⟨old,e1⟩,e2⟩:=st
  obtain ⟨hl,l1⟩:=hg
  obtain ⟨its,rv,pl,hz⟩:=I.list hl
  obtain ⟨x,hx,rx⟩:=rv.get (List.getElem?_eq_getElem l1)
  have fe:=hf e (by simp)
  have fi:=hf it (by simp)
  refine wpAny_pyNext_enum_item e1 e2 pl.isList (by simpa using hx) hne fun h' a1 a2 a3 a4 kp=>?_
  refine ⟨_,rfl,?_⟩
  have fT:H s.heap.objs.size=none:=I.hok.fresh (Nat.le_refl _)
  obtain ⟨oi,e2',_⟩:=id e2
  obtain ⟨oi2,a2',_⟩:=id a2
  have I1:Inv X pins σ (upd H s.heap.objs.size (.tup [.int (i:Nat),xs[i]])) { s with heap:=h' }:=by
   refine I.drawn (ch:=[e,it]) (its:=[.int i s.toks,x]) (fun b hb=>hf b hb) (fun b o hb z=>?_) (Nat.le_refl _) (.cons ⟨_,rfl⟩ (.cons rx .nil)) (small (by simp)) (.of a3 rfl ⟨_,a3,rfl,_,rfl⟩) (fun b hb=>?_)
   ·simp only [List.mem_cons,List.not_mem_nil,or_false,not_or] at hb
    exact kp b o hb.1 hb.2 z
   ·simp only [List.mem_cons,List.not_mem_nil,or_false] at hb
    rcases hb with rfl|rfl
    ·exact ⟨_,a1⟩
    ·exact ⟨_,a2'⟩
  have I1':Inv X pins σ (upd H s.heap.objs.size (.tup [.int (i:Nat),xs[i]])) { s with heap:=h',toks:=s.toks+1 }:=I1.tok _
  have nT:∀b∈[e,it],b≠s.heap.objs.size:=fun b hb=>by
   simp only [List.mem_cons,List.not_mem_nil,or_false] at hb
   rcases hb with rfl|rfl
   ·exact Nat.ne_of_lt (Heap.lt_size e1)
   ·exact Nat.ne_of_lt (Heap.lt_size e2')
  refine wpAny_letOwnedTupleGo_enum (s:={ s with heap:=h',toks:=s.toks+1 }) a1 fun h2 z2 s2=>?_
  obtain ⟨g0,g1,g2,g3,g4,g5⟩:=fe
  have I2:Inv X pins σ (upd H s.heap.objs.size (.tup [.int (i:Nat),xs[i]])) { s with heap:=h2,toks:=s.toks+1 }:=Inv.turned (s:={ s with heap:=h',toks:=s.toks+1 }) I1' (t':=s.toks+1) (it:=e) (fun b o hb z=>(s2.2 b hb).trans z) (by rw [aV (nT e (by simp))];exact g0) g1 g3 g4 g5
  refine ⟨.ref s.heap.objs.size,_,I2,rfl,⟨_,_,fT,rfl,rfl,List.getElem?_eq_getElem l1⟩,⟨⟨x,?_⟩,?_⟩,fun b hb=>by rw [aV (nT b hb)];exact (hf b hb).1⟩
  ·rw [show ((i+1:Nat):Int)=(i:Int)+1 from by lia]
   exact z2
  ·obtain ⟨o,ho,r⟩:=a2
   exact ⟨o,(s2.2 it (Ne.symm hne)).trans ho,r⟩
 done:=by
  intro X hP hw hK hc i pins s σ H E I hf st hg
  subst hP hw hK
  obtain ⟨⟨old,e1⟩,e2⟩:=st
  obtain ⟨hl,hi⟩:=hg
  obtain ⟨its,rv,pl,hz⟩:=I.list hl
  have hlen:=rv.length
  refine wpAny_pyNext_enum_end (I.ok.hd hc) e1 e2 pl.isList (by simp;lia) fun h' kp=>⟨rfl,?_⟩
  refine Inv.aM5 (ch:=[it]) I (fun b hb=>hf b (List.mem_cons_of_mem _ hb)) fun b o hb z=>kp b o (by simpa using hb) z
 self:=fun _ _ _ _ _ st h=>by
  obtain ⟨⟨old,e1⟩,_⟩:=st
  exact wpAny_pyIter_enum e1 h
section
variable {X:Cx}
def aVc (K:PySem.W.Frag) (ta:TA):TI:=fun σ H R=>ta σ H fun vs H1=>∃l xs,vs=[.ref l]∧SqL K H1 l xs∧R (Ite K l xs) H1
theorem aUl {elts:List Expr} {kt:Nat} {tp:Pos} {a:Expr} {ta:TA} {p pos:Pos} (hg:Gl X "enumerate") (hm:X.mg "enumerate"=none) (ha:PA X [a] ta) (hs:starEach [a] X.env=[(false,eval a X.env)]:=by rfl) :
  PI X (.Tuple elts kt tp) (.Call (.Name "enumerate" p) [a] [] pos) (aVc X.K ta):=by
 intro pins s σ H R I h
 refine Call_ (uG I hg hm aE6 (PyProof.Rows.callWith_type1 (thn (ha pos pins s σ H _ I h) fun us s1 ⟨vs,H1,I1,r1,q1⟩=>?_) hs (by rfl)))
 obtain ⟨l,xs,e,hl,q⟩:=q1
 subst e
 obtain ⟨its,rv,pl,hz⟩:=I1.list hl
 obtain ⟨u,rfl,ru⟩:=vals1 r1
 cases ru
 refine call_enumerate_list pl.isList fun h' a1 a2 a3 kp=>?_
 have I2:Inv X pins σ H1 { s1 with heap:=h' }:=I1.kept (t':=s1.toks) kp
 refine wpAny_pyIter_enum (s:={ s1 with heap:=h' }) a1 ⟨_,_,_,_,H1,rfl,I2,aOq (xs:=xs) (l:=l) (Nat.ne_of_gt (Nat.lt_succ_self _)),⟨⟨_,a1⟩,a2⟩,fun b hb=>?_,q⟩
 have hb':s1.heap.objs.size≤b:=by
  simp only [List.mem_cons,List.not_mem_nil,or_false] at hb
  rcases hb with rfl|rfl
  ·exact Nat.le_succ _
  ·exact Nat.le_refl _
 exact I1.aG2 hb' (I1.hok.fresh hb')
theorem aQ8 {K:PySem.W.Frag} {l:Addr} {xs:List V} {g:TG} {tb:TS} {D:Ends} {σ:St} {H:Hp} (Pv:Nat→St→Hp→Prop) (h0:Pv 0 σ H) (hl:∀i σ H,i≤xs.length→Pv i σ H→SqL K H l xs)
  (hs:∀i σ H a T H',xs[i]?=some a→Pv i σ H→H T=none→H'=upd H T (.tup [.int (i:Nat),a])→g (.ref T) σ H' fun σ2 H2=>tb { D with nx:=Pv (i+1),ct:=Pv (i+1),bk:=D.nx } σ2 H2) (hd:∀σ H,Pv xs.length σ H→D.nx σ H) :
  ∃W:Nat→Nat→St→Hp→Prop,(∃m,W 0 m σ H)∧∀i m σ H,W i m σ H →
   ((Ite K l xs).stop i H∧D.nx σ H)∨((Ite K l xs).go i H∧∃N:St→Hp→Prop,(∀σ' H',N σ' H'→∃m',m'<m∧W (i+1) m' σ' H')∧∀x H',(Ite K l xs).yld i H x H'→g x σ H' fun σ2 H2=>tb { D with nx:=N,ct:=N,bk:=D.nx } σ2 H2):=by
 refine ⟨fun i m σ H=>m=xs.length - i∧i≤xs.length∧Pv i σ H,⟨xs.length,by simp,Nat.zero_le _,h0⟩,?_⟩
 rintro i m σ H ⟨rfl,hi,p⟩
 by_cases hlt:i<xs.length
 ·refine .inr ⟨⟨hl i σ H hi p,hlt⟩,Pv (i+1),fun σ' H' p'=>⟨xs.length - (i+1),by lia,rfl,hlt,p'⟩,fun x H' y=>?_⟩
  obtain ⟨T,a,hT,rfl,e,ha⟩:=y
  exact hs i σ H a T H' ha p hT e
 ·have e:i=xs.length:=by lia
  subst e
  exact .inl ⟨⟨hl _ σ H hi p,Nat.le_refl _⟩,hd σ H p⟩
end
section
variable {X:Cx} {a c e:Expr} {st:Stmt} {body:List Stmt} {tc:TT} {tb:TS} {t:TA} {te:TE} {pos p:Pos}
theorem gY:VS X st aP3:=⟨aPt⟩
theorem aQn (hp:PassesOwn (model X.prog X.w) X.A X.env X.xe) (hc:VT X c tc) (hb:VSs X body tb):VS X (.While c body [] pos) (aSw tc tb):=⟨aQh hp hc.1 hb.1⟩
theorem aTn {elts:List Expr} {kt:Nat} {tp:Pos} (hg:Gl X "enumerate") (hm:X.mg "enumerate"=none) (ha:VA X [a] t) (hp:iK a=true:=by rfl) :
  VI X (.Tuple elts kt tp) (.Call (.Name "enumerate" p) [a] [] pos) (aVc X.K t):=⟨aUl hg hm ha.1 (cA (es:=[]) hp)⟩
theorem aTu:MtR X "list.pop" aZe:=aXd
theorem aA9:MtR X "list.extend" aM0:=aN0
theorem aSp {o:Expr} {to:TE} {name:Str} {apos cpos:Pos} {T id:String} {r:V→List V→Hp→VK→Prop} (pa:PlainAttrs T) (slot:Slot T name id) (hty:typeOf (.builtin id)=pure (.type "method_descriptor")) (hm:MtR X id r) (ho:VE X o to)
  (hbase:attributeBase o name X.env (eval o X.env)=eval o X.env:=by rfl) (hline:(apos.endLine == cpos.line)=true:=by rfl):VE X (.Call (.Attribute o name apos) [] [] cpos) (aYz X.K T r to):=⟨aX2 pa slot hty hm ho.1 hbase hline⟩
end
section
variable {P:Program} {w:World} {K:PySem.W.Frag} {mg:Str→Option Value} {base:Heap}
theorem Ok.aQp {k:Nat} {x:Str} {ps:List Str} {sp:Sp} {f:Addr} (G:Ok P w K mg base k x ps sp) (m:mg x=some (.ref f)):Held P w K mg base k f ps sp:=by
 obtain ⟨g,m',h⟩:=G.held
 rw [m] at m'
 cases m'
 exact h
end
section
variable {X:Cx} {scope:Scope} {N:List Str} {wi:TI} {te:TE} {σ:St} {H:Hp} {Q:VK}
theorem sJ (xs:List V) (Rel:Nat→Hp→V→Prop) (st:∀{i H1 H2 y},Same H1 H2→Rel i H1 y→Rel i H2 y) (su:∀{i H1 D ys zs y},H1 D=some (.lst ys)→Rel i H1 y→Rel i (upd H1 D (.lst zs)) y)
  (σ0:St) (cap:Cap X scope N σ σ0) (hsz:xs.length≤sizeLine)
  (hw:∀R:It→Hp→Prop,(∀J:It,(∀H' i x,Same H H'→xs[i]?=some x→J.go i H'∧∀y H2,J.yld i H' y H2→H2=H'∧y=x)→(∀H',Same H H'→J.stop xs.length H')→R J H)→wi σ H R)
  (he:∀(i:Nat) (x:V),xs[i]?=some x→∀H' R l,Same H H'→(∀y H2,Same H' H2→Rel i H2 y→R y H2)→te ((σ0.set 0 l).set 0 (some x)) H' R) (h0:σ0[0]?=some none)
  (q:∀D H' ys,Same H H'→H' D=some (.lst ys)→ys.length=xs.length→(∀(i:Nat) (y:V),ys[i]?=some y→Rel i H' y)→Q (.ref D) H') :
  iV X scope N wi (bQ 0) mL te σ H Q:=by
 refine ⟨σ0,cap,hw _ fun J go stop D hD=>?_⟩
 refine ⟨fun i m σ' H' ys=>i≤xs.length∧m=xs.length - i∧(∃l,σ'=σ0.set 0 l)∧Same H H'∧H' D=some (.lst ys)∧ys.length=i∧∀(j:Nat) (y:V),ys[j]?=some y→Rel j H' y,⟨xs.length,Nat.zero_le _,rfl,⟨none,fV h0⟩,bF hD _,aH,rfl,fun j y e=>by simp at e⟩,?_⟩
 rintro i m σ' H' ys ⟨hi,rfl,⟨l,rfl⟩,sm,hL,hl,hR⟩
 refine ⟨hL,?_⟩
 by_cases hlt:i<xs.length
 ·right
  obtain ⟨g1,g2⟩:=go H' i xs[i] sm (List.getElem?_eq_getElem hlt)
  refine ⟨g1,fun x H2 hy=>?_⟩
  obtain ⟨rfl,rfl⟩:=g2 x H2 hy
  unfold bQ mL
  dsimp only
  rw [if_pos rfl]
  refine he i xs[i] (List.getElem?_eq_getElem hlt) _ _ l sm fun y H3 s3 r3=>⟨s3 _ _ hL,by lia,xs.length - (i+1),by lia,hlt,rfl,⟨some xs[i],?_⟩,?_,aH,?_,?_⟩
  ·rw [List.set_set]
  ·intro b o e
   rw [aV (bB e hD)]
   exact s3 _ _ (sm _ _ e)
  ·rw [List.length_append,List.length_singleton,hl]
  ·intro j z ez
   refine su (s3 _ _ hL) ?_
   by_cases hj:j<ys.length
   ·rw [List.getElem?_append_left hj] at ez
    exact st s3 (hR j z ez)
   ·rw [List.getElem?_append_right (by lia)] at ez
    have hj0:j - ys.length=0:=by
     by_cases z0:j - ys.length=0
     ·exact z0
     ·rw [List.getElem?_eq_none (by simp;lia)] at ez;cases ez
    have hj1:j=i:=by lia
    subst hj1
    rw [hj0] at ez
    cases ez
    exact r3
 ·left
  have e:i=xs.length:=by lia
  subst e
  exact ⟨stop _ sm,q D _ ys sm hL hl hR⟩
theorem dZ (xs ys:List V) (hly:ys.length=xs.length) (σ0:St) (cap:Cap X scope N σ σ0) (hsz:xs.length≤sizeLine)
  (hw:∀R:It→Hp→Prop,(∀J:It,(∀H' i x,Same H H'→xs[i]?=some x→J.go i H'∧∀y H2,J.yld i H' y H2→H2=H'∧y=x)→(∀H',Same H H'→J.stop xs.length H')→R J H)→wi σ H R)
  (he:∀(i:Nat) (x y:V),xs[i]?=some x→ys[i]?=some y→∀H' R l,Same H H'→(∀H2,Same H' H2→R y H2)→te ((σ0.set 0 l).set 0 (some x)) H' R) (h0:σ0[0]?=some none)
  (q:∀D H',Same H H'→H' D=some (.lst ys)→Q (.ref D) H') :
  iV X scope N wi (bQ 0) mL te σ H Q:=by
 refine sJ xs (fun i _ y=>ys[i]?=some y) (fun _ h=>h) (fun _ h=>h) σ0 cap hsz hw (fun i x ex H' R l sm r=>?_) h0 fun D H' zs sm hD hl hR=>?_
 ·have hi:i<ys.length:=by rw [hly];exact (List.getElem?_eq_some_iff.mp ex).1
  exact he i x ys[i] ex (List.getElem?_eq_getElem hi) H' R l sm fun H2 s2=>r _ H2 s2 (List.getElem?_eq_getElem hi)
 ·have e:zs=ys:=by
   refine List.ext_getElem? fun i=>?_
   by_cases hi:i<zs.length
   ·rw [hR i zs[i] (List.getElem?_eq_getElem hi),List.getElem?_eq_getElem hi]
   ·rw [List.getElem?_eq_none (by lia),List.getElem?_eq_none (by lia)]
  subst e
  exact q D H' sm hD
theorem aNs {K:PySem.W.Frag} {tl:TA} (xs ys:List V) (Rel:Nat→Hp→V→Prop) (st:∀{i H1 H2 y},Same H1 H2→Rel i H1 y→Rel i H2 y) (su:∀{i H1 D ys zs y},H1 D=some (.lst ys)→Rel i H1 y→Rel i (upd H1 D (.lst zs)) y)
  (σ0:St) (cap:Cap X scope N σ σ0) (hsz:xs.length≤sizeLine) (hl:xs.length=ys.length)
  (hw:∀R:List V→Hp→Prop,(∀t u H1,Same H H1→SqT K H1 t xs→SqT K H1 u ys→R [.ref t,.ref u] H1)→tl σ H R)
  (he:∀(i:Nat) (x y:V),xs[i]?=some x→ys[i]?=some y→∀H' R l1 l2,Same H H'→(∀z H2,Same H' H2→Rel i H2 z→R z H2)→te ((((σ0.set 0 l1).set 1 l2).set 0 (some x)).set 1 (some y)) H' R) (h0:σ0[0]?=some none) (h1:σ0[1]?=some none)
  (q:∀D H' zs,Same H H'→H' D=some (.lst zs)→zs.length=xs.length→(∀(i:Nat) (z:V),zs[i]?=some z→Rel i H' z)→Q (.ref D) H') :
  iV X scope N (aM1 K tl) (aJk K 2 (oE (bQ 0) (oE (bQ 1) aIh))) mL te σ H Q:=by
 refine ⟨σ0,cap,hw _ fun t u H1 s1 ht hu=>⟨t,u,xs,ys,rfl,ht,hu,fun D hD=>?_⟩⟩
 refine ⟨fun i m σ' H' zs=>i≤xs.length∧m=xs.length - i∧(∃l1 l2,σ'=(σ0.set 0 l1).set 1 l2)∧Same H1 H'∧H' D=some (.lst zs)∧zs.length=i∧∀(j:Nat) (z:V),zs[j]?=some z→Rel j H' z,⟨xs.length,Nat.zero_le _,rfl,⟨none,none,?_⟩,bF hD _,aH,rfl,fun j y e=>by simp at e⟩,?_⟩
 ·rw [←fV h0];exact fV h1
 rintro i m σ' H' zs ⟨hi,rfl,⟨l1,l2,rfl⟩,sm,hL,hlz,hR⟩
 refine ⟨hL,?_⟩
 by_cases hlt:i<xs.length
 ·right
  refine ⟨⟨sm.aP ht,sm.aP hu,hlt,by lia⟩,fun v H2 hy=>?_⟩
  obtain ⟨T,a,b,hT,rfl,rfl,ha,hb⟩:=hy
  have s2:Same H' (upd H' T (.tup [a,b])):=bF hT _
  refine ⟨T,[a,b],rfl,.inl (.inl aH),rfl,a,[b],rfl,b,[],rfl,rfl,?_⟩
  unfold mL
  dsimp only
  rw [if_pos rfl]
  refine he i a b ha hb _ _ l1 l2 (fun b o e=>s2 _ _ (sm _ _ (s1 _ _ e))) fun y H3 s3 r3=>⟨s3 _ _ (s2 _ _ hL),by lia,xs.length - (i+1),by lia,hlt,rfl,⟨some a,some b,?_⟩,?_,aH,?_,?_⟩
  ·rw [List.set_comm _ _ (show (1:Nat)≠0 by decide),List.set_set,List.set_set]
  ·intro c o e
   rw [aV (bB e hD)]
   exact s3 _ _ (s2 _ _ (sm _ _ e))
  ·rw [List.length_append,List.length_singleton,hlz]
  ·intro j z ez
   refine su (s3 _ _ (s2 _ _ hL)) ?_
   by_cases hj:j<zs.length
   ·rw [List.getElem?_append_left hj] at ez
    exact st s3 (st s2 (hR j z ez))
   ·rw [List.getElem?_append_right (by lia)] at ez
    have hj0:j - zs.length=0:=by
     by_cases z0:j - zs.length=0
     ·exact z0
     ·rw [List.getElem?_eq_none (by simp;lia)] at ez;cases ez
    have hj1:j=i:=by lia
    subst hj1
    rw [hj0] at ez
    cases ez
    exact r3
 ·left
  have e:i=xs.length:=by lia
  subst e
  exact ⟨⟨sm.aP ht,Nat.le_refl _⟩,q D _ zs (s1.trans sm) hL hlz hR⟩
end
section
variable {X:Cx} {tg e o i:Expr} {te td ty:TE} {pos:Pos}
theorem aW8 (h:VE X e te):VI X tg e (fun σ H R=>sY X.K te σ H R∨aJ9 X.K te σ H R):=⟨fun pins s σ H R I q=>q.elim (aMq h.1 pins s σ H R I) (aRu h.1 pins s σ H R I)⟩
theorem aMm (hu:X.A.units+1<cLine) (ho:VE X o td) (hi:VE X i ty) (hs:aX8 i):VE X (.Subscript o i pos) (aVo td ty):=⟨aT4 hu ho.1 hi.1 hs⟩
def aZ3 (K:PySem.W.Frag):R2:=fun x y H Q=>∃(a b:Addr) (xs:List Str),x=.ref a∧y=.ref b∧SqL K H a (xs.map V.str)∧SqL K H b (xs.map V.str)∧Q (.bl false) H
theorem aWg (hu:X.A.units<cLine):OpR X (compareOp .NotEq) (aZ3 X.K):=by
 intro pins s σ H x y v u Q I rx ry h
 obtain ⟨a,b,xs,rfl,rfl,ha,hb,q⟩:=h
 cases rx
 cases ry
 obtain ⟨its,rv,pl,hz⟩:=I.list ha
 obtain ⟨jts,rw',pm,hw⟩:=I.list hb
 have e1:=rv.length
 have e2:=rw'.length
 rw [List.length_map] at e1 e2
 refine SeqAt.RcNeAt.lists (e:=fun _=>true) pl.isList pm.isList (by rw [List.size_toArray,List.size_toArray];lia) hu (fun j h1 h2=>?_) _ _ _ _ ?_
 ·have hj1:j<xs.length:=by rw [List.size_toArray] at h1;lia
  obtain ⟨u1,hu1,t1,rfl⟩:=rv.get (i:=j) (x:=.str xs[j]) (by rw [List.getElem?_map,List.getElem?_eq_getElem hj1];rfl)
  obtain ⟨u2,hu2,t2,rfl⟩:=rw'.get (i:=j) (x:=.str xs[j]) (by rw [List.getElem?_map,List.getElem?_eq_getElem hj1];rfl)
  have g1:its.toArray[j]=Value.str xs[j] t1:=by
   rw [List.getElem_toArray]
   exact (List.getElem?_eq_some_iff.mp hu1).2
  have g2:jts.toArray[j]=Value.str xs[j] t2:=by
   rw [List.getElem_toArray]
   exact (List.getElem?_eq_some_iff.mp hu2).2
  rw [g1,g2]
  have z:=SeqAt.EqAt.str_str (A:=X.A.in1) (s:=s) xs[j] t1 xs[j] t2
  simpa using z
 ·have z:(List.range its.toArray.size).all (fun _=>true)=true:=by rw [List.all_eq_true];intro _ _;rfl
  rw [z]
  exact ⟨.bl _,H,I,rfl,q⟩
end
theorem aUy {K:PySem.W.Frag} {t u:Addr} {xs ys:List V} {g:TG} {tb:TS} {D:Ends} {σ:St} {H:Hp} (Pv:Nat→St→Hp→Prop) (hxy:xs.length=ys.length) (h0:Pv 0 σ H) (hl:∀i σ H,i≤xs.length→Pv i σ H→SqT K H t xs∧SqT K H u ys)
  (hs:∀i σ H a b T H',xs[i]?=some a→ys[i]?=some b→Pv i σ H→H T=none→H'=upd H T (.tup [a,b])→g (.ref T) σ H' fun σ2 H2=>tb { D with nx:=Pv (i+1),ct:=Pv (i+1),bk:=D.nx } σ2 H2) (hd:∀σ H,Pv xs.length σ H→D.nx σ H) :
  ∃W:Nat→Nat→St→Hp→Prop,(∃m,W 0 m σ H)∧∀i m σ H,W i m σ H →
   ((Itz K t u xs ys).stop i H∧D.nx σ H)∨((Itz K t u xs ys).go i H∧∃N:St→Hp→Prop,(∀σ' H',N σ' H'→∃m',m'<m∧W (i+1) m' σ' H')∧∀x H',(Itz K t u xs ys).yld i H x H'→g x σ H' fun σ2 H2=>tb { D with nx:=N,ct:=N,bk:=D.nx } σ2 H2):=by
 refine ⟨fun i m σ H=>m=xs.length - i∧i≤xs.length∧Pv i σ H,⟨xs.length,by simp,Nat.zero_le _,h0⟩,?_⟩
 rintro i m σ H ⟨rfl,hi,p⟩
 by_cases hlt:i<xs.length
 ·refine .inr ⟨⟨(hl i σ H hi p).1,(hl i σ H hi p).2,hlt,by lia⟩,Pv (i+1),fun σ' H' p'=>⟨xs.length - (i+1),by lia,rfl,hlt,p'⟩,fun x H' y=>?_⟩
  obtain ⟨T,a,b,hT,rfl,e,ha,hb⟩:=y
  exact hs i σ H a b T H' ha hb p hT e
 ·have e:i=xs.length:=by lia
  subst e
  exact .inl ⟨⟨(hl _ σ H hi p).1,Nat.le_refl _⟩,hd σ H p⟩
theorem aNz {X:Cx} {i o:Expr} {td ty:TE} {pos:Pos} (hu:X.A.units+1<cLine) (hi:VE X i ty) (ho:VE X o td) (h1:behindInMarks .NotIn o=false:=by first|exact nobehind _ (by decide) (by decide)|rfl):VT X (.Compare i [.NotIn] [o] pos) (tB (aNb ty td)):=⟨aWd (aN5 hu hi.1 ho.1) h1⟩
theorem gG {X:Cx} {K:PySem.W.Frag} (h:X.K=K:=by rfl):OpR X (compareOp .NotIn) (rIn K true):=by subst h;exact pZ
def sel {α:Type} (p:Nat→Bool):Nat→List α→List α
 |_,[]=>[]
 |i,x::r=>if p i then x::sel p (i+1) r else sel p (i+1) r
theorem wI {α:Type} (p:Nat→Bool) (x:α):∀(k:Nat) (xs:List α),sel p k (xs++[x])=sel p k xs++(if p (k+xs.length) then [x] else [])
 |k,[]=>by
  show (if p k then x::sel p (k+1) [] else sel p (k+1) [])=[]++(if p (k+0) then [x] else [])
  rw [Nat.add_zero,List.nil_append]
  rfl
 |k,y::r=>by
  show (if p k then y::sel p (k+1) (r++[x]) else sel p (k+1) (r++[x]))=(if p k then y::sel p (k+1) r else sel p (k+1) r)++_
  rw [wI p x (k+1) r,List.length_cons,show k+1+r.length=k+(r.length+1) by lia]
  split <;> rfl
theorem vY {α:Type} (p:Nat→Bool):∀(k:Nat) (xs:List α),(sel p k xs).length≤xs.length
 |_,[]=>Nat.le_refl _
 |k,y::r=>by
  have:=vY p (k+1) r
  show (if p k then y::sel p (k+1) r else sel p (k+1) r).length≤r.length+1
  split
  ·rw [List.length_cons];lia
  ·lia
section
variable {X:Cx} {scope:Scope} {N:List Str} {wi:TI} {te:TE} {σ:L2.St} {H:Hp} {Q:VK}
theorem aRi {tt:TT} (xs:List V) (p:Nat→Bool) (σ0:L2.St) (cap:Cap X scope N σ σ0) (hsz:xs.length≤sizeLine)
  (hw:∀R:It→Hp→Prop,(∀J:It,(∀H' i x,Same H H'→xs[i]?=some x→J.go i H'∧∀y H2,J.yld i H' y H2→H2=H'∧y=x)→(∀H',Same H H'→J.stop xs.length H')→R J H)→wi σ H R)
  (ht:∀(i:Nat) (x:V),xs[i]?=some x→∀H' R l,Same H H'→(∀H2,Same H' H2→R (p i) H2)→tt ((σ0.set 0 l).set 0 (some x)) H' R) (h0:σ0[0]?=some none)
  (q:∀D H',Same H H'→H' D=some (.lst (sel p 0 xs))→Q (.ref D) H') :
  iV X scope N wi (bQ 0) tt (yX 0) σ H Q:=by
 refine ⟨σ0,cap,hw _ fun J go stop D hD=>?_⟩
 refine ⟨fun i m σ' H' ys=>i≤xs.length∧m=xs.length - i∧(∃l,σ'=σ0.set 0 l)∧Same H H'∧H' D=some (.lst ys)∧ys=sel p 0 (xs.take i),⟨xs.length,Nat.zero_le _,rfl,⟨none,fV h0⟩,bF hD _,aH,rfl⟩,?_⟩
 rintro i m σ' H' ys ⟨hi,rfl,⟨l,rfl⟩,sm,hL,rfl⟩
 refine ⟨hL,?_⟩
 by_cases hlt:i<xs.length
 ·right
  obtain ⟨g1,g2⟩:=go H' i xs[i] sm (List.getElem?_eq_getElem hlt)
  refine ⟨g1,fun x H2 hy=>?_⟩
  obtain ⟨rfl,rfl⟩:=g2 x H2 hy
  unfold bQ
  dsimp only
  have hj:0<σ0.length:=by
   by_cases z:0<σ0.length
   ·exact z
   ·rw [List.getElem?_eq_none (by lia)] at h0;cases h0
  have tk:sel p 0 (xs.take (i+1))=sel p 0 (xs.take i)++(if p i then [xs[i]] else []):=by
   rw [List.take_add_one,List.getElem?_eq_getElem hlt]
   show sel p 0 (xs.take i++[xs[i]])=_
   rw [wI,List.length_take,Nat.zero_add,Nat.min_eq_left (Nat.le_of_lt hlt)]
  refine ht i xs[i] (List.getElem?_eq_getElem hlt) _ _ l sm fun H3 s3=>?_
  cases hp:p i with
  |true=>
   rw [if_pos rfl]
   refine ⟨xs[i],by rw [List.set_set,List.getElem?_set_self hj],s3 _ _ hL,?_,xs.length - (i+1),by lia,hlt,rfl,⟨some xs[i],by rw [List.set_set]⟩,?_,aH,?_⟩
   ·have:=vY p 0 (xs.take i)
    rw [List.length_take] at this
    lia
   ·intro b o e
    rw [aV (bB e hD)]
    exact s3 _ _ (sm _ _ e)
   ·rw [tk,hp];rfl
  |false=>
   rw [if_neg (by simp)]
   refine ⟨s3 _ _ hL,xs.length - (i+1),by lia,hlt,rfl,⟨some xs[i],by rw [List.set_set]⟩,sm.trans s3,s3 _ _ hL,?_⟩
   rw [tk,hp]
   simp
 ·left
  have e:i=xs.length:=by lia
  subst e
  refine ⟨stop _ sm,?_⟩
  rw [List.take_length] at hL
  exact q D _ sm hL
end
theorem aU5 {X:Cx} {i0:Nat} {x0:Str} {pos' spos:Pos} {elt target iter:Expr} {ifs:List Expr} {scope:Scope} {pos:Pos} {N:List Str} {wi:TI} {g:TG} {tt:TT} {te:TE}
  (hN:X.N.Nodup) (hi0:X.N[i0]?=some x0) (hx0:Loc X.env.scope x0) (C:xK scope N) (hfr:∀y,(y,NameKind.free)∈scope.names→X.env.kindOf y=some .cell∨X.env.kindOf y=some .free) (hc:X.calm=true)
  (hi:PI X target iter wi)
  (hb:∀cl s H fp,PG (cxC X N scope cl s H fp) target g∧aQz (cxC X N scope cl s H fp) ifs tt∧PE (cxC X N scope cl s H fp) elt te)
  (hs:∀x,foldedSetIterable iter X.env x=pure x:=by intro _;rfl) (hsw:swapsWith (.ListComp elt [⟨target,iter,ifs,0⟩] scope pos) (some (.Name x0 pos')) spos.line X.env=pure true:=by rfl)
  (hf:X.fn x0=true∨X.env.scope.names.lookup x0=some .local:=by first|exact .inl rfl|exact .inr rfl|assumption) :
  PS X (.Assign [.Name x0 pos'] (.ListComp elt [⟨target,iter,ifs,0⟩] scope pos) spos) (mO (iV X scope N wi g tt te) (bQ i0)):=by
 intro pins s σ H Dn I hq
 obtain ⟨σ0,cap,hq⟩:=hq
 obtain ⟨cl,hcl,p1,p2⟩:=aA3 (scope:=scope) (env:=X.env) (fun y hy hk=>by
  obtain ⟨n,k⟩:=y
  cases hk
  exact I.ok.has n (hfr n hy))
 rw [exec_Assign_Name_used _ _ _ _ hsw]
 refine wpAny_bind (wpAny_standAt (wpAny_bind ?_))
 show wpAny _ X.A (do let _ ←comprehension (.ListComp elt [⟨target,iter,ifs,0⟩] scope pos) scope X.env _ (newList []) false (eval iter X.env) (some (assign (.Name x0 pos') X.env))) _ _ s
 refine wpAny_bind (wpAny_mono (wpAny_comprehension_free (use:=some (assign (.Name x0 pos') X.env)) (Q:=fun _ s'=>SP X pins Dn .next s') rfl hs hcl C.kind C.names (thn (hi pins s σ H _ I hq) fun xv s1 h1=>thn h1 fun itv s2 h2=>?_))
  (fun _ s' hq=>wpAny_pure (wpAny_pure hq)) fun _ _ e=>e)
 obtain ⟨it,fp,tn,J,H2,rfl,I2,T,st2,f2,q2⟩:=h2
 refine wpAny_newObj_type (wpAny_newFunctionEnv C.cell (by intro y hy;simp at hy) (fun h₁ hns₁ hsb₁=>?_) C.kind)
 dsimp only at hns₁ hsb₁ ⊢
 have hD:H2 s2.heap.objs.size=none:=I2.hok.fresh (Nat.le_refl _)
 have I3:Inv X pins σ (upd H2 s2.heap.objs.size (.lst [])) { s2 with heap:=s2.heap.push { cls:=.type "list",dict:=none,data:=.seq ([]:List Value).toArray } }:=
  I2.laid (t':=s2.toks) (fun b u e=>Heap.get?_push_of_some _ e) (Nat.le_refl _) ⟨Nat.zero_le _,[],0,.nil,Heap.get?_push_size _ rfl⟩
 generalize hs3:({ s2 with heap:=s2.heap.push { cls:=.type "list",dict:=none,data:=.seq ([]:List Value).toArray } }:Shared)=s3 at I3
 have hh3:s2.heap.push { cls:=.type "list",dict:=none,data:=.seq ([]:List Value).toArray }=s3.heap:=by rw [←hs3]
 rw [hh3] at hns₁ hsb₁
 have fl2:∀b∈fp,b<s2.heap.objs.size:=fun b hb=>by
  obtain ⟨o,e,_⟩:=T.obj _ _ st2 b hb
  exact Heap.lt_size e
 have fl3:∀b∈fp,b<s3.heap.objs.size:=fun b hb=>by
  rw [←hh3,Heap.size_push]
  exact Nat.lt_succ_of_lt (fl2 b hb)
 have f3:∀b∈fp,uK X pins (upd H2 s2.heap.objs.size (.lst [])) b:=fun b hb=>by
  obtain ⟨f0,fr⟩:=f2 b hb
  exact ⟨by rw [aV (Nat.ne_of_lt (fl2 b hb))];exact f0,fr⟩
 have keep3:∀b o,s3.heap.get? b=some o→h₁.get? b=some o:=fun b o e=>hsb₁.extBut b o (Nat.ne_of_lt (Heap.lt_size e)) (Heap.get?_push_of_some _ e)
 have I4:=aGl (tk:=s3.toks) I3 C hfr p1 p2 cap f3 fl3 hns₁ keep3
 have st4:tn 0 h₁:=T.keep _ _ _ st2 fun b hb o e=>keep3 b o (by rw [←hh3];exact Heap.get?_push_of_some _ e)
 obtain ⟨W,⟨m0,w0⟩,turn⟩:=q2 s2.heap.objs.size hD
 have fpc:∀{H':Hp},(∀b∈fp,H' b=none)→∀b∈fp,uK (cxC X N scope cl s3 (upd H2 s2.heap.objs.size (.lst [])) fp) [] H' b:=fun {H'} hn b hb=>by
  obtain ⟨e1,e2⟩:=I4.ok.exf b hb
  exact ⟨hn b hb,e1,I4.ok.exfs b hb,.inl hb,e2,fun p hp=>absurd (show p∈([]:List (Addr × Obj)) from hp) (by simp)⟩
 have loop:∀s4:Shared,s4={ s3 with heap:=h₁,toks:=s3.toks } →
   codeAny (model X.prog X.w) X.A (.compLoop (.ListComp elt [⟨target,iter,ifs,0⟩] scope pos) 0 (.ref it) (.ref s2.heap.objs.size) (compEnvC scope cl s3.heap.objs.size X.env))
    (compPost (model X.prog X.w) X.A X.xe (some (assign (.Name x0 pos') X.env)) (fun _ s'=>SP X pins Dn .next s') (.ref s2.heap.objs.size) s3.heap.objs.size) s4:=by
  rintro s4 rfl
  refine aCx (fun n s'=>∃i σ' H' ys,Inv (cxC X N scope cl s3 (upd H2 s2.heap.objs.size (.lst [])) fp) [] σ' H' s'∧tn i s'.heap∧(∀b∈fp,H' b=none)∧W i n σ' H' ys) ?_ m0 ⟨0,σ0,_,[],I4,st4,fun b hb=>(f3 b hb).1,w0⟩
  rintro n s5 ⟨i,σ5,H5,ys,I5,st5,fr5,w5⟩
  obtain ⟨hacc,w5⟩:=turn i n σ5 H5 ys w5
  have noE:∀{α:Type} {t:Sem α} {Q':α→Shared→Prop} {E':Value→Shared→Prop} {s':Shared},wpAny (model X.prog X.w) X.A t Q' (fun _ _=>False) s'→wpAny (model X.prog X.w) X.A t Q' E' s':=fun h=>wpAny_mono h (fun _ _ q=>q) fun _ _ z=>z.elim
  rcases w5 with ⟨stop,qn⟩|⟨go,step⟩
  ·refine noE (thn (T.done (cxC X N scope cl s3 (upd H2 s2.heap.objs.size (.lst [])) fp) rfl rfl rfl hc i [] s5 σ5 H5 _ I5 (fpc fr5) st5 stop) fun r s6 ⟨hr,I6⟩=>?_)
   subst hr
   obtain ⟨m6,hn6,_⟩:=I6.loc
   have kp:∀b o,b≠s3.heap.objs.size→s6.heap.get? b=some o→s6.heap.get? b=some o:=fun b o hb e=>e
   have ne3:∀b o,s3.heap.get? b=some o→b≠s3.heap.objs.size:=fun b o e=>Nat.ne_of_lt (Heap.lt_size e)
   have un:Un (frs X.stack) fp (upd H2 s2.heap.objs.size (.lst [])) H5 s3.heap s6.heap:=by
    have u:=I6.base
    exact ⟨fun b o e n hb hx=>kp b o (ne3 b o e) (u.keep b o e n hb hx),fun b o e n hb hx=>by
     obtain ⟨sl,e1⟩:=u.slot b o e n hb hx
     exact ⟨sl,kp b _ (ne3 b o e) e1⟩,u.free,fun b o e hx=>by
     obtain ⟨o',e1⟩:=u.there b o e hx
     exact ⟨o',kp b _ (ne3 b o e) e1⟩,u.tups,u.frzs,u.tbls⟩
   have hok:HOk X.prog X.w H5 s6.heap:=fun b u e=>by
    refine (I6.hok b u e).stay (fun c v hc' q=>kp c v ?_ q) (fun _ q=>q) fun _ _ q=>q
    have hfree:H5 s3.heap.objs.size=none:=I6.free
    rintro rfl
    rcases hc' with z|z
    ·rw [z] at hfree;rw [hfree] at e;cases e
    ·rw [hfree] at z;cases z
   have I7:Inv X pins σ H5 s6:=by
    refine I3.call' (s':=s6) I6.os un hok I6.bare fun b hb=>?_
    obtain ⟨f0,f1,f2',f3',f4,f5⟩:=f3 b hb
    exact ⟨f3',f1,f4,f5⟩
   have hfree:H5 s3.heap.objs.size=none:=I6.free
   obtain ⟨g0,g1,g2,g3,g4,g5⟩:=I3.aG2 (Nat.le_refl _) hfree
   show wpAny (model X.prog X.w) X.A (assign (.Name x0 pos') X.env (.ref s2.heap.objs.size)) _ _ s6
   refine wpAny_assign_Name (aCy I7 hN hi0 hx0 (v:=.ref s2.heap.objs.size) rfl (fun s8 I8 ⟨a,sb,ha⟩=>?_) hf)
   have nea:s3.heap.objs.size≠a:=by
    rcases ha with z|z
    ·rw [z];exact g1
    ·exact fun e=>g4 x0 a z e.symm
   refine ⟨m6,hn6.sameBut sb nea,fun h' sb'=>?_⟩
   exact ⟨_,H5,Inv.turned I8 (t':=s8.toks) (it:=s3.heap.objs.size) (fun b o hb e=>sb'.extBut b o hb e) g0 g1 g3 g4 g5,qn⟩
  ·refine noE (thn (T.item (cxC X N scope cl s3 (upd H2 s2.heap.objs.size (.lst [])) fp) rfl rfl rfl hc i [] s5 σ5 H5 (fun _ _=>False) I5 (fpc fr5) st5 go) fun r s6 ⟨u,hr,h6⟩=>?_)
   subst hr
   refine noE (thn h6 fun _ s7 ⟨x,H7,I7,r7,y7,st7,fr7⟩=>?_)
   obtain ⟨hg,ht,he⟩:=hb cl s3 (upd H2 s2.heap.objs.size (.lst [])) fp
   have I7':=I7.pinned (fpc fr7) (T.obj _ _ st7)
   have back:∀{σ8:St} {H8:Hp} {s8:Shared},Inv (cxC X N scope cl s3 (upd H2 s2.heap.objs.size (.lst [])) fp) ([]++wR fp s7.heap) σ8 H8 s8→tn (i+1) s8.heap∧∀b∈fp,H8 b=none:=fun {σ8 H8 s8} I8=>
    ⟨T.keep _ _ _ st7 fun b hb o e=>(I8.pin (b,o) (List.mem_append_right _ (List.mem_append_right _ (jD hb e)))).1,fun b hb=>by
     obtain ⟨o,e,d⟩:=T.obj _ _ st7 b hb
     exact (I8.pin (b,o) (List.mem_append_right _ (List.mem_append_right _ (jD hb e)))).2.1⟩
   refine noE (thn (hg _ s7 σ5 H7 x u _ I7' r7 (step x H7 y7)) fun _ s8 ⟨σ8,H8,I8,q8⟩=>?_)
   refine noE (thn (ht _ s8 σ8 H8 _ I8 q8) fun b s9 ⟨H9,I9,q9⟩=>?_)
   cases b with
   |false=>
    rw [if_neg Bool.false_ne_true] at q9 ⊢
    obtain ⟨_,m',hm,w9⟩:=q9
    exact ⟨m',hm,i+1,σ8,H9,ys,I9.mC,(back I9).1,(back I9).2,w9⟩
   |true=>
    rw [if_pos rfl] at q9 ⊢
    refine noE (thn (he _ s9 σ8 H9 _ I9 q9) fun yv s10 ⟨y,H10,I10,r10,hacc10,hlen,m',hm,w10⟩=>?_)
    refine noE (thn (wQ _ s10 σ8 H10 (.ref s2.heap.objs.size) [y] (.ref s2.heap.objs.size) [yv] (fun _ H11=>H11=upd H10 s2.heap.objs.size (.lst (ys++[y]))) I10 rfl (.cons r10 .nil) ⟨_,_,_,rfl,rfl,hacc10,hlen,rfl⟩) fun _ s11 ⟨z,H11,I11,_,e11⟩=>?_)
    subst e11
    exact ⟨m',hm,i+1,σ8,_,ys++[y],I11.mC,(back I11).1,(back I11).2,w10⟩
 have fin:=codeAny_compStart_list (loop { s3 with heap:=h₁,toks:=s3.toks } rfl) (T.self _ _ _ _ _ st4 (loop { s3 with heap:=h₁,toks:=s3.toks } rfl))
 subst hs3
 exact fin
theorem lB {X:Cx} {i0:Nat} {x0:Str} {pos' spos:Pos} {elt target iter:Expr} {ifs:List Expr} {scope:Scope} {pos:Pos} {N:List Str} {wi:TI} {g:TG} {tt:TT} {te:TE}
  (hN:X.N.Nodup) (hi0:X.N[i0]?=some x0) (hx0:Loc X.env.scope x0) (C:xK scope N) (hfr:∀y,(y,NameKind.free)∈scope.names→X.env.kindOf y=some .cell∨X.env.kindOf y=some .free) (hc:X.calm=true)
  (hi:VI X target iter wi)
  (hb:∀cl s H fp,VG (cxC X N scope cl s H fp) target g∧VF (cxC X N scope cl s H fp) ifs tt∧VE (cxC X N scope cl s H fp) elt te)
  (hs:∀x,foldedSetIterable iter X.env x=pure x:=by intro _;rfl) (hsw:swapsWith (.ListComp elt [⟨target,iter,ifs,0⟩] scope pos) (some (.Name x0 pos')) spos.line X.env=pure true:=by rfl)
  (hf:X.fn x0=true∨X.env.scope.names.lookup x0=some .local:=by first|exact .inl rfl|exact .inr rfl|assumption) :
  VS X (.Assign [.Name x0 pos'] (.ListComp elt [⟨target,iter,ifs,0⟩] scope pos) spos) (mO (iV X scope N wi g tt te) (bQ i0)):=
 ⟨aU5 hN hi0 hx0 C hfr hc hi.1 (fun cl s H fp=>⟨(hb cl s H fp).1.1,(hb cl s H fp).2.1.1,(hb cl s H fp).2.2.1⟩) hs hsw hf⟩
section
variable {te:TE} {H:Hp} {Q:VK}
theorem aKj (xs:List V) (Rel:Nat→Hp→V→Prop) (st:∀{i H1 H2 y},Same H1 H2→Rel i H1 y→Rel i H2 y) (su:∀{i H1 D ys zs y},H1 D=some (.lst ys)→Rel i H1 y→Rel i (upd H1 D (.lst zs)) y)
  (σ0:St) (hsz:xs.length≤sizeLine)
  (J:It) (go:∀H' i x,Same H H'→xs[i]?=some x→J.go i H'∧∀y H2,J.yld i H' y H2→H2=H'∧y=x) (stop:∀H',Same H H'→J.stop xs.length H')
  (he:∀(i:Nat) (x:V),xs[i]?=some x→∀H' R l,Same H H'→(∀y H2,Same H' H2→Rel i H2 y→R y H2)→te ((σ0.set 0 l).set 0 (some x)) H' R) (h0:σ0[0]?=some none)
  (q:∀D H' ys,Same H H'→H' D=some (.lst ys)→ys.length=xs.length→(∀(i:Nat) (y:V),ys[i]?=some y→Rel i H' y)→Q (.ref D) H') :
  ∀D,H D=none→∃W:Nat→Nat→St→Hp→List V→Prop,(∃m,W 0 m σ0 (upd H D (.lst [])) []) ∧
   ∀i m σ' H' ys,W i m σ' H' ys→H' D=some (.lst ys)∧((J.stop i H'∧Q (.ref D) H')∨(J.go i H'∧∀x H2,J.yld i H' x H2→bQ 0 x σ' H2 fun σ3 H3=>mL σ3 H3 fun b H4=>
    if b=true then te σ3 H4 fun y H5=>H5 D=some (.lst ys)∧ys.length<sizeLine∧∃m',m'<m∧W (i+1) m' σ3 (upd H5 D (.lst (ys++[y]))) (ys++[y]) else H4 D=some (.lst ys)∧∃m',m'<m∧W (i+1) m' σ3 H4 ys)):=by
 intro D hD
 refine ⟨fun i m σ' H' ys=>i≤xs.length∧m=xs.length - i∧(∃l,σ'=σ0.set 0 l)∧Same H H'∧H' D=some (.lst ys)∧ys.length=i∧∀(j:Nat) (y:V),ys[j]?=some y→Rel j H' y,⟨xs.length,Nat.zero_le _,rfl,⟨none,fV h0⟩,bF hD _,aH,rfl,fun j y e=>by simp at e⟩,?_⟩
 rintro i m σ' H' ys ⟨hi,rfl,⟨l,rfl⟩,sm,hL,hl,hR⟩
 refine ⟨hL,?_⟩
 by_cases hlt:i<xs.length
 ·right
  obtain ⟨g1,g2⟩:=go H' i xs[i] sm (List.getElem?_eq_getElem hlt)
  refine ⟨g1,fun x H2 hy=>?_⟩
  obtain ⟨rfl,rfl⟩:=g2 x H2 hy
  unfold bQ mL
  dsimp only
  rw [if_pos rfl]
  refine he i xs[i] (List.getElem?_eq_getElem hlt) _ _ l sm fun y H3 s3 r3=>⟨s3 _ _ hL,by lia,xs.length - (i+1),by lia,hlt,rfl,⟨some xs[i],?_⟩,?_,aH,?_,?_⟩
  ·rw [List.set_set]
  ·intro b o e
   rw [aV (bB e hD)]
   exact s3 _ _ (sm _ _ e)
  ·rw [List.length_append,List.length_singleton,hl]
  ·intro j z ez
   refine su (s3 _ _ hL) ?_
   by_cases hj:j<ys.length
   ·rw [List.getElem?_append_left hj] at ez
    exact st s3 (hR j z ez)
   ·rw [List.getElem?_append_right (by lia)] at ez
    have hj0:j - ys.length=0:=by
     by_cases z0:j - ys.length=0
     ·exact z0
     ·rw [List.getElem?_eq_none (by simp;lia)] at ez;cases ez
    have hj1:j=i:=by lia
    subst hj1
    rw [hj0] at ez
    cases ez
    exact r3
 ·left
  have e:i=xs.length:=by lia
  subst e
  exact ⟨stop _ sm,q D _ ys sm hL hl hR⟩
end
section
variable {K:PySem.W.Frag}
theorem aL4 {a:Addr} {xs:List V} {H:Hp} (hS:∀H',Same H H'→SqL K H' a xs):∀H' i x,Same H H'→xs[i]?=some x→(Itl K a).go i H'∧∀y H2,(Itl K a).yld i H' y H2→H2=H'∧y=x:=fun H' i x s e=>
 ⟨⟨xs,x,hS H' s,e⟩,fun y H2 hy=>by
  obtain ⟨e1,e2⟩:=hy
  have e3:=e2 xs (hS H' s)
  rw [e] at e3
  cases e3
  exact ⟨e1,rfl⟩⟩
theorem aAt {a:Addr} {xs:List V} {H:Hp} (hS:∀H',Same H H'→SqL K H' a xs):∀H',Same H H'→(Itl K a).stop xs.length H':=fun H' s=>⟨xs,hS H' s,Nat.le_refl _⟩
end
section
variable {X:Cx} {K:PySem.W.Frag} {scope:Scope} {N:List Str} {tl te:TE} {σ:L2.St} {H:Hp} {Q:VK}
theorem aDd (Pr:List V→Prop) (Rel:Nat→Hp→V→Prop) (st:∀{i H1 H2 y},Same H1 H2→Rel i H1 y→Rel i H2 y) (su:∀{i H1 D ys zs y},H1 D=some (.lst ys)→Rel i H1 y→Rel i (upd H1 D (.lst zs)) y)
  (σ0:L2.St) (cap:Cap X scope N σ σ0) (h0:σ0[0]?=some none)
  (hw:∀R:VK,(∀D H1 us,Same H H1→H1 D=some (.lst us)→Pr us→R (.ref D) H1)→tl σ H R)
  (hsz:∀us,Pr us→us.length≤sizeLine)
  (he:∀us,Pr us→∀(i:Nat) (x:V),us[i]?=some x→∀H' R l,Same H H'→(∀y H2,Same H' H2→Rel i H2 y→R y H2)→te ((σ0.set 0 l).set 0 (some x)) H' R)
  (q:∀us,Pr us→∀D H' ys,Same H H'→H' D=some (.lst ys)→ys.length=us.length→(∀(i:Nat) (y:V),ys[i]?=some y→Rel i H' y)→Q (.ref D) H') :
  iV X scope N (sY K tl) (bQ 0) mL te σ H Q:=
 ⟨σ0,cap,hw _ fun D H1 us s1 g1 p=>⟨D,rfl,⟨us,SqL.of g1⟩,aKj us Rel st su σ0 (hsz us p) (Itl K D) (aL4 fun H' sm=>SqL.of (sm _ _ g1)) (aAt fun H' sm=>SqL.of (sm _ _ g1))
  (fun i x ex H' R l sm r=>he us p i x ex H' R l (s1.trans sm) r) h0 fun D2 H' ys sm=>q us p D2 H' ys (s1.trans sm)⟩⟩
end
theorem SqT.kO {K:PySem.W.Frag} {H:Hp} {a D:Addr} {xs ys zs:List V} (hD:H D=some (.lst ys)) (h:SqT K H a xs):SqT K (upd H D (.lst zs)) a xs:=by
 rcases h with (h|⟨o,h⟩)|h
 ·exact .inl (.inl (by rw [aV (sW h hD (by intro z;cases z))];exact h))
 ·exact .inl (.inr ⟨o,by rw [aV (sW h hD (by intro z;cases z))];exact h⟩)
 ·exact .inr h
end L2
namespace PySem
theorem aHe:∀(ss σ:List Str),(ss.foldl xR σ).length=σ.length+ss.length↔ss.Nodup∧∀k∈ss,k∉σ
 |[],σ=>by simp
 |v::r,σ=>by
  rw [List.foldl_cons,List.length_cons,List.nodup_cons]
  by_cases h:v∈σ
  ·have e:xR σ v=σ:=by unfold xR;rw [if_pos h]
   rw [e]
   have l:=xW r σ
   constructor
   ·intro z;lia
   ·intro z;exact absurd h (z.2 v (by simp))
  ·have e:xR σ v=σ++[v]:=by unfold xR;rw [if_neg h]
   rw [e]
   have ih:=aHe r (σ++[v])
   rw [List.length_append,List.length_singleton] at ih
   rw [show σ.length+(r.length+1)=σ.length+1+r.length by lia,ih]
   constructor
   ·rintro ⟨a,b⟩
    refine ⟨⟨fun z=>(b v z) (by simp),a⟩,fun k hk=>?_⟩
    rcases List.mem_cons.mp hk with rfl|hk
    ·exact h
    ·exact fun z=>b k hk (by simp [z])
   ·rintro ⟨⟨a,b⟩,c⟩
    refine ⟨b,fun k hk z=>?_⟩
    rcases List.mem_append.mp z with z|z
    ·exact c k (by simp [hk]) z
    ·have:k=v:=by simpa using z
     subst this
     exact a hk
theorem aS6 (ss:List Str):(oJ ss).length=ss.length↔ss.Nodup:=by
 have h:=aHe ss []
 simp only [List.length_nil,Nat.zero_add,List.not_mem_nil,not_false_eq_true,implies_true,and_true] at h
 exact h
end PySem
namespace My
open PySem PySem.Spec PyProof.Rows L2
def top (i:Nat):Stmt:=PySem.Challenge.pw_shardask_k11_joined.main.body.getD i (.Pass ⟨0,0,0,0⟩)
abbrev uR:Stmt:=top 13
abbrev xY:Stmt:=top 14
abbrev qT:Stmt:=top 15
abbrev jV:Stmt:=top 16
abbrev pW:Stmt:=top 17
abbrev uM:Stmt:=top 18
abbrev xZ:Stmt:=top 19
abbrev uF:Stmt:=top 20
abbrev wO:Stmt:=top 21
abbrev uW:Stmt:=top 33
abbrev xV:Stmt:=top 34
abbrev yC:Stmt:=top 35
abbrev aAl:Stmt:=top 36
abbrev aAc:Stmt:=top 37
abbrev xH:Stmt:=top 38
abbrev rA:Stmt:=top 39
abbrev qQ:Stmt:=top 40
abbrev iQ:Stmt:=top 41
abbrev qX:Stmt:=top 42
abbrev uH:Stmt:=top 43
abbrev uJ:Stmt:=top 44
abbrev iI:Stmt:=top 45
abbrev uD:Stmt:=top 47
abbrev mF:Stmt:=top 48
abbrev uB:Stmt:=top 49
abbrev xM:Stmt:=top 50
abbrev xJ:Stmt:=top 51
abbrev iB:Stmt:=top 52
abbrev nJ:Stmt:=top 53
abbrev pY:Stmt:=top 54
abbrev pI:Stmt:=top 55
abbrev iC:Stmt:=top 56
abbrev mX:Stmt:=top 57
abbrev pK:Stmt:=top 58
abbrev gR:Stmt:=top 59
abbrev uN:Stmt:=top 60
abbrev lF:Stmt:=top 61
abbrev pC:Stmt:=top 62
abbrev rF:Stmt:=top 63
abbrev jR:Stmt:=top 64
abbrev xO:Stmt:=top 65
abbrev uV:Stmt:=top 67
abbrev mY:Stmt:=top 68
abbrev vR:Stmt:=top 69
abbrev yD:Stmt:=top 70
abbrev zV:Stmt:=top 71
abbrev aNr:Stmt:=top 72
abbrev oZ:Stmt:=top 73
abbrev qP:Stmt:=top 74
abbrev mV:Stmt:=top 75
abbrev aJe:Stmt:=top 76
abbrev oX:Stmt:=top 77
abbrev qR:Stmt:=top 78
abbrev xN:Stmt:=top 79
abbrev pG:Stmt:=top 80
abbrev qN:Stmt:=top 81
abbrev gH:Stmt:=top 82
abbrev gZ:Stmt:=top 83
abbrev wY:Stmt:=top 84
abbrev aFp:Stmt:=top 85
abbrev rO:Stmt:=top 87
abbrev pP:Stmt:=top 88
abbrev rN:Stmt:=top 89
abbrev pX:Stmt:=top 90
abbrev lE:Stmt:=top 91
abbrev pF:Stmt:=top 92
abbrev pN:Stmt:=top 93
abbrev qM:Stmt:=top 94
abbrev oY:Stmt:=top 95
abbrev yF:Stmt:=top 96
abbrev dF:Stmt:=top 97
abbrev qY:Stmt:=top 98
abbrev lC:Stmt:=top 99
abbrev wG:Stmt:=top 100
structure Txt (w:World) (K:PySem.W.Frag) (mg:Str→Option Value):Prop where
 aYu:mg "abs"=none
 aL7:mg "all"=none
 aVw:mg "any"=none
 aQw:mg "bool"=none
 aR4:mg "divmod"=none
 aIf:mg "enumerate"=none
 aMf:mg "int"=none
 bV:mg "isinstance"=none
 eY:mg "len"=none
 zW:mg "list"=none
 bAm:mg "max"=none
 bAl:mg "min"=none
 gK:mg "range"=none
 aK2:mg "reversed"=none
 aYl:mg "set"=none
 oM:mg "sorted"=none
 aRa:mg "str"=none
 bAk:mg "sum"=none
 cL:mg "tuple"=none
 aRt:mg "zip"=none
 jK:∃a,mg "QUESTION_WORDS"=some (.ref a)∧∀H,SqT K H a [.str "and",.str "by",.str "count",.str "down",.str "first",.str "group",.str "join",.str "keep",.str "least",.str "most",.str "named",.str "on",.str "sum",.str "table",.str "up",.str "where",.str "with"]
 aN2:∃u,mg "LETTERS"=some u∧RelV (.str "abcdefghijklmnopqrstuvwxyz") u
 aBc:∃u,mg "MOST_LETTERS"=some u∧RelV (.int 8) u
 aAw:∃u,mg "MOST_COLUMNS"=some u∧RelV (.int 8) u
 aEd:∃a,mg "SIGNS"=some (.ref a)∧∀H,SqT K H a [.str "=",.str "<",.str ">",.str "!"]
 qK:∃a,mg "SUM_WORDS"=some (.ref a)∧∀H,SqT K H a [.str "count",.str "sum",.str "least",.str "most"]
 aKw:∃a,mg "WAYS"=some (.ref a)∧∀H,SqT K H a [.str "up",.str "down"]
 aD6:∃u,mg "MOST_TESTS"=some u∧RelV (.int 3) u
 wL:∃u,mg "MOST_NAMES"=some u∧RelV (.int 8) u
 aEy:∃u,mg "MOST_PAIRS"=some u∧RelV (.int 3) u
 aGv:∃u,mg "MOST_SUMS"=some u∧RelV (.int 4) u
 aIu:∃u,mg "MOST_KEYS"=some u∧RelV (.int 3) u
 aJh:∃u,mg "MOST_ROWS"=some u∧RelV (.int 60) u
 aJn:∃u,mg "MOST_SIZE"=some u∧RelV (.int 20) u
 zQ:∃d t0 t1 t2 t3 t4 t5 t6:Addr,mg "FORMS"=some (.ref d)∧aUp w K d [("table",t0),("where",t1),("keep",t2),("named",t3),("join",t4),("group",t5),("first",t6)]∧(∃f0:Addr,(∀H,SqT K H t0 [.ref f0])∧mg "is_name"=some (.ref f0))∧(∃f0 f1:Addr,(∀H,SqT K H t1 [.ref f0,.ref f1])∧mg "may_be_question"=some (.ref f0)∧mg "are_tests"=some (.ref f1))∧(∃f0 f1:Addr,(∀H,SqT K H t2 [.ref f0,.ref f1])∧mg "may_be_question"=some (.ref f0)∧mg "are_names"=some (.ref f1))∧(∃f0 f1:Addr,(∀H,SqT K H t3 [.ref f0,.ref f1])∧mg "may_be_question"=some (.ref f0)∧mg "are_names"=some (.ref f1))∧(∃f0 f1 f2:Addr,(∀H,SqT K H t4 [.ref f0,.ref f1,.ref f2])∧mg "may_be_question"=some (.ref f0)∧mg "may_be_question"=some (.ref f1)∧mg "are_pairs"=some (.ref f2))∧(∃f0 f1 f2:Addr,(∀H,SqT K H t5 [.ref f0,.ref f1,.ref f2])∧mg "may_be_question"=some (.ref f0)∧mg "are_group_names"=some (.ref f1)∧mg "are_sums"=some (.ref f2))∧(∃f0 f1 f2:Addr,(∀H,SqT K H t6 [.ref f0,.ref f1,.ref f2])∧mg "may_be_question"=some (.ref f0)∧mg "are_keys"=some (.ref f1)∧mg "is_many"=some (.ref f2))
 lO:∃f o,(∃u,mg "is_name"=some u∧RelV (.ref f) u)∧K.lookup f=some o∧o.cls=.type "function"
 aCk:∃f o,(∃u,mg "is_test"=some u∧RelV (.ref f) u)∧K.lookup f=some o∧o.cls=.type "function"
 aCn:∃f o,(∃u,mg "is_pair"=some u∧RelV (.ref f) u)∧K.lookup f=some o∧o.cls=.type "function"
 aJp:∃f o,(∃u,mg "is_sum"=some u∧RelV (.ref f) u)∧K.lookup f=some o∧o.cls=.type "function"
 aI1:∃f o,(∃u,mg "is_key"=some u∧RelV (.ref f) u)∧K.lookup f=some o∧o.cls=.type "function"
 aJu:Dn K mg "is_whole" uR ["thing"]
 aOm:Dn K mg "is_word" xY ["thing"]
 aH1:Dn K mg "is_one_of" qT ["thing","texts"]
 aBe:Dn K mg "is_tuple_of" jV ["thing","least","most","is_part"]
 aEr:Dn K mg "are_unlike" pW ["names"]
 aKe:Dn K mg "names_of" uM ["head"]
 aPk:Dn K mg "is_name" xZ ["thing"]
 aLl:Dn K mg "is_value" uF ["thing"]
 aPj:Dn K mg "kind_of" wO ["value"]
 aLj:Dn K mg "is_other" uW ["thing"]
 aN4:Dn K mg "is_test" xV ["thing"]
 aOc:Dn K mg "is_pair" yC ["thing"]
 aSj:Dn K mg "is_sum" aAl ["thing"]
 aQb:Dn K mg "is_key" aAc ["thing"]
 aN3:Dn K mg "is_many" xH ["thing"]
 aIs:Dn K mg "are_tests" rA ["thing"]
 aIr:Dn K mg "are_names" qQ ["thing"]
 wC:Dn K mg "are_group_names" iQ ["thing"]
 aG7:Dn K mg "are_pairs" qX ["thing"]
 aL6:Dn K mg "are_sums" uH ["thing"]
 aJr:Dn K mg "are_keys" uJ ["thing"]
 vA:Dn K mg "may_be_question" iI ["thing"]
 aKy:Dn K mg "has_form" uD ["thing"]
 aAe:Dn K mg "questions_in" mF ["question"]
 aKr:Dn K mg "own_size" uB ["question"]
 aOj:Dn K mg "checked" xM ["thing"]
 aO9:Dn K mg "kind_in" xJ ["head","name"]
 vJ:Dn K mg "need_like_kinds" iB ["kinds","others"]
 aB5:Dn K mg "need_unlike" nJ ["names"]
 aFt:Dn K mg "table_head" pY ["heads","name"]
 aEf:Dn K mg "other_kind" pI ["head","other"]
 aEu:Dn K mg "where_head" iC ["head","tests"]
 aH0:Dn K mg "keep_head" mX ["head","names"]
 aE0:Dn K mg "named_head" pK ["head","names"]
 aHg:Dn K mg "join_head" gR ["head","other","pairs"]
 aKx:Dn K mg "sum_kind" uN ["head","part"]
 aF2:Dn K mg "group_head" lF ["head","names","sums"]
 aD2:Dn K mg "first_head" pC ["head","keys"]
 aHs:Dn K mg "head_here" rF ["heads","question","inner"]
 sX:Dn K mg "head_within" jR ["heads","question"]
 aPn:Dn K mg "head_of" xO ["heads","question"]
 aLh:Dn K mg "place_of" uV ["head","name"]
 aIo:Dn K mg "places_of" mY ["head","names"]
 aSn:Dn K mg "picked" vR ["row","places"]
 aOo:Dn K mg "rows_by" yD ["rows","places"]
 aWw:Dn K mg "compares" zV ["value","sign","other"]
 aZu:Dn K mg "holds" aNr ["head","row","test"]
 aEx:Dn K mg "where_rows" oZ ["head","rows","tests"]
 aJf:Dn K mg "keep_rows" qP ["head","rows","names"]
 aGq:Dn K mg "join_rows" mV ["head","rows","other_head","other_rows","pairs"]
 aZg:Dn K mg "summed" aJe ["head","rows","part"]
 aEe:Dn K mg "group_rows" oX ["head","rows","names","sums"]
 aGr:Dn K mg "sorted_by" qR ["rows","place","way"]
 aO8:Dn K mg "ordered" xN ["head","rows","keys"]
 aDr:Dn K mg "first_rows" pG ["head","rows","keys","many"]
 aG1:Dn K mg "rows_here" qN ["question","heads","rows"]
 sV:Dn K mg "rows_within" gH ["heads","tables","question"]
 vQ:Dn K mg "in_answer_order" gZ ["head","rows","question"]
 aO7:Dn K mg "rows_of" wY ["heads","tables","question"]
 aTx:Dn K mg "whole" aFp ["heads","tables","question"]
 aIc:Dn K mg "_law_seed" rO ["_law_script"]
 aDy:Dn K mg "_law_begin" pP ["_law_script"]
 aIp:Dn K mg "_law_next" rN ["_law_state","_law_many"]
 aFl:Dn K mg "_law_words" pX []
 aDs:Dn K mg "_law_names" lE ["_law_state","_law_many"]
 aGf:Dn K mg "_law_great" pF ["_law_state"]
 aFx:Dn K mg "_law_value" pN ["_law_state","_law_kind"]
 aHh:Dn K mg "_law_head" qM ["_law_state","_law_names_here"]
 aK9:Dn K mg "_law_row" oY ["_law_state","_law_head_here"]
 aOf:Dn K mg "_law_at" yF ["_law_head_here","_law_name"]
 aBg:Dn K mg "_law_joined" dF ["_law_head_here","_law_rows","_law_other_head","_law_others","_law_pairs_here"]
 aHd:Dn K mg "_law_same" qY ["_law_found","_law_due"]
 aE1:Dn K mg "_law_pairs" lC ["_law_state","_law_head_here","_law_other"]
 aZd:Dn K mg "law" wG ["_law_script"]
abbrev abc:Str:="abcdefghijklmnopqrstuvwxyz"
abbrev words:List V:=[.str "and",.str "by",.str "count",.str "down",.str "first",.str "group",.str "join",.str "keep",.str "least",.str "most",.str "named",.str "on",.str "sum",.str "table",.str "up",.str "where",.str "with"]
def Th (K:PySem.W.Frag) (H:Hp) (v:V):Prop:=(∃x,v=.str x∧x.length≤1000)∨(∃i,v=.int i)∨(∃b,v=.bl b)∨∃k,Rk K H v k
theorem Th.same {K:PySem.W.Frag} {H H':Hp} {v:V} (e:Same H H') (h:Th K H v):Th K H' v:=by
 rcases h with h|h|h|⟨k,h⟩
 ·exact .inl h
 ·exact .inr (.inl h)
 ·exact .inr (.inr (.inl h))
 ·exact .inr (.inr (.inr ⟨k,h.same e⟩))
def aUb:V→String→Bool
 |.int _,T=>T == "int"
 |.str _,T=>T == "str"
 |.bl _,T=>T == "int" || T == "bool"
 |_,_=>false
def isS:V→Bool
 |.str _=>true
 |_=>false
def whole:V→Bool
 |.int _=>true
 |_=>false
theorem vM {K:PySem.W.Frag} {H:Hp} {v:V} {T:String} {Q:VK} (hv:Th K H v) (hT:T = "int"∨T = "bool"∨T = "str") (q:Q (.bl (aUb v T)) H):aY0 [v,.ty T] H Q∨aVd K [v,.ty T] H Q:=by
 rcases hv with ⟨x,rfl,_⟩|⟨i,rfl⟩|⟨b,rfl⟩|⟨k,h⟩
 ·refine .inl ⟨_,_,_,rfl,?_,q⟩
  rcases hT with rfl|rfl|rfl <;> simp [aK5,aUb]
 ·refine .inl ⟨_,_,_,rfl,?_,q⟩
  rcases hT with rfl|rfl|rfl <;> simp [aK5,aUb]
 ·refine .inl ⟨_,_,_,rfl,?_,q⟩
  rcases hT with rfl|rfl|rfl <;> simp [aK5,aUb]
 ·refine .inr ⟨_,_,_,rfl,h,hT,?_⟩
  cases h <;> exact q
def inA (y:Str):Bool:=!(Builtin.Str.occurrences abc y 0 abc.length 1).isEmpty
def allIn (x:Str):Bool:=((List.range x.cps.size).map fun i=>inA (sgn x i)).all id
def sS (l:Nat):V→Bool
 |.str x=>decide (l≤x.length) && (decide (x.length≤8) && allIn x)
 |_=>false
def nameB (v:V):Bool:=sS 1 v && !inV v words
def aP9 (v:V):Bool:=whole v || sS 0 v
def vW (K:PySem.W.Frag):Sp:=fun vs H Q _=>∃v,vs=[v]∧Th K H v∧Q (.bl (whole v)) H
def aAp (K:PySem.W.Frag) (f:V→Bool):Sp:=fun vs H Q _=>∃v,vs=[v]∧Th K H v∧∀H',Same H H'→Q (.bl (f v)) H'
def aMh (K:PySem.W.Frag):Sp:=fun vs H Q _=>∃v,vs=[v]∧Th K H v∧Q (.str (if whole v then "number" else "word")) H
def aD8 (K:PySem.W.Frag):Sp:=fun vs H Q _=>∃(a:Addr) (ns:List Int),vs=[.ref a]∧SqL K H a (ns.map V.int)∧ns.length≤63∧∀H',Q (.bl true) H'
theorem aNt {K:PySem.W.Frag} {H:Hp} {a:Addr} {ns:List Int} (h:ns.length≤63) (hS:SqL K H a (ns.map V.int)):aD8 K [.ref a] H (fun v _=>v=.bl true) fun _ _ _=>False:=
 ⟨a,ns,rfl,hS,h,fun _=>rfl⟩
theorem aHt:aM ["thing"] ["thing"] (aF uR):=by trivial
theorem aKd:aM ["thing"] ["thing"] (aF xY):=by trivial
theorem aFj:aM ["thing","texts"] ["thing","texts"] (aF qT):=by trivial
theorem aAx:aM ["thing","least","most","is_part"] ["thing","least","most","is_part"] (aF jV):=by trivial
theorem aCd:aM ["names"] ["names"] (aF pW):=by trivial
theorem aHw:aM ["head"] ["head"] (aF uM):=by trivial
theorem aKu:aM ["thing"] ["thing"] (aF xZ):=by trivial
theorem aHb:aM ["thing"] ["thing"] (aF uF):=by trivial
theorem aJ8:aM ["value"] ["value"] (aF wO):=by trivial
theorem aI2:aM ["thing"] ["thing"] (aF uW):=by trivial
theorem aJ2:aM ["thing"] ["thing"] (aF xV):=by trivial
theorem aJw:aM ["thing"] ["thing"] (aF yC):=by trivial
theorem aOs:aM ["thing"] ["thing"] (aF aAl):=by trivial
theorem aOe:aM ["thing"] ["thing"] (aF aAc):=by trivial
theorem aKs:aM ["thing"] ["thing"] (aF xH):=by trivial
theorem aEt:aM ["thing"] ["thing"] (aF rA):=by trivial
theorem aFy:aM ["thing"] ["thing"] (aF qQ):=by trivial
theorem tL:aM ["thing"] ["thing"] (aF iQ):=by trivial
theorem aDm:aM ["thing"] ["thing"] (aF qX):=by trivial
theorem aJa:aM ["thing"] ["thing"] (aF uH):=by trivial
theorem aIm:aM ["thing"] ["thing"] (aF uJ):=by trivial
theorem tX:aM ["thing"] ["thing"] (aF iI):=by trivial
theorem yO:aM ["thing","form"] ["thing"] (aF uD):=by trivial
theorem zE:aM ["question"] ["question"] (aF mF):=by trivial
theorem aG6:aM ["question"] ["question"] (aF uB):=by trivial
theorem lZ:aM ["thing","size","waiting","part"] ["thing"] (aF xM):=by trivial
theorem aAm:aM ["head","name","column"] ["head","name"] (aF xJ):=by trivial
theorem uC:aM ["kinds","others"] ["kinds","others"] (aF iB):=by trivial
theorem aAv:aM ["names"] ["names"] (aF nJ):=by trivial
theorem aBl:aM ["heads","name"] ["heads","name"] (aF pY):=by trivial
theorem aB6:aM ["head","other"] ["head","other"] (aF pI):=by trivial
theorem aBw:aM ["head","tests"] ["head","tests"] (aF iC):=by trivial
theorem aE7:aM ["head","names"] ["head","names"] (aF mX):=by trivial
theorem aBi:aM ["head","names"] ["head","names"] (aF pK):=by trivial
theorem pQ:aM ["head","other","pairs","here","there"] ["head","other","pairs"] (aF gR):=by trivial
theorem aJc:aM ["head","part"] ["head","part"] (aF uN):=by trivial
theorem gB:aM ["head","names","sums","kept","made","part","column"] ["head","names","sums"] (aF lF):=by trivial
theorem tH:aM ["head","keys","names"] ["head","keys"] (aF pC):=by trivial
theorem vX:aM ["heads","question","inner","sort"] ["heads","question","inner"] (aF rF):=by trivial
theorem iG:aM ["heads","question","inner","head"] ["heads","question"] (aF jR):=by trivial
theorem aK8:aM ["heads","question"] ["heads","question"] (aF xO):=by trivial
theorem aH9:aM ["head","name"] ["head","name"] (aF uV):=by trivial
theorem aDv:aM ["head","names"] ["head","names"] (aF mY):=by trivial
theorem aPf:aM ["row","places"] ["row","places"] (aF vR):=by trivial
theorem tQ:aM ["rows","places","lots","row"] ["rows","places"] (aF yD):=by trivial
theorem aB7:aM ["head","rows","tests"] ["head","rows","tests"] (aF oZ):=by trivial
theorem aGb:aM ["head","rows","names","places"] ["head","rows","names"] (aF qP):=by trivial
theorem dX:aM ["head","rows","other_head","other_rows","pairs","here","there","left_over","lots","joined","row","other"] ["head","rows","other_head","other_rows","pairs"] (aF mV):=by trivial
theorem aCa:aM ["head","rows","names","sums","lots"] ["head","rows","names","sums"] (aF oX):=by trivial
theorem aD5:aM ["rows","place","way"] ["rows","place","way"] (aF qR):=by trivial
theorem qC:aM ["head","rows","keys","told","key"] ["head","rows","keys"] (aF xN):=by trivial
theorem aBp:aM ["head","rows","keys","many"] ["head","rows","keys","many"] (aF pG):=by trivial
theorem vZ:aM ["question","heads","rows","sort"] ["question","heads","rows"] (aF qN):=by trivial
theorem iR:aM ["heads","tables","question","inner","rows"] ["heads","tables","question"] (aF gH):=by trivial
theorem uI:aM ["head","rows","question"] ["head","rows","question"] (aF gZ):=by trivial
theorem aJ3:aM ["heads","tables","question"] ["heads","tables","question"] (aF wY):=by trivial
theorem aH8:aM ["heads","tables","question","head"] ["heads","tables","question"] (aF aFp):=by trivial
theorem iU:aM ["_law_script","_law_seed_here","_law_k","_law_cell"] ["_law_script"] (aF rO):=by trivial
theorem nQ:aM ["_law_script","_law_digits"] ["_law_script"] (aF pP):=by trivial
theorem vL:aM ["_law_state","_law_many","_law_digit"] ["_law_state","_law_many"] (aF rN):=by trivial
theorem tE:aM ["_law_words_here"] [] (aF pX):=by trivial
theorem cJ:aM ["_law_state","_law_many","_law_small","_law_odd","_law_base","_law_k","_law_at_here","_law_names_here"] ["_law_state","_law_many"] (aF lE):=by trivial
theorem jT:aM ["_law_state","_law_number","_law_k"] ["_law_state"] (aF pF):=by trivial
theorem fZ:aM ["_law_state","_law_kind","_law_way","_law_word","_law_k"] ["_law_state","_law_kind"] (aF pN):=by trivial
theorem iZ:aM ["_law_state","_law_names_here","_law_start","_law_head_here","_law_k","_law_kind"] ["_law_state","_law_names_here"] (aF qM):=by trivial
theorem aIw:aM ["_law_state","_law_head_here"] ["_law_state","_law_head_here"] (aF oY):=by trivial
theorem aLt:aM ["_law_head_here","_law_name"] ["_law_head_here","_law_name"] (aF yF):=by trivial
theorem dM:aM ["_law_head_here","_law_rows","_law_other_head","_law_others","_law_pairs_here","_law_gone","_law_left","_law_spots","_law_found","_law_row_here","_law_other"] ["_law_head_here","_law_rows","_law_other_head","_law_others","_law_pairs_here"] (aF dF):=by trivial
theorem vH:aM ["_law_found","_law_due","_law_k"] ["_law_found","_law_due"] (aF qY):=by trivial
theorem fC:aM ["_law_state","_law_head_here","_law_other","_law_pairs_here","_law_k","_law_some","_law_c","_law_kind"] ["_law_state","_law_head_here","_law_other"] (aF lC):=by trivial
theorem cQ:aM ["_law_script","_law_state","_law_names_here","_law_head_here","_law_rows","_law_other","_law_others","_law_heads","_law_tables","_law_used","_law_fresh","_law_called","_law_pairs_here","_law_those","_law_due","_law_question","_law_own","_law_again","_law_alike","_law_turned"] ["_law_script"] (aF wG):=by trivial
section
variable {P:Program} {w:World} {K:PySem.W.Frag} {mg:Str→Option Value} {base:Heap}
theorem aIy (T:Txt w K mg):Ok P w K mg base 1 "is_whole" ["thing"] (vW K):=by
 refine Ok.ofV T.aJu aHt (fun vs H Q E h=>?_) (fun f cdv A outer s H vs Q E hr h=>?_)
 ·obtain ⟨v,rfl,_⟩:=h;rfl
 obtain ⟨v,rfl,hv,q⟩:=h
 refine ⟨_,(aG (aN (nP (aR (qW.or rQ) (by rfl) T.bV bR (aB (vv 0) (aB (fB (v:=.ty "int") (by rfl) T.aMf aF7 rfl) aA))) (nG (aRd (aR (qW.or rQ) (by rfl) T.bV bR (aB (vv 0) (aB (fB (v:=.ty "bool") (by rfl) T.aQw aM2 rfl) aA)))))))),?_⟩
 refine ⟨_,rfl,vM hv (.inl rfl) ⟨_,rfl,?_⟩⟩
 rcases id hv with ⟨x,rfl,_⟩|⟨i,rfl⟩|⟨b,rfl⟩|⟨k,h⟩
 ·exact bK q
 ·exact eX ⟨_,rfl,vM hv (.inr (.inl rfl)) ⟨_,rfl,q⟩⟩
 ·exact eX ⟨_,rfl,vM hv (.inr (.inl rfl)) ⟨_,rfl,q⟩⟩
 ·cases h <;> exact bK q
theorem aR6 (x:Str):(((List.range x.cps.size).map fun i=>V.str (sgn x i)).map fun v=>match v with|.str y=>V.bl (inA y)|_=>.bl false)=(((List.range x.cps.size).map fun i=>inA (sgn x i)).map V.bl):=by
 rw [List.map_map,List.map_map]
 rfl
theorem aKq (T:Txt w K mg):Ok P w K mg base 1 "is_word" ["thing"] (aAp K (sS 0)):=by
 refine Ok.ofV T.aOm aKd (fun vs H Q E h=>?_) (fun f cdv A outer s H vs Q E hr h=>?_)
 ·obtain ⟨v,rfl,_⟩:=h;rfl
 obtain ⟨v,rfl,hv,q⟩:=h
 refine ⟨_,(aC (bW (VW.pt (qI (fK (eO (aR (qW.or rQ) (by rfl) T.bV bR (aB (vv 0) (aB (fB (v:=.ty "str") (by rfl) T.aRa aLx rfl) aA))))) (nO (aY aM4 (aR vC (by rfl) T.eY cP (aB (vv 0) aA)) (fM (by rfl) T.aBc) (bI _))))) (aG (aN kY)) bA) (aG (aN (aR (vV rfl) (by rfl) T.aL7 aEv (aB (bN (N:=["sign"]) (by trivial) (cY (by decide +kernel)) rfl (aXv (vv 0)) (fun cl s' H' fp=>⟨(aL (i:=0) (show (["sign"]:List Str).Nodup from by decide +kernel) rfl (Or.inl rfl)),bT,(gO aPd (vv 0) (fM (by rfl) T.aN2) (by with_unfolding_all rfl))⟩)) aA))))),?_⟩
 refine ⟨_,rfl,vM hv (.inr (.inr rfl)) ⟨_,rfl,?_⟩⟩
 have no:isS v=false→Q (.bl false) H:=fun e=>by
  have z:sS 0 v=false:=by cases v <;> first|rfl|cases e
  rw [←z];exact q H (Same.refl H)
 rcases id hv with ⟨x,rfl,hx⟩|⟨i,rfl⟩|⟨b,rfl⟩|⟨k,h⟩
 ·refine bK ⟨_,rfl,_,rfl,small hx,_,_,rfl,rfl,_,rfl,?_⟩
  refine aBh (fun c=>?_) (fun c=>?_)
  ·have c':(8:Int)<x.length:=of_decide_eq_true c
   have z:sS 0 (.str x)=false:=by
    show (decide (0≤x.length) && (decide (x.length≤8) && allIn x))=false
    rw [decide_eq_false (p:=x.length≤8) (by lia)]
    simp
   rw [←z];exact q H (Same.refl H)
  ·have c':¬ (8:Int)<x.length:=of_decide_eq_false (Bool.eq_false_iff.mpr c)
   dsimp only [yN,zK,tCB,cT]
   refine aNu ((List.range x.cps.size).map fun i=>V.str (sgn x i)) (fun v=>match v with|.str y=>V.bl (inA y)|_=>.bl false) [none] fH ?_
    (fun R r=>aWp (z:=x) (fun R' r'=>⟨_,rfl,r'⟩) R r) (fun v hv' H' R l sm r=>?_) rfl fun D hD=>?_
   ·rw [List.length_map,List.length_range];exact small hx
   ·obtain ⟨i,_,rfl⟩:=List.mem_map.mp hv'
    exact ⟨_,rfl,_,_,rfl,rfl,r⟩
   ·refine ⟨D,(List.range x.cps.size).map fun i=>inA (sgn x i),rfl,SqL.of (by rw [aH,aR6]),?_⟩
    have z:sS 0 (.str x)=allIn x:=by
     show (decide (0≤x.length) && (decide (x.length≤8) && allIn x))=allIn x
     rw [decide_eq_true (p:=x.length≤8) (by lia)]
     simp
    show Q (.bl (allIn x)) _
    rw [←z]
    exact q _ (bF hD _)
 ·exact eX (no rfl)
 ·exact eX (no rfl)
 ·cases h <;> exact eX (no rfl)
theorem aD1 {v:V} {l:Nat} (h:sS l v=true):∃x,v=.str x∧l≤x.length∧x.length≤8∧allIn x=true:=by
 cases v with
 |str x=>
  have h:(decide (l≤x.length) && (decide (x.length≤8) && allIn x))=true:=h
  rw [Bool.and_eq_true,Bool.and_eq_true] at h
  exact ⟨x,rfl,of_decide_eq_true h.1,of_decide_eq_true h.2.1,h.2.2⟩
 |_=>cases h
theorem aDa {x:Str}:x=("":Str)↔x.length=0:=by
 constructor
 ·rintro rfl;decide +kernel
 ·intro h
  obtain ⟨cps⟩:=x
  have h:cps.size=0:=h
  rw [Array.size_eq_zero_iff] at h
  subst h
  decide +kernel
theorem aBb:words.all kW=true:=rfl
theorem aKz (T:Txt w K mg) (wW:Ok P w K mg base 1 "is_word" ["thing"] (aAp K (sS 0))):Ok P w K mg base 2 "is_name" ["thing"] (aAp K nameB):=by
 refine Ok.ofV T.aPk aKu (fun vs H Q E h=>?_) (fun f cdv A outer s H vs Q E hr h=>?_)
 ·obtain ⟨v,rfl,_⟩:=h;rfl
 obtain ⟨v,rfl,hv,q⟩:=h
 obtain ⟨qa,mq,hqa⟩:=T.jK
 have jK:∃u,mg "QUESTION_WORDS"=some u∧RelV (.ref qa) u:=⟨_,mq,rfl⟩
 refine ⟨_,(aG (aN (nP (aO (wW.mono (by decide)) hr (by rfl) (aB (vv 0) aA)) (nP (gO yJ (vv 0) aU (bI _)) (nG (gO pZ (vv 0) (fM (by rfl) jK) (by with_unfolding_all rfl))))))),?_⟩
 refine ⟨_,rfl,_,rfl,hv,fun H1 s1=>⟨_,rfl,?_⟩⟩
 refine aBh (fun c=>?_) (fun c=>?_)
 ·obtain ⟨x,rfl,_,h8,ha⟩:=aD1 c
  refine ⟨_,rfl,rfl,_,rfl,?_⟩
  by_cases e:x.length=0
  ·have ex:=aDa.mpr e
   subst ex
   refine bK ?_
   have z:nameB (.str "")=false:=by decide +kernel
   rw [←z];exact q H1 s1
  ·have ne:¬ (V.str x=V.str ""):=fun z=>e (aDa.mp (V.str.inj z))
   have e2:(!decide (V.str x=V.str ""))=true:=by rw [decide_eq_false ne];rfl
   rw [e2]
   refine eX ⟨_,rfl,qa,words,rfl,.inr (hqa _),rfl,aBb,?_⟩
   have z:nameB (.str x)=!inV (.str x) words:=by
    show ((decide (1≤x.length) && (decide (x.length≤8) && allIn x)) && !inV (.str x) words)=!inV (.str x) words
    rw [decide_eq_true (p:=1≤x.length) (by lia),decide_eq_true h8,ha]
    rfl
   show Q (.bl (!inV (.str x) words)) H1
   rw [←z];exact q H1 s1
 ·have z:nameB v=false:=by
   show (sS 1 v && !inV v words)=false
   cases hv1:sS 1 v with
   |false=>rfl
   |true=>
    obtain ⟨x,rfl,h1,h8,ha⟩:=aD1 hv1
    refine absurd ?_ c
    show (decide (0≤x.length) && (decide (x.length≤8) && allIn x))=true
    rw [decide_eq_true h8,ha,decide_eq_true (Nat.zero_le _)]
    rfl
  rw [←z];exact q H1 s1
theorem aJb (T:Txt w K mg) (mG:Ok P w K mg base 1 "is_whole" ["thing"] (vW K)) (wW:Ok P w K mg base 1 "is_word" ["thing"] (aAp K (sS 0))) :
  Ok P w K mg base 2 "is_value" ["thing"] (aAp K aP9):=by
 refine Ok.ofV T.aLl aHb (fun vs H Q E h=>?_) (fun f cdv A outer s H vs Q E hr h=>?_)
 ·obtain ⟨v,rfl,_⟩:=h;rfl
 obtain ⟨v,rfl,hv,q⟩:=h
 refine ⟨_,(aG (aN (aVf (aO (mG.mono (by decide)) hr (by rfl) (aB (vv 0) aA)) (nG (aO (wW.mono (by decide)) hr (by rfl) (aB (vv 0) aA)))))),?_⟩
 refine ⟨_,rfl,_,rfl,hv,_,rfl,?_⟩
 cases hw:whole v with
 |true=>
  refine eX ?_
  have z:aP9 v=true:=by show (whole v || sS 0 v)=true;rw [hw];rfl
  rw [←z];exact q H (Same.refl H)
 |false=>
  refine bK ⟨_,rfl,_,rfl,hv,fun H1 s1=>?_⟩
  have z:aP9 v=sS 0 v:=by show (whole v || sS 0 v)=sS 0 v;rw [hw];rfl
  rw [←z];exact q H1 s1
theorem aLp (T:Txt w K mg) (mG:Ok P w K mg base 1 "is_whole" ["thing"] (vW K)):Ok P w K mg base 2 "kind_of" ["value"] (aMh K):=by
 refine Ok.ofV T.aPj aJ8 (fun vs H Q E h=>?_) (fun f cdv A outer s H vs Q E hr h=>?_)
 ·obtain ⟨v,rfl,_⟩:=h;rfl
 obtain ⟨v,rfl,hv,q⟩:=h
 refine ⟨_,(aG (aN (lX (eO (aO (mG.mono (by decide)) hr (by rfl) (aB (vv 0) aA))) aU aU))),?_⟩
 refine ⟨_,rfl,_,rfl,hv,_,rfl,?_⟩
 cases hw:whole v with
 |true=>rw [hw] at q;exact eX q
 |false=>rw [hw] at q;exact bK q
theorem at0 (x:V) (r:List V):atI (x::r) 0=some x:=by
 unfold atI ixN
 simp
theorem at1 (x y:V) (r:List V):atI (x::y::r) 1=some y:=by
 unfold atI ixN
 simp only [List.length_cons]
 rw [if_pos (by lia),if_pos (by lia)]
 rfl
structure Tells (R:Hp→V→Bool→Prop):Prop where
 same:∀{H H' v b},Same H H'→R H v b→R H' v b
def gQ (R:Hp→V→Bool→Prop):Sp:=fun vs H Q _=>∃v b,vs=[v]∧R H v b∧∀H',Same H H'→Q (.bl b) H'
inductive aDl (K:PySem.W.Frag) (R:Hp→V→Bool→Prop) (lo hi:Nat) (H:Hp):V→Bool→Prop
 |no {v}:Tk K H v false→aDl K R lo hi H v false
 |len {a xs}:SqT K H a xs→¬ (lo≤xs.length∧xs.length≤hi)→aDl K R lo hi H (.ref a) false
 |yes {a xs} (f:V→Bool):SqT K H a xs→lo≤xs.length→xs.length≤hi→(∀x∈xs,R H x (f x))→aDl K R lo hi H (.ref a) (xs.all f)
def wU (K:PySem.W.Frag):Sp:=fun vs H Q _=>∃v a xs,vs=[v,.ref a]∧Th K H v∧SqT K H a xs∧xs.all kW=true∧Q (.bl (isS v && inV v xs)) H
def jZ (P:Program) (w:World) (K:PySem.W.Frag) (mg:Str→Option Value) (base:Heap) (k:Nat):Sp:=fun vs H Q _=>∃v lo hi f ps R b,vs=[v,.int (lo:Nat),.int (hi:Nat),.ref f]∧hi≤1000∧Held P w K mg base k f ps (gQ R)∧Tells R∧aDl K R lo hi H v b∧∀H',Same H H'→Q (.bl b) H'
def aCh (K:PySem.W.Frag):Sp:=fun vs H Q _=>∃a ss,vs=[.ref a]∧SqL K H a (ss.map V.str)∧ss.length≤1000∧∀H',Same H H'→Q (.bl (decide ((oJ ss).length=ss.length))) H'
theorem aEs (T:Txt w K mg):Ok P w K mg base 1 "is_one_of" ["thing","texts"] (wU K):=by
 refine Ok.ofV T.aH1 aFj (fun vs H Q E h=>?_) (fun f cdv A outer s H vs Q E hr h=>?_)
 ·obtain ⟨v,a,xs,rfl,_⟩:=h;rfl
 obtain ⟨v,a,xs,rfl,hv,ha,hf,q⟩:=h
 refine ⟨_,(aG (aN (nP (aR (qW.or rQ) (by rfl) T.bV bR (aB (vv 0) (aB (fB (v:=.ty "str") (by rfl) T.aRa aLx rfl) aA))) (nG (gO aCr (vv 0) (vv 1) (by with_unfolding_all rfl)))))),?_⟩
 refine ⟨_,rfl,vM hv (.inr (.inr rfl)) ⟨_,rfl,?_⟩⟩
 rcases id hv with ⟨x,rfl,_⟩|⟨i,rfl⟩|⟨b,rfl⟩|⟨k,h⟩
 ·exact eX ⟨_,rfl,_,rfl,a,xs,rfl,.inr ha,rfl,hf,q⟩
 ·exact bK q
 ·exact bK q
 ·cases h <;> exact bK q
theorem dH {k:Nat} (T:Txt w K mg):Ok P w K mg base (k+1) "is_tuple_of" ["thing","least","most","is_part"] (jZ P w K mg base k):=by
 refine Ok.ofV T.aBe aAx (fun vs H Q E h=>?_) (fun f cdv A outer s H vs Q E hr h=>?_)
 ·obtain ⟨v,lo,hi,f,ps,R,b,rfl,_⟩:=h;rfl
 obtain ⟨v,lo,hi,g,ps,R,b,rfl,h1000,hg,hR,hv,q⟩:=h
 refine ⟨_,(aC (bW (VW.pt (qI (fK (eO (aR jF (by rfl) T.bV bR (aB (vv 0) (aB (fB (v:=.ty "tuple") (by rfl) T.cL cB rfl) aA))))) (nO (fK (aGx aDk aDk (vv 1) (aR bC (by rfl) T.eY cP (aB (vv 0) aA)) (vv 2)))))) (aG (aN kY)) bA) (aG (aN (aR (vV rfl) (by rfl) T.aL7 aEv (aB (bN (N:=["part","is_part"]) (by trivial) (cO (aF jV) rfl (by decide +kernel)) rfl (eG (vv 0)) (fun cl s' H' fp=>⟨(aL (i:=0) (show (["part","is_part"]:List Str).Nodup from by decide +kernel) rfl (Or.inl rfl)),bT,(aJd (P:=P) (w:=w) (K:=K) (mg:=mg) (base:=base) hr (vv 1) (aB (vv 0) aA))⟩)) aA))))),?_⟩
 cases hv with
 |no h=>
  exact ⟨_,rfl,_,_,rfl,h,_,rfl,eX (q H (Same.refl H))⟩
 |@len a xs ha hn=>
  refine ⟨_,rfl,_,_,rfl,.tup ha,_,rfl,bK ?_⟩
  refine ⟨_,rfl,_,rfl,_,_,rfl,.inr ha,_,_,rfl,rfl,_,rfl,?_⟩
  refine aBh (fun c=>⟨_,rfl,_,_,rfl,rfl,_,rfl,?_⟩) (fun c=>⟨_,rfl,eX (q H (Same.refl H))⟩)
  have c':(lo:Int)≤xs.length:=of_decide_eq_true c
  have e:decide ((xs.length:Int)≤(hi:Int))=false:=decide_eq_false fun z=>hn ⟨by lia,by lia⟩
  rw [e]
  exact eX (q H (Same.refl H))
 |@yes a xs t ha h1 h2 hx=>
  refine ⟨_,rfl,_,_,rfl,.tup ha,_,rfl,bK ?_⟩
  refine ⟨_,rfl,_,rfl,_,_,rfl,.inr ha,_,_,rfl,rfl,_,rfl,?_⟩
  have e1:decide ((lo:Int)≤(xs.length:Int))=true:=decide_eq_true (by lia)
  have e2:decide ((xs.length:Int)≤(hi:Int))=true:=decide_eq_true (by lia)
  rw [e1]
  refine eX ⟨_,rfl,_,_,rfl,rfl,_,rfl,?_⟩
  rw [e2]
  refine bK ?_
  dsimp only [yN,zK,tCB,cT]
  refine aNy xs (fun x=>.bl (t x)) [none,some (.ref g)] ?_ (small (by lia)) (fun R r=>jN ha (fun R' r'=>⟨_,rfl,r'⟩) R r) (fun x hx' H' R l sm r=>?_) rfl fun D H' sm hD=>?_
  ·exact dO 3 (by decide +kernel) rfl rfl (by trivial)
  ·exact ⟨_,rfl,g,ps,_,rfl,hg,_,rfl,x,t x,rfl,hR.same sm (hx x hx'),r⟩
  ·refine ⟨D,xs.map t,rfl,SqL.of (by rw [hD,List.map_map];rfl),?_⟩
   rw [List.all_map]
   exact q H' sm
theorem aB2 (T:Txt w K mg):Ok P w K mg base 1 "are_unlike" ["names"] (aCh K):=by
 refine Ok.ofV T.aEr aCd (fun vs H Q E h=>?_) (fun f cdv A outer s H vs Q E hr h=>?_)
 ·obtain ⟨a,ss,rfl,_⟩:=h;rfl
 obtain ⟨a,ss,rfl,ha,hl,q⟩:=h
 refine ⟨_,(aG (aN (gO dC (aR aKl (by rfl) T.eY cP (aB (bO (aKb rfl) (by rfl) T.aYl aXr (aB (vv 0) aA)) aA)) (aR bC (by rfl) T.eY cP (aB (vv 0) aA)) (bI _)))),?_⟩
 refine ⟨_,rfl,a,ss,rfl,ha,hl,fun D hD=>⟨D,ss,rfl,aH,_,rfl,a,_,rfl,.inl ((bF hD _).seq ha),rfl,?_⟩⟩
 have e:decide (V.int ((oJ ss).length:Nat)=V.int (ss.map V.str).length)=decide ((oJ ss).length=ss.length):=by
  rw [List.length_map]
  by_cases z:(oJ ss).length=ss.length
  ·rw [z];simp
  ·rw [decide_eq_false z,decide_eq_false (by intro y;apply z;have:=V.int.inj y;lia)]
 rw [e]
 exact q _ (bF hD _)
theorem at2 (x y z:V) (r:List V):atI (x::y::z::r) 2=some z:=by
 unfold atI ixN
 simp only [List.length_cons]
 rw [if_pos (by lia),if_pos (by lia)]
 rfl
theorem pO {K:PySem.W.Frag} {H:Hp} {x:Str} (h:x.length≤8):Th K H (.str x):=.inl ⟨x,rfl,by lia⟩
def Nm (x:Str):Prop:=nameB (.str x)=true
theorem aRx {x:Str} (h:nameB (.str x)=true):x.length≤8:=by
 have h:(sS 1 (.str x) && !inV (.str x) words)=true:=h
 rw [Bool.and_eq_true] at h
 obtain ⟨y,e,_,h8,_⟩:=aD1 h.1
 cases e
 exact h8
theorem Nm.th {K:PySem.W.Frag} {H:Hp} {x:Str} (h:Nm x):Th K H (.str x):=pO (aRx h)
abbrev signs:List V:=[.str "=",.str "<",.str ">",.str "!"]
abbrev aA7:List V:=[.str "count",.str "sum",.str "least",.str "most"]
abbrev aQo:List V:=[.str "up",.str "down"]
inductive Oth where
 |val (x:V)
 |col (d:Str)
structure Tst where
 c:Str
 sg:Str
 o:Oth
structure Sm where
 wd:Str
 c:Option Str
 new:Str
def IsO (K:PySem.W.Frag) (H:Hp) (v:V):Oth→Prop
 |.val x=>∃a,v=.ref a∧SqT K H a [.str "value",x]∧Th K H x∧aP9 x=true
 |.col d=>∃a,v=.ref a∧SqT K H a [.str "column",.str d]∧Nm d
def aY6 (x:Str):Prop:=x = "="∨x = "<"∨x = ">"∨x = "!"
def IsT (K:PySem.W.Frag) (H:Hp) (v:V) (t:Tst):Prop:=∃a w,v=.ref a∧SqT K H a [.str t.c,.str t.sg,w]∧Nm t.c∧aY6 t.sg∧IsO K H w t.o
def jW (K:PySem.W.Frag) (H:Hp) (v:V) (p:Str × Str):Prop:=∃a,v=.ref a∧SqT K H a [.str p.1,.str p.2]∧Nm p.1∧Nm p.2
def aAk (K:PySem.W.Frag) (H:Hp) (v:V) (p:Str × Str):Prop:=∃a,v=.ref a∧SqT K H a [.str p.1,.str p.2]∧Nm p.1∧(p.2 = "up"∨p.2 = "down")
def aY5 (x:Str):Prop:=x = "sum"∨x = "least"∨x = "most"
def yG (K:PySem.W.Frag) (H:Hp) (v:V) (s:Sm):Prop:=∃a,v=.ref a∧Nm s.new∧((s.wd = "count"∧s.c=none∧SqT K H a [.str "count",.non,.str s.new])∨(∃c,s.c=some c∧Nm c∧aY5 s.wd∧SqT K H a [.str s.wd,.str c,.str s.new]))
def IsN (v:V) (x:Str):Prop:=v=.str x∧Nm x
inductive bM {α β:Type} (R:α→β→Prop):List α→List β→Prop
 |nil:bM R [] []
 |cons {a b as bs}:R a b→bM R as bs→bM R (a::as) (b::bs)
theorem bM.len {α β:Type} {R:α→β→Prop} {as:List α} {bs:List β} (h:bM R as bs):as.length=bs.length:=by
 induction h with
 |nil=>rfl
 |cons _ _ ih=>rw [List.length_cons,List.length_cons,ih]
theorem bM.imp {α β:Type} {R S:α→β→Prop} {as:List α} {bs:List β} (h:bM R as bs) (k:∀a b,R a b→S a b):bM S as bs:=by
 induction h with
 |nil=>exact .nil
 |cons r _ ih=>exact .cons (k _ _ r) ih
theorem bM.mem {α β:Type} {R:α→β→Prop} {as:List α} {bs:List β} (h:bM R as bs) {a:α} (m:a∈as):∃b,b∈bs∧R a b:=by
 induction h with
 |nil=>cases m
 |cons r _ ih=>
  rcases List.mem_cons.mp m with rfl|m
  ·exact ⟨_,List.mem_cons_self ..,r⟩
  ·obtain ⟨b,hb,q⟩:=ih m
   exact ⟨b,List.mem_cons_of_mem _ hb,q⟩
theorem bM.app {α β:Type} {R:α→β→Prop} {as cs:List α} {bs ds:List β} (h:bM R as bs) (k:bM R cs ds):bM R (as++cs) (bs++ds):=by
 induction h with
 |nil=>exact k
 |cons r _ ih=>exact .cons r ih
def oA {α:Type} (K:PySem.W.Frag) (H:Hp) (R:V→α→Prop) (v:V) (xs:List α):Prop:=∃a vs,v=.ref a∧SqT K H a vs∧bM R vs xs
theorem oA.same {α:Type} {K:PySem.W.Frag} {H H':Hp} {R S:V→α→Prop} {v:V} {xs:List α} (e:Same H H') (k:∀a b,R a b→S a b) (h:oA K H R v xs):oA K H' S v xs:=by
 obtain ⟨a,vs,rfl,ha,hr⟩:=h
 exact ⟨a,vs,rfl,e.aP ha,hr.imp k⟩
theorem IsO.same {K:PySem.W.Frag} {H H':Hp} {v:V} {o:Oth} (e:Same H H') (h:IsO K H v o):IsO K H' v o:=by
 cases o with
 |val x=>obtain ⟨a,rfl,ha,hx,hv⟩:=h;exact ⟨a,rfl,e.aP ha,hx.same e,hv⟩
 |col d=>obtain ⟨a,rfl,ha,hd⟩:=h;exact ⟨a,rfl,e.aP ha,hd⟩
theorem IsT.same {K:PySem.W.Frag} {H H':Hp} {v:V} {t:Tst} (e:Same H H') (h:IsT K H v t):IsT K H' v t:=by
 obtain ⟨a,w,rfl,ha,h1,h2,h3⟩:=h
 exact ⟨a,w,rfl,e.aP ha,h1,h2,h3.same e⟩
theorem jW.same {K:PySem.W.Frag} {H H':Hp} {v:V} {t:Str × Str} (e:Same H H') (h:jW K H v t):jW K H' v t:=by
 obtain ⟨a,rfl,ha,h1⟩:=h
 exact ⟨a,rfl,e.aP ha,h1⟩
theorem aAk.same {K:PySem.W.Frag} {H H':Hp} {v:V} {t:Str × Str} (e:Same H H') (h:aAk K H v t):aAk K H' v t:=by
 obtain ⟨a,rfl,ha,h1⟩:=h
 exact ⟨a,rfl,e.aP ha,h1⟩
theorem yG.same {K:PySem.W.Frag} {H H':Hp} {v:V} {t:Sm} (e:Same H H') (h:yG K H v t):yG K H' v t:=by
 obtain ⟨a,rfl,hn,h1⟩:=h
 refine ⟨a,rfl,hn,?_⟩
 rcases h1 with ⟨x,y,z⟩|⟨c,x,y,z,u⟩
 ·exact .inl ⟨x,y,e.aP z⟩
 ·exact .inr ⟨c,x,y,z,e.aP u⟩
def fX {α:Type} (K:PySem.W.Frag) (S:PySem.W.Frag→Hp→V→α→Prop):Hp→V→Bool→Prop:=fun H v b=>b=true∧∃t,S K H v t
theorem jL {α:Type} {K:PySem.W.Frag} {S:PySem.W.Frag→Hp→V→α→Prop} (st:∀{H H' v t},Same H H'→S K H v t→S K H' v t):Tells (fX K S):=⟨fun e h=>⟨h.1,let ⟨t,q⟩:=h.2;⟨t,st e q⟩⟩⟩
def gA (_:PySem.W.Frag) (_:Hp) (v:V) (x:Str):Prop:=IsN v x
theorem tupof {α:Type} {S:PySem.W.Frag→Hp→V→α→Prop} {lo hi:Nat} {H:Hp} {v:V} {xs:List α} (h:oA K H (S K H) v xs) (h1:lo≤xs.length) (h2:xs.length≤hi):aDl K (fX K S) lo hi H v true:=by
 obtain ⟨a,vs,rfl,ha,hr⟩:=h
 have z:=aDl.yes (K:=K) (R:=fX K S) (lo:=lo) (hi:=hi) (fun _=>true) ha (by rw [hr.len];exact h1) (by rw [hr.len];exact h2) (fun x hx=>by
  obtain ⟨b,_,q⟩:=hr.mem hx
  exact ⟨rfl,b,q⟩)
 have e:vs.all (fun _=>true)=true:=by rw [List.all_eq_true];intro _ _;rfl
 rw [e] at z
 exact z
def lH {α:Type} (S:PySem.W.Frag→Hp→V→α→Prop) (lo hi:Nat):PySem.W.Frag→Hp→V→List α→Prop:=fun K H v xs=>oA K H (S K H) v xs∧lo≤xs.length∧xs.length≤hi
theorem aH6 (T:Txt w K mg) (dD:Ok P w K mg base 1 "is_one_of" ["thing","texts"] (wU K)) (aL3:Ok P w K mg base 2 "is_value" ["thing"] (aAp K aP9)) (cW:Ok P w K mg base 2 "is_name" ["thing"] (aAp K nameB)) :
  Ok P w K mg base 3 "is_other" ["thing"] (gQ (fX K IsO)):=by
 refine Ok.ofV T.aLj aI2 (fun vs H Q E h=>?_) (fun f cdv A outer s H vs Q E hr h=>?_)
 ·obtain ⟨v,b,rfl,_⟩:=h;rfl
 obtain ⟨v,b,rfl,⟨rfl,o,ho⟩,q⟩:=h
 refine ⟨_,(aC (bW (VW.pt (qI (fK (eO (aR jF (by rfl) T.bV bR (aB (vv 0) (aB (fB (v:=.ty "tuple") (by rfl) T.cL cB rfl) aA))))) (nO (aY yJ (aR bC (by rfl) T.eY cP (aB (vv 0) aA)) aD (bI _))))) (aG (aN kY)) bA) (aC (bW (eO (aO (dD.mono (by decide)) hr (by rfl) (aB (aK bH (vv 0) aD (fun _ _=>rfl)) (aB (bY (aB aU aA)) aA)))) (aG (aN (aO (aL3.mono (by decide)) hr (by rfl) (aB (aK bH (vv 0) aD (fun _ _=>rfl)) aA)))) bA) (aG (aN (nP (aO (dD.mono (by decide)) hr (by rfl) (aB (aK bH (vv 0) aD (fun _ _=>rfl)) (aB (bY (aB aU aA)) aA))) (nG (aO (cW.mono (by decide)) hr (by rfl) (aB (aK bH (vv 0) aD (fun _ _=>rfl)) aA)))))))),?_⟩
 cases o with
 |val x=>
  obtain ⟨a,rfl,ha,hx,hv⟩:=ho
  refine ⟨_,rfl,_,_,rfl,.tup ha,_,rfl,bK ?_⟩
  refine ⟨_,rfl,_,_,rfl,.inr ha,rfl,_,rfl,bK ?_⟩
  refine ⟨_,rfl,a,_,0,_,rfl,rfl,ha,at0 _ _,(by show 1≤sizeLine;decide),fun p1 H1 _ s1 g1=>⟨_,p1,_,rfl,pO (by decide +kernel),SqT.of g1,rfl,_,rfl,eX ?_⟩⟩
  refine ⟨_,rfl,a,_,1,_,rfl,rfl,s1.aP ha,at1 _ _ _,x,rfl,hx.same s1,fun H2 s2=>?_⟩
  rw [hv]
  exact q H2 (s1.trans s2)
 |col d=>
  obtain ⟨a,rfl,ha,hd⟩:=ho
  refine ⟨_,rfl,_,_,rfl,.tup ha,_,rfl,bK ?_⟩
  refine ⟨_,rfl,_,_,rfl,.inr ha,rfl,_,rfl,bK ?_⟩
  refine ⟨_,rfl,a,_,0,_,rfl,rfl,ha,at0 _ _,(by show 1≤sizeLine;decide),fun p1 H1 _ s1 g1=>⟨_,p1,_,rfl,pO (by decide +kernel),SqT.of g1,rfl,_,rfl,bK ?_⟩⟩
  refine ⟨_,rfl,a,_,0,_,rfl,rfl,s1.aP ha,at0 _ _,(by show 1≤sizeLine;decide),fun p2 H2 _ s2 g2=>⟨_,p2,_,rfl,pO (by decide +kernel),SqT.of g2,rfl,_,rfl,eX ?_⟩⟩
  refine ⟨_,rfl,a,_,1,_,rfl,rfl,s2.aP (s1.aP ha),at1 _ _ _,_,rfl,hd.th,fun H3 s3=>?_⟩
  rw [show nameB (.str d)=true from hd]
  exact q H3 (s1.trans (s2.trans s3))
theorem aVl {x:Str} (h:aY6 x):(isS (.str x) && inV (.str x) signs)=true∧x.length≤8:=by
 rcases h with rfl|rfl|rfl|rfl <;> exact ⟨by decide +kernel,by decide +kernel⟩
theorem aKg (T:Txt w K mg) (dD:Ok P w K mg base 1 "is_one_of" ["thing","texts"] (wU K)) (cW:Ok P w K mg base 2 "is_name" ["thing"] (aAp K nameB)) (aLy:Ok P w K mg base 3 "is_other" ["thing"] (gQ (fX K IsO))) :
  Ok P w K mg base 4 "is_test" ["thing"] (gQ (fX K IsT)):=by
 refine Ok.ofV T.aN4 aJ2 (fun vs H Q E h=>?_) (fun f cdv A outer s H vs Q E hr h=>?_)
 ·obtain ⟨v,b,rfl,_⟩:=h;rfl
 obtain ⟨v,b,rfl,⟨rfl,t,a,o,rfl,ha,hc,hs,ho⟩,q⟩:=h
 obtain ⟨ka,mk,hka⟩:=T.aEd
 have aEd:∃u,mg "SIGNS"=some u∧RelV (.ref ka) u:=⟨_,mk,rfl⟩
 refine ⟨_,(aC (bW (VW.pt (qI (fK (eO (aR jF (by rfl) T.bV bR (aB (vv 0) (aB (fB (v:=.ty "tuple") (by rfl) T.cL cB rfl) aA))))) (nO (aY yJ (aR bC (by rfl) T.eY cP (aB (vv 0) aA)) aD (bI _))))) (aG (aN kY)) bA) (aG (aN (nP (aO (cW.mono (by decide)) hr (by rfl) (aB (aK bH (vv 0) aD (fun _ _=>rfl)) aA)) (nP (aO (dD.mono (by decide)) hr (by rfl) (aB (aK bH (vv 0) aD (fun _ _=>rfl)) (aB (fM (by rfl) aEd) aA))) (nG (aO (aLy.mono (by decide)) hr (by rfl) (aB (aK bH (vv 0) aD (fun _ _=>rfl)) aA)))))))),?_⟩
 refine ⟨_,rfl,_,_,rfl,.tup ha,_,rfl,bK ?_⟩
 refine ⟨_,rfl,_,_,rfl,.inr ha,rfl,_,rfl,bK ?_⟩
 refine ⟨_,rfl,a,_,0,_,rfl,rfl,ha,at0 _ _,_,rfl,hc.th,fun H1 s1=>⟨_,rfl,?_⟩⟩
 rw [show nameB (.str t.c)=true from hc]
 refine eX ⟨_,rfl,a,_,1,_,rfl,rfl,s1.aP ha,at1 _ _ _,_,ka,signs,rfl,pO (aVl hs).2,hka _,rfl,_,rfl,?_⟩
 rw [(aVl hs).1]
 refine eX ⟨_,rfl,a,_,2,_,rfl,rfl,s1.aP ha,at2 _ _ _ _,o,true,rfl,⟨rfl,_,ho.same s1⟩,fun H2 s2=>q H2 (s1.trans s2)⟩
theorem aL1 (T:Txt w K mg) (cW:Ok P w K mg base 2 "is_name" ["thing"] (gQ (fX K gA))) (bU:Ok P w K mg base 3 "is_tuple_of" ["thing","least","most","is_part"] (jZ P w K mg base 2)) :
  Ok P w K mg base 4 "is_pair" ["thing"] (gQ (fX K jW)):=by
 refine Ok.ofV T.aOc aJw (fun vs H Q E h=>?_) (fun f cdv A outer s H vs Q E hr h=>?_)
 ·obtain ⟨v,b,rfl,_⟩:=h;rfl
 obtain ⟨v,b,rfl,⟨rfl,p,a,rfl,ha,h1,h2⟩,q⟩:=h
 obtain ⟨fa,mf,hf⟩:=cW.held
 have lO:∃u,mg "is_name"=some u∧RelV (.ref fa) u:=⟨_,mf,rfl⟩
 refine ⟨_,(aG (aN (aO (bU.mono (by decide)) hr (by rfl) (aB (vv 0) (aB aD (aB aD (aB (fM (by rfl) lO) aA))))))),?_⟩
 exact ⟨_,rfl,_,2,2,fa,_,_,_,rfl,by decide,hf,jL (S:=gA) (fun _ h=>h),tupof (S:=gA) (xs:=[p.1,p.2]) ⟨a,_,rfl,ha,.cons ⟨rfl,h1⟩ (.cons ⟨rfl,h2⟩ .nil)⟩ (Nat.le_refl _) (Nat.le_refl _),fun H1 s1=>q H1 s1⟩
theorem aPl (T:Txt w K mg) (dD:Ok P w K mg base 1 "is_one_of" ["thing","texts"] (wU K)) (cW:Ok P w K mg base 2 "is_name" ["thing"] (aAp K nameB)):Ok P w K mg base 3 "is_key" ["thing"] (gQ (fX K aAk)):=by
 refine Ok.ofV T.aQb aOe (fun vs H Q E h=>?_) (fun f cdv A outer s H vs Q E hr h=>?_)
 ·obtain ⟨v,b,rfl,_⟩:=h;rfl
 obtain ⟨v,b,rfl,⟨rfl,⟨c,wy⟩,a,rfl,ha,hc,hw⟩,q⟩:=h
 obtain ⟨ka,mk,hka⟩:=T.aKw
 have aKw:∃u,mg "WAYS"=some u∧RelV (.ref ka) u:=⟨_,mk,rfl⟩
 refine ⟨_,(aC (bW (VW.pt (qI (fK (eO (aR jF (by rfl) T.bV bR (aB (vv 0) (aB (fB (v:=.ty "tuple") (by rfl) T.cL cB rfl) aA))))) (nO (aY yJ (aR bC (by rfl) T.eY cP (aB (vv 0) aA)) aD (bI _))))) (aG (aN kY)) bA) (aG (aN (nP (aO (cW.mono (by decide)) hr (by rfl) (aB (aK bH (vv 0) aD (fun _ _=>rfl)) aA)) (nG (aO (dD.mono (by decide)) hr (by rfl) (aB (aK bH (vv 0) aD (fun _ _=>rfl)) (aB (fM (by rfl) aKw) aA)))))))),?_⟩
 refine ⟨_,rfl,_,_,rfl,.tup ha,_,rfl,bK ?_⟩
 refine ⟨_,rfl,_,_,rfl,.inr ha,rfl,_,rfl,bK ?_⟩
 refine ⟨_,rfl,a,_,0,_,rfl,rfl,ha,at0 _ _,_,rfl,hc.th,fun H1 s1=>⟨_,rfl,?_⟩⟩
 rw [show nameB (.str c)=true from hc]
 have e:(isS (.str wy) && inV (.str wy) aQo)=true∧wy.length≤8:=by
  rcases hw with e|e <;> (have e:wy=_:=e;subst e;exact ⟨by decide +kernel,by decide +kernel⟩)
 refine eX ⟨_,rfl,a,_,1,_,rfl,rfl,s1.aP ha,at1 _ _ _,_,ka,aQo,rfl,pO e.2,hka _,rfl,?_⟩
 show Q (.bl (isS (.str wy) && inV (.str wy) aQo)) H1
 rw [e.1]
 exact q H1 s1
theorem aPa (T:Txt w K mg) (dD:Ok P w K mg base 1 "is_one_of" ["thing","texts"] (wU K)) (cW:Ok P w K mg base 2 "is_name" ["thing"] (aAp K nameB)):Ok P w K mg base 3 "is_sum" ["thing"] (gQ (fX K yG)):=by
 refine Ok.ofV T.aSj aOs (fun vs H Q E h=>?_) (fun f cdv A outer s H vs Q E hr h=>?_)
 ·obtain ⟨v,b,rfl,_⟩:=h;rfl
 obtain ⟨v,b,rfl,⟨rfl,⟨wd,oc,new⟩,a,rfl,hn,hs⟩,q⟩:=h
 obtain ⟨ka,mk,hka⟩:=T.qK
 have qK:∃u,mg "SUM_WORDS"=some u∧RelV (.ref ka) u:=⟨_,mk,rfl⟩
 refine ⟨_,(aC (bW (VW.pt (qI (fK (eO (aR jF (by rfl) T.bV bR (aB (vv 0) (aB (fB (v:=.ty "tuple") (by rfl) T.cL cB rfl) aA))))) (nO (aY yJ (aR bC (by rfl) T.eY cP (aB (vv 0) aA)) aD (bI _))))) (aG (aN kY)) bA) (aC (bW (VW.pt (qI (fK (eO (aO (dD.mono (by decide)) hr (by rfl) (aB (aK bH (vv 0) aD (fun _ _=>rfl)) (aB (fM (by rfl) qK) aA))))) (nO (fK (eO (aO (cW.mono (by decide)) hr (by rfl) (aB (aK bH (vv 0) aD (fun _ _=>rfl)) aA))))))) (aG (aN kY)) bA) (aG (aN (lX (aY dC (aK bH (vv 0) aD (fun _ _=>rfl)) aU (bI _)) (gO aV3 (aK bH (vv 0) aD (fun _ _=>rfl)) aWl (bI _)) (aO (cW.mono (by decide)) hr (by rfl) (aB (aK bH (vv 0) aD (fun _ _=>rfl)) aA))))))),?_⟩
 have hn':nameB (.str new)=true:=hn
 rcases hs with ⟨e,_,ha⟩|⟨c,e,hc,hw,ha⟩
 ·refine ⟨_,rfl,_,_,rfl,.tup ha,_,rfl,bK ?_⟩
  refine ⟨_,rfl,_,_,rfl,.inr ha,rfl,_,rfl,bK ?_⟩
  refine ⟨_,rfl,a,_,0,_,rfl,rfl,ha,at0 _ _,_,ka,aA7,rfl,pO (by decide +kernel),hka _,rfl,_,rfl,bK ?_⟩
  refine ⟨_,rfl,a,_,2,_,rfl,rfl,ha,at2 _ _ _ _,_,rfl,hn.th,fun H1 s1=>⟨_,rfl,?_⟩⟩
  rw [hn']
  refine bK ⟨_,rfl,a,_,0,_,rfl,rfl,s1.aP ha,at0 _ _,rfl,_,rfl,eX ?_⟩
  exact ⟨_,rfl,a,_,1,_,rfl,rfl,s1.aP ha,at1 _ _ _,rfl,q H1 s1⟩
 ·have ew:(isS (.str wd) && inV (.str wd) aA7)=true∧wd.length≤8∧decide (V.str wd=V.str "count")=false:=by
   rcases hw with e|e|e <;> (have e:wd=_:=e;subst e;exact ⟨by decide +kernel,by decide +kernel,by decide +kernel⟩)
  refine ⟨_,rfl,_,_,rfl,.tup ha,_,rfl,bK ?_⟩
  refine ⟨_,rfl,_,_,rfl,.inr ha,rfl,_,rfl,bK ?_⟩
  refine ⟨_,rfl,a,_,0,_,rfl,rfl,ha,at0 _ _,_,ka,aA7,rfl,pO ew.2.1,hka _,rfl,_,rfl,?_⟩
  rw [ew.1]
  refine bK ⟨_,rfl,a,_,2,_,rfl,rfl,ha,at2 _ _ _ _,_,rfl,hn.th,fun H1 s1=>⟨_,rfl,?_⟩⟩
  rw [hn']
  refine bK ⟨_,rfl,a,_,0,_,rfl,rfl,s1.aP ha,at0 _ _,rfl,_,rfl,?_⟩
  rw [ew.2.2]
  refine bK ⟨_,rfl,a,_,1,_,rfl,rfl,s1.aP ha,at1 _ _ _,_,rfl,hc.th,fun H2 s2=>?_⟩
  rw [show nameB (.str c)=true from hc]
  exact q H2 (s1.trans s2)
def aVv (_:PySem.W.Frag) (_:Hp) (v:V) (n:Nat):Prop:=v=.int n∧n≤60
theorem aJt (T:Txt w K mg) (mG:Ok P w K mg base 1 "is_whole" ["thing"] (vW K)):Ok P w K mg base 2 "is_many" ["thing"] (gQ (fX K aVv)):=by
 refine Ok.ofV T.aN3 aKs (fun vs H Q E h=>?_) (fun f cdv A outer s H vs Q E hr h=>?_)
 ·obtain ⟨v,b,rfl,_⟩:=h;rfl
 obtain ⟨v,b,rfl,⟨rfl,n,rfl,hn⟩,q⟩:=h
 refine ⟨_,(aG (aN (nP (aO (mG.mono (by decide)) hr (by rfl) (aB (vv 0) aA)) (nG (aSo aDk aDk aD (vv 0) (fM (by rfl) T.aJh)))))),?_⟩
 refine ⟨_,rfl,_,rfl,.inr (.inl ⟨_,rfl⟩),_,rfl,eX ?_⟩
 refine ⟨_,rfl,_,_,rfl,rfl,_,rfl,?_⟩
 have e1:decide ((0:Int)≤(n:Int))=true:=decide_eq_true (by lia)
 have e2:decide ((n:Int)≤60)=true:=decide_eq_true (by lia)
 rw [e1]
 refine eX ⟨_,_,rfl,rfl,?_⟩
 show Q (.bl (decide ((n:Int)≤60))) H
 rw [e2]
 exact q H (Same.refl H)
theorem tV (T:Txt w K mg):Ok P w K mg base 1 "may_be_question" ["thing"] (fun vs H Q _=>∃v,vs=[v]∧Q (.bl true) H):=by
 refine Ok.ofV T.vA tX (fun vs H Q E h=>?_) (fun f cdv A outer s H vs Q E hr h=>?_)
 ·obtain ⟨v,rfl,_⟩:=h;rfl
 obtain ⟨v,rfl,q⟩:=h
 exact ⟨_,(aG (aN kY)),q⟩
theorem aWk {k:Nat} {x:Str} {ps:List Str} {sp sp':Sp} (G:Ok P w K mg base k x ps sp) (h:∀vs H Q E,sp' vs H Q E→sp vs H Q E):Ok P w K mg base k x ps sp':=
 let ⟨f,fd,h1,h2,h3,h4⟩:=G;⟨f,fd,h1,h2,h3,h4.imp h⟩
theorem aQx (G:Ok P w K mg base 2 "is_name" ["thing"] (aAp K nameB)):Ok P w K mg base 2 "is_name" ["thing"] (gQ (fX K gA)):=
 aWk G fun vs H Q E h=>by
  obtain ⟨v,b,rfl,⟨rfl,x,rfl,hx⟩,q⟩:=h
  exact ⟨_,rfl,Nm.th hx,fun H' s'=>by rw [show nameB (.str x)=true from hx];exact q H' s'⟩
theorem aFs (T:Txt w K mg) (aPi:Ok P w K mg base 4 "is_test" ["thing"] (gQ (fX K IsT))) (bU:Ok P w K mg base 5 "is_tuple_of" ["thing","least","most","is_part"] (jZ P w K mg base 4)) :
  Ok P w K mg base 6 "are_tests" ["thing"] (gQ (fX K (lH IsT 1 3))):=by
 refine Ok.ofV T.aIs aEt (fun vs H Q E h=>?_) (fun f cdv A outer s H vs Q E hr h=>?_)
 ·obtain ⟨v,b,rfl,_⟩:=h;rfl
 obtain ⟨v,b,rfl,⟨rfl,xs,hx,l1,l2⟩,q⟩:=h
 obtain ⟨fa,mf,hf⟩:=aPi.held
 have aCk:∃u,mg "is_test"=some u∧RelV (.ref fa) u:=⟨_,mf,rfl⟩
 refine ⟨_,(aG (aN (aO (bU.mono (by decide)) hr (by rfl) (aB (vv 0) (aB aD (aB (fM (by rfl) T.aD6) (aB (fM (by rfl) aCk) aA))))))),?_⟩
 exact ⟨_,rfl,_,1,3,fa,_,_,_,rfl,by decide,hf,jL (S:=IsT) (fun e h=>h.same e),tupof (S:=IsT) hx l1 l2,fun H1 s1=>q H1 s1⟩
theorem aDu (T:Txt w K mg) (cW:Ok P w K mg base 2 "is_name" ["thing"] (gQ (fX K gA))) (bU:Ok P w K mg base 3 "is_tuple_of" ["thing","least","most","is_part"] (jZ P w K mg base 2)) :
  Ok P w K mg base 4 "are_names" ["thing"] (gQ (fX K (lH gA 1 8))):=by
 refine Ok.ofV T.aIr aFy (fun vs H Q E h=>?_) (fun f cdv A outer s H vs Q E hr h=>?_)
 ·obtain ⟨v,b,rfl,_⟩:=h;rfl
 obtain ⟨v,b,rfl,⟨rfl,xs,hx,l1,l2⟩,q⟩:=h
 obtain ⟨fa,mf,hf⟩:=cW.held
 have lO:∃u,mg "is_name"=some u∧RelV (.ref fa) u:=⟨_,mf,rfl⟩
 refine ⟨_,(aG (aN (aO (bU.mono (by decide)) hr (by rfl) (aB (vv 0) (aB aD (aB (fM (by rfl) T.wL) (aB (fM (by rfl) lO) aA))))))),?_⟩
 exact ⟨_,rfl,_,1,8,fa,_,_,_,rfl,by decide,hf,jL (S:=gA) (fun e h=>h),tupof (S:=gA) hx l1 l2,fun H1 s1=>q H1 s1⟩
theorem tR (T:Txt w K mg) (cW:Ok P w K mg base 2 "is_name" ["thing"] (gQ (fX K gA))) (bU:Ok P w K mg base 3 "is_tuple_of" ["thing","least","most","is_part"] (jZ P w K mg base 2)) :
  Ok P w K mg base 4 "are_group_names" ["thing"] (gQ (fX K (lH gA 0 8))):=by
 refine Ok.ofV T.wC tL (fun vs H Q E h=>?_) (fun f cdv A outer s H vs Q E hr h=>?_)
 ·obtain ⟨v,b,rfl,_⟩:=h;rfl
 obtain ⟨v,b,rfl,⟨rfl,xs,hx,l1,l2⟩,q⟩:=h
 obtain ⟨fa,mf,hf⟩:=cW.held
 have lO:∃u,mg "is_name"=some u∧RelV (.ref fa) u:=⟨_,mf,rfl⟩
 refine ⟨_,(aG (aN (aO (bU.mono (by decide)) hr (by rfl) (aB (vv 0) (aB aD (aB (fM (by rfl) T.wL) (aB (fM (by rfl) lO) aA))))))),?_⟩
 exact ⟨_,rfl,_,0,8,fa,_,_,_,rfl,by decide,hf,jL (S:=gA) (fun e h=>h),tupof (S:=gA) hx l1 l2,fun H1 s1=>q H1 s1⟩
theorem aF4 (T:Txt w K mg) (aOp:Ok P w K mg base 4 "is_pair" ["thing"] (gQ (fX K jW))) (bU:Ok P w K mg base 5 "is_tuple_of" ["thing","least","most","is_part"] (jZ P w K mg base 4)) :
  Ok P w K mg base 6 "are_pairs" ["thing"] (gQ (fX K (lH jW 1 3))):=by
 refine Ok.ofV T.aG7 aDm (fun vs H Q E h=>?_) (fun f cdv A outer s H vs Q E hr h=>?_)
 ·obtain ⟨v,b,rfl,_⟩:=h;rfl
 obtain ⟨v,b,rfl,⟨rfl,xs,hx,l1,l2⟩,q⟩:=h
 obtain ⟨fa,mf,hf⟩:=aOp.held
 have aCn:∃u,mg "is_pair"=some u∧RelV (.ref fa) u:=⟨_,mf,rfl⟩
 refine ⟨_,(aG (aN (aO (bU.mono (by decide)) hr (by rfl) (aB (vv 0) (aB aD (aB (fM (by rfl) T.aEy) (aB (fM (by rfl) aCn) aA))))))),?_⟩
 exact ⟨_,rfl,_,1,3,fa,_,_,_,rfl,by decide,hf,jL (S:=jW) (fun e h=>h.same e),tupof (S:=jW) hx l1 l2,fun H1 s1=>q H1 s1⟩
theorem aHl (T:Txt w K mg) (aRv:Ok P w K mg base 3 "is_sum" ["thing"] (gQ (fX K yG))) (bU:Ok P w K mg base 4 "is_tuple_of" ["thing","least","most","is_part"] (jZ P w K mg base 3)) :
  Ok P w K mg base 5 "are_sums" ["thing"] (gQ (fX K (lH yG 0 4))):=by
 refine Ok.ofV T.aL6 aJa (fun vs H Q E h=>?_) (fun f cdv A outer s H vs Q E hr h=>?_)
 ·obtain ⟨v,b,rfl,_⟩:=h;rfl
 obtain ⟨v,b,rfl,⟨rfl,xs,hx,l1,l2⟩,q⟩:=h
 obtain ⟨fa,mf,hf⟩:=aRv.held
 have aJp:∃u,mg "is_sum"=some u∧RelV (.ref fa) u:=⟨_,mf,rfl⟩
 refine ⟨_,(aG (aN (aO (bU.mono (by decide)) hr (by rfl) (aB (vv 0) (aB aD (aB (fM (by rfl) T.aGv) (aB (fM (by rfl) aJp) aA))))))),?_⟩
 exact ⟨_,rfl,_,0,4,fa,_,_,_,rfl,by decide,hf,jL (S:=yG) (fun e h=>h.same e),tupof (S:=yG) hx l1 l2,fun H1 s1=>q H1 s1⟩
theorem aIq (T:Txt w K mg) (aQs:Ok P w K mg base 3 "is_key" ["thing"] (gQ (fX K aAk))) (bU:Ok P w K mg base 4 "is_tuple_of" ["thing","least","most","is_part"] (jZ P w K mg base 3)) :
  Ok P w K mg base 5 "are_keys" ["thing"] (gQ (fX K (lH aAk 0 3))):=by
 refine Ok.ofV T.aJr aIm (fun vs H Q E h=>?_) (fun f cdv A outer s H vs Q E hr h=>?_)
 ·obtain ⟨v,b,rfl,_⟩:=h;rfl
 obtain ⟨v,b,rfl,⟨rfl,xs,hx,l1,l2⟩,q⟩:=h
 obtain ⟨fa,mf,hf⟩:=aQs.held
 have aI1:∃u,mg "is_key"=some u∧RelV (.ref fa) u:=⟨_,mf,rfl⟩
 refine ⟨_,(aG (aN (aO (bU.mono (by decide)) hr (by rfl) (aB (vv 0) (aB aD (aB (fM (by rfl) T.aIu) (aB (fM (by rfl) aI1) aA))))))),?_⟩
 exact ⟨_,rfl,_,0,3,fa,_,_,_,rfl,by decide,hf,jL (S:=aAk) (fun e h=>h.same e),tupof (S:=aAk) hx l1 l2,fun H1 s1=>q H1 s1⟩
inductive Qn where
 |table (T:Str)
 |whr (q:Qn) (ts:List Tst)
 |keep (q:Qn) (ns:List Str)
 |nmd (q:Qn) (ns:List Str)
 |join (q r:Qn) (ps:List (Str × Str))
 |group (q:Qn) (ns:List Str) (ss:List Sm)
 |first (q:Qn) (ks:List (Str × Str)) (m:Nat)
inductive IsQ (K:PySem.W.Frag) (H:Hp):V→Qn→Prop
 |table {a T}:SqT K H a [.str "table",.str T]→Nm T→IsQ K H (.ref a) (.table T)
 |whr {a v q w ts}:SqT K H a [.str "where",v,w]→IsQ K H v q→lH IsT 1 3 K H w ts→IsQ K H (.ref a) (.whr q ts)
 |keep {a v q w ns}:SqT K H a [.str "keep",v,w]→IsQ K H v q→lH gA 1 8 K H w ns→IsQ K H (.ref a) (.keep q ns)
 |nmd {a v q w ns}:SqT K H a [.str "named",v,w]→IsQ K H v q→lH gA 1 8 K H w ns→IsQ K H (.ref a) (.nmd q ns)
 |join {a v q u r w ps}:SqT K H a [.str "join",v,u,w]→IsQ K H v q→IsQ K H u r→lH jW 1 3 K H w ps→IsQ K H (.ref a) (.join q r ps)
 |group {a v q w ns u ss}:SqT K H a [.str "group",v,w,u]→IsQ K H v q→lH gA 0 8 K H w ns→lH yG 0 4 K H u ss→IsQ K H (.ref a) (.group q ns ss)
 |first {a v q w ks m}:SqT K H a [.str "first",v,w,.int (m:Nat)]→IsQ K H v q→lH aAk 0 3 K H w ks→m≤60→IsQ K H (.ref a) (.first q ks m)
theorem lH.same {α:Type} {S:PySem.W.Frag→Hp→V→α→Prop} {lo hi:Nat} {K:PySem.W.Frag} {H H':Hp} {v:V} {xs:List α} (e:Same H H') (k:∀{v t},S K H v t→S K H' v t) (h:lH S lo hi K H v xs):lH S lo hi K H' v xs:=
 ⟨h.1.same e fun _ _=>k,h.2⟩
theorem IsQ.same {K:PySem.W.Frag} {H H':Hp} {v:V} {q:Qn} (e:Same H H') (h:IsQ K H v q):IsQ K H' v q:=by
 induction h with
 |table a b=>exact .table (e.aP a) b
 |whr a _ c ih=>exact .whr (e.aP a) ih (c.same e fun h=>h.same e)
 |keep a _ c ih=>exact .keep (e.aP a) ih (c.same e fun h=>h)
 |nmd a _ c ih=>exact .nmd (e.aP a) ih (c.same e fun h=>h)
 |join a _ _ c ih1 ih2=>exact .join (e.aP a) ih1 ih2 (c.same e fun h=>h.same e)
 |group a _ c d ih=>exact .group (e.aP a) ih (c.same e fun h=>h) (d.same e fun h=>h.same e)
 |first a _ c d ih=>exact .first (e.aP a) ih (c.same e fun h=>h.same e) d
def Part (P:Program) (w:World) (K:PySem.W.Frag) (mg:Str→Option Value) (base:Heap) (H:Hp) (f x:V):Prop:=∃fa ps sp,f=.ref fa∧Held P w K mg base 6 fa ps sp∧∀H' Q,Same H H'→(∀H2,Same H' H2→Q (.bl true) H2)→sp [x] H' Q E0
theorem gW {k:Nat} {x:Str} {ps:List Str} {α:Type} {S:PySem.W.Frag→Hp→V→α→Prop} {f:Addr} {H:Hp} {v:V} {t:α} (G:Ok P w K mg base k x ps (gQ (fX K S))) (hk:k≤6) (m:mg x=some (.ref f)) (st:∀{H H' v t},Same H H'→S K H v t→S K H' v t) (h:S K H v t):Part P w K mg base H (.ref f) v:=
 ⟨f,_,_,rfl,(G.aQp m).mono hk,fun H' Q s' q=>⟨v,true,rfl,⟨rfl,t,st s' h⟩,q⟩⟩
abbrev forms:List Str:=["table","where","keep","named","join","group","first"]
def aZc (K:PySem.W.Frag):Sp:=fun vs H Q _=>∃v q,vs=[v]∧IsQ K H v q∧∀H',Same H H'→Q (.bl true) H'
theorem lW {f:Addr} {H:Hp} {v:V} (G:Ok P w K mg base 1 "may_be_question" ["thing"] (fun vs H Q _=>∃v,vs=[v]∧Q (.bl true) H)) (m:mg "may_be_question"=some (.ref f)):Part P w K mg base H (.ref f) v:=
 ⟨f,_,_,rfl,(G.aQp m).mono (by decide),fun H' Q s' q=>⟨v,rfl,q H' (Same.refl H')⟩⟩
structure Forms (P:Program) (w:World) (K:PySem.W.Frag) (mg:Str→Option Value) (base:Heap):Prop where
 name:Ok P w K mg base 2 "is_name" ["thing"] (gQ (fX K gA))
 any:Ok P w K mg base 1 "may_be_question" ["thing"] (fun vs H Q _=>∃v,vs=[v]∧Q (.bl true) H)
 tests:Ok P w K mg base 6 "are_tests" ["thing"] (gQ (fX K (lH IsT 1 3)))
 names:Ok P w K mg base 4 "are_names" ["thing"] (gQ (fX K (lH gA 1 8)))
 gnames:Ok P w K mg base 4 "are_group_names" ["thing"] (gQ (fX K (lH gA 0 8)))
 pairs:Ok P w K mg base 6 "are_pairs" ["thing"] (gQ (fX K (lH jW 1 3)))
 sums:Ok P w K mg base 5 "are_sums" ["thing"] (gQ (fX K (lH yG 0 4)))
 keys:Ok P w K mg base 5 "are_keys" ["thing"] (gQ (fX K (lH aAk 0 3)))
 many:Ok P w K mg base 2 "is_many" ["thing"] (gQ (fX K aVv))
theorem aUd (T:Txt w K mg) (F:Forms P w K mg base):∃d kvs,mg "FORMS"=some (.ref d)∧aUp w K d kvs∧kvs.length≤1000∧(kvs.map fun q=>V.str q.1).all kW=true ∧
  ∀H v q,IsQ K H v q→∃a k xs t fs,v=.ref a∧SqT K H a (.str k::xs)∧k.length≤8∧inV (.str k) (kvs.map fun q=>V.str q.1)=true∧(kvs.find? fun z=>decide (z.1=k)).map (·.2)=some t∧(∀H,SqT K H t fs)∧fs.length≤8∧bM (Part P w K mg base H) fs xs:=by
 obtain ⟨d,t0,t1,t2,t3,t4,t5,t6,md,hd,⟨f00,h0,m00⟩,⟨f10,f11,h1,m10,m11⟩,⟨f20,f21,h2,m20,m21⟩,⟨f30,f31,h3,m30,m31⟩,⟨f40,f41,f42,h4,m40,m41,m42⟩,⟨f50,f51,f52,h5,m50,m51,m52⟩,⟨f60,f61,f62,h6,m60,m61,m62⟩⟩:=T.zQ
 refine ⟨d,_,md,hd,(by show 7≤1000;decide),rfl,fun H v q hq=>?_⟩
 cases hq with
 |table a b=>exact ⟨_,_,_,t0,_,rfl,a,by decide +kernel,(by show inV (.str "table") (forms.map V.str)=true;decide +kernel),rfl,h0,(by show 1≤8;decide),.cons (gW F.name (by decide) m00 (fun _ h=>h) ⟨rfl,b⟩) .nil⟩
 |whr a _ c=>exact ⟨_,_,_,t1,_,rfl,a,by decide +kernel,(by show inV (.str "where") (forms.map V.str)=true;decide +kernel),rfl,h1,(by show 2≤8;decide),.cons (lW F.any m10) (.cons (gW F.tests (by decide) m11 (fun e h=>h.same e fun q=>q.same e) c) .nil)⟩
 |keep a _ c=>exact ⟨_,_,_,t2,_,rfl,a,by decide +kernel,(by show inV (.str "keep") (forms.map V.str)=true;decide +kernel),rfl,h2,(by show 2≤8;decide),.cons (lW F.any m20) (.cons (gW F.names (by decide) m21 (fun e h=>h.same e fun q=>q) c) .nil)⟩
 |nmd a _ c=>exact ⟨_,_,_,t3,_,rfl,a,by decide +kernel,(by show inV (.str "named") (forms.map V.str)=true;decide +kernel),rfl,h3,(by show 2≤8;decide),.cons (lW F.any m30) (.cons (gW F.names (by decide) m31 (fun e h=>h.same e fun q=>q) c) .nil)⟩
 |join a _ _ c=>exact ⟨_,_,_,t4,_,rfl,a,by decide +kernel,(by show inV (.str "join") (forms.map V.str)=true;decide +kernel),rfl,h4,(by show 3≤8;decide),.cons (lW F.any m40) (.cons (lW F.any m41) (.cons (gW F.pairs (by decide) m42 (fun e h=>h.same e fun q=>q.same e) c) .nil))⟩
 |group a _ c e=>exact ⟨_,_,_,t5,_,rfl,a,by decide +kernel,(by show inV (.str "group") (forms.map V.str)=true;decide +kernel),rfl,h5,(by show 3≤8;decide),.cons (lW F.any m50) (.cons (gW F.gnames (by decide) m51 (fun e h=>h.same e fun q=>q) c) (.cons (gW F.sums (by decide) m52 (fun e h=>h.same e fun q=>q.same e) e) .nil))⟩
 |first a _ c e=>exact ⟨_,_,_,t6,_,rfl,a,by decide +kernel,(by show inV (.str "first") (forms.map V.str)=true;decide +kernel),rfl,h6,(by show 3≤8;decide),.cons (lW F.any m60) (.cons (gW F.keys (by decide) m61 (fun e h=>h.same e fun q=>q.same e) c) (.cons (gW F.many (by decide) m62 (fun _ h=>h) ⟨rfl,e⟩) .nil))⟩
theorem iT {α β:Type} {R:α→β→Prop}:∀{as:List α} {bs:List β},bM R as bs→∀{i:Nat} {a:α} {b:β},as[i]?=some a→bs[i]?=some b→R a b
 |_,_,.cons r t,0,_,_,h1,h2=>by cases h1;cases h2;exact r
 |_,_,.cons r t,i+1,a,b,h1,h2=>iT t (i:=i) (by simpa using h1) (by simpa using h2)
theorem aT8 {xs ys:List V}:(List.zipWith (fun _ _:V=>V.bl true) xs ys)=(List.zipWith (fun _ _:V=>true) xs ys).map V.bl:=by
 rw [List.map_zipWith]
theorem aQ0:∀(xs ys:List V),((List.zipWith (fun _ _:V=>true) xs ys).all id)=true
 |[],_=>by simp
 |_::_,[]=>by simp
 |x::xs,y::ys=>by rw [List.zipWith_cons_cons,List.all_cons,aQ0 xs ys];rfl
theorem bAa (x:V) (xs:List V):rK (x::xs) (some 1) none=xs:=by
 unfold rK
 have e:HT.sIx (x::xs).length 0 (some 1)=1:=by
  rw [show (1:Int)=((1:Nat):Int) from rfl,HT.zP,List.length_cons]
  lia
 rw [e,HT.aAh,List.length_cons]
 simp
theorem nw1 (x:V) (xs:List V):¬ (HT.sIx (x::xs).length 0 (some 1)=0∧HT.sIx (x::xs).length (x::xs).length none=(x::xs).length):=by
 rw [show (1:Int)=((1:Nat):Int) from rfl,HT.zP,List.length_cons]
 lia
theorem aG8 (T:Txt w K mg) (F:Forms P w K mg base) (dD:Ok P w K mg base 1 "is_one_of" ["thing","texts"] (wU K)):Ok P w K mg base 7 "has_form" ["thing"] (aZc K):=by
 refine Ok.ofV T.aKy yO (fun vs H Q E h=>?_) (fun f cdv A outer s H vs Q E hr h=>?_)
 ·obtain ⟨v,q,rfl,_⟩:=h;rfl
 obtain ⟨v,q0,rfl,hq,q⟩:=h
 obtain ⟨d,kvs,md,hd,hl,hfl,hat⟩:=aUd T F
 have zQ:∃u,mg "FORMS"=some u∧RelV (.ref d) u:=⟨_,md,rfl⟩
 obtain ⟨a,k,xs,t,fs,rfl,ha,hk8,hin,hf,ht,hf8,hp⟩:=hat H v q0 hq
 have hlen:=hp.len
 refine ⟨_,(aC (bW (VW.pt (qI (fK (eO (aR jF (by rfl) T.bV bR (aB (vv 0) (aB (fB (v:=.ty "tuple") (by rfl) T.cL cB rfl) aA))))) (qI (aY dC (aR bC (by rfl) T.eY cP (aB (vv 0) aA)) aD (bI _)) (nO (fK (eO (aO (dD.mono (by decide)) hr (by rfl) (aB (aK bH (vv 0) aD (fun _ _=>rfl)) (aB (bO (aO4 rfl) (by rfl) T.cL cB (aB (fM (by rfl) zQ) aA)) aA))))))))) (aG (aN kY)) bA) (aC (aW (i:=1) yO.nd rfl (by trivial) (aK aTd (fM (by rfl) zQ) (aK bH (vv 0) aD (fun _ _=>rfl)) (fun _ _=>rfl))) (aC (bW (aY yJ (aR bC (by rfl) T.eY cP (aB (vv 0) aA)) (cD iY (aR bC (by rfl) T.eY cP (aB (vv 1) aA)) aD) (bI _)) (aG (aN kY)) bA) (aG (aN (aR (vV rfl) (by rfl) T.aL7 aEv (aB (bN (N:=["is_part","part"]) (by trivial) (cY (by decide +kernel)) rfl (aF5 (by rfl) T.aRt (aB (vv 1) (aB (jY aFg (vv 0) (jQ aD) sG) aA))) (fun cl s' H' fp=>⟨(jP (K:=K) (n:=2) rfl (bL (aL (i:=0) (show (["is_part","part"]:List Str).Nodup from by decide +kernel) rfl (Or.inl rfl)) (bL (aL (i:=1) (show (["is_part","part"]:List Str).Nodup from by decide +kernel) rfl (Or.inl rfl)) eQ))),bT,(aJd (P:=P) (w:=w) (K:=K) (mg:=mg) (base:=base) hr (vv 0) (aB (vv 1) aA))⟩)) aA))))))),?_⟩
 refine ⟨_,rfl,_,_,rfl,.tup ha,_,rfl,bK ?_⟩
 refine ⟨_,rfl,_,_,rfl,.inr ha,rfl,_,rfl,?_⟩
 have e0:decide (V.int (((V.str k::xs).length:Nat):Int)=V.int 0)=false:=decide_eq_false (by intro z;have:=V.int.inj z;rw [List.length_cons] at this;lia)
 rw [e0]
 refine bK ⟨_,rfl,a,_,0,_,rfl,rfl,ha,at0 _ _,d,kvs,rfl,hd,hl,fun p1 H1 s1 g1=>⟨_,p1,_,rfl,pO hk8,SqT.of g1,hfl,_,rfl,?_⟩⟩
 have e1:(isS (.str k) && inV (.str k) (kvs.map fun q=>V.str q.1))=true:=by rw [hin];rfl
 rw [e1]
 refine bK ⟨_,rfl,a,_,0,_,rfl,rfl,s1.aP ha,at0 _ _,d,kvs,k,t,rfl,rfl,hd,hf,?_⟩
 refine ⟨_,rfl,_,_,rfl,.inr (s1.aP ha),_,rfl,_,_,rfl,.inr (ht _),_,_,rfl,rfl,rfl,_,rfl,?_⟩
 have e2:(!decide (V.int (((V.str k::xs).length:Nat):Int)=V.int ((fs.length:Nat)+1:Int)))=false:=by rw [List.length_cons,hlen];simp
 rw [e2]
 refine bK ?_
 dsimp only [yN,zK,tCB,cT]
 refine aN7 fs xs (fun _ _=>.bl true) [none,none] lK (small (by lia)) hlen (fun R r=>⟨_,rfl,_,rfl,_,rfl,a,_,rfl,s1.aP ha,nw1 _ _,fun p2 H2 s2 g2=>?_⟩) (fun i fv x ef ex H' R l1 l2 sm r=>?_) rfl rfl fun D H' sm hD=>?_
 ·rw [bAa] at g2
  exact r t p2 H2 s2 (ht _) (SqT.of g2)
 ·obtain ⟨fa,ps,sp,rfl,hh,hc⟩:=iT hp ef ex
  exact ⟨_,rfl,fa,ps,sp,rfl,hh,_,rfl,hc H' R (s1.trans sm) fun H2 s2=>r H2 s2⟩
 ·refine ⟨D,List.zipWith (fun _ _=>true) fs xs,rfl,SqL.of (by rw [hD,aT8]),?_⟩
  rw [aQ0]
  exact q H' (s1.trans sm)
def kids:Qn→List Qn
 |.table _=>[]
 |.whr q _=>[q]
 |.keep q _=>[q]
 |.nmd q _=>[q]
 |.join q r _=>[q,r]
 |.group q _ _=>[q]
 |.first q _ _=>[q]
def own:Qn→Nat
 |.whr _ ts=>ts.length
 |_=>1
def size:Qn→Nat
 |.table _=>1
 |.whr q ts=>size q+ts.length
 |.keep q _=>size q+1
 |.nmd q _=>size q+1
 |.join q r _=>size q+size r+1
 |.group q _ _=>size q+1
 |.first q _ _=>size q+1
def sizes (qs:List Qn):Nat:=(qs.map size).sum
theorem qU (q:Qn):size q=own q+sizes (kids q):=by
 cases q <;> simp [size,own,sizes,kids] <;> lia
theorem wA {K:PySem.W.Frag} {H:Hp} {v:V} {q:Qn} (h:IsQ K H v q):1≤own q:=by
 cases h with
 |whr _ _ c=>exact c.2.1
 |_=>exact Nat.le_refl _
def aMw (K:PySem.W.Frag):Sp:=fun vs H Q _=>∃v q H0,vs=[v]∧Same H0 H∧IsQ K H0 v q∧∀D H' us,H D=none→Same H H'→H' D=some (.lst us)→bM (IsQ K H0) us (kids q)→Q (.ref D) H'
theorem qD (T:Txt w K mg):Ok P w K mg base 1 "questions_in" ["question"] (aMw K):=by
 refine Ok.ofV T.aAe zE (fun vs H Q E h=>?_) (fun f cdv A outer s H vs Q E hr h=>?_)
 ·obtain ⟨v,q,H0,rfl,_⟩:=h;rfl
 obtain ⟨v,q0,H0,rfl,e,hq,q⟩:=h
 refine ⟨_,(aC (bW (aY dC (aK bH (vv 0) aD (fun _ _=>rfl)) aU (bI _)) (aG (aN (cU aA))) bA) (aG (aN (lX (aY dC (aK bH (vv 0) aD (fun _ _=>rfl)) aU (bI _)) (bO tO (by rfl) T.zW vO (aB (jY aFg (vv 0) (jQ aD) (jQ aD)) aA)) (cU (aB (aK bH (vv 0) aD (fun _ _=>rfl)) aA)))))),?_⟩
 cases hq with
 |table a b=>exact ⟨_,rfl,_,_,0,_,rfl,rfl,(e.aP a),at0 _ _,rfl,_,rfl,eX ⟨(by show 0≤sizeLine;decide),fun D H' f s' g=>q D H' _ f s' g .nil⟩⟩
 |whr a b c=>exact ⟨_,rfl,_,_,0,_,rfl,rfl,(e.aP a),at0 _ _,rfl,_,rfl,bK ⟨_,rfl,_,_,0,_,rfl,rfl,(e.aP a),at0 _ _,rfl,_,rfl,bK ⟨_,rfl,_,_,1,_,rfl,rfl,(e.aP a),at1 _ _ _,(by show 1≤sizeLine;decide),fun D H' f s' g=>q D H' _ f s' g (.cons b .nil)⟩⟩⟩
 |keep a b c=>exact ⟨_,rfl,_,_,0,_,rfl,rfl,(e.aP a),at0 _ _,rfl,_,rfl,bK ⟨_,rfl,_,_,0,_,rfl,rfl,(e.aP a),at0 _ _,rfl,_,rfl,bK ⟨_,rfl,_,_,1,_,rfl,rfl,(e.aP a),at1 _ _ _,(by show 1≤sizeLine;decide),fun D H' f s' g=>q D H' _ f s' g (.cons b .nil)⟩⟩⟩
 |nmd a b c=>exact ⟨_,rfl,_,_,0,_,rfl,rfl,(e.aP a),at0 _ _,rfl,_,rfl,bK ⟨_,rfl,_,_,0,_,rfl,rfl,(e.aP a),at0 _ _,rfl,_,rfl,bK ⟨_,rfl,_,_,1,_,rfl,rfl,(e.aP a),at1 _ _ _,(by show 1≤sizeLine;decide),fun D H' f s' g=>q D H' _ f s' g (.cons b .nil)⟩⟩⟩
 |group a b c d=>exact ⟨_,rfl,_,_,0,_,rfl,rfl,(e.aP a),at0 _ _,rfl,_,rfl,bK ⟨_,rfl,_,_,0,_,rfl,rfl,(e.aP a),at0 _ _,rfl,_,rfl,bK ⟨_,rfl,_,_,1,_,rfl,rfl,(e.aP a),at1 _ _ _,(by show 1≤sizeLine;decide),fun D H' f s' g=>q D H' _ f s' g (.cons b .nil)⟩⟩⟩
 |first a b c d=>exact ⟨_,rfl,_,_,0,_,rfl,rfl,(e.aP a),at0 _ _,rfl,_,rfl,bK ⟨_,rfl,_,_,0,_,rfl,rfl,(e.aP a),at0 _ _,rfl,_,rfl,bK ⟨_,rfl,_,_,1,_,rfl,rfl,(e.aP a),at1 _ _ _,(by show 1≤sizeLine;decide),fun D H' f s' g=>q D H' _ f s' g (.cons b .nil)⟩⟩⟩
 |join a b c d=>
  refine ⟨_,rfl,_,_,0,_,rfl,rfl,(e.aP a),at0 _ _,rfl,_,rfl,bK ⟨_,rfl,_,_,0,_,rfl,rfl,(e.aP a),at0 _ _,rfl,_,rfl,eX ⟨_,rfl,_,rfl,_,rfl,_,_,rfl,(e.aP a),(by show ¬ (HT.sIx 4 0 (some 1)=0∧HT.sIx 4 4 (some 3)=4);decide),fun p H1 s1 g1=>⟨p,_,rfl,.inr (SqT.of g1),fun D H' f s' g=>q D H' _ (s1.free f) (s1.trans s') g (.cons b (.cons c .nil))⟩⟩⟩⟩
def aSa (K:PySem.W.Frag):Sp:=fun vs H Q _=>∃v q,vs=[v]∧IsQ K H v q∧Q (.int (own q:Nat)) H
theorem aJi (T:Txt w K mg):Ok P w K mg base 1 "own_size" ["question"] (aSa K):=by
 refine Ok.ofV T.aKr aG6 (fun vs H Q E h=>?_) (fun f cdv A outer s H vs Q E hr h=>?_)
 ·obtain ⟨v,q,rfl,_⟩:=h;rfl
 obtain ⟨v,q0,rfl,hq,q⟩:=h
 refine ⟨_,(aG (aN (lX (aY dC (aK bH (vv 0) aD (fun _ _=>rfl)) aU (bI _)) (aR bC (by rfl) T.eY cP (aB (aK bH (vv 0) aD (fun _ _=>rfl)) aA)) aD))),?_⟩
 cases hq with
 |whr a b c=>
  obtain ⟨⟨p,us,rfl,hp,hr'⟩,_⟩:=c
  refine ⟨_,rfl,_,_,0,_,rfl,rfl,a,at0 _ _,rfl,_,rfl,eX ⟨_,rfl,_,_,2,_,rfl,rfl,a,at2 _ _ _ _,_,_,rfl,.inr hp,?_⟩⟩
  rw [hr'.len]
  exact q
 |table a b=>exact ⟨_,rfl,_,_,0,_,rfl,rfl,a,at0 _ _,rfl,_,rfl,bK q⟩
 |keep a b c=>exact ⟨_,rfl,_,_,0,_,rfl,rfl,a,at0 _ _,rfl,_,rfl,bK q⟩
 |nmd a b c=>exact ⟨_,rfl,_,_,0,_,rfl,rfl,a,at0 _ _,rfl,_,rfl,bK q⟩
 |group a b c d=>exact ⟨_,rfl,_,_,0,_,rfl,rfl,a,at0 _ _,rfl,_,rfl,bK q⟩
 |first a b c d=>exact ⟨_,rfl,_,_,0,_,rfl,rfl,a,at0 _ _,rfl,_,rfl,bK q⟩
 |join a b c d=>exact ⟨_,rfl,_,_,0,_,rfl,rfl,a,at0 _ _,rfl,_,rfl,bK q⟩
def aQa (K:PySem.W.Frag):Sp:=fun vs H Q _=>∃v q,vs=[v]∧IsQ K H v q∧size q≤20∧∀H',Same H H'→Q v H'
theorem aPp {α β:Type} {R:α→β→Prop} {as:List α} {bs:List β} (h:bM R as bs) (ne:as≠[]):∃as' a bs' b,as=as'++[a]∧bs=bs'++[b]∧bM R as' bs'∧R a b:=by
 induction h with
 |nil=>exact absurd rfl ne
 |@cons a b as bs r t ih=>
  cases t with
  |nil=>exact ⟨[],a,[],b,rfl,rfl,.nil,r⟩
  |cons r' t'=>
   obtain ⟨as',x,bs',y,e1,e2,h1,h2⟩:=ih (by simp)
   exact ⟨a::as',x,b::bs',y,by rw [e1];rfl,by rw [e2];rfl,.cons r h1,h2⟩
theorem yE (xs ys:List Qn):sizes (xs++ys)=sizes xs+sizes ys:=by unfold sizes;rw [List.map_append,List.sum_append]
theorem aOy {K:PySem.W.Frag} {H:Hp} {us:List V} {qs:List Qn} (h:bM (IsQ K H) us qs):us.length≤sizes qs:=by
 induction h with
 |nil=>exact Nat.le_refl _
 |@cons v q us qs r _ ih=>
  have:=wA r
  have e:=qU q
  show us.length+1≤(((q::qs).map size).sum)
  rw [List.map_cons,List.sum_cons]
  unfold sizes at ih
  lia
theorem aJ1 (T:Txt w K mg) (aKp:Ok P w K mg base 7 "has_form" ["thing"] (aZc K)) (dJ:Ok P w K mg base 1 "questions_in" ["question"] (aMw K)) (aLf:Ok P w K mg base 1 "own_size" ["question"] (aSa K)):Ok P w K mg base 8 "checked" ["thing"] (aQa K):=by
 refine Ok.ofV T.aOj lZ (fun vs H Q E h=>?_) (fun f cdv A outer s H vs Q E hr h=>?_)
 ·obtain ⟨v,q,rfl,_⟩:=h;rfl
 obtain ⟨v,q0,rfl,hq,h20,q⟩:=h
 refine ⟨_,(aC (aW (i:=1) lZ.nd rfl (by trivial) aD) (aC (aW (i:=2) lZ.nd rfl (by trivial) (cU (aB (vv 0) aA))) (aC (aQn PassesOwn.never (aRk (vv 2)) (aC (aW (i:=3) lZ.nd rfl (by trivial) (aSp PySem.F.plainAttrs_list PySem.F.slot_list_pop PySem.F.type_list_pop aTu (vv 2))) (aC (bW (fK (eO (aO (aKp.mono (by decide)) hr (by rfl) (aB (vv 3) aA)))) (aG gY) bA) (aC (aW (i:=1) lZ.nd rfl (by trivial) (cD iY (vv 1) (aO (aLf.mono (by decide)) hr (by rfl) (aB (vv 3) aA)))) (aC (bW (aY aM4 (vv 1) (fM (by rfl) T.aJn) (bI _)) (aG gY) bA) (aG (eF (qH PySem.F.plainAttrs_list PySem.F.slot_list_extend PySem.F.type_list_extend aA9 (vv 2) (aB (aO (dJ.mono (by decide)) hr (by rfl) (aB (vv 3) aA)) aA))))))))) (aG (aN (vv 0)))))),?_⟩
 refine ⟨_,rfl,(by show 1≤sizeLine;decide),fun W H1 fW s1 g1=>?_⟩
 refine ⟨fun m σ H'=>∃sz us qs l,σ=[some v,some (.int (sz:Nat)),some (.ref W),l]∧Same H H'∧H' W=some (.lst us)∧bM (IsQ K H) us qs∧sz+sizes qs=size q0∧m=sizes qs,⟨_,0,_,[q0],_,rfl,s1,g1,.cons hq .nil,by simp [sizes],rfl⟩,?_⟩
 rintro m σ H' ⟨sz,us,qs,l,rfl,sm,eW,hu,hs,rfl⟩
 by_cases hne:us=[]
 ·subst hne
  refine ⟨_,rfl,false,.inl ⟨[],SqL.of eW,rfl⟩,?_⟩
  refine bK ?_
  exact ⟨_,rfl,q H' sm⟩
 ·obtain ⟨us',u,qs',p,rfl,rfl,hu',hp⟩:=aPp hu hne
  refine ⟨_,rfl,true,.inl ⟨_,SqL.of eW,by cases us' <;> rfl⟩,?_⟩
  refine eX ?_
  have hso:=qU p
  have hop:=wA hp
  have hsz:sizes (qs'++[p])=sizes qs'+size p:=by rw [yE];simp [sizes]
  refine ⟨fun σ' H''=>∃m',m'<sizes (qs'++[p])∧∃sz us qs l,σ'=[some v,some (.int (sz:Nat)),some (.ref W),l]∧Same H H''∧H'' W=some (.lst us)∧bM (IsQ K H) us qs∧sz+sizes qs=size q0∧m'=sizes qs,fun σ' H'' h=>h,?_⟩
  refine ⟨_,rfl,.inl ⟨rfl,_,SqL.of eW⟩,W,_,u,rfl,rfl,eW,?_,?_⟩
  ·rw [List.length_append,List.length_singleton,Nat.add_sub_cancel,List.getElem?_append_right (Nat.le_refl _),Nat.sub_self]
   rfl
  rw [List.dropLast_concat]
  have sx:Same H (upd H' W (.lst us')):=cN fW sm
  have ex:upd H' W (.lst us') W=some (.lst us'):=aH
  generalize upd H' W (.lst us')=Hx at sx ex
  refine ⟨_,rfl,u,p,rfl,hp.same sx,fun H2 s2=>⟨_,rfl,bK ?_⟩⟩
  refine ⟨_,rfl,_,rfl,u,p,rfl,hp.same (sx.trans s2),_,_,rfl,rfl,?_⟩
  refine ⟨_,rfl,_,_,rfl,rfl,_,rfl,?_⟩
  have e20:decide ((20:Int)<(sz:Int)+(own p:Int))=false:=decide_eq_false (by lia)
  rw [e20]
  refine bK ?_
  refine ⟨_,rfl,.inl ⟨rfl,_,SqL.of (s2 _ _ ex)⟩,?_⟩
  refine ⟨_,rfl,u,p,H,rfl,sx.trans s2,hp,fun D H3 ws fD s3 gD hw=>?_⟩
  have lw:=hw.len
  have lu:=aOy hu'
  have lk:(kids p).length≤2:=by cases p <;> simp [kids]
  refine ⟨W,D,_,_,rfl,rfl,s3 _ _ (s2 _ _ ex),gD,small (by lia),?_⟩
  refine ⟨_,?_,sz+own p,us'++ws,qs'++kids p,some u,?_,cN fW (sx.trans (s2.trans s3)),aH,hu'.app hw,?_,rfl⟩
  ·rw [yE];lia
  ·rw [show ((sz+own p:Nat):Int)=(sz:Int)+(own p:Int) from by lia];rfl
  ·rw [yE];lia
abbrev Hdr:=List (Str × Str)
def IsC (K:PySem.W.Frag) (H:Hp) (v:V) (c:Str × Str):Prop:=∃p,v=.ref p∧SqT K H p [.str c.1,.str c.2]
theorem IsC.same {K:PySem.W.Frag} {H H':Hp} {v:V} {c:Str × Str} (e:Same H H') (h:IsC K H v c):IsC K H' v c:=by
 obtain ⟨p,rfl,hp⟩:=h
 exact ⟨p,rfl,e.aP hp⟩
def cZ (K:PySem.W.Frag) (H:Hp) (v:V) (hd:Hdr):Prop:=oA K H (IsC K H) v hd
theorem cZ.same {K:PySem.W.Frag} {H H':Hp} {v:V} {hd:Hdr} (e:Same H H') (h:cZ K H v hd):cZ K H' v hd:=oA.same e (fun _ _ q=>q.same e) h
def look (hd:Hdr) (n:Str):Option Str:=(hd.find? fun c=>decide (c.1=n)).map (·.2)
theorem aMn {n k:Str}:∀{hd:Hdr},look hd n=some k→∃i,hd[i]?=some (n,k)∧∀(j:Nat) (c:Str × Str),j<i→hd[j]?=some c→c.1≠n
 |[],h=>by cases h
 |(m,j)::r,h=>by
  unfold look at h
  rw [List.find?_cons] at h
  by_cases e:m=n
  ·rw [decide_eq_true (p:=(m,j).1=n) e] at h
   have h':j=k:=Option.some.inj h
   subst e h'
   exact ⟨0,rfl,fun j c hj=>absurd hj (Nat.not_lt_zero _)⟩
  ·rw [decide_eq_false (p:=(m,j).1=n) e] at h
   obtain ⟨i,h1,h2⟩:=aMn (hd:=r) h
   refine ⟨i+1,by simpa using h1,fun j' c hj hc=>?_⟩
   cases j' with
   |zero=>cases hc;exact e
   |succ j'=>exact h2 j' c (by lia) (by simpa using hc)
theorem aZ {α β:Type} {R:α→β→Prop}:∀{as:List α} {bs:List β},bM R as bs→∀{i:Nat} {a:α},as[i]?=some a→∃b,bs[i]?=some b∧R a b
 |_,_,.cons r t,0,_,h1=>by cases h1;exact ⟨_,rfl,r⟩
 |_,_,.cons r t,i+1,a,h1=>by
  obtain ⟨b,e,q⟩:=aZ t (i:=i) (a:=a) (by simpa using h1)
  exact ⟨b,by simpa using e,q⟩
theorem aEj {α β:Type} {R:α→β→Prop}:∀{as:List α} {bs:List β},as.length=bs.length→(∀(i:Nat) (a:α) (b:β),as[i]?=some a→bs[i]?=some b→R a b)→bM R as bs
 |[],[],_,_=>.nil
 |a::as,b::bs,hl,h=>.cons (h 0 a b rfl rfl) (aEj (by simpa using hl) fun i x y h1 h2=>h (i+1) x y (by simpa using h1) (by simpa using h2))
theorem aNq {us:List V} {ns:List Str} (h:bM (gA K H) us ns):us=ns.map V.str:=by
 induction h with
 |nil=>rfl
 |cons r _ ih=>rw [List.map_cons,ih,r.1]
def yH (K:PySem.W.Frag):Sp:=fun vs H Q _=>∃vh n hd k,vs=[vh,.str n]∧cZ K H vh hd∧look hd n=some k∧Q (.str k) H
theorem aLi (T:Txt w K mg):Ok P w K mg base 1 "kind_in" ["head","name"] (yH K):=by
 refine Ok.ofV T.aO9 aAm (fun vs H Q E h=>?_) (fun f cdv A outer s H vs Q E hr h=>?_)
 ·obtain ⟨vh,n,hd,k,rfl,_⟩:=h;rfl
 obtain ⟨vh,n,hd,k,rfl,⟨a,us,rfl,ha,hu⟩,hk,q⟩:=h
 refine ⟨_,(aC (fQ PassesOwn.never rfl (eG (vv 0)) (aL (i:=2) aAm.nd rfl (by trivial)) (aG (bW (aY dC (aK (bZ (K:=K)) (vv 2) aD (fun _ _=>rfl)) (vv 1) (bI _)) (aG (aN (aK (bZ (K:=K)) (vv 2) aD (fun _ _=>rfl)))) bA))) (aG gY)),?_⟩
 obtain ⟨i0,h0,hf⟩:=aMn hk
 have hi0:i0<us.length:=by rw [hu.len];exact (List.getElem?_eq_some_iff.mp h0).1
 refine ⟨_,rfl,a,rfl,⟨_,ha⟩,aMd (xs:=us) (fun i σ H'=>H'=H∧i≤i0∧∃l,σ=[some (.ref a),some (.str n),l]) ⟨rfl,Nat.zero_le _,_,rfl⟩ (fun i σ H' _ ⟨e,_⟩=>by rw [e];exact ha) ?_ ?_⟩
 ·rintro i x σ H' hx ⟨rfl,hi,l,rfl⟩
  obtain ⟨c,hc,p,rfl,hp⟩:=aZ hu hx
  refine ⟨_,rfl,p,_,0,_,rfl,rfl,hp,at0 _ _,_,rfl,rfl,_,rfl,?_⟩
  by_cases e:i=i0
  ·subst e
   rw [h0] at hc
   cases hc
   rw [decide_eq_true rfl]
   exact eX ⟨_,rfl,p,_,1,_,rfl,rfl,hp,at1 _ _ _,q⟩
  ·have hn:=hf i c (by lia) hc
   rw [decide_eq_false (by intro z;exact hn (V.str.inj z))]
   exact bK ⟨rfl,by lia,_,rfl⟩
 ·rintro σ H' ⟨rfl,hi,_⟩
  lia
def aGc (K:PySem.W.Frag):Sp:=fun vs H Q _=>∃(a b:Addr) (xs:List Str),vs=[.ref a,.ref b]∧SqL K H a (xs.map V.str)∧SqL K H b (xs.map V.str)∧Q .non H
theorem uT (T:Txt w K mg):Ok P w K mg base 1 "need_like_kinds" ["kinds","others"] (aGc K):=by
 refine Ok.ofV T.vJ uC (fun vs H Q E h=>?_) (fun f cdv A outer s H vs Q E hr h=>?_)
 ·obtain ⟨a,b,xs,rfl,_⟩:=h;rfl
 obtain ⟨a,b,xs,rfl,ha,hb,q⟩:=h
 have hu:=yQ hr
 exact ⟨_,(aG (bW (aY (aWg (Nat.lt_of_succ_lt hu)) (vv 0) (vv 1) (bI _)) (aG gY) bA)),⟨_,rfl,_,rfl,a,b,xs,rfl,rfl,ha,hb,_,rfl,bK q⟩⟩
def aD7 (K:PySem.W.Frag):Sp:=fun vs H Q _=>∃(a:Addr) (ss:List Str),vs=[.ref a]∧SqL K H a (ss.map V.str)∧ss.length≤1000∧ss.Nodup∧∀H',Same H H'→Q .non H'
theorem aA5 (T:Txt w K mg) (aD4:Ok P w K mg base 1 "are_unlike" ["names"] (aCh K)):Ok P w K mg base 2 "need_unlike" ["names"] (aD7 K):=by
 refine Ok.ofV T.aB5 aAv (fun vs H Q E h=>?_) (fun f cdv A outer s H vs Q E hr h=>?_)
 ·obtain ⟨a,ss,rfl,_⟩:=h;rfl
 obtain ⟨a,ss,rfl,ha,hl,nd,q⟩:=h
 refine ⟨_,(aG (bW (fK (eO (aO (aD4.mono (by decide)) hr (by rfl) (aB (vv 0) aA)))) (aG gY) bA)),?_⟩
 refine ⟨_,rfl,a,ss,rfl,ha,hl,fun H1 s1=>⟨_,rfl,?_⟩⟩
 rw [decide_eq_true ((aS6 ss).mpr nd)]
 exact bK (q H1 s1)
def aVx:Sp:=fun vs H Q _=>∃d n v kvs,vs=[.ref d,.str n]∧H d=some (.dK kvs)∧jX kvs (Sum.inr n)=some v∧Q v H
theorem aBt (T:Txt w K mg):Ok P w K mg base 1 "table_head" ["heads","name"] aVx:=by
 refine Ok.ofV T.aFt aBl (fun vs H Q E h=>?_) (fun f cdv A outer s H vs Q E hr h=>?_)
 ·obtain ⟨d,n,v,kvs,rfl,_⟩:=h;rfl
 obtain ⟨d,n,v,kvs,rfl,hd,hv,q⟩:=h
 have hu:=yQ hr
 refine ⟨_,(aC (bW (aNz hu (vv 1) (vv 0)) (aG gY) bA) (aG (aN (aMm hu (vv 0) (vv 1) (fun _ _=>rfl))))),?_⟩
 have g:=zB.k (k:=Sum.inr n) hd
 rw [hv] at g
 exact ⟨_,rfl,_,rfl,d,_,rfl,g,_,rfl,bK ⟨_,rfl,_,rfl,d,v,rfl,g,q⟩⟩
def kindS (v:V):Str:=if whole v then "number" else "word"
def aZk (hd:Hdr):Oth→Option Str
 |.val x=>some (kindS x)
 |.col d=>look hd d
def aQg (K:PySem.W.Frag):Sp:=fun vs H Q _=>∃vh u hd o k,vs=[vh,u]∧cZ K H vh hd∧IsO K H u o∧aZk hd o=some k∧Q (.str k) H
theorem aB8 (T:Txt w K mg) (aOw:Ok P w K mg base 2 "kind_of" ["value"] (aMh K)) (fG:Ok P w K mg base 1 "kind_in" ["head","name"] (yH K)):Ok P w K mg base 3 "other_kind" ["head","other"] (aQg K):=by
 refine Ok.ofV T.aEf aB6 (fun vs H Q E h=>?_) (fun f cdv A outer s H vs Q E hr h=>?_)
 ·obtain ⟨vh,u,hd,o,k,rfl,_⟩:=h;rfl
 obtain ⟨vh,u,hd,o,k,rfl,hh,ho,hk,q⟩:=h
 refine ⟨_,(aG (aN (lX (aY dC (aK bH (vv 1) aD (fun _ _=>rfl)) aU (bI _)) (aO (aOw.mono (by decide)) hr (by rfl) (aB (aK bH (vv 1) aD (fun _ _=>rfl)) aA)) (aO (fG.mono (by decide)) hr (by rfl) (aB (vv 0) (aB (aK bH (vv 1) aD (fun _ _=>rfl)) aA)))))),?_⟩
 cases o with
 |val x=>
  obtain ⟨a,rfl,ha,hx,_⟩:=ho
  cases hk
  exact ⟨_,rfl,a,_,0,_,rfl,rfl,ha,at0 _ _,rfl,_,rfl,eX ⟨_,rfl,a,_,1,_,rfl,rfl,ha,at1 _ _ _,x,rfl,hx,q⟩⟩
 |col d=>
  obtain ⟨a,rfl,ha,_⟩:=ho
  exact ⟨_,rfl,a,_,0,_,rfl,rfl,ha,at0 _ _,rfl,_,rfl,bK ⟨_,rfl,_,rfl,a,_,1,_,rfl,rfl,ha,at1 _ _ _,_,_,hd,k,rfl,hh,hk,q⟩⟩
def aSq (hd:Hdr) (t:Tst):Prop:=∃k,look hd t.c=some k∧aZk hd t.o=some k
def aVt (K:PySem.W.Frag):Sp:=fun vs H Q _=>∃vh u hd ts,vs=[vh,u]∧cZ K H vh hd∧oA K H (IsT K H) u ts∧ts.length≤8∧(∀t∈ts,aSq hd t)∧∀H',Same H H'→Q vh H'
theorem kinds_of {α:Type} {p:α→Str→Prop}:∀{ts:List α},(∀t∈ts,∃k,p t k)→∃ks,bM p ts ks
 |[],_=>⟨[],.nil⟩
 |t::r,h=>by
  obtain ⟨k,hk⟩:=h t (List.mem_cons_self ..)
  obtain ⟨ks,hks⟩:=kinds_of (ts:=r) fun u hu=>h u (List.mem_cons_of_mem _ hu)
  exact ⟨k::ks,.cons hk hks⟩
theorem iD {α:Type} {f:α→V} {xs:List α} {i:Nat} {y:V} (h:(xs.map f)[i]?=some y):∃x,xs[i]?=some x∧y=f x:=by
 rw [List.getElem?_map] at h
 cases e:xs[i]? with
 |none=>rw [e] at h;cases h
 |some x=>rw [e] at h;cases h;exact ⟨x,rfl,rfl⟩
theorem aBz (T:Txt w K mg) (iM:Ok P w K mg base 1 "need_like_kinds" ["kinds","others"] (aGc K)) (fG:Ok P w K mg base 1 "kind_in" ["head","name"] (yH K)) (aEa:Ok P w K mg base 3 "other_kind" ["head","other"] (aQg K)) :
  Ok P w K mg base 4 "where_head" ["head","tests"] (aVt K):=by
 refine Ok.ofV T.aEu aBw (fun vs H Q E h=>?_) (fun f cdv A outer s H vs Q E hr h=>?_)
 ·obtain ⟨vh,u,hd,ts,rfl,_⟩:=h;rfl
 obtain ⟨vh,u,hd,ts,rfl,hh,⟨a,us,rfl,ha,hu⟩,hl8,hok,q⟩:=h
 refine ⟨_,(aC (eF (aO (iM.mono (by decide)) hr (by rfl) (aB (bN (N:=["test","head"]) (by trivial) (cO (aF iC) rfl (by decide +kernel)) rfl (eG (vv 1)) (fun cl s' H' fp=>⟨(aL (i:=0) (show (["test","head"]:List Str).Nodup from by decide +kernel) rfl (Or.inl rfl)),bT,(aO (fG.mono (by decide)) hr (by rfl) (aB (vv 1) (aB (aK (bZ (K:=K)) (vv 0) aD (fun _ _=>rfl)) aA)))⟩)) (aB (bN (N:=["test","head"]) (by trivial) (cO (aF iC) rfl (by decide +kernel)) rfl (eG (vv 1)) (fun cl s' H' fp=>⟨(aL (i:=0) (show (["test","head"]:List Str).Nodup from by decide +kernel) rfl (Or.inl rfl)),bT,(aO (aEa.mono (by decide)) hr (by rfl) (aB (vv 1) (aB (aK (bZ (K:=K)) (vv 0) aD (fun _ _=>rfl)) aA)))⟩)) aA)))) (aG (aN (vv 0)))),?_⟩
 obtain ⟨ks,hks⟩:=kinds_of hok
 have l1:=hu.len
 have l2:=hks.len
 dsimp only [mR,aMy,nD,cT]
 refine dZ us (ks.map V.str) (by rw [List.length_map];lia) [none,some vh] ?_ (small (by lia)) (fun R r=>jN ha (fun R' r'=>⟨_,rfl,r'⟩) R r) (fun i x y ex ey H' R l sm r=>?_) rfl fun D1 H1 s1 g1=>?_
 ·exact dO 0 (by decide +kernel) rfl rfl (by trivial)
 ·obtain ⟨t,ht,p,w',rfl,hp,_,_,ho⟩:=aZ hu ex
  obtain ⟨k,hk,rfl⟩:=iD ey
  have hq:=iT hks ht hk
  exact ⟨_,rfl,_,rfl,p,_,0,_,rfl,rfl,sm.aP hp,at0 _ _,_,_,hd,k,rfl,hh.same sm,hq.1,r H' (Same.refl H')⟩
 refine dZ us (ks.map V.str) (by rw [List.length_map];lia) [none,some vh] ?_ (small (by lia)) (fun R r=>jN (s1.aP ha) (fun R' r'=>⟨_,rfl,r'⟩) R r) (fun i x y ex ey H' R l sm r=>?_) rfl fun D2 H2 s2 g2=>?_
 ·exact dO 0 (by decide +kernel) rfl rfl (by trivial)
 ·obtain ⟨t,ht,p,w',rfl,hp,_,_,ho⟩:=aZ hu ex
  obtain ⟨k,hk,rfl⟩:=iD ey
  have hq:=iT hks ht hk
  exact ⟨_,rfl,_,rfl,p,_,2,_,rfl,rfl,sm.aP (s1.aP hp),at2 _ _ _ _,_,_,hd,t.o,k,rfl,hh.same (s1.trans sm),ho.same (s1.trans sm),hq.2,r H' (Same.refl H')⟩
 exact ⟨D1,D2,ks,rfl,SqL.of (s2 _ _ g1),SqL.of g2,⟨_,rfl,q H2 (s1.trans s2)⟩⟩
def aQk (K:PySem.W.Frag) (H:Hp) (v:V) (ns:List Str):Prop:=∃a,v=.ref a∧(SqL K H a (ns.map V.str)∨SqT K H a (ns.map V.str))
theorem aRm {lo hi:Nat} {H:Hp} {v:V} {ns:List Str} (h:lH gA lo hi K H v ns):aQk K H v ns:=by
 obtain ⟨⟨a,us,rfl,ha,hr⟩,_⟩:=h
 rw [aNq hr] at ha
 exact ⟨a,rfl,.inr ha⟩
def Looks (hd:Hdr) (ns ks:List Str):Prop:=bM (fun n k=>look hd n=some k) ns ks
def aMz (K:PySem.W.Frag):Sp:=fun vs H Q _=>∃vh u hd ns ks,vs=[vh,u]∧cZ K H vh hd∧aQk K H u ns∧ns.length≤1000∧Looks hd ns ks∧∀v H',Same H H'→cZ K H' v (ns.zip ks)→Q v H'
theorem aXq {K:PySem.W.Frag} {a:Addr} {xs:List V} {tl:TE} {σ:L2.St} {H:Hp} (hS:SqL K H a xs∨SqT K H a xs) (h:∀R:VK,R (.ref a) H→tl σ H R) (R:It→Hp→Prop)
  (q:∀J:It,(∀H' i x,Same H H'→xs[i]?=some x→J.go i H'∧∀y H2,J.yld i H' y H2→H2=H'∧y=x)→(∀H',Same H H'→J.stop xs.length H')→R J H):sY K tl σ H R∨aJ9 K tl σ H R:=by
 rcases hS with hS|hS
 ·exact .inl (lJ (fun H' sm=>sm.seq hS) h R q)
 ·exact .inr (jN hS h R q)
def eZ (K:PySem.W.Frag) (cs:Hdr):Nat→Hp→V→Prop:=fun i H y=>∃c p,cs[i]?=some c∧y=.ref p∧H p=some (.tup [.str c.1,.str c.2])
theorem eZ.st {cs:Hdr} {i:Nat} {H1 H2:Hp} {y:V} (e:Same H1 H2) (h:eZ K cs i H1 y):eZ K cs i H2 y:=by
 obtain ⟨c,p,h1,h2,h3⟩:=h
 exact ⟨c,p,h1,h2,e _ _ h3⟩
theorem eZ.su {cs:Hdr} {i:Nat} {H1:Hp} {D:Addr} {ys zs:List V} {y:V} (hD:H1 D=some (.lst ys)) (h:eZ K cs i H1 y):eZ K cs i (upd H1 D (.lst zs)) y:=by
 obtain ⟨c,p,h1,h2,h3⟩:=h
 exact ⟨c,p,h1,h2,by rw [aV (sW h3 hD (by intro z;cases z))];exact h3⟩
theorem zR {cs:Hdr} {H:Hp} {a:Addr} {ys:List V} (ha:SqT K H a ys) (hl:ys.length=cs.length) (h:∀(i:Nat) (y:V),ys[i]?=some y→eZ K cs i H y):cZ K H (.ref a) cs:=by
 refine ⟨a,ys,rfl,ha,aEj hl fun i y c e1 e2=>?_⟩
 obtain ⟨c',p,h1,h2,h3⟩:=h i y e1
 rw [e2] at h1
 cases h1
 exact ⟨p,h2,SqT.of h3⟩
theorem aLz {ns ks:List Str} {i:Nat} {n k:Str} (h1:ns[i]?=some n) (h2:ks[i]?=some k):(ns.zip ks)[i]?=some (n,k):=by
 rw [List.zip,List.getElem?_zipWith,h1,h2]
theorem aF3 (T:Txt w K mg) (fG:Ok P w K mg base 1 "kind_in" ["head","name"] (yH K)):Ok P w K mg base 2 "keep_head" ["head","names"] (aMz K):=by
 refine Ok.ofV T.aH0 aE7 (fun vs H Q E h=>?_) (fun f cdv A outer s H vs Q E hr h=>?_)
 ·obtain ⟨vh,u,hd,ns,ks,rfl,_⟩:=h;rfl
 obtain ⟨vh,u,hd,ns,ks,rfl,hh,⟨a,rfl,ha⟩,hl,hk,q⟩:=h
 refine ⟨_,(aG (aN (bO cC (by rfl) T.cL cB (aB (bN (N:=["name","head"]) (by trivial) (cO (aF mX) rfl (by decide +kernel)) rfl (aW8 (vv 1)) (fun cl s' H' fp=>⟨(aL (i:=0) (show (["name","head"]:List Str).Nodup from by decide +kernel) rfl (Or.inl rfl)),bT,(bY (aB (vv 0) (aB (aO (fG.mono (by decide)) hr (by rfl) (aB (vv 1) (aB (vv 0) aA))) aA)))⟩)) aA)))),?_⟩
 have hln:=hk.len
 dsimp only [zK,tCB,cT]
 refine sJ (ns.map V.str) (eZ K (ns.zip ks)) eZ.st eZ.su [none,some vh] ?_ (small (by rw [List.length_map];exact hl)) (fun R r=>aXq ha (fun R' r'=>⟨_,rfl,r'⟩) R r) (fun i x ex H' R l sm r=>?_) rfl fun D H' ys sm hD hly hR=>?_
 ·exact dO 0 (by decide +kernel) rfl rfl (by trivial)
 ·obtain ⟨n,hn,rfl⟩:=iD ex
  obtain ⟨k,hkk,hlk⟩:=aZ hk hn
  exact ⟨_,rfl,_,rfl,_,rfl,_,_,hd,k,rfl,hh.same sm,hlk,(by show 2≤sizeLine;decide),fun p H2 _ s2 g2=>r _ _ s2 ⟨(n,k),p,aLz hn hkk,rfl,g2⟩⟩
 ·refine ⟨D,_,rfl,SqL.of hD,fun t H2 _ s2 g2=>q _ _ (sm.trans s2) (zR (SqT.of g2) ?_ fun i y e=>(hR i y e).st s2)⟩
  rw [hly,List.length_map,List.length_zip]
  lia
def aQd (K:PySem.W.Frag):Sp:=fun vs H Q _=>∃vh u hd ns,vs=[vh,u]∧cZ K H vh hd∧(∃a,u=.ref a∧SqT K H a (ns.map V.str))∧ns.length≤1000∧ns.length=hd.length∧∀v H',Same H H'→cZ K H' v (List.zipWith (fun n c=>(n,c.2)) ns hd)→Q v H'
theorem aCb (T:Txt w K mg):Ok P w K mg base 1 "named_head" ["head","names"] (aQd K):=by
 refine Ok.ofV T.aE0 aBi (fun vs H Q E h=>?_) (fun f cdv A outer s H vs Q E hr h=>?_)
 ·obtain ⟨vh,u,hd,ns,rfl,_⟩:=h;rfl
 obtain ⟨vh,u,hd,ns,rfl,⟨b,us,rfl,hb,hu⟩,⟨a,rfl,ha⟩,hl,hle,q⟩:=h
 refine ⟨_,(aC (bW (aY yJ (aR bC (by rfl) T.eY cP (aB (vv 1) aA)) (aR bC (by rfl) T.eY cP (aB (vv 0) aA)) (bI _)) (aG gY) bA) (aG (aN (bO cC (by rfl) T.cL cB (aB (bN (N:=["name","column"]) (by trivial) (cY (by decide +kernel)) rfl (aF5 (by rfl) T.aRt (aB (vv 1) (aB (vv 0) aA))) (fun cl s' H' fp=>⟨(jP (K:=K) (n:=2) rfl (bL (aL (i:=0) (show (["name","column"]:List Str).Nodup from by decide +kernel) rfl (Or.inl rfl)) (bL (aL (i:=1) (show (["name","column"]:List Str).Nodup from by decide +kernel) rfl (Or.inl rfl)) eQ))),bT,(bY (aB (vv 0) (aB (aK (bZ (K:=K)) (vv 1) aD (fun _ _=>rfl)) aA)))⟩)) aA))))),?_⟩
 have hlu:=hu.len
 refine ⟨_,rfl,_,_,rfl,.inr ha,_,rfl,_,_,rfl,.inr hb,rfl,_,rfl,?_⟩
 have e:(!decide (V.int ((ns.map V.str).length:Nat)=V.int (us.length:Nat)))=false:=by rw [List.length_map,hle,hlu];simp
 rw [e]
 refine bK ?_
 dsimp only [yN,zK,tCB,cT]
 refine aNs (ns.map V.str) us (eZ K (List.zipWith (fun n c=>(n,c.2)) ns hd)) eZ.st eZ.su [none,none] lK (small (by rw [List.length_map];exact hl)) (by rw [List.length_map];lia) (fun R r=>⟨_,rfl,_,rfl,r a b H (Same.refl H) ha hb⟩) (fun i x y ex ey H' R l1 l2 sm r=>?_) rfl rfl fun D H' zs sm hD hlz hR=>?_
 ·obtain ⟨n,hn,rfl⟩:=iD ex
  obtain ⟨c,hc,p,rfl,hp⟩:=aZ hu ey
  refine ⟨_,rfl,_,rfl,p,_,1,_,rfl,rfl,sm.aP hp,at1 _ _ _,(by show 2≤sizeLine;decide),fun t H2 _ s2 g2=>r _ _ s2 ⟨(n,c.2),t,?_,rfl,g2⟩⟩
  rw [List.getElem?_zipWith,hn,hc]
 ·refine ⟨D,_,rfl,SqL.of hD,fun t H2 _ s2 g2=>q _ _ (sm.trans s2) (zR (SqT.of g2) ?_ fun i y e=>(hR i y e).st s2)⟩
  rw [hlz,List.length_map,List.length_zipWith]
  lia
def aVq (K:PySem.W.Frag):Sp:=fun vs H Q _=>∃vh vo u hd ho ps ks,vs=[vh,vo,u]∧cZ K H vh hd∧cZ K H vo ho∧oA K H (jW K H) u ps∧ps.length≤8∧hd.length≤100∧ho.length≤100∧bM (fun p k=>look hd p.1=some k∧look ho p.2=some k) ps ks∧(ps.map (·.1)).Nodup∧(ps.map (·.2)).Nodup ∧
 ∀v H',Same H H'→cZ K H' v (hd++ho.filter fun c=>!decide (c.1∈ps.map (·.2)))→Q v H'
theorem wD {n:Str} {ss:List Str}:inV (.str n) (ss.map V.str)=decide (n∈ss):=by
 unfold inV
 rw [Bool.eq_iff_iff,List.any_eq_true,decide_eq_true_eq]
 constructor
 ·rintro ⟨v,hv,e⟩
  obtain ⟨z,hz,rfl⟩:=List.mem_map.mp hv
  have e2:(z == n)=true:=e
  have e3:z=n:=by simpa using e2
  rw [←e3];exact hz
 ·intro h
  refine ⟨.str n,List.mem_map.mpr ⟨n,h,rfl⟩,?_⟩
  show (n == n)=true
  simp
theorem aAo {ss:List Str}:(ss.map V.str).all kW=true:=by
 rw [List.all_eq_true]
 intro v hv
 obtain ⟨z,_,rfl⟩:=List.mem_map.mp hv
 rfl
theorem uE {α:Type} {p:Nat→Bool} {p':α→Bool}:∀{k:Nat} {xs:List α},(∀(i:Nat) (x:α),xs[i]?=some x→p (k+i)=p' x)→sel p k xs=xs.filter p'
 |_,[],_=>rfl
 |k,x::r,h=>by
  have h0:=h 0 x rfl
  rw [Nat.add_zero] at h0
  show (if p k then x::sel p (k+1) r else sel p (k+1) r)=_
  rw [List.filter_cons,h0,uE (k:=k+1) (xs:=r) fun i y e=>by rw [show k+1+i=k+(i+1) by lia];exact h (i+1) y (by simpa using e)]
theorem aP1 {α β:Type} {R:α→β→Prop} {p:Nat→Bool} {as:List α} {bs:List β} (h:bM R as bs):∀k,bM R (sel p k as) (sel p k bs):=by
 induction h with
 |nil=>exact fun _=>.nil
 |@cons a b as bs r _ ih=>
  intro k
  show bM R (if p k then a::sel p (k+1) as else sel p (k+1) as) (if p k then b::sel p (k+1) bs else sel p (k+1) bs)
  split
  ·exact .cons r (ih _)
  ·exact ih _
def aC0 (ho:Hdr) (ss:List Str) (i:Nat):Bool:=match ho[i]? with
 |some c=>!decide (c.1∈ss)
 |none=>false
theorem aFm (T:Txt w K mg) (iM:Ok P w K mg base 1 "need_like_kinds" ["kinds","others"] (aGc K)) (fG:Ok P w K mg base 1 "kind_in" ["head","name"] (yH K)) (eH:Ok P w K mg base 2 "need_unlike" ["names"] (aD7 K)) :
  Ok P w K mg base 3 "join_head" ["head","other","pairs"] (aVq K):=by
 refine Ok.ofV T.aHg pQ (fun vs H Q E h=>?_) (fun f cdv A outer s H vs Q E hr h=>?_)
 ·obtain ⟨vh,vo,u,hd,ho,ps,ks,rfl,_⟩:=h;rfl
 obtain ⟨vh,vo,u,hd,ho,ps,ks,rfl,hh,hho,⟨a,us,rfl,ha,hu⟩,hl8,hl1,hl2,hks,nd1,nd2,q⟩:=h
 refine ⟨_,(aC (lB (i0:=3) pQ.nd rfl (by trivial) (N:=["pair"]) (by trivial) (cY (by decide +kernel)) rfl (eG (vv 2)) (fun cl s' H' fp=>⟨(aL (i:=0) (show (["pair"]:List Str).Nodup from by decide +kernel) rfl (Or.inl rfl)),bT,(aK (bZ (K:=K)) (vv 0) aD (fun _ _=>rfl))⟩)) (aC (aW (i:=4) pQ.nd rfl (by trivial) (bN (N:=["pair"]) (by trivial) (cY (by decide +kernel)) rfl (eG (vv 2)) (fun cl s' H' fp=>⟨(aL (i:=0) (show (["pair"]:List Str).Nodup from by decide +kernel) rfl (Or.inl rfl)),bT,(aK (bZ (K:=K)) (vv 0) aD (fun _ _=>rfl))⟩))) (aC (eF (aO (iM.mono (by decide)) hr (by rfl) (aB (bN (N:=["name","head"]) (by trivial) (cO (aF gR) rfl (by decide +kernel)) rfl (cV (vv 3)) (fun cl s' H' fp=>⟨(aL (i:=0) (show (["name","head"]:List Str).Nodup from by decide +kernel) rfl (Or.inl rfl)),bT,(aO (fG.mono (by decide)) hr (by rfl) (aB (vv 1) (aB (vv 0) aA)))⟩)) (aB (bN (N:=["name","other"]) (by trivial) (cO (aF gR) rfl (by decide +kernel)) rfl (cV (vv 4)) (fun cl s' H' fp=>⟨(aL (i:=0) (show (["name","other"]:List Str).Nodup from by decide +kernel) rfl (Or.inl rfl)),bT,(aO (fG.mono (by decide)) hr (by rfl) (aB (vv 1) (aB (vv 0) aA)))⟩)) aA)))) (aC (eF (aO (eH.mono (by decide)) hr (by rfl) (aB (vv 3) aA))) (aC (eF (aO (eH.mono (by decide)) hr (by rfl) (aB (vv 4) aA))) (aG (aN (cD rW (vv 0) (bO cC (by rfl) T.cL cB (aB (bN (N:=["column","there"]) (by trivial) (cO (aF gR) rfl (by decide +kernel)) rfl (eG (vv 1)) (fun cl s' H' fp=>⟨(aL (i:=0) (show (["column","there"]:List Str).Nodup from by decide +kernel) rfl (Or.inl rfl)),(aA4 (aY (gG (K:=K)) (aK (bZ (K:=K)) (vv 0) aD (fun _ _=>rfl)) (vv 1) (by with_unfolding_all rfl))),(vv 0)⟩)) aA)))))))))),?_⟩
 have lu:=hu.len
 have lk:=hks.len
 dsimp only [mR,mO]
 refine dZ us ((ps.map (·.1)).map V.str) (by rw [List.length_map,List.length_map];lia) [none] fH (small (by lia)) (fun R r=>jN ha (fun R' r'=>⟨_,rfl,r'⟩) R r) (fun i x y ex ey H' R l sm r=>?_) rfl fun D1 H1 s1 g1=>?_
 ·obtain ⟨p,hp,b,rfl,hb,_⟩:=aZ hu ex
  obtain ⟨n,hn,rfl⟩:=iD ey
  rw [List.getElem?_map,hp] at hn
  cases hn
  exact ⟨_,rfl,b,_,0,_,rfl,rfl,sm.aP hb,at0 _ _,r H' (Same.refl H')⟩
 dsimp only [bQ,mR,mO]
 refine dZ us ((ps.map (·.2)).map V.str) (by rw [List.length_map,List.length_map];lia) [none] fH (small (by lia)) (fun R r=>jN (s1.aP ha) (fun R' r'=>⟨_,rfl,r'⟩) R r) (fun i x y ex ey H' R l sm r=>?_) rfl fun D2 H2 s2 g2=>?_
 ·obtain ⟨p,hp,b,rfl,hb,_⟩:=aZ hu ex
  obtain ⟨n,hn,rfl⟩:=iD ey
  rw [List.getElem?_map,hp] at hn
  cases hn
  exact ⟨_,rfl,b,_,1,_,rfl,rfl,sm.aP (s1.aP hb),at1 _ _ _,r H' (Same.refl H')⟩
 dsimp only [bQ,mR,mO,aMy,nD,cT]
 refine dZ ((ps.map (·.1)).map V.str) (ks.map V.str) (by rw [List.length_map,List.length_map,List.length_map];lia) [none,some vh] ?_ (small (by rw [List.length_map,List.length_map];lia)) (fun R r=>lJ (fun H' sm=>SqL.of (sm _ _ (s2 _ _ g1))) (fun R' r'=>⟨_,rfl,r'⟩) R r) (fun i x y ex ey H' R l sm r=>?_) rfl fun D3 H3 s3 g3=>?_
 ·exact dO 0 (by decide +kernel) rfl rfl (by trivial)
 ·obtain ⟨n,hn,rfl⟩:=iD ex
  obtain ⟨k,hk,rfl⟩:=iD ey
  obtain ⟨p,hp,rfl⟩:∃p,ps[i]?=some p∧n=p.1:=by
   rw [List.getElem?_map] at hn
   cases e:ps[i]? with
   |none=>rw [e] at hn;cases hn
   |some p=>rw [e] at hn;cases hn;exact ⟨p,rfl,rfl⟩
  exact ⟨_,rfl,_,rfl,_,_,hd,k,rfl,hh.same (s1.trans (s2.trans sm)),(iT hks hp hk).1,r H' (Same.refl H')⟩
 refine dZ ((ps.map (·.2)).map V.str) (ks.map V.str) (by rw [List.length_map,List.length_map,List.length_map];lia) [none,some vo] ?_ (small (by rw [List.length_map,List.length_map];lia)) (fun R r=>lJ (fun H' sm=>SqL.of (sm _ _ (s3 _ _ g2))) (fun R' r'=>⟨_,rfl,r'⟩) R r) (fun i x y ex ey H' R l sm r=>?_) rfl fun D4 H4 s4 g4=>?_
 ·exact dO 1 (by decide +kernel) rfl rfl (by trivial)
 ·obtain ⟨n,hn,rfl⟩:=iD ex
  obtain ⟨k,hk,rfl⟩:=iD ey
  obtain ⟨p,hp,rfl⟩:∃p,ps[i]?=some p∧n=p.2:=by
   rw [List.getElem?_map] at hn
   cases e:ps[i]? with
   |none=>rw [e] at hn;cases hn
   |some p=>rw [e] at hn;cases hn;exact ⟨p,rfl,rfl⟩
  exact ⟨_,rfl,_,rfl,_,_,ho,k,rfl,hho.same (s1.trans (s2.trans (s3.trans sm))),(iT hks hp hk).2,r H' (Same.refl H')⟩
 refine ⟨D3,D4,ks,rfl,SqL.of (s4 _ _ g3),SqL.of g4,?_⟩
 have t4:=s1.trans (s2.trans (s3.trans s4))
 refine ⟨_,rfl,D1,_,rfl,SqL.of ((s2.trans (s3.trans s4)) _ _ g1),(by rw [List.length_map];lia),nd1,fun H5 s5=>?_⟩
 refine ⟨_,rfl,D2,_,rfl,SqL.of ((s3.trans (s4.trans s5)) _ _ g2),(by rw [List.length_map];lia),nd2,fun H6 s6=>?_⟩
 have t6:=t4.trans (s5.trans s6)
 have g6:=(s3.trans (s4.trans (s5.trans s6))) _ _ g2
 obtain ⟨b,ws,rfl,hb,hw⟩:=hho
 obtain ⟨c,zs,rfl,hc,hz⟩:=hh
 have lw:=hw.len
 have lz:=hz.len
 refine ⟨_,rfl,?_⟩
 dsimp only [mR,tCB,cT]
 refine aRi ws (aC0 ho (ps.map (·.2))) [none,some (.ref D2)] ?_ (small (by lia)) (fun R r=>jN (t6.aP hb) (fun R' r'=>⟨_,rfl,r'⟩) R r) (fun i x ex H' R l sm r=>?_) rfl fun D7 H7 s7 g7=>?_
 ·exact dO 4 (by decide +kernel) rfl rfl (by trivial)
 ·obtain ⟨d,hd',p,rfl,hp⟩:=aZ hw ex
  refine ⟨_,rfl,p,_,0,_,rfl,rfl,sm.aP (t6.aP hp),at0 _ _,_,rfl,D2,_,rfl,.inl (SqL.of (sm _ _ g6)),rfl,aAo,_,rfl,?_⟩
  have e:aC0 ho (ps.map (·.2)) i=!decide (d.1∈ps.map (·.2)):=by unfold aC0;rw [hd']
  rw [wD]
  rw [e] at r
  exact r H' (Same.refl H')
 refine ⟨D7,_,rfl,SqL.of g7,fun t H8 _ s8 g8=>?_⟩
 have t8:=t6.trans (s7.trans s8)
 have lsel:=vY (aC0 ho (ps.map (·.2))) 0 ws
 refine ⟨c,t,_,_,rfl,rfl,t8.aP hc,SqT.of g8,small (by lia),fun r H9 s9 g9=>?_⟩
 refine q _ _ (t8.trans s9) ⟨r,_,rfl,g9,(hz.imp fun _ _ h=>h.same (t8.trans s9)).app ?_⟩
 have e:sel (aC0 ho (ps.map (·.2))) 0 ho=ho.filter fun c=>!decide (c.1∈ps.map (·.2)):=uE fun i x ex=>by
  unfold aC0
  rw [Nat.zero_add,ex]
 rw [←e]
 exact (aP1 hw 0).imp fun _ _ h=>h.same (t8.trans s9)
def smK (hd:Hdr) (s:Sm):Option Str:=match s.c with
 |none=>some "number"
 |some c=>look hd c
def aVh (K:PySem.W.Frag):Sp:=fun vs H Q _=>∃vh u hd s k,vs=[vh,u]∧cZ K H vh hd∧yG K H u s∧smK hd s=some k∧Q (.str k) H
theorem aYo {x:Str} (h:aY5 x):decide (V.str x=V.str "count")=false:=by
 rcases h with rfl|rfl|rfl <;> decide +kernel
theorem aG9 (T:Txt w K mg) (fG:Ok P w K mg base 1 "kind_in" ["head","name"] (yH K)):Ok P w K mg base 2 "sum_kind" ["head","part"] (aVh K):=by
 refine Ok.ofV T.aKx aJc (fun vs H Q E h=>?_) (fun f cdv A outer s H vs Q E hr h=>?_)
 ·obtain ⟨vh,u,hd,s,k,rfl,_⟩:=h;rfl
 obtain ⟨vh,u,hd,sm,k,rfl,hh,⟨a,rfl,hn,hs⟩,hk,q⟩:=h
 refine ⟨_,(aG (aN (lX (aY dC (aK bH (vv 1) aD (fun _ _=>rfl)) aU (bI _)) aU (aO (fG.mono (by decide)) hr (by rfl) (aB (vv 0) (aB (aK bH (vv 1) aD (fun _ _=>rfl)) aA)))))),?_⟩
 rcases hs with ⟨e,ec,ha⟩|⟨c,ec,hc,hw,ha⟩
 ·have ek:k = "number":=by
   unfold smK at hk
   rw [ec] at hk
   exact (Option.some.inj hk).symm
  subst ek
  exact ⟨_,rfl,a,_,0,_,rfl,rfl,ha,at0 _ _,rfl,_,rfl,eX q⟩
 ·have hk':look hd c=some k:=by
   unfold smK at hk
   rw [ec] at hk
   exact hk
  refine ⟨_,rfl,a,_,0,_,rfl,rfl,ha,at0 _ _,rfl,_,rfl,?_⟩
  rw [aYo hw]
  exact bK ⟨_,rfl,_,rfl,a,_,1,_,rfl,rfl,ha,at1 _ _ _,_,_,hd,k,rfl,hh,hk',q⟩
theorem aVg {H:Hp} {u:V} {s:Sm} (h:yG K H u s):∃a x,u=.ref a∧SqT K H a [.str s.wd,x,.str s.new]:=by
 obtain ⟨a,rfl,hn,hs⟩:=h
 rcases hs with ⟨e,ec,ha⟩|⟨c,ec,hc,hw,ha⟩
 ·exact ⟨a,_,rfl,by rw [e];exact ha⟩
 ·exact ⟨a,_,rfl,ha⟩
def aPv (hd:Hdr) (ss:List Sm) (js:List Str):Prop:=bM (fun s j=>smK hd s=some j∧(s.wd = "sum"→j≠"word")) ss js
def aVz (K:PySem.W.Frag):Sp:=fun vs H Q _=>∃vh u x hd ns ss ks js,vs=[vh,u,x]∧cZ K H vh hd∧aQk K H u ns∧ns.length≤100∧oA K H (yG K H) x ss∧ss.length≤100∧Looks hd ns ks∧aPv hd ss js ∧
 ∀v H',Same H H'→cZ K H' v (ns.zip ks++(ss.map Sm.new).zip js)→Q v H'
theorem aBy (T:Txt w K mg) (kJ:Ok P w K mg base 2 "keep_head" ["head","names"] (aMz K)) (aLd:Ok P w K mg base 2 "sum_kind" ["head","part"] (aVh K)):Ok P w K mg base 3 "group_head" ["head","names","sums"] (aVz K):=by
 refine Ok.ofV T.aF2 gB (fun vs H Q E h=>?_) (fun f cdv A outer s H vs Q E hr h=>?_)
 ·obtain ⟨vh,u,x,hd,ns,ss,ks,js,rfl,_⟩:=h;rfl
 obtain ⟨vh,u,x,hd,ns,ss,ks,js,rfl,hh,hns,hl,⟨a,us,rfl,ha,hu⟩,hl2,hks,hjs,q⟩:=h
 refine ⟨_,(aC (aW (i:=3) gB.nd rfl (by trivial) (aO (kJ.mono (by decide)) hr (by rfl) (aB (vv 0) (aB (vv 1) aA)))) (aC (aW (i:=4) gB.nd rfl (by trivial) (bO cC (by rfl) T.cL cB (aB (bN (N:=["part","head"]) (by trivial) (cO (aF lF) rfl (by decide +kernel)) rfl (eG (vv 2)) (fun cl s' H' fp=>⟨(aL (i:=0) (show (["part","head"]:List Str).Nodup from by decide +kernel) rfl (Or.inl rfl)),bT,(bY (aB (aK (bZ (K:=K)) (vv 0) aD (fun _ _=>rfl)) (aB (aO (aLd.mono (by decide)) hr (by rfl) (aB (vv 1) (aB (vv 0) aA))) aA)))⟩)) aA))) (aC (fQ PassesOwn.never rfl (aF5 (by rfl) T.aRt (aB (vv 2) (aB (vv 4) aA))) (tW rfl (bL (aL (i:=5) gB.nd rfl (by trivial)) (bL (aL (i:=6) gB.nd rfl (by trivial)) eQ))) (aG (bW (VW.pt (aJx (aY dC (aK bH (vv 5) aD (fun _ _=>rfl)) aU (bI _)) (aEw (aY dC (aK bH (vv 6) aD (fun _ _=>rfl)) aU (bI _))))) (aG gY) bA))) (aG (aN (cD rW (vv 3) (vv 4))))))),?_⟩
 have lu:=hu.len
 have lj:=hjs.len
 have lk:=hks.len
 refine ⟨_,rfl,_,rfl,vh,u,hd,ns,ks,rfl,hh,hns,by lia,hks,fun kept H1 s1 hkept=>?_⟩
 dsimp only [bQ,mR,mO,tCB,cT]
 refine sJ us (eZ K ((ss.map Sm.new).zip js)) eZ.st eZ.su [none,some vh] ?_ (small (by lia)) (fun R r=>jN (s1.aP ha) (fun R' r'=>⟨_,rfl,r'⟩) R r) (fun i y ey H' R l sm r=>?_) rfl fun D H2 ys s2 hD hly hR=>?_
 ·exact dO 0 (by decide +kernel) rfl rfl (by trivial)
 ·obtain ⟨p,hp,hsm⟩:=aZ hu ey
  obtain ⟨j,hj,hjk,_⟩:=aZ hjs hp
  obtain ⟨b,z,rfl,hb⟩:=aVg hsm
  refine ⟨_,rfl,b,_,2,_,rfl,rfl,sm.aP (s1.aP hb),at2 _ _ _ _,_,rfl,_,rfl,_,_,hd,p,j,rfl,hh.same (s1.trans sm),hsm.same (s1.trans sm),hjk,(by show 2≤sizeLine;decide),fun t H3 _ s3 g3=>r _ _ s3 ⟨(p.new,j),t,aLz (by rw [List.getElem?_map,hp];rfl) hj,rfl,g3⟩⟩
 refine ⟨D,_,rfl,SqL.of hD,fun t H3 _ s3 g3=>?_⟩
 have lz:((ss.map Sm.new).zip js).length=ss.length:=by rw [List.length_zip,List.length_map];lia
 have hmade:cZ K H3 (.ref t) ((ss.map Sm.new).zip js):=zR (SqT.of g3) (by rw [hly,lz];exact lu) fun i y e=>(hR i y e).st s3
 have t3:=s1.trans (s2.trans s3)
 dsimp only [bQ,mR]
 refine ⟨_,rfl,_,rfl,a,t,us,ys,rfl,t3.aP ha,SqT.of g3,aUy (fun i σ H'=>Same H3 H'∧∃l5 l6,σ=[some vh,some u,some (.ref a),some kept,some (.ref t),l5,l6]) (by rw [hly]) ⟨Same.refl _,_,_,rfl⟩ (fun i σ H' _ ⟨e,_⟩=>⟨e.aP (t3.aP ha),e.aP (SqT.of g3)⟩) ?_ ?_⟩
 ·rintro i σ H' x y Tp H'' ex ey ⟨sm,l5,l6,rfl⟩ hT rfl
  have s4:Same H' (upd H' Tp (.tup [x,y])):=bF hT _
  have t4:=sm.trans s4
  obtain ⟨p,hp,hsm⟩:=aZ hu ex
  obtain ⟨j,hj,hjk,hjw⟩:=aZ hjs hp
  obtain ⟨b,z,rfl,hb⟩:=aVg hsm
  obtain ⟨c,p2,e1,rfl,g5⟩:=hR i y ey
  have ec:c=(p.new,j):=by
   rw [aLz (n:=p.new) (k:=j) (by rw [List.getElem?_map,hp];rfl) hj] at e1
   exact (Option.some.inj e1).symm
  subst ec
  refine ⟨Tp,_,rfl,SqT.of aH,rfl,_,_,rfl,_,_,rfl,rfl,?_⟩
  refine ⟨_,rfl,b,_,0,_,rfl,rfl,t4.aP (t3.aP hb),at0 _ _,rfl,_,rfl,?_⟩
  refine aBh (fun cs=>?_) (fun cs=>bK ⟨t4,_,_,rfl⟩)
  have ew:p.wd = "sum":=V.str.inj (of_decide_eq_true cs)
  refine ⟨_,rfl,p2,_,1,_,rfl,rfl,SqT.of (t4 _ _ (s3 _ _ g5)),at1 _ _ _,rfl,_,rfl,?_⟩
  rw [decide_eq_false (by intro zz;exact hjw ew (V.str.inj zz))]
  exact bK ⟨t4,_,_,rfl⟩
 ·rintro σ H' ⟨sm,l5,l6,rfl⟩
  obtain ⟨c,zs,rfl,hc,hz⟩:=hkept
  obtain ⟨c2,zs2,e2,hc2,hz2⟩:=hmade
  cases e2
  have l1:=hz.len
  have l2:=hz2.len
  have l3:(ns.zip ks).length≤100:=by rw [List.length_zip];lia
  refine ⟨_,rfl,_,rfl,c,t,_,_,rfl,rfl,(s2.trans (s3.trans sm)).aP hc,sm.aP hc2,small (by lia),fun r H5 s5 g5=>?_⟩
  refine q _ _ (t3.trans (sm.trans s5)) ⟨r,_,rfl,g5,(hz.imp fun _ _ h=>h.same (s2.trans (s3.trans (sm.trans s5)))).app (hz2.imp fun _ _ h=>h.same (sm.trans s5))⟩
def aVi (K:PySem.W.Frag):Sp:=fun vs H Q _=>∃vh u hd ps ks,vs=[vh,u]∧cZ K H vh hd∧oA K H (aAk K H) u ps∧ps.length≤100∧Looks hd (ps.map (·.1)) ks∧(ps.map (·.1)).Nodup∧∀H',Same H H'→Q vh H'
theorem aBk (T:Txt w K mg) (kJ:Ok P w K mg base 2 "keep_head" ["head","names"] (aMz K)) (eH:Ok P w K mg base 2 "need_unlike" ["names"] (aD7 K)):Ok P w K mg base 3 "first_head" ["head","keys"] (aVi K):=by
 refine Ok.ofV T.aD2 tH (fun vs H Q E h=>?_) (fun f cdv A outer s H vs Q E hr h=>?_)
 ·obtain ⟨vh,u,hd,ps,ks,rfl,_⟩:=h;rfl
 obtain ⟨vh,u,hd,ps,ks,rfl,hh,⟨a,us,rfl,ha,hu⟩,hl,hks,nd,q⟩:=h
 refine ⟨_,(aC (lB (i0:=2) tH.nd rfl (by trivial) (N:=["key"]) (by trivial) (cY (by decide +kernel)) rfl (eG (vv 1)) (fun cl s' H' fp=>⟨(aL (i:=0) (show (["key"]:List Str).Nodup from by decide +kernel) rfl (Or.inl rfl)),bT,(aK (bZ (K:=K)) (vv 0) aD (fun _ _=>rfl))⟩)) (aC (eF (aO (kJ.mono (by decide)) hr (by rfl) (aB (vv 0) (aB (vv 2) aA)))) (aC (eF (aO (eH.mono (by decide)) hr (by rfl) (aB (vv 2) aA))) (aG (aN (vv 0)))))),?_⟩
 have lu:=hu.len
 dsimp only [bQ,mR,mO]
 refine dZ us ((ps.map (·.1)).map V.str) (by rw [List.length_map,List.length_map];lia) [none] fH (small (by lia)) (fun R r=>jN ha (fun R' r'=>⟨_,rfl,r'⟩) R r) (fun i x y ex ey H' R l sm r=>?_) rfl fun D1 H1 s1 g1=>?_
 ·obtain ⟨p,hp,b,rfl,hb,_⟩:=aZ hu ex
  obtain ⟨n,hn,rfl⟩:=iD ey
  rw [List.getElem?_map,hp] at hn
  cases hn
  exact ⟨_,rfl,b,_,0,_,rfl,rfl,sm.aP hb,at0 _ _,r H' (Same.refl H')⟩
 refine ⟨_,rfl,_,rfl,vh,_,hd,_,ks,rfl,hh.same s1,⟨D1,rfl,.inl (SqL.of g1)⟩,by rw [List.length_map];lia,hks,fun v H2 s2 _=>?_⟩
 refine ⟨_,rfl,D1,_,rfl,SqL.of (s2 _ _ g1),by rw [List.length_map];lia,nd,fun H3 s3=>?_⟩
 exact ⟨_,rfl,q H3 (s1.trans (s2.trans s3))⟩
def Good (hd:Hdr):Prop:=(hd.map (·.1)).Nodup∧1≤hd.length∧hd.length≤8
inductive HH (hs:Str→Option Hdr):Qn→List Hdr→Hdr→Prop
 |table {T hd}:hs T=some hd→HH hs (.table T) [] hd
 |whr {q ts hd}:(∀t∈ts,aSq hd t)→HH hs (.whr q ts) [hd] hd
 |keep {q ns hd ks}:Looks hd ns ks→HH hs (.keep q ns) [hd] (ns.zip ks)
 |nmd {q ns hd}:ns.length=hd.length→HH hs (.nmd q ns) [hd] (List.zipWith (fun n c=>(n,c.2)) ns hd)
 |join {q r ps hd ho ks}:bM (fun p k=>look hd p.1=some k∧look ho p.2=some k) ps ks→(ps.map (·.1)).Nodup→(ps.map (·.2)).Nodup→HH hs (.join q r ps) [hd,ho] (hd++ho.filter fun c=>!decide (c.1∈ps.map (·.2)))
 |group {q ns ss hd ks js}:Looks hd ns ks→aPv hd ss js→HH hs (.group q ns ss) [hd] (ns.zip ks++(ss.map Sm.new).zip js)
 |first {q ps m hd ks}:Looks hd (ps.map (·.1)) ks→(ps.map (·.1)).Nodup→HH hs (.first q ps m) [hd] hd
def lD (K:PySem.W.Frag) (H:Hp) (d:Addr) (hs:Str→Option Hdr):Prop:=∃kvs,H d=some (.dK kvs)∧∀n hd,hs n=some hd→∃v,jX kvs (Sum.inr n)=some v∧cZ K H v hd
theorem lD.same {H H':Hp} {d:Addr} {hs:Str→Option Hdr} (e:Same H H') (h:lD K H d hs):lD K H' d hs:=by
 obtain ⟨kvs,hd,hh⟩:=h
 refine ⟨kvs,e _ _ hd,fun n hd hn=>?_⟩
 obtain ⟨v,h1,h2⟩:=hh n hd hn
 exact ⟨v,h1,h2.same e⟩
def aVp (K:PySem.W.Frag):Sp:=fun vs H Q _=>∃d v x us hs q ihds hd,vs=[.ref d,v,.ref x]∧lD K H d hs∧IsQ K H v q∧SqL K H x us∧bM (cZ K H) us ihds∧(∀h∈ihds,h.length≤100)∧HH hs q ihds hd∧∀v' H',Same H H'→cZ K H' v' hd→Q v' H'
theorem aFv (T:Txt w K mg) (aEn:Ok P w K mg base 1 "table_head" ["heads","name"] aVx) (aE2:Ok P w K mg base 4 "where_head" ["head","tests"] (aVt K)) (kJ:Ok P w K mg base 2 "keep_head" ["head","names"] (aMz K))
  (aFq:Ok P w K mg base 1 "named_head" ["head","names"] (aQd K)) (aI4:Ok P w K mg base 3 "join_head" ["head","other","pairs"] (aVq K)) (aDq:Ok P w K mg base 3 "group_head" ["head","names","sums"] (aVz K))
  (aEb:Ok P w K mg base 3 "first_head" ["head","keys"] (aVi K)):Ok P w K mg base 5 "head_here" ["heads","question","inner"] (aVp K):=by
 refine Ok.ofV T.aHs vX (fun vs H Q E h=>?_) (fun f cdv A outer s H vs Q E hr h=>?_)
 ·obtain ⟨d,v,x,us,hs,q,ihds,hd,rfl,_⟩:=h;rfl
 obtain ⟨d,v,x,us,hs,q0,ihds,hd,rfl,hds,hq,hx,hu,hlen,hh,q⟩:=h
 refine ⟨_,(aC (aW (i:=3) vX.nd rfl (by trivial) (aK bH (vv 1) aD (fun _ _=>rfl))) (aC (bW (aY dC (vv 3) aU (bI _)) (aG (aN (aO (aEn.mono (by decide)) hr (by rfl) (aB (vv 0) (aB (aK bH (vv 1) aD (fun _ _=>rfl)) aA))))) bA) (aC (bW (aY dC (vv 3) aU (bI _)) (aG (aN (aO (aE2.mono (by decide)) hr (by rfl) (aB (aK aX (vv 2) aD (fun _ _=>rfl)) (aB (aK bH (vv 1) aD (fun _ _=>rfl)) aA))))) bA) (aC (bW (aY dC (vv 3) aU (bI _)) (aG (aN (aO (kJ.mono (by decide)) hr (by rfl) (aB (aK aX (vv 2) aD (fun _ _=>rfl)) (aB (aK bH (vv 1) aD (fun _ _=>rfl)) aA))))) bA) (aC (bW (aY dC (vv 3) aU (bI _)) (aG (aN (aO (aFq.mono (by decide)) hr (by rfl) (aB (aK aX (vv 2) aD (fun _ _=>rfl)) (aB (aK bH (vv 1) aD (fun _ _=>rfl)) aA))))) bA) (aC (bW (aY dC (vv 3) aU (bI _)) (aG (aN (aO (aI4.mono (by decide)) hr (by rfl) (aB (aK aX (vv 2) aD (fun _ _=>rfl)) (aB (aK aX (vv 2) aD (fun _ _=>rfl)) (aB (aK bH (vv 1) aD (fun _ _=>rfl)) aA)))))) bA) (aC (bW (aY dC (vv 3) aU (bI _)) (aG (aN (aO (aDq.mono (by decide)) hr (by rfl) (aB (aK aX (vv 2) aD (fun _ _=>rfl)) (aB (aK bH (vv 1) aD (fun _ _=>rfl)) (aB (aK bH (vv 1) aD (fun _ _=>rfl)) aA)))))) bA) (aG (aN (aO (aEb.mono (by decide)) hr (by rfl) (aB (aK aX (vv 2) aD (fun _ _=>rfl)) (aB (aK bH (vv 1) aD (fun _ _=>rfl)) aA)))))))))))),?_⟩
 cases hh with
 |table hT=>
  cases hq with
  |table a b=>
   obtain ⟨kvs,hd',hmem⟩:=hds
   obtain ⟨v',hv',hI⟩:=hmem _ _ hT
   refine ⟨_,rfl,_,_,0,_,rfl,rfl,a,at0 _ _,?_⟩
   exact ⟨_,rfl,rfl,_,rfl,eX ⟨_,rfl,_,rfl,_,_,1,_,rfl,rfl,a,at1 _ _ _,d,_,v',kvs,rfl,hd',hv',q _ _ (Same.refl H) hI⟩⟩
 |whr ht=>
  cases hq with
  |whr a b c=>
   cases hu with
   |cons h1 t1=>
    cases t1
    refine ⟨_,rfl,_,_,0,_,rfl,rfl,a,at0 _ _,?_⟩
    refine ⟨_,rfl,rfl,_,rfl,bK ⟨_,rfl,rfl,_,rfl,eX ?_⟩⟩
    exact ⟨_,rfl,x,_,0,_,rfl,rfl,hx,at0 _ _,_,rfl,_,_,2,_,rfl,rfl,a,at2 _ _ _ _,_,_,_,_,rfl,h1,c.1,by have:=c.2.2;lia,ht,fun H' s'=>q _ _ s' (h1.same s')⟩
 |keep hk=>
  cases hq with
  |keep a b c=>
   cases hu with
   |cons h1 t1=>
    cases t1
    refine ⟨_,rfl,_,_,0,_,rfl,rfl,a,at0 _ _,?_⟩
    refine ⟨_,rfl,rfl,_,rfl,bK ⟨_,rfl,rfl,_,rfl,bK ⟨_,rfl,rfl,_,rfl,eX ?_⟩⟩⟩
    exact ⟨_,rfl,x,_,0,_,rfl,rfl,hx,at0 _ _,_,rfl,_,_,2,_,rfl,rfl,a,at2 _ _ _ _,_,_,_,_,_,rfl,h1,aRm c,by have:=c.2.2;lia,hk,fun v' H' s' h'=>q _ _ s' h'⟩
 |nmd hl=>
  cases hq with
  |nmd a b c=>
   cases hu with
   |cons h1 t1=>
    cases t1
    obtain ⟨⟨n,ws,rfl,hn,hw⟩,c1,c2⟩:=c
    rw [aNq hw] at hn
    refine ⟨_,rfl,_,_,0,_,rfl,rfl,a,at0 _ _,?_⟩
    refine ⟨_,rfl,rfl,_,rfl,bK ⟨_,rfl,rfl,_,rfl,bK ⟨_,rfl,rfl,_,rfl,bK ⟨_,rfl,rfl,_,rfl,eX ?_⟩⟩⟩⟩
    exact ⟨_,rfl,x,_,0,_,rfl,rfl,hx,at0 _ _,_,rfl,_,_,2,_,rfl,rfl,a,at2 _ _ _ _,_,_,_,_,rfl,h1,⟨n,rfl,hn⟩,by lia,hl,fun v' H' s' h'=>q _ _ s' h'⟩
 |join hk n1 n2=>
  cases hq with
  |join a b c e=>
   cases hu with
   |cons h1 t1=>
    cases t1 with
    |cons h2 t2=>
     cases t2
     refine ⟨_,rfl,_,_,0,_,rfl,rfl,a,at0 _ _,?_⟩
     refine ⟨_,rfl,rfl,_,rfl,bK ⟨_,rfl,rfl,_,rfl,bK ⟨_,rfl,rfl,_,rfl,bK ⟨_,rfl,rfl,_,rfl,bK ⟨_,rfl,rfl,_,rfl,eX ?_⟩⟩⟩⟩⟩
     exact ⟨_,rfl,x,_,0,_,rfl,rfl,hx,at0 _ _,_,rfl,x,_,1,_,rfl,rfl,hx,at1 _ _ _,_,rfl,_,_,3,_,rfl,rfl,a,dR (j:=3) rfl,_,_,_,_,_,_,_,rfl,h1,h2,e.1,by have:=e.2.2;lia,hlen _ (by simp),hlen _ (by simp),hk,n1,n2,fun v' H' s' h'=>q _ _ s' h'⟩
 |group hk hj=>
  cases hq with
  |group a b c e=>
   cases hu with
   |cons h1 t1=>
    cases t1
    refine ⟨_,rfl,_,_,0,_,rfl,rfl,a,at0 _ _,?_⟩
    refine ⟨_,rfl,rfl,_,rfl,bK ⟨_,rfl,rfl,_,rfl,bK ⟨_,rfl,rfl,_,rfl,bK ⟨_,rfl,rfl,_,rfl,bK ⟨_,rfl,rfl,_,rfl,bK ⟨_,rfl,rfl,_,rfl,eX ?_⟩⟩⟩⟩⟩⟩
    exact ⟨_,rfl,x,_,0,_,rfl,rfl,hx,at0 _ _,_,rfl,_,_,2,_,rfl,rfl,a,at2 _ _ _ _,_,rfl,_,_,3,_,rfl,rfl,a,dR (j:=3) rfl,_,_,_,_,_,_,_,_,rfl,h1,aRm c,by have:=c.2.2;lia,e.1,by have:=e.2.2;lia,hk,hj,fun v' H' s' h'=>q _ _ s' h'⟩
 |first hk nd=>
  cases hq with
  |first a b c e=>
   cases hu with
   |cons h1 t1=>
    cases t1
    refine ⟨_,rfl,_,_,0,_,rfl,rfl,a,at0 _ _,?_⟩
    refine ⟨_,rfl,rfl,_,rfl,bK ⟨_,rfl,rfl,_,rfl,bK ⟨_,rfl,rfl,_,rfl,bK ⟨_,rfl,rfl,_,rfl,bK ⟨_,rfl,rfl,_,rfl,bK ⟨_,rfl,rfl,_,rfl,bK ?_⟩⟩⟩⟩⟩⟩
    exact ⟨_,rfl,x,_,0,_,rfl,rfl,hx,at0 _ _,_,rfl,_,_,2,_,rfl,rfl,a,at2 _ _ _ _,_,_,_,_,_,rfl,h1,c.1,by have:=c.2.2;lia,hk,nd,fun H' s'=>q _ _ s' (h1.same s')⟩
inductive HQ (hs:Str→Option Hdr):Qn→Hdr→Prop
 |mk0 {q hd}:kids q=[]→HH hs q [] hd→Good hd→HQ hs q hd
 |mk1 {q k h1 hd}:kids q=[k]→HQ hs k h1→HH hs q [h1] hd→Good hd→HQ hs q hd
 |mk2 {q k l h1 h2 hd}:kids q=[k,l]→HQ hs k h1→HQ hs l h2→HH hs q [h1,h2] hd→Good hd→HQ hs q hd
theorem HQ.good {hs:Str→Option Hdr} {q:Qn} {hd:Hdr} (h:HQ hs q hd):Good hd:=by cases h <;> assumption
theorem HQ.in {hs:Str→Option Hdr} {q:Qn} {hd:Hdr} (h:HQ hs q hd):∃ihds,bM (HQ hs) (kids q) ihds∧HH hs q ihds hd∧Good hd:=by
 cases h with
 |mk0 e a b=>exact ⟨[],by rw [e];exact .nil,a,b⟩
 |mk1 e k a b=>exact ⟨[_],by rw [e];exact .cons k .nil,a,b⟩
 |mk2 e k l a b=>exact ⟨[_,_],by rw [e];exact .cons k (.cons l .nil),a,b⟩
def aK6 (K:PySem.W.Frag):Sp:=fun vs H Q _=>∃v hd,vs=[v]∧cZ K H v hd∧hd.length≤1000∧∀D H',Same H H'→H' D=some (.lst ((hd.map (·.1)).map V.str))→Q (.ref D) H'
theorem vG (T:Txt w K mg):Ok P w K mg base 1 "names_of" ["head"] (aK6 K):=by
 refine Ok.ofV T.aKe aHw (fun vs H Q E h=>?_) (fun f cdv A outer s H vs Q E hr h=>?_)
 ·obtain ⟨v,hd,rfl,_⟩:=h;rfl
 obtain ⟨v,hd,rfl,⟨a,us,rfl,ha,hu⟩,hl,q⟩:=h
 refine ⟨_,(aG (aN (bN (N:=["column"]) (by trivial) (cY (by decide +kernel)) rfl (eG (vv 0)) (fun cl s' H' fp=>⟨(aL (i:=0) (show (["column"]:List Str).Nodup from by decide +kernel) rfl (Or.inl rfl)),bT,(aK (bZ (K:=K)) (vv 0) aD (fun _ _=>rfl))⟩)))),?_⟩
 have lu:=hu.len
 refine dZ us ((hd.map (·.1)).map V.str) (by rw [List.length_map,List.length_map];lia) [none] fH (small (by lia)) (fun R r=>jN ha (fun R' r'=>⟨_,rfl,r'⟩) R r) (fun i x y ex ey H' R l sm r=>?_) rfl fun D H' sm hD=>q D H' sm hD
 obtain ⟨c,hc,p,rfl,hp⟩:=aZ hu ex
 obtain ⟨n,hn,rfl⟩:=iD ey
 rw [List.getElem?_map,hc] at hn
 cases hn
 exact ⟨_,rfl,p,_,0,_,rfl,rfl,sm.aP hp,at0 _ _,r H' (Same.refl H')⟩
def aVm (K:PySem.W.Frag) (n:Nat):Sp:=fun vs H Q _=>∃d v hs q hd,vs=[.ref d,v]∧lD K H d hs∧IsQ K H v q∧size q≤n∧HQ hs q hd∧∀v' H',Same H H'→cZ K H' v' hd→Q v' H'
theorem aC2 {k:Qn}:∀{qs:List Qn},k∈qs→size k≤sizes qs
 |q::qs,h=>by
  show size k≤(((q::qs).map size).sum)
  rw [List.map_cons,List.sum_cons]
  rcases List.mem_cons.mp h with rfl|h
  ·lia
  ·have:=aC2 h
   unfold sizes at this
   lia
theorem vI {q k:Qn} (h:k∈kids q) {K:PySem.W.Frag} {H:Hp} {v:V} (hq:IsQ K H v q):size k<size q:=by
 have e:=qU q
 have o:=wA hq
 have:size k≤sizes (kids q):=by
  exact aC2 h
 lia
theorem aXy {α:Type} {l:List α} {i:Nat} {x:α} (h:l[i]?=some x):x∈l:=List.mem_of_getElem? h
theorem rH (T:Txt w K mg) (dJ:Ok P w K mg base 1 "questions_in" ["question"] (aMw K)) (yU:Ok P w K mg base 5 "head_here" ["heads","question","inner"] (aVp K)) (eH:Ok P w K mg base 2 "need_unlike" ["names"] (aD7 K)) (pA:Ok P w K mg base 1 "names_of" ["head"] (aK6 K)) :
  ∀n:Nat,Ok P w K mg base (n+6) "head_within" ["heads","question"] (aVm K n)
 |0=>by
  refine Ok.ofV T.sX iG (fun vs H Q E h=>?_) (fun f cdv A outer s H vs Q E hr h=>?_)
  ·obtain ⟨d,v,hs,q,hd,rfl,_⟩:=h;rfl
  ·obtain ⟨d,v,hs,q,hd,rfl,_,hq,hz,_⟩:=h
   have e:=qU q
   have o:=wA hq
   lia
 |n+1=>by
  have nH:=rH T dJ yU eH pA n
  refine Ok.ofV T.sX iG (fun vs H Q E h=>?_) (fun f cdv A outer s H vs Q E hr h=>?_)
  ·obtain ⟨d,v,hs,q,hd,rfl,_⟩:=h;rfl
  obtain ⟨d,v,hs,q0,hd,rfl,hds,hq,hz,hh,q⟩:=h
  obtain ⟨ihds,hin,hone,hgood⟩:=hh.in
  refine ⟨_,(aC (lB (i0:=2) iG.nd rfl (by trivial) (N:=["part","heads"]) (by trivial) (cO (aF jR) rfl (by decide +kernel)) rfl (cV (aO (dJ.mono (by lia)) hr (by rfl) (aB (vv 1) aA))) (fun cl s' H' fp=>⟨(aL (i:=0) (show (["part","heads"]:List Str).Nodup from by decide +kernel) rfl (Or.inl rfl)),bT,(aO (nH.mono (by lia)) hr (by rfl) (aB (vv 1) (aB (vv 0) aA)))⟩)) (aC (aW (i:=3) iG.nd rfl (by trivial) (aO (yU.mono (by lia)) hr (by rfl) (aB (vv 0) (aB (vv 1) (aB (vv 2) aA))))) (aC (eF (aO (eH.mono (by lia)) hr (by rfl) (aB (aO (pA.mono (by lia)) hr (by rfl) (aB (vv 3) aA)) aA))) (aC (bW (fK (aGx aDk aDk aD (aR bC (by rfl) T.eY cP (aB (vv 3) aA)) (fM (by rfl) T.aAw))) (aG gY) bA) (aG (aN (vv 3))))))),?_⟩
  have l2:=hin.len
  have lk:(kids q0).length≤2:=by cases q0 <;> simp [kids]
  dsimp only [mR,mO]
  refine aDd (K:=K) (fun us=>bM (IsQ K H) us (kids q0)) (fun i H y=>∃h,ihds[i]?=some h∧cZ K H y h) (fun e h=>?_) (fun e h=>?_) [none,some (.ref d)] ?_ rfl (fun R r=>⟨_,rfl,v,q0,H,rfl,Same.refl H,hq,fun D H1 us fD s1 gD hus=>r D H1 us s1 gD hus⟩) (fun us hus=>small (by have:=hus.len;lia)) (fun us hus i x ex H' R l sm r=>?_) fun us hus D2 H2 ys t2 g2 hly hR=>?_
  ·obtain ⟨h,h1,h2⟩:=h
   exact ⟨h,h1,h2.same e⟩
  ·obtain ⟨h,h1,⟨a,vs,rfl,ha,hv⟩⟩:=h
   exact ⟨h,h1,a,vs,rfl,ha.kO e,hv.imp fun _ _ ⟨p,ep,hp⟩=>⟨p,ep,hp.kO e⟩⟩
  ·exact dO 0 (by decide +kernel) rfl rfl (by trivial)
  ·obtain ⟨k,hk,hkq⟩:=aZ hus ex
   obtain ⟨h,hh',hkh⟩:=aZ hin hk
   have hkz:=vI (aXy hk) hq
   exact ⟨_,rfl,_,rfl,d,x,hs,k,h,rfl,hds.same sm,hkq.same sm,by lia,hkh,fun v' H3 s3 h3=>r _ _ s3 ⟨h,hh',h3⟩⟩
  have l1:=hus.len
  have hall:bM (cZ K H2) ys ihds:=aEj (by lia) fun i y h e1 e2=>by
   obtain ⟨h',e3,q3⟩:=hR i y e1
   rw [e2] at e3
   cases e3
   exact q3
  have hl100:∀h∈ihds,h.length≤100:=fun h hm=>by
   obtain ⟨i,hi,e⟩:=List.getElem_of_mem hm
   have hi':i<(kids q0).length:=by lia
   have:=(iT hin (List.getElem?_eq_getElem hi') (by rw [List.getElem?_eq_getElem hi,e])).good
   have:=this.2.2
   lia
  refine ⟨_,rfl,_,rfl,_,rfl,d,v,D2,ys,hs,q0,ihds,hd,rfl,hds.same t2,hq.same t2,SqL.of g2,hall,hl100,hone,fun v' H3 s3 h3=>?_⟩
  obtain ⟨g1,g2',g3⟩:=hgood
  refine ⟨_,rfl,v',hd,rfl,h3,by lia,fun D4 H4 s4 g4=>?_⟩
  refine ⟨D4,hd.map (·.1),rfl,SqL.of g4,(by rw [List.length_map];lia),g1,fun H5 s5=>?_⟩
  obtain ⟨a,zs,rfl,ha,hz'⟩:=h3
  have lz:=hz'.len
  refine ⟨_,rfl,_,_,rfl,.inr ((s4.trans s5).aP ha),_,_,rfl,rfl,_,rfl,?_⟩
  have e1:decide ((1:Int)≤(zs.length:Int))=true:=decide_eq_true (by lia)
  have e2:decide ((zs.length:Int)≤8)=true:=decide_eq_true (by lia)
  rw [e1]
  refine eX ⟨_,_,rfl,rfl,_,rfl,?_⟩
  rw [e2]
  exact bK ⟨_,rfl,q _ _ (t2.trans (s3.trans (s4.trans s5))) ⟨a,zs,rfl,(s4.trans s5).aP ha,hz'.imp fun _ _ h=>h.same (s4.trans s5)⟩⟩
def aH2 (K:PySem.W.Frag):Sp:=fun vs H Q _=>∃d v hs q hd,vs=[.ref d,v]∧lD K H d hs∧IsQ K H v q∧size q≤20∧HQ hs q hd∧∀v' H',Same H H'→cZ K H' v' hd→Q v' H'
theorem aK7 (T:Txt w K mg) (nH:Ok P w K mg base 26 "head_within" ["heads","question"] (aVm K 20)) (aN9:Ok P w K mg base 8 "checked" ["thing"] (aQa K)):Ok P w K mg base 27 "head_of" ["heads","question"] (aH2 K):=by
 refine Ok.ofV T.aPn aK8 (fun vs H Q E h=>?_) (fun f cdv A outer s H vs Q E hr h=>?_)
 ·obtain ⟨d,v,hs,q,hd,rfl,_⟩:=h;rfl
 obtain ⟨d,v,hs,q0,hd,rfl,hds,hq,hz,hh,q⟩:=h
 refine ⟨_,(aG (aN (aO (nH.mono (by decide)) hr (by rfl) (aB (vv 0) (aB (aO (aN9.mono (by decide)) hr (by rfl) (aB (vv 1) aA)) aA))))),?_⟩
 exact ⟨_,rfl,_,rfl,v,q0,rfl,hq,hz,fun H1 s1=>⟨d,v,hs,q0,hd,rfl,hds.same s1,hq.same s1,hz,hh,fun v' H2 s2 h2=>q _ _ (s1.trans s2) h2⟩⟩
end
end My
namespace L2
open PySem PySem.Spec PyProof.Rows
section
variable {X:Cx}
def aZy (K:PySem.W.Frag):List V→Hp→VK→Prop:=fun xs H Q=>∃(p:Addr) (bs:List Bool),xs=[.ref p]∧SqL K H p (bs.map V.bl)∧Q (.bl (bs.any id)) H
theorem any_range (bs:List Bool):(List.range bs.length).any (fun i=>bs.getD i false)=bs.any id:=by
 rw [Bool.eq_iff_iff,List.any_eq_true,List.any_eq_true]
 constructor
 ·rintro ⟨i,hi,h⟩
  have hi:=List.mem_range.mp hi
  rw [List.getD_eq_getElem?_getD,List.getElem?_eq_getElem hi] at h
  exact ⟨_,List.getElem_mem hi,h⟩
 ·rintro ⟨b,hb,h⟩
  obtain ⟨i,hi,e⟩:=List.mem_iff_getElem.mp hb
  refine ⟨i,List.mem_range.mpr hi,?_⟩
  rw [List.getD_eq_getElem?_getD,List.getElem?_eq_getElem hi]
  show bs[i]=true
  rw [e]
  exact h
theorem aIa (hc:X.calm=true):cR X (.builtin "any") (aZy X.K):=by
 intro pins s σ H xs us Q I r h
 obtain ⟨p,bs,rfl,hq,q⟩:=h
 obtain ⟨u,rfl,rx⟩:=r.one
 cases rx
 obtain ⟨its,rv,pl,hz⟩:=I.list hq
 have hl:=rv.length
 rw [List.length_map] at hl
 have hne:p≠s.heap.objs.size:=by
  obtain ⟨o,ho,_⟩:=pl.isList
  exact Nat.ne_of_lt (Heap.lt_size ho)
 refine call_any_walk (wpAny_pyIter_list pl.isList ?_)
 refine ⟨s.heap.objs.size,_,_,_,_,_,fun i=>bs.getD i false,rfl,Walks.list (show X.A.in1.handled=none from I.ok.hd hc) _ p hne its.toArray,⟨⟨_,Heap.get?_push_size _ rfl,rfl,rfl⟩,?_⟩,?_,fun h' tk kp=>?_⟩
 ·exact pl.isList.at fun o e=>Heap.get?_push_of_some _ e
 ·intro i v s' Q' E' hv hq'
  have hv':its[i]?=some v:=by simpa using hv
  have hi:i<bs.length:=by rw [hl];exact (List.getElem?_eq_some_iff.mp hv').1
  obtain ⟨u,hu,ru⟩:=rv.get (i:=i) (x:=.bl bs[i]) (by rw [List.getElem?_map,List.getElem?_eq_getElem hi];rfl)
  rw [hv'] at hu
  cases hu
  cases ru
  have e:bs.getD i false=bs[i]:=by rw [List.getD_eq_getElem?_getD,List.getElem?_eq_getElem hi];rfl
  replace hq':Q' (bs.getD i false) s':=hq'
  rw [e] at hq'
  exact wpAny_truthy_bool hq'
 ·have e:(List.range its.toArray.size).any (fun i=>bs.getD i false)=bs.any id:=by
   rw [List.size_toArray,←hl];exact any_range bs
  rw [e]
  refine ⟨.bl (bs.any id),H,?_,rfl,q⟩
  exact I.kept fun b o eo=>kp b o (by
   intro z
   have:b=s.heap.objs.size:=by simpa using z
   rw [this] at eo
   exact absurd (Heap.lt_size eo) (Nat.lt_irrefl _)) (Heap.get?_push_of_some _ eo)
def aXl:List V→Hp→VK→Prop:=fun xs H Q=>∃z:Str,xs=[.str z]∧z.length≤1000∧∀l H',H l=none→Same H H'→H' l=some (.lst ((List.range z.cps.size).map fun i=>V.str (sgn z i)))→Q (.ref l) H'
theorem aAz (z:Str):∀(n k:Nat) (vs:List Value),vs.length=n→(∀(j:Nat) (v:Value),vs[j]?=some v→∃t,v=.str (sgn z (k+j)) t)→Vals ((List.range' k n).map fun i=>V.str (sgn z i)) vs
 |0,k,[],_,_=>.nil
 |n+1,k,v::vs,hl,h=>by
  obtain ⟨t,rfl⟩:=h 0 v rfl
  rw [List.range'_succ,List.map_cons]
  refine .cons ⟨t,rfl⟩ (aAz z n (k+1) vs (by simpa using hl) fun j u e=>?_)
  obtain ⟨t',e'⟩:=h (j+1) u e
  exact ⟨t',by rw [e',show k+(j+1)=k+1+j by lia]⟩
theorem aLv (hc:X.calm=true):cR X (.type "list") aXl:=by
 intro pins s σ H xs us Q I r h
 obtain ⟨z,rfl,hl,q⟩:=h
 obtain ⟨u,rfl,t,rfl⟩:=vals1 r
 refine call_list_str (I.ok.hd hc) z t (fun h' tk acc' c' kp hS hacc=>?_) (small hl)
 have hv:=aAz z z.cps.size 0 acc'.toList (by rw [Array.length_toList];exact hacc.1) fun j v e=>by
  have hj:=hacc.2 j v (by rw [←Array.getElem?_toList];exact e)
  obtain ⟨c,t',e1,e2⟩:=hj
  refine ⟨t',?_⟩
  rw [e2]
  unfold sgn
  rw [Nat.zero_add,Array.getD_eq_getD_getElem?,e1]
  rfl
 rw [←List.range_eq_range'] at hv
 have ea:acc'.toList.toArray=acc':=by simp
 have hf:H s.heap.objs.size=none:=I.hok.fresh (Nat.le_refl _)
 refine ⟨.ref s.heap.objs.size,_,I.laid (t':=tk) (o:=.lst ((List.range z.cps.size).map fun i=>V.str (sgn z i))) kp (Nat.le_refl _) ?_,rfl,q _ _ hf (bF hf _) aH⟩
 refine ⟨by rw [List.length_map,List.length_range];exact small hl,acc'.toList,c',hv,?_⟩
 rw [ea]
 exact hS
end
theorem aKc {X:Cx} {K:PySem.W.Frag} (h:X.K=K:=by rfl):OpR X (compareOp .In) (rIn K false):=by subst h;exact aCr
structure aXa (E:Hp→Hp→Prop) (H:Hp):Prop where
 new:∀D o,H D=none→E H (upd H D o)
 trans:∀{H1 H2},E H H1→E H1 H2→E H H2
 upd:∀D o H',H D=none→E H H'→E H (upd H' D o)
 keep:∀D H1 H2 xs,H D=none→E H H1→H1 D=some (.lst xs)→E H1 H2→H2 D=some (.lst xs)
theorem sI (H:Hp):aXa Same H:=⟨fun D o h=>bF h o,fun a b=>a.trans b,fun D o H' h s=>cN h s,fun D H1 H2 xs _ _ h s=>s _ _ h⟩
def yW (J:It) (H1:Hp) (σ0:L2.St) (g:TG) (tt:TT) (te:TE) (Q:VK):Prop:=∀D,H1 D=none→∃W:Nat→Nat→L2.St→Hp→List V→Prop,(∃m,W 0 m σ0 (L2.upd H1 D (.lst [])) []) ∧
 ∀i m σ' H' ys,W i m σ' H' ys→H' D=some (.lst ys)∧((J.stop i H'∧Q (.ref D) H')∨(J.go i H'∧∀x H2,J.yld i H' x H2→g x σ' H2 fun σ3 H3=>tt σ3 H3 fun b H4=>
  if b=true then te σ3 H4 fun y H5=>H5 D=some (.lst ys)∧ys.length<sizeLine∧∃m',m'<m∧W (i+1) m' σ3 (L2.upd H5 D (.lst (ys++[y]))) (ys++[y]) else H4 D=some (.lst ys)∧∃m',m'<m∧W (i+1) m' σ3 H4 ys))
section
variable {X:Cx} {K:PySem.W.Frag} {scope:Scope} {N:List Str} {tl te:TE} {tt:TT} {g:TG} {σ:L2.St} {H:Hp} {Q:VK}
theorem oV (σ0:L2.St) (cap:Cap X scope N σ σ0) (h:tl σ H fun v H1=>∃a,v=.ref a∧(∃xs,SqL K H1 a xs)∧yW (Itl K a) H1 σ0 g tt te Q):iV X scope N (sY K tl) g tt te σ H Q:=⟨σ0,cap,h⟩
theorem lV (σ0:L2.St) (cap:Cap X scope N σ σ0) (h:tl σ H fun v H1=>∃a,v=.ref a∧(∃xs,SqT K H1 a xs)∧yW (Itt K a) H1 σ0 g tt te Q):iV X scope N (aJ9 K tl) g tt te σ H Q:=⟨σ0,cap,h⟩
theorem tU {a:Addr} {xs:List V} {E:Hp→Hp→Prop} (hS:∀H',E H H'→SqT K H' a xs):∀H' i x,E H H'→xs[i]?=some x→(Itt K a).go i H'∧∀y H2,(Itt K a).yld i H' y H2→H2=H'∧y=x:=fun H' i x s e=>
 ⟨⟨xs,x,hS H' s,e⟩,fun y H2 hy=>by
  obtain ⟨e1,e2⟩:=hy
  have e3:=e2 xs (hS H' s)
  rw [e] at e3
  cases e3
  exact ⟨e1,rfl⟩⟩
theorem mJ {a:Addr} {xs:List V} {E:Hp→Hp→Prop} (hS:∀H',E H H'→SqT K H' a xs):∀H',E H H'→(Itt K a).stop xs.length H':=fun H' s=>⟨xs,hS H' s,Nat.le_refl _⟩
theorem aTp {a:Addr} {xs:List V} {E:Hp→Hp→Prop} (hS:∀H',E H H'→SqL K H' a xs):∀H' i x,E H H'→xs[i]?=some x→(Itl K a).go i H'∧∀y H2,(Itl K a).yld i H' y H2→H2=H'∧y=x:=fun H' i x s e=>
 ⟨⟨xs,x,hS H' s,e⟩,fun y H2 hy=>by
  obtain ⟨e1,e2⟩:=hy
  have e3:=e2 xs (hS H' s)
  rw [e] at e3
  cases e3
  exact ⟨e1,rfl⟩⟩
theorem aOt {a:Addr} {xs:List V} {E:Hp→Hp→Prop} (hS:∀H',E H H'→SqL K H' a xs):∀H',E H H'→(Itl K a).stop xs.length H':=fun H' s=>⟨xs,hS H' s,Nat.le_refl _⟩
inductive nY (R:Nat→V→Prop):List Nat→List V→Prop
 |nil:nY R [] []
 |cons {i y is ys}:R i y→nY R is ys→nY R (i::is) (y::ys)
theorem nY.snoc {R:Nat→V→Prop} {is:List Nat} {ys:List V} {i:Nat} {y:V} (h:nY R is ys) (r:R i y):nY R (is++[i]) (ys++[y]):=by
 induction h with
 |nil=>exact .cons r .nil
 |cons r' _ ih=>exact .cons r' ih
theorem nY.imp {R S:Nat→V→Prop} {is:List Nat} {ys:List V} (h:nY R is ys) (k:∀i y,R i y→S i y):nY S is ys:=by
 induction h with
 |nil=>exact .nil
 |cons r _ ih=>exact .cons (k _ _ r) ih
theorem nY.len {R:Nat→V→Prop} {is:List Nat} {ys:List V} (h:nY R is ys):is.length=ys.length:=by
 induction h with
 |nil=>rfl
 |cons _ _ ih=>rw [List.length_cons,List.length_cons,ih]
theorem yP {σ0:L2.St} (E:Hp→Hp→Prop) (eo:aXa E H) (xs:List V) (p:Nat→Bool) (Rel:Nat→Hp→V→Prop)
  (st:∀{i H1 H2 y},E H H1→E H1 H2→Rel i H1 y→Rel i H2 y) (su:∀{i H1 D ys zs y},H D=none→E H H1→H1 D=some (.lst ys)→Rel i H1 y→Rel i (L2.upd H1 D (.lst zs)) y)
  (At:Nat→L2.St→Prop) (Ps:L2.St→Prop) (h0:Ps σ0) (hsz:xs.length≤sizeLine)
  (J:It) (go:∀H' i x,E H H'→xs[i]?=some x→J.go i H'∧∀y H2,J.yld i H' y H2→H2=H'∧y=x) (stop:∀H',E H H'→J.stop xs.length H')
  (hg:∀(i:Nat) (x:V) σ' H' Q',xs[i]?=some x→Ps σ'→E H H'→(∀σ2,Ps σ2→At i σ2→Q' σ2 H')→g x σ' H' Q')
  (ht:∀(i:Nat) (x:V) σ2,xs[i]?=some x→At i σ2→∀H' R,E H H'→(∀H2,E H' H2→R (p i) H2)→tt σ2 H' R)
  (he:∀(i:Nat) (x:V) σ2,xs[i]?=some x→At i σ2→p i=true→∀H' R,E H H'→(∀y H2,E H' H2→Rel i H2 y→R y H2)→te σ2 H' R)
  (q:∀D H' ys,E H H'→H D=none→H' D=some (.lst ys)→nY (fun i y=>Rel i H' y) (sel p 0 (List.range xs.length)) ys→Q (.ref D) H'):yW J H σ0 g tt te Q:=by
 intro D hD
 refine ⟨fun i m σ' H' ys=>i≤xs.length∧m=xs.length - i∧Ps σ'∧E H H'∧H' D=some (.lst ys)∧nY (fun i y=>Rel i H' y) (sel p 0 (List.range i)) ys,⟨xs.length,Nat.zero_le _,rfl,h0,eo.new _ _ hD,aH,.nil⟩,?_⟩
 rintro i m σ' H' ys ⟨hi,rfl,hps,sm,hL,hR⟩
 refine ⟨hL,?_⟩
 by_cases hlt:i<xs.length
 ·right
  have hx:=List.getElem?_eq_getElem hlt
  obtain ⟨g1,g2⟩:=go H' i xs[i] sm hx
  refine ⟨g1,fun x H2 hy=>?_⟩
  obtain ⟨rfl,rfl⟩:=g2 x H2 hy
  have tk:sel p 0 (List.range (i+1))=sel p 0 (List.range i)++(if p i then [i] else []):=by
   rw [List.range_succ,wI,List.length_range,Nat.zero_add]
  have lR:=hR.len
  have lS:=vY p 0 (List.range i)
  rw [List.length_range] at lS
  refine hg i xs[i] σ' _ _ hx hps sm fun σ2 hp2 hat=>?_
  refine ht i xs[i] σ2 hx hat _ _ sm fun H3 s3=>?_
  have sm3:=eo.trans sm s3
  have hL3:=eo.keep D _ _ _ hD sm hL s3
  cases hp:p i with
  |true=>
   rw [if_pos rfl]
   refine he i xs[i] σ2 hx hat hp _ _ sm3 fun y H4 s4 r4=>?_
   have sm4:=eo.trans sm3 s4
   have hL4:=eo.keep D _ _ _ hD sm3 hL3 s4
   refine ⟨hL4,by lia,xs.length - (i+1),by lia,hlt,rfl,hp2,eo.upd D _ _ hD sm4,aH,?_⟩
   rw [tk,hp]
   exact nY.snoc (hR.imp fun j z r=>su hD sm4 hL4 (st sm3 s4 (st sm s3 r))) (su hD sm4 hL4 r4)
  |false=>
   rw [if_neg (by simp)]
   refine ⟨hL3,xs.length - (i+1),by lia,hlt,rfl,hp2,sm3,hL3,?_⟩
   rw [tk,hp]
   simp only [Bool.false_eq_true,if_false,List.append_nil]
   exact hR.imp fun j z r=>st sm s3 r
 ·left
  have e:i=xs.length:=by lia
  subst e
  exact ⟨stop _ sm,q D _ ys sm hD hL hR⟩
end
def At1 (σ0:L2.St) (v:V) (σ:L2.St):Prop:=∃l,σ=(σ0.set 0 l).set 0 (some v)
def Ps1 (σ0:L2.St) (σ:L2.St):Prop:=∃l,σ=σ0.set 0 l
def At2 (σ0:L2.St) (a b:V) (σ:L2.St):Prop:=σ=(σ0.set 0 (some a)).set 1 (some b)
def Ps2 (σ0:L2.St) (σ:L2.St):Prop:=∃l m,σ=(σ0.set 0 l).set 1 m
theorem hg1 {σ0:L2.St} {i:Nat} {x:V} {σ':L2.St} {H':Hp} {Q':L2.St→Hp→Prop} (h:Ps1 σ0 σ') (q:∀σ2,Ps1 σ0 σ2→At1 σ0 x σ2→Q' σ2 H'):bQ 0 x σ' H' Q':=by
 obtain ⟨l,rfl⟩:=h
 exact q _ ⟨some x,by rw [List.set_set]⟩ ⟨l,rfl⟩
theorem hg2 {K:PySem.W.Frag} {σ0:L2.St} {p:Addr} {a b:V} {σ':L2.St} {H':Hp} {Q':L2.St→Hp→Prop} (hp:SqT K H' p [a,b]) (h:Ps2 σ0 σ') (q:∀σ2,Ps2 σ0 σ2→At2 σ0 a b σ2→Q' σ2 H'):aJk K 2 (oE (bQ 0) (oE (bQ 1) aIh)) (.ref p) σ' H' Q':=by
 obtain ⟨l,m,rfl⟩:=h
 have e:(((σ0.set 0 l).set 1 m).set 0 (some a)).set 1 (some b)=(σ0.set 0 (some a)).set 1 (some b):=by
  rw [List.set_comm _ _ (show (1:Nat)≠0 by decide),List.set_set,List.set_set]
 refine ⟨p,_,rfl,hp,rfl,_,_,rfl,_,_,rfl,rfl,?_⟩
 show Q' ((((σ0.set 0 l).set 1 m).set 0 (some a)).set 1 (some b)) H'
 rw [e]
 exact q _ ⟨some a,some b,rfl⟩ rfl
theorem aVa (xs:List V) (n:Nat):rK xs none (some (n:Int))=xs.take n:=by
 unfold rK
 rw [HT.aAh,HT.zP,List.drop_zero,Nat.sub_zero]
 by_cases h:n≤xs.length
 ·rw [Nat.min_eq_left h]
 ·rw [Nat.min_eq_right (by lia),List.take_length,List.take_of_length_le (by lia)]
theorem aCe (xs:List V) (n:Nat):rK xs (some (n:Int)) none=xs.drop n:=by
 unfold rK
 rw [HT.aAh,HT.zP]
 by_cases h:n≤xs.length
 ·rw [Nat.min_eq_left h]
  exact List.take_of_length_le (by rw [List.length_drop];lia)
 ·rw [Nat.min_eq_right (by lia),List.drop_length,List.drop_of_length_le (by lia),List.take_nil]
def aYf (K:PySem.W.Frag):V→Option Int→Option Int→Hp→VK→Prop:=fun x lo hi H Q=>∃a xs,x=.ref a∧SqL K H a xs∧∀p H',H p=none→Same H H'→H' p=some (.lst (rK xs lo hi))→Q (.ref p) H'
theorem aG0 {X:Cx}:SlR X (aYf X.K):=fun pins s σ H x v vl vu lo hi sl Q I rx hs pl pu ⟨a,xs,e,ha,q⟩=>
 aUr pins s σ H x v vl vu lo hi sl Q I rx hs pl pu ⟨a,xs,e,ha,fun p hp=>q p _ hp (bF hp _) aH⟩
end L2
namespace HT
open PySem PySem.Spec PyProof.Rows L2
section
variable {prog:Program} {w:World} {A:Around} {E:Value→Shared→Prop} {s:Shared}
theorem sU {t sl:Addr} {items:Array Value} {vl vu:Value} {lo hi:Option Int} {Q:Value→Shared→Prop} (ht:IsTup s.heap t items) (hs:s.heap.IsSliceOf sl vl vu .none) (pl:IsPart vl lo) (pu:IsPart vu hi)
  (hw:sIx items.size 0 lo=0∧sIx items.size items.size hi=items.size) (h:Q (.ref t) s):wpAny (model prog w) A (getItem (.ref t) (.ref sl)) Q E s:=by
 obtain ⟨os,hos,hcs,hds⟩:=id hs
 have hTs:s.TypeIs (.ref sl) "slice":=⟨os,hos,hcs⟩
 obtain ⟨⟨cls,dd,data,slt⟩,ho,hc,n,hd⟩:=id ht
 simp only at hc hd
 subst hc hd
 unfold getItem
 try with_reducible refine wpAny_holding ?_
 first|refine wpAny_bind (wpAny_pure ?_)|skip
 refine wpAny_bind (wpAny_sequenceKey ht.typeIs (by decide) ?_)
 refine wpAny_bind (wpAny_callSpecial?_slot (name:=Str.ofString "__getitem__") ht.typeIs PyProof.Rows.slot_tuple_getitem
  (wpAny_call_entry PyProof.Rows.slot_tuple_getitem ht.typeIs entry_tuple_getitem ?_ (args_tuple_getitem _ _)))
 show wpAny _ _ (Builtin.Tuple.tupleItemsOf (.ref t) >>= _) _ _ s
 refine wpAny_bind (tupleItemsOf_ ht ?_)
 refine wpAny_bind (wpAny_typeOf hTs ?_)
 rw [if_pos (by decide)]
 refine wpAny_bind (nZ hs pl pu ?_)
 have hyes:((((sIx items.size 0 lo:Nat):Int) == 0 && (1:Int) == 1 && (sIx items.size items.size hi - sIx items.size 0 lo) == items.size)=true):=by
  rw [hw.1,hw.2]
  simp
 show wpAny _ _ (if (((sIx items.size 0 lo:Nat):Int) == 0 && (1:Int) == 1 && (sIx items.size items.size hi - sIx items.size 0 lo) == items.size)=true then _ else _) _ _ s
 rw [if_pos hyes]
 obtain ⟨hp,g,d,tk,os'⟩:=s
 wp_walk using AutoSeq1.wpAny_loadPart' ho
 exact ⟨_,rfl,wpAny_pure h⟩
end
end HT
namespace L2
open PySem PySem.Spec PyProof.Rows
def aZ1 (K:PySem.W.Frag):V→Option Int→Option Int→Hp→VK→Prop:=fun x lo hi H Q=>∃a xs,x=.ref a∧SqT K H a xs∧∀p H',Same H H'→SqT K H' p (rK xs lo hi)→Q (.ref p) H'
theorem aTw {X:Cx}:SlR X (aZ1 X.K):=by
 intro pins s σ H x v vl vu lo hi sl Q I rx hs pl pu h
 obtain ⟨a,xs,rfl,hx,q⟩:=h
 by_cases hw:HT.sIx xs.length 0 lo=0∧HT.sIx xs.length xs.length hi=xs.length
 ·cases rx
  obtain ⟨its,r,ht,hz⟩:=I.tuple hx
  have hlen:its.toArray.size=xs.length:=by rw [List.size_toArray];exact r.length.symm
  refine ⟨"tuple",_,PyProof.Rows.slot_tuple_getitem.lookup,ht.typeIs,?_⟩
  refine HT.sU ht hs pl pu (by rw [hlen];exact hw) ⟨.ref a,H,I,rfl,q a H (Same.refl H) ?_⟩
  have e:rK xs lo hi=xs:=by
   unfold rK
   rw [hw.1,hw.2,List.drop_zero,Nat.sub_zero,List.take_length]
  rw [e]
  exact hx
 ·exact aFg pins s σ H _ v vl vu lo hi sl Q I rx hs pl pu ⟨a,xs,rfl,hx,hw,fun p H' s' g'=>q p H' s' (SqT.of g')⟩
end L2
namespace L2
open PySem PySem.Spec PyProof.Rows
section
variable {X:Cx}
end
inductive PH (P:Program) (w:World):List DictEntry→List (Str × Value)→Prop
 |nil:PH P w [] []
 |cons {e:DictEntry} {kv:Str × Value} {es:List DictEntry} {kvs:List (Str × Value)}:(strKind P w).is kv.1 e.key=true→e.hash=(strKind P w).hash kv.1→e.val=kv.2→PH P w es kvs→PH P w (e::es) (kv::kvs)
theorem PH.keys {P:Program} {w:World} {es:List DictEntry} {kvs:List (Str × Value)} (h:PH P w es kvs):∀e∈es,∃k,(strKind P w).is k e.key=true∧e.hash=(strKind P w).hash k:=by
 induction h with
 |nil=>intro e he;cases he
 |cons a b c _ ih=>
  intro e he
  rcases List.mem_cons.mp he with rfl|he
  ·exact ⟨_,a,b⟩
  ·exact ih e he
theorem PH.pairs {P:Program} {w:World} {es:List DictEntry} {kvs:List (Str × Value)} (h:PH P w es kvs):Pairs (strKind P w) es kvs:=by
 induction h with
 |nil=>exact .nil
 |cons a b c _ ih=>exact .cons a c ih
theorem aOx {P:Program} {w:World} {o:Obj} {es:Array DictEntry} {ep:Nat} {kvs:List (Str × Value)} (hx:o.ExactDict) (hd:o.data=.dict es ep) (h:PH P w es.toList kvs) (nd:(kvs.map (·.1)).Nodup):o.IsDictOf (strKind P w) kvs:=
 ⟨es,ep,hx,hd,fun e he=>h.keys e (Array.mem_toList_iff.mpr he),h.pairs,nd⟩
end L2
namespace PySem
section
variable {prog:Program} {w:World} {A:Around} {E:Value→Shared→Prop} {s:Shared}
end
end PySem
namespace PySem
section
variable {prog:Program} {w:World} {κ:Type} [DecidableEq κ] {knd:KeyKind prog w κ}
end
end PySem
namespace PySem
section
variable {prog:Program} {w:World} {κ:Type} [DecidableEq κ] {knd:KeyKind prog w κ} {A:Around} {E:Value→Shared→Prop} {s:Shared}
end
end PySem
namespace PySem
open PySem.Calls PyProof.Rows
section
variable {prog:Program} {w:World} {κ:Type} [DecidableEq κ] {knd:PySem.KeyKind prog w κ} {A:Around} {E:Value→Shared→Prop} {s:Shared}
end
end PySem
namespace L2
open PySem PySem.Spec PyProof.Rows
section
variable {X:Cx}
end
section
variable {X:Cx} {e st:Expr} {te ts:TE} {pos p2:Pos}
end
section
variable {X:Cx} {o i value:Expr} {td ty tv:TE} {pos pos':Pos}
end
theorem aRb {X:Cx} {pos:Pos} {o i:Expr} {to ti:TE} {t:aU2} (ho:VE X o to) (hi:VE X i ti) (hs:aXt X t)
  (ha:∀v,assign (.Subscript o i pos) X.env v=(do
   let ov ←holding [v] (eval o X.env)
   let iv ←holding [v,ov] (eval i X.env)
   standAt pos
   holding [v,ov,iv] (setItem ov iv v)
   release [v,ov,iv] []):=by intro _;rfl):VG X (.Subscript o i pos) (aYw to ti t):=⟨aXi ho.1 hi.1 hs ha⟩
theorem aHv {X:Cx}:MtR X "list.reverse" aHi:=aLa
abbrev M61:Int:=2305843009213693951
def mQ (H:Hp) (a:Addr):Prop:=∃s d:Int,H a=some (.lst [.int s,.int d])∧(0≤s∧s<M61)∧0≤d
structure Fx (a:Addr) (H H':Hp):Prop where
 same:∀b o,b≠a→H b=some o→H' b=some o
 st:mQ H' a
theorem Fx.trans {a:Addr} {H H1 H2:Hp} (f:Fx a H H1) (g:Fx a H1 H2):Fx a H H2:=⟨fun b o n e=>g.same b o n (f.same b o n e),g.st⟩
theorem mQ.same {a:Addr} {H H':Hp} (h:mQ H a) (e:Same H H'):mQ H' a:=by
 obtain ⟨s,d,h1,h2⟩:=h
 exact ⟨s,d,e _ _ h1,h2⟩
theorem Fx.of {a:Addr} {H H':Hp} (h:mQ H a) (e:Same H H'):Fx a H H':=⟨fun b o _ q=>e b o q,h.same e⟩
theorem Fx.refl {a:Addr} {H:Hp} (h:mQ H a):Fx a H H:=.of h (Same.refl H)
theorem Fx.sm {a:Addr} {H H1 H2:Hp} (f:Fx a H H1) (e:Same H1 H2):Fx a H H2:=f.trans (.of f.st e)
theorem mQ.ne {a p:Addr} {H:Hp} (h:mQ H a) (f:H p=none):p≠a:=by
 obtain ⟨s,d,h1,_⟩:=h
 exact (bB h1 f).symm
theorem Fx.aP {K:PySem.W.Frag} {a p:Addr} {H H':Hp} {xs:List V} (f:Fx a H H') (h:mQ H a) (e:SqT K H p xs):SqT K H' p xs:=by
 obtain ⟨s,d,h1,_⟩:=h
 rcases e with (e|⟨o,e⟩)|e
 ·exact .inl (.inl (f.same p _ (sW e h1 (by intro z;cases z)) e))
 ·exact .inl (.inr ⟨o,f.same p _ (sW e h1 (by intro z;cases z)) e⟩)
 ·exact .inr e
theorem Fx.upd {a D:Addr} {H H':Hp} {o:HO} (f:Fx a H H') (hD:H D=none) (ne:D≠a):Fx a H (L2.upd H' D o):=⟨fun b u n e=>by rw [aV (bB e hD)];exact f.same b u n e,by
 obtain ⟨s,d,h1,h2⟩:=f.st
 exact ⟨s,d,by rw [aV ne.symm];exact h1,h2⟩⟩
theorem Fx.free {a p:Addr} {H H':Hp} (f:Fx a H H') (h:H' p=none):H p=none:=by
 cases e:H p with
 |none=>rfl
 |some o=>
  by_cases z:p=a
  ·subst z
   obtain ⟨s,d,hs,_⟩:=f.st
   rw [hs] at h;cases h
  ·rw [f.same p o z e] at h;cases h
theorem aVy {a:Addr} {H:Hp} (h:mQ H a):aXa (Fx a) H:=⟨fun D o hD=>.of h (bF hD o),fun a b=>a.trans b,fun D o H' hD f=>f.upd hD (h.ne hD),fun D H1 H2 xs hD _ e f=>f.same _ _ (h.ne hD) e⟩
theorem aPo:bootBuiltins "divmod"=some (.builtin "divmod"):=by decide +kernel
def aZo:List V→Hp→VK→Prop:=fun xs H Q=>∃i j,xs=[.int i,.int j]∧(0<j∧j<2 ^ 64)∧∀p H',H p=none→Same H H'→H' p=some (.tup [.int (i / j),.int (i % j)])→Q (.ref p) H'
theorem aPg {X:Cx}:cR X (.builtin "divmod") aZo:=by
 intro pins s σ H xs us Q I r h
 obtain ⟨i,j,rfl,⟨h1,h2⟩,q⟩:=h
 obtain ⟨u,w',rfl,⟨t,rfl⟩,⟨t',rfl⟩⟩:=vals2 r
 have h64:j.natAbs<2 ^ 64:=by lia
 have hlog:j.natAbs.log2<9000:=by
  have:=(Nat.log2_lt (show j.natAbs≠0 by lia)).mpr h64
  lia
 refine divmod_int (by lia) ?_ (.inl (PyProof.noPylong_of_log2 hlog))
 rw [Int.fdiv_eq_ediv_of_nonneg i (by lia),Int.fmod_eq_emod_of_nonneg i (by lia)]
 have hn:H s.heap.objs.size=none:=I.hok.fresh (Nat.le_refl _)
 refine ⟨.ref s.heap.objs.size,upd H s.heap.objs.size (.tup [.int (i / j),.int (i % j)]),?_,rfl,q _ _ hn (bF hn _) aH⟩
 refine I.laid (fun b o e=>Heap.get?_push_of_some _ e) (Nat.le_refl _) ⟨by simp only [List.length_cons,List.length_nil];rw [sizeLine_eq];decide,[.int (i / j) s.toks,.int (i % j) (s.toks+1)],.cons ⟨_,rfl⟩ (.cons ⟨_,rfl⟩ .nil),?_⟩
 exact .of (Heap.get?_push_size s.heap rfl) rfl ⟨_,Heap.get?_push_size s.heap rfl,rfl,0,rfl⟩
end L2
namespace PySem
section
variable {prog:Program} {w:World} {A:Around} {E:Value→Shared→Prop} {s:Shared}
end
section
variable {prog:Program} {w:World} {κ:Type} [DecidableEq κ] {knd:KeyKind prog w κ}
end
end PySem
namespace PySem
section
variable {prog:Program} {w:World} {A:Around} {E:Value→Shared→Prop} {s:Shared}
end
section
variable {prog:Program} {w:World} {κ:Type} [DecidableEq κ] {knd:KeyKind prog w κ} {A:Around} {E:Value→Shared→Prop} {s:Shared}
end
end PySem
namespace L2
open PySem PySem.Spec PyProof.Rows
section
variable {X:Cx} {a b:Expr} {ta:TA} {pos p pos2 p2:Pos}
end
end L2
namespace My
open PySem PySem.Spec PyProof.Rows L2
section
variable {P:Program} {w:World} {K:PySem.W.Frag} {mg:Str→Option Value} {base:Heap}
theorem aNm {z:Str} {j:Int} (h0:0≤j) (h1:j<z.length):∃c,z.cps[j.toNat]?=some c:=
 ⟨_,Array.getElem?_eq_getElem (by show j.toNat<z.length;lia)⟩
theorem aFb (x y:Str):(x++y).length=x.length+y.length:=by
 show (x.cps++y.cps).size=_
 rw [Array.size_append]
 rfl
theorem at_of {xs:List V} {j:Int} (h0:0≤j) (h1:j<xs.length):∃v,atI xs j=some v∧v∈xs:=by
 have hj:j.toNat<xs.length:=by lia
 refine ⟨xs[j.toNat],?_,List.getElem_mem hj⟩
 have e2:atI xs ((j.toNat:Nat):Int)=some xs[j.toNat]:=dR (List.getElem?_eq_getElem hj)
 rw [show ((j.toNat:Nat):Int)=j by lia] at e2
 exact e2
def Lets (x:Str):Prop:=∀c∈x.cps,97≤c∧c≤122
theorem aT6:∀k:_root_.Fin 26,inA ⟨#[97+k.val]⟩=true:=by decide +kernel
theorem aV1 {c:Nat} (h1:97≤c) (h2:c≤122):inA ⟨#[c]⟩=true:=by
 have:=aT6 ⟨c - 97,by lia⟩
 simp only at this
 rw [show 97+(c - 97)=c by lia] at this
 exact this
theorem allIn_of {x:Str} (h:Lets x):allIn x=true:=by
 unfold allIn
 rw [List.all_eq_true]
 intro b hb
 obtain ⟨i,hi,rfl⟩:=List.mem_map.mp hb
 have hi':i<x.cps.size:=List.mem_range.mp hi
 have e:x.cps.getD i 0=x.cps[i]:=by rw [Array.getD_eq_getD_getElem?,Array.getElem?_eq_getElem hi'];rfl
 obtain ⟨h1,h2⟩:=h _ (Array.getElem_mem hi')
 show inA (sgn x i)=true
 unfold sgn
 rw [e]
 exact aV1 h1 h2
theorem Lets.add {x y:Str} (hx:Lets x) (hy:Lets y):Lets (x++y):=fun c hc=>by
 have hc:c∈x.cps++y.cps:=hc
 rcases Array.mem_append.mp hc with h|h
 ·exact hx c h
 ·exact hy c h
theorem Lets.one {z:Str} {i c:Nat} (hz:Lets z) (h:z.cps[i]?=some c):Lets ⟨#[c]⟩:=fun d hd=>by
 have hd:d∈#[c]:=hd
 have e:d=c:=by simpa using hd
 subst e
 exact hz _ (Array.mem_of_getElem? h)
theorem aHm:Lets abc:=by
 have h:(abc.cps.all fun c=>decide (97≤c) && decide (c≤122))=true:=by decide +kernel
 intro c hc
 have:=(Array.all_eq_true_iff_forall_mem.mp h) c hc
 rw [Bool.and_eq_true] at this
 exact ⟨of_decide_eq_true this.1,of_decide_eq_true this.2⟩
inductive xQ:Str→V→Prop
 |num {i}:xQ "number" (.int i)
 |wrd {x}:Lets x→x.length≤8→xQ "word" (.str x)
def aEz (K:PySem.W.Frag):Sp:=fun vs H Q _=>∃(a:Addr) (ns:List Int),vs=[.ref a]∧SqL K H a (ns.map V.int)∧ns.length≤63∧∀c H',Same H H'→0≤c→c<M61→Q (.int c) H'
theorem aDp (T:Txt w K mg):Ok P w K mg base 1 "_law_seed" ["_law_script"] (aEz K):=by
 refine Ok.ofV T.aIc iU (fun vs H Q E h=>?_) (fun f cdv A outer s H vs Q E hr h=>?_)
 ·obtain ⟨a,ns,rfl,_⟩:=h;rfl
 obtain ⟨a,ns,rfl,ha,h63,q⟩:=h
 refine ⟨_,(aC (aW (i:=1) iU.nd rfl (by trivial) aD) (aC (fQ PassesOwn.never rfl (aTn (by rfl) T.aIf (aB (vv 0) aA)) (tW rfl (bL (aL (i:=2) iU.nd rfl (by trivial)) (bL (aL (i:=3) iU.nd rfl (by trivial)) eQ))) (aG (aW (i:=1) iU.nd rfl (by trivial) (cD tZ (cD iY (cD iY (cD iY (cD aFi (vv 1) aD) (cD tZ (vv 3) (cD aJ6 aD aD))) (cD aFi aD (vv 2))) aD) aD)))) (aG (aN (vv 1))))),?_⟩
 refine ⟨_,rfl,a,ns.map V.int,rfl,ha,aQ8 (fun i σ H'=>Same H H'∧∃(c:Int) (l2 l3:Option V),0≤c∧c<M61∧σ=[some (.ref a),some (.int c),l2,l3]) ⟨Same.refl H,7,_,_,by decide,by decide,rfl⟩ (fun i σ H' _ ⟨e,_⟩=>e.seq ha) ?_ ?_⟩
 ·rintro i σ H' x Tp H'' ex ⟨sm,c,l2,l3,c0,c1,rfl⟩ hT rfl
  obtain ⟨z,hz,rfl⟩:=iD ex
  refine ⟨Tp,_,rfl,SqT.of aH,rfl,_,_,rfl,_,_,rfl,rfl,?_⟩
  refine ⟨_,rfl,_,_,rfl,rfl,.inr ⟨by decide,by decide⟩,_,rfl,_,_,rfl,rfl,⟨by decide,by decide,by decide⟩,_,_,rfl,rfl,(by show (0:Int)<10 ^ 30;decide),_,_,rfl,rfl,_,rfl,_,_,rfl,rfl,.inl ⟨by decide,by decide⟩,_,_,rfl,rfl,_,_,rfl,rfl,_,_,rfl,rfl,(by show (0:Int)<2305843009213693951;decide),?_⟩
  exact ⟨sm.trans (bF hT _),_,_,_,Int.emod_nonneg _ (by decide),Int.emod_lt_of_pos _ (by decide),rfl⟩
 ·rintro σ H' ⟨sm,c,l2,l3,c0,c1,rfl⟩
  exact ⟨_,rfl,q c H' sm c0 c1⟩
def mZ:Sp:=fun vs H Q _=>∃(a:Addr) (m:Int),vs=[.ref a,.int m]∧mQ H a∧(0<m∧m<2 ^ 64)∧∀c H',Fx a H H'→0≤c→c<m→Q (.int c) H'
theorem aGe (T:Txt w K mg):Ok P w K mg base 1 "_law_next" ["_law_state","_law_many"] mZ:=by
 refine Ok.ofV T.aIp vL (fun vs H Q E h=>?_) (fun f cdv A outer s H vs Q E hr h=>?_)
 ·obtain ⟨a,m,rfl,_⟩:=h;rfl
 obtain ⟨a,m,rfl,⟨st,dg,hs,s0,d0⟩,⟨hm,hm2⟩,q⟩:=h
 refine ⟨_,(aC (bW (aY aM4 (aK aX (vv 0) aD (fun _ _=>rfl)) aD (bI _)) (aC (aFz (aR aPg (by rfl) T.aR4 aPo (aB (aK aX (vv 0) aD (fun _ _=>rfl)) (aB (vv 1) aA))) (tW rfl (bL (aRb (vv 0) aD set_list) (bL (aL (i:=2) vL.nd rfl (by trivial)) eQ)))) (aG (aN (vv 2)))) bA) (aC (aFz (cD tZ (cD iY (cD aFi (aK aX (vv 0) aD (fun _ _=>rfl)) aD) aD) aD) (aRb (vv 0) aD set_list)) (aG (aN (cD tZ (cD aMj (aK aX (vv 0) aD (fun _ _=>rfl)) aD) (vv 1)))))),?_⟩
 refine ⟨_,rfl,a,_,1,_,rfl,rfl,SqL.of hs,at1 _ _ _,_,_,rfl,rfl,_,rfl,aBh (fun c=>?_) fun c=>?_⟩
 ·refine ⟨_,rfl,a,_,1,_,rfl,rfl,SqL.of hs,at1 _ _ _,_,rfl,_,_,rfl,⟨hm,hm2⟩,fun p H1 fp s1 g1=>?_⟩
  refine ⟨p,_,rfl,SqT.of g1,rfl,_,_,rfl,⟨_,rfl,a,_,1,1,rfl,rfl,s1 _ _ hs,rfl,?_⟩⟩
  refine ⟨_,_,rfl,rfl,_,rfl,?_⟩
  exact q _ _ ⟨fun b o n h=>by rw [aV n];exact s1 _ _ h,st,dg / m,aH,s0,Int.ediv_nonneg d0 (by lia)⟩ (Int.emod_nonneg _ (by lia)) (Int.emod_lt_of_pos _ hm)
 ·refine ⟨_,rfl,a,_,0,_,rfl,rfl,SqL.of hs,at0 _ _,_,_,rfl,rfl,.inr ⟨by decide,by decide⟩,_,_,rfl,rfl,_,_,rfl,rfl,(by show (0:Int)<2305843009213693951;decide),?_⟩
  refine ⟨_,rfl,a,_,0,0,rfl,rfl,hs,rfl,?_⟩
  refine ⟨_,rfl,a,[.int ((st * 1181783497276652981+12345678910987) % 2305843009213693951),.int dg],0,_,rfl,rfl,SqL.of aH,at0 _ _,_,_,rfl,rfl,⟨by decide,by decide⟩,_,rfl,_,_,rfl,rfl,hm,?_⟩
  exact q _ _ ⟨fun b o n h=>by rw [aV n];exact h,(st * 1181783497276652981+12345678910987) % 2305843009213693951,dg,aH,⟨Int.emod_nonneg _ (by decide),Int.emod_lt_of_pos _ (by decide)⟩,d0⟩ (Int.emod_nonneg _ (by lia)) (Int.emod_lt_of_pos _ hm)
def aH7 (K:PySem.W.Frag):Sp:=fun vs H Q _=>∃(a:Addr) (ns:List Int),vs=[.ref a]∧SqL K H a (ns.map V.int)∧ns.length≤63∧∀p H',H p=none→Same H H'→mQ H' p→Q (.ref p) H'
theorem aBu (T:Txt w K mg) (aI9:Ok P w K mg base 1 "_law_seed" ["_law_script"] (aEz K)):Ok P w K mg base 2 "_law_begin" ["_law_script"] (aH7 K):=by
 refine Ok.ofV T.aDy nQ (fun vs H Q E h=>?_) (fun f cdv A outer s H vs Q E hr h=>?_)
 ·obtain ⟨a,ns,rfl,_⟩:=h;rfl
 obtain ⟨a,ns,rfl,ha,h63,q⟩:=h
 refine ⟨_,(aC (aW (i:=1) nQ.nd rfl (by trivial) aD) (aC (bW (VW.pt (aJx (aY aM4 (aR bC (by rfl) T.eY cP (aB (vv 0) aA)) aD (bI _)) (aEw (aY dC (cD tZ (aK aX (vv 0) aD (fun _ _=>rfl)) aD) aD (bI _))))) (aG (aW (i:=1) nQ.nd rfl (by trivial) (cD aMj (aR aR9 (by rfl) T.aYu aXj (aB (aK aX (vv 0) aD (fun _ _=>rfl)) aA)) aD))) bA) (aG (aN (cU (aB (aO (aI9.mono (by decide)) hr (by rfl) (aB (vv 0) aA)) (aB (vv 1) aA))))))),?_⟩
 have fin:∀dg:Int,0≤dg→∀(σ:L2.St),σ=[some (.ref a),some (.int dg)]→(zK (aVj (cT (nD (aEz K) [] E0 (cT (yX 0) aAu)) (cT (yX 1) aAu)))) { nx:=fun _ H'=>Q V.non H',rt:=Q } σ H:=by
  rintro dg d0 σ rfl
  exact ⟨_,rfl,a,ns,rfl,ha,h63,fun c H1 s1 c0 c1=>⟨_,rfl,(by show 2≤sizeLine;decide),fun p H2 fp s2 g2=>q p H2 (s1.free fp) (s1.trans s2) ⟨c,dg,g2,⟨c0,c1⟩,d0⟩⟩⟩
 refine ⟨_,rfl,a,_,rfl,.inl ha,_,_,rfl,rfl,_,rfl,?_⟩
 cases ns with
 |nil=>exact bK (fin 0 (by decide) _ rfl)
 |cons n r=>
  have e1:decide ((0:Int)<((n::r).map V.int).length)=true:=decide_eq_true (by simp)
  rw [show (decide (((((n::r).map V.int).length:Nat):Int) > 0))=true from e1]
  refine eX ⟨_,rfl,a,_,0,.int n,rfl,rfl,ha,at0 _ _,_,_,rfl,rfl,(by show (0:Int)<2;decide),rfl,_,rfl,aBh (fun c=>?_) fun c=>?_⟩
  ·exact ⟨_,rfl,a,_,0,.int n,rfl,rfl,ha,at0 _ _,_,rfl,_,_,rfl,rfl,⟨by decide,by decide⟩,fin _ (Int.ediv_nonneg (by split <;> lia) (by decide)) _ rfl⟩
  ·exact fin 0 (by decide) _ rfl
def aHu:Sp:=fun vs H Q _=>∃a:Addr,vs=[.ref a]∧mQ H a∧∀i H',Fx a H H'→Q (.int i) H'
theorem aB0 (T:Txt w K mg) (bD:Ok P w K mg base 1 "_law_next" ["_law_state","_law_many"] mZ):Ok P w K mg base 2 "_law_great" ["_law_state"] aHu:=by
 refine Ok.ofV T.aGf jT (fun vs H Q E h=>?_) (fun f cdv A outer s H vs Q E hr h=>?_)
 ·obtain ⟨a,rfl,_⟩:=h;rfl
 obtain ⟨a,rfl,hs,q⟩:=h
 refine ⟨_,(aC (aW (i:=1) jT.nd rfl (by trivial) aD) (aC (fQ PassesOwn.never rfl (dW (by rfl) T.gK (aB aD aA)) (aL (i:=2) jT.nd rfl (by trivial)) (aG (aW (i:=1) jT.nd rfl (by trivial) (cD iY (cD aFi (vv 1) (cD aJ6 aD aD)) (aO (bD.mono (by decide)) hr (by rfl) (aB (vv 0) (aB (cD aJ6 aD aD) aA))))))) (aG (aN (aK aX (cU (aB (vv 1) (aB (cD aLm aD (vv 1)) aA))) (aO (bD.mono (by decide)) hr (by rfl) (aB (vv 0) (aB aD aA))) (fun _ _=>rfl)))))),?_⟩
 refine ⟨_,rfl,by decide,by decide,jG (n:=4) (fun i σ H'=>Fx a H H'∧∃(c:Int) (l2:Option V),σ=[some (.ref a),some (.int c),l2]) ⟨.refl hs,0,_,rfl⟩ ?_ ?_⟩
 ·rintro i σ H' hi ⟨fx,c,l2,rfl⟩
  refine ⟨_,rfl,_,_,rfl,rfl,⟨by decide,by decide,by decide⟩,_,_,rfl,rfl,.inr ⟨by decide,by decide⟩,_,rfl,_,_,rfl,rfl,⟨by decide,by decide,by decide⟩,a,_,rfl,fx.st,(by show (0:Int)<10 ^ 15∧(10:Int) ^ 15<2 ^ 64;decide),fun d H1 f1 _ _=>?_⟩
  exact ⟨_,_,rfl,rfl,fx.trans f1,_,_,rfl⟩
 ·rintro σ H' ⟨fx,c,l2,rfl⟩
  refine ⟨_,rfl,_,rfl,_,_,rfl,rfl,(by show 2≤sizeLine;decide),fun p H1 fp s1 g1=>?_⟩
  refine ⟨_,rfl,a,2,rfl,fx.st.same s1,by decide,fun d H2 f2 d0 d1=>?_⟩
  obtain ⟨v,hv,mv⟩:=at_of (xs:=[.int c,.int (0 - c)]) d0 (by show d<2;lia)
  refine ⟨p,_,_,v,rfl,rfl,SqL.of (f2.same _ _ (fx.st.ne fp) g1),hv,?_⟩
  simp only [List.mem_cons,List.not_mem_nil,or_false] at mv
  rcases mv with rfl|rfl
  ·exact q _ _ ((fx.sm s1).trans f2)
  ·exact q _ _ ((fx.sm s1).trans f2)
abbrev aK3:List V:=[.str "",.str "a",.str "b",.str "ab"]
def aUg (k:Str):Prop:=k = "number"∨k = "word"
def aMr:Sp:=fun vs H Q _=>∃(a:Addr) (kd:Str),vs=[.ref a,.str kd]∧mQ H a∧aUg kd∧∀v H',Fx a H H'→xQ kd v→Q v H'
theorem aLe {v:V} (h:v∈aK3):xQ "word" v:=by
 simp only [aK3,List.mem_cons,List.not_mem_nil,or_false] at h
 have le:∀x:Str,(x.cps.all fun c=>decide (97≤c) && decide (c≤122))=true→Lets x:=fun x hx c hc=>by
  have:=(Array.all_eq_true_iff_forall_mem.mp hx) c hc
  rw [Bool.and_eq_true] at this
  exact ⟨of_decide_eq_true this.1,of_decide_eq_true this.2⟩
 rcases h with rfl|rfl|rfl|rfl
 ·exact .wrd (le _ (by decide +kernel)) (by decide +kernel)
 ·exact .wrd (le _ (by decide +kernel)) (by decide +kernel)
 ·exact .wrd (le _ (by decide +kernel)) (by decide +kernel)
 ·exact .wrd (le _ (by decide +kernel)) (by decide +kernel)
theorem aBn (T:Txt w K mg) (bD:Ok P w K mg base 1 "_law_next" ["_law_state","_law_many"] mZ) (aGh:Ok P w K mg base 2 "_law_great" ["_law_state"] aHu):Ok P w K mg base 3 "_law_value" ["_law_state","_law_kind"] aMr:=by
 refine Ok.ofV T.aFx fZ (fun vs H Q E h=>?_) (fun f cdv A outer s H vs Q E hr h=>?_)
 ·obtain ⟨a,kd,rfl,_⟩:=h;rfl
 obtain ⟨a,kd,rfl,hs,hk,q⟩:=h
 refine ⟨_,(aC (aW (i:=2) fZ.nd rfl (by trivial) (aO (bD.mono (by decide)) hr (by rfl) (aB (vv 0) (aB aD aA)))) (aC (bW (aY dC (vv 1) aU (bI _)) (aG (aN (aK aX (cU (aB (cD aLm (aO (bD.mono (by decide)) hr (by rfl) (aB (vv 0) (aB aD aA))) aD) (aB (aO (aGh.mono (by decide)) hr (by rfl) (aB (vv 0) aA)) aA))) (bO aCt (by rfl) T.aMf aF7 (aB (gO dC (vv 2) aD (bI _)) aA)) (fun _ _=>rfl)))) bA) (aC (bW (aY aYm (vv 2) aD (bI _)) (aG (aN (aK aX (cU (aB aU (aB aU (aB aU (aB aU aA))))) (cD tZ (vv 2) aD) (fun _ _=>rfl)))) bA) (aC (aW (i:=3) fZ.nd rfl (by trivial) aU) (aC (fQ PassesOwn.never rfl (dW (by rfl) T.gK (aB (aO (bD.mono (by decide)) hr (by rfl) (aB (vv 0) (aB aD aA))) aA)) (aL (i:=4) fZ.nd rfl (by trivial)) (aG (aW (i:=3) fZ.nd rfl (by trivial) (cD pM (vv 3) (qO aU (aO (bD.mono (by decide)) hr (by rfl) (aB (vv 0) (aB aD aA))) (fun _ _=>rfl)))))) (aG (aN (vv 3)))))))),?_⟩
 refine ⟨_,rfl,a,10,rfl,hs,by decide,fun way H1 f1 w0 w1=>?_⟩
 rcases hk with rfl|rfl
 ·refine ⟨_,rfl,rfl,_,rfl,eX ?_⟩
  refine ⟨_,rfl,a,4,rfl,f1.st,by decide,fun d H2 f2 d0 d1=>?_⟩
  refine ⟨_,_,rfl,rfl,_,rfl,a,rfl,f2.st,fun g H3 f3=>?_⟩
  refine ⟨(by show 2≤sizeLine;decide),fun p H4 _ s4 g4=>?_⟩
  have fx:=(f1.trans (f2.trans f3)).sm s4
  refine ⟨_,rfl,rfl,.inr ⟨_,rfl,?_⟩⟩
  by_cases e:way=9
  ·rw [decide_eq_true (congrArg V.int e)]
   exact ⟨p,_,_,_,rfl,rfl,SqL.of g4,dR (j:=1) rfl,q _ _ fx .num⟩
  ·rw [decide_eq_false (by intro z;exact e (V.int.inj z))]
   exact ⟨p,_,_,_,rfl,rfl,SqL.of g4,dR (j:=0) rfl,q _ _ fx .num⟩
 ·refine ⟨_,rfl,rfl,_,rfl,bK ?_⟩
  refine ⟨_,rfl,_,_,rfl,rfl,_,rfl,aBh (fun _=>?_) (fun _=>?_)⟩
  ·refine ⟨(by show 4≤sizeLine;decide),fun p H4 _ s4 g4=>?_⟩
   obtain ⟨v,hv,mv⟩:=at_of (xs:=aK3) (j:=way % 4) (by lia) (by show way % 4<4;lia)
   exact ⟨_,rfl,_,_,rfl,rfl,(by show (0:Int)<4;decide),p,_,_,v,rfl,rfl,SqL.of g4,hv,q _ _ (f1.sm s4) (aLe mv)⟩
  ·refine ⟨_,rfl,a,9,rfl,f1.st,by decide,fun n H2 f2 n0 n1=>?_⟩
   refine ⟨_,rfl,by lia,by lia,jG (n:=n.toNat) (fun i σ H'=>Fx a H H'∧∃(x:Str) (l4:Option V),σ=[some (.ref a),some (.str "word"),some (.int way),some (.str x),l4]∧x.length≤i∧Lets x) ⟨f1.trans f2,_,_,rfl,by decide +kernel,fun d hd=>by simp [show (("":Str).cps)=#[] from rfl] at hd⟩ ?_ ?_⟩
   ·rintro i σ H' hi ⟨fx,x,l4,rfl,hl,hx⟩
    have al:abc.length=26:=by decide +kernel
    refine ⟨_,rfl,_,rfl,a,26,rfl,fx.st,by decide,fun d H3 f3 d0 d1=>?_⟩
    obtain ⟨ch,hch⟩:=aNm (z:=abc) d0 (by rw [al];exact d1)
    refine ⟨_,_,_,rfl,rfl,d0,(by lia),(by rw [al];exact d1),hch,_,_,rfl,rfl,?_,fx.trans f3,_,_,rfl,?_,hx.add (aHm.one hch)⟩
    ·show x.length+1≤sizeLine
     exact small (by lia)
    ·rw [aFb]
     show x.length+1≤i+1
     lia
   ·rintro σ H' ⟨fx,x,l4,rfl,hl,hx⟩
    exact ⟨_,rfl,q _ _ fx (.wrd hx (by lia))⟩
def aCv:Sp:=fun vs H Q _=>vs=[]∧∀p H',H p=none→Same H H'→H' p=some (.lst words)→Q (.ref p) H'
theorem aCc (T:Txt w K mg):Ok P w K mg base 1 "_law_words" [] aCv:=by
 refine Ok.ofV T.aFl tE (fun vs H Q E h=>?_) (fun f cdv A outer s H vs Q E hr h=>?_)
 ·obtain ⟨rfl,_⟩:=h;rfl
 obtain ⟨rfl,q⟩:=h
 refine ⟨_,(aC (aW (i:=0) tE.nd rfl (by trivial) (cU (aB aU (aB aU (aB aU (aB aU (aB aU (aB aU (aB aU (aB aU (aB aU aA))))))))))) (aG (aN (cD aP4 (vv 0) (cU (aB aU (aB aU (aB aU (aB aU (aB aU (aB aU (aB aU (aB aU aA))))))))))))),?_⟩
 refine ⟨(by show 9≤sizeLine;decide),fun p1 H1 _ s1 g1=>?_⟩
 refine ⟨_,rfl,(by show 8≤sizeLine;decide),fun p2 H2 _ s2 g2=>?_⟩
 exact ⟨p1,p2,_,_,rfl,rfl,s2 _ _ g1,g2,(by show 9+8≤sizeLine;decide),fun p H3 f3 s3 g3=>q p H3 ((s1.trans s2).free f3) (s1.trans (s2.trans s3)) g3⟩
def sZ (ns:List Str):Prop:=ns.length=17∧(∀n∈ns,Nm n)∧ns.Nodup
theorem sZ.rev {ns:List Str} (h:sZ ns):sZ ns.reverse:=⟨by rw [List.length_reverse];exact h.1,fun n hn=>h.2.1 n (List.mem_reverse.mp hn),List.pairwise_reverse.mpr (h.2.2.imp fun q=>Ne.symm q)⟩
theorem aXs:∀j:_root_.Fin 26,abc.cps[j.val]?=some (97+j.val):=by decide +kernel
theorem aTk {j:Nat} (h:j<26):abc.cps[j]?=some (97+j):=aXs ⟨j,h⟩
def sgl (o:Nat):List Str:=(List.range 17).map fun k=>⟨#[97+(o+k)]⟩
theorem aMc:∀o:_root_.Fin 10,((sgl o.val).all fun n=>nameB (.str n))=true∧(Txt.slice abc (some (o.val:Int)) (some ((o.val:Int)+17))).cps.size=17∧((List.range 17).all fun i=>decide (sgn (Txt.slice abc (some (o.val:Int)) (some ((o.val:Int)+17))) i=⟨#[97+(o.val+i)]⟩))=true:=by decide +kernel
theorem aSx {a b:Nat} (h:(⟨#[a]⟩:Str)=⟨#[b]⟩):a=b:=by
 have:=congrArg (fun x:Str=>x.cps.toList) h
 simpa using this
theorem aQv {o:Nat} (h:o<10):sZ (sgl o):=by
 refine ⟨by simp [sgl],fun n hn=>?_,?_⟩
 ·have:=(aMc ⟨o,h⟩).1
  rw [List.all_eq_true] at this
  exact this n hn
 ·refine List.pairwise_map.mpr (List.Pairwise.imp_of_mem ?_ List.nodup_range)
  intro k l _ _ ne e
  have:=aSx e
  exact ne (by lia)
theorem aUt {o:Nat} (h:o<10):((List.range (Txt.slice abc (some (o:Int)) (some ((o:Int)+17))).cps.size).map fun i=>V.str (sgn (Txt.slice abc (some (o:Int)) (some ((o:Int)+17))) i))=(sgl o).map V.str:=by
 obtain ⟨_,h2,h3⟩:=aMc ⟨o,h⟩
 have h2:(Txt.slice abc (some (o:Int)) (some ((o:Int)+17))).cps.size=17:=h2
 rw [h2]
 unfold sgl
 rw [List.map_map]
 refine List.map_congr_left fun i hi=>?_
 rw [List.all_eq_true] at h3
 have:=of_decide_eq_true (h3 i hi)
 show V.str _=V.str _
 exact congrArg V.str this
def stm (b:Str) (a o:Nat):Nat→List Str:=fun i=>(List.range i).map fun k=>put b a (97+(o+k))
theorem aWe {b:Str} {a o:Nat} (hb:Lets b) (hl:b.length≤7) (ha:a≤b.length) (ho:o<10) (hw:∀w∈words,inV w ((stm b a o 17).map V.str)=false):sZ (stm b a o 17):=by
 refine ⟨by simp [stm],fun n hn=>?_,?_⟩
 ·obtain ⟨k,hk,rfl⟩:=List.mem_map.mp hn
  have hk:=List.mem_range.mp hk
  have hin:inV (.str (put b a (97+(o+k)))) words=false:=by
   cases e:inV (.str (put b a (97+(o+k)))) words with
   |false=>rfl
   |true=>
    exfalso
    unfold inV at e
    rw [List.any_eq_true] at e
    obtain ⟨v,hv,ev⟩:=e
    have hvs:∃z:Str,v=.str z:=by
     simp only [words,List.mem_cons,List.not_mem_nil,or_false] at hv
     rcases hv with rfl|rfl|rfl|rfl|rfl|rfl|rfl|rfl|rfl|rfl|rfl|rfl|rfl|rfl|rfl|rfl|rfl <;> exact ⟨_,rfl⟩
    obtain ⟨z,rfl⟩:=hvs
    have e2:(z == put b a (97+(o+k)))=true:=ev
    have e3:z=put b a (97+(o+k)):=by simpa using e2
    have:=hw _ hv
    rw [wD,decide_eq_false_iff_not] at this
    exact this (by rw [e3];exact hn)
  show ((decide (1≤(put b a (97+(o+k))).length) && (decide ((put b a (97+(o+k))).length≤8) && allIn (put b a (97+(o+k))))) && !inV (.str (put b a (97+(o+k)))) words)=true
  have hL:Lets (put b a (97+(o+k))):=fun c hc=>by
   rcases aTc ha hc with rfl|z
   ·lia
   ·exact hb c z
  rw [zN ha,decide_eq_true (p:=1≤b.length+1) (by lia),decide_eq_true (p:=b.length+1≤8) (by lia),allIn_of hL,hin]
  rfl
 ·refine List.pairwise_map.mpr (List.Pairwise.imp_of_mem ?_ List.nodup_range)
  intro k l _ _ ne e
  have:=aU7 ha e
  exact ne (by lia)
def aSv:Sp:=fun vs H Q _=>∃a:Addr,vs=[.ref a,.int 17]∧mQ H a∧∀p H' ns,Fx a H H'→H p=none→H' p=some (.lst (ns.map V.str))→sZ ns→Q (.ref p) H'
theorem aBx (T:Txt w K mg) (bD:Ok P w K mg base 1 "_law_next" ["_law_state","_law_many"] mZ) (aFn:Ok P w K mg base 1 "_law_words" [] aCv):Ok P w K mg base 2 "_law_names" ["_law_state","_law_many"] aSv:=by
 refine Ok.ofV T.aDs cJ (fun vs H Q E h=>?_) (fun f cdv A outer s H vs Q E hr h=>?_)
 ·obtain ⟨a,rfl,_⟩:=h;rfl
 obtain ⟨a,rfl,hs,q⟩:=h
 refine ⟨_,(aC (aW (i:=2) cJ.nd rfl (by trivial) aU) (aC (aW (i:=3) cJ.nd rfl (by trivial) (aO (bD.mono (by decide)) hr (by rfl) (aB (vv 0) (aB (cD aLm aD (vv 1)) aA)))) (aC (aW (i:=4) cJ.nd rfl (by trivial) aU) (aC (fQ PassesOwn.never rfl (dW (by rfl) T.gK (aB (aO (bD.mono (by decide)) hr (by rfl) (aB (vv 0) (aB aD aA))) aA)) (aL (i:=5) cJ.nd rfl (by trivial)) (aG (aW (i:=4) cJ.nd rfl (by trivial) (cD pM (vv 4) (qO (vv 2) (aO (bD.mono (by decide)) hr (by rfl) (aB (vv 0) (aB aD aA))) (fun _ _=>rfl)))))) (aC (aW (i:=6) cJ.nd rfl (by trivial) (aO (bD.mono (by decide)) hr (by rfl) (aB (vv 0) (aB (cD iY (aR vC (by rfl) T.eY cP (aB (vv 4) aA)) aD) aA)))) (aC (aW (i:=7) cJ.nd rfl (by trivial) (cU aA)) (aC (fQ PassesOwn.never rfl (dW (by rfl) T.gK (aB (vv 1) aA)) (aL (i:=5) cJ.nd rfl (by trivial)) (aG (eF (qH PySem.F.plainAttrs_list PySem.F.slot_list_append PySem.F.type_list_append jE (vv 7) (aB (cD pM (cD pM (jY aEh (vv 4) sG (jQ (vv 6))) (qO (vv 2) (cD iY (vv 3) (vv 5)) (fun _ _=>rfl))) (jY aEh (vv 4) (jQ (vv 6)) sG)) aA))))) (aC (bW (eO (aR (aIa rfl) (by rfl) T.aVw aQi (aB (bN (N:=["_law_word","_law_names_here"]) (by trivial) (cO (aF lE) rfl (by decide +kernel)) rfl (cV (aWt (aFn.mono (by decide)) hr (by rfl))) (fun cl s' H' fp=>⟨(aL (i:=0) (show (["_law_word","_law_names_here"]:List Str).Nodup from by decide +kernel) rfl (Or.inl rfl)),bT,(gO (aKc (K:=K)) (vv 0) (vv 1) (by with_unfolding_all rfl))⟩)) aA))) (aG (aW (i:=7) cJ.nd rfl (by trivial) (bO (aLv rfl) (by rfl) T.zW vO (aB (jY aEh (vv 2) (jQ (vv 3)) (jQ (cD iY (vv 3) (vv 1)))) aA)))) bA) (aC (bW (aY dC (aO (bD.mono (by decide)) hr (by rfl) (aB (vv 0) (aB aD aA))) aD (bI _)) (aG (eF (aSp PySem.F.plainAttrs_list PySem.F.slot_list_reverse PySem.F.type_list_reverse aHv (vv 7)))) bA) (aG (aN (vv 7)))))))))))),?_⟩
 have al:abc.length=26:=by decide +kernel
 refine ⟨_,rfl,_,rfl,_,_,rfl,rfl,a,10,rfl,hs,by decide,fun od H1 f1 o0 o1=>?_⟩
 obtain ⟨o,rfl⟩:∃o:Nat,od=o:=⟨od.toNat,by lia⟩
 have ho:o<10:=by lia
 refine ⟨_,rfl,a,8,rfl,f1.st,by decide,fun n H2 f2 n0 n1=>?_⟩
 refine ⟨_,rfl,by lia,by lia,jG (n:=n.toNat) (fun i σ H'=>Fx a H H'∧∃(x:Str) (l5:Option V),σ=[some (.ref a),some (.int 17),some (.str abc),some (.int (o:Nat)),some (.str x),l5,none,none]∧x.length≤i∧Lets x) ⟨f1.trans f2,_,_,rfl,by decide +kernel,fun d hd=>by simp [show (("":Str).cps)=#[] from rfl] at hd⟩ ?_ ?_⟩
 ·rintro i σ H' hi ⟨fx,x,l5,rfl,hl,hx⟩
  refine ⟨_,rfl,_,rfl,_,rfl,a,26,rfl,fx.st,by decide,fun d H3 f3 d0 d1=>?_⟩
  obtain ⟨ch,hch⟩:=aNm (z:=abc) d0 (by rw [al];exact d1)
  refine ⟨_,_,_,rfl,rfl,d0,(by lia),(by rw [al];exact d1),hch,_,_,rfl,rfl,?_,fx.trans f3,_,_,rfl,?_,hx.add (aHm.one hch)⟩
  ·show x.length+1≤sizeLine
   exact small (by lia)
  ·rw [aFb]
   show x.length+1≤i+1
   lia
 rintro σ H3 ⟨f3,b,l5,rfl,hl,hb⟩
 have hb7:b.length≤7:=by lia
 refine ⟨_,rfl,_,rfl,_,rfl,small (by lia),_,_,rfl,rfl,a,_,rfl,f3.st,(by show (0:Int)<(b.length:Int)+1∧(b.length:Int)+1<2 ^ 64;lia),fun ai H4 f4 a0 a1=>?_⟩
 obtain ⟨at',rfl⟩:∃at':Nat,ai=at':=⟨ai.toNat,by lia⟩
 have ha:at'≤b.length:=by
  have:(at':Int)<(b.length:Int)+1:=a1
  lia
 have fx4:=f3.trans f4
 refine ⟨(by show 0≤sizeLine;decide),fun p H5 fp s5 g5=>?_⟩
 have fp0:H p=none:=fx4.free fp
 have npa:p≠a:=hs.ne fp0
 refine ⟨_,rfl,_,rfl,by decide,by decide,jG (n:=17) (fun i σ H'=>Fx a H H'∧H' p=some (.lst ((stm b at' o i).map V.str))∧∃l5,σ=[some (.ref a),some (.int 17),some (.str abc),some (.int (o:Nat)),some (.str b),l5,some (.int (at':Nat)),some (.ref p)]) ⟨fx4.sm s5,g5,_,rfl⟩ ?_ ?_⟩
 ·rintro i σ H' hi ⟨fx,gp,l5,rfl⟩
  have s1:=Txt.slice_le b none (some ((at':Nat):Int))
  have s2:=Txt.slice_le b (some ((at':Nat):Int)) none
  have ej:((o:Int)+(0+(i:Int))).toNat=o+i:=by lia
  have hch:abc.cps[((o:Int)+(0+(i:Int))).toNat]?=some (97+(o+i)):=by rw [ej];exact aTk (by lia)
  refine ⟨_,rfl,.inl ⟨rfl,_,SqL.of gp⟩,_,rfl,_,rfl,_,rfl,_,rfl,small (by lia),_,rfl,_,rfl,_,rfl,_,_,rfl,rfl,_,_,_,rfl,rfl,(by show 0≤(o:Int)+(0+(i:Int));lia),(by show (o:Int)+(0+(i:Int))<2 ^ 63;lia),(by rw [al];show (o:Int)+(0+(i:Int))<26;lia),hch,_,_,rfl,rfl,?_,_,rfl,_,rfl,_,rfl,_,rfl,small (by lia),_,_,rfl,rfl,?_,?_⟩
  ·show (Txt.slice b none (some ((at':Nat):Int))).length+1≤sizeLine
   exact small (by lia)
  ·rw [aFb]
   show (Txt.slice b none (some ((at':Nat):Int))).length+1+_≤sizeLine
   exact small (by lia)
  refine ⟨p,_,_,rfl,rfl,gp,?_,fx.upd fp0 npa,?_,_,rfl⟩
  ·rw [List.length_map]
   exact wZ (by simp [stm];lia)
  ·rw [aH]
   unfold stm
   rw [List.range_succ,List.map_append,List.map_append]
   rfl
 rintro σ H6 ⟨f6,g6,l5',rfl⟩
 dsimp only [mR,aL2,tB,tCB,cT]
 refine aDd (K:=K) (fun us=>us=words) (fun i _ y=>∃w',words[i]?=some w'∧y=.bl (inV w' ((stm b at' o 17).map V.str))) (fun _ h=>h) (fun _ h=>h) [none,some (.ref p)] ?_ rfl (fun R r=>⟨rfl,fun W H7 _ s7 g7=>r W H7 _ s7 g7 rfl⟩) (fun us e=>by subst e;exact small (by decide)) (fun us e i x ex H' R l sm r=>?_) fun us e D H7 ys s7 g7 hly hR=>?_
 ·exact dO 7 (by decide +kernel) rfl rfl (by trivial)
 ·subst e
  have fl:kW x=true:=by
   have:=aBb
   rw [List.all_eq_true] at this
   exact this x (List.mem_of_getElem? ex)
  exact ⟨_,rfl,_,rfl,p,_,rfl,.inl (SqL.of (sm _ _ g6)),fl,aAo,r _ _ (Same.refl _) ⟨x,ex,rfl⟩⟩
 subst e
 have ey:ys=(words.map fun w'=>inV w' ((stm b at' o 17).map V.str)).map V.bl:=by
  rw [List.map_map]
  refine List.ext_getElem? fun i=>?_
  by_cases hi:i<ys.length
  ·obtain ⟨w',h1,h2⟩:=hR i ys[i] (List.getElem?_eq_getElem hi)
   rw [List.getElem?_eq_getElem hi,List.getElem?_map,h1,h2]
   rfl
  ·rw [List.getElem?_eq_none (by lia),List.getElem?_eq_none (by rw [List.length_map];lia)]
 rw [ey] at g7
 refine ⟨D,_,rfl,SqL.of g7,_,rfl,?_⟩
 have f7:=f6.sm s7
 refine aBh (fun c=>?_) (fun c=>?_)
 ·refine ⟨_,rfl,_,rfl,_,rfl,_,rfl,_,rfl,_,_,rfl,rfl,_,rfl,abc,rfl,small (by rw [al];decide),?_⟩
  refine ⟨_,rfl,?_,fun p2 H8 fp2 s8 g8=>?_⟩
  ·have:=Txt.slice_le abc (some (o:Int)) (some ((o:Int)+17))
   rw [al] at this
   exact Nat.le_trans this (by decide)
  have g8':H8 p2=some (.lst ((sgl o).map V.str)):=by rw [g8];exact congrArg (fun z=>some (HO.lst z)) (aUt ho)
  have f8:=f7.sm s8
  have fp20:H p2=none:=f7.free fp2
  refine ⟨_,rfl,a,2,rfl,f8.st,by decide,fun d H9 f9 d0 d1=>?_⟩
  have g9:=f9.same _ _ (hs.ne fp20) g8'
  refine ⟨rfl,_,rfl,aBh (fun _=>?_) (fun _=>?_)⟩
  ·refine ⟨_,rfl,.inl ⟨rfl,_,SqL.of g9⟩,p2,_,rfl,rfl,g9,?_⟩
   refine ⟨_,rfl,q p2 _ (sgl o).reverse ((f8.trans f9).upd fp20 (hs.ne fp20)) fp20 ?_ (aQv ho).rev⟩
   rw [aH,List.map_reverse]
  ·exact ⟨_,rfl,q p2 _ (sgl o) (f8.trans f9) fp20 g9 (aQv ho)⟩
 ·have hw:∀w'∈words,inV w' ((stm b at' o 17).map V.str)=false:=fun w' hw'=>by
   cases e:inV w' ((stm b at' o 17).map V.str) with
   |false=>rfl
   |true=>
    exfalso
    apply c
    rw [List.any_eq_true]
    exact ⟨true,List.mem_map.mpr ⟨w',hw',e⟩,rfl⟩
  have hn:=aWe hb hb7 ha ho hw
  refine ⟨_,rfl,a,2,rfl,f7.st,by decide,fun d H9 f9 d0 d1=>?_⟩
  have g9:=f9.same _ _ npa (s7 _ _ g6)
  refine ⟨rfl,_,rfl,aBh (fun _=>?_) (fun _=>?_)⟩
  ·refine ⟨_,rfl,.inl ⟨rfl,_,SqL.of g9⟩,p,_,rfl,rfl,g9,?_⟩
   refine ⟨_,rfl,q p _ (stm b at' o 17).reverse ((f7.trans f9).upd fp0 npa) fp0 ?_ hn.rev⟩
   rw [aH,List.map_reverse]
  ·exact ⟨_,rfl,q p _ (stm b at' o 17) (f7.trans f9) fp0 g9 hn⟩
def aS8 (hd:Hdr):Prop:=Good hd∧∀c∈hd,Nm c.1∧aUg c.2
def aIl (K:PySem.W.Frag):Sp:=fun vs H Q _=>∃(a N:Addr) (ns:List Str),vs=[.ref a,.ref N]∧mQ H a∧H N=some (.lst (ns.map V.str))∧N≠a∧sZ ns∧∀v H' hd,Fx a H H'→cZ K H' v hd→aS8 hd→hd.length≤4→Q v H'
theorem aV7 {α:Type} {l:List α} (h:l.Nodup) {i j:Nat} {x:α} (h1:l[i]?=some x) (h2:l[j]?=some x):i=j:=by
 have hp:=List.pairwise_iff_getElem.mp h
 obtain ⟨hi,e1⟩:=List.getElem?_eq_some_iff.mp h1
 obtain ⟨hj,e2⟩:=List.getElem?_eq_some_iff.mp h2
 rcases Nat.lt_trichotomy i j with q|q|q
 ·exact absurd (e1.trans e2.symm) (hp i j hi hj q)
 ·exact q
 ·exact absurd (e2.trans e1.symm) (hp j i hj hi q)
theorem aZl {α:Type} {l:List α} (h:∀(i j:Nat) (x:α),l[i]?=some x→l[j]?=some x→i=j):l.Nodup:=by
 refine List.pairwise_iff_getElem.mpr fun i j hi hj hij e=>?_
 have:=h i j l[i] (List.getElem?_eq_getElem hi) (by rw [List.getElem?_eq_getElem hj,e])
 lia
theorem aRr {ns:List Str} (hn:sZ ns) {st:Nat} {hd:Hdr} (hl:hd.length≤8) (h:∀(j:Nat) (c:Str × Str),hd[j]?=some c→ns[3+(st+j) % 8]?=some c.1):(hd.map (·.1)).Nodup:=by
 refine aZl fun i j x h1 h2=>?_
 have g:∀k,(hd.map (·.1))[k]?=some x→k<hd.length∧ns[3+(st+k) % 8]?=some x:=fun k hk=>by
  rw [List.getElem?_map] at hk
  cases e:hd[k]? with
  |none=>rw [e] at hk;cases hk
  |some c=>
   rw [e] at hk
   cases hk
   exact ⟨(List.getElem?_eq_some_iff.mp e).1,h k c e⟩
 obtain ⟨l1,g1⟩:=g i h1
 obtain ⟨l2,g2⟩:=g j h2
 have:=aV7 hn.2.2 g1 g2
 lia
theorem aFr (T:Txt w K mg) (bD:Ok P w K mg base 1 "_law_next" ["_law_state","_law_many"] mZ):Ok P w K mg base 2 "_law_head" ["_law_state","_law_names_here"] (aIl K):=by
 refine Ok.ofV T.aHh iZ (fun vs H Q E h=>?_) (fun f cdv A outer s H vs Q E hr h=>?_)
 ·obtain ⟨a,N,ns,rfl,_⟩:=h;rfl
 obtain ⟨a,N,ns,rfl,hs,hN,nN,hn,q⟩:=h
 refine ⟨_,(aC (aW (i:=2) iZ.nd rfl (by trivial) (aO (bD.mono (by decide)) hr (by rfl) (aB (vv 0) (aB aD aA)))) (aC (aW (i:=3) iZ.nd rfl (by trivial) (cU aA)) (aC (fQ PassesOwn.never rfl (dW (by rfl) T.gK (aB (cD iY aD (aO (bD.mono (by decide)) hr (by rfl) (aB (vv 0) (aB aD aA)))) aA)) (aL (i:=4) iZ.nd rfl (by trivial)) (aC (aW (i:=5) iZ.nd rfl (by trivial) (aK aX (cU (aB aU (aB aU (aB aU aA)))) (aO (bD.mono (by decide)) hr (by rfl) (aB (vv 0) (aB aD aA))) (fun _ _=>rfl))) (aG (eF (qH PySem.F.plainAttrs_list PySem.F.slot_list_append PySem.F.type_list_append jE (vv 3) (aB (bY (aB (aK aX (vv 1) (cD iY aD (cD tZ (cD iY (vv 2) (vv 4)) aD)) (fun _ _=>rfl)) (aB (vv 5) aA))) aA)))))) (aG (aN (bO cC (by rfl) T.cL cB (aB (vv 3) aA))))))),?_⟩
 have l17:=hn.1
 refine ⟨_,rfl,a,8,rfl,hs,by decide,fun st0 H1 f1 st00 st01=>?_⟩
 obtain ⟨st,rfl⟩:∃st:Nat,st0=st:=⟨st0.toNat,by lia⟩
 refine ⟨(by show 0≤sizeLine;decide),fun p H2 fp s2 g2=>?_⟩
 have f2:=f1.sm s2
 have fp0:H p=none:=f1.free fp
 have npa:p≠a:=hs.ne fp0
 refine ⟨_,rfl,a,4,rfl,f2.st,by decide,fun m H3 f3 m0 m1=>?_⟩
 have f4':=f2.trans f3
 have g4:=f3.same _ _ npa g2
 obtain ⟨z,ez,z1,z7⟩:∃z:Nat,1+m=(z:Int)∧1≤z∧z≤4:=⟨(1+m).toNat,by lia,by lia,by lia⟩
 refine ⟨_,_,rfl,rfl,(z:Int),?_,by lia,by lia,?_⟩
 ·show [V.int (1+m)]=_
  rw [ez]
 rw [Int.toNat_natCast]
 refine jG (n:=z) (fun i σ H'=>Fx a H H'∧∃(us:List V) (hd:Hdr) (l4 l5:Option V),H' p=some (.lst us)∧hd.length=i∧bM (IsC K H') us hd∧(∀(j:Nat) (c:Str × Str),hd[j]?=some c→ns[3+(st+j) % 8]?=some c.1∧aUg c.2)∧σ=[some (.ref a),some (.ref N),some (.int (st:Nat)),some (.ref p),l4,l5]) ⟨f4',[],[],_,_,g4,rfl,.nil,fun j c h=>by simp at h,rfl⟩ ?_ ?_
 ·rintro i σ H' hi ⟨fx,us,hd,l4,l5,gp,hl,hu,hc,rfl⟩
  have lu:=hu.len
  refine ⟨(by show 3≤sizeLine;decide),fun p1 H5 fp1 s5 g5=>?_⟩
  refine ⟨_,rfl,a,3,rfl,fx.st.same s5,by decide,fun d H6 f6 d0 d1=>?_⟩
  obtain ⟨kv,hkv,mkv⟩:=at_of (xs:=[.str "number",.str "number",.str "word"]) d0 (by show d<3;lia)
  obtain ⟨kd,rfl,hkd⟩:∃kd:Str,kv=.str kd∧aUg kd:=by
   simp only [List.mem_cons,List.not_mem_nil,or_false] at mkv
   rcases mkv with rfl|rfl|rfl
   ·exact ⟨_,rfl,.inl rfl⟩
   ·exact ⟨_,rfl,.inl rfl⟩
   ·exact ⟨_,rfl,.inr rfl⟩
  have f6':=(fx.sm s5).trans f6
  refine ⟨p1,_,_,_,rfl,rfl,SqL.of (f6.same _ _ (fx.st.ne fp1) g5),hkv,?_⟩
  have gp6:=f6.same _ _ npa (s5 _ _ gp)
  have hN6:=f6'.same _ _ nN hN
  have hu6:bM (IsC K H6) us hd:=hu.imp fun _ _ ⟨p',ep,hp⟩=>⟨p',ep,f6.aP (fx.st.same s5) (s5.aP hp)⟩
  have hix:3+(st+i) % 8<ns.length:=by lia
  refine ⟨_,rfl,.inl ⟨rfl,_,SqL.of gp6⟩,?_⟩
  refine ⟨_,rfl,_,rfl,_,rfl,_,_,rfl,rfl,_,_,rfl,rfl,(by show (0:Int)<8;decide),_,_,rfl,rfl,N,_,_,.str ns[3+(st+i) % 8],rfl,rfl,SqL.of hN6,?_,_,rfl,(by show 2≤sizeLine;decide),fun t H7 ft s7 g7=>?_⟩
  ·have e8:(3:Int)+((st:Int)+(0+(i:Int))) % 8=((3+(st+i) % 8:Nat):Int):=by lia
   show atI (ns.map V.str) ((3:Int)+((st:Int)+(0+(i:Int))) % 8)=_
   rw [e8]
   exact dR (by rw [List.getElem?_map,List.getElem?_eq_getElem hix];rfl)
  refine ⟨p,_,_,rfl,rfl,s7 _ _ gp6,wZ (by lia),?_⟩
  have ntp:t≠p:=(bB gp6 ft).symm
  refine ⟨(f6'.sm s7).upd fp0 npa,us++[.ref t],hd++[(ns[3+(st+i) % 8],kd)],_,_,aH,by rw [List.length_append,hl];rfl,?_,fun j c h=>?_,rfl⟩
  ·refine (hu6.imp fun _ _ ⟨p',ep,hp⟩=>⟨p',ep,(s7.aP hp).kO (s7 _ _ gp6)⟩).app (.cons ⟨t,rfl,SqT.of (by rw [aV ntp];exact g7)⟩ .nil)
  ·by_cases hj:j<hd.length
   ·rw [List.getElem?_append_left hj] at h
    exact hc j c h
   ·rw [List.getElem?_append_right (by lia)] at h
    have hj0:j - hd.length=0:=by
     by_cases z0:j - hd.length=0
     ·exact z0
     ·rw [List.getElem?_eq_none (by simp;lia)] at h;cases h
    rw [hj0] at h
    cases h
    have:j=i:=by lia
    subst this
    exact ⟨List.getElem?_eq_getElem hix,hkd⟩
 ·rintro σ H' ⟨fx,us,hd,l4,l5,gp,hl,hu,hc,rfl⟩
  refine ⟨_,rfl,p,us,rfl,SqL.of gp,fun t H5 _ s5 g5=>q _ _ hd (fx.sm s5) ⟨t,us,rfl,SqT.of g5,hu.imp fun _ _ h=>h.same s5⟩ ⟨⟨aRr hn (by lia) fun j c h=>(hc j c h).1,by lia,by lia⟩,fun c hcm=>?_⟩ (by lia)⟩
  obtain ⟨j,hj,e⟩:=List.getElem_of_mem hcm
  have h2:=hc j c (by rw [List.getElem?_eq_getElem hj,e])
  exact ⟨hn.2.1 _ (List.mem_of_getElem? h2.1),h2.2⟩
def TK (K:PySem.W.Frag) (H H':Hp):Prop:=∀p xs,SqT K H p xs→SqT K H' p xs
theorem _root_.L2.Fx.tk {K:PySem.W.Frag} {a:Addr} {H H':Hp} (f:Fx a H H') (h:mQ H a):TK K H H':=fun _ _ e=>f.aP h e
theorem IsC.tk {K:PySem.W.Frag} {H H':Hp} {v:V} {c:Str × Str} (e:TK K H H') (h:IsC K H v c):IsC K H' v c:=by
 obtain ⟨p,rfl,hp⟩:=h
 exact ⟨p,rfl,e _ _ hp⟩
theorem aUi {α:Type} {K:PySem.W.Frag} {H H':Hp} {R S:V→α→Prop} {v:V} {xs:List α} (e:TK K H H') (k:∀a b,R a b→S a b) (h:oA K H R v xs):oA K H' S v xs:=by
 obtain ⟨a,vs,rfl,ha,hr⟩:=h
 exact ⟨a,vs,rfl,e _ _ ha,hr.imp k⟩
theorem cZ.tk {K:PySem.W.Frag} {H H':Hp} {v:V} {hd:Hdr} (e:TK K H H') (h:cZ K H v hd):cZ K H' v hd:=aUi e (fun _ _ q=>q.tk e) h
theorem jW.tk {K:PySem.W.Frag} {H H':Hp} {v:V} {t:Str × Str} (e:TK K H H') (h:jW K H v t):jW K H' v t:=by
 obtain ⟨a,rfl,ha,h1⟩:=h
 exact ⟨a,rfl,e _ _ ha,h1⟩
theorem aG4 {hd:Hdr} (nd:(hd.map (·.1)).Nodup) {c:Str × Str} (h:c∈hd):look hd c.1=some c.2:=by
 induction hd with
 |nil=>cases h
 |cons x r ih=>
  rw [List.map_cons,List.nodup_cons] at nd
  unfold look
  rw [List.find?_cons]
  rcases List.mem_cons.mp h with rfl|h
  ·rw [decide_eq_true rfl];rfl
  ·have ne:¬ x.1=c.1:=fun z=>nd.1 (by rw [z];exact List.mem_map.mpr ⟨c,h,rfl⟩)
   rw [decide_eq_false ne]
   exact ih nd.2 h
end
end My
namespace PySem.W
open PySem PySem.Calls PyProof.Rows
structure En where
 κ:SortKind
 it:Array Keyed
def En.i (e:En) (k:Nat):Keyed:=kas_item e.it k
def En.a (e:En) (p:Array Nat):Array Keyed:=p.map (kas_item e.it)
structure Ist where
 p:Array Nat
 pd:Array (Nat × Nat × Nat)
 g:Nat
def Ist.c (t:Ist) (e:En):SortSt:=SortSt.mk' e.κ (e.a t.p) t.pd t.g none
section
variable (n:Nat) (f:Nat→Nat→Bool)
def Det {α β:Type} (m:En→StateT SortSt Sem α) (c:β→En→α) (t:Ist) (P:β→Ist→Prop):Prop:=
 ∃b t',P b t'∧∀(prog:Program) (w:World) (A:Around) (E:Value→Shared→Prop) (e:En) (s:Shared) (Q:α→SortSt→Shared→Prop),
  (∀i j C,i<n→j<n→C (f i j) s→kas_cmp prog w A e.κ e.it i j C s)→Q (c b e) (t'.c e) s→kasC (model prog w) A E (m e) Q (t.c e) s
end
section
variable {n:Nat} {f:Nat→Nat→Bool} {t:Ist} {α β γ δ:Type}
theorem aJ {c:β→En→α} {P:β→Ist→Prop} (b:β) (h:P b t):Det n f (fun e=>pure (c b e)) c t P:=⟨b,t,h,fun _ _ _ _ _ _ _ _ q=>kasC_pure q⟩
theorem aQ {m:En→StateT SortSt Sem α} {k:En→α→StateT SortSt Sem γ} {c:β→En→α} {c':δ→En→γ} {P:β→Ist→Prop} {R:δ→Ist→Prop} (h:Det n f m c t P) (hk:∀b t',P b t'→Det n f (fun e=>k e (c b e)) c' t' R):Det n f (fun e=>m e >>= k e) c' t R:=by
 obtain ⟨b,t1,p,h⟩:=h
 obtain ⟨d,t2,r,hk⟩:=hk b t1 p
 exact ⟨d,t2,r,fun prog w A E e s Q hc q=>kasC_bind (h prog w A E e s _ hc (hk prog w A E e s Q hc q))⟩
theorem aZm {m:En→StateT SortSt Sem α} {c:β→En→α} {P R:β→Ist→Prop} (h:Det n f m c t P) (hr:∀b t',P b t'→R b t'):Det n f m c t R:=by
 obtain ⟨b,t1,p,h⟩:=h
 exact ⟨b,t1,hr _ _ p,h⟩
theorem pU {P:Ist→Ist→Prop} (h:P t t):Det n f (fun _=>(get:StateT SortSt Sem SortSt)) (fun b e=>b.c e) t P:=⟨t,t,h,fun _ _ _ _ _ _ _ _ q=>kasC_get q⟩
theorem jC {g:En→SortSt→SortSt} {P:PUnit→Ist→Prop} (t':Ist) (hg:∀e,g e (t.c e)=t'.c e) (h:P ⟨⟩ t'):Det n f (fun e=>(modify (g e):StateT SortSt Sem PUnit)) (fun _ _=>⟨⟩) t P:=
 ⟨⟨⟩,t',h,fun _ _ _ _ e _ _ _ q=>kasC_modify (by rw [hg];exact q)⟩
theorem aTe {g:En→SortSt} {P:PUnit→Ist→Prop} (t':Ist) (hg:∀e,g e=t'.c e) (h:P ⟨⟩ t'):Det n f (fun e=>(set (g e):StateT SortSt Sem PUnit)) (fun _ _=>⟨⟩) t P:=
 ⟨⟨⟩,t',h,fun _ _ _ _ e s Q _ q=>by unfold kasC;rw [StateT.run_set];exact wpAny_pure (by rw [hg];exact q)⟩
theorem aQ3 {x:String} {P:Unit→Ist→Prop} (h:P () t):Det n f (fun _=>(liftM (rule x):StateT SortSt Sem Unit)) (fun _ _=>()) t P:=⟨(),t,h,fun _ _ _ _ _ _ _ _ q=>kasC_lift (wpAny_rule q)⟩
theorem aFf {i j:Nat} (hi:i<n) (hj:j<n) {P:Bool→Ist→Prop} (h:P (f i j) t):Det n f (fun e=>lt' (e.i i) (e.i j)) (fun b _=>some b) t P:=
 ⟨f i j,t,h,fun prog w A E e s Q hc q=>by
  show kasC _ _ _ (lt' _ _) _ _ _
  rw [lt'_eq]
  refine kasC_bind (kasC_get ?_)
  refine kasC_bind (kasC_lift (wpAny_attempt (wpAny_mono (hc i j (fun c s'=>Q (some c) (t.c e) s') hi hj q) (fun c s' hq=>?_) fun _ _ hF=>hF.elim)))
  exact kasC_pure hq⟩
theorem aHa {p:Array Nat} {i:Nat} (hi:i<p.size) {P:Nat→Ist→Prop} (h:P p[i] t):Det n f (fun e=>elem' (e.a p) i) (fun b e=>e.i b) t P:=
 ⟨p[i],t,h,fun prog w A E e s Q hc q=>by
  show kasC _ _ _ (elem' _ _) _ _ _
  rw [elem'_eq]
  have:(e.a p)[i]?=some (e.i p[i]):=by show (p.map _)[i]?=_;simp [hi];rfl
  rw [this]
  exact kasC_pure q⟩
def cstep (c:β→En→γ) (r:ForInStep β) (e:En):ForInStep γ:=match r with
 |.done b=>.done (c b e)
 |.yield b=>.yield (c b e)
def pstep (I F:β→Ist→Prop) (r:ForInStep β) (t:Ist):Prop:=match r with
 |.done b=>F b t
 |.yield b=>I b t
theorem aIk {body:En→Nat→γ→StateT SortSt Sem (ForInStep γ)} (c:β→En→γ) (I:Nat→β→Ist→Prop) (F:β→Ist→Prop) (hF:∀b t,I 0 b t→F b t):∀(l:List Nat) (b:β) (t:Ist),I l.length b t →
  (∀k x b t,k<l.length→I (k+1) b t→Det n f (fun e=>body e x (c b e)) (cstep c) t (pstep (I k) F))→Det n f (fun e=>forIn l (c b e) (body e)) c t F
 |[],b,t,h,hs=>⟨b,t,hF b t h,fun _ _ _ _ _ _ _ _ q=>kasC_nil q⟩
 |x::l,b,t,h,hs=>by
  obtain ⟨r,t1,p,h1⟩:=hs l.length x b t (Nat.lt_succ_self _) h
  cases r with
  |done b'=>exact ⟨b',t1,p,fun prog w A E e s Q hc q=>kasC_cons (h1 prog w A E e s _ hc q)⟩
  |yield b'=>
   obtain ⟨b2,t2,p2,h2⟩:=aIk c I F hF l b' t1 p (fun k x b t hk=>hs k x b t (Nat.lt_succ_of_lt hk))
   exact ⟨b2,t2,p2,fun prog w A E e s Q hc q=>kasC_cons (h1 prog w A E e s _ hc (h2 prog w A E e s Q hc q))⟩
theorem cI {lo hi:Nat} {body:En→Nat→γ→StateT SortSt Sem (ForInStep γ)} (c:β→En→γ) (I:Nat→β→Ist→Prop) (F:β→Ist→Prop) {b:β} (h:I (hi - lo) b t) (hF:∀b t,I 0 b t→F b t)
  (hs:∀k x b t,k<hi - lo→I (k+1) b t→Det n f (fun e=>body e x (c b e)) (cstep c) t (pstep (I k) F)):Det n f (fun e=>forIn [lo:hi] (c b e) (body e)) c t F:=by
 have hl:(List.range' lo (hi - lo)).length=hi - lo:=List.length_range'
 obtain ⟨b',t',p,hd⟩:=aIk (n:=n) (f:=f) (body:=body) c I F hF (List.range' lo (hi - lo)) b t (by rw [hl];exact h) (fun k x b t hk=>hs k x b t (by rw [hl] at hk;exact hk))
 exact ⟨b',t',p,fun prog w A E e s Q hc q=>kasC_range (hd prog w A E e s Q hc q)⟩
def aM8:Bool→Keyed→Array Keyed→Nat→Nat→Nat→StateT SortSt Sem (Option Nat):=sortPriv% PySem.Builtin.gallop
def aIg:Array Keyed→Array Keyed→StateT SortSt Sem (Array Keyed):=sortPriv% PySem.Builtin.mergeLo
def aGz:Array Keyed→Array Keyed→StateT SortSt Sem (Array Keyed):=sortPriv% PySem.Builtin.mergeHi
def Lw (n:Nat) (p:Array Nat):Prop:=∀i (h:i<p.size),p[i]<n
theorem aLo {left:Bool} {kx:Nat} {p:Array Nat} {base nn hint:Nat} (hk:kx<n) (hp:Lw n p) (hb:base+nn≤p.size) (hh:hint<nn) {P:Nat→Ist→Prop} (h:∀k,k≤nn→P k t) :
  Det n f (fun e=>aM8 left (e.i kx) (e.a p) base nn hint) (fun k _=>some k) t P:=by
 have beyond:∀i,i<nn→∀t,Det n f (fun e=>(do let x ←elem' (e.a p) (base+i);if left then lt' x (e.i kx) else return (←lt' (e.i kx) x).map (!·))) (fun (b:Bool) _=>some b) t (fun _ t'=>t'=t):=by
  intro i hi t
  refine aQ (aHa (P:=fun b t'=>b<n∧t'=t) (by lia) ⟨hp _ _,rfl⟩) fun b t' ⟨hb,et⟩=>?_
  subst et
  cases left with
  |true=>exact aFf hb hk rfl
  |false=>exact aQ (aFf (P:=fun _ t''=>t''=t') hk hb rfl) fun b t'' et=>by subst et;exact aJ (c:=fun (b:Bool) (_:En)=>some b) (!b) rfl
 unfold aM8
 refine aQ (beyond hint hh t) fun r t' et=>?_
 subst et
 dsimp only
 cases r with
 |true=>
  refine aQ (cI (β:=Option (Option Nat) × Nat × Nat) (b:=(none,0,1)) (fun b _=>b) (fun _ b t=>t=t'∧b.1=none) (fun b t=>t=t'∧b.1=none) ⟨rfl,rfl⟩ (fun _ _ h=>h) fun k x b t _ ⟨et,e1⟩=>?_) fun b t ⟨et,e1⟩=>?_
  ·obtain ⟨r1,la,of⟩:=b
   subst et
   cases e1
   dsimp only
   by_cases hlt:of ≥ nn - hint
   ·simp only [if_pos hlt]
    exact aJ (c:=cstep fun b _=>b) (.done (none,la,of)) ⟨rfl,rfl⟩
   ·simp only [if_neg hlt]
    refine aQ (beyond _ (by lia) _) fun more t2 et=>?_
    subst et
    dsimp only
    cases more with
    |true=>exact aJ (c:=cstep fun b _=>b) (.yield (none,of,_)) ⟨rfl,rfl⟩
    |false=>exact aJ (c:=cstep fun b _=>b) (.done (none,la,of)) ⟨rfl,rfl⟩
  ·obtain ⟨r1,la,of⟩:=b
   subst et
   cases e1
   have hhi:hint+min of (nn - hint)≤nn:=by lia
   refine aQ (cI (β:=Option (Option Nat) × Nat × Nat) (b:=(none,hint+la+1,hint+min of (nn - hint))) (fun b _=>b) (fun _ b t'=>t'=t∧b.1=none∧b.2.2≤nn) (fun b t'=>t'=t∧b.1=none∧b.2.2≤nn) ⟨rfl,rfl,hhi⟩ (fun _ _ h=>h) fun k x b t' _ ⟨et,e1,e2⟩=>?_) fun b t' ⟨et,e1,e2⟩=>?_
   ·obtain ⟨r1,lo1,hi1⟩:=b
    subst et
    cases e1
    dsimp only at e2 ⊢
    by_cases hlt:lo1 ≥ hi1
    ·simp only [if_pos hlt]
     exact aJ (c:=cstep fun b _=>b) (.done (none,lo1,hi1)) ⟨rfl,rfl,e2⟩
    ·simp only [if_neg hlt]
     refine aQ (beyond _ (by lia) _) fun more t2 et=>?_
     subst et
     dsimp only
     cases more with
     |true=>exact aJ (c:=cstep fun b _=>b) (.yield (none,_,hi1)) ⟨rfl,rfl,e2⟩
     |false=>exact aJ (c:=cstep fun b _=>b) (.yield (none,lo1,_)) ⟨rfl,rfl,by dsimp only;lia⟩
   ·obtain ⟨r1,lo1,hi1⟩:=b
    subst et
    cases e1
    exact aJ (c:=fun (k:Nat) (_:En)=>some k) hi1 (h _ e2)
 |false=>
  refine aQ (cI (β:=Option (Option Nat) × Nat × Nat) (b:=(none,0,1)) (fun b _=>b) (fun _ b t=>t=t'∧b.1=none) (fun b t=>t=t'∧b.1=none) ⟨rfl,rfl⟩ (fun _ _ h=>h) fun k x b t _ ⟨et,e1⟩=>?_) fun b t ⟨et,e1⟩=>?_
  ·obtain ⟨r1,la,of⟩:=b
   subst et
   cases e1
   dsimp only
   by_cases hlt:of ≥ hint+1
   ·simp only [if_pos hlt]
    exact aJ (c:=cstep fun b _=>b) (.done (none,la,of)) ⟨rfl,rfl⟩
   ·simp only [if_neg hlt]
    refine aQ (beyond _ (by lia) _) fun more t2 et=>?_
    subst et
    dsimp only
    cases more with
    |false=>exact aJ (c:=cstep fun b _=>b) (.yield (none,of,_)) ⟨rfl,rfl⟩
    |true=>exact aJ (c:=cstep fun b _=>b) (.done (none,la,of)) ⟨rfl,rfl⟩
  ·obtain ⟨r1,la,of⟩:=b
   subst et
   cases e1
   have hhi:hint - la≤nn:=by lia
   refine aQ (cI (β:=Option (Option Nat) × Nat × Nat) (b:=(none,hint+1 - min of (hint+1),hint - la)) (fun b _=>b) (fun _ b t'=>t'=t∧b.1=none∧b.2.2≤nn) (fun b t'=>t'=t∧b.1=none∧b.2.2≤nn) ⟨rfl,rfl,hhi⟩ (fun _ _ h=>h) fun k x b t' _ ⟨et,e1,e2⟩=>?_) fun b t' ⟨et,e1,e2⟩=>?_
   ·obtain ⟨r1,lo1,hi1⟩:=b
    subst et
    cases e1
    dsimp only at e2 ⊢
    by_cases hlt:lo1 ≥ hi1
    ·simp only [if_pos hlt]
     exact aJ (c:=cstep fun b _=>b) (.done (none,lo1,hi1)) ⟨rfl,rfl,e2⟩
    ·simp only [if_neg hlt]
     refine aQ (beyond _ (by lia) _) fun more t2 et=>?_
     subst et
     dsimp only
     cases more with
     |true=>exact aJ (c:=cstep fun b _=>b) (.yield (none,_,hi1)) ⟨rfl,rfl,e2⟩
     |false=>exact aJ (c:=cstep fun b _=>b) (.yield (none,lo1,_)) ⟨rfl,rfl,by dsimp only;lia⟩
   ·obtain ⟨r1,lo1,hi1⟩:=b
    subst et
    cases e1
    exact aJ (c:=fun (k:Nat) (_:En)=>some k) hi1 (h _ e2)
end
end PySem.W
namespace PySem.W
open PySem PySem.Calls PyProof.Rows
theorem nC (e:En) (p:Array Nat):(e.a p).size=p.size:=by unfold En.a;simp
theorem rU (e:En) (p:Array Nat) (i:Nat):(e.a p).push (e.i i)=e.a (p.push i):=by unfold En.a En.i;simp
theorem wM (e:En) (p q:Array Nat):e.a p++e.a q=e.a (p++q):=by unfold En.a;simp
theorem tK (e:En) (p:Array Nat) (i j:Nat):(e.a p).extract i j=e.a (p.extract i j):=by unfold En.a;simp
theorem aAr (e:En) (p:Array Nat):(e.a p).reverse=e.a p.reverse:=by unfold En.a;simp
theorem wN (e:En) (i:Nat):#[e.i i]=e.a #[i]:=by unfold En.a En.i;simp
section
variable {n:Nat} {f:Nat→Nat→Bool} {t:Ist} {α β γ δ τ:Type}
theorem Lw.push {p:Array Nat} {i:Nat} (h:Lw n p) (hi:i<n):Lw n (p.push i):=fun j hj=>by
 rw [Array.getElem_push]
 split
 ·exact h _ _
 ·exact hi
theorem Lw.app {p q:Array Nat} (h:Lw n p) (hq:Lw n q):Lw n (p++q):=fun j hj=>by
 rw [Array.getElem_append]
 split
 ·exact h _ _
 ·exact hq _ _
theorem Lw.ext {p:Array Nat} (h:Lw n p) (i j:Nat):Lw n (p.extract i j):=fun k hk=>by
 rw [Array.getElem_extract]
 exact h _ _
theorem Lw.rev {p:Array Nat} (h:Lw n p):Lw n p.reverse:=fun k hk=>by
 rw [Array.getElem_reverse]
 exact h _ _
theorem Lw.one {i:Nat} (h:i<n):Lw n #[i]:=fun k hk=>by
 have:k=0:=by simp at hk;exact hk
 subst this
 exact h
theorem dB {c:Prop} {d:En→Decidable c} {A B:En→StateT SortSt Sem α} {k:β→En→α} {P:β→Ist→Prop} (h1:c→Det n f A k t P) (h2:¬ c→Det n f B k t P):Det n f (fun e=>@ite _ c (d e) (A e) (B e)) k t P:=by
 by_cases h:c
 ·simp only [if_pos h];exact h1 h
 ·simp only [if_neg h];exact h2 h
def cM (b:Option (Array Nat) × Array Nat × τ) (e:En):Option (Array Keyed) × Array Keyed × τ:=(b.1.map e.a,e.a b.2.1,b.2.2)
theorem aS7 {r o:Array Nat} {x:τ} {I F} (h:F (some r,o,x) t):Det n f (fun e=>pure (ForInStep.done (some (e.a r),e.a o,x))) (cstep cM) t (pstep I F):=aJ (c:=cstep cM) (.done (some r,o,x)) h
theorem aZp {o:Array Nat} {x:τ} {I F} (h:F (none,o,x) t):Det n f (fun e=>pure (ForInStep.done (none,e.a o,x))) (cstep cM) t (pstep I F):=aJ (c:=cstep cM) (.done (none,o,x)) h
theorem aXh {o:Array Nat} {x:τ} {I F} (h:I (none,o,x) t):Det n f (fun e=>pure (ForInStep.yield (none,e.a o,x))) (cstep cM) t (pstep I F):=aJ (c:=cstep cM) (.yield (none,o,x)) h
def St0 (t t':Ist):Prop:=t'.p=t.p∧t'.pd=t.pd
theorem cX {p:Array Nat} {i:Nat} {k:En→Keyed→StateT SortSt Sem γ} {c':δ→En→γ} {R:δ→Ist→Prop} (hp:Lw n p) (hi:i<p.size) (h:∀b,b<n→Det n f (fun e=>k e (e.i b)) c' t R):Det n f (fun e=>(sortPriv% PySem.Builtin.elem) (e.a p) i >>= k e) c' t R:=
 aQ (aHa (P:=fun b t'=>b<n∧t'=t) hi ⟨hp _ _,rfl⟩) fun b t' ⟨hb,et⟩=>by subst et;exact h b hb
theorem rR {i j:Nat} {k:En→Option Bool→StateT SortSt Sem γ} {c':δ→En→γ} {R:δ→Ist→Prop} (hi:i<n) (hj:j<n) (h:∀b,Det n f (fun e=>k e (some b)) c' t R):Det n f (fun e=>(sortPriv% PySem.Builtin.lt) (e.i i) (e.i j) >>= k e) c' t R:=
 aQ (aFf (P:=fun _ t'=>t'=t) hi hj rfl) fun b t' et=>by subst et;exact h b
theorem eV {x:String} {k:En→Unit→StateT SortSt Sem γ} {c':δ→En→γ} {R:δ→Ist→Prop} (h:Det n f (fun e=>k e ()) c' t R):Det n f (fun e=>(liftM (rule x):StateT SortSt Sem Unit) >>= k e) c' t R:=
 aQ (aQ3 (P:=fun _ t'=>t'=t) rfl) fun b t' et=>by subst et;exact h
theorem nW {left:Bool} {kx:Nat} {p:Array Nat} {base nn hint:Nat} {k:En→Option Nat→StateT SortSt Sem γ} {c':δ→En→γ} {R:δ→Ist→Prop} (hk:kx<n) (hp:Lw n p) (hb:base+nn≤p.size) (hh:hint<nn) (h:∀b,b≤nn→Det n f (fun e=>k e (some b)) c' t R) :
  Det n f (fun e=>(sortPriv% PySem.Builtin.gallop) left (e.i kx) (e.a p) base nn hint >>= k e) c' t R:=
 aQ (aLo (P:=fun b t'=>b≤nn∧t'=t) hk hp hb hh fun k hk=>⟨hk,rfl⟩) fun b t' ⟨hb,et⟩=>by subst et;exact h b hb
def aS2:Nat→StateT SortSt Sem Unit:=sortPriv% PySem.Builtin.setMinGallop
theorem oU {g:Nat} {k:En→Unit→StateT SortSt Sem γ} {c':δ→En→γ} {R:δ→Ist→Prop} (h:Det n f (fun e=>k e ()) c' ⟨t.p,t.pd,g⟩ R):Det n f (fun e=>(sortPriv% PySem.Builtin.setMinGallop) g >>= k e) c' t R:=
 aQ (P:=fun _ t'=>t'=⟨t.p,t.pd,g⟩) (c:=fun _ _=>()) (jC ⟨t.p,t.pd,g⟩ (fun e=>rfl) rfl) fun b t' et=>by subst et;exact h
theorem iW {a b:Nat} {d:En→Decidable ((a == b)=true)} {A B:En→StateT SortSt Sem α} {k:β→En→α} {P:β→Ist→Prop} (h1:a=b→Det n f A k t P) (h2:a≠b→Det n f B k t P):Det n f (fun e=>@ite _ ((a == b)=true) (d e) (A e) (B e)) k t P:=
 dB (fun z=>h1 (beq_iff_eq.mp z)) fun z=>h2 fun z'=>z (beq_iff_eq.mpr z')
theorem aIb {x y:Array Nat} (hx:Lw n x) (hy:Lw n y) (x1:1≤x.size) (y1:1≤y.size) {P:Array Nat→Ist→Prop} (h:∀r t',Lw n r→St0 t t'→P r t') :
  Det n f (fun e=>aIg (e.a x) (e.a y)) (fun r e=>e.a r) t P:=by
 unfold aIg
 refine eV (cX hy (by lia) fun b0 hb0=>?_)
 simp only [nC,rU,wM,tK,wN]
 refine dB (fun e1=>?_) fun e1=>?_
 ·exact aJ (c:=fun r e=>e.a r) _ (h _ _ (((Lw.one hb0).app (hx.ext _ _)).app (hy.ext _ _)) ⟨rfl,rfl⟩)
 refine dB (fun e2=>?_) fun e2=>?_
 ·exact aJ (c:=fun r e=>e.a r) _ (h _ _ (((Lw.one hb0).app (hy.ext _ _)).app (hx.ext _ _)) ⟨rfl,rfl⟩)
 have e1':y.size≠1:=fun z=>e1 (by rw [z];rfl)
 have e2':x.size≠1:=fun z=>e2 (by rw [z];rfl)
 refine aQ (pU (P:=fun b t'=>b=t∧t'=t) ⟨rfl,rfl⟩) fun _ t ⟨ea,eb⟩=>?_
 subst ea eb
 refine aQ (cI (β:=Option (Array Nat) × Array Nat × Nat × Nat × Nat) (b:=(none,#[b0],0,1,_)) cM (fun k b t'=>St0 t t'∧b.1=none∧Lw n b.2.1∧b.2.2.1+1<x.size∧b.2.2.2.1<y.size∧x.size+y.size≤b.2.2.1+b.2.2.2.1+k) (fun b t'=>St0 t t'∧∃r,b.1=some r∧Lw n r) ⟨⟨rfl,rfl⟩,rfl,Lw.one hb0,by dsimp only;lia,by dsimp only;lia,by dsimp only;lia⟩ (fun b t' ⟨_,_,_,z1,z2,z3⟩=>by lia) fun k _ b t1 hk ⟨ht,hn,hl,ha,hb,hs⟩=>?_) fun b t' ⟨ht,r,er,hr⟩=>?_
 ·obtain ⟨r0,o,ia,ib,mg⟩:=b
  cases hn
  dsimp only at hl ha hb hs
  refine aQ (cI (β:=Option (Array Nat) × Array Nat × Nat × Nat × Nat × Nat) (b:=(none,o,ia,ib,0,0)) cM (fun k b t'=>St0 t t'∧b.1=none∧Lw n b.2.1∧b.2.2.1+1<x.size∧b.2.2.2.1<y.size∧ia+ib≤b.2.2.1+b.2.2.2.1) (fun b t'=>St0 t t'∧((∃r,b.1=some r∧Lw n r)∨b.1=none∧Lw n b.2.1∧b.2.2.1+1<x.size∧b.2.2.2.1<y.size∧ia+ib≤b.2.2.1+b.2.2.2.1)) ⟨ht,rfl,hl,ha,hb,Nat.le_refl _⟩ (fun b t' ⟨z0,z⟩=>⟨z0,.inr z⟩) fun k _ b t1 hk ⟨ht,hn,hl,ha,hb,hs⟩=>?_) fun b t' ⟨ht,hr⟩=>?_
  ·obtain ⟨r0,o,ia,ib,ac,bc⟩:=b
   cases hn
   dsimp only at hl ha hb hs
   refine cX hy hb fun b1 hb1=>cX hx (by lia) fun a1 ha1=>rR hb1 ha1 fun wins=>?_
   dsimp only
   (repeat' (first|with_reducible refine iW (fun _=>?_) (fun _=>?_)|with_reducible refine dB (fun _=>?_) (fun _=>?_)|with_reducible refine cX (by assumption) (by lia) (fun _ _=>?_)|with_reducible refine rR (by assumption) (by assumption) (fun _=>?_)|with_reducible refine oU ?_|with_reducible refine eV ?_|with_reducible refine nW (by assumption) (by assumption) (by lia) (by lia) (fun _ _=>?_)|(simp only [cM,Bool.and_eq_true,decide_eq_true_eq,nC,rU,wM,tK,wN,aAr])|dsimp only|(first|(refine aS7 ?_;refine ⟨⟨?_,?_⟩,.inl ⟨_,rfl,?_⟩⟩ <;> first|exact (And.left ht)|exact (And.right ht)|(repeat (first|with_reducible assumption|with_reducible apply Lw.app|with_reducible apply Lw.push|with_reducible apply Lw.ext|with_reducible apply Lw.rev|with_reducible apply Lw.one)))|(refine aZp ?_;refine ⟨⟨?_,?_⟩,.inr ⟨rfl,?_,?_,?_,?_⟩⟩ <;> first|exact (And.left ht)|exact (And.right ht)|(dsimp only;lia)|(repeat (first|with_reducible assumption|with_reducible apply Lw.app|with_reducible apply Lw.push|with_reducible apply Lw.ext|with_reducible apply Lw.rev|with_reducible apply Lw.one)))|(refine aXh ?_;refine ⟨⟨?_,?_⟩,rfl,?_,?_,?_,?_⟩ <;> first|exact (And.left ht)|exact (And.right ht)|(dsimp only;lia)|(repeat (first|with_reducible assumption|with_reducible apply Lw.app|with_reducible apply Lw.push|with_reducible apply Lw.ext|with_reducible apply Lw.rev|with_reducible apply Lw.one))))))
  rcases hr with ⟨r,er,hr⟩|⟨er,hl,ha',hb',hs'⟩
  ·obtain ⟨r0,b⟩:=b
   cases er
   simp only [cM,Option.map_some]
   exact aS7 ⟨ht,r,rfl,hr⟩
  obtain ⟨r0,o,ja,jb,ac,bc⟩:=b
  cases er
  dsimp only at hl ha' hb' hs'
  dsimp only [cM,Option.map_none]
  refine eV (aQ (cI (β:=Option (Array Nat) × Array Nat × Nat × Nat × Nat × Nat × Nat) (b:=(none,o,ja,jb,mg+1,ac,bc)) cM (fun k b t'=>St0 t t'∧b.1=none∧Lw n b.2.1∧b.2.2.1+1<x.size∧b.2.2.2.1<y.size∧ia+ib+(x.size+y.size - k)≤b.2.2.1+b.2.2.2.1) (fun b t'=>St0 t t'∧((∃r,b.1=some r∧Lw n r)∨b.1=none∧Lw n b.2.1∧b.2.2.1+1<x.size∧b.2.2.2.1<y.size∧ia+ib+1≤b.2.2.1+b.2.2.2.1)) ⟨ht,rfl,hl,ha',hb',by dsimp only;lia⟩ (fun b t' ⟨z0,z1,z2,z3,z4,z5⟩=>⟨z0,.inr ⟨z1,z2,z3,z4,by lia⟩⟩) fun k _ b t1 hk ⟨ht,hn,hl,ha,hb,hs⟩=>?_) fun b t' ⟨ht,hr⟩=>?_)
  ·obtain ⟨r0,o,ia,ib,mg,ac,bc⟩:=b
   cases hn
   dsimp only at hl ha hb hs
   dsimp only [cM,Option.map_none]
   (repeat' (first|with_reducible refine iW (fun _=>?_) (fun _=>?_)|with_reducible refine dB (fun _=>?_) (fun _=>?_)|with_reducible refine cX (by assumption) (by lia) (fun _ _=>?_)|with_reducible refine rR (by assumption) (by assumption) (fun _=>?_)|with_reducible refine oU ?_|with_reducible refine eV ?_|with_reducible refine nW (by assumption) (by assumption) (by lia) (by lia) (fun _ _=>?_)|(simp only [cM,Bool.and_eq_true,decide_eq_true_eq,nC,rU,wM,tK,wN,aAr])|dsimp only|(first|(refine aS7 ?_;refine ⟨⟨?_,?_⟩,.inl ⟨_,rfl,?_⟩⟩ <;> first|exact (And.left ht)|exact (And.right ht)|(repeat (first|with_reducible assumption|with_reducible apply Lw.app|with_reducible apply Lw.push|with_reducible apply Lw.ext|with_reducible apply Lw.rev|with_reducible apply Lw.one)))|(refine aZp ?_;refine ⟨⟨?_,?_⟩,.inr ⟨rfl,?_,?_,?_,?_⟩⟩ <;> first|exact (And.left ht)|exact (And.right ht)|(dsimp only;lia)|(repeat (first|with_reducible assumption|with_reducible apply Lw.app|with_reducible apply Lw.push|with_reducible apply Lw.ext|with_reducible apply Lw.rev|with_reducible apply Lw.one)))|(refine aXh ?_;refine ⟨⟨?_,?_⟩,rfl,?_,?_,?_,?_⟩ <;> first|exact (And.left ht)|exact (And.right ht)|(dsimp only;lia)|(repeat (first|with_reducible assumption|with_reducible apply Lw.app|with_reducible apply Lw.push|with_reducible apply Lw.ext|with_reducible apply Lw.rev|with_reducible apply Lw.one))))))
  rcases hr with ⟨r,er,hr⟩|⟨er,hl,ha',hb',hs'⟩
  ·obtain ⟨r0,b⟩:=b
   cases er
   simp only [cM,Option.map_some]
   exact aS7 ⟨ht,r,rfl,hr⟩
  obtain ⟨r0,o,ja,jb,mg,ac,bc⟩:=b
  cases er
  dsimp only at hl ha' hb' hs'
  dsimp only [cM,Option.map_none]
  refine oU ?_
  exact aXh ⟨⟨ht.1,ht.2⟩,rfl,hl,ha',hb',by dsimp only;lia⟩
 ·obtain ⟨r0,b⟩:=b
  cases er
  exact aJ (c:=fun r e=>e.a r) r (h _ _ hr ht)
end
end PySem.W
namespace PySem.W
open PySem PySem.Calls PyProof.Rows
section
variable {n:Nat} {f:Nat→Nat→Bool} {t:Ist} {α β γ δ τ:Type}
def cH (b:Option (Array Nat) × Nat × Nat × Array Nat × τ) (e:En):Option (Array Keyed) × Nat × Nat × Array Keyed × τ:=(b.1.map e.a,b.2.1,b.2.2.1,e.a b.2.2.2.1,b.2.2.2.2)
theorem aUm {r o:Array Nat} {u v:Nat} {x:τ} {I F} (h:F (some r,u,v,o,x) t):Det n f (fun e=>pure (ForInStep.done (some (e.a r),u,v,e.a o,x))) (cstep cH) t (pstep I F):=aJ (c:=cstep cH) (.done (some r,u,v,o,x)) h
theorem aY2 {o:Array Nat} {u v:Nat} {x:τ} {I F} (h:F (none,u,v,o,x) t):Det n f (fun e=>pure (ForInStep.done (none,u,v,e.a o,x))) (cstep cH) t (pstep I F):=aJ (c:=cstep cH) (.done (none,u,v,o,x)) h
theorem aWf {o:Array Nat} {u v:Nat} {x:τ} {I F} (h:I (none,u,v,o,x) t):Det n f (fun e=>pure (ForInStep.yield (none,u,v,e.a o,x))) (cstep cH) t (pstep I F):=aJ (c:=cstep cH) (.yield (none,u,v,o,x)) h
theorem aGp {x y:Array Nat} (hx:Lw n x) (hy:Lw n y) (x1:1≤x.size) (y1:1≤y.size) {P:Array Nat→Ist→Prop} (h:∀r t',Lw n r→St0 t t'→P r t') :
  Det n f (fun e=>aGz (e.a x) (e.a y)) (fun r e=>e.a r) t P:=by
 unfold aGz
 refine eV ?_
 simp only [nC]
 refine cX hx (by lia) fun b0 hb0=>?_
 simp only [nC,rU,wM,tK,wN,aAr]
 refine iW (fun e1=>?_) fun e1=>?_
 ·exact aJ (c:=fun r e=>e.a r) _ (h _ _ (by (repeat (first|with_reducible assumption|with_reducible apply Lw.app|with_reducible apply Lw.push|with_reducible apply Lw.ext|with_reducible apply Lw.rev|with_reducible apply Lw.one))) ⟨rfl,rfl⟩)
 refine iW (fun e2=>?_) fun e2=>?_
 ·exact aJ (c:=fun r e=>e.a r) _ (h _ _ (by (repeat (first|with_reducible assumption|with_reducible apply Lw.app|with_reducible apply Lw.push|with_reducible apply Lw.ext|with_reducible apply Lw.rev|with_reducible apply Lw.one))) ⟨rfl,rfl⟩)
 refine aQ (pU (P:=fun b t'=>b=t∧t'=t) ⟨rfl,rfl⟩) fun _ t ⟨ea,eb⟩=>?_
 subst ea eb
 refine aQ (cI (β:=Option (Array Nat) × Nat × Nat × Array Nat × Nat) (b:=(none,x.size - 1,y.size,#[b0],_)) cH (fun k b t'=>St0 t t'∧b.1=none∧Lw n b.2.2.2.1∧(1≤b.2.1∧b.2.1≤x.size)∧(2≤b.2.2.1∧b.2.2.1≤y.size)∧b.2.1+b.2.2.1≤k) (fun b t'=>St0 t t'∧∃r,b.1=some r∧Lw n r) ⟨⟨rfl,rfl⟩,rfl,Lw.one hb0,by dsimp only;lia,by dsimp only;lia,by dsimp only;lia⟩ (fun b t' ⟨_,_,_,z1,z2,z3⟩=>by lia) fun k _ b t1 hk ⟨ht,hn,hl,ha,hb,hs⟩=>?_) fun b t' ⟨ht,r,er,hr⟩=>?_
 ·obtain ⟨r0,na,nb,o,mg⟩:=b
  cases hn
  dsimp only at hl ha hb hs
  refine aQ (cI (β:=Option (Array Nat) × Nat × Nat × Array Nat × Nat × Nat) (b:=(none,na,nb,o,0,0)) cH (fun k b t'=>St0 t t'∧b.1=none∧Lw n b.2.2.2.1∧(1≤b.2.1∧b.2.1≤x.size)∧(2≤b.2.2.1∧b.2.2.1≤y.size)∧b.2.1+b.2.2.1≤na+nb) (fun b t'=>St0 t t'∧((∃r,b.1=some r∧Lw n r)∨b.1=none∧Lw n b.2.2.2.1∧(1≤b.2.1∧b.2.1≤x.size)∧(2≤b.2.2.1∧b.2.2.1≤y.size)∧b.2.1+b.2.2.1≤na+nb)) ⟨ht,rfl,hl,ha,hb,Nat.le_refl _⟩ (fun b t' ⟨z0,z⟩=>⟨z0,.inr z⟩) fun k _ b t1 hk ⟨ht,hn,hl,ha,hb,hs⟩=>?_) fun b t' ⟨ht,hr⟩=>?_
  ·obtain ⟨r0,ma,mb,o,ac,bc⟩:=b
   cases hn
   dsimp only at hl ha hb hs
   dsimp only [cH,Option.map_none]
   refine cX hy (by lia) fun b1 hb1=>cX hx (by lia) fun a1 ha1=>rR hb1 ha1 fun wins=>?_
   dsimp only
   (repeat' (first|with_reducible refine iW (fun _=>?_) (fun _=>?_)|with_reducible refine dB (fun _=>?_) (fun _=>?_)|with_reducible refine cX (by assumption) (by lia) (fun _ _=>?_)|with_reducible refine rR (by assumption) (by assumption) (fun _=>?_)|with_reducible refine oU ?_|with_reducible refine eV ?_|with_reducible refine nW (by assumption) (by assumption) (by lia) (by lia) (fun _ _=>?_)|(simp only [cH,Bool.and_eq_true,decide_eq_true_eq,nC,rU,wM,tK,wN,aAr])|dsimp only|(first|(refine aUm ?_;refine ⟨⟨?_,?_⟩,.inl ⟨_,rfl,?_⟩⟩ <;> first|exact (And.left ht)|exact (And.right ht)|(repeat (first|with_reducible assumption|with_reducible apply Lw.app|with_reducible apply Lw.push|with_reducible apply Lw.ext|with_reducible apply Lw.rev|with_reducible apply Lw.one)))|(refine aY2 ?_;refine ⟨⟨?_,?_⟩,.inr ⟨rfl,?_,⟨?_,?_⟩,⟨?_,?_⟩,?_⟩⟩ <;> first|exact (And.left ht)|exact (And.right ht)|(dsimp only;lia)|(repeat (first|with_reducible assumption|with_reducible apply Lw.app|with_reducible apply Lw.push|with_reducible apply Lw.ext|with_reducible apply Lw.rev|with_reducible apply Lw.one)))|(refine aWf ?_;refine ⟨⟨?_,?_⟩,rfl,?_,⟨?_,?_⟩,⟨?_,?_⟩,?_⟩ <;> first|exact (And.left ht)|exact (And.right ht)|(dsimp only;lia)|(repeat (first|with_reducible assumption|with_reducible apply Lw.app|with_reducible apply Lw.push|with_reducible apply Lw.ext|with_reducible apply Lw.rev|with_reducible apply Lw.one))))))
  rcases hr with ⟨r,er,hr⟩|⟨er,hl,ha',hb',hs'⟩
  ·obtain ⟨r0,b⟩:=b
   cases er
   simp only [cH,Option.map_some]
   exact aUm ⟨ht,r,rfl,hr⟩
  obtain ⟨r0,ja,jb,o,ac,bc⟩:=b
  cases er
  dsimp only at hl ha' hb' hs'
  dsimp only [cH,Option.map_none]
  refine eV (aQ (cI (β:=Option (Array Nat) × Nat × Nat × Array Nat × Nat × Nat × Nat) (b:=(none,ja,jb,o,mg+1,ac,bc)) cH (fun k b t'=>St0 t t'∧b.1=none∧Lw n b.2.2.2.1∧(1≤b.2.1∧b.2.1≤x.size)∧(2≤b.2.2.1∧b.2.2.1≤y.size)∧b.2.1+b.2.2.1+(x.size+y.size - k)≤na+nb) (fun b t'=>St0 t t'∧((∃r,b.1=some r∧Lw n r)∨b.1=none∧Lw n b.2.2.2.1∧(1≤b.2.1∧b.2.1≤x.size)∧(2≤b.2.2.1∧b.2.2.1≤y.size)∧b.2.1+b.2.2.1+1≤na+nb)) ⟨ht,rfl,hl,ha',hb',by dsimp only;lia⟩ (fun b t' ⟨z0,z1,z2,z3,z4,z5⟩=>⟨z0,.inr ⟨z1,z2,z3,z4,by lia⟩⟩) fun k _ b t1 hk ⟨ht,hn,hl,ha,hb,hs⟩=>?_) fun b t' ⟨ht,hr⟩=>?_)
  ·obtain ⟨r0,ma,mb,o,mg,ac,bc⟩:=b
   cases hn
   dsimp only at hl ha hb hs
   dsimp (config:={instances:=true}) only [cH,Option.map_none]
   (repeat' (first|with_reducible refine iW (fun _=>?_) (fun _=>?_)|with_reducible refine dB (fun _=>?_) (fun _=>?_)|with_reducible refine cX (by assumption) (by lia) (fun _ _=>?_)|with_reducible refine rR (by assumption) (by assumption) (fun _=>?_)|with_reducible refine oU ?_|with_reducible refine eV ?_|with_reducible refine nW (by assumption) (by assumption) (by lia) (by lia) (fun _ _=>?_)|(simp only [cH,Bool.and_eq_true,decide_eq_true_eq,nC,rU,wM,tK,wN,aAr])|dsimp only|(first|(refine aUm ?_;refine ⟨⟨?_,?_⟩,.inl ⟨_,rfl,?_⟩⟩ <;> first|exact (And.left ht)|exact (And.right ht)|(repeat (first|with_reducible assumption|with_reducible apply Lw.app|with_reducible apply Lw.push|with_reducible apply Lw.ext|with_reducible apply Lw.rev|with_reducible apply Lw.one)))|(refine aY2 ?_;refine ⟨⟨?_,?_⟩,.inr ⟨rfl,?_,⟨?_,?_⟩,⟨?_,?_⟩,?_⟩⟩ <;> first|exact (And.left ht)|exact (And.right ht)|(dsimp only;lia)|(repeat (first|with_reducible assumption|with_reducible apply Lw.app|with_reducible apply Lw.push|with_reducible apply Lw.ext|with_reducible apply Lw.rev|with_reducible apply Lw.one)))|(refine aWf ?_;refine ⟨⟨?_,?_⟩,rfl,?_,⟨?_,?_⟩,⟨?_,?_⟩,?_⟩ <;> first|exact (And.left ht)|exact (And.right ht)|(dsimp only;lia)|(repeat (first|with_reducible assumption|with_reducible apply Lw.app|with_reducible apply Lw.push|with_reducible apply Lw.ext|with_reducible apply Lw.rev|with_reducible apply Lw.one))))))
  rcases hr with ⟨r,er,hr⟩|⟨er,hl,ha',hb',hs'⟩
  ·obtain ⟨r0,b⟩:=b
   cases er
   simp only [cH,Option.map_some]
   exact aUm ⟨ht,r,rfl,hr⟩
  obtain ⟨r0,ja,jb,o,mg,ac,bc⟩:=b
  cases er
  dsimp only at hl ha' hb' hs'
  dsimp only [cH,Option.map_none]
  refine oU ?_
  exact aWf ⟨⟨ht.1,ht.2⟩,rfl,hl,ha',hb',by dsimp only;lia⟩
 ·obtain ⟨r0,b⟩:=b
  cases er
  exact aJ (c:=fun r e=>e.a r) r (h _ _ hr ht)
end
end PySem.W
namespace PySem.W
open PySem PySem.Calls PyProof.Rows
def Ch:Nat→List (Nat × Nat × Nat)→Nat→Prop
 |s,[],e=>s=e
 |s,x::r,e=>x.1=s∧1≤x.2.1∧Ch (s+x.2.1) r e
theorem Ch.le:∀{l:List (Nat × Nat × Nat)} {s e:Nat},Ch s l e→s≤e
 |[],_,_,h=>Nat.le_of_eq h
 |x::r,s,e,h=>by have:=Ch.le h.2.2;lia
theorem Ch.push:∀{l:List (Nat × Nat × Nat)} {s e m p:Nat},Ch s l e→1≤m→Ch s (l++[(e,m,p)]) (e+m)
 |[],s,e,m,p,h,hm=>by
  have h:s=e:=h
  subst h
  exact ⟨rfl,hm,rfl⟩
 |x::r,s,e,m,p,h,hm=>⟨h.1,h.2.1,Ch.push h.2.2 hm⟩
theorem Ch.mod:∀{l:List (Nat × Nat × Nat)} {s e:Nat} {g:Nat × Nat × Nat→Nat × Nat × Nat} (hg:∀x,(g x).1=x.1∧(g x).2.1=x.2.1) (i:Nat),Ch s l e→Ch s (l.modify i g) e
 |[],s,e,g,hg,i,h=>by simpa using h
 |x::r,s,e,g,hg,0,h=>by
  rw [List.modify_zero_cons]
  exact ⟨(hg x).1.trans h.1,by rw [(hg x).2];exact h.2.1,by rw [(hg x).2];exact h.2.2⟩
 |x::r,s,e,g,hg,i+1,h=>by
  rw [List.modify_succ_cons]
  exact ⟨h.1,h.2.1,Ch.mod hg i h.2.2⟩
theorem Ch.two:∀{l:List (Nat × Nat × Nat)} {s e i:Nat} {x y:Nat × Nat × Nat},Ch s l e→l[i]?=some x→l[i+1]?=some y→x.1+x.2.1=y.1∧1≤x.2.1∧1≤y.2.1∧y.1+y.2.1≤e∧∀p,Ch s ((l.set i (x.1,x.2.1+y.2.1,p)).eraseIdx (i+1)) e
 |[],s,e,i,x,y,h,e1,e2=>by cases e1
 |[a],s,e,0,x,y,h,e1,e2=>by cases e2
 |a::b::r,s,e,0,x,y,h,e1,e2=>by
  cases e1;cases e2
  obtain ⟨h1,h2,h3,h4,h5⟩:=h
  have:=h5.le
  refine ⟨by lia,h2,h4,by lia,fun p=>⟨h1,by show 1≤_+_;lia,?_⟩⟩
  have e:s+(a.2.1+b.2.1)=s+a.2.1+b.2.1:=by lia
  show Ch (s+(a.2.1+b.2.1)) r _
  rw [e];exact h5
 |a::r,s,e,i+1,x,y,h,e1,e2=>by
  obtain ⟨z1,z2,z3,z4,z5⟩:=Ch.two h.2.2 (show r[i]?=some x from e1) (show r[i+1]?=some y from e2)
  exact ⟨z1,z2,z3,z4,fun p=>⟨h.1,h.2.1,z5 p⟩⟩
def GS (n lo:Nat) (t:Ist):Prop:=t.p.size=n∧Lw n t.p∧Ch 0 t.pd.toList lo∧lo≤n
theorem Lw.perm {n:Nat} {p q:Array Nat} (h:Lw n p) (e:q.Perm p):Lw n q:=fun i hi=>by
 have hm:q[i]∈p.toList:=(Array.perm_iff_toList_perm.mp e).mem_iff.mp (by simp)
 obtain ⟨j,hj,ej⟩:=List.getElem_of_mem hm
 have hj':j<p.size:=by simpa using hj
 have:=h j hj'
 rw [←ej]
 simpa using this
section
variable {n:Nat} {f:Nat→Nat→Bool} {t:Ist} {α β γ δ τ:Type}
def wr (sa:Nat) (a:Array γ) (q:γ × Nat):Array γ:=a.setIfInBounds (sa+q.2) q.1
theorem aJv {g:Nat→Keyed} {sa:Nat}:∀(l:List Nat) (k:Nat) (p:Array Nat),((l.map g).zipIdx k).foldl (wr sa) (p.map g)=((l.zipIdx k).foldl (wr sa) p).map g
 |[],_,_=>rfl
 |a::r,k,p=>by
  rw [List.map_cons,List.zipIdx_cons,List.zipIdx_cons,List.foldl_cons,List.foldl_cons]
  have e:wr sa (p.map g) (g a,k)=(wr sa p (a,k)).map g:=(Array.map_setIfInBounds).symm
  rw [e]
  exact aJv r (k+1) _
theorem Lw.set {p:Array Nat} {j a:Nat} (hp:Lw n p) (ha:a<n):Lw n (p.setIfInBounds j a):=fun i hi=>by
 rw [Array.getElem_setIfInBounds (by simpa using hi)]
 split
 ·exact ha
 ·exact hp _ _
theorem aPz {sa:Nat}:∀(l:List Nat) (k:Nat) (p:Array Nat),(∀a∈l,a<n)→Lw n p→((l.zipIdx k).foldl (wr sa) p).size=p.size∧Lw n ((l.zipIdx k).foldl (wr sa) p)
 |[],_,p,_,hp=>⟨rfl,hp⟩
 |a::r,k,p,hl,hp=>by
  rw [List.zipIdx_cons,List.foldl_cons]
  obtain ⟨z1,z2⟩:=aPz (sa:=sa) r (k+1) (wr sa p (a,k)) (fun b hb=>hl b (List.mem_cons_of_mem _ hb)) (Lw.set hp (hl a List.mem_cons_self))
  exact ⟨z1.trans (by unfold wr;simp),z2⟩
theorem aZ2 (e:En):(sortPriv% PySem.Builtin.SortState.pending) (t.c e)=t.pd:=rfl
theorem c_a (e:En):(sortPriv% PySem.Builtin.SortState.a) (t.c e)=e.a t.p:=rfl
theorem c_g (e:En):(sortPriv% PySem.Builtin.SortState.minGallop) (t.c e)=t.g:=rfl
theorem c_f (e:En):(sortPriv% PySem.Builtin.SortState.failed) (t.c e)=none:=rfl
theorem c_k (e:En):(sortPriv% PySem.Builtin.SortState.kind) (t.c e)=e.κ:=rfl
def aGn:Nat→StateT SortSt Sem Bool:=sortPriv% PySem.Builtin.mergeAt
theorem qZ {i lo:Nat} (hg:GS n lo t) (hi:i+1<t.pd.size) {P:Bool→Ist→Prop} (h:∀t',GS n lo t'→t'.pd.size+1=t.pd.size→P true t'):Det n f (fun _=>aGn i) (fun b _=>b) t P:=by
 obtain ⟨g1,g2,g3,g4⟩:=hg
 have e1:t.pd[i]?=some t.pd[i]:=Array.getElem?_eq_getElem (by lia)
 have e2:t.pd[i+1]?=some t.pd[i+1]:=Array.getElem?_eq_getElem hi
 generalize t.pd[i]=x at e1
 generalize t.pd[i+1]=y at e2
 obtain ⟨z1,z2,z3,z4,z5⟩:=Ch.two g3 (by rw [Array.getElem?_toList];exact e1) (by rw [Array.getElem?_toList];exact e2)
 obtain ⟨sa,na,pw⟩:=x
 obtain ⟨sb,nb,pb⟩:=y
 dsimp only at z1 z2 z3 z4 z5
 have hz:((t.pd.setIfInBounds i (sa,na+nb,pw)).eraseIdxIfInBounds (i+1)).size+1=t.pd.size:=by
  have:((t.pd.setIfInBounds i (sa,na+nb,pw)).eraseIdxIfInBounds (i+1)).toList.length+1=t.pd.toList.length:=by
   rw [Array.toList_eraseIdxIfInBounds,Array.toList_setIfInBounds,List.length_eraseIdx,List.length_set]
   have:i+1<t.pd.toList.length:=hi
   rw [if_pos this];lia
  rw [←Array.length_toList,←Array.length_toList]
  exact this
 have gs:∀(p:Array Nat) (g:Nat),p.size=n→Lw n p→GS n lo ⟨p,(t.pd.setIfInBounds i (sa,na+nb,pw)).eraseIdxIfInBounds (i+1),g⟩:=fun p g hp hl=>⟨hp,hl,by show Ch 0 (Array.toList _) lo;rw [Array.toList_eraseIdxIfInBounds,Array.toList_setIfInBounds];exact z5 pw,g4⟩
 unfold aGn
 refine aQ (pU (P:=fun b t'=>b=t∧t'=t) ⟨rfl,rfl⟩) fun _ t ⟨ea,eb⟩=>?_
 subst ea eb
 simp only [aZ2,c_a,c_g,c_f,c_k,e1,e2]
 refine aQ (aTe (P:=fun _ t'=>t'=⟨t.p,(t.pd.setIfInBounds i (sa,na+nb,pw)).eraseIdxIfInBounds (i+1),t.g⟩) ⟨t.p,(t.pd.setIfInBounds i (sa,na+nb,pw)).eraseIdxIfInBounds (i+1),t.g⟩ (fun e=>rfl) rfl) fun _ t1 et=>?_
 subst et
 refine cX g2 (by lia) fun b1 hb1=>nW hb1 g2 (by lia) (by lia) fun k hk=>?_
 dsimp only
 refine iW (fun h0=>?_) fun h0=>?_
 ·exact aJ (c:=fun (b:Bool) (_:En)=>b) true (h _ (gs _ _ g1 g2) hz)
 refine cX g2 (by lia) fun b2 hb2=>nW hb2 g2 (by lia) (by lia) fun nb' hnb=>?_
 dsimp only
 refine iW (fun h1=>?_) fun h1=>?_
 ·exact aJ (c:=fun (b:Bool) (_:En)=>b) true (h _ (gs _ _ g1 g2) hz)
 simp only [tK]
 refine dB (fun hle=>?_) fun hle=>?_
 ·refine aQ (aIb (P:=fun r t'=>Lw n r∧St0 _ t') (g2.ext _ _) (g2.ext _ _) (by rw [Array.size_extract];lia) (by rw [Array.size_extract];lia) fun r t' a b=>⟨a,b⟩) fun r t' ⟨hr,q1,q2⟩=>?_
  dsimp only at q1 q2
  obtain ⟨w1,w2⟩:=aPz (n:=n) (sa:=sa+k) r.toList 0 t'.p (fun a ha=>by
   obtain ⟨j,hj,ej⟩:=List.getElem_of_mem ha
   have:=hr j (by simpa using hj)
   rw [←ej];simpa using this) (by rw [q1];exact g2)
  refine aQ (jC (P:=fun _ t''=>t''=⟨r.toList.zipIdx.foldl (wr (sa+k)) t'.p,t'.pd,t'.g⟩) ⟨r.toList.zipIdx.foldl (wr (sa+k)) t'.p,t'.pd,t'.g⟩ (fun e=>?_) rfl) fun _ t2 et=>?_
  ·have e3:=aJv (g:=kas_item e.it) (sa:=sa+k) r.toList 0 t'.p
   show SortSt.mk' e.κ (((e.a r).toList.zipIdx).foldl (wr (sa+k)) (e.a t'.p)) _ _ _=SortSt.mk' e.κ (e.a (r.toList.zipIdx.foldl (wr (sa+k)) t'.p)) _ _ _
   have e4:(e.a r).toList=r.toList.map (kas_item e.it):=by unfold En.a;simp
   rw [e4]
   exact congrArg (fun z=>SortSt.mk' e.κ z t'.pd t'.g none) e3
  ·subst et
   refine aQ (pU (P:=fun b t'=>b=t'∧t'=⟨_,_,_⟩) ⟨rfl,rfl⟩) fun _ t3 ⟨ea,eb⟩=>?_
   subst ea eb
   exact aJ (c:=fun (b:Bool) (_:En)=>b) true (h _ (by rw [q2];exact gs _ _ (w1.trans (by rw [q1];exact g1)) w2) (by rw [q2];exact hz))
 ·refine aQ (aGp (P:=fun r t'=>Lw n r∧St0 _ t') (g2.ext _ _) (g2.ext _ _) (by rw [Array.size_extract];lia) (by rw [Array.size_extract];lia) fun r t' a b=>⟨a,b⟩) fun r t' ⟨hr,q1,q2⟩=>?_
  dsimp only at q1 q2
  obtain ⟨w1,w2⟩:=aPz (n:=n) (sa:=sa+k) r.toList 0 t'.p (fun a ha=>by
   obtain ⟨j,hj,ej⟩:=List.getElem_of_mem ha
   have:=hr j (by simpa using hj)
   rw [←ej];simpa using this) (by rw [q1];exact g2)
  refine aQ (jC (P:=fun _ t''=>t''=⟨r.toList.zipIdx.foldl (wr (sa+k)) t'.p,t'.pd,t'.g⟩) ⟨r.toList.zipIdx.foldl (wr (sa+k)) t'.p,t'.pd,t'.g⟩ (fun e=>?_) rfl) fun _ t2 et=>?_
  ·have e3:=aJv (g:=kas_item e.it) (sa:=sa+k) r.toList 0 t'.p
   show SortSt.mk' e.κ (((e.a r).toList.zipIdx).foldl (wr (sa+k)) (e.a t'.p)) _ _ _=SortSt.mk' e.κ (e.a (r.toList.zipIdx.foldl (wr (sa+k)) t'.p)) _ _ _
   have e4:(e.a r).toList=r.toList.map (kas_item e.it):=by unfold En.a;simp
   rw [e4]
   exact congrArg (fun z=>SortSt.mk' e.κ z t'.pd t'.g none) e3
  ·subst et
   refine aQ (pU (P:=fun b t'=>b=t'∧t'=⟨_,_,_⟩) ⟨rfl,rfl⟩) fun _ t3 ⟨ea,eb⟩=>?_
   subst ea eb
   exact aJ (c:=fun (b:Bool) (_:En)=>b) true (h _ (by rw [q2];exact gs _ _ (w1.trans (by rw [q1];exact g1)) w2) (by rw [q2];exact hz))
end
end PySem.W
namespace PySem.W
open PySem PySem.Calls PyProof.Rows
section
variable {n:Nat} {f:Nat→Nat→Bool} {t:Ist} {α β γ δ τ:Type}
theorem aCl {body:En→Nat→γ→StateT SortSt Sem (ForInStep γ)} (c:β→En→γ) (I:β→Ist→Prop):∀(l:List Nat) (b:β) (t:Ist),I b t →
  (∀x b t,x∈l→I b t→Det n f (fun e=>body e x (c b e)) (cstep c) t (pstep I I))→Det n f (fun e=>forIn l (c b e) (body e)) c t I
 |[],b,t,h,hs=>⟨b,t,h,fun _ _ _ _ _ _ _ _ q=>kasC_nil q⟩
 |x::l,b,t,h,hs=>by
  obtain ⟨r,t1,p,h1⟩:=hs x b t List.mem_cons_self h
  cases r with
  |done b'=>exact ⟨b',t1,p,fun prog w A E e s Q hc q=>kasC_cons (h1 prog w A E e s _ hc q)⟩
  |yield b'=>
   obtain ⟨b2,t2,p2,h2⟩:=aCl c I l b' t1 p (fun x b t hx=>hs x b t (List.mem_cons_of_mem _ hx))
   exact ⟨b2,t2,p2,fun prog w A E e s Q hc q=>kasC_cons (h1 prog w A E e s _ hc (h2 prog w A E e s Q hc q))⟩
theorem jJ {lo hi:Nat} {body:En→Nat→γ→StateT SortSt Sem (ForInStep γ)} (c:β→En→γ) (I:β→Ist→Prop) {b:β} (h:I b t)
  (hs:∀x b t,lo≤x→x<hi→I b t→Det n f (fun e=>body e x (c b e)) (cstep c) t (pstep I I)):Det n f (fun e=>forIn [lo:hi] (c b e) (body e)) c t I:=by
 obtain ⟨b',t',p,hd⟩:=aCl (n:=n) (f:=f) (body:=body) c I (List.range' lo (hi - lo)) b t h (fun x b t hx=>hs x b t (by rw [List.mem_range'_1] at hx;lia) (by rw [List.mem_range'_1] at hx;lia))
 exact ⟨b',t',p,fun prog w A E e s Q hc q=>kasC_range (hd prog w A E e s Q hc q)⟩
def GP (n:Nat) (t0 t:Ist):Prop:=t.p.size=n∧Lw n t.p∧t.pd=t0.pd
theorem eU {t0:Ist} {i j:Nat} {k:En→Option Bool→StateT SortSt Sem γ} {c':δ→En→γ} {R:δ→Ist→Prop} (g:GP n t0 t) (hi:i<n) (hj:j<n) (h:∀b,Det n f (fun e=>k e (some b)) c' t R):Det n f (fun e=>(sortPriv% PySem.Builtin.ltAt) i j >>= k e) c' t R:=by
 refine aQ (c:=fun b _=>some b) (P:=fun _ t'=>t'=t) ?_ fun b t' et=>by subst et;exact h b
 refine aQ (pU (P:=fun b t'=>b=t∧t'=t) ⟨rfl,rfl⟩) fun _ t ⟨ea,eb⟩=>?_
 subst ea eb
 simp only [c_a]
 obtain ⟨g1,g2,_⟩:=g
 refine cX g2 (by lia) fun a ha=>cX g2 (by lia) fun b hb=>aFf ha hb rfl
theorem iH {t0:Ist} {i j:Nat} {k:En→Unit→StateT SortSt Sem γ} {c':δ→En→γ} {R:δ→Ist→Prop} (g:GP n t0 t) (h:∀t',GP n t0 t'→Det n f (fun e=>k e ()) c' t' R):Det n f (fun e=>(sortPriv% PySem.Builtin.reverseSlice) i j >>= k e) c' t R:=by
 refine aQ (c:=fun _ _=>()) (P:=fun _ t'=>GP n t0 t') (jC ⟨kas_rev t.p i j,t.pd,t.g⟩ (fun e=>?_) ⟨(mirror_size _ _ _ _).trans g.1,g.2.1.perm (mirror_perm _ _ _ _),g.2.2⟩) fun _ t' g'=>h t' g'
 exact congrArg (fun z=>SortSt.mk' e.κ z t.pd t.g none) (kas_swaps_map (kas_item e.it) (fun k=>i+k) (fun k=>j - 1 - k) (List.range ((j - i) / 2)) t.p)
theorem aOv {t0:Ist} {i j:Nat} {k:En→Unit→StateT SortSt Sem γ} {c':δ→En→γ} {R:δ→Ist→Prop} (g:GP n t0 t) (h:∀t',GP n t0 t'→Det n f (fun e=>k e ()) c' t' R):Det n f (fun e=>(sortPriv% PySem.Builtin.moveDown) i j >>= k e) c' t R:=by
 refine aQ (c:=fun _ _=>()) (P:=fun _ t'=>GP n t0 t') (jC ⟨bubble t.p i (i - j),t.pd,t.g⟩ (fun e=>?_) ⟨(bubble_size _ _ _).trans g.1,g.2.1.perm (bubble_perm _ _ _),g.2.2⟩) fun _ t' g'=>h t' g'
 exact congrArg (fun z=>SortSt.mk' e.κ z t.pd t.g none) (kas_swaps_map (kas_item e.it) (fun k=>i - k) (fun k=>i - k - 1) (List.range (i - j)) t.p)
def aDc:Nat→Nat→StateT SortSt Sem (Option Nat):=sortPriv% PySem.Builtin.countRun
def yI:Nat→Nat→Nat→StateT SortSt Sem Bool:=sortPriv% PySem.Builtin.binarySort
theorem aTa {t0:Ist} {lo m ok:Nat} (g:GP n t0 t) (hm:lo+m≤n):Det n f (fun _=>yI lo m ok) (fun b _=>b) t (fun b t'=>b=true∧GP n t0 t'):=by
 unfold yI
 refine aQ (jJ (β:=Option Bool × Unit) (b:=(none,())) (fun b _=>b) (fun b t=>b.1=none∧GP n t0 t) ⟨rfl,g⟩ fun x b t hx1 hx2 ⟨hn,g⟩=>?_) fun b t ⟨hn,g⟩=>?_
 ·obtain ⟨r,_⟩:=b
  cases hn
  dsimp only
  refine aQ (jJ (β:=Option Bool × Nat × Nat) (b:=(none,0,x)) (fun b _=>b) (fun b t=>b.1=none∧b.2.2≤x∧GP n t0 t) ⟨rfl,Nat.le_refl _,g⟩ fun _ b t _ _ ⟨hn,h2,g⟩=>?_) fun b t ⟨hn,h2,g⟩=>?_
  ·obtain ⟨r,l,u⟩:=b
   cases hn
   dsimp only at h2 ⊢
   refine dB (fun h=>?_) fun h=>?_
   ·exact aJ (c:=cstep fun b _=>b) (.done (none,l,u)) ⟨rfl,h2,g⟩
   ·refine eU g (by lia) (by lia) fun less=>?_
    dsimp only
    cases less with
    |true=>exact aJ (c:=cstep fun b _=>b) (.yield (none,l,(l+u) / 2)) ⟨rfl,by dsimp only;lia,g⟩
    |false=>exact aJ (c:=cstep fun b _=>b) (.yield (none,(l+u) / 2+1,u)) ⟨rfl,h2,g⟩
  ·obtain ⟨r,l,u⟩:=b
   cases hn
   dsimp only
   refine aOv g fun t g=>?_
   exact aJ (c:=cstep fun b _=>b) (.yield (none,())) ⟨rfl,g⟩
 ·obtain ⟨r,_⟩:=b
  cases hn
  exact aJ (c:=fun (b:Bool) (_:En)=>b) true ⟨rfl,g⟩
theorem aPc {t0:Ist} {lo m:Nat} (g:GP n t0 t) (hm:lo+m≤n) (h1:1≤m):Det n f (fun _=>aDc lo m) (fun b _=>some b) t (fun k t'=>(1≤k∧k≤m)∧GP n t0 t'):=by
 unfold aDc
 refine aQ (cI (β:=Option (Option Nat) × Nat) (b:=(none,1)) (fun b _=>b) (fun k b t=>b.1=none∧(1≤b.2∧b.2+k≤m)∧GP n t0 t) (fun b t=>b.1=none∧(1≤b.2∧b.2≤m)∧GP n t0 t) ⟨rfl,⟨by dsimp only;lia,by dsimp only;lia⟩,g⟩ (fun _ _ h=>⟨h.1,⟨h.2.1.1,h.2.1.2⟩,h.2.2⟩) fun k x b t _ ⟨hn,hb,g⟩=>?_) fun b t ⟨hn,hb,g⟩=>?_
 ·obtain ⟨r,u⟩:=b
  cases hn
  dsimp only at hb ⊢
  refine eU g (by lia) (by lia) fun less=>?_
  dsimp only
  cases less with
  |true=>exact aJ (c:=cstep fun b _=>b) (.done (none,u)) ⟨rfl,⟨hb.1,by dsimp only;lia⟩,g⟩
  |false=>exact aJ (c:=cstep fun b _=>b) (.yield (none,u+1)) ⟨rfl,⟨by dsimp only;lia,by dsimp only;lia⟩,g⟩
 obtain ⟨r,u⟩:=b
 cases hn
 dsimp only at hb ⊢
 refine iW (fun h=>?_) fun h=>?_
 ·exact aJ (c:=fun (b:Nat) (_:En)=>some b) u ⟨hb,g⟩
 refine dB (fun h2=>?_) fun h2=>?_
 ·refine eU g (by lia) (by lia) fun rose=>?_
  dsimp only
  cases rose with
  |true=>exact aJ (c:=fun (b:Nat) (_:En)=>some b) u ⟨hb,g⟩
  |false=>
   refine iH g fun t g=>?_
   refine eV ?_
   refine aQ (cI (β:=Option (Option Nat) × Nat × Nat) (b:=(none,u+1,0)) (fun b _=>b) (fun k b t=>b.1=none∧(1≤b.2.1∧b.2.1+k≤m)∧GP n t0 t) (fun b t=>b.1=none∧(1≤b.2.1∧b.2.1≤m)∧GP n t0 t) ⟨rfl,⟨by dsimp only;lia,by dsimp only;lia⟩,g⟩ (fun _ _ h=>⟨h.1,⟨h.2.1.1,h.2.1.2⟩,h.2.2⟩) fun k x b t _ ⟨hn,hb,g⟩=>?_) fun b t ⟨hn,hb,g⟩=>?_
   ·obtain ⟨r,v,q⟩:=b
    cases hn
    dsimp only at hb ⊢
    refine eU g (by lia) (by lia) fun less=>?_
    dsimp only
    cases less with
    |true=>
     simp only [if_true]
     refine dB (fun h=>?_) fun h=>?_
     ·exact iH g fun t g=>aJ (c:=cstep fun b _=>b) (.yield (none,v+1,0)) ⟨rfl,⟨by dsimp only;lia,by dsimp only;lia⟩,g⟩
     ·exact aJ (c:=cstep fun b _=>b) (.yield (none,v+1,0)) ⟨rfl,⟨by dsimp only;lia,by dsimp only;lia⟩,g⟩
    |false=>
     refine eU g (by lia) (by lia) fun more=>?_
     dsimp only
     cases more with
     |true=>exact aJ (c:=cstep fun b _=>b) (.done (none,v,q)) ⟨rfl,⟨hb.1,by dsimp only;lia⟩,g⟩
     |false=>exact aJ (c:=cstep fun b _=>b) (.yield (none,v+1,q+1)) ⟨rfl,⟨by dsimp only;lia,by dsimp only;lia⟩,g⟩
   obtain ⟨r,v,q⟩:=b
   cases hn
   dsimp only at hb ⊢
   refine dB (fun h=>?_) fun h=>?_
   ·refine iH g fun t g=>iH g fun t g=>?_
    refine aQ (cI (β:=Option (Option Nat) × Nat) (b:=(none,v)) (fun b _=>b) (fun k b t=>b.1=none∧(1≤b.2∧b.2+k≤m)∧GP n t0 t) (fun b t=>b.1=none∧(1≤b.2∧b.2≤m)∧GP n t0 t) ⟨rfl,⟨by dsimp only;lia,by dsimp only;lia⟩,g⟩ (fun _ _ h=>⟨h.1,⟨h.2.1.1,h.2.1.2⟩,h.2.2⟩) fun k x b t _ ⟨hn,hb,g⟩=>?_) fun b t ⟨hn,hb,g⟩=>?_
    ·obtain ⟨r,w⟩:=b
     cases hn
     dsimp only at hb ⊢
     refine eU g (by lia) (by lia) fun less=>?_
     dsimp only
     cases less with
     |true=>exact aJ (c:=cstep fun b _=>b) (.done (none,w)) ⟨rfl,⟨hb.1,by dsimp only;lia⟩,g⟩
     |false=>exact aJ (c:=cstep fun b _=>b) (.yield (none,w+1)) ⟨rfl,⟨by dsimp only;lia,by dsimp only;lia⟩,g⟩
    ·obtain ⟨r,w⟩:=b
     cases hn
     exact aJ (c:=fun (b:Nat) (_:En)=>some b) w ⟨hb,g⟩
   ·refine iH g fun t g=>?_
    refine aQ (cI (β:=Option (Option Nat) × Nat) (b:=(none,v)) (fun b _=>b) (fun k b t=>b.1=none∧(1≤b.2∧b.2+k≤m)∧GP n t0 t) (fun b t=>b.1=none∧(1≤b.2∧b.2≤m)∧GP n t0 t) ⟨rfl,⟨by dsimp only;lia,by dsimp only;lia⟩,g⟩ (fun _ _ h=>⟨h.1,⟨h.2.1.1,h.2.1.2⟩,h.2.2⟩) fun k x b t _ ⟨hn,hb,g⟩=>?_) fun b t ⟨hn,hb,g⟩=>?_
    ·obtain ⟨r,w⟩:=b
     cases hn
     dsimp only at hb ⊢
     refine eU g (by lia) (by lia) fun less=>?_
     dsimp only
     cases less with
     |true=>exact aJ (c:=cstep fun b _=>b) (.done (none,w)) ⟨rfl,⟨hb.1,by dsimp only;lia⟩,g⟩
     |false=>exact aJ (c:=cstep fun b _=>b) (.yield (none,w+1)) ⟨rfl,⟨by dsimp only;lia,by dsimp only;lia⟩,g⟩
    ·obtain ⟨r,w⟩:=b
     cases hn
     exact aJ (c:=fun (b:Nat) (_:En)=>some b) w ⟨hb,g⟩
 ·refine eV ?_
  refine aQ (cI (β:=Option (Option Nat) × Nat × Nat) (b:=(none,u+1,0)) (fun b _=>b) (fun k b t=>b.1=none∧(1≤b.2.1∧b.2.1+k≤m)∧GP n t0 t) (fun b t=>b.1=none∧(1≤b.2.1∧b.2.1≤m)∧GP n t0 t) ⟨rfl,⟨by dsimp only;lia,by dsimp only;lia⟩,g⟩ (fun _ _ h=>⟨h.1,⟨h.2.1.1,h.2.1.2⟩,h.2.2⟩) fun k x b t _ ⟨hn,hb,g⟩=>?_) fun b t ⟨hn,hb,g⟩=>?_
  ·obtain ⟨r,v,q⟩:=b
   cases hn
   dsimp only at hb ⊢
   refine eU g (by lia) (by lia) fun less=>?_
   dsimp only
   cases less with
   |true=>
    simp only [if_true]
    refine dB (fun h=>?_) fun h=>?_
    ·exact iH g fun t g=>aJ (c:=cstep fun b _=>b) (.yield (none,v+1,0)) ⟨rfl,⟨by dsimp only;lia,by dsimp only;lia⟩,g⟩
    ·exact aJ (c:=cstep fun b _=>b) (.yield (none,v+1,0)) ⟨rfl,⟨by dsimp only;lia,by dsimp only;lia⟩,g⟩
   |false=>
    refine eU g (by lia) (by lia) fun more=>?_
    dsimp only
    cases more with
    |true=>exact aJ (c:=cstep fun b _=>b) (.done (none,v,q)) ⟨rfl,⟨hb.1,by dsimp only;lia⟩,g⟩
    |false=>exact aJ (c:=cstep fun b _=>b) (.yield (none,v+1,q+1)) ⟨rfl,⟨by dsimp only;lia,by dsimp only;lia⟩,g⟩
  obtain ⟨r,v,q⟩:=b
  cases hn
  dsimp only at hb ⊢
  refine dB (fun h=>?_) fun h=>?_
  ·refine iH g fun t g=>iH g fun t g=>?_
   refine aQ (cI (β:=Option (Option Nat) × Nat) (b:=(none,v)) (fun b _=>b) (fun k b t=>b.1=none∧(1≤b.2∧b.2+k≤m)∧GP n t0 t) (fun b t=>b.1=none∧(1≤b.2∧b.2≤m)∧GP n t0 t) ⟨rfl,⟨by dsimp only;lia,by dsimp only;lia⟩,g⟩ (fun _ _ h=>⟨h.1,⟨h.2.1.1,h.2.1.2⟩,h.2.2⟩) fun k x b t _ ⟨hn,hb,g⟩=>?_) fun b t ⟨hn,hb,g⟩=>?_
   ·obtain ⟨r,w⟩:=b
    cases hn
    dsimp only at hb ⊢
    refine eU g (by lia) (by lia) fun less=>?_
    dsimp only
    cases less with
    |true=>exact aJ (c:=cstep fun b _=>b) (.done (none,w)) ⟨rfl,⟨hb.1,by dsimp only;lia⟩,g⟩
    |false=>exact aJ (c:=cstep fun b _=>b) (.yield (none,w+1)) ⟨rfl,⟨by dsimp only;lia,by dsimp only;lia⟩,g⟩
   ·obtain ⟨r,w⟩:=b
    cases hn
    exact aJ (c:=fun (b:Nat) (_:En)=>some b) w ⟨hb,g⟩
  ·refine iH g fun t g=>?_
   refine aQ (cI (β:=Option (Option Nat) × Nat) (b:=(none,v)) (fun b _=>b) (fun k b t=>b.1=none∧(1≤b.2∧b.2+k≤m)∧GP n t0 t) (fun b t=>b.1=none∧(1≤b.2∧b.2≤m)∧GP n t0 t) ⟨rfl,⟨by dsimp only;lia,by dsimp only;lia⟩,g⟩ (fun _ _ h=>⟨h.1,⟨h.2.1.1,h.2.1.2⟩,h.2.2⟩) fun k x b t _ ⟨hn,hb,g⟩=>?_) fun b t ⟨hn,hb,g⟩=>?_
   ·obtain ⟨r,w⟩:=b
    cases hn
    dsimp only at hb ⊢
    refine eU g (by lia) (by lia) fun less=>?_
    dsimp only
    cases less with
    |true=>exact aJ (c:=cstep fun b _=>b) (.done (none,w)) ⟨rfl,⟨hb.1,by dsimp only;lia⟩,g⟩
    |false=>exact aJ (c:=cstep fun b _=>b) (.yield (none,w+1)) ⟨rfl,⟨by dsimp only;lia,by dsimp only;lia⟩,g⟩
   ·obtain ⟨r,w⟩:=b
    cases hn
    exact aJ (c:=fun (b:Nat) (_:En)=>some b) w ⟨hb,g⟩
end
end PySem.W
namespace PySem.W
open PySem PySem.Calls PyProof.Rows
section
variable {n:Nat} {f:Nat→Nat→Bool} {t:Ist} {α β γ δ τ:Type}
theorem oW {k:En→SortSt→StateT SortSt Sem γ} {c':δ→En→γ} {R:δ→Ist→Prop} (h:Det n f (fun e=>k e (t.c e)) c' t R):Det n f (fun e=>get >>= k e) c' t R:=
 aQ (pU (P:=fun b t'=>b=t∧t'=t) ⟨rfl,rfl⟩) fun _ t' ⟨ea,eb⟩=>by subst eb;subst ea;exact h
theorem oF {g:SortSt→SortSt} {k:En→PUnit→StateT SortSt Sem γ} {c':δ→En→γ} {R:δ→Ist→Prop} (t':Ist) (hg:∀e,g (t.c e)=t'.c e) (h:Det n f (fun e=>k e ⟨⟩) c' t' R):Det n f (fun e=>(modify g:StateT SortSt Sem PUnit) >>= k e) c' t R:=
 aQ (jC (P:=fun _ t''=>t''=t') t' hg rfl) fun _ t'' et=>by subst et;exact h
theorem GS.push {lo w:Nat} (h:GS n lo t) (h1:1≤w) (h2:lo+w≤n):GS n (lo+w) ⟨t.p,t.pd.push (lo,w,0),t.g⟩:=⟨h.1,h.2.1,by show Ch 0 (Array.toList _) _;rw [Array.toList_push];exact h.2.2.1.push h1,h2⟩
theorem GS.mod {lo:Nat} (h:GS n lo t) (v:Nat):GS n lo ⟨t.p,t.pd.modify (t.pd.size - 1) fun x=>(x.1,x.2.1,v),t.g⟩:=⟨h.1,h.2.1,by show Ch 0 (Array.toList _) _;rw [Array.toList_modify];exact Ch.mod (g:=fun x=>(x.1,x.2.1,v)) (fun _=>⟨rfl,rfl⟩) _ h.2.2.1,h.2.2.2⟩
theorem aYj {c:Prop} {d:Decidable c} {a:Nat}:(@ite Nat c d (a - 1) a)≤a:=by split <;> lia
theorem aZ6 (e:En):arrOf (t.c e)=e.a t.p:=rfl
theorem aI5 (e:En):pendingOf (t.c e)=t.pd:=rfl
theorem aA6 (hg:GS n 0 t):Det n f (fun _=>sortRuns') (fun (_:Unit) _=>()) t (fun _ t'=>t'.p.size=n∧Lw n t'.p):=by
 rw [sortRuns'_eq]
 refine oW ?_
 simp only [aZ6,nC,hg.1]
 refine aQ (jJ (β:=Option Unit × Nat) (b:=(none,0)) (fun b _=>b) (fun b t=>b.1=none∧GS n b.2 t) ⟨rfl,hg⟩ fun x b t _ _ ⟨hn,hg⟩=>?_) fun b t ⟨hn,hg⟩=>?_
 ·obtain ⟨r,lo⟩:=b
  cases hn
  dsimp only at hg ⊢
  refine dB (fun h=>?_) fun h=>?_
  ·exact aJ (c:=cstep fun b _=>b) (.done (none,lo)) ⟨rfl,hg⟩
  obtain ⟨g1,g2,g3,g4⟩:=hg
  refine aQ (aPc (t0:=t) (lo:=lo) (m:=n - lo) ⟨g1,g2,rfl⟩ (by lia) (by lia)) fun m t1 ⟨hm,k1,k2,k3⟩=>?_
  dsimp only
  have hgs:∀{t':Ist},GP n t t'→GS n lo t':=fun h=>⟨h.1,h.2.1,by rw [h.2.2];exact g3,g4⟩
  refine dB (fun hlt=>?_) fun hlt=>?_
  ·refine eV (aQ (aTa (t0:=t) (lo:=lo) (m:=min (n - lo) (minRun' n n 0)) (ok:=m) ⟨k1,k2,k3⟩ (by lia)) fun b t2 ⟨eb,gb⟩=>?_)
   subst eb
   have hg:=hgs gb
   have hw1:1≤min (n - lo) (minRun' n n 0):=by lia
   have hw2:lo+min (n - lo) (minRun' n n 0)≤n:=by lia
   clear gb hgs g1 g2 g3 k1 k2 k3
   generalize min (n - lo) (minRun' n n 0)=w at hw1 hw2 ⊢
   simp only [Bool.not_true,Bool.false_eq_true,if_false]
   revert hg
   generalize t2=t
   intro hg
   refine oW ?_
   dsimp (config:={instances:=true}) only [aI5]
   cases hbk:t.pd.back? with
   |none=>
    dsimp only
    refine oF ⟨t.p,t.pd.push (lo,w,0),t.g⟩ (fun e=>rfl) ?_
    exact aJ (c:=cstep fun b _=>b) (.yield (none,lo+w)) ⟨rfl,hg.push hw1 hw2⟩
   |some x=>
    obtain ⟨s1,n1,p1⟩:=x
    dsimp only
    refine aQ (jJ (β:=Option Unit × Unit) (b:=(none,())) (fun b _=>b) (fun b t=>b.1=none∧GS n lo t) ⟨rfl,hg⟩ fun x b t _ _ ⟨hn,hg⟩=>?_) fun b t ⟨hn,hg⟩=>?_
    ·obtain ⟨r,_⟩:=b
     cases hn
     refine oW ?_
     dsimp (config:={instances:=true}) only [aI5]
     by_cases hz:t.pd.size > 1
     ·have e:t.pd[t.pd.size - 2]?=some t.pd[t.pd.size - 2]:=Array.getElem?_eq_getElem (by lia)
      simp only [if_pos hz,e]
      refine dB (fun _=>?_) fun _=>?_
      ·exact aJ (c:=cstep fun b _=>b) (.done (none,())) ⟨rfl,hg⟩
      ·refine aQ (qZ (P:=fun b t'=>b=true∧GS n lo t') hg (by lia) fun t' a b=>⟨rfl,a⟩) fun b t' ⟨eb,hg⟩=>?_
       subst eb
       exact aJ (c:=cstep fun b _=>b) (.yield (none,())) ⟨rfl,hg⟩
     ·have e:(if t.pd.size > 1 then t.pd[t.pd.size - 2]? else none)=none:=if_neg hz
      simp only [e]
      exact aJ (c:=cstep fun b _=>b) (.done (none,())) ⟨rfl,hg⟩
    ·obtain ⟨r,_⟩:=b
     cases hn
     dsimp only
     have hg':=hg.mod (power' n (2 * s1+n1) (2 * s1+n1+n1+w) n)
     refine oF ⟨t.p,t.pd.modify (t.pd.size - 1) fun x=>(x.1,x.2.1,power' n (2 * s1+n1) (2 * s1+n1+n1+w) n),t.g⟩ (fun e=>rfl) ?_
     refine oF ⟨t.p,(t.pd.modify (t.pd.size - 1) fun x=>(x.1,x.2.1,power' n (2 * s1+n1) (2 * s1+n1+n1+w) n)).push (lo,w,0),t.g⟩ (fun e=>rfl) ?_
     exact aJ (c:=cstep fun b _=>b) (.yield (none,lo+w)) ⟨rfl,hg'.push hw1 hw2⟩
  ·have hg:=hgs ⟨k1,k2,k3⟩
   have hw1:=hm.1
   have hw2:lo+m≤n:=by lia
   clear hgs g1 g2 g3 k1 k2 k3
   revert hg
   generalize t1=t
   intro hg
   refine oW ?_
   dsimp (config:={instances:=true}) only [aI5]
   cases hbk:t.pd.back? with
   |none=>
    dsimp only
    refine oF ⟨t.p,t.pd.push (lo,m,0),t.g⟩ (fun e=>rfl) ?_
    exact aJ (c:=cstep fun b _=>b) (.yield (none,lo+m)) ⟨rfl,hg.push hw1 hw2⟩
   |some x=>
    obtain ⟨s1,n1,p1⟩:=x
    dsimp only
    refine aQ (jJ (β:=Option Unit × Unit) (b:=(none,())) (fun b _=>b) (fun b t=>b.1=none∧GS n lo t) ⟨rfl,hg⟩ fun x b t _ _ ⟨hn,hg⟩=>?_) fun b t ⟨hn,hg⟩=>?_
    ·obtain ⟨r,_⟩:=b
     cases hn
     refine oW ?_
     dsimp (config:={instances:=true}) only [aI5]
     by_cases hz:t.pd.size > 1
     ·have e:t.pd[t.pd.size - 2]?=some t.pd[t.pd.size - 2]:=Array.getElem?_eq_getElem (by lia)
      simp only [if_pos hz,e]
      refine dB (fun _=>?_) fun _=>?_
      ·exact aJ (c:=cstep fun b _=>b) (.done (none,())) ⟨rfl,hg⟩
      ·refine aQ (qZ (P:=fun b t'=>b=true∧GS n lo t') hg (by lia) fun t' a b=>⟨rfl,a⟩) fun b t' ⟨eb,hg⟩=>?_
       subst eb
       exact aJ (c:=cstep fun b _=>b) (.yield (none,())) ⟨rfl,hg⟩
     ·have e:(if t.pd.size > 1 then t.pd[t.pd.size - 2]? else none)=none:=if_neg hz
      simp only [e]
      exact aJ (c:=cstep fun b _=>b) (.done (none,())) ⟨rfl,hg⟩
    ·obtain ⟨r,_⟩:=b
     cases hn
     dsimp only
     have hg':=hg.mod (power' n (2 * s1+n1) (2 * s1+n1+n1+m) n)
     refine oF ⟨t.p,t.pd.modify (t.pd.size - 1) fun x=>(x.1,x.2.1,power' n (2 * s1+n1) (2 * s1+n1+n1+m) n),t.g⟩ (fun e=>rfl) ?_
     refine oF ⟨t.p,(t.pd.modify (t.pd.size - 1) fun x=>(x.1,x.2.1,power' n (2 * s1+n1) (2 * s1+n1+n1+m) n)).push (lo,m,0),t.g⟩ (fun e=>rfl) ?_
     exact aJ (c:=cstep fun b _=>b) (.yield (none,lo+m)) ⟨rfl,hg'.push hw1 hw2⟩
 ·obtain ⟨r,lo⟩:=b
  cases hn
  dsimp only at hg ⊢
  refine aQ (jJ (β:=Option Unit × Unit) (b:=(none,())) (fun b _=>b) (fun b t=>b.1=none∧GS n lo t) ⟨rfl,hg⟩ fun x b t _ _ ⟨hn,hg⟩=>?_) fun b t ⟨hn,hg⟩=>?_
  ·obtain ⟨r,_⟩:=b
   cases hn
   refine oW ?_
   dsimp (config:={instances:=true}) only [aI5]
   refine dB (fun _=>?_) fun hz=>?_
   ·exact aJ (c:=cstep fun b _=>b) (.done (none,())) ⟨rfl,hg⟩
   ·refine aQ (c:=fun (b:Bool) _=>b) (P:=fun b t'=>b=true∧GS n lo t') (qZ hg ?_ fun t' a b=>⟨rfl,a⟩) fun b t' ⟨eb,hg⟩=>?_
    ·exact Nat.lt_of_le_of_lt (Nat.add_le_add_right aYj 1) (by lia)
    subst eb
    exact aJ (c:=cstep fun b _=>b) (.yield (none,())) ⟨rfl,hg⟩
  ·obtain ⟨r,_⟩:=b
   cases hn
   exact aJ (c:=fun (_:Unit) (_:En)=>()) () ⟨hg.1,hg.2.1⟩
end
end PySem.W
namespace PySem.W
open PySem PySem.Calls PyProof.Rows
def aS9 (n:Nat):Ist:=⟨List.toArray (List.range n),#[],7⟩
theorem gs0 (n:Nat):GS n 0 (aS9 n):=by
 have e:(aS9 n).p.size=n:=by show (List.toArray (List.range n)).size=n;simp
 refine ⟨e,fun i hi=>?_,rfl,Nat.zero_le _⟩
 have hi':i<n:=by rw [e] at hi;exact hi
 show (List.toArray (List.range n))[i]'hi<n
 simpa using hi'
noncomputable def aJz (n:Nat) (f:Nat→Nat→Bool):Ist:=(aA6 (n:=n) (f:=f) (gs0 n)).choose_spec.choose
theorem aF1 (n:Nat) (f:Nat→Nat→Bool):(aJz n f).p.size=n∧Lw n (aJz n f).p:=(aA6 (n:=n) (f:=f) (gs0 n)).choose_spec.choose_spec.1
theorem aSh {n:Nat} {f:Nat→Nat→Bool} (prog:Program) (w:World) (A:Around) (E:Value→Shared→Prop) (e:En) (s:Shared) (Q:Unit→SortSt→Shared→Prop) (hc:∀i j C,i<n→j<n→C (f i j) s→kas_cmp prog w A e.κ e.it i j C s) (q:Q () ((aJz n f).c e) s):kasC (model prog w) A E sortRuns' Q ((aS9 n).c e) s:=
 (aA6 (n:=n) (f:=f) (gs0 n)).choose_spec.choose_spec.2 prog w A E e s Q hc q
noncomputable def oH (n:Nat) (f:Nat→Nat→Bool):List Nat:=if n<2 then List.range n else (aJz n f).p.toList
theorem aCp (n:Nat) (f:Nat→Nat→Bool):(oH n f).length=n:=by
 unfold oH
 by_cases h:n<2
 ·rw [if_pos h,List.length_range]
 ·rw [if_neg h,Array.length_toList]
  exact (aF1 n f).1
theorem wV {n:Nat} {f:Nat→Nat→Bool} {i:Nat} (h:i∈oH n f):i<n:=by
 unfold oH at h
 by_cases h2:n<2
 ·rw [if_pos h2] at h;exact List.mem_range.mp h
 ·rw [if_neg h2] at h
  obtain ⟨j,hj,e⟩:=List.getElem_of_mem h
  have:=(aF1 n f).2 j (by simpa using hj)
  rw [←e]
  simpa using this
section
variable {prog:Program} {w:World} {A:Around} {E:Value→Shared→Prop} {s:Shared} {f:Nat→Nat→Bool}
theorem zG {a:Addr} {vs:List Value} {n:Nat} {P:PySem.Fin→Shared→Prop} (ho:s.heap.get? a=some (seqObj "list" vs.toArray n)) (h64:vs.length<1000)
  (hk:2≤vs.length→∀h',(∀b o,b≠a→s.heap.get? b=some o→h'.get? b=some o)→∃κ,(∀(Q:SortKind→Shared→Prop),Q κ { s with heap:=h' }→wpAny (model prog w) A (keyKind' vs.toArray) Q (fun _ _=>False) { s with heap:=h' })∧∀i j (C:Bool→Shared→Prop),i<vs.length→j<vs.length→C (f i j) { s with heap:=h' }→kas_ask prog w A κ vs i j C { s with heap:=h' })
  (h:P (.done (.ret .none)) { s with heap:=sortedHeap s.heap a vs (List.toArray ((oH vs.length f).map fun i=>vs.getD i Value.none)) }) :
  wpAny (model prog w) A (Builtin.«list.sort» ⟨[.ref a],[]⟩) P E s:=by
 rw [list_sort_plain]
 have ha:a<s.heap.objs.size:=Heap.lt_size ho
 refine wpAny_bind (listItems_at ho rfl ?_)
 refine wpAny_bind (listUpdate_at ho rfl ?_ (by rw [List.size_toArray,sizeLine_eq];lia) (Nat.zero_le _))
 obtain ⟨e1,ho1⟩:∃e1,(s.heap.update a (Obj.mapSeq fun _=>#[])).get? a=some (seqObj "list" #[] e1):=⟨_,get?_update_seq ho (fun _=>#[])⟩
 refine wpAny_bind (seqEpoch_at ho1 rfl ?_)
 refine wpAny_bind (wpAny_newTuple ?_ (by show vs.length≤_;rw [sizeLine_eq];lia))
 refine wpAny_bind (wpAny_newList ?_ (Nat.zero_le _))
 refine wpAny_holding ?_
 have ho6:(((s.heap.update a (Obj.mapSeq fun _=>#[])).push (seqObj "tuple" vs.toArray 0)).push (seqObj "list" #[] 0)).get? a=some (seqObj "list" #[] e1):=by
  rw [Heap.get?_push_ne _ _ _ (by rw [size_push',Heap.size_update];exact Nat.ne_of_lt (Nat.lt_succ_of_lt ha)),Heap.get?_push_ne _ _ _ (by rw [Heap.size_update];exact Nat.ne_of_lt ha)]
  exact ho1
 have keep:∀b o,b≠a→s.heap.get? b=some o→(((s.heap.update a (Obj.mapSeq fun _=>(#[]:Array Value))).push (seqObj "tuple" vs.toArray 0)).push (seqObj "list" #[] 0)).get? b=some o:=fun b o ne q=>by
  refine Heap.get?_push_of_some _ (Heap.get?_push_of_some _ ?_)
  rw [Heap.get?_update_ne _ _ _ _ ne]
  exact q
 show wpAny (model prog w) A _ P E { s with heap:=((s.heap.update a (Obj.mapSeq fun _=>#[])).push (seqObj "tuple" vs.toArray 0)).push (seqObj "list" #[] 0) }
 dsimp only
 have hsz:vs.toArray.size=vs.length:=by simp
 by_cases h2:vs.toArray.size<2
 ·rw [if_pos h2,if_pos h2]
  refine wpAny_bind (wpAny_pure ?_)
  rw [StateT.run_pure]
  refine wpAny_bind (wpAny_pure ?_)
  dsimp only
  refine wpAny_bind (seqEpoch_at ho6 rfl ?_)
  refine wpAny_bind (listUpdate_at ho6 rfl ?_ (hsz2:=by rw [Array.size_map];show (pairsOf vs).size≤_;rw [pairsOf_size,sizeLine_eq];lia))
  simp only [bne_self_eq_false,Bool.false_eq_true,if_false]
  refine wpAny_pure ?_
  have e:((arrOf (SortSt.mk' general' (vs.toArray.zip vs.toArray) #[] 7 none)).map (·.2))=List.toArray ((oH vs.length f).map fun i=>vs.getD i Value.none):=by
   show ((vs.toArray.zip vs.toArray).map (·.2))=_
   unfold oH
   rw [if_pos (by lia)]
   match vs,hsz,h2 with
   |[],_,_=>simp
   |[x],_,_=>simp [List.range,List.range.loop]
   |_::_::_,hsz,h2=>rw [hsz,List.length_cons,List.length_cons] at h2;lia
  rw [e]
  exact h
 ·rw [if_neg h2,if_neg h2]
  have h2':2≤vs.length:=by lia
  obtain ⟨κ,hk1,hk2⟩:=hk h2' _ keep
  refine wpAny_bind (hk1 _ ?_ |> fun z=>wpAny_mono z (fun _ _ q=>q) fun _ _ z=>z.elim)
  have st0:SortSt.mk' κ (vs.toArray.zip vs.toArray) #[] 7 none=(aS9 vs.length).c ⟨κ,vs.toArray.zip vs.toArray⟩:=by
   show _=SortSt.mk' κ ((List.toArray (List.range vs.length)).map (kas_item (vs.toArray.zip vs.toArray))) #[] 7 none
   have:=kas_range (vs.toArray.zip vs.toArray)
   rw [show (vs.toArray.zip vs.toArray).size=vs.length by simp] at this
   rw [this]
  refine wpAny_bind (wpAny_mono (?_:wpAny _ _ _ (fun r s'=>∃p:Array Nat,p.size=vs.length∧arrOf r.2=p.map (kas_item (vs.toArray.zip vs.toArray))∧failedOf r.2=none∧s'={ s with heap:=((s.heap.update a (Obj.mapSeq fun _=>#[])).push (seqObj "tuple" vs.toArray 0)).push (seqObj "list" #[] 0) }∧p=(aJz vs.length f).p) _ _) ?_ fun _ _ e=>e)
  ·exact (congrArg (fun z=>wpAny (model prog w) _ (StateT.run sortRuns' z) _ _ _) st0).mpr (aSh prog w _ _ ⟨κ,vs.toArray.zip vs.toArray⟩ _ (fun _ st' s'=>∃p:Array Nat,p.size=vs.length∧arrOf st'=p.map (kas_item (vs.toArray.zip vs.toArray))∧failedOf st'=none∧s'={ s with heap:=((s.heap.update a (Obj.mapSeq fun _=>#[])).push (seqObj "tuple" vs.toArray 0)).push (seqObj "list" #[] 0) }∧p=(aJz vs.length f).p) (fun i j C hi hj hC=>by have:=hk2 i j C hi hj hC;rw [kas_ask_eq] at this;exact this) ⟨_,(aF1 _ _).1,rfl,rfl,rfl,rfl⟩)
  rintro ⟨⟨⟩,st'⟩ s' ⟨p,hp,har,hf,rfl,rfl⟩
  dsimp only
  have hout:=kat_snds rfl har
  rw [hout]
  refine wpAny_bind (seqEpoch_at ho6 rfl ?_)
  refine wpAny_bind (listUpdate_at ho6 rfl ?_ (Nat.zero_le _) (by rw [List.size_toArray,List.length_map,Array.length_toList,hp,sizeLine_eq];lia))
  rw [hf]
  simp only [bne_self_eq_false,Bool.false_eq_true,if_false]
  refine wpAny_pure ?_
  have e:oH vs.length f=(aJz vs.length f).p.toList:=by unfold oH;rw [if_neg (by lia)]
  rw [e] at h
  exact h
theorem aEc {l:Addr} {vs:List Value} {Q:Value→Shared→Prop} (hl:s.heap.IsList l vs.toArray) (h64:vs.length<1000)
  (hk:2≤vs.length→∀h',(∀b o,s.heap.get? b=some o→h'.get? b=some o)→∃κ,(∀(Q:SortKind→Shared→Prop),Q κ { s with heap:=h' }→wpAny (model prog w) A.in1.in1 (keyKind' vs.toArray) Q (fun _ _=>False) { s with heap:=h' })∧∀i j (C:Bool→Shared→Prop),i<vs.length→j<vs.length→C (f i j) { s with heap:=h' }→kas_ask prog w A.in1.in1 κ vs i j C { s with heap:=h' })
  (h:Q (.ref (s.heap.objs.size+1)) { s with heap:=sortedAll s.heap vs (List.toArray ((oH vs.length f).map fun i=>vs.getD i Value.none)) }) :
  wpAny (model prog w) A (call (.builtin "sorted") [.ref l]) Q E s:=by
 refine Calls.call_function_entry kind_sorted plain_sorted entry_sorted (args_sorted1 _) ?_
 unfold Builtin.«sorted»
 refine wpAny_bind (m:=checkCount "sorted" 1 1 _) (wpAny_pure ?_)
 refine wpAny_bind (collect_list hl ?_ (by rw [sizeLine_eq];lia))
 refine wpAny_bind (wpAny_newList ?_ (by rw [sizeLine_eq];lia))
 have hsz:((s.heap.push (seqObj "list" #[] 0)).update s.heap.objs.size (Obj.mapSeq (·++vs.toArray))).objs.size=s.heap.objs.size+1:=by
  rw [Heap.size_update,size_push']
 have hoL:(((s.heap.push (seqObj "list" #[] 0)).update s.heap.objs.size (Obj.mapSeq (·++vs.toArray))).push (seqObj "list" vs.toArray 0)).get? (s.heap.objs.size+1)=some (seqObj "list" vs.toArray 0):=by
  rw [←hsz];exact Heap.get?_push_size _ rfl
 have keep:∀b o,s.heap.get? b=some o→(((s.heap.push (seqObj "list" #[] 0)).update s.heap.objs.size (Obj.mapSeq (·++vs.toArray))).push (seqObj "list" vs.toArray 0)).get? b=some o:=fun b o q=>by
  have hlt:b<s.heap.objs.size:=Heap.lt_size q
  rw [Heap.get?_push_ne _ _ _ (by rw [hsz];exact Nat.ne_of_lt (Nat.lt_succ_of_lt hlt)),Heap.get?_update_ne _ _ _ _ (Nat.ne_of_lt hlt),Heap.get?_push_ne _ _ _ (Nat.ne_of_lt hlt)]
  exact q
 show wpAny _ _ _ _ _ { s with heap:=((s.heap.push (seqObj "list" #[] 0)).update s.heap.objs.size (Obj.mapSeq (·++vs.toArray))).push (seqObj "list" vs.toArray 0) }
 rw [hsz]
 refine wpAny_bind (wpAny_holding (wpAny_call_entry slot_list_sort ⟨_,hoL,rfl⟩ entry_list_sort (zG (f:=f) (s:={ s with heap:=((s.heap.push (seqObj "list" #[] 0)).update s.heap.objs.size (Obj.mapSeq (·++vs.toArray))).push (seqObj "list" vs.toArray 0) }) hoL h64 (fun h2 h' kp=>hk h2 h' fun b o q=>kp b o (Nat.ne_of_lt (Nat.lt_succ_of_lt (Heap.lt_size q))) (keep b o q)) ⟨_,rfl,?_⟩) (args_list_sort _)))
 exact wpAny_pure ⟨_,rfl,h⟩
end
end PySem.W
namespace L2
open PySem PySem.Spec PyProof.Rows
inductive Al2 {α β:Type} (R:α→β→Prop):List α→List β→Prop
 |nil:Al2 R [] []
 |cons {a b as bs}:R a b→Al2 R as bs→Al2 R (a::as) (b::bs)
theorem Al2.len {α β:Type} {R:α→β→Prop} {as:List α} {bs:List β} (h:Al2 R as bs):as.length=bs.length:=by
 induction h with
 |nil=>rfl
 |cons _ _ ih=>rw [List.length_cons,List.length_cons,ih]
theorem Al2.at {α β:Type} {R:α→β→Prop} {as:List α} {bs:List β} (h:Al2 R as bs):∀{j:Nat} {a:α},as[j]?=some a→∃b,bs[j]?=some b∧R a b:=by
 induction h with
 |nil=>intro j a e;simp at e
 |cons r _ ih=>
  intro j a e
  cases j with
  |zero=>cases e;exact ⟨_,rfl,r⟩
  |succ j=>exact ih (by simpa using e)
def DEq (K:PySem.W.Frag) (H:Hp):Nat→V→V→Prop
 |0,x,y=>kW x=true∧x=y
 |n+1,x,y=>(kW x=true∧x=y)∨∃a b xs ys,x=.ref a∧y=.ref b∧SqT K H a xs∧SqT K H b ys∧Al2 (DEq K H n) xs ys
theorem aC6 {A:Around} {s:Shared} {x:V} {v u:Value} (h:kW x=true) (rv:RelV x v) (ru:RelV x u):SeqAt.EqAt A s v u true:=by
 cases x with
 |non=>cases rv;cases ru;exact SeqAt.EqAt.same _
 |bl b=>cases rv;cases ru;exact SeqAt.EqAt.same _
 |int i=>
  obtain ⟨t,rfl⟩:=rv
  obtain ⟨t',rfl⟩:=ru
  have z:=SeqAt.EqAt.int_int (A:=A) (s:=s) i t i t'
  simpa using z
 |str y=>
  obtain ⟨t,rfl⟩:=rv
  obtain ⟨t',rfl⟩:=ru
  have z:=SeqAt.EqAt.str_str (A:=A) (s:=s) y t y t'
  simpa using z
 |_=>cases h
section
variable {X:Cx} {pins:List (Addr × Obj)} {σ:L2.St} {H:Hp} {s:Shared}
theorem tM (I:Inv X pins σ H s) {n:Nat} {A:Around} {xs ys:List V} {its jts:List Value} (rv:Vals xs its) (rw':Vals ys jts) (h:Al2 (DEq X.K H n) xs ys)
  (ih:∀{x y v u},DEq X.K H n x y→RelV x v→RelV y u→SeqAt.EqAt A s v u true):∀(j:Nat) (h1:j<its.toArray.size) (h2:j<jts.toArray.size),SeqAt.EqAt A s its.toArray[j] jts.toArray[j] ((fun _=>true) j):=fun j h1 h2=>by
 have e1:=rv.length
 have hj1:j<xs.length:=by rw [List.size_toArray] at h1;lia
 obtain ⟨y,hy,d⟩:=h.at (List.getElem?_eq_getElem hj1)
 obtain ⟨u1,hu1,r1⟩:=rv.get (List.getElem?_eq_getElem hj1)
 obtain ⟨u2,hu2,r2⟩:=rw'.get hy
 have g1:its.toArray[j]=u1:=by
  rw [List.getElem_toArray]
  exact (List.getElem?_eq_some_iff.mp hu1).2
 have g2:jts.toArray[j]=u2:=by
  rw [List.getElem_toArray]
  exact (List.getElem?_eq_some_iff.mp hu2).2
 rw [g1,g2]
 exact ih d r1 r2
theorem oG (n:Nat):(List.range n).all (fun _=>true)=true:=by rw [List.all_eq_true];intro _ _;rfl
theorem xF (I:Inv X pins σ H s):∀(n:Nat) {A:Around} {x y:V} {v u:Value},DEq X.K H n x y→RelV x v→RelV y u→A.units+n<cLine→SeqAt.EqAt A s v u true
 |0,A,x,y,v,u,h,rv,ru,_=>by
  obtain ⟨h,rfl⟩:=h
  exact aC6 h rv ru
 |n+1,A,x,y,v,u,h,rv,ru,hu=>by
  rcases h with ⟨h,rfl⟩|⟨a,b,xs,ys,rfl,rfl,ha,hb,h⟩
  ·exact aC6 h rv ru
  cases rv
  cases ru
  by_cases e:a=b
  ·subst e;exact SeqAt.EqAt.same _
  obtain ⟨its,r1,pl,hz⟩:=I.tuple ha
  obtain ⟨jts,r2,pm,hw⟩:=I.tuple hb
  refine SeqAt.EqAt.of_refs e ?_
  have z:=SeqAt.RcAt.tuples (A:=A) (e:=fun _=>true) (show s.heap.IsTuple a its.toArray from pl) (show s.heap.IsTuple b jts.toArray from pm) (by lia) (tM I r1 r2 h fun d q1 q2=>xF I n d q1 q2 (by show A.units+1+n<cLine;lia))
  have z2:(its.toArray.size == jts.toArray.size)=true:=by rw [List.size_toArray,List.size_toArray];have:=r1.length;have:=r2.length;have:=h.len;simp;lia
  rw [oG,z2] at z
  exact z
end
def aZw (K:PySem.W.Frag) (r:Bool):R2:=fun x y H Q=>∃a b xs ys,x=.ref a∧y=.ref b∧SqT K H a xs∧SqT K H b ys∧Al2 (DEq K H 40) xs ys∧Q (.bl r) H
theorem aXu {X:Cx} (hu:X.A.units+64<cLine):OpR X (compareOp .NotEq) (aZw X.K false):=by
 intro pins s σ H x y v u Q I rx ry h
 obtain ⟨a,b,xs,ys,rfl,rfl,ha,hb,h,q⟩:=h
 cases rx
 cases ry
 obtain ⟨its,r1,pl,hz⟩:=I.tuple ha
 obtain ⟨jts,r2,pm,hw⟩:=I.tuple hb
 refine SeqAt.RcNeAt.tuples (e:=fun _=>true) (show s.heap.IsTuple a its.toArray from pl) (show s.heap.IsTuple b jts.toArray from pm) (by lia) (tM I r1 r2 h fun d q1 q2=>xF I 40 d q1 q2 (by show X.A.units+1+40<cLine;lia)) _ _ _ _ ?_
 have z2:(its.toArray.size == jts.toArray.size)=true:=by rw [List.size_toArray,List.size_toArray];have:=r1.length;have:=r2.length;have:=h.len;simp;lia
 rw [oG,z2]
 exact ⟨.bl _,H,I,rfl,q⟩
def jA (K:PySem.W.Frag) (H:Hp) (u:V) (r:List V):Prop:=∃a,u=.ref a∧SqT K H a r
theorem jA.same {K:PySem.W.Frag} {H H':Hp} {u:V} {r:List V} (e:Same H H') (h:jA K H u r):jA K H' u r:=by
 obtain ⟨a,rfl,ha⟩:=h
 exact ⟨a,rfl,e.aP ha⟩
def KdV:Bool→V→Prop
 |true,x=>∃i,x=.int i
 |false,x=>∃z,x=.str z
def KdR (ks:List Bool) (r:List V):Prop:=Al2 KdV ks r
def rlt:List V→List V→Bool
 |.int a::xs,.int b::ys=>if (a == b)=true then rlt xs ys else decide (a<b)
 |.str a::xs,.str b::ys=>if (a == b)=true then rlt xs ys else decide (a.cps.toList<b.cps.toList)
 |_,_=>false
noncomputable def srt (rs:List (List V)):List (List V):=(PySem.W.oH rs.length fun i j=>rlt (rs.getD i []) (rs.getD j [])).map fun i=>rs.getD i []
theorem aD3 (rs:List (List V)):(srt rs).length=rs.length:=by unfold srt;rw [List.length_map,PySem.W.aCp]
theorem Al2.get {α β:Type} {R:α→β→Prop} {as:List α} {bs:List β} (h:Al2 R as bs) {i:Nat} {a:α} {b:β} (h1:as[i]?=some a) (h2:bs[i]?=some b):R a b:=by
 obtain ⟨b',e,r⟩:=h.at h1
 rw [h2] at e
 cases e
 exact r
theorem Al2.of {α β:Type} {R:α→β→Prop}:∀{as:List α} {bs:List β},as.length=bs.length→(∀(i:Nat) (a:α) (b:β),as[i]?=some a→bs[i]?=some b→R a b)→Al2 R as bs
 |[],[],_,_=>.nil
 |a::as,b::bs,hl,h=>.cons (h 0 a b rfl rfl) (Al2.of (by simpa using hl) fun i x y h1 h2=>h (i+1) x y (by simpa using h1) (by simpa using h2))
section
variable {prog:Program} {w:World} {A:Around} {s:Shared} {b:Bool} {Q:Bool→Shared→Prop}
theorem aUa (ks:List Bool):∀{r1 r2:List V} {i1 i2:List Value},KdR ks r1→KdR ks r2→Vals r1 i1→Vals r2 i2→∀i:Nat,Q (rlt r1 r2) s→PySem.W.KatLex prog w A b false Q (i1.zip i2) i s:=by
 induction ks with
 |nil=>
  intro r1 r2 i1 i2 h1 h2 v1 v2 i q
  cases h1;cases h2;cases v1;cases v2
  exact q
 |cons k ks ih=>
  intro r1 r2 i1 i2 h1 h2 v1 v2 i q
  cases h1 with
  |cons a1 t1=>
   cases h2 with
   |cons a2 t2=>
    cases v1 with
    |cons p1 w1=>
     cases v2 with
     |cons p2 w2=>
      cases k with
      |true=>
       obtain ⟨x,rfl⟩:=a1
       obtain ⟨y,rfl⟩:=a2
       obtain ⟨t,rfl⟩:=p1
       obtain ⟨u,rfl⟩:=p2
       refine (SeqAt.EqAt.int_int x t y u) prog w _ _ ?_
       unfold rlt at q
       by_cases e:(x == y)=true
       ·rw [e,if_pos rfl]
        rw [if_pos e] at q
        exact ih t1 t2 w1 w2 (i+1) q
       ·rw [if_neg e] at q
        rw [Bool.not_eq_true] at e
        rw [e,if_neg (by decide)]
        cases hb:(b && i == 0) with
        |true=>exact oneLt_int q
        |false=>exact PySem.W.kat_one _ _ (lt_int q)
      |false=>
       obtain ⟨x,rfl⟩:=a1
       obtain ⟨y,rfl⟩:=a2
       obtain ⟨t,rfl⟩:=p1
       obtain ⟨u,rfl⟩:=p2
       refine (SeqAt.EqAt.str_str x t y u) prog w _ _ ?_
       unfold rlt at q
       by_cases e:(x == y)=true
       ·rw [e,if_pos rfl]
        rw [if_pos e] at q
        exact ih t1 t2 w1 w2 (i+1) q
       ·rw [if_neg e] at q
        rw [Bool.not_eq_true] at e
        rw [e,if_neg (by decide)]
        cases hb:(b && i == 0) with
        |true=>exact oneLt_str q
        |false=>exact PySem.W.kat_one _ _ (lt_str q)
end
section
variable {X:Cx}
def aWo (K:PySem.W.Frag):List V→Hp→VK→Prop:=fun xs H Q=>∃(l:Addr) (us:List V) (rs:List (List V)) (ks:List Bool),xs=[.ref l]∧SqL K H l us∧Al2 (jA K H) us rs∧us.length<1000∧ks≠[]∧(∀r∈rs,KdR ks r) ∧
 ∀D H' us',H D=none→Same H H'→H' D=some (.lst us')→Al2 (jA K H) us' (srt rs)→Q (.ref D) H'
theorem aMx {pins:List (Addr × Obj)} {σ:L2.St} {H:Hp} {s:Shared} {h':Heap} {k:Bool} {ks:List Bool} (I:Inv X pins σ H s) (kp:∀b o,s.heap.get? b=some o→h'.get? b=some o):∀{us:List V} {rs:List (List V)} {its:List Value},Al2 (jA X.K H) us rs→Vals us its→(∀r∈rs,KdR (k::ks) r) →
  ∃fs,PySem.W.KatTups h' its fs∧fs.length=its.length∧∀f∈fs,∀M:Model,PySem.W.Looks M h' (typeOf f) (.type (if k=true then "int" else "str"))
 |_,_,_,.nil,.nil,_=>⟨[],.nil,rfl,fun f h=>by cases h⟩
 |_,_,_,.cons (b:=r) hr t,.cons q z,hk=>by
  obtain ⟨fs,h1,h2,h3⟩:=aMx I kp t z fun r m=>hk r (List.mem_cons_of_mem _ m)
  obtain ⟨a,rfl,ha⟩:=hr
  cases q
  obtain ⟨ks',rv,⟨o,ho,hc,n,hd⟩,_⟩:=I.tuple ha
  have hkr:=hk r (List.mem_cons_self ..)
  cases hkr with
  |cons hx _=>
   cases rv with
   |@cons _ f _ fr rx _=>
    refine ⟨f::fs,.cons (kp _ _ ho) hc hd (by simp) h1,by rw [List.length_cons,List.length_cons,h2],fun g hg M=>?_⟩
    rcases List.mem_cons.mp hg with rfl|hg
    ·cases k with
     |true=>
      obtain ⟨i,rfl⟩:=hx
      obtain ⟨tk,rfl⟩:=rx
      exact .now
     |false=>
      obtain ⟨i,rfl⟩:=hx
      obtain ⟨tk,rfl⟩:=rx
      exact .now
    ·exact h3 g hg M
theorem jH:cR X (.builtin "sorted") (aWo X.K):=by
 intro pins s σ H xs us0 Q I r h
 obtain ⟨l,us,rs,ks,rfl,hl,hr,h64,hne,hk,q⟩:=h
 obtain ⟨u,rfl,ru⟩:=vals1 r
 cases ru
 obtain ⟨its,rv,pl,hz⟩:=I.list hl
 have e1:=rv.length
 have e2:=hr.len
 obtain ⟨k,ks',rfl⟩:∃k ks',ks=k::ks':=by
  cases ks with
  |nil=>exact absurd rfl hne
  |cons k ks'=>exact ⟨k,ks',rfl⟩
 refine PySem.W.aEc (f:=fun i j=>rlt (rs.getD i []) (rs.getD j [])) pl.isList (by lia) (fun h2 h' kp=>?_) ?_
 ·obtain ⟨fs,t1,t2,t3⟩:=aMx I kp hr rv hk
  refine ⟨_,fun Q hq=>PySem.W.kat_kind (s:={ s with heap:=h' }) (T:=.type (if k=true then "int" else "str")) t1 (by lia) (fun v hv=>t3 v hv _) (by simp) hq,fun i j C hi hj hC=>?_⟩
  have row:∀{i:Nat},i<its.length→∃a o r xs n,its.getD i Value.none=.ref a∧h'.get? a=some o∧o.data=.seq (List.toArray xs) n∧Vals r xs∧rs.getD i []=r∧KdR (k::ks') r:=fun {i} hi=>by
   have hiu:i<us.length:=by lia
   have hir:i<rs.length:=by lia
   obtain ⟨a,ea,ha⟩:=hr.get (List.getElem?_eq_getElem hiu) (List.getElem?_eq_getElem hir)
   obtain ⟨v,hv,rx⟩:=rv.get (List.getElem?_eq_getElem hiu)
   rw [ea] at rx
   cases rx
   obtain ⟨xs,rr,⟨o,ho,hc,n,hd⟩,_⟩:=I.tuple ha
   refine ⟨a,o,rs[i],xs,n,?_,kp _ _ ho,hd,rr,by simp [hir],hk _ (List.getElem_mem hir)⟩
   rw [List.getD_eq_getElem?_getD,hv]
   rfl
  obtain ⟨a,o,r1,x1,n1,g1,g2,g3,g4,g5,g6⟩:=row hi
  obtain ⟨b,o',r2,x2,n2,g1',g2',g3',g4',g5',g6'⟩:=row hj
  show wpAny _ _ (keyLt' _ (its.getD i Value.none) (its.getD j Value.none)) C _ _
  rw [g1,g1']
  refine PySem.W.kat_lt (s:={ s with heap:=h' }) g2 g3 g2' g3' ?_
  have hsz:decide ((List.toArray x1).size<(List.toArray x2).size)=false:=by
   rw [List.size_toArray,List.size_toArray]
   have:=g4.length
   have:=g4'.length
   have:=Al2.len g6
   have:=Al2.len g6'
   exact decide_eq_false (by lia)
  rw [hsz]
  refine aUa (k::ks') g6 g6' g4 g4' 0 ?_
  have hC:C (rlt (rs.getD i []) (rs.getD j [])) { s with heap:=h' }:=hC
  rw [g5,g5'] at hC
  exact hC
 ·obtain ⟨e,he⟩:=sortedAll_at s.heap its (List.toArray ((PySem.W.oH its.length fun i j=>rlt (rs.getD i []) (rs.getD j [])).map fun i=>its.getD i Value.none))
  have hf:H (s.heap.objs.size+1)=none:=I.hok.fresh (Nat.le_succ _)
  have el:its.length=rs.length:=by lia
  refine ⟨.ref (s.heap.objs.size+1),_,I.laid (t':=s.toks) (o:=.lst ((PySem.W.oH rs.length fun i j=>rlt (rs.getD i []) (rs.getD j [])).map fun i=>us.getD i .non)) (fun b o q=>sortedAll_old q) (Nat.le_succ _) ?_,rfl,q _ _ _ hf (bF hf _) aH ?_⟩
  ·refine ⟨small (by rw [List.length_map,PySem.W.aCp];lia),_,e,?_,he⟩
   rw [el]
   have aux:∀L:List Nat,(∀i∈L,i<us.length)→Vals (L.map fun i=>us.getD i .non) (L.map fun i=>its.getD i Value.none):=by
    intro L
    induction L with
    |nil=>intro _;exact .nil
    |cons i L ih=>
     intro hL
     have hi:=hL i (List.mem_cons_self ..)
     obtain ⟨v,hv,rx⟩:=rv.get (List.getElem?_eq_getElem hi)
     refine .cons ?_ (ih fun j hj=>hL j (List.mem_cons_of_mem _ hj))
     show RelV (us.getD i .non) (its.getD i Value.none)
     rw [List.getD_eq_getElem?_getD,List.getElem?_eq_getElem hi,List.getD_eq_getElem?_getD,hv]
     exact rx
   exact aux _ fun i hi=>by have:=PySem.W.wV hi;lia
  ·unfold srt
   have aux:∀L:List Nat,(∀i∈L,i<us.length)→Al2 (jA X.K H) (L.map fun i=>us.getD i .non) (L.map fun i=>rs.getD i []):=by
    intro L
    induction L with
    |nil=>intro _;exact .nil
    |cons i L ih=>
     intro hL
     have hi:=hL i (List.mem_cons_self ..)
     have hir:i<rs.length:=by lia
     refine .cons ?_ (ih fun j hj=>hL j (List.mem_cons_of_mem _ hj))
     show jA X.K H (us.getD i .non) (rs.getD i [])
     rw [List.getD_eq_getElem?_getD,List.getElem?_eq_getElem hi,List.getD_eq_getElem?_getD,List.getElem?_eq_getElem hir]
     exact hr.get (List.getElem?_eq_getElem hi) (List.getElem?_eq_getElem hir)
   exact aux _ fun i hi=>by have:=PySem.W.wV hi;lia
end
section
variable {X:Cx}
def aUo (K:PySem.W.Frag):V→List V→Hp→VK→Prop:=fun x vs H Q=>∃(l:Addr) (ss:List Str) (n:Str) (i:Nat),x=.ref l∧vs=[.str n]∧SqL K H l (ss.map V.str)∧ss.length≤1000∧ss[i]?=some n∧(∀(j:Nat) (m:Str),j<i→ss[j]?=some m→m≠n)∧Q (.int (i:Nat)) H
def aJ0 (n:Str):Value→Bool
 |.str x _=>x == n
 |_=>false
theorem aDg:MtR X "list.index" (aUo X.K):=by
 intro pins s σ H x vs v us Q I rx rv h
 obtain ⟨l,ss,n,i,rfl,rfl,hH,h1000,hi,hno,q⟩:=h
 cases rx
 obtain ⟨u,rfl,ru⟩:=rv.one
 obtain ⟨t,rfl⟩:=ru
 obtain ⟨its,r,pl,hz⟩:=I.list hH
 have el:=r.length
 rw [List.length_map] at el
 obtain ⟨⟨cls,dd,data,sl⟩,ho,hc,nn,hd⟩:=id pl.isList
 simp only at hc hd
 subst hc hd
 have hil:=(List.getElem?_eq_some_iff.mp hi).1
 have get:∀{j:Nat} (hj:j<its.length),∃m t',ss[j]?=some m∧its[j]=.str m t':=fun {j} hj=>by
  have hj':j<ss.length:=by lia
  obtain ⟨w,hw,rw'⟩:=r.get (show (ss.map V.str)[j]?=some (.str ss[j]) by rw [List.getElem?_map,List.getElem?_eq_getElem hj'];rfl)
  obtain ⟨t',rfl⟩:=rw'
  exact ⟨ss[j],t',List.getElem?_eq_getElem hj',(List.getElem?_eq_some_iff.mp hw).2⟩
 refine call_meets PySem.F.slot_list_index ⟨_,ho,rfl⟩ PySem.F.entry_list_index (PySem.F.args_list_index_2 _ _)
  (SeqAt.list_indexAt l its.toArray nn dd sl (.str n t) (aJ0 n) i (by rw [List.size_toArray];lia) (by lia) ?_ ?_) ⟨ho,fun y hy=>?_,⟨.int _,H,I.tok _,⟨_,rfl⟩,q⟩⟩
 ·obtain ⟨m,t',h1,h2⟩:=get (j:=i) (by lia)
  rw [hi] at h1
  cases h1
  show aJ0 n its[i]=true
  rw [h2]
  show (n == n)=true
  simp
 ·intro j hj hlt
  obtain ⟨m,t',h1,h2⟩:=get (j:=j) (by simpa using hj)
  show aJ0 n its[j]=false
  rw [h2]
  have:=hno j m hlt h1
  show (m == n)=false
  simpa using this
 ·have hy:y∈its:=by simpa using hy
  obtain ⟨j,hj,rfl⟩:=List.getElem_of_mem hy
  obtain ⟨m,t',h1,h2⟩:=get (j:=j) hj
  rw [h2]
  exact SeqAt.EqAt.str_str m t' n t
end
end L2
namespace L2
open PySem PySem.Spec PyProof.Rows Builtin
section
variable {prog:Program} {w:World} {A:Around} {E:Value→Shared→Prop} {s:Shared}
theorem aI8 {x Tx:Value} {P:Shared→Prop} (hP:∀s tk,P s→P { s with toks:=tk }) {tp:Addr} {o:Obj} {n:Nat} {tk:Tok} {cs:List Value} {vs:List Bool} {Q:PySem.Fin→Shared→Prop}
  (T:PySem.W.Looks (model prog w) s.heap (typeOf x) Tx) (ne:¬ (Tx == Value.ref tp)=true) (ho:s.heap.get? tp=some o) (hc:o.cls=.type "tuple") (hd:o.data=.seq cs.toArray n) (ha:AnswersAll P x cs vs) (hp:P s)
  (hq:∀t,Q (.done (.ret (.bool (vs.any id)))) { s with toks:=t }) :
  wpAny (model prog w) A (Builtin.«isinstance.nested» ⟨[x,.ref tp,.int 0 tk],[]⟩) Q E s:=by
 obtain ⟨h,g,d,t,os⟩:=s
 have T2:PySem.W.Looks (model prog w) h (typeOf (.ref tp)) (.type "tuple"):=hc ▸ (PySem.W.Looks.ld ho).andThen .now
 unfold Builtin.«isinstance.nested»
 refine wpAny_bind (T.at ?_)
 rw [if_neg ne]
 refine wpAny_bind (T2.at ?_)
 rw [if_neg (by decide)]
 unfold Builtins.unionMembers
 refine wpAny_bind (wpAny_bind (T2.at ?_))
 rw [if_neg (by decide)]
 refine wpAny_pure ?_
 have LI:PySem.W.Looks (model prog w) h (isInstance (.ref tp) (.type "tuple")) true:=T2.andThen (PySem.W.Looks.of_pure F.isi_sub_tuple)
 have SI:PySem.W.Looks (model prog w) h (seqItems? (.ref tp)) (some cs.toArray):=(PySem.W.Looks.ld ho).andThen (by rw [hd];exact .now)
 refine wpAny_bind (LI.at ?_)
 rw [if_pos rfl]
 dsimp only
 rw [if_neg (by decide)]
 refine wpAny_bind (SI.at (wpAny_bind ?_))
 rw [Option.getD_some]
 have e0:∀{F:Value→Option Fin × Unit→Sem (ForInStep (Option Fin × Unit))} {b:Option Fin × Unit},forIn cs.toArray b F=forIn cs b F:=by intros;simp
 rw [e0]
 refine isinstance_items (dep:=0) (P:=P) hP cs vs _ _ ha hp fun tk'=>?_
 cases hv:vs.any id with
 |true=>
  rw [if_pos rfl]
  exact wpAny_pure (hv ▸ hq tk')
 |false=>
  rw [if_neg (by decide)]
  exact wpAny_pure (hv ▸ hq tk')
end
section
variable {X:Cx}
def aVr (K:PySem.W.Frag):List V→Hp→VK→Prop:=fun xs H Q=>∃x t,xs=[x,.ref t]∧SqT K H t [.ty "int",.ty "str"]∧((∃i,x=.int i)∨∃z,x=.str z)∧Q (.bl true) H
theorem aNx:cR X (.builtin "isinstance") (aVr X.K):=by
 intro pins s σ H xs us Q I r h
 obtain ⟨x,t,rfl,ht,hx,q⟩:=h
 obtain ⟨u,v,rfl,rx,rT⟩:=r.two
 obtain rfl:v=Value.ref t:=rT
 obtain ⟨its,rv,⟨o,ho,hoc,n,hod⟩,_⟩:=I.tuple ht
 have ei:its=[.type "int",.type "str"]:=by
  cases rv with
  |cons a b=>cases b with
   |cons c d=>cases d;rw [show _=Value.type "int" from a,show _=Value.type "str" from c]
 subst ei
 rcases hx with ⟨i,rfl⟩|⟨z,rfl⟩
 ·obtain ⟨tk,rfl⟩:=rx
  have ha:AnswersAll (fun s=>s.TypeIs (.int i tk) "int") (.int i tk) [.type "int",.type "str"] [true,false]:=⟨Answers.of_true F.isi_meta_int F.isi_self_int,Answers.of_false_int (by decide +kernel) F.isi_meta_str F.sub_int_str,trivial⟩
  have g:Meets (Builtin.«isinstance» ⟨[.int i tk,.ref t],[]⟩) (fun _ R s=>s.heap.get? t=some o∧∀t,R (.ok (.ret (.bool true))) { s with toks:=t }):=
   fun prog w A R s hs=>isinstance_outer (aI8 (vs:=[true,false]) (fun _ _ h=>h) (.now) (by intro z;exact absurd (beq_iff_eq.mp z) (by intro y;cases y)) hs.1 hoc hod ha (typeIs_int s i tk) fun t=>hs.2 t) (by intro z;cases z)
  exact call_isinstance g ⟨ho,fun t=>⟨.bl true,H,I.tok t,rfl,q⟩⟩
 ·obtain ⟨tk,rfl⟩:=rx
  have ha:AnswersAll (fun s=>s.TypeIs (.str z tk) "str") (.str z tk) [.type "int",.type "str"] [false,true]:=⟨Answers.of_false_str (by decide +kernel) F.isi_meta_int F.sub_str_int,Answers.of_true F.isi_meta_str F.isi_self_str,trivial⟩
  have g:Meets (Builtin.«isinstance» ⟨[.str z tk,.ref t],[]⟩) (fun _ R s=>s.heap.get? t=some o∧∀t,R (.ok (.ret (.bool true))) { s with toks:=t }):=
   fun prog w A R s hs=>isinstance_outer (aI8 (vs:=[false,true]) (fun _ _ h=>h) (.now) (by intro z;exact absurd (beq_iff_eq.mp z) (by intro y;cases y)) hs.1 hoc hod ha (typeIs_str s z tk) fun t=>hs.2 t) (by intro z;cases z)
  exact call_isinstance g ⟨ho,fun t=>⟨.bl true,H,I.tok t,rfl,q⟩⟩
theorem aKv {K:PySem.W.Frag} (hK:X.K=K:=by rfl):cR X (.builtin "isinstance") (aVr K):=by subst hK;exact aNx
def aYs (K:PySem.W.Frag):List V→Hp→VK→Prop:=fun xs H Q=>∃l us,xs=[.ref l,.ty "list"]∧SqL K H l us∧Q (.bl true) H
theorem aOb:cR X (.builtin "isinstance") (aYs X.K):=by
 intro pins s σ H xs us Q I r h
 obtain ⟨l,zs,rfl,hl,q⟩:=h
 obtain ⟨u,v,rfl,rx,rT⟩:=r.two
 obtain rfl:v=Value.type "list":=rT
 obtain rfl:u=Value.ref l:=rx
 obtain ⟨its,rv,pl,_⟩:=I.list hl
 obtain ⟨o,ho,hc,_⟩:=id pl.isList
 exact call_isinstance (isinstance_true F.isi_meta_list F.isi_self_list) ⟨⟨o,ho,hc⟩,⟨.bl true,H,I,rfl,q⟩⟩
end
section
variable {X:Cx} {pins:List (Addr × Obj)} {σ:L2.St} {H:Hp} {s:Shared} {d:Addr} {o:Obj} {kvs:List (Key × V)}
end
section
variable {X:Cx} {tg:Expr}
end
section
variable {X:Cx} {tg:Expr}
end
theorem aCw:∀{xs:List V} {is js:List Value},(∀x∈xs,∃a,x=.ref a)→Vals xs is→Vals xs js→is=js
 |_,_,_,_,.nil,.nil=>rfl
 |_,_,_,h,.cons r t,.cons r' t'=>by
  obtain ⟨a,rfl⟩:=h _ (List.mem_cons_self ..)
  cases r
  cases r'
  rw [aCw (fun x hx=>h x (List.mem_cons_of_mem _ hx)) t t']
end L2
namespace L2
open PySem PySem.Spec PyProof.Rows
variable {X:Cx}
def aZx (K:PySem.W.Frag):R2:=fun x y H Q=>∃a b xs,x=.ref a∧y=.ref b∧SqT K H a xs∧SqT K H b []∧Q (.bl xs.isEmpty) H
theorem aV6 {X:Cx} (hu:X.A.units<cLine):OpR X (compareOp .Eq) (aZx X.K):=by
 intro pins s σ H x y v u Q I rx ry h
 obtain ⟨a,b,xs,rfl,rfl,ha,hb,q⟩:=h
 cases rx
 cases ry
 obtain ⟨its,r1,pl,hz⟩:=I.tuple ha
 obtain ⟨jts,r2,pm,hw⟩:=I.tuple hb
 have e1:=r1.length
 have e2:=r2.length
 cases jts with
 |cons _ _=>cases e2
 |nil=>
  refine SeqAt.RcAt.tuples (e:=fun _=>true) (show s.heap.IsTuple a its.toArray from pl) (show s.heap.IsTuple b ([]:List Value).toArray from pm) hu (fun j h1 h2=>by simp at h2) _ _ _ _ ?_
  rw [oG]
  have z2:(its.toArray.size == ([]:List Value).toArray.size)=xs.isEmpty:=by
   cases xs with
   |nil=>cases its with
    |nil=>rfl
    |cons _ _=>cases e1
   |cons _ _=>cases its with
    |nil=>cases e1
    |cons _ _=>rfl
  rw [z2]
  exact ⟨.bl _,H,I,rfl,q⟩
def bAc (K:PySem.W.Frag):R2:=fun x y H Q=>∃a b xs,x=.ref a∧y=.ref b∧SqL K H a xs∧SqL K H b []∧Q (.bl (!xs.isEmpty)) H
theorem aWn {X:Cx} (hu:X.A.units<cLine):OpR X (compareOp .NotEq) (bAc X.K):=by
 intro pins s σ H x y v u Q I rx ry h
 obtain ⟨a,b,xs,rfl,rfl,ha,hb,q⟩:=h
 cases rx
 cases ry
 obtain ⟨its,r1,pl,hz⟩:=I.list ha
 obtain ⟨jts,r2,pm,hw⟩:=I.list hb
 have e1:=r1.length
 have e2:=r2.length
 cases jts with
 |cons _ _=>cases e2
 |nil=>
  cases xs with
  |nil=>cases its with
   |cons _ _=>cases e1
   |nil=>
    refine SeqAt.RcNeAt.lists (e:=fun _=>true) pl.isList pm.isList rfl hu (fun j h1 h2=>by simp at h2) _ _ _ _ ?_
    exact ⟨.bl _,H,I,rfl,q⟩
  |cons _ _=>cases its with
   |nil=>cases e1
   |cons _ _=>
    refine SeqAt.RcNeAt.lists_lengths pl.isList pm.isList rfl hu _ _ _ _ ?_
    exact ⟨.bl _,H,I,rfl,q⟩
end L2
namespace PySem
open PySem.Spec
section
variable {prog:Program} {w:World} {A:Around} {R:Result→Shared→Prop} {s:Shared} {l:Addr} {items:Array Value} {n:Nat} {dd:Option Addr} {sl:Array (Option Value)} {x:Value} {j:Nat}
end
end PySem
namespace L2
open PySem PySem.Spec PyProof.Rows
end L2
namespace PySem
open PySem.Spec
section
variable {prog:Program} {w:World} {κ:Type} [DecidableEq κ] {knd:KeyKind prog w κ}
end
end PySem
namespace L2
open PySem PySem.Spec PyProof.Rows
section
variable {X:Cx} {i o:Expr} {ty td:TE} {apos cpos:Pos}
end
end L2
namespace PySem
namespace RvF
theorem aJq:typeLookup (.type "tuple") "__reversed__"=pure none:=by rw [typeLookup_type,builtinLookup_eq_fast];kernel_rfl
theorem aFe:isSubtype (.type "tuple") (.type "dict")=pure false:=by rw [isSubtype_type];kernel_rfl
end RvF
def rvT (u:Addr) (i:Int):Obj:={ cls:=.type "reversed",data:=.fields #[.ref u,rawInt i] }
theorem aZ0 {prog:Program} {w:World} {A:Around} {E:Value→Shared→Prop} {s:Shared} {u:Addr} {items:Array Value} {Q:Value→Shared→Prop} (ht:s.heap.IsTuple u items) (hfit:(items.size:Int)<2 ^ 63) (h:Q (.int items.size (s.toks+1)) { s with toks:=s.toks+1+1 }) :
  wpAny (model prog w) A (call (.builtin "len") [.ref u]) Q E s:=PyProof.Rows.len_tuple ht hfit h
theorem aBm (u:Addr) (items:Array Value) (hfit:(items.size:Int)<2 ^ 63) :
  Meets (Builtin.«reversed.__new__» ⟨[.type "reversed",.ref u],[]⟩) (fun _ R s=>s.heap.IsTuple u items ∧
   ∀tk,R (.ok (.ret (.ref s.heap.objs.size))) { s with heap:=s.heap.push (rvT u ((items.size:Int) - 1)),toks:=tk }):=
 .of_wp fun prog w A R s ⟨ht,h⟩=>by
  obtain ⟨hp,g,d,tk,os⟩:=s
  have f1:=RvF.aJq
  have f2:=RvF.aFe
  have f3:=F.slot_tuple_getitem.lookup
  have hT:(⟨hp,g,d,tk,os⟩:Shared).TypeIs (.ref u) "tuple":=PyProof.Rows.IsTup.typeIs ht
  unfold Builtin.«reversed.__new__»
  refine wpAny_bind (wpAny_of_eq (aI0 _) ?_)
  wp_walk using aZ0 ht hfit
  exact ⟨_,rfl,h _⟩
section
variable {prog:Program} {w:World} {A:Around} {E:Value→Shared→Prop} {s:Shared}
theorem wF {u:Addr} {items:Array Value} {Q:Value→Shared→Prop} (ht:s.heap.IsTuple u items) (hfit:(items.size:Int)<2 ^ 63)
  (h:∀tk,Q (.ref s.heap.objs.size) { s with heap:=s.heap.push (rvT u ((items.size:Int) - 1)),toks:=tk }):wpAny (model prog w) A (call (.type "reversed") [.ref u]) Q E s:=by
 refine callType_new RvF.called (by decide) (RvF.aL5 _) (RvF.aOd _) (fun obj=>F.args_object_init_2 obj _) RvF.aNv (aBm u items hfit) ?_
 refine ⟨ht,fun tk=>?_⟩
 exact ⟨⟨_,Heap.get?_push_size _ rfl,rfl⟩,h tk⟩
theorem zZ {it u:Addr} {i:Int} {Q:Value→Shared→Prop} (hit:s.heap.get? it=some (rvT u i)) (h:Q (.ref it) s):wpAny (model prog w) A (pyIter (.ref it)) Q E s:=by
 have hT:s.TypeIs (.ref it) "reversed":=⟨_,hit,rfl⟩
 refine wpAny_pyIter_slot hT RvF.aDf (wpAny_call_entry RvF.aDf hT RvF.aLk ?_ (RvF.aGu _))
 show wpAny _ _ (ret (.ref it)) _ _ s
 exact wpAny_pure ⟨_,rfl,"reversed",_,hT,RvF.slot_next.lookup,h⟩
theorem bAb {hp:Heap} {g:Array GenState} {d:Drawn} {tk:Nat} {os:_} {u:Addr} {items:Array Value} {k:Int} {t:Tok} {j:Nat} {x:Value} {Q:Value→Shared→Prop} (ht:hp.IsTuple u items)
  (hlo:-(2 ^ 63)≤k) (hhi:k<2 ^ 63) (hj:seqIndex? k items.size=some j) (hx:items[j]?=some x) (h:Q x ⟨hp,g,d,tk,os⟩):wpAny (model prog w) A (getItem (.ref u) (.int k t)) Q E ⟨hp,g,d,tk,os⟩:=PyProof.Rows.getItem_tuple (s:=⟨hp,g,d,tk,os⟩) ht hlo hhi hj hx h
theorem zM {it u:Addr} {i:Nat} {items:Array Value} {y:Value} {Q:Option Value→Shared→Prop} (hit:s.heap.get? it=some (rvT u (i:Int))) (ht:s.heap.IsTuple u items) (hx:items[i]?=some y) (hfit:items.size≤sizeLine)
  (hQ:∀h' tk,h'.get? it=some (rvT u ((i:Int) - 1))→Heap.SameBut it s.heap h'→Q (some y) { s with heap:=h',toks:=tk }):wpAny (model prog w) A (pyNext (.ref it)) Q E s:=by
 have hT0:s.TypeIs (.ref it) "reversed":=⟨_,hit,rfl⟩
 obtain ⟨hp,g,d,tk,os⟩:=s
 have hi:i<items.size:=(Array.getElem?_eq_some_iff.mp hx).1
 have hz:sizeLine<2 ^ 62:=by decide
 have f3:=F.slot_tuple_getitem.lookup
 have hT:(⟨hp,g,d,tk,os⟩:Shared).TypeIs (.ref u) "tuple":=PyProof.Rows.IsTup.typeIs ht
 have ho:hp.get? it=some { cls:=.type "reversed",data:=.fields #[.ref u,rawInt (i:Int)] }:=hit
 unfold pyNext
 refine wpAny_bind (wpAny_attempt (wpAny_callSpecial?_slot (name:=Str.ofString "__next__") hT0 RvF.slot_next
  (wpAny_call_entry RvF.slot_next hT0 RvF.entry_next ?_ (RvF.yS _))))
 unfold Builtin.«reversed.__next__»
 refine wpAny_bind (wpAny_of_eq (a:=(Value.ref it,[])) rfl ?_)
 try dsimp only
 refine wpAny_bind (wpAny_field ho rfl (x:=.ref u) rfl ?_)
 refine wpAny_bind (wpAny_field ho rfl (x:=rawInt (i:Int)) rfl ?_)
 show wpAny _ _ (if (i:Int)<0 then _ else _) _ _ _
 rw [if_neg (by lia)]
 have hj:seqIndex? (i:Int) items.size=some i:=by
  unfold seqIndex?
  have h1:¬ ((i:Int)<0):=by lia
  simp [h1,hi]
 wp_walk using bAb ht (by lia) (by lia) hj hx
 refine ⟨_,rfl,wpAny_pure (hQ _ _ ?_ (Heap.SameBut.update ..))⟩
 exact Heap.get?_update_self _ ho rfl
theorem aAb {it u:Addr} {Q:Option Value→Shared→Prop} (hh:A.handled=none) (hit:s.heap.get? it=some (rvT u (-1)))
  (hQ:∀h',Heap.ExtBut it s.heap h'→Q none { s with heap:=h' }):wpAny (model prog w) A (pyNext (.ref it)) Q E s:=by
 have ho:s.heap.get? it=some { cls:=.type "reversed",data:=.fields #[.ref u,rawInt (-1)] }:=hit
 unfold pyNext
 refine wpAny_bind (wpAny_attempt (wpAny_callSpecial?_slot (name:=Str.ofString "__next__") (⟨_,hit,rfl⟩:s.TypeIs (.ref it) "reversed") RvF.slot_next
  (wpAny_call_entry RvF.slot_next (⟨_,hit,rfl⟩:s.TypeIs (.ref it) "reversed") RvF.entry_next ?_ (RvF.yS _))))
 unfold Builtin.«reversed.__next__»
 refine wpAny_bind (wpAny_of_eq (a:=(Value.ref it,[])) rfl ?_)
 try dsimp only
 refine wpAny_bind (wpAny_field ho rfl (x:=.ref u) rfl ?_)
 refine wpAny_bind (wpAny_field ho rfl (x:=rawInt (-1)) rfl ?_)
 show wpAny _ _ (if (-1:Int)<0 then _ else _) _ _ _
 rw [if_pos (by decide)]
 refine wpAny_bind (wpAny_rule ?_)
 refine wpAny_bind ?_
 refine wpAny_bind (wpAny_setField ho rfl (by simp) ?_)
 have ho2:(s.heap.update it (Obj.mapFields (·.setIfInBounds 1 (rawInt (-1))))).get? it=some { cls:=.type "reversed",data:=.fields #[.ref u,rawInt (-1)] }:=Heap.get?_update_self _ ho rfl
 refine wpAny_setField (s:={ s with heap:=s.heap.update it (Obj.mapFields (·.setIfInBounds 1 (rawInt (-1)))) }) ho2 rfl (by simp) ?_
 first
 |show wpAny _ _ (newExc (.type "StopIteration") [] >>= _) _ _ _
 |(refine wpAny_bind ?_;show wpAny _ _ (newExc (.type "StopIteration") [] >>= _) _ _ _)
 refine wpAny_bind ?_
 simp only [newExc,newTuple]
 refine wpAny_bind (wpAny_newObj_type ?_ (by size_fits))
 refine wpAny_bind (m:=firstArgMember _ _) (wpAny_of_eq (a:=Value.none) (by first|rfl|(simp only [firstArgMember];rfl)) ?_)
 refine wpAny_newObj_type ?_ (by size_fits)
 simp only [raiseNew]
 refine wpAny_bind (wpAny_handled ?_)
 first|rw [show A.in1.handled=none from hh]|rw [hh]
 refine wpAny_bind (wpAny_pure (wpAny_throw ?_))
 refine wpAny_bind (wpAny_isInstance (T:="StopIteration") (b:=true) ⟨_,Heap.get?_push_size _ rfl,rfl⟩ isSubtype_stop ?_)
 exact wpAny_pure (hQ _ ((((Heap.SameBut.update ..).trans (Heap.SameBut.update ..)).extBut.push _).push _))
end
end PySem
namespace L2
open PySem PySem.Spec PyProof.Rows
def Itu (K:PySem.W.Frag) (a:Addr) (n:Nat):It:=
 ⟨fun i H=>∃xs x,SqT K H a xs∧xs.length=n∧i<n∧xs[n - 1 - i]?=some x,fun i H x H'=>H'=H∧∀xs,SqT K H a xs→xs[n - 1 - i]?=some x,fun i _=>i=n⟩
theorem aSu {P:Program} {w:World} {K:PySem.W.Frag} {tg:Expr} (a it:Addr) (n:Nat):Turn P w K tg (Itu K a n) [it] it (fun i h=>h.get? it=some (rvT a ((n:Int) - 1 - (i:Int)))) where
 mem:=by simp
 obj:=fun i h st b hb=>by
  have e:b=it:=by simpa using hb
  subst e
  exact ⟨_,st,fun v z=>by
   have z':Data.fields _=Data.cell v:=z
   cases z'⟩
 keep:=fun i h h' st k=>k it (by simp) _ st
 item:=by
  intro X hP hw hK hc i pins s σ H E I hf st hg
  subst hP hw hK
  obtain ⟨xs,x,hq,hl,hi,hx⟩:=hg
  obtain ⟨its,rv,p,hz⟩:=I.tuple hq
  obtain ⟨u,hu,ru⟩:=rv.get hx
  obtain ⟨f0,f1,f2,f3,f4,f5⟩:=hf it (by simp)
  have lr:=rv.length
  have e:(n:Int) - 1 - (i:Int)=((n - 1 - i:Nat):Int):=by lia
  rw [e] at st
  refine zM st (show s.heap.IsTuple a its.toArray from p) (y:=u) (by simpa using hu) (by rw [List.size_toArray];lia) fun h' tk st' sb=>?_
  have e2:((n - 1 - i:Nat):Int) - 1=(n:Int) - 1 - ((i+1:Nat):Int):=by lia
  rw [e2] at st'
  have I1:Inv X pins σ H { s with heap:=h',toks:=tk }:=I.turned (fun b o hb e=>(sb.2 b hb).trans e) f0 f1 f3 f4 f5
  exact ⟨_,rfl,aCz (s:={ s with heap:=h',toks:=tk }) (n:="reversed") st' rfl rfl (by decide) ⟨x,H,I1,ru,⟨rfl,fun ys hy=>by rw [I.aCj hy hq];exact hx⟩,st',fun b hb=>(hf b hb).1⟩⟩
 done:=by
  intro X hP hw hK hc i pins s σ H E I hf st hg
  subst hP hw hK
  obtain ⟨f0,f1,f2,f3,f4,f5⟩:=hf it (by simp)
  have hi:i=n:=hg
  rw [hi,show (n:Int) - 1 - (n:Int)=-1 by lia] at st
  exact aAb (I.ok.hd hc) st fun h' eb=>⟨rfl,I.turned (t':=s.toks) (fun b o hb e=>eb b o hb e) f0 f1 f3 f4 f5⟩
 self:=fun _ _ _ _ _ st h=>zZ st h
section
variable {X:Cx} {tg:Expr}
def aYq (K:PySem.W.Frag) (ta:TA):TI:=fun σ H R=>ta σ H fun vs H1=>∃a xs,vs=[.ref a]∧SqT K H1 a xs∧R (Itu K a xs.length) H1
theorem aTg {a:Expr} {ta:TA} {p pos:Pos} (hg:Gl X "reversed") (hm:X.mg "reversed"=none) (ha:VA X [a] ta) (hp:iK a=true:=by rfl):VI X tg (.Call (.Name "reversed" p) [a] [] pos) (aYq X.K ta):=⟨by
 intro pins s σ H R I h
 refine Call_ (uG I hg hm aG3 (PyProof.Rows.callWith_type1 (thn (ha.1 pos pins s σ H _ I h) fun us s1 ⟨vs,H1,I1,r1,q1⟩=>?_) (cA (es:=[]) hp) rfl))
 obtain ⟨z,xs,e,hz,q⟩:=q1
 subst e
 cases r1 with
 |cons r rr=>
  cases rr
  cases r
  obtain ⟨its,rv,pt,hsz⟩:=I1.tuple hz
  have lr:=rv.length
  have h63:=uU
  refine wF (show s1.heap.IsTuple z its.toArray from pt) (by rw [List.size_toArray];lia) fun tk=>?_
  have I2:Inv X pins σ H1 { s1 with heap:=s1.heap.push (rvT z ((its.toArray.size:Int) - 1)),toks:=tk }:=I1.kept fun b o e=>Heap.get?_push_of_some _ e
  refine zZ (s:={ s1 with heap:=s1.heap.push (rvT z ((its.toArray.size:Int) - 1)),toks:=tk }) (Heap.get?_push_size _ rfl) ?_
  refine ⟨s1.heap.objs.size,[s1.heap.objs.size],_,_,H1,rfl,I2,aSu z _ xs.length,?_,fun b hb=>?_,q⟩
  ·show (s1.heap.push (rvT z ((its.toArray.size:Int) - 1))).get? s1.heap.objs.size=some (rvT z ((xs.length:Int) - 1 - ((0:Nat):Int)))
   rw [show (xs.length:Int) - 1 - ((0:Nat):Int)=(its.toArray.size:Int) - 1 by rw [List.size_toArray];lia]
   exact Heap.get?_push_size _ rfl
  ·have e:b=s1.heap.objs.size:=by simpa using hb
   subst e
   exact I1.aG2 (Nat.le_refl _) (I1.hok.fresh (Nat.le_refl _))⟩
end
theorem aQu {K:PySem.W.Frag} {a:Addr} {xs:List V} {g:TG} {tb:TS} {D:Ends} {σ:L2.St} {H:Hp} (Pv:Nat→L2.St→Hp→Prop) (h0:Pv 0 σ H) (hl:∀i σ H,i≤xs.length→Pv i σ H→SqT K H a xs)
  (hs:∀i x σ H,i<xs.length→xs[xs.length - 1 - i]?=some x→Pv i σ H→g x σ H fun σ2 H2=>tb { D with nx:=Pv (i+1),ct:=Pv (i+1),bk:=D.nx } σ2 H2) (hd:∀σ H,Pv xs.length σ H→D.nx σ H) :
  ∃W:Nat→Nat→L2.St→Hp→Prop,(∃m,W 0 m σ H)∧∀i m σ H,W i m σ H →
   ((Itu K a xs.length).stop i H∧D.nx σ H)∨((Itu K a xs.length).go i H∧∃N:L2.St→Hp→Prop,(∀σ' H',N σ' H'→∃m',m'<m∧W (i+1) m' σ' H')∧∀x H',(Itu K a xs.length).yld i H x H'→g x σ H' fun σ2 H2=>tb { D with nx:=N,ct:=N,bk:=D.nx } σ2 H2):=by
 refine ⟨fun i m σ H=>m=xs.length - i∧i≤xs.length∧Pv i σ H,⟨xs.length,by simp,Nat.zero_le _,h0⟩,?_⟩
 rintro i m σ H ⟨rfl,hi,p⟩
 have q:=hl i σ H hi p
 by_cases hlt:i<xs.length
 ·right
  have hx:xs[xs.length - 1 - i]?=some (xs[xs.length - 1 - i]'(by lia)):=List.getElem?_eq_getElem (by lia)
  refine ⟨⟨xs,_,q,rfl,hlt,hx⟩,Pv (i+1),fun σ' H' h=>⟨xs.length - (i+1),by lia,rfl,by lia,h⟩,?_⟩
  rintro x H' ⟨rfl,hy⟩
  exact hs i x σ H' hlt (hy xs q) p
 ·left
  have e:i=xs.length:=by lia
  subst e
  exact ⟨rfl,hd σ H p⟩
section
variable {X:Cx} {scope:Scope} {N:List Str} {wi:TI} {te:TE} {σ:L2.St} {H:Hp} {Q:VK}
theorem aDb {tt:TT} (xs:List V) (p:Nat→Bool) (σ0:L2.St) (cap:Cap X scope N σ σ0) (hsz:xs.length≤sizeLine)
  (hw:∀R:It→Hp→Prop,(∀J:It,(∀H' i x,Same H H'→xs[i]?=some x→J.go i H'∧∀y H2,J.yld i H' y H2→H2=H'∧y=x)→(∀H',Same H H'→J.stop xs.length H')→R J H)→wi σ H R)
  (ht:∀(i:Nat) (x:V),xs[i]?=some x→∀H' R l,Same H H'→(∀H2,Same H' H2→R (p i) H2)→tt ((σ0.set 0 l).set 0 (some x)) H' R) (h0:σ0[0]?=some none)
  (q:∀D H',H D=none→Same H H'→H' D=some (.lst (sel p 0 xs))→Q (.ref D) H') :
  iV X scope N wi (bQ 0) tt (yX 0) σ H Q:=by
 refine ⟨σ0,cap,hw _ fun J go stop D hD=>?_⟩
 refine ⟨fun i m σ' H' ys=>i≤xs.length∧m=xs.length - i∧(∃l,σ'=σ0.set 0 l)∧Same H H'∧H' D=some (.lst ys)∧ys=sel p 0 (xs.take i),⟨xs.length,Nat.zero_le _,rfl,⟨none,fV h0⟩,bF hD _,aH,rfl⟩,?_⟩
 rintro i m σ' H' ys ⟨hi,rfl,⟨l,rfl⟩,sm,hL,rfl⟩
 refine ⟨hL,?_⟩
 by_cases hlt:i<xs.length
 ·right
  obtain ⟨g1,g2⟩:=go H' i xs[i] sm (List.getElem?_eq_getElem hlt)
  refine ⟨g1,fun x H2 hy=>?_⟩
  obtain ⟨rfl,rfl⟩:=g2 x H2 hy
  unfold bQ
  dsimp only
  have hj:0<σ0.length:=by
   by_cases z:0<σ0.length
   ·exact z
   ·rw [List.getElem?_eq_none (by lia)] at h0;cases h0
  have tk:sel p 0 (xs.take (i+1))=sel p 0 (xs.take i)++(if p i then [xs[i]] else []):=by
   rw [List.take_add_one,List.getElem?_eq_getElem hlt]
   show sel p 0 (xs.take i++[xs[i]])=_
   rw [wI,List.length_take,Nat.zero_add,Nat.min_eq_left (Nat.le_of_lt hlt)]
  refine ht i xs[i] (List.getElem?_eq_getElem hlt) _ _ l sm fun H3 s3=>?_
  cases hp:p i with
  |true=>
   rw [if_pos rfl]
   refine ⟨xs[i],by rw [List.set_set,List.getElem?_set_self hj],s3 _ _ hL,?_,xs.length - (i+1),by lia,hlt,rfl,⟨some xs[i],by rw [List.set_set]⟩,?_,aH,?_⟩
   ·have:=vY p 0 (xs.take i)
    rw [List.length_take] at this
    lia
   ·intro b o e
    rw [aV (bB e hD)]
    exact s3 _ _ (sm _ _ e)
   ·rw [tk,hp];rfl
  |false=>
   rw [if_neg (by simp)]
   refine ⟨s3 _ _ hL,xs.length - (i+1),by lia,hlt,rfl,⟨some xs[i],by rw [List.set_set]⟩,sm.trans s3,s3 _ _ hL,?_⟩
   rw [tk,hp]
   simp
 ·left
  have e:i=xs.length:=by lia
  subst e
  refine ⟨stop _ sm,?_⟩
  rw [List.take_length] at hL
  exact q D _ hD sm hL
end
end L2
namespace My
open PySem PySem.Spec PyProof.Rows L2
section
variable {P:Program} {w:World} {K:PySem.W.Frag} {mg:Str→Option Value} {base:Heap}
def plc:Hdr→Str→Nat
 |[],_=>0
 |c::r,n=>if c.1=n then 0 else plc r n+1
theorem mH {n k:Str}:∀{hd:Hdr},look hd n=some k→hd[plc hd n]?=some (n,k)∧∀(j:Nat) (c:Str × Str),j<plc hd n→hd[j]?=some c→c.1≠n
 |[],h=>by cases h
 |(m,q)::r,h=>by
  unfold look at h
  rw [List.find?_cons] at h
  by_cases e:m=n
  ·rw [decide_eq_true (p:=(m,q).1=n) e] at h
   have h':q=k:=Option.some.inj h
   subst e h'
   have z:plc ((m,q)::r) m=0:=if_pos rfl
   rw [z]
   exact ⟨rfl,fun j c hj=>absurd hj (Nat.not_lt_zero _)⟩
  ·rw [decide_eq_false (p:=(m,q).1=n) e] at h
   obtain ⟨h1,h2⟩:=mH (hd:=r) h
   have z:plc ((m,q)::r) n=plc r n+1:=if_neg e
   rw [z]
   refine ⟨by simpa using h1,fun j c hj hc=>?_⟩
   cases j with
   |zero=>cases hc;exact e
   |succ j=>exact h2 j c (by lia) (by simpa using hc)
def qJ (K:PySem.W.Frag):Sp:=fun vs H Q _=>∃vh n hd k,vs=[vh,.str n]∧cZ K H vh hd∧hd.length≤1000∧look hd n=some k∧∀H',Same H H'→Q (.int (plc hd n:Nat)) H'
theorem aI6 (T:Txt w K mg) (pA:Ok P w K mg base 1 "names_of" ["head"] (aK6 K)):Ok P w K mg base 2 "place_of" ["head","name"] (qJ K):=by
 refine Ok.ofV T.aLh aH9 (fun vs H Q E h=>?_) (fun f cdv A outer s H vs Q E hr h=>?_)
 ·obtain ⟨vh,n,hd,k,rfl,_⟩:=h;rfl
 obtain ⟨vh,n,hd,k,rfl,hI,hl,hk,q⟩:=h
 obtain ⟨h1,h2⟩:=mH hk
 refine ⟨_,(aG (aN (qH PySem.F.plainAttrs_list PySem.F.slot_list_index PySem.F.type_list_index aDg (aO (pA.mono (by decide)) hr (by rfl) (aB (vv 0) aA)) (aB (vv 1) aA)))),?_⟩
 refine ⟨_,rfl,vh,hd,rfl,hI,hl,fun D H1 s1 g1=>?_⟩
 refine ⟨.inl ⟨rfl,_,SqL.of g1⟩,_,rfl,D,hd.map (·.1),n,plc hd n,rfl,rfl,SqL.of g1,by rw [List.length_map];exact hl,by rw [List.getElem?_map,h1];rfl,fun j m hj hm=>?_,q H1 s1⟩
 rw [List.getElem?_map] at hm
 obtain ⟨c,hc,rfl⟩:=Option.map_eq_some_iff.mp hm
 exact h2 j c hj hc
def dU (is:List Nat) (r:List V):List V:=is.map fun i=>r.getD i .non
def wX (K:PySem.W.Frag):Sp:=fun vs H Q _=>∃(vr:V) (D:Addr) (r:List V) (is:List Nat),vs=[vr,.ref D]∧jA K H vr r∧SqL K H D (is.map fun i=>V.int (i:Nat))∧is.length≤1000∧(∀i∈is,i<r.length)∧∀t H',Same H H'→H' t=some (.tup (dU is r))→Q (.ref t) H'
theorem aOn (T:Txt w K mg):Ok P w K mg base 1 "picked" ["row","places"] (wX K):=by
 refine Ok.ofV T.aSn aPf (fun vs H Q E h=>?_) (fun f cdv A outer s H vs Q E hr h=>?_)
 ·obtain ⟨vr,D,r,is,rfl,_⟩:=h;rfl
 obtain ⟨vr,D,r,is,rfl,⟨a,rfl,ha⟩,hD,hl,hi,q⟩:=h
 refine ⟨_,(aG (aN (bO cC (by rfl) T.cL cB (aB (bN (N:=["place","row"]) (by trivial) (cO (aF vR) rfl (by decide +kernel)) rfl (cV (vv 1)) (fun cl s' H' fp=>⟨(aL (i:=0) (show (["place","row"]:List Str).Nodup from by decide +kernel) rfl (Or.inl rfl)),bT,(aK (bZ (K:=K)) (vv 1) (vv 0) (fun _ _=>rfl))⟩)) aA)))),?_⟩
 dsimp only [zK,tCB,cT]
 refine dZ (is.map fun i=>V.int (i:Nat)) (dU is r) (by unfold dU;rw [List.length_map,List.length_map]) [none,some (.ref a)] (dO 0 (by decide +kernel) rfl rfl (by trivial)) (small (by rw [List.length_map];exact hl)) (fun R r=>lJ (fun H' sm=>sm.seq hD) (fun R' r'=>⟨_,rfl,r'⟩) R r) (fun i x y ex ey H' R l sm rr=>?_) rfl fun D2 H2 s2 g2=>?_
 ·unfold dU at ey
  rw [List.getElem?_map] at ex ey
  obtain ⟨n,en,rfl⟩:=Option.map_eq_some_iff.mp ex
  rw [en] at ey
  cases ey
  have hn:=hi n (List.mem_of_getElem? en)
  refine ⟨_,rfl,_,rfl,a,r,_,_,rfl,rfl,sm.aP ha,?_,rr H' (Same.refl _)⟩
  have e:r.getD n .non=r[n]:=by simp [hn]
  show atI r ((n:Nat):Int)=some (r.getD n .non)
  rw [e]
  exact dR (List.getElem?_eq_getElem hn)
 ·exact ⟨D2,_,rfl,SqL.of g2,fun t H3 _ s3 g3=>q t H3 (s2.trans s3) g3⟩
def Alike (x y:V):Prop:=(∃a b,x=.int a∧y=.int b)∨∃a b,x=.str a∧y=.str b
theorem Alike.scal {x y:V} (h:Alike x y):scal x y=true:=by
 rcases h with ⟨a,b,rfl,rfl⟩|⟨a,b,rfl,rfl⟩ <;> rfl
def aDi (k:Str):Bool:=decide (k = "number")
def knds (hd:Hdr):List Bool:=hd.map fun c=>aDi c.2
theorem aAd {hd:Hdr} {r:List V} (h:KdR (knds hd) r) {i:Nat} {c:Str × Str} (hc:hd[i]?=some c):i<r.length∧KdV (aDi c.2) (r.getD i .non):=by
 obtain ⟨x,hx,hk⟩:=Al2.at h (show (knds hd)[i]?=some (aDi c.2) by unfold knds;rw [List.getElem?_map,hc];rfl)
 have hi:=(List.getElem?_eq_some_iff.mp hx).1
 refine ⟨hi,?_⟩
 rw [List.getD_eq_getElem?_getD,hx]
 exact hk
theorem aQy {b:Bool} {x y:V} (h1:KdV b x) (h2:KdV b y):Alike x y:=by
 cases b with
 |true=>obtain ⟨i,rfl⟩:=h1;obtain ⟨j,rfl⟩:=h2;exact .inl ⟨i,j,rfl,rfl⟩
 |false=>obtain ⟨i,rfl⟩:=h1;obtain ⟨j,rfl⟩:=h2;exact .inr ⟨i,j,rfl,rfl⟩
theorem mK {α:Type}:∀(k:Nat) (xs:List α),sel (fun _=>true) k xs=xs
 |_,[]=>rfl
 |k,x::r=>by
  show (if true=true then x::sel (fun _=>true) (k+1) r else _)=_
  rw [if_pos rfl,mK (k+1) r]
theorem jM {R:Nat→V→Prop} {n:Nat} {ys:List V} (h:nY R (List.range n) ys):ys.length=n∧∀(i:Nat) (y:V),ys[i]?=some y→R i y:=by
 have aux:∀{is:List Nat} {ys:List V},nY R is ys→∀(i:Nat) (y:V),ys[i]?=some y→∃j,is[i]?=some j∧R j y:=by
  intro is ys h
  induction h with
  |nil=>intro i y e;simp at e
  |cons r _ ih=>
   intro i y e
   cases i with
   |zero=>cases e;exact ⟨_,rfl,r⟩
   |succ i=>obtain ⟨j,h1,h2⟩:=ih i y (by simpa using e);exact ⟨j,by simpa using h1,h2⟩
 have l:=h.len
 rw [List.length_range] at l
 refine ⟨l.symm,fun i y e=>?_⟩
 obtain ⟨j,h1,h2⟩:=aux h i y e
 have hi:i<n:=by
  have:=(List.getElem?_eq_some_iff.mp e).1
  lia
 rw [List.getElem?_range hi] at h1
 cases h1
 exact h2
theorem aQ4 {X:Cx} {K:PySem.W.Frag} {tg e:Expr} {te:TE} (h:VE X e te) (hK:X.K=K:=by rfl):VI X tg e (sY K te):=by subst hK;exact cV h
theorem pH {X:Cx} {scope:Scope} {x y z:Str} {σ:L2.St} {u v:V} (i j:Nat) (hf:(y,NameKind.free)∈scope.names) (hg:(z,NameKind.free)∈scope.names) (hi:X.N[i]?=some y) (hj:X.N[j]?=some z) (hs:σ[i]?=some (some u)) (ht:σ[j]?=some (some v)) (hv:Vis X.env.scope y) (hw:Vis X.env.scope z):Cap X scope [x,y,z] σ [none,some u,some v]:=
 ⟨rfl,fun n q r h1 h2=>by
  match n,h1,h2 with
  |0,_,h2=>cases h2
  |1,h1,h2=>cases h1;cases h2;exact ⟨hf,i,hi,hs,hv⟩
  |2,h1,h2=>cases h1;cases h2;exact ⟨hg,j,hj,ht,hw⟩
  |n+3,h1,_=>cases h1⟩
theorem none_of {H H':Hp} {D:Addr} (e:Same H H') (h:H' D=none):H D=none:=by
 cases z:H D with
 |none=>rfl
 |some o=>rw [e _ _ z] at h;cases h
def cG (K:PySem.W.Frag) (H:Hp) (D:Addr) (rs:List (List V)):Prop:=∃us,H D=some (.lst us)∧bM (jA K H) us rs
theorem cG.same {H H':Hp} {D:Addr} {rs:List (List V)} (e:Same H H') (h:cG K H D rs):cG K H' D rs:=by
 obtain ⟨us,h1,h2⟩:=h
 exact ⟨us,e _ _ h1,h2.imp fun _ _ r=>r.same e⟩
theorem lU {α β:Type} {R:α→β→Prop}:∀{as:List α} {bs:List β},as.length=bs.length→(∀(i:Nat) (a:α) (b:β),as[i]?=some a→bs[i]?=some b→R a b)→bM R as bs
 |[],[],_,_=>.nil
 |[],_::_,h,_=>by cases h
 |_::_,[],h,_=>by cases h
 |a::as,b::bs,h,k=>.cons (k 0 a b rfl rfl) (lU (by simpa using h) fun i x y e1 e2=>k (i+1) x y (by simpa using e1) (by simpa using e2))
end
end My
namespace PySem
section
variable {prog:Program} {w:World} {K:Type} [DecidableEq K] {knd:HeapKind prog w K} {A:Around} {E:Value→Shared→Prop} {s:Shared}
theorem aU3 {d a:Addr} {xs:List (K × Addr × Value)} {k:K} {z:Value} {Q:Value→Shared→Prop} (ru:knd.room A) (ik:knd.is s.heap k a) (dm:s.heap.DictOfH knd d xs) (lx:xs.length≤sizeLine)
  (h1:∀p,atKey xs k=some p→Q p.2 { s with toks:=s.toks+knd.draws k })
  (h2:atKey xs k=none→∀h',h'.DictOfH knd d (storedH xs k a z)→Heap.SameBut d s.heap h'→Q z { s with heap:=h',toks:=s.toks+knd.draws k }) :
  wpAny (model prog w) A (dictSetDefault d (.ref a) z) Q E s:=by
 obtain ⟨ob,ents,epo,g1,g2,g3,g4,g5,g6⟩:=dm
 have lz:=size_of_entries g4
 unfold dictSetDefault
 try with_reducible refine wpAny_holding ?_
 refine wpAny_bind (knd.pyHash ru ik (wpAny_bind (wpAny_dictFind_heap (s:={ s with toks:=s.toks+knd.draws k }) ru ik g1 g3 g4 g5 g6 (fun no=>?_) fun j p hj=>?_)))
 ·have an:=atKey_none_of_get no
  have nk:k∉xs.map (·.1):=not_mem_keys_of_get no
  refine wpAny_bind (wpAny_rule (wpAny_bind (wpAny_updateDictKeys (hz:=by lia) (s:={ s with toks:=s.toks+knd.draws k }) g1 g3 (wpAny_pure ?_))))
  refine h2 an _ ⟨_,_,epo+1,Heap.get?_update_self _ g1 (Obj.isFreed_of_dict (Obj.data_mapDictKeys g3 _)),g2.mapDictKeys _,Obj.data_mapDictKeys g3 _,?_,?_,?_⟩ (Heap.SameBut.update ..)
  ·rw [storedH_new an];simp [g4,entryOfKey]
  ·rw [storedH_new an]
   intro x hx
   rcases List.mem_append.mp hx with hx|hx
   ·exact knd.keeps (g5 x hx) g1 g3 (Heap.SameBut.update ..)
   ·cases List.mem_singleton.mp hx
    exact knd.keeps ik g1 g3 (Heap.SameBut.update ..)
  ·rw [storedH_new an,List.map_append,List.nodup_append]
   refine ⟨g6,by simp,fun x hx y hy e=>?_⟩
   cases List.mem_singleton.mp (show y∈[k] from hy)
   exact nk (e ▸ hx)
 ·have ap:=atKey_of_get g6 hj
  refine wpAny_bind (wpAny_dictEntries (s:={ s with toks:=s.toks+knd.draws k }) g1 g3 ?_)
  rw [entry_at g4 j,hj]
  exact wpAny_bind (wpAny_rule (wpAny_pure (h1 p ap)))
end
end PySem
namespace L2
open PySem PySem.Spec PyProof.Rows
section
variable {X:Cx}
def aVn:V→List V→Hp→VK→Prop:=fun x vs H Q=>∃(d b:Addr) (kvs:List (List Key × V)) (k:List Key) (z:V),x=.ref d∧vs=[.ref b,z]∧H d=some (.dT kvs)∧H b=some (.tup (k.map kV))∧kvs.length<sizeLine ∧
 (∀v,jX kvs k=some v→Q v H)∧(jX kvs k=none→Q z (upd H d (.dT (putK kvs k z))))
theorem aT0 (hu:X.A.units+1<cLine):MtR X "dict.setdefault" aVn:=by
 intro pins s σ H x vs v us Q I rx rv h
 obtain ⟨d,b,kvs,k,z,rfl,rfl,e,eb,l,h1,h2⟩:=h
 cases rx
 obtain ⟨u1,u2,rfl,r1,r2⟩:=rv.two
 cases (show u1=Value.ref b from r1)
 obtain ⟨zz,hd,xs,rel,dd⟩:=aYg I.hok e
 have hz:xs.length≤sizeLine:=by rw [←Paired.length rel];exact zz
 have hl:(putK kvs k z).length≤sizeLine:=by have:=yV kvs k z;lia
 refine wpAny_call_entry PySem.F.slot_dict_setdefault dd.typeIs PySem.F.entry_dict_setdefault ?_ (PySem.F.args_dict_setdefault_3 _ _ _)
 unfold Builtin.«dict.setdefault»
 refine wpAny_bind ?_
 unfold Builtin.Dict.keyAndDefault
 refine wpAny_bind (wpAny_notOrdered_dict dd.typeIs ?_)
 show wpAny _ _ (pure (d,Value.ref b,some u2)) _ _ s
 refine wpAny_pure ?_
 show wpAny _ _ (if (d == sysModules)=true then _ else (dictSetDefault d (.ref b) u2 >>= _)) _ _ s
 rw [if_neg (by rw [hd];exact Bool.false_ne_true)]
 refine wpAny_bind (aU3 (tupleKind_room_in1 hu) (aAi I.hok eb) dd hz (fun p hp=>?_) fun hn h' dd' hs=>?_)
 ·have q:=rel.val k
  rw [hp] at q
  cases hv:jX kvs k with
  |none=>rw [hv] at q;exact q.elim
  |some v=>
   rw [hv] at q
   exact wpAny_pure ⟨p.2,rfl,v,H,I.tok _,q,h1 v hv⟩
 ·have q:=rel.val k
  rw [hn] at q
  cases hv:jX kvs k with
  |some v=>rw [hv] at q;exact q.elim
  |none=>
   obtain ⟨o,es,ep,hq,g2,g3,g4,_,g5⟩:=dd'
   have ok:fU X.prog X.w (upd H d (.dT (putK kvs k z))) h' d (.dT (putK kvs k z)):=by
    refine ⟨hl,hd,_,(rel.put k eb r2).keeps fun c ys ec=>?_,o,es,ep,hq,g2,g3,g4,g5⟩
    rw [aV (sW ec e (fun z=>nomatch z))]
    exact ec
   exact wpAny_pure ⟨u2,rfl,z,_,aNn I (by rw [e];exact True.intro) hs ⟨o,hq⟩ ok,r2,h2 hv⟩
end
end L2
namespace My
open PySem PySem.Spec PyProof.Rows L2
section
variable {P:Program} {w:World} {K:PySem.W.Frag} {mg:Str→Option Value} {base:Heap}
theorem qF {c:Bool} {A B:Prop} (h:c=false) (b:B):if c=true then A else B:=by subst h;exact b
def aTr:TE:=fun _ H Q=>∀p H',H p=none→Same H H'→H' p=some (.dT [])→Q (.ref p) H'
theorem aOh {X:Cx} {pos:Pos}:VE X (.Dict [] [] pos) aTr:=⟨PE.imp aSl fun σ H Q h p hp=>h p _ hp (bF hp _) aH⟩
def keyOf:V→Key
 |.int i=>Sum.inl i
 |.str z=>Sum.inr z
 |_=>Sum.inl 0
def keysOf (is:List Nat) (r:List V):List Key:=(dU is r).map keyOf
theorem aGj {x:V} (h:(∃i,x=.int i)∨∃z,x=.str z):kV (keyOf x)=x:=by
 rcases h with ⟨i,rfl⟩|⟨z,rfl⟩ <;> rfl
def eN (k:List Key) (r:List V):List (List Key × List (List V))→List (List Key × List (List V))
 |[]=>[(k,[r])]
 |p::t=>if p.1=k then (p.1,p.2++[r])::t else p::eN k r t
def mD (is:List Nat) (rows:List (List V)):List (List Key × List (List V)):=rows.foldl (fun acc r=>eN (keysOf is r) r acc) []
def aBf (K:PySem.W.Frag) (H:Hp) (kv:List Key × V) (lot:List Key × List (List V)):Prop:=kv.1=lot.1∧∃L,kv.2=.ref L∧cG K H L lot.2
theorem oR {α β:Type} {R:α→β→Prop} {as cs:List α} {bs ds:List β} (h:bM R as bs) (h2:bM R cs ds):bM R (as++cs) (bs++ds):=by
 induction h with
 |nil=>exact h2
 |cons r _ ih=>exact .cons r ih
theorem cG.upd {H:Hp} {D L:Addr} {o:HO} {us:List V} {rs:List (List V)} (hL:H L=some (.lst us)) (ne:D≠L) (h:cG K H D rs):∀zs,cG K (L2.upd H L (.lst zs)) D rs:=fun zs=>by
 obtain ⟨vs,h1,h2⟩:=h
 exact ⟨vs,by rw [aV ne];exact h1,h2.imp fun _ _ ⟨p,e,hp⟩=>⟨p,e,SqT.kO hL hp⟩⟩
theorem aM9 {H:Hp} {k:List Key} {L:Addr} {us:List V} {u:V} {r:List V} (hL:H L=some (.lst us)) (hu:jA K H u r):∀{kvs:List (List Key × V)} {lots:List (List Key × List (List V))},bM (aBf K H) kvs lots→(kvs.map (·.2)).Nodup→jX kvs k=some (.ref L) →
  bM (aBf K (L2.upd H L (.lst (us++[u])))) kvs (eN k r lots)
 |_,_,.nil,_,h=>by cases h
 |p::ps,q::qs,.cons hq t,nd,h=>by
  obtain ⟨e1,D,e2,hD⟩:=hq
  have nd':=List.nodup_cons.mp nd
  by_cases e:p.1=k
  ·rw [kE e,e2] at h
   cases h
   have eq:eN k r (q::qs)=(q.1,q.2++[r])::qs:=if_pos (e1.symm.trans e)
   rw [eq]
   obtain ⟨vs,g1,g2⟩:=id hD
   rw [hL] at g1
   cases g1
   refine .cons ⟨e1,L,e2,us++[u],aH,oR (g2.imp fun _ _ ⟨p,e,hp⟩=>⟨p,e,SqT.kO hL hp⟩) (.cons (by obtain ⟨p',e',hp'⟩:=hu;exact ⟨p',e',SqT.kO hL hp'⟩) .nil)⟩ ?_
   have aux:∀{ps:List (List Key × V)} {qs:List (List Key × List (List V))},bM (aBf K H) ps qs→V.ref L∉ps.map (·.2)→bM (aBf K (L2.upd H L (.lst (us++[u])))) ps qs:=by
    intro ps qs t
    induction t with
    |nil=>exact fun _=>.nil
    |@cons a b as bs h _ ih=>
     intro hn
     obtain ⟨x1,D2,x2,hx⟩:=h
     refine .cons ⟨x1,D2,x2,hx.upd (o:=.lst us) hL (fun z=>hn ?_) _⟩ (ih fun z=>hn (List.mem_cons_of_mem _ z))
     rw [List.map_cons,x2,z]
     exact List.mem_cons_self
   exact aux t (by rw [←e2];exact nd'.1)
  ·rw [lY e] at h
   have eq:eN k r (q::qs)=q::eN k r qs:=if_neg fun z=>e (e1.trans z)
   rw [eq]
   refine .cons ⟨e1,D,e2,hD.upd (o:=.lst us) hL (fun z=>nd'.1 ?_) _⟩ (aM9 hL hu t nd'.2 h)
   show p.2∈ps.map (·.2)
   rw [e2,z]
   unfold jX at h
   obtain ⟨kv,hf,hv⟩:=Option.map_eq_some_iff.mp h
   rw [←hv]
   exact List.mem_map.mpr ⟨kv,List.mem_of_find?_eq_some hf,rfl⟩
theorem aNd {k:List Key} {r:List V}:∀{kvs:List (List Key × V)} {lots:List (List Key × List (List V))} {R:List Key × V→List Key × List (List V)→Prop},(∀a b,R a b→a.1=b.1)→bM R kvs lots→jX kvs k=none→eN k r lots=lots++[(k,[r])]
 |_,_,_,_,.nil,_=>rfl
 |p::ps,q::qs,R,hR,.cons hq t,h=>by
  by_cases e:p.1=k
  ·rw [kE e] at h;cases h
  ·rw [lY e] at h
   have eq:eN k r (q::qs)=q::eN k r qs:=if_neg fun z=>e ((hR _ _ hq).trans z)
   rw [eq,aNd hR t h]
   rfl
theorem SqT.bAf {K:PySem.W.Frag} {H:Hp} {a D:Addr} {xs:List V} {kvs:List (List Key × V)} {u:HO} (hD:H D=some (.dT kvs)) (h:SqT K H a xs):SqT K (L2.upd H D u) a xs:=by
 rcases h with (h|⟨o,h⟩)|h
 ·exact .inl (.inl (by rw [aV (sW h hD (by intro z;cases z))];exact h))
 ·exact .inl (.inr ⟨o,by rw [aV (sW h hD (by intro z;cases z))];exact h⟩)
 ·exact .inr h
theorem zN (k:List Key) (r:List V):∀lots,(eN k r lots).length≤lots.length+1
 |[]=>Nat.le_refl _
 |p::t=>by
  unfold eN
  have:=zN k r t
  split
  ·rw [List.length_cons,List.length_cons];lia
  ·rw [List.length_cons,List.length_cons];lia
theorem aCq (is:List Nat) (rows:List (List V)) (r:List V):mD is (rows++[r])=eN (keysOf is r) r (mD is rows):=by
 unfold mD;rw [List.foldl_append];rfl
theorem aR2 (is:List Nat) (rows:List (List V)):(mD is rows).length≤rows.length:=by
 suffices ∀(l acc:List _),(l.foldl (fun acc r=>eN (keysOf is r) r acc) acc).length≤acc.length+l.length by
  have:=this rows []
  simpa [mD] using this
 intro l
 induction l with
 |nil=>intro acc;exact Nat.le_refl _
 |cons r t ih=>
  intro acc
  have h1:=ih (eN (keysOf is r) r acc)
  have h2:=zN (keysOf is r) r acc
  rw [List.foldl_cons,List.length_cons]
  lia
theorem aNl {k:List Key} {r:List V} {n:Nat}:∀{lots:List (List Key × List (List V))},(∀l∈lots,l.2.length≤n)→∀l∈eN k r lots,l.2.length≤n+1
 |[],_,l,hl=>by
  cases List.mem_singleton.mp hl
  exact Nat.le_add_left 1 n
 |p::t,h,l,hl=>by
  unfold eN at hl
  split at hl
  ·rcases List.mem_cons.mp hl with rfl|hl
   ·have:=h p List.mem_cons_self
    show (p.2++[r]).length≤n+1
    rw [List.length_append,List.length_singleton];lia
   ·have:=h l (List.mem_cons_of_mem _ hl)
    lia
  ·rcases List.mem_cons.mp hl with rfl|hl
   ·have:=h l List.mem_cons_self
    lia
   ·exact aNl (fun x hx=>h x (List.mem_cons_of_mem _ hx)) l hl
theorem aQ1 (is:List Nat) (rows:List (List V)):∀l∈mD is rows,l.2.length≤rows.length:=by
 suffices ∀(l acc:List _) (n:Nat),(∀x∈acc,x.2.length≤n)→∀x∈l.foldl (fun acc r=>eN (keysOf is r) r acc) acc,x.2.length≤n+l.length by
  intro l hl
  have:=this rows [] 0 (fun x hx=>by cases hx) l hl
  lia
 intro l
 induction l with
 |nil=>intro acc n h x hx;exact h x hx
 |cons r t ih=>
  intro acc n h x hx
  have:=ih _ (n+1) (aNl h) x hx
  rw [List.length_cons]
  lia
def aE9 (K:PySem.W.Frag) (H0 H:Hp) (d:Addr) (lots:List (List Key × List (List V))):Prop:=∃kvs,H d=some (.dT kvs)∧bM (aBf K H) kvs lots∧(kvs.map (·.2)).Nodup∧∀kv∈kvs,∃L,kv.2=.ref L∧H0 L=none∧L≠d
theorem aBf.same {H H':Hp} {kv:List Key × V} {lot:List Key × List (List V)} (e:Same H H') (h:aBf K H kv lot):aBf K H' kv lot:=⟨h.1,let ⟨L,h1,h2⟩:=h.2;⟨L,h1,h2.same e⟩⟩
theorem aUe {H H1 H3:Hp} {d t L:Addr} {x:V} {r:List V} {is:List Nat} {rows:List (List V)} {Q:VK} (nd:H d=none) (sm:Same H H1) (hl:aE9 K H H1 d (mD is rows)) (s3:Same H1 H3) (nL':H1 L=none) (g3:H3 L=some (.lst [])) (gt:H3 t=some (.tup (dU is r))) (hr':jA K H1 x r) (o1:∀i∈is,i<r.length) (o2:∀x∈r,(∃i,x=.int i)∨∃z,x=.str z) (h1000:rows.length≤1000)
  (q:∀L' vs H4,H4 L'=some (.lst vs)→vs.length<sizeLine→Same H (L2.upd H4 L' (.lst (vs++[x])))→aE9 K H (L2.upd H4 L' (.lst (vs++[x]))) d (mD is (rows++[r]))→Q (.ref L') H4):aVn (.ref d) [.ref t,.ref L] H3 Q:=by
 obtain ⟨kvs,hd,hlr,hnd,hfr⟩:=hl
 have lk:kvs.length≤1000:=by
  have h1:=hlr.len
  have h2:=aR2 is rows
  lia
 have ekv:(keysOf is r).map kV=dU is r:=by
  unfold keysOf
  rw [List.map_map]
  refine (List.map_congr_left fun x hx=>?_).trans (List.map_id _)
  refine aGj ?_
  unfold dU at hx
  obtain ⟨n,hn,rfl⟩:=List.mem_map.mp hx
  have:=o1 n hn
  have e:r.getD n .non=r[n]:=by simp [this]
  rw [e]
  exact o2 _ (List.getElem_mem this)
 have hd3:=s3 _ _ hd
 have nL0:H L=none:=none_of sm nL'
 have nLd:L≠d:=fun z=>by rw [z,hd] at nL';cases nL'
 have hlr3:=hlr.imp fun _ _ h=>h.same s3
 refine ⟨d,t,kvs,keysOf is r,.ref L,rfl,rfl,hd3,by rw [ekv];exact gt,Nat.lt_of_le_of_lt lk (by decide),fun v hv=>?_,fun hv=>?_⟩
 ·obtain ⟨kv,hf,hv'⟩:=Option.map_eq_some_iff.mp (show (kvs.find? fun kv=>decide (kv.1=keysOf is r)).map (·.2)=some v from hv)
  have hm:=List.mem_of_find?_eq_some hf
  obtain ⟨L',e',n1,n2⟩:=hfr kv hm
  have ev:v=.ref L':=hv'.symm.trans e'
  subst ev
  obtain ⟨j,hj⟩:=List.mem_iff_getElem?.mp hm
  obtain ⟨lot,hlot,_,L2',e2',vs,g4,g5⟩:=aZ hlr3 hj
  rw [e'] at e2'
  cases e2'
  have lv:vs.length≤1000:=by
   have h1:=aQ1 is rows lot (List.mem_of_getElem? hlot)
   have h2:=g5.len
   lia
  refine q L' vs H3 g4 (Nat.lt_of_le_of_lt lv (by decide)) (cN n1 (sm.trans s3)) ⟨kvs,by rw [aV n2.symm];exact hd3,?_,hnd,hfr⟩
  rw [aCq]
  exact aM9 g4 (hr'.same s3) hlr3 hnd hv
 ·have ep:putK kvs (keysOf is r) (.ref L)=kvs++[(keysOf is r,.ref L)]:=by
   unfold putK
   rw [if_neg (by rw [aAn,hv];exact Bool.false_ne_true)]
  have gL4:L2.upd H3 d (.dT (putK kvs (keysOf is r) (.ref L))) L=some (.lst []):=by rw [aV nLd];exact g3
  refine q L [] _ gL4 (by decide) (cN nL0 (cN nd (sm.trans s3))) ⟨kvs++[(keysOf is r,.ref L)],by rw [aV nLd.symm,aH,ep],?_,?_,fun kv hkv=>?_⟩
  ·rw [aCq,aNd (R:=aBf K H3) (fun _ _ h=>h.1) hlr3 hv]
   have tup:∀{p:Addr} {ys:List V},SqT K H3 p ys→SqT K (L2.upd (L2.upd H3 d (.dT (putK kvs (keysOf is r) (.ref L)))) L (.lst ([]++[x]))) p ys:=fun h=>SqT.kO gL4 (SqT.bAf hd3 h)
   refine oR (lU hlr3.len fun j kv lot e1 e2=>?_) (.cons ⟨rfl,L,rfl,[x],aH,.cons (by obtain ⟨p,e,hp⟩:=hr'.same s3;exact ⟨p,e,tup hp⟩) .nil⟩ .nil)
   obtain ⟨h1,D2,h2,vs,g4,g5⟩:=iT hlr3 e1 e2
   obtain ⟨L',e',n1,n2⟩:=hfr kv (List.mem_of_getElem? e1)
   rw [h2] at e'
   cases e'
   have nDL:D2≠L:=by
    obtain ⟨_,D3,h3,vs',g6,_⟩:=iT hlr e1 e2
    rw [h2] at h3
    cases h3
    exact bB g6 nL'
   exact ⟨h1,D2,h2,vs,by rw [aV nDL,aV n2];exact g4,g5.imp fun _ _ ⟨p,e,hp⟩=>⟨p,e,tup hp⟩⟩
  ·rw [List.map_append]
   refine List.nodup_append.mpr ⟨hnd,by simp,fun a ha b hb e=>?_⟩
   have eb:b=.ref L:=by simpa using hb
   rw [eb] at e
   subst e
   obtain ⟨kv,hkv,ekv'⟩:=List.mem_map.mp ha
   obtain ⟨j,hj⟩:=List.mem_iff_getElem?.mp hkv
   obtain ⟨lot,_,_,D3,h3,vs',g6,_⟩:=aZ hlr hj
   have:V.ref L=.ref D3:=ekv'.symm.trans h3
   cases this
   rw [nL'] at g6
   cases g6
  ·rcases List.mem_append.mp hkv with h|h
   ·exact hfr kv h
   ·cases List.mem_singleton.mp h
    exact ⟨L,rfl,nL0,nLd⟩
theorem qG {α:Type} {l:List α} {i:Nat} {r:α} (e:l[i]?=some r):l.take (i+1)=l.take i++[r]:=by rw [List.take_add_one,e];rfl
def aSc (K:PySem.W.Frag):Sp:=fun vs H Q _=>∃D C rows is,vs=[.ref D,.ref C]∧cG K H D rows∧rows.length≤1000∧SqL K H C (is.map fun i=>V.int (i:Nat))∧is.length≤1000∧(∀r∈rows,(∀i∈is,i<r.length)∧∀x∈r,(∃i,x=.int i)∨∃z,x=.str z)∧∀d H',H d=none→Same H H'→aE9 K H H' d (mD is rows)→Q (.ref d) H'
theorem aK4 (T:Txt w K mg) (vK:Ok P w K mg base 1 "picked" ["row","places"] (wX K)):Ok P w K mg base 2 "rows_by" ["rows","places"] (aSc K):=by
 refine Ok.ofV T.aOo tQ (fun vs H Q E h=>?_) (fun f cdv A outer s H vs Q E hr h=>?_)
 ·obtain ⟨D,C,rows,is,rfl,_⟩:=h;rfl
 obtain ⟨D,C,rows,is,rfl,⟨us,hD,hu'⟩,hl,hC,hil,hok,q⟩:=h
 have hu:=yQ hr
 refine ⟨_,(aC (aW (i:=2) tQ.nd rfl (by trivial) aOh) (aC (fQ PassesOwn.never rfl (cV (vv 0)) (aL (i:=3) tQ.nd rfl (by trivial)) (aG (eF (qH PySem.F.plainAttrs_list PySem.F.slot_list_append PySem.F.type_list_append jE (qH PySem.F.plainAttrs_dict PySem.F.slot_dict_setdefault PySem.F.type_dict_setdefault (aT0 hu) (vv 2) (aB (aO (vK.mono (by decide)) hr (by rfl) (aB (vv 3) (aB (vv 1) aA))) (aB (cU aA) aA))) (aB (vv 3) aA))))) (aG (aN (vv 2))))),?_⟩
 have lu:=hu'.len
 intro d H1 nd s1 gd
 refine ⟨_,rfl,D,rfl,⟨us,SqL.of (s1 _ _ hD)⟩,?_⟩
 refine oK (xs:=us) (fun i σ H'=>Same H H'∧(∃l,σ=[some (.ref D),some (.ref C),some (.ref d),l])∧aE9 K H H' d (mD is (rows.take i))) ⟨s1,⟨_,rfl⟩,[],gd,.nil,List.nodup_nil,fun kv h=>by cases h⟩ (fun i σ H' _ p=>SqL.of (p.1 _ _ hD)) (fun i x σ H' ex p=>?_) fun σ H' p=>?_
 ·obtain ⟨sm,⟨l,rfl⟩,hL⟩:=p
  obtain ⟨r,er,hr'⟩:=aZ hu' ex
  obtain ⟨o1,o2⟩:=hok r (List.mem_of_getElem? er)
  obtain ⟨kvs,hd,_⟩:=id hL
  refine ⟨_,rfl,.inr (.inr (.inl ⟨rfl,.inr ⟨kvs,hd⟩⟩)),_,rfl,_,rfl,x,C,r,is,rfl,hr'.same sm,sm.seq hC,hil,o1,fun t H2 s2 g2=>?_⟩
  refine ⟨Nat.zero_le _,fun L H3 nL s3 g3=>?_⟩
  dsimp only [aAu]
  refine aUe nd sm hL (s2.trans s3) (none_of s2 nL) g3 (s3 _ _ g2) (hr'.same sm) o1 o2 (by rw [List.length_take];lia) fun L' vs H4 g4 lv s4 h4=>⟨.inl ⟨rfl,_,SqL.of g4⟩,_,rfl,L',vs,x,rfl,rfl,g4,lv,s4,⟨_,rfl⟩,by rw [qG er];exact h4⟩
 ·obtain ⟨sm,⟨l,rfl⟩,hL⟩:=p
  rw [List.take_of_length_le (by lia)] at hL
  exact ⟨_,rfl,q d H' nd sm hL⟩
theorem aRp {X:Cx} {o e f:Expr} {apos cpos:Pos} {td ty tx:TE} (hu:X.A.units+1<cLine) (ho:VE X o td) (he:VE X e ty) (hf:VE X f tx) (m:M2 X o "get" apos e f cpos):VE X (.Call (.Attribute o "get" apos) [e,f] [] cpos) (aQ5 td ty tx):=⟨aRz hu ho.1 he.1 hf.1 m⟩
def aA1 (K:PySem.W.Frag):Sp:=fun vs H Q _=>∃(vh:V) (hd:Hdr) (t:Addr) (ns ks:List Str),vs=[vh,.ref t]∧cZ K H vh hd∧hd.length≤1000∧SqL K H t (ns.map V.str)∧ns.length≤1000∧Looks hd ns ks∧∀D H',Same H H'→H' D=some (.lst (ns.map fun n=>.int (plc hd n:Nat)))→Q (.ref D) H'
theorem aK1 (T:Txt w K mg) (uA:Ok P w K mg base 2 "place_of" ["head","name"] (qJ K)):Ok P w K mg base 3 "places_of" ["head","names"] (aA1 K):=by
 refine Ok.ofV T.aIo aDv (fun vs H Q E h=>?_) (fun f cdv A outer s H vs Q E hr h=>?_)
 ·obtain ⟨vh,hd,t,ns,ks,rfl,_⟩:=h;rfl
 obtain ⟨vh,hd,t,ns,ks,rfl,hI,hl,ht,hn,hk,q⟩:=h
 refine ⟨_,(aG (aN (bN (N:=["name","head"]) (by trivial) (cO (aF mY) rfl (by decide +kernel)) rfl (cV (vv 1)) (fun cl s' H' fp=>⟨(aL (i:=0) (show (["name","head"]:List Str).Nodup from by decide +kernel) rfl (Or.inl rfl)),bT,(aO (uA.mono (by decide)) hr (by rfl) (aB (vv 1) (aB (vv 0) aA)))⟩)))),?_⟩
 refine dZ (ns.map V.str) (ns.map fun n=>.int (plc hd n:Nat)) (by rw [List.length_map,List.length_map]) [none,some vh] (dO 0 (by decide +kernel) rfl rfl (by trivial)) (small (by rw [List.length_map];exact hn)) (fun R r=>lJ (fun H' sm=>sm.seq ht) (fun R' r'=>⟨_,rfl,r'⟩) R r) (fun i x y ex ey H' R l sm r=>?_) rfl fun D H' sm hD=>q D H' sm hD
 rw [List.getElem?_map] at ex ey
 obtain ⟨n,en,rfl⟩:=Option.map_eq_some_iff.mp ex
 rw [en] at ey
 cases ey
 obtain ⟨k,ek,lk⟩:=aZ hk en
 exact ⟨_,rfl,_,rfl,vh,n,hd,k,rfl,hI.same sm,hl,lk,fun H2 s2=>r H2 s2⟩
theorem aMk {α β γ:Type} {R:γ→β→Prop} {g:α→γ} {as:List α} {bs:List β} (h:bM (fun a b=>R (g a) b) as bs):bM R (as.map g) bs:=by
 induction h with
 |nil=>exact .nil
 |cons r _ ih=>exact .cons r ih
theorem aZr (j:Nat) (js:List Nat):inV (V.int (0+(j:Int))) (js.map fun i=>V.int (i:Nat))=decide (j∈js):=by
 unfold inV
 rw [List.any_map]
 rw [Bool.eq_iff_iff,List.any_eq_true,decide_eq_true_eq]
 constructor
 ·rintro ⟨i,hi,h⟩
  have:(i:Int)=0+(j:Int):=by simpa [eqV] using h
  have:i=j:=by lia
  exact this ▸ hi
 ·intro h
  exact ⟨j,h,by simp [eqV]⟩
theorem aV8 {n:Nat} (h:n≤1000):(n:Int)<2 ^ 62:=by
 have:(2:Int) ^ 62=4611686018427387904:=by decide
 lia
def pR (js:List Nat) (m:Nat):List Nat:=(List.range m).filter fun i=>!decide (i∈js)
theorem aJg {p:Nat→Bool} {g:Nat→V}:∀(m k:Nat),sel p k ((List.range' k m).map g)=((List.range' k m).filter p).map g
 |0,_=>rfl
 |m+1,k=>by
  rw [List.range'_succ,List.map_cons,List.filter_cons]
  show (if p k then g k::sel p (k+1) _ else sel p (k+1) _)=_
  rw [aJg m (k+1)]
  cases p k <;> rfl
theorem aMa (js:List Nat) (m:Nat):sel (fun i=>!decide (i∈js)) 0 ((List.range m).map fun i:Nat=>V.int (0+(i:Int)))=(pR js m).map fun i=>V.int (i:Nat):=by
 unfold pR
 rw [List.range_eq_range',aJg]
 refine List.map_congr_left fun i _=>?_
 rw [Int.zero_add]
theorem kdl {ks:List Bool} {r:List V} (h:KdR ks r):ks.length=r.length:=by
 unfold KdR at h
 induction h with
 |nil=>rfl
 |cons _ _ ih=>rw [List.length_cons,List.length_cons,ih]
theorem aHq {ks:List Bool} {r:List V} (h:KdR ks r):∀x∈r,(∃i,x=.int i)∨∃z,x=.str z:=by
 unfold KdR at h
 induction h with
 |nil=>intro x hx;cases hx
 |@cons b y _ _ h _ ih=>
  intro x hx
  rcases List.mem_cons.mp hx with rfl|hx
  ·cases b with
   |true=>exact .inl h
   |false=>exact .inr h
  ·exact ih x hx
def oO (k:List Key) (lots:List (List Key × List (List V))):Option (List (List V)):=(lots.find? fun l=>decide (l.1=k)).map (·.2)
theorem lQ {k:List Key} {l:List Key × List (List V)} {t:List (List Key × List (List V))} (h:l.1=k):oO k (l::t)=some l.2:=by unfold oO;rw [List.find?_cons,decide_eq_true h];rfl
theorem jO {k:List Key} {l:List Key × List (List V)} {t:List (List Key × List (List V))} (h:l.1≠k):oO k (l::t)=oO k t:=by unfold oO;rw [List.find?_cons,decide_eq_false h]
theorem aIe {k k':List Key} {r:List V}:∀lots,oO k' (eN k r lots)=if k=k' then some ((oO k lots).getD []++[r]) else oO k' lots
 |[]=>by
  by_cases h:k=k'
  ·rw [if_pos h];exact lQ h
  ·rw [if_neg h];exact jO h
 |p::t=>by
  unfold eN
  by_cases e:p.1=k
  ·rw [if_pos e]
   by_cases h:k=k'
   ·rw [if_pos h,lQ (l:=(p.1,p.2++[r])) (e.trans h),lQ e];rfl
   ·rw [if_neg h,jO (l:=(p.1,p.2++[r])) (fun z=>h (e.symm.trans z)),jO (fun z=>h (e.symm.trans z))]
  ·rw [if_neg e]
   by_cases h':p.1=k'
   ·have h:k≠k':=fun z=>e (h'.trans z.symm)
    rw [if_neg h,lQ h',lQ h']
   ·rw [jO h',aIe t,jO e,jO h']
def nrm (l:List (List V)):Option (List (List V)):=if l=[] then none else some l
theorem aRe (l:List (List V)):(nrm l).getD []=l:=by
 unfold nrm
 split
 ·next h=>rw [h];rfl
 ·rfl
def kI (js:List Nat) (k:List Key) (rows:List (List V)):List (List V):=rows.filter fun o=>decide (keysOf js o=k)
theorem aQr (js:List Nat) (k:List Key) (rows:List (List V)):oO k (mD js rows)=nrm (kI js k rows):=by
 suffices ∀(l:List (List V)) (acc:List (List Key × List (List V))) (done:List (List V)),(∀k,oO k acc=nrm (kI js k done))→∀k,oO k (l.foldl (fun acc r=>eN (keysOf js r) r acc) acc)=nrm (kI js k (done++l)) by
  exact this rows [] [] (fun _=>rfl) k
 intro l
 induction l with
 |nil=>intro acc done h k;rw [List.append_nil];exact h k
 |cons r t ih=>
  intro acc done h k
  rw [List.foldl_cons]
  have:=ih (eN (keysOf js r) r acc) (done++[r]) (fun k'=>by
   rw [aIe]
   unfold kI
   rw [List.filter_append]
   by_cases e:keysOf js r=k'
   ·rw [if_pos e,h,aRe]
    have:[r].filter (fun o=>decide (keysOf js o=k'))=[r]:=by simp [e]
    rw [this]
    unfold nrm
    rw [if_neg (by simp),e]
    rfl
   ·rw [if_neg e,h]
    have:[r].filter (fun o=>decide (keysOf js o=k'))=[]:=by simp [e]
    rw [this,List.append_nil]
    rfl) k
  rw [this,List.append_assoc]
  rfl
theorem aHk {H:Hp} {k:List Key}:∀{kvs:List (List Key × V)} {lots:List (List Key × List (List V))},bM (aBf K H) kvs lots→(jX kvs k=none∧oO k lots=none)∨∃L rs,jX kvs k=some (.ref L)∧oO k lots=some rs∧cG K H L rs
 |_,_,.nil=>.inl ⟨rfl,rfl⟩
 |p::ps,q::qs,.cons hq t=>by
  obtain ⟨e1,L,e2,hL⟩:=hq
  by_cases e:p.1=k
  ·exact .inr ⟨L,q.2,by rw [kE e,e2],lQ (e1.symm.trans e),hL⟩
  ·rw [lY e,jO (fun z=>e (e1.trans z))]
   exact aHk t
theorem aTy {is:List Nat} {r:List V} (o1:∀i∈is,i<r.length) (o2:∀x∈r,(∃i,x=.int i)∨∃z,x=.str z):(keysOf is r).map kV=dU is r:=by
 unfold keysOf
 rw [List.map_map]
 refine (List.map_congr_left fun x hx=>?_).trans (List.map_id _)
 refine aGj ?_
 unfold dU at hx
 obtain ⟨n,hn,rfl⟩:=List.mem_map.mp hx
 have:=o1 n hn
 have e:r.getD n .non=r[n]:=by simp [this]
 rw [e]
 exact o2 _ (List.getElem_mem this)
def joinR (is js left:List Nat) (rows others:List (List V)):List (List V):=rows.flatMap fun r=>(kI js (keysOf is r) others).map fun o=>r++dU left o
theorem aA0 {is js left:List Nat} {rows others:List (List V)} {i:Nat} {r:List V} (e:rows[i]?=some r):joinR is js left (rows.take (i+1)) others=joinR is js left (rows.take i) others++(kI js (keysOf is r) others).map fun o=>r++dU left o:=by
 unfold joinR
 rw [qG e,List.flatMap_append,List.flatMap_singleton]
theorem rY (is js left:List Nat):∀(rows others:List (List V)),(joinR is js left rows others).length≤rows.length * others.length
 |[],_=>by show 0≤_;exact Nat.zero_le _
 |r::t,others=>by
  have h1:=rY is js left t others
  have h2:(kI js (keysOf is r) others).length≤others.length:=List.length_filter_le _ _
  unfold joinR at h1 ⊢
  rw [List.flatMap_cons,List.length_append,List.length_map,List.length_cons,Nat.succ_mul]
  lia
def kZ (hd ho:Hdr) (ps:List (Str × Str)) (rows others:List (List V)):List (List V):=joinR (ps.map fun p=>plc hd p.1) (ps.map fun p=>plc ho p.2) (pR (ps.map fun p=>plc ho p.2) ho.length) rows others
def aNg (K:PySem.W.Frag):Sp:=fun vs H Q _=>∃(vh:V) (D:Addr) (vo:V) (C:Addr) (vp:V) (hd ho:Hdr) (rows others:List (List V)) (ps:List (Str × Str)) (ks:List Str),vs=[vh,.ref D,vo,.ref C,vp]∧cZ K H vh hd∧hd.length≤100∧cZ K H vo ho∧ho.length≤100∧cG K H D rows∧rows.length≤30∧cG K H C others∧others.length≤30∧(∀r∈rows,KdR (knds hd) r)∧(∀r∈others,KdR (knds ho) r)∧oA K H (jW K H) vp ps∧ps.length≤100∧bM (fun p k=>look hd p.1=some k∧look ho p.2=some k) ps ks∧∀D' H',H D'=none→Same H H'→cG K H' D' (kZ hd ho ps rows others)→Q (.ref D') H'
theorem aDo (T:Txt w K mg) (yM:Ok P w K mg base 3 "places_of" ["head","names"] (aA1 K)) (aO0:Ok P w K mg base 2 "rows_by" ["rows","places"] (aSc K)) (vK:Ok P w K mg base 1 "picked" ["row","places"] (wX K)):Ok P w K mg base 4 "join_rows" ["head","rows","other_head","other_rows","pairs"] (aNg K):=by
 refine Ok.ofV T.aGq dX (fun vs H Q E h=>?_) (fun f cdv A outer s H vs Q E hr h=>?_)
 ·obtain ⟨vh,D,vo,C,vp,hd,ho,rows,others,ps,ks,rfl,_⟩:=h;rfl
 obtain ⟨vh,D,vo,C,vp,hd,ho,rows,others,ps,ks,rfl,hI,hl,hJ,hm,⟨us,hD,hu'⟩,rl,hC,ol,hk,hk2,⟨tp,wp,rfl,htp,hwp⟩,hpl,hlk,q⟩:=h
 have hu:=yQ hr
 refine ⟨_,(aC (aW (i:=5) dX.nd rfl (by trivial) (aO (yM.mono (by decide)) hr (by rfl) (aB (vv 0) (aB (bN (N:=["pair"]) (by trivial) (cY (by decide +kernel)) rfl (eG (vv 4)) (fun cl s' H' fp=>⟨(aL (i:=0) (show (["pair"]:List Str).Nodup from by decide +kernel) rfl (Or.inl rfl)),bT,(aK (bZ (K:=K)) (vv 0) aD (fun _ _=>rfl))⟩)) aA)))) (aC (aW (i:=6) dX.nd rfl (by trivial) (aO (yM.mono (by decide)) hr (by rfl) (aB (vv 2) (aB (bN (N:=["pair"]) (by trivial) (cY (by decide +kernel)) rfl (eG (vv 4)) (fun cl s' H' fp=>⟨(aL (i:=0) (show (["pair"]:List Str).Nodup from by decide +kernel) rfl (Or.inl rfl)),bT,(aK (bZ (K:=K)) (vv 0) aD (fun _ _=>rfl))⟩)) aA)))) (aC (lB (i0:=7) dX.nd rfl (by trivial) (N:=["place","there"]) (by trivial) (cO (aF mV) rfl (by decide +kernel)) rfl (dW (by rfl) T.gK (aB (aR bC (by rfl) T.eY cP (aB (vv 2) aA)) aA)) (fun cl s' H' fp=>⟨(aL (i:=0) (show (["place","there"]:List Str).Nodup from by decide +kernel) rfl (Or.inl rfl)),(aA4 (aY (gG (K:=K)) (vv 0) (vv 1) (by with_unfolding_all rfl))),(vv 0)⟩)) (aC (aW (i:=8) dX.nd rfl (by trivial) (aO (aO0.mono (by decide)) hr (by rfl) (aB (vv 3) (aB (vv 6) aA)))) (aC (aW (i:=9) dX.nd rfl (by trivial) (cU aA)) (aC (fQ PassesOwn.never rfl (cV (vv 1)) (aL (i:=10) dX.nd rfl (by trivial)) (aG (fQ PassesOwn.never rfl (cV (aRp hu (vv 8) (aO (vK.mono (by decide)) hr (by rfl) (aB (vv 10) (aB (vv 5) aA))) (cU aA) ⟨rfl,rfl,rfl,rfl⟩)) (aL (i:=11) dX.nd rfl (by trivial)) (aG (eF (qH PySem.F.plainAttrs_list PySem.F.slot_list_append PySem.F.type_list_append jE (vv 9) (aB (cD rW (vv 10) (aO (vK.mono (by decide)) hr (by rfl) (aB (vv 11) (aB (vv 7) aA)))) aA))))))) (aG (aN (vv 9))))))))),?_⟩
 have lw:=hwp.len
 have prs:∀(pick:Str × Str→Str),(ps.map fun p=>V.str (pick p))=(ps.map pick).map V.str:=fun pick=>by rw [List.map_map];rfl
 refine ⟨_,rfl,?_⟩
 dsimp only [cT]
 refine dZ wp ((ps.map (·.1)).map V.str) (by rw [List.length_map,List.length_map];exact lw.symm) [none] fH (small (by lia)) (fun R r=>jN htp (fun R' r'=>⟨_,rfl,r'⟩) R r) (fun i x y ex ey H' R l sm r=>?_) rfl fun D1 H1 s1 g1=>?_
 ·obtain ⟨p,ep,a,rfl,ha,_⟩:=aZ hwp ex
  rw [List.getElem?_map,List.getElem?_map,ep] at ey
  cases ey
  exact ⟨_,rfl,a,_,0,_,rfl,rfl,sm.aP ha,at0 _ _,r H' (Same.refl _)⟩
 have lk1:Looks hd (ps.map (·.1)) ks:=aMk (hlk.imp fun _ _ z=>z.1)
 have lk2:Looks ho (ps.map (·.2)) ks:=aMk (hlk.imp fun _ _ z=>z.2)
 refine ⟨vh,hd,D1,ps.map (·.1),ks,rfl,hI.same s1,by lia,SqL.of g1,by rw [List.length_map];lia,lk1,fun D2 H2 s2 g2=>?_⟩
 refine ⟨_,rfl,?_⟩
 dsimp only [cT]
 have s12:=s1.trans s2
 refine dZ wp ((ps.map (·.2)).map V.str) (by rw [List.length_map,List.length_map];exact lw.symm) [none] fH (small (by lia)) (fun R r=>jN (s12.aP htp) (fun R' r'=>⟨_,rfl,r'⟩) R r) (fun i x y ex ey H' R l sm r=>?_) rfl fun D3 H3 s3 g3=>?_
 ·obtain ⟨p,ep,a,rfl,ha,_⟩:=aZ hwp ex
  rw [List.getElem?_map,List.getElem?_map,ep] at ey
  cases ey
  exact ⟨_,rfl,a,_,1,_,rfl,rfl,(s12.trans sm).aP ha,at1 _ _ _,r H' (Same.refl _)⟩
 have s13:=s12.trans s3
 refine ⟨vo,ho,D3,ps.map (·.2),ks,rfl,hJ.same s13,by lia,SqL.of g3,by rw [List.length_map];lia,lk2,fun D4 H4 s4 g4=>?_⟩
 have s14:=s13.trans s4
 have g2':=(s3.trans s4) _ _ g2
 generalize eis:(ps.map fun p=>plc hd p.1)=is
 generalize ejs:(ps.map fun p=>plc ho p.2)=js
 have e2:((ps.map (·.1)).map fun n=>V.int (plc hd n:Nat))=is.map fun i=>V.int (i:Nat):=by rw [←eis,List.map_map,List.map_map];rfl
 have e4:((ps.map (·.2)).map fun n=>V.int (plc ho n:Nat))=js.map fun i=>V.int (i:Nat):=by rw [←ejs,List.map_map,List.map_map];rfl
 rw [e2] at g2'
 rw [e4] at g4
 obtain ⟨po,wo,rfl,hpo,hwo⟩:=id hJ
 have lo':=hwo.len
 dsimp only [bQ,mR,mO]
 refine aDb ((List.range ho.length).map fun i:Nat=>V.int (0+(i:Int))) (fun i=>!decide (i∈js)) [none,some (.ref D4)] (dO 6 (by decide +kernel) rfl rfl (by trivial)) (small (by rw [List.length_map,List.length_range];lia)) (fun R r=>aFu ho.length (fun R' r'=>⟨_,rfl,po,wo,rfl,.inr (s14.aP hpo),by rw [lo'];exact r'⟩) (aV8 (by lia)) R r) (fun i x ex H' R l sm r=>?_) rfl fun D5 H5 n5 s5 g5=>?_
 ·rw [List.getElem?_map] at ex
  obtain ⟨j,ej,rfl⟩:=Option.map_eq_some_iff.mp ex
  have:j=i:=by
   obtain ⟨h1,h2⟩:=List.getElem?_eq_some_iff.mp ej
   rw [List.getElem_range] at h2
   exact h2.symm
  subst this
  refine ⟨_,rfl,_,rfl,D4,_,rfl,.inl (SqL.of (sm _ _ g4)),rfl,?_,_,rfl,?_⟩
  ·rw [List.all_eq_true]
   intro z hz
   obtain ⟨_,_,rfl⟩:=List.mem_map.mp hz
   rfl
  ·have e:inV (V.int (0+(j:Int))) (js.map fun i=>V.int (i:Nat))=decide (j∈js):=aZr j js
   rw [e]
   exact r H' (Same.refl _)
 rw [aMa] at g5
 have s15:=s14.trans s5
 have ljs:js.length≤100:=by rw [←ejs,List.length_map];exact hpl
 have lis:is.length≤100:=by rw [←eis,List.length_map];exact hpl
 have bjs:∀i∈js,∃c,ho[i]?=some c:=fun i hi=>by
  rw [←ejs] at hi
  obtain ⟨p,hp,rfl⟩:=List.mem_map.mp hi
  obtain ⟨j,hj⟩:=List.mem_iff_getElem?.mp hp
  obtain ⟨k,_,_,hk⟩:=aZ hlk hj
  exact ⟨_,(mH hk).1⟩
 have bis:∀i∈is,∃c,hd[i]?=some c:=fun i hi=>by
  rw [←eis] at hi
  obtain ⟨p,hp,rfl⟩:=List.mem_map.mp hi
  obtain ⟨j,hj⟩:=List.mem_iff_getElem?.mp hp
  obtain ⟨k,_,hk,_⟩:=aZ hlk hj
  exact ⟨_,(mH hk).1⟩
 refine ⟨_,rfl,_,rfl,C,D4,others,js,rfl,hC.same s15,by lia,SqL.of (s5 _ _ g4),by lia,fun r hr'=>⟨fun i hi=>?_,aHq (hk2 r hr')⟩,fun d H6 n6 s6 hL=>?_⟩
 ·obtain ⟨c,hc⟩:=bjs i hi
  exact (aAd (hk2 r hr') hc).1
 generalize eleft:pR js ho.length=left at g5
 have bleft:∀r∈others,∀i∈left,i<r.length:=fun r hr' i hi=>by
  rw [←eleft] at hi
  have hi':=List.mem_range.mp (List.mem_filter.mp hi).1
  obtain ⟨c,hc⟩:∃c,ho[i]?=some c:=⟨_,List.getElem?_eq_getElem hi'⟩
  exact (aAd (hk2 r hr') hc).1
 have lleft:left.length≤100:=by
  rw [←eleft]
  have:=List.length_filter_le (fun i=>!decide (i∈js)) (List.range ho.length)
  rw [List.length_range] at this
  unfold pR
  lia
 have s16:=s15.trans s6
 have g2'':=(s5.trans s6) _ _ ((s3.trans s4 |>.trans (Same.refl _)) |> fun _=>g2')
 refine ⟨Nat.zero_le _,fun E7 H7 n7 s7 g7=>?_⟩
 have s17:=s16.trans s7
 refine ⟨_,rfl,D,rfl,⟨us,SqL.of (s17 _ _ hD)⟩,?_⟩
 obtain ⟨kvs,gd,hlr,_,_⟩:=hL
 have lu:=hu'.len
 refine oK (xs:=us) (fun i σ H'=>Same H6 H'∧(∃l l2,σ=[some vh,some (.ref D),some (.ref po),some (.ref C),some (.ref tp),some (.ref D2),some (.ref D4),some (.ref D5),some (.ref d),some (.ref E7),l,l2])∧∃ws,H' E7=some (.lst ws)∧bM (jA K H') ws (joinR is js left (rows.take i) others)) ⟨s7,⟨_,_,rfl⟩,[],g7,.nil⟩ (fun i σ H' _ p=>SqL.of ((s16.trans p.1) _ _ hD)) (fun i x σ H' ex p=>?_) fun σ H' p=>?_
 ·obtain ⟨sm,⟨l,l2,rfl⟩,ws,gE,hws⟩:=p
  obtain ⟨r,er,hr'⟩:=aZ hu' ex
  have hrm:=List.mem_of_getElem? er
  have sH:=s16.trans sm
  have o1:∀i∈is,i<r.length:=fun i hi=>by
   obtain ⟨c,hc⟩:=bis i hi
   exact (aAd (hk r hrm) hc).1
  refine ⟨_,rfl,d,rfl,.inr ⟨kvs,.inl (sm _ _ gd)⟩,_,rfl,_,rfl,x,D2,r,is,rfl,hr'.same sH,SqL.of ((s6.trans sm) _ _ (s5 _ _ g2')),by lia,o1,fun t H8 s8 g8=>⟨Nat.zero_le _,fun Z H9 n9 s9 g9=>?_⟩⟩
  have s19:=sm.trans (s8.trans s9)
  refine ⟨_,.inr ⟨kvs,keysOf is r,t,.inl (s19 _ _ gd),rfl,by rw [aTy o1 (aHq (hk r hrm))];exact s9 _ _ g8,rfl⟩,?_⟩
  have nE:H9 E7=some (.lst ws):=(s8.trans s9) _ _ gE
  have hws9:=hws.imp fun _ _ z=>z.same (s8.trans s9)
  rw [aA0 er]
  obtain ⟨px,rfl,hpx⟩:=hr'.same s16
  have hget:=aQr js (keysOf is r) others
  rcases aHk (k:=keysOf is r) hlr with ⟨e1,e2'⟩|⟨L,rs,e1,e2',ys,gL,hys⟩
  ·rw [e1]
   refine ⟨Z,rfl,⟨[],SqL.of g9⟩,?_⟩
   have e0:kI js (keysOf is r) others=[]:=by
    rw [e2'] at hget
    unfold nrm at hget
    split at hget
    ·assumption
    ·cases hget
   rw [e0,List.map_nil,List.append_nil]
   refine oK (xs:=[]) (fun j σ H''=>H''=H9∧σ=_) ⟨rfl,rfl⟩ (fun j σ H'' _ p=>by rw [p.1];exact SqL.of g9) (fun j y σ H'' ey p=>by cases ey) fun σ H'' p=>?_
   obtain ⟨rfl,rfl⟩:=p
   exact ⟨s19,⟨_,_,rfl⟩,ws,nE,hws9⟩
  ·rw [e1]
   have e0:kI js (keysOf is r) others=rs:=by
    rw [e2'] at hget
    unfold nrm at hget
    split at hget
    ·cases hget
    ·exact (Option.some.inj hget).symm
   rw [e0]
   refine ⟨L,rfl,⟨ys,SqL.of (s19 _ _ gL)⟩,?_⟩
   have ly:=hys.len
   have lrs:rs.length≤30:=by
    rw [←e0]
    exact Nat.le_trans (List.length_filter_le _ _) ol
   refine oK (xs:=ys) (fun j σ H''=>Same H6 H''∧(∃l2,σ=[some vh,some (.ref D),some (.ref po),some (.ref C),some (.ref tp),some (.ref D2),some (.ref D4),some (.ref D5),some (.ref d),some (.ref E7),some (.ref px),l2])∧∃ws',H'' E7=some (.lst ws')∧bM (jA K H'') ws' (joinR is js left (rows.take i) others++(rs.take j).map fun o=>r++dU left o)) ⟨s19,⟨_,rfl⟩,ws,nE,by rw [List.take_zero,List.map_nil,List.append_nil];exact hws9⟩ (fun j σ H'' _ p=>SqL.of (p.1 _ _ gL)) (fun j y σ H'' ey p=>?_) fun σ H'' p=>?_
   ·obtain ⟨sj,⟨l2,rfl⟩,ws',gE',hws'⟩:=p
    obtain ⟨o,eo,ho'⟩:=aZ hys ey
    have hom:o∈others:=by
     have:=List.mem_of_getElem? eo
     rw [←e0] at this
     exact (List.mem_filter.mp this).1
    have lws:=hws'.len
    have ljn:=rY is js left (rows.take i) others
    rw [List.length_append,List.length_map,List.length_take] at lws
    rw [List.length_take] at ljn
    refine ⟨_,rfl,.inl ⟨rfl,_,SqL.of gE'⟩,_,rfl,_,rfl,_,rfl,y,D5,o,left,rfl,ho'.same sj,SqL.of ((s6.trans sj) _ _ g5),by lia,bleft o hom,fun t2 H10 s10 g10=>?_⟩
    have lr:r.length≤100:=by rw [←kdl (hk r hrm)];unfold knds;rw [List.length_map];exact hl
    have lp:(dU left o).length=left.length:=by unfold dU;rw [List.length_map]
    have l9:min i rows.length * others.length≤30 * 30:=Nat.mul_le_mul (by lia) ol
    refine ⟨px,t2,r,dU left o,rfl,rfl,(sj.trans s10).aP hpx,SqT.of g10,small (by lia),fun tn H11 s11 g11=>?_⟩
    have gE11:=(s10.trans s11) _ _ gE'
    refine ⟨E7,ws',.ref tn,rfl,rfl,gE11,Nat.lt_of_le_of_lt (show ws'.length≤1000 by lia) (by decide),cN n7 (sj.trans (s10.trans s11)),⟨_,rfl⟩,ws'++[.ref tn],aH,?_⟩
    rw [qG eo,List.map_append,←List.append_assoc]
    exact oR (hws'.imp fun _ _ ⟨p,ep,hp⟩=>⟨p,ep,SqT.kO gE11 ((s10.trans s11).aP hp)⟩) (.cons ⟨tn,rfl,SqT.kO gE11 g11⟩ .nil)
   ·obtain ⟨sj,⟨l2,rfl⟩,ws',gE',hws'⟩:=p
    have e9:rs.take ys.length=rs:=List.take_of_length_le (by lia)
    rw [e9] at hws'
    exact ⟨sj,⟨_,_,rfl⟩,ws',gE',hws'⟩
 ·obtain ⟨sm,⟨l,l2,rfl⟩,ws,gE,hws⟩:=p
  rw [List.take_of_length_le (by lia)] at hws
  exact ⟨_,rfl,q E7 H' (none_of s16 n7) (s16.trans sm) ⟨ws,gE,by unfold kZ;rw [eis,ejs,eleft];exact hws⟩⟩
def aY8 (K:PySem.W.Frag) (H:Hp) (v:V) (rs:List (List V)):Prop:=∃D,v=.ref D∧cG K H D rs
def Fit (hd:Hdr) (rs:List (List V)):Prop:=rs.length≤30∧∀r∈rs,KdR (knds hd) r
inductive RH:Qn→List Hdr→List (List (List V))→List (List V)→Prop
 |named {q ns hd rs}:RH (.nmd q ns) [hd] [rs] rs
 |join {q r ps hd ho rows others ks}:bM (fun p k=>look hd p.1=some k∧look ho p.2=some k) ps ks→RH (.join q r ps) [hd,ho] [rows,others] (kZ hd ho ps rows others)
def aH3:Sp:=fun _ _ _ _=>False
theorem aBo (T:Txt w K mg):Ok P w K mg base 1 "where_rows" ["head","rows","tests"] aH3:=Ok.ofV T.aEx aB7 (fun _ _ _ _ h=>h.elim) (fun _ _ _ _ _ _ _ _ _ _ h=>h.elim)
theorem aF9 (T:Txt w K mg):Ok P w K mg base 1 "keep_rows" ["head","rows","names"] aH3:=Ok.ofV T.aJf aGb (fun _ _ _ _ h=>h.elim) (fun _ _ _ _ _ _ _ _ _ _ h=>h.elim)
theorem aB3 (T:Txt w K mg):Ok P w K mg base 1 "group_rows" ["head","rows","names","sums"] aH3:=Ok.ofV T.aEe aCa (fun _ _ _ _ h=>h.elim) (fun _ _ _ _ _ _ _ _ _ _ h=>h.elim)
theorem aB4 (T:Txt w K mg):Ok P w K mg base 1 "first_rows" ["head","rows","keys","many"] aH3:=Ok.ofV T.aDr aBp (fun _ _ _ _ h=>h.elim) (fun _ _ _ _ _ _ _ _ _ _ h=>h.elim)
def aVk (K:PySem.W.Frag):Sp:=fun vs H Q _=>∃v x y us ws q ihds irs rs,vs=[v,.ref x,.ref y]∧IsQ K H v q∧SqL K H x us∧bM (cZ K H) us ihds∧(∀h∈ihds,h.length≤100)∧SqL K H y ws∧bM (aY8 K H) ws irs∧bM Fit ihds irs∧RH q ihds irs rs∧∀D' H',(H D'=none∨.ref D'∈ws)→Same H H'→cG K H' D' rs→Q (.ref D') H'
theorem aFk (T:Txt w K mg) (aGw:Ok P w K mg base 4 "join_rows" ["head","rows","other_head","other_rows","pairs"] (aNg K)):Ok P w K mg base 5 "rows_here" ["question","heads","rows"] (aVk K):=by
 have aGa:=aBo (P:=P) (base:=base) T
 have aHr:=aF9 (P:=P) (base:=base) T
 have aDx:=aB3 (P:=P) (base:=base) T
 have aE3:=aB4 (P:=P) (base:=base) T
 refine Ok.ofV T.aG1 vZ (fun vs H Q E h=>?_) (fun f cdv A outer s H vs Q E hr h=>?_)
 ·obtain ⟨v,x,y,us,ws,q0,ihds,irs,rs,rfl,_⟩:=h;rfl
 obtain ⟨v,x,y,us,ws,q0,ihds,irs,rs,rfl,hq,hx,hu,hlen,hy,hw,hf,hh,q⟩:=h
 refine ⟨_,(aC (aW (i:=3) vZ.nd rfl (by trivial) (aK bH (vv 0) aD (fun _ _=>rfl))) (aC (bW (aY dC (vv 3) aU (bI _)) (aG (aN (aO (aGa.mono (by decide)) hr (by rfl) (aB (aK aX (vv 1) aD (fun _ _=>rfl)) (aB (aK aX (vv 2) aD (fun _ _=>rfl)) (aB (aK bH (vv 0) aD (fun _ _=>rfl)) aA)))))) bA) (aC (bW (aY dC (vv 3) aU (bI _)) (aG (aN (aO (aHr.mono (by decide)) hr (by rfl) (aB (aK aX (vv 1) aD (fun _ _=>rfl)) (aB (aK aX (vv 2) aD (fun _ _=>rfl)) (aB (aK bH (vv 0) aD (fun _ _=>rfl)) aA)))))) bA) (aC (bW (aY dC (vv 3) aU (bI _)) (aG (aN (aK aX (vv 2) aD (fun _ _=>rfl)))) bA) (aC (bW (aY dC (vv 3) aU (bI _)) (aG (aN (aO (aDx.mono (by decide)) hr (by rfl) (aB (aK aX (vv 1) aD (fun _ _=>rfl)) (aB (aK aX (vv 2) aD (fun _ _=>rfl)) (aB (aK bH (vv 0) aD (fun _ _=>rfl)) (aB (aK bH (vv 0) aD (fun _ _=>rfl)) aA))))))) bA) (aC (bW (aY dC (vv 3) aU (bI _)) (aG (aN (aO (aE3.mono (by decide)) hr (by rfl) (aB (aK aX (vv 1) aD (fun _ _=>rfl)) (aB (aK aX (vv 2) aD (fun _ _=>rfl)) (aB (aK bH (vv 0) aD (fun _ _=>rfl)) (aB (aK bH (vv 0) aD (fun _ _=>rfl)) aA))))))) bA) (aG (aN (aO (aGw.mono (by decide)) hr (by rfl) (aB (aK aX (vv 1) aD (fun _ _=>rfl)) (aB (aK aX (vv 2) aD (fun _ _=>rfl)) (aB (aK aX (vv 1) aD (fun _ _=>rfl)) (aB (aK aX (vv 2) aD (fun _ _=>rfl)) (aB (aK bH (vv 0) aD (fun _ _=>rfl)) aA)))))))))))))),?_⟩
 cases hh with
 |named=>
  cases hq with
  |nmd a b c=>
   cases hw with
   |cons w1 t2=>
    cases t2
    obtain ⟨D,rfl,hD⟩:=w1
    refine ⟨_,rfl,_,_,0,_,rfl,rfl,a,at0 _ _,?_⟩
    refine ⟨_,rfl,rfl,_,rfl,bK ⟨_,rfl,rfl,_,rfl,bK ⟨_,rfl,rfl,_,rfl,eX ?_⟩⟩⟩
    exact ⟨_,rfl,y,_,0,_,rfl,rfl,hy,at0 _ _,q D H (.inr List.mem_cons_self) (Same.refl H) hD⟩
 |join hlk=>
  cases hq with
  |join a b c e=>
   cases hu with
   |cons h1 t1=>
    cases t1 with
    |cons h2 t1=>
     cases t1
     cases hw with
     |cons w1 t2=>
      cases t2 with
      |cons w2 t2=>
       cases t2
       cases hf with
       |cons f1 t3=>
        cases t3 with
        |cons f2 _=>
         obtain ⟨D,rfl,hD⟩:=w1
         obtain ⟨C,rfl,hC⟩:=w2
         have l1:=hlen _ List.mem_cons_self
         have l2:=hlen _ (List.mem_cons_of_mem _ List.mem_cons_self)
         have l3:=e.2.2
         refine ⟨_,rfl,_,_,0,_,rfl,rfl,a,at0 _ _,?_⟩
         refine ⟨_,rfl,rfl,_,rfl,bK ⟨_,rfl,rfl,_,rfl,bK ⟨_,rfl,rfl,_,rfl,bK ⟨_,rfl,rfl,_,rfl,bK ⟨_,rfl,rfl,_,rfl,bK ?_⟩⟩⟩⟩⟩
         exact ⟨_,rfl,x,_,0,_,rfl,rfl,hx,at0 _ _,_,rfl,y,_,0,_,rfl,rfl,hy,at0 _ _,_,rfl,x,_,1,_,rfl,rfl,hx,at1 _ _ _,_,rfl,y,_,1,_,rfl,rfl,hy,at1 _ _ _,_,rfl,_,_,3,_,rfl,rfl,a,rfl,_,D,_,C,_,_,_,_,_,_,_,rfl,h1,l1,h2,l2,hD,f1.1,hC,f2.1,f1.2,f2.2,e.1,by lia,hlk,fun D' H' n' s' h'=>q D' H' (.inl n') s' h'⟩
def TabsAt (K:PySem.W.Frag) (H:Hp) (tb:Addr) (tabs:Str→Option (Addr × List (List V))):Prop:=∃kvs,H tb=some (.dK kvs)∧∀n D rs,tabs n=some (D,rs)→jX kvs (Sum.inr n)=some (.ref D)∧cG K H D rs
theorem TabsAt.same {H H':Hp} {tb:Addr} {tabs:Str→Option (Addr × List (List V))} (e:Same H H') (h:TabsAt K H tb tabs):TabsAt K H' tb tabs:=by
 obtain ⟨kvs,h1,h2⟩:=h
 exact ⟨kvs,e _ _ h1,fun n D rs h=>⟨(h2 n D rs h).1,(h2 n D rs h).2.same e⟩⟩
inductive RQ (hs:Str→Option Hdr) (tabs:Str→Option (Addr × List (List V))):Qn→List (List V)→Prop
 |table {n D rs}:tabs n=some (D,rs)→RQ hs tabs (.table n) rs
 |two {q k l h1 h2 r1 r2 rs}:kids q=[k,l]→HQ hs k h1→RQ hs tabs k r1→Fit h1 r1→HQ hs l h2→RQ hs tabs l r2→Fit h2 r2→RH q [h1,h2] [r1,r2] rs→RQ hs tabs q rs
 |one {q k h1 r1 rs}:kids q=[k]→HQ hs k h1→RQ hs tabs k r1→Fit h1 r1→RH q [h1] [r1] rs→RQ hs tabs q rs
theorem aMv {K:PySem.W.Frag} {H:Hp} {v:V} {q:Qn} {i1:List Hdr} {i2:List (List (List V))} {rs:List (List V)} (h:RH q i1 i2 rs) (hq:IsQ K H v q):∃a s xs,v=.ref a∧SqT K H a (.str s::xs)∧decide (V.str s=V.str "table")=false:=by
 cases h with
 |named=>
  cases hq
  exact ⟨_,"named",_,rfl,by assumption,by decide +kernel⟩
 |join _=>
  cases hq
  exact ⟨_,"join",_,rfl,by assumption,by decide +kernel⟩
theorem rP {hd:Hdr} (h:Good hd):knds hd≠[]:=fun z=>by
 have:=congrArg List.length z
 unfold knds at this
 rw [List.length_map] at this
 have h1:=h.2.1
 rw [this] at h1
 exact absurd h1 (by decide)
theorem aCf {K:PySem.W.Frag} {Dk:Addr} {u:V} {H1:Hp} {σ0:L2.St} {te:TE} {Q:VK} (gD:H1 Dk=some (.lst [u]))
  (h:∀D R,H1 D=none→(∀y H5,Same (L2.upd H1 D (.lst [])) H5→Q (.ref D) (L2.upd H5 D (.lst [y]))→R y H5)→te (σ0.set 0 (some u)) (L2.upd H1 D (.lst [])) R):yW (Itl K Dk) H1 σ0 (bQ 0) mL te Q:=by
 intro D hD
 refine ⟨fun i m σ' H' ys=>(i=0∧m=1∧σ'=σ0∧H'=L2.upd H1 D (.lst [])∧ys=[])∨(i=1∧m=0∧H' Dk=some (.lst [u])∧H' D=some (.lst ys)∧Q (.ref D) H'),⟨1,.inl ⟨rfl,rfl,rfl,rfl,rfl⟩⟩,?_⟩
 rintro i m σ' H' ys (⟨rfl,rfl,rfl,rfl,rfl⟩|⟨rfl,rfl,g1,g2,g3⟩)
 ·have hn:=bB gD hD
  have g:L2.upd H1 D (.lst []) Dk=some (.lst [u]):=by rw [aV hn];exact gD
  refine ⟨aH,.inr ⟨⟨[u],u,SqL.of g,rfl⟩,fun x H2 hy=>?_⟩⟩
  obtain ⟨rfl,e2⟩:=hy
  have e3:=e2 [u] (SqL.of g)
  cases e3
  show te _ _ _
  refine h D _ hD fun y H5 s5 q5=>⟨s5 _ _ aH,by decide,0,by decide,.inr ⟨rfl,rfl,?_,aH,q5⟩⟩
  rw [aV hn]
  exact s5 _ _ g
 ·exact ⟨g2,.inl ⟨⟨[u],SqL.of g1,Nat.le_refl _⟩,g3⟩⟩
theorem aCo {K:PySem.W.Frag} {Dk:Addr} {u1 u2:V} {H1:Hp} {σ0:L2.St} {te:TE} {Q:VK} (gD:H1 Dk=some (.lst [u1,u2]))
  (h:∀D R,H1 D=none→(∀y H5,Same (L2.upd H1 D (.lst [])) H5→(∀R2:VK,(∀y2 H6,Same (L2.upd H5 D (.lst [y])) H6→Q (.ref D) (L2.upd H6 D (.lst [y,y2]))→R2 y2 H6)→te (σ0.set 0 (some u2)) (L2.upd H5 D (.lst [y])) R2)→R y H5)→te (σ0.set 0 (some u1)) (L2.upd H1 D (.lst [])) R):yW (Itl K Dk) H1 σ0 (bQ 0) mL te Q:=by
 intro D hD
 have hn:=bB gD hD
 refine ⟨fun i m σ' H' ys=>(i=0∧m=2∧σ'=σ0∧H'=L2.upd H1 D (.lst [])∧ys=[])∨(i=1∧m=1∧σ'=σ0.set 0 (some u1)∧H' Dk=some (.lst [u1,u2])∧∃y,ys=[y]∧H' D=some (.lst [y])∧∀R2:VK,(∀y2 H6,Same H' H6→Q (.ref D) (L2.upd H6 D (.lst [y,y2]))→R2 y2 H6)→te (σ0.set 0 (some u2)) H' R2)∨(i=2∧m=0∧H' Dk=some (.lst [u1,u2])∧H' D=some (.lst ys)∧Q (.ref D) H'),⟨2,.inl ⟨rfl,rfl,rfl,rfl,rfl⟩⟩,?_⟩
 rintro i m σ' H' ys (⟨rfl,rfl,rfl,rfl,rfl⟩|⟨rfl,rfl,rfl,g1,y,rfl,g2,g3⟩|⟨rfl,rfl,g1,g2,g3⟩)
 ·have g:L2.upd H1 D (.lst []) Dk=some (.lst [u1,u2]):=by rw [aV hn];exact gD
  refine ⟨aH,.inr ⟨⟨[u1,u2],u1,SqL.of g,rfl⟩,fun x H2 hy=>?_⟩⟩
  obtain ⟨rfl,e2⟩:=hy
  have e3:=e2 [u1,u2] (SqL.of g)
  cases e3
  show te _ _ _
  refine h D _ hD fun y H5 s5 q5=>⟨s5 _ _ aH,by decide,1,by decide,.inr (.inl ⟨rfl,rfl,rfl,?_,y,rfl,aH,q5⟩)⟩
  rw [aV hn]
  exact s5 _ _ g
 ·refine ⟨g2,.inr ⟨⟨[u1,u2],u2,SqL.of g1,rfl⟩,fun x H2 hy=>?_⟩⟩
  obtain ⟨rfl,e2⟩:=hy
  have e3:=e2 [u1,u2] (SqL.of g1)
  cases e3
  show te ((σ0.set 0 (some u1)).set 0 (some u2)) _ _
  rw [List.set_set]
  refine g3 _ fun y2 H6 s6 q6=>⟨s6 _ _ g2,by show 1<sizeLine;decide,0,by decide,.inr (.inr ⟨rfl,rfl,?_,aH,q6⟩)⟩
  rw [aV hn]
  exact s6 _ _ g1
 ·exact ⟨g2,.inl ⟨⟨[u1,u2],SqL.of g1,Nat.le_refl _⟩,g3⟩⟩
theorem aTf {H:Hp} {tb:Addr} {kvs:List (Key × V)} {k:Key} {v:V} (hk:H tb=some (.dK kvs)) (e:jX kvs k=some v):zB H tb (kV k) (some v):=by rw [←e];exact zB.k hk
def aSm (K:PySem.W.Frag) (n:Nat):Sp:=fun vs H Q _=>∃d tb v hs tabs q rs,vs=[.ref d,.ref tb,v]∧lD K H d hs∧TabsAt K H tb tabs∧IsQ K H v q∧size q≤n∧size q≤20∧RQ hs tabs q rs∧∀D' H',(H D'=none∨∃n rs,tabs n=some (D',rs))→Same H H'→cG K H' D' rs→Q (.ref D') H'
theorem rB (T:Txt w K mg) (dJ:Ok P w K mg base 1 "questions_in" ["question"] (aMw K)) (yK:Ok P w K mg base 5 "rows_here" ["question","heads","rows"] (aVk K)) (lN:Ok P w K mg base 27 "head_of" ["heads","question"] (aH2 K)) :
  ∀n:Nat,Ok P w K mg base (n+28) "rows_within" ["heads","tables","question"] (aSm K n)
 |0=>by
  refine Ok.ofV T.sV iR (fun vs H Q E h=>?_) (fun f cdv A outer s H vs Q E hr h=>?_)
  ·obtain ⟨d,tb,v,hs,tabs,q0,rs,rfl,_⟩:=h;rfl
  ·obtain ⟨d,tb,v,hs,tabs,q0,rs,rfl,_,_,hq,hz,_⟩:=h
   have e:=qU q0
   have o:=wA hq
   lia
 |n+1=>by
  have fY:=rB T dJ yK lN n
  refine Ok.ofV T.sV iR (fun vs H Q E h=>?_) (fun f cdv A outer s H vs Q E hr h=>?_)
  ·obtain ⟨d,tb,v,hs,tabs,q0,rs,rfl,_⟩:=h;rfl
  obtain ⟨d,tb,v,hs,tabs,q0,rs,rfl,hds,htb,hq,hz,h20,hh,q⟩:=h
  have hu:=yQ hr
  refine ⟨_,(aC (bW (aY dC (aK bH (vv 2) aD (fun _ _=>rfl)) aU (bI _)) (aG (aN (aMm hu (vv 1) (aK bH (vv 2) aD (fun _ _=>rfl)) (fun _ _=>rfl)))) bA) (aC (aW (i:=3) iR.nd rfl (by trivial) (aO (dJ.mono (by lia)) hr (by rfl) (aB (vv 2) aA))) (aC (lB (i0:=4) iR.nd rfl (by trivial) (N:=["part","heads","tables"]) (by trivial) (cO (aF gH) rfl (by decide +kernel)) rfl (cV (vv 3)) (fun cl s' H' fp=>⟨(aL (i:=0) (show (["part","heads","tables"]:List Str).Nodup from by decide +kernel) rfl (Or.inl rfl)),bT,(aO (fY.mono (by lia)) hr (by rfl) (aB (vv 1) (aB (vv 2) (aB (vv 0) aA))))⟩)) (aG (aN (aO (yK.mono (by lia)) hr (by rfl) (aB (vv 2) (aB (bN (N:=["part","heads"]) (by trivial) (cO (aF gH) rfl (by decide +kernel)) rfl (cV (vv 3)) (fun cl s' H' fp=>⟨(aL (i:=0) (show (["part","heads"]:List Str).Nodup from by decide +kernel) rfl (Or.inl rfl)),bT,(aO (lN.mono (by lia)) hr (by rfl) (aB (vv 1) (aB (vv 0) aA)))⟩)) (aB (vv 4) aA))))))))),?_⟩
  cases hh with
  |table ht=>
   cases hq with
   |table a b=>
    obtain ⟨kvs,hk,hv⟩:=htb
    obtain ⟨v1,v2⟩:=hv _ _ _ ht
    have g:=aTf hk v1
    exact ⟨_,rfl,_,_,0,_,rfl,rfl,a,at0 _ _,rfl,_,rfl,eX ⟨_,rfl,_,rfl,_,_,1,_,rfl,rfl,a,at1 _ _ _,tb,_,rfl,g,q _ H (.inr ⟨_,_,ht⟩) (Same.refl H) v2⟩⟩
  |@one _ k1 h1 r1 _ hk hh1 hr1 hf hrh=>
   obtain ⟨a,z,zs,rfl,ha,hne⟩:=aMv hrh hq
   refine ⟨_,rfl,_,_,0,_,rfl,rfl,ha,at0 _ _,rfl,_,rfl,qF hne ?_⟩
   refine ⟨_,rfl,_,q0,H,rfl,Same.refl H,hq,fun Dk H1 us fD s1 gD hus=>?_⟩
   rw [hk] at hus
   cases hus with
   |cons hu0 t0=>
   cases t0
   have kz:=vI (by rw [hk];exact List.mem_cons_self) hq
   dsimp only [bQ,mR,mO]
   refine oV [none,some (.ref d),some (.ref tb)] (pH 0 1 (by decide +kernel) (by decide +kernel) rfl rfl rfl rfl (by trivial) (by trivial)) ⟨_,rfl,Dk,rfl,⟨_,SqL.of gD⟩,aCf gD fun D R hD r=>?_⟩
   have s2:Same H1 (L2.upd H1 D (.lst [])):=bF hD _
   refine ⟨_,rfl,_,rfl,_,rfl,d,tb,_,hs,tabs,_,_,rfl,hds.same (s1.trans s2),htb.same (s1.trans s2),hu0.same (s1.trans s2),by lia,by lia,hr1,fun D' H5 fr s5 hrs=>r _ H5 s5 ?_⟩
   have hDD:D'≠D:=by
    rcases fr with fr|⟨n',rs',e⟩
    ·rintro rfl
     rw [aH] at fr
     cases fr
    ·obtain ⟨kvs,_,hv⟩:=htb.same s1
     obtain ⟨us',g',_⟩:=(hv _ _ _ e).2
     exact bB g' hD
   have s6:Same H1 (L2.upd H5 D (.lst [.ref D'])):=cN hD (s2.trans s5)
   have hrs6:cG K (L2.upd H5 D (.lst [.ref D'])) D' r1:=by
    obtain ⟨us',g',hg⟩:=hrs
    exact ⟨us',by rw [aV hDD];exact g',hg.imp fun _ _ ⟨p,ep,hp⟩=>⟨p,ep,SqT.kO (s5 _ _ aH) hp⟩⟩
   have gDD:L2.upd H5 D (.lst [.ref D']) D=some (.lst [.ref D']):=aH
   generalize L2.upd H5 D (.lst [.ref D'])=H6 at s6 hrs6 gDD ⊢
   refine ⟨_,rfl,?_⟩
   dsimp only [cT]
   refine oV [none,some (.ref d)] (dO 0 (by decide +kernel) rfl rfl (by trivial)) ⟨_,rfl,Dk,rfl,⟨_,SqL.of (s6 _ _ gD)⟩,aCf (s6 _ _ gD) fun D2 R2 hD2 r2=>?_⟩
   have s7:Same H6 (L2.upd H6 D2 (.lst [])):=bF hD2 _
   have sA:=s1.trans (s6.trans s7)
   refine ⟨_,rfl,_,rfl,d,_,hs,k1,h1,rfl,hds.same sA,hu0.same sA,by lia,hh1,fun v' H7 s8 hI=>r2 _ H7 s8 ?_⟩
   have s9:Same H6 (L2.upd H7 D2 (.lst [v'])):=cN hD2 (s7.trans s8)
   have hI9:cZ K (L2.upd H7 D2 (.lst [v'])) v' h1:=by
    obtain ⟨b,vs',rfl,hb,hv⟩:=hI
    exact ⟨b,vs',rfl,SqT.kO (s8 _ _ aH) hb,hv.imp fun _ _ ⟨p,ep,hp⟩=>⟨p,ep,SqT.kO (s8 _ _ aH) hp⟩⟩
   have g9:L2.upd H7 D2 (.lst [v']) D2=some (.lst [v']):=aH
   generalize L2.upd H7 D2 (.lst [v'])=H9 at s9 hI9 g9 ⊢
   have s0:=s1.trans (s6.trans s9)
   have gd:=hh1.good
   refine ⟨_,rfl,_,D2,D,[v'],[.ref D'],q0,[h1],[r1],rs,rfl,hq.same s0,SqL.of g9,.cons hI9 .nil,fun h hm=>?_,SqL.of (s9 _ _ gDD),.cons ⟨D',rfl,hrs6.same s9⟩ .nil,.cons hf .nil,hrh,fun D3 H3 fr3 s3 h3=>q D3 H3 ?_ (s0.trans s3) h3⟩
   ·cases hm with
    |head=>have:=gd.2.2;lia
    |tail _ z=>cases z
   ·rcases fr3 with fr3|fr3
    ·exact .inl (none_of s0 fr3)
    ·have e:D3=D':=by
      have:=List.mem_singleton.mp fr3
      injection this
     rw [e]
     rcases fr with fr|fr
     ·exact .inl (none_of (s1.trans s2) fr)
     ·exact .inr fr
  |@two _ k1 k2 h1 h2 r1 r2 _ hk hh1 hr1 hf1 hh2 hr2 hf2 hrh=>
   obtain ⟨a,z,zs,rfl,ha,hne⟩:=aMv hrh hq
   refine ⟨_,rfl,_,_,0,_,rfl,rfl,ha,at0 _ _,rfl,_,rfl,qF hne ?_⟩
   refine ⟨_,rfl,_,q0,H,rfl,Same.refl H,hq,fun Dk H1 us fD s1 gD hus=>?_⟩
   rw [hk] at hus
   cases hus with
   |@cons u1 _ _ _ hu1 t0=>
   cases t0 with
   |@cons u2 _ _ _ hu2 t0=>
   cases t0
   have kz1:=vI (by rw [hk];exact List.mem_cons_self) hq
   have kz2:=vI (by rw [hk];exact List.mem_cons_of_mem _ List.mem_cons_self) hq
   dsimp only [bQ,mR,mO]
   refine oV [none,some (.ref d),some (.ref tb)] (pH 0 1 (by decide +kernel) (by decide +kernel) rfl rfl rfl rfl (by trivial) (by trivial)) ⟨_,rfl,Dk,rfl,⟨_,SqL.of gD⟩,aCo gD fun D R hD r=>?_⟩
   have s2:Same H1 (L2.upd H1 D (.lst [])):=bF hD _
   have notD:∀{D':Addr} {Hx:Hp},(∃o,Hx D=some o)→(Hx D'=none∨∃n rs,tabs n=some (D',rs))→D'≠D:=fun ⟨o,go⟩ fr=>by
    rcases fr with fr|⟨n',rs',e⟩
    ·rintro rfl
     rw [go] at fr
     cases fr
    ·obtain ⟨kvs,_,hv⟩:=htb.same s1
     obtain ⟨us',g',_⟩:=(hv _ _ _ e).2
     exact bB g' hD
   refine ⟨_,rfl,_,rfl,_,rfl,d,tb,_,hs,tabs,_,_,rfl,hds.same (s1.trans s2),htb.same (s1.trans s2),hu1.same (s1.trans s2),by lia,by lia,hr1,fun A1 H5 fr1 s5 hrs1=>r _ H5 s5 fun R2 rf1=>?_⟩
   have nA1:=notD ⟨_,aH⟩ fr1
   have s6:Same H1 (L2.upd H5 D (.lst [.ref A1])):=cN hD (s2.trans s5)
   have hrs6:cG K (L2.upd H5 D (.lst [.ref A1])) A1 r1:=by
    obtain ⟨us',g',hg⟩:=hrs1
    exact ⟨us',by rw [aV nA1];exact g',hg.imp fun _ _ ⟨p,ep,hp⟩=>⟨p,ep,SqT.kO (s5 _ _ aH) hp⟩⟩
   have g6:L2.upd H5 D (.lst [.ref A1]) D=some (.lst [.ref A1]):=aH
   generalize L2.upd H5 D (.lst [.ref A1])=H6 at s6 hrs6 g6 rf1 ⊢
   have s16:=s1.trans s6
   refine ⟨_,rfl,_,rfl,_,rfl,d,tb,_,hs,tabs,_,_,rfl,hds.same s16,htb.same s16,hu2.same s16,by lia,by lia,hr2,fun A2 H7 fr2 s7 hrs2=>rf1 _ H7 s7 ?_⟩
   have nA2:=notD ⟨_,g6⟩ fr2
   have g7:=s7 _ _ g6
   have s8:Same H1 (L2.upd H7 D (.lst [.ref A1,.ref A2])):=cN hD (s6.trans s7)
   have up8:∀{A:Addr} {rr:List (List V)},A≠D→cG K H7 A rr→cG K (L2.upd H7 D (.lst [.ref A1,.ref A2])) A rr:=fun nA ⟨us',g',hg⟩=>⟨us',by rw [aV nA];exact g',hg.imp fun _ _ ⟨p,ep,hp⟩=>⟨p,ep,SqT.kO g7 hp⟩⟩
   have hA1:=up8 nA1 (hrs6.same s7)
   have hA2:=up8 nA2 hrs2
   have g8:L2.upd H7 D (.lst [.ref A1,.ref A2]) D=some (.lst [.ref A1,.ref A2]):=aH
   generalize L2.upd H7 D (.lst [.ref A1,.ref A2])=H8 at s8 hA1 hA2 g8 ⊢
   refine ⟨_,rfl,?_⟩
   dsimp only [cT]
   refine oV [none,some (.ref d)] (dO 0 (by decide +kernel) rfl rfl (by trivial)) ⟨_,rfl,Dk,rfl,⟨_,SqL.of (s8 _ _ gD)⟩,aCo (s8 _ _ gD) fun D2 R2 hD2 rf2=>?_⟩
   have s9:Same H8 (L2.upd H8 D2 (.lst [])):=bF hD2 _
   have sA:=s1.trans (s8.trans s9)
   refine ⟨_,rfl,_,rfl,d,_,hs,k1,h1,rfl,hds.same sA,hu1.same sA,by lia,hh1,fun v1 H9 sB hI1=>rf2 _ H9 sB fun R3 r3=>?_⟩
   have s10:Same H8 (L2.upd H9 D2 (.lst [v1])):=cN hD2 (s9.trans sB)
   have hdU:∀{Hx:Hp} {v:V} {h:Hdr} {xs zs:List V},Hx D2=some (.lst xs)→cZ K Hx v h→cZ K (L2.upd Hx D2 (.lst zs)) v h:=fun gx ⟨b,vs',eb,hb,hv⟩=>⟨b,vs',eb,SqT.kO gx hb,hv.imp fun _ _ ⟨p,ep,hp⟩=>⟨p,ep,SqT.kO gx hp⟩⟩
   have hI10:=hdU (zs:=[v1]) (sB _ _ aH) hI1
   have g10:L2.upd H9 D2 (.lst [v1]) D2=some (.lst [v1]):=aH
   generalize L2.upd H9 D2 (.lst [v1])=H10 at s10 hI10 g10 r3 ⊢
   have sC:=s1.trans (s8.trans s10)
   refine ⟨_,rfl,_,rfl,d,_,hs,k2,h2,rfl,hds.same sC,hu2.same sC,by lia,hh2,fun v2 H11 sD hI2=>r3 _ H11 sD ?_⟩
   have s12:Same H8 (L2.upd H11 D2 (.lst [v1,v2])):=cN hD2 (s10.trans sD)
   have hI1':=hdU (zs:=[v1,v2]) (sD _ _ g10) (hI10.same sD)
   have hI2':=hdU (zs:=[v1,v2]) (sD _ _ g10) hI2
   have g12:L2.upd H11 D2 (.lst [v1,v2]) D2=some (.lst [v1,v2]):=aH
   generalize L2.upd H11 D2 (.lst [v1,v2])=H12 at s12 hI1' hI2' g12 ⊢
   have s0:=s1.trans (s8.trans s12)
   have gd1:=hh1.good
   have gd2:=hh2.good
   refine ⟨_,rfl,_,D2,D,[v1,v2],[.ref A1,.ref A2],q0,[h1,h2],[r1,r2],rs,rfl,hq.same s0,SqL.of g12,.cons hI1' (.cons hI2' .nil),fun h hm=>?_,SqL.of (s12 _ _ g8),.cons ⟨A1,rfl,hA1.same s12⟩ (.cons ⟨A2,rfl,hA2.same s12⟩ .nil),.cons hf1 (.cons hf2 .nil),hrh,fun D3 H3 fr3 s3 h3=>q D3 H3 ?_ (s0.trans s3) h3⟩
   ·rcases List.mem_cons.mp hm with rfl|hm
    ·have:=gd1.2.2;lia
    ·cases List.mem_singleton.mp hm
     have:=gd2.2.2;lia
   ·rcases fr3 with fr3|fr3
    ·exact .inl (none_of s0 fr3)
    ·rcases List.mem_cons.mp fr3 with e|e
     ·injection e with e
      rw [e]
      rcases fr1 with fr|fr
      ·exact .inl (none_of (s1.trans s2) fr)
      ·exact .inr fr
     ·have e:=List.mem_singleton.mp e
      injection e with e
      rw [e]
      rcases fr2 with fr|fr
      ·exact .inl (none_of s16 fr)
      ·exact .inr fr
theorem iJ {α β:Type} {R:α→β→Prop} {as:List α} {bs:List β} (h:bM R as bs):Al2 R as bs:=by
 induction h with
 |nil=>exact .nil
 |cons r _ ih=>exact .cons r ih
theorem nR {α β:Type} {R:α→β→Prop} {as:List α} {bs:List β} (h:Al2 R as bs):bM R as bs:=by
 induction h with
 |nil=>exact .nil
 |cons r _ ih=>exact .cons r ih
theorem aU8 {K:PySem.W.Frag} {H:Hp} {v:V} {q:Qn} {hs:Str→Option Hdr} {tabs:Str→Option (Addr × List (List V))} {rs:List (List V)} (h:RQ hs tabs q rs) (hq:IsQ K H v q):∃a s xs,v=.ref a∧SqT K H a (.str s::xs)∧decide (V.str s=V.str "first")=false:=by
 cases h with
 |table _=>cases hq;exact ⟨_,"table",_,rfl,by assumption,by decide +kernel⟩
 |one _ _ _ _ h=>
  cases h
  cases hq
  exact ⟨_,"named",_,rfl,by assumption,by decide +kernel⟩
 |two _ _ _ _ _ _ _ h=>
  cases h
  cases hq
  exact ⟨_,"join",_,rfl,by assumption,by decide +kernel⟩
theorem aDw (T:Txt w K mg):Ok P w K mg base 1 "sorted_by" ["rows","place","way"] aH3:=Ok.ofV T.aGr aD5 (fun _ _ _ _ h=>h.elim) (fun _ _ _ _ _ _ _ _ _ _ h=>h.elim)
def aYr (hd:Hdr) (rs:List (List V)):Prop:=rs.length≤999∧∀r∈rs,KdR (knds hd) r
def aRw (K:PySem.W.Frag):Sp:=fun vs H Q _=>∃vh D t rs ks,vs=[vh,.ref D,.ref t]∧SqT K H t []∧cG K H D rs∧rs.length≤999∧ks≠[]∧(∀r∈rs,KdR ks r)∧∀D' H',H D'=none→Same H H'→cG K H' D' (srt rs)→Q (.ref D') H'
theorem aLs (T:Txt w K mg) (uA:Ok P w K mg base 2 "place_of" ["head","name"] (qJ K)):Ok P w K mg base 3 "ordered" ["head","rows","keys"] (aRw K):=by
 have aHx:=aDw (P:=P) (base:=base) T
 refine Ok.ofV T.aO8 qC (fun vs H Q E h=>?_) (fun f cdv A outer s H vs Q E hr h=>?_)
 ·obtain ⟨vh,D,t,rs,ks,rfl,_⟩:=h;rfl
 obtain ⟨vh,D,t,rs,ks,rfl,ht,⟨us,hD,hu⟩,h63,hne,hk,q⟩:=h
 refine ⟨_,(aC (aW (i:=3) qC.nd rfl (by trivial) (aR jH (by rfl) T.oM lL (aB (vv 1) aA))) (aC (fQ PassesOwn.never rfl (aTg (by rfl) T.aK2 (aB (vv 2) aA)) (aL (i:=4) qC.nd rfl (by trivial)) (aG (aW (i:=3) qC.nd rfl (by trivial) (aO (aHx.mono (by decide)) hr (by rfl) (aB (vv 3) (aB (aO (uA.mono (by decide)) hr (by rfl) (aB (vv 0) (aB (aK bH (vv 4) aD (fun _ _=>rfl)) aA))) (aB (aK bH (vv 4) aD (fun _ _=>rfl)) aA))))))) (aG (aN (vv 3))))),?_⟩
 have lu:=hu.len
 refine ⟨_,rfl,D,us,rs,ks,rfl,SqL.of hD,iJ hu,by lia,hne,hk,fun D' H' us' hN sm hD' hu'=>?_⟩
 refine ⟨_,rfl,t,[],rfl,sm.aP ht,?_⟩
 refine aQu (xs:=[]) (fun i σ H2=>H2=H'∧σ[3]?=some (some (.ref D'))) ⟨rfl,rfl⟩ (fun i σ H2 _ p=>by rw [p.1];exact sm.aP ht) (fun i x σ H2 hi=>absurd hi (Nat.not_lt_zero _)) fun σ H2 ⟨e1,e2⟩=>?_
 subst e1
 exact ⟨_,e2,q D' _ hN sm ⟨us',hD',(nR hu').imp fun _ _ r=>r.same sm⟩⟩
def aSt (K:PySem.W.Frag):Sp:=fun vs H Q _=>∃vh D v rs ks a z zs,vs=[vh,.ref D,v]∧v=.ref a∧SqT K H a (.str z::zs)∧decide (V.str z=V.str "first")=false∧cG K H D rs∧rs.length≤999∧ks≠[]∧(∀r∈rs,KdR ks r)∧∀D' H',H D'=none→Same H H'→cG K H' D' (srt rs)→Q (.ref D') H'
theorem uL (T:Txt w K mg) (aNw:Ok P w K mg base 3 "ordered" ["head","rows","keys"] (aRw K)):Ok P w K mg base 4 "in_answer_order" ["head","rows","question"] (aSt K):=by
 refine Ok.ofV T.vQ uI (fun vs H Q E h=>?_) (fun f cdv A outer s H vs Q E hr h=>?_)
 ·obtain ⟨vh,D,v,rs,ks,a,z,zs,rfl,_⟩:=h;rfl
 obtain ⟨vh,D,v,rs,ks,a,z,zs,rfl,rfl,ha,hz,hD,h63,hne,hk,q⟩:=h
 refine ⟨_,(aG (aN (aO (aNw.mono (by decide)) hr (by rfl) (aB (vv 0) (aB (vv 1) (aB (lX (aY dC (aK bH (vv 2) aD (fun _ _=>rfl)) aU (bI _)) (aK bH (vv 2) aD (fun _ _=>rfl)) (aW9 aA)) aA)))))),?_⟩
 refine ⟨_,rfl,_,rfl,_,rfl,_,_,0,_,rfl,rfl,ha,at0 _ _,rfl,_,rfl,qF hz ?_⟩
 refine ⟨Nat.zero_le _,fun t hN0=>?_⟩
 have s1:Same H (L2.upd H t (.tup [])):=bF hN0 _
 exact ⟨vh,D,t,rs,ks,rfl,SqT.of aH,hD.same s1,h63,hne,hk,fun D' H' hN s2 h2=>q D' H' (none_of s1 hN) (s1.trans s2) h2⟩
def xT (K:PySem.W.Frag):Sp:=fun vs H Q _=>∃d tb v hs tabs q hd rs,vs=[.ref d,.ref tb,v]∧lD K H d hs∧TabsAt K H tb tabs∧IsQ K H v q∧size q≤20∧HQ hs q hd∧RQ hs tabs q rs∧aYr hd rs∧∀D' H',H D'=none→Same H H'→cG K H' D' (srt rs)→Q (.ref D') H'
theorem aLq (T:Txt w K mg) (lN:Ok P w K mg base 27 "head_of" ["heads","question"] (aH2 K)) (fY:Ok P w K mg base 48 "rows_within" ["heads","tables","question"] (aSm K 20)):Ok P w K mg base 49 "rows_of" ["heads","tables","question"] (xT K):=by
 refine Ok.ofV T.aO7 aJ3 (fun vs H Q E h=>?_) (fun f cdv A outer s H vs Q E hr h=>?_)
 ·obtain ⟨d,tb,v,hs,tabs,q0,hd,rs,rfl,_⟩:=h;rfl
 obtain ⟨d,tb,v,hs,tabs,q0,hd,rs,rfl,hds,htb,hq,hz,hh,hr1,hf,q⟩:=h
 refine ⟨_,(aC (eF (aO (lN.mono (by decide)) hr (by rfl) (aB (vv 0) (aB (vv 2) aA)))) (aG (aN (aR jH (by rfl) T.oM lL (aB (aO (fY.mono (by decide)) hr (by rfl) (aB (vv 0) (aB (vv 1) (aB (vv 2) aA)))) aA))))),?_⟩
 refine ⟨_,rfl,_,rfl,d,v,hs,q0,hd,rfl,hds,hq,hz,hh,fun v' H1 s1 _=>?_⟩
 refine ⟨_,rfl,_,rfl,_,rfl,d,tb,v,hs,tabs,q0,rs,rfl,hds.same s1,htb.same s1,hq.same s1,hz,hz,hr1,fun D H2 _ s2 ⟨us,hD,hu⟩=>?_⟩
 have lu:=hu.len
 refine ⟨D,us,rs,knds hd,rfl,SqL.of hD,iJ hu,by have:=hf.1;lia,rP hh.good,hf.2,fun D' H3 us' hN s3 hD' hu'=>?_⟩
 exact q D' H3 (none_of (s1.trans s2) hN) (s1.trans (s2.trans s3)) ⟨us',hD',(nR hu').imp fun _ _ r=>r.same s3⟩
theorem aSd (T:Txt w K mg) (lN:Ok P w K mg base 27 "head_of" ["heads","question"] (aH2 K)) (fY:Ok P w K mg base 48 "rows_within" ["heads","tables","question"] (aSm K 20)) (vD:Ok P w K mg base 4 "in_answer_order" ["head","rows","question"] (aSt K)):Ok P w K mg base 49 "whole" ["heads","tables","question"] (xT K):=by
 refine Ok.ofV T.aTx aH8 (fun vs H Q E h=>?_) (fun f cdv A outer s H vs Q E hr h=>?_)
 ·obtain ⟨d,tb,v,hs,tabs,q0,hd,rs,rfl,_⟩:=h;rfl
 obtain ⟨d,tb,v,hs,tabs,q0,hd,rs,rfl,hds,htb,hq,hz,hh,hr1,hf,q⟩:=h
 refine ⟨_,(aC (aW (i:=3) aH8.nd rfl (by trivial) (aO (lN.mono (by decide)) hr (by rfl) (aB (vv 0) (aB (vv 2) aA)))) (aG (aN (aO (vD.mono (by decide)) hr (by rfl) (aB (vv 3) (aB (aO (fY.mono (by decide)) hr (by rfl) (aB (vv 0) (aB (vv 1) (aB (vv 2) aA)))) (aB (vv 2) aA))))))),?_⟩
 refine ⟨_,rfl,_,rfl,d,v,hs,q0,hd,rfl,hds,hq,hz,hh,fun v' H1 s1 _=>?_⟩
 refine ⟨_,rfl,_,rfl,_,rfl,_,rfl,d,tb,v,hs,tabs,q0,rs,rfl,hds.same s1,htb.same s1,hq.same s1,hz,hz,hr1,fun D H2 _ s2 hD=>?_⟩
 obtain ⟨a,z,zs,rfl,ha,hne⟩:=aU8 hr1 hq
 exact ⟨_,rfl,v',D,_,rs,knds hd,a,z,zs,rfl,rfl,(s1.trans s2).aP ha,hne,hD,hf.1,rP hh.good,hf.2,fun D' H3 hN s3 h3=>q D' H3 (none_of (s1.trans s2) hN) (s1.trans (s2.trans s3)) h3⟩
theorem aYh {kd:Str} {v:V} (h:xQ kd v):KdV (aDi kd) v:=by
 cases h with
 |num=>exact ⟨_,rfl⟩
 |wrd _ _=>exact ⟨_,rfl⟩
def aEm (K:PySem.W.Frag):Sp:=fun vs H Q _=>∃(a:Addr) (vh:V) (hd:Hdr),vs=[.ref a,vh]∧mQ H a∧cZ K H vh hd∧aS8 hd∧∀t H' r,Fx a H H'→H' t=some (.tup r)→KdR (knds hd) r→Q (.ref t) H'
theorem aOu {α β:Type} {R:α→β→Prop} {as:List α} {bs:List β} (hl:as.length=bs.length) (h:∀(i:Nat) (a:α) (b:β),as[i]?=some a→bs[i]?=some b→R a b):Al2 R as bs:=iJ (lU hl h)
theorem aHy (T:Txt w K mg) (aDt:Ok P w K mg base 3 "_law_value" ["_law_state","_law_kind"] aMr):Ok P w K mg base 4 "_law_row" ["_law_state","_law_head_here"] (aEm K):=by
 refine Ok.ofV T.aK9 aIw (fun vs H Q E h=>?_) (fun f cdv A outer s H vs Q E hr h=>?_)
 ·obtain ⟨a,vh,hd,rfl,_⟩:=h;rfl
 obtain ⟨a,vh,hd,rfl,hs,⟨b,us,rfl,hb,hu⟩,⟨hgd,hok⟩,q⟩:=h
 refine ⟨_,(aG (aN (bO cC (by rfl) T.cL cB (aB (bN (N:=["_law_name","_law_kind","_law_state"]) (by trivial) (cO (aF oY) rfl (by decide +kernel)) rfl (eG (vv 1)) (fun cl s' H' fp=>⟨(jP (K:=K) (n:=2) rfl (bL (aL (i:=0) (show (["_law_name","_law_kind","_law_state"]:List Str).Nodup from by decide +kernel) rfl (Or.inl rfl)) (bL (aL (i:=1) (show (["_law_name","_law_kind","_law_state"]:List Str).Nodup from by decide +kernel) rfl (Or.inl rfl)) eQ))),bT,(aO (aDt.mono (by decide)) hr (by rfl) (aB (vv 2) (aB (vv 1) aA)))⟩)) aA)))),?_⟩
 have lu:=hu.len
 have l8:=hgd.2.2
 dsimp only [zK,tCB,cT]
 refine lV [none,none,some (.ref a)] ?_ ⟨_,rfl,b,rfl,⟨_,hb⟩,yP (Fx a) (aVy hs) us (fun _=>true) (fun i _ y=>∃c',hd[i]?=some c'∧xQ c'.2 y) (fun _ _ h=>h) (fun _ _ _ h=>h) (fun i σ=>∃c',hd[i]?=some c'∧At2 [none,none,some (.ref a)] (.str c'.1) (.str c'.2) σ) (Ps2 [none,none,some (.ref a)]) ⟨none,none,rfl⟩ (small (by lia)) _ (tU fun H' f'=>f'.aP hs hb) (mJ fun H' f'=>f'.aP hs hb) (fun i x σ' H' Q' ex hps f' qq=>?_) (fun i x σ2 ex hA H' R f' r=>r H' (Fx.refl f'.st)) (fun i x σ2 ex hA hp H' R f' r=>?_) fun D H6 ys f6 fD g6 hys=>?_⟩
 ·refine ⟨rfl,fun i y v h1 h2=>?_⟩
  match i,h1,h2 with
  |0,_,h2=>cases h2
  |1,_,h2=>cases h2
  |2,h1,h2=>cases h1;cases h2;exact ⟨by decide +kernel,0,rfl,rfl,by trivial⟩
  |i+3,h1,_=>cases h1
 ·obtain ⟨c',hc',p',rfl,hp'⟩:=aZ hu ex
  exact hg2 (f'.aP hs hp') hps fun σ2 h1 h2=>qq σ2 h1 ⟨c',hc',h2⟩
 ·obtain ⟨c',hc',rfl⟩:=hA
  exact ⟨_,rfl,_,rfl,a,c'.2,rfl,f'.st,(hok c' (List.mem_of_getElem? hc')).2,fun v H2 f2 hv=>r v H2 f2 ⟨c',hc',hv⟩⟩
 ·rw [mK] at hys
  obtain ⟨l1,l2⟩:=jM hys
  refine ⟨D,_,rfl,SqL.of g6,fun t H3 _ s3 g3=>q t H3 ys (f6.sm s3) g3 (aOu (by unfold knds;rw [List.length_map];lia) fun i k y ek ey=>?_)⟩
  obtain ⟨c',hc',hv⟩:=l2 i y ey
  unfold knds at ek
  rw [List.getElem?_map,hc'] at ek
  cases ek
  exact aYh hv
theorem aLb (T:Txt w K mg):Ok P w K mg base 1 "_law_at" ["_law_head_here","_law_name"] (qJ K):=by
 refine Ok.ofV T.aOf aLt (fun vs H Q E h=>?_) (fun f cdv A outer s H vs Q E hr h=>?_)
 ·obtain ⟨vh,n,hd,k,rfl,_⟩:=h;rfl
 obtain ⟨vh,n,hd,k,rfl,⟨b,us,rfl,hb,hu⟩,hl,hk,q⟩:=h
 obtain ⟨h1,h2⟩:=mH hk
 refine ⟨_,(aG (aN (qH PySem.F.plainAttrs_list PySem.F.slot_list_index PySem.F.type_list_index aDg (bN (N:=["_law_column","_law_kind"]) (by trivial) (cY (by decide +kernel)) rfl (eG (vv 0)) (fun cl s' H' fp=>⟨(jP (K:=K) (n:=2) rfl (bL (aL (i:=0) (show (["_law_column","_law_kind"]:List Str).Nodup from by decide +kernel) rfl (Or.inl rfl)) (bL (aL (i:=1) (show (["_law_column","_law_kind"]:List Str).Nodup from by decide +kernel) rfl (Or.inl rfl)) eQ))),bT,(vv 0)⟩)) (aB (vv 1) aA)))),?_⟩
 have lu:=hu.len
 dsimp only [zK,tBM]
 refine lV [none,none] lK ⟨_,rfl,b,rfl,⟨_,hb⟩,yP Same (sI H) us (fun _=>true) (fun i _ y=>∃c',hd[i]?=some c'∧y=.str c'.1) (fun _ _ h=>h) (fun _ _ _ h=>h) (fun i σ=>∃c',hd[i]?=some c'∧At2 [none,none] (.str c'.1) (.str c'.2) σ) (Ps2 [none,none]) ⟨none,none,rfl⟩ (small (by lia)) _ (tU fun H' s'=>s'.aP hb) (mJ fun H' s'=>s'.aP hb) (fun i x σ' H' Q' ex hps s' qq=>?_) (fun i x σ2 ex hA H' R s' r=>r H' (Same.refl _)) (fun i x σ2 ex hA hp H' R s' r=>?_) fun D H6 ys s6 fD g6 hys=>?_⟩
 ·obtain ⟨c',hc',p',rfl,hp'⟩:=aZ hu ex
  exact hg2 (s'.aP hp') hps fun σ2 h1 h2=>qq σ2 h1 ⟨c',hc',h2⟩
 ·obtain ⟨c',hc',rfl⟩:=hA
  exact ⟨_,rfl,r _ _ (Same.refl H') ⟨c',hc',rfl⟩⟩
 ·rw [mK] at hys
  obtain ⟨l1,l2⟩:=jM hys
  have ey:ys=(hd.map (·.1)).map V.str:=List.ext_getElem? fun i=>by
   cases ez:ys[i]? with
   |some z=>
    obtain ⟨c',hc',rfl⟩:=l2 i z ez
    rw [List.getElem?_map,List.getElem?_map,hc'];rfl
   |none=>
    have:=List.getElem?_eq_none_iff.mp ez
    exact (List.getElem?_eq_none (by rw [List.length_map,List.length_map];lia)).symm
  subst ey
  refine ⟨.inl ⟨rfl,_,SqL.of g6⟩,_,rfl,D,hd.map (·.1),n,plc hd n,rfl,rfl,SqL.of g6,by rw [List.length_map];exact hl,by rw [List.getElem?_map,h1];rfl,fun j m hj hm=>?_,q H6 s6⟩
  rw [List.getElem?_map] at hm
  obtain ⟨c,hc,rfl⟩:=Option.map_eq_some_iff.mp hm
  exact h2 j c hj hc
theorem aJl {K:PySem.W.Frag} {H:Hp}:∀{r:List V},(∀x∈r,(∃i,x=.int i)∨∃z,x=.str z)→Al2 (DEq K H 40) r r
 |[],_=>.nil
 |x::r,h=>.cons (.inl ⟨by rcases h x List.mem_cons_self with ⟨i,rfl⟩|⟨z,rfl⟩ <;> rfl,rfl⟩) (aJl fun y hy=>h y (List.mem_cons_of_mem _ hy))
def aNi (K:PySem.W.Frag):Sp:=fun vs H Q _=>∃D C rs ks,vs=[.ref D,.ref C]∧cG K H D rs∧cG K H C rs∧rs.length≤999∧(ks.length≤1000∧∀r∈rs,KdR ks r)∧∀H',Same H H'→Q (.bl true) H'
theorem kd_len {ks:List Bool} {r:List V} (h:KdR ks r):ks.length=r.length:=by
 unfold KdR at h
 induction h with
 |nil=>rfl
 |cons _ _ ih=>rw [List.length_cons,List.length_cons,ih]
theorem aEg (T:Txt w K mg):Ok P w K mg base 1 "_law_same" ["_law_found","_law_due"] (aNi K):=by
 refine Ok.ofV T.aHd vH (fun vs H Q E h=>?_) (fun f cdv A outer s H vs Q E hr h=>?_)
 ·obtain ⟨D,C,rs,ks,rfl,_⟩:=h;rfl
 obtain ⟨D,C,rs,ks,rfl,⟨us,hD,hu⟩,⟨ws,hC,hw⟩,h63,⟨hkl,hk⟩,q⟩:=h
 have hU:=hr.units
 refine ⟨_,(aC (bW (VW.pt (qI (fK (eO (aR aOb (by rfl) T.bV bR (aB (vv 0) (aB (fB (v:=.ty "list") (by rfl) T.zW vO rfl) aA))))) (nO (aY yJ (aR bC (by rfl) T.eY cP (aB (vv 0) aA)) (aR bC (by rfl) T.eY cP (aB (vv 1) aA)) (bI _))))) (aG (aN kY)) bA) (aC (fQ PassesOwn.never rfl (dW (by rfl) T.gK (aB (aR bC (by rfl) T.eY cP (aB (vv 1) aA)) aA)) (aL (i:=2) vH.nd rfl (by trivial)) (aC (bW (VW.pt (qI (fK (eO (aR jF (by rfl) T.bV bR (aB (aK aX (vv 0) (vv 2) (fun _ _=>rfl)) (aB (fB (v:=.ty "tuple") (by rfl) T.cL cB rfl) aA))))) (nO (aY (aXu hU) (aK aX (vv 0) (vv 2) (fun _ _=>rfl)) (aK aX (vv 1) (vv 2) (fun _ _=>rfl)) (bI _))))) (aG (aN kY)) bA) (aG (bW (eO (aR (aIa rfl) (by rfl) T.aVw aQi (aB (bN (N:=["_law_value_here"]) (by trivial) (cY (by decide +kernel)) rfl (eG (aK aX (vv 0) (vv 2) (fun _ _=>rfl))) (fun cl s' H' fp=>⟨(aL (i:=0) (show (["_law_value_here"]:List Str).Nodup from by decide +kernel) rfl (Or.inl rfl)),bT,(aVf (aR qW (by rfl) T.bV bR (aB (vv 0) (aB (fB (v:=.ty "bool") (by rfl) T.aQw aM2 rfl) aA))) (nG (aRd (aR (aKv (K:=K)) (by rfl) T.bV bR (aB (vv 0) (aB (bY (aB (fB (v:=.ty "int") (by rfl) T.aMf aF7 rfl) (aB (fB (v:=.ty "str") (by rfl) T.aRa aLx rfl) aA))) aA))))))⟩)) aA))) (aG (aN kY)) bA)))) (aG (aN kY)))),?_⟩
 have lu:=hu.len
 have lw:=hw.len
 refine ⟨_,rfl,D,us,rfl,SqL.of hD,_,rfl,bK ⟨_,rfl,D,us,rfl,.inl (SqL.of hD),_,rfl,C,ws,rfl,.inl (SqL.of hC),rfl,_,rfl,qF ?_ ?_⟩⟩
 ·rw [lu,lw];simp
 refine ⟨_,rfl,C,ws,rfl,.inl (SqL.of hC),_,rfl,by lia,by lia,jG (n:=ws.length) (fun i σ H'=>Same H H'∧∃l,σ=[some (.ref D),some (.ref C),l]) ⟨Same.refl H,_,rfl⟩ (fun i σ H1 hi p=>?_) fun σ H1 p=>?_⟩
 ·obtain ⟨s1,l,rfl⟩:=p
  obtain ⟨r,er,b,eb,hb⟩:=aZ hw (List.getElem?_eq_getElem hi)
  have hi':i<us.length:=by lia
  obtain ⟨r',er',a,ea,ha⟩:=aZ hu (List.getElem?_eq_getElem hi')
  rw [er] at er'
  cases er'
  have hkr:=hk r (List.mem_of_getElem? er)
  have lr:=kd_len hkr
  have au:atI us ((i:Nat):Int)=some (.ref a):=by rw [←ea];exact dR (List.getElem?_eq_getElem hi')
  have aw:atI ws ((i:Nat):Int)=some (.ref b):=by rw [←eb];exact dR (List.getElem?_eq_getElem hi)
  have e0:(0:Int)+(i:Nat)=((i:Nat):Int):=Int.zero_add _
  rw [e0]
  refine ⟨_,rfl,_,rfl,D,us,_,_,rfl,rfl,SqL.of (s1 _ _ hD),au,_,true,rfl,.tup (s1.aP ha),_,rfl,bK ?_⟩
  refine ⟨_,rfl,_,rfl,D,us,_,_,rfl,rfl,SqL.of (s1 _ _ hD),au,_,rfl,_,rfl,C,ws,_,_,rfl,rfl,SqL.of (s1 _ _ hC),aw,?_⟩
  refine ⟨a,b,r,r,rfl,rfl,s1.aP ha,s1.aP hb,aJl (aHq hkr),_,rfl,bK ?_⟩
  dsimp only [yN,aL2,tB,tCB,cT]
  refine dZ r (r.map fun _=>.bl false) (by rw [List.length_map]) [none] fH (small (by lia)) (fun R rr=>jN (s1.aP ha) (fun R' r'=>⟨_,rfl,_,rfl,D,us,_,_,rfl,rfl,SqL.of (s1 _ _ hD),au,r'⟩) R rr) (fun j x y ex ey H2 R l sm rr=>?_) rfl fun D2 H2 s2 g2=>?_
  ·rw [List.getElem?_map,ex] at ey
   cases ey
   have hx:=aHq hkr x (List.mem_of_getElem? ex)
   refine ⟨_,rfl,x,"bool",false,rfl,by rcases hx with ⟨i,rfl⟩|⟨z,rfl⟩ <;> rfl,_,rfl,bK ?_⟩
   exact ⟨_,rfl,by decide,fun t H3 hN s3 g3=>⟨x,t,rfl,SqT.of g3,hx,_,rfl,rr H3 s3⟩⟩
  ·refine ⟨D2,r.map fun _=>false,rfl,SqL.of (by rw [g2,List.map_map];rfl),_,rfl,qF (by simp) ?_⟩
   exact ⟨s1.trans s2,_,rfl⟩
 ·obtain ⟨s1,l,rfl⟩:=p
  exact q H1 s1
theorem aEp {K:PySem.W.Frag} {J:It} {H:Hp} {us:List V} {ab:List (V × V)} {σ0:L2.St} {te:TE} {Q:VK} (hu:bM (fun u p=>∃q,u=.ref q∧SqT K H q [p.1,p.2]) us ab) (h2:Ps2 σ0 σ0) (hsz:us.length≤1000)
  (go:∀H' i x,Same H H'→us[i]?=some x→J.go i H'∧∀y H2,J.yld i H' y H2→H2=H'∧y=x) (stop:∀H',Same H H'→J.stop us.length H')
  (Rel:Nat→Hp→V→Prop) (st:∀{i H1 H2 y},Same H1 H2→Rel i H1 y→Rel i H2 y) (su:∀{i H1 D ys zs y},H1 D=some (.lst ys)→Rel i H1 y→Rel i (L2.upd H1 D (.lst zs)) y)
  (he:∀(i:Nat) (p:V × V),ab[i]?=some p→∀H' R,Same H H'→(∀y H2,Same H' H2→Rel i H2 y→R y H2)→te ((σ0.set 0 (some p.1)).set 1 (some p.2)) H' R)
  (q:∀D H' ys,Same H H'→H D=none→H' D=some (.lst ys)→ys.length=us.length→(∀i y,ys[i]?=some y→Rel i H' y)→Q (.ref D) H'):yW J H σ0 (aJk K 2 (oE (bQ 0) (oE (bQ 1) aIh))) mL te Q:=by
 refine yP Same (sI H) us (fun _=>true) Rel (fun _ s h=>st s h) (fun _ _ g h=>su g h) (fun i σ=>∃p,ab[i]?=some p∧At2 σ0 p.1 p.2 σ) (Ps2 σ0) h2 (small hsz) J go stop (fun i x σ' H' Q' ex hps s' qq=>?_) (fun i x σ2 ex hA H' R s' r=>r _ (Same.refl _)) (fun i x σ2 ex hA _ H' R s' r=>?_) fun D H1 ys s1 fD g1 hys=>?_
 ·obtain ⟨p,hp,a,rfl,ha⟩:=aZ hu ex
  exact hg2 (s'.aP ha) hps fun σ2 h1 h2=>qq σ2 h1 ⟨p,hp,h2⟩
 ·obtain ⟨p,hp,rfl⟩:=hA
  exact he i p hp H' R s' fun y H2 s2 h=>r y H2 s2 h
 ·rw [mK] at hys
  obtain ⟨l1,l2⟩:=jM hys
  exact q D H1 ys s1 fD g1 l1 l2
theorem wK {α β γ:Type} {R:α→γ→Prop} {g:β→γ} {as:List α} {bs:List β} (h:bM (fun a b=>R a (g b)) as bs):bM R as (bs.map g):=by
 induction h with
 |nil=>exact .nil
 |cons r _ ih=>exact .cons r ih
theorem aY7 (z:Str) (l:List Str):inV (V.str z) (l.map V.str)=decide (z∈l):=by
 unfold inV
 rw [List.any_map,Bool.eq_iff_iff,List.any_eq_true,decide_eq_true_eq]
 constructor
 ·rintro ⟨i,hi,h⟩
  have:i=z:=by simpa [eqV] using h
  exact this ▸ hi
 ·intro h
  exact ⟨z,h,by simp [eqV]⟩
theorem aHo {X:Cx} {scope:Scope} {x x2 y z:Str} {σ:L2.St} {u v:V} (i j:Nat) (hf:(y,NameKind.free)∈scope.names) (hg:(z,NameKind.free)∈scope.names) (hi:X.N[i]?=some y) (hj:X.N[j]?=some z) (hs:σ[i]?=some (some u)) (ht:σ[j]?=some (some v)) (hv:Vis X.env.scope y) (hw:Vis X.env.scope z):Cap X scope [x,x2,y,z] σ [none,none,some u,some v]:=
 ⟨rfl,fun n q r h1 h2=>by
  match n,h1,h2 with
  |0,_,h2=>cases h2
  |1,_,h2=>cases h2
  |2,h1,h2=>cases h1;cases h2;exact ⟨hf,i,hi,hs,hv⟩
  |3,h1,h2=>cases h1;cases h2;exact ⟨hg,j,hj,ht,hw⟩
  |n+4,h1,_=>cases h1⟩
theorem aC1 {x y:V} (h:Alike x y):keyOf x=keyOf y↔x=y:=by
 rcases h with ⟨a,b,rfl,rfl⟩|⟨a,b,rfl,rfl⟩
 ·exact ⟨fun h=>by injection h with h;rw [h],fun h=>by rw [h]⟩
 ·exact ⟨fun h=>by injection h with h;rw [h],fun h=>by rw [h]⟩
theorem aTo {ps:List (Str × Str)} {g h:Str × Str→Nat} {r o:List V} (hs:∀p∈ps,Alike (r.getD (g p) .non) (o.getD (h p) .non)):(ps.map fun p=>decide (r.getD (g p) .non=o.getD (h p) .non)).all id=decide (keysOf (ps.map h) o=keysOf (ps.map g) r):=by
 unfold keysOf dU
 rw [List.map_map,List.map_map,List.map_map,List.map_map,Bool.eq_iff_iff,List.all_map,List.all_eq_true,decide_eq_true_eq,List.map_inj_left]
 constructor
 ·intro z p hp
  exact ((aC1 (hs p hp)).mpr (of_decide_eq_true (z p hp))).symm
 ·intro z p hp
  exact decide_eq_true ((aC1 (hs p hp)).mp (z p hp).symm)
def aRg (K:PySem.W.Frag):Sp:=fun vs H Q _=>∃(vh:V) (D:Addr) (vo:V) (C:Addr) (vp:V) (hd ho:Hdr) (rows others:List (List V)) (ps:List (Str × Str)) (ks:List Str),vs=[vh,.ref D,vo,.ref C,vp]∧cZ K H vh hd∧hd.length≤100∧cZ K H vo ho∧ho.length≤100∧(ho.map (·.1)).Nodup∧cG K H D rows∧rows.length≤30∧cG K H C others∧others.length≤30∧(∀r∈rows,KdR (knds hd) r)∧(∀r∈others,KdR (knds ho) r)∧oA K H (jW K H) vp ps∧ps.length≤100∧bM (fun p k=>look hd p.1=some k∧look ho p.2=some k) ps ks∧∀t u L H',H L=none→Same H H'→H' t=some (.tup [u,.ref L])→cG K H' L (kZ hd ho ps rows others)→Q (.ref t) H'
theorem aBa (T:Txt w K mg) (aCm:Ok P w K mg base 1 "_law_at" ["_law_head_here","_law_name"] (qJ K)):Ok P w K mg base 2 "_law_joined" ["_law_head_here","_law_rows","_law_other_head","_law_others","_law_pairs_here"] (aRg K):=by
 refine Ok.ofV T.aBg dM (fun vs H Q E h=>?_) (fun f cdv A outer s H vs Q E hr h=>?_)
 ·obtain ⟨vh,D,vo,C,vp,hd,ho,rows,others,ps,ks,rfl,_⟩:=h;rfl
 obtain ⟨vh,D,vo,C,vp,hd,ho,rows,others,ps,ks,rfl,hI,hl,hJ,hm,hnd,⟨us,hD,hu'⟩,rl,⟨os,hC,ho'⟩,ol,hk,hk2,⟨tp,wp,rfl,htp,hwp⟩,hpl,hlk,q⟩:=h
 have hu:=yQ hr
 refine ⟨_,(aC (aW (i:=5) dM.nd rfl (by trivial) (bN (N:=["_law_c","_law_d"]) (by trivial) (cY (by decide +kernel)) rfl (eG (vv 4)) (fun cl s' H' fp=>⟨(jP (K:=K) (n:=2) rfl (bL (aL (i:=0) (show (["_law_c","_law_d"]:List Str).Nodup from by decide +kernel) rfl (Or.inl rfl)) (bL (aL (i:=1) (show (["_law_c","_law_d"]:List Str).Nodup from by decide +kernel) rfl (Or.inl rfl)) eQ))),bT,(vv 1)⟩))) (aC (lB (i0:=6) dM.nd rfl (by trivial) (N:=["_law_k","_law_gone","_law_other_head"]) (by trivial) (cO (aF dF) rfl (by decide +kernel)) rfl (dW (by rfl) T.gK (aB (aR bC (by rfl) T.eY cP (aB (vv 2) aA)) aA)) (fun cl s' H' fp=>⟨(aL (i:=0) (show (["_law_k","_law_gone","_law_other_head"]:List Str).Nodup from by decide +kernel) rfl (Or.inl rfl)),(aA4 (aY (gG (K:=K)) (aK (bZ (K:=K)) (aK (bZ (K:=K)) (vv 2) (vv 0) (fun _ _=>rfl)) aD (fun _ _=>rfl)) (vv 1) (by with_unfolding_all rfl))),(vv 0)⟩)) (aC (lB (i0:=7) dM.nd rfl (by trivial) (N:=["_law_c","_law_d","_law_head_here","_law_other_head"]) (by trivial) (cO (aF dF) rfl (by decide +kernel)) rfl (eG (vv 4)) (fun cl s' H' fp=>⟨(jP (K:=K) (n:=2) rfl (bL (aL (i:=0) (show (["_law_c","_law_d","_law_head_here","_law_other_head"]:List Str).Nodup from by decide +kernel) rfl (Or.inl rfl)) (bL (aL (i:=1) (show (["_law_c","_law_d","_law_head_here","_law_other_head"]:List Str).Nodup from by decide +kernel) rfl (Or.inl rfl)) eQ))),bT,(bY (aB (aO (aCm.mono (by decide)) hr (by rfl) (aB (vv 2) (aB (vv 0) aA))) (aB (aO (aCm.mono (by decide)) hr (by rfl) (aB (vv 3) (aB (vv 1) aA))) aA)))⟩)) (aC (aW (i:=8) dM.nd rfl (by trivial) (cU aA)) (aC (fQ PassesOwn.never rfl (cV (vv 1)) (aL (i:=9) dM.nd rfl (by trivial)) (aG (fQ PassesOwn.never rfl (cV (vv 3)) (aL (i:=10) dM.nd rfl (by trivial)) (aG (bW (eO (aR (vV rfl) (by rfl) T.aL7 aEv (aB (bN (N:=["_law_one","_law_two","_law_row_here","_law_other"]) (by trivial) (cO (aF dF) rfl (by decide +kernel)) rfl (cV (vv 7)) (fun cl s' H' fp=>⟨(jP (K:=K) (n:=2) rfl (bL (aL (i:=0) (show (["_law_one","_law_two","_law_row_here","_law_other"]:List Str).Nodup from by decide +kernel) rfl (Or.inl rfl)) (bL (aL (i:=1) (show (["_law_one","_law_two","_law_row_here","_law_other"]:List Str).Nodup from by decide +kernel) rfl (Or.inl rfl)) eQ))),bT,(gO dC (aK (bZ (K:=K)) (vv 2) (vv 0) (fun _ _=>rfl)) (aK (bZ (K:=K)) (vv 3) (vv 1) (fun _ _=>rfl)) (bI _))⟩)) aA))) (aG (eF (qH PySem.F.plainAttrs_list PySem.F.slot_list_append PySem.F.type_list_append jE (vv 8) (aB (cD rW (vv 9) (bO cC (by rfl) T.cL cB (aB (bN (N:=["_law_k","_law_other"]) (by trivial) (cO (aF dF) rfl (by decide +kernel)) rfl (cV (vv 6)) (fun cl s' H' fp=>⟨(aL (i:=0) (show (["_law_k","_law_other"]:List Str).Nodup from by decide +kernel) rfl (Or.inl rfl)),bT,(aK (bZ (K:=K)) (vv 1) (vv 0) (fun _ _=>rfl))⟩)) aA))) aA)))) bA))))) (aG (aN (bY (aB (cD rW (vv 0) (bO cC (by rfl) T.cL cB (aB (bN (N:=["_law_k","_law_other_head"]) (by trivial) (cO (aF dF) rfl (by decide +kernel)) rfl (cV (vv 6)) (fun cl s' H' fp=>⟨(aL (i:=0) (show (["_law_k","_law_other_head"]:List Str).Nodup from by decide +kernel) rfl (Or.inl rfl)),bT,(aK (bZ (K:=K)) (vv 1) (vv 0) (fun _ _=>rfl))⟩)) aA))) (aB (vv 8) aA)))))))))),?_⟩
 have lw:=hwp.len
 have lu:=hu'.len
 have lo:=ho'.len
 have hab:bM (fun u (p:V × V)=>∃q,u=.ref q∧SqT K H q [p.1,p.2]) wp (ps.map fun p=>(V.str p.1,V.str p.2)):=wK (hwp.imp fun _ _ ⟨a,ea,ha,_⟩=>⟨a,ea,ha⟩)
 dsimp only [mR,mO]
 refine lV [none,none] lK ⟨_,rfl,tp,rfl,⟨_,htp⟩,aEp hab ⟨none,none,rfl⟩ (by lia) (tU fun H' s'=>s'.aP htp) (mJ fun H' s'=>s'.aP htp) (fun i _ y=>∃p,ps[i]?=some p∧y=.str p.2) (fun _ h=>h) (fun _ h=>h) (fun i p ep H' R s' r=>?_) fun G H1 ys s1 _ g1 l1 hy=>?_⟩
 ·rw [List.getElem?_map] at ep
  obtain ⟨p',e',rfl⟩:=Option.map_eq_some_iff.mp ep
  exact ⟨_,rfl,r _ _ (Same.refl _) ⟨p',e',rfl⟩⟩
 have ey:ys=(ps.map (·.2)).map V.str:=by
  refine List.ext_getElem? fun i=>?_
  rw [List.getElem?_map,List.getElem?_map]
  cases e:ys[i]? with
  |some y=>obtain ⟨p,ep,rfl⟩:=hy i y e;rw [ep];rfl
  |none=>
   have:=List.getElem?_eq_none_iff.mp e
   rw [List.getElem?_eq_none (by lia:ps.length≤i)];rfl
 subst ey
 obtain ⟨po,wo,rfl,hpo,hwo⟩:=id hJ
 have lo':=hwo.len
 have ejs:∀(i:Nat) (c:Str × Str),ho[i]?=some c→decide (c.1∈ps.map (·.2))=decide (i∈ps.map fun p=>plc ho p.2):=fun i c hc=>decide_eq_decide.mpr ⟨fun h=>by
  obtain ⟨p,hp,e⟩:=List.mem_map.mp h
  obtain ⟨j,hj⟩:=List.mem_iff_getElem?.mp hp
  obtain ⟨k,_,_,hk'⟩:=aZ hlk hj
  have h1:=(mH hk').1
  refine List.mem_map.mpr ⟨p,hp,?_⟩
  have a1:(ho.map (·.1))[plc ho p.2]?=some p.2:=by rw [List.getElem?_map,h1];rfl
  have a2:(ho.map (·.1))[i]?=some p.2:=by rw [List.getElem?_map,hc,e];rfl
  exact (List.getElem?_inj (List.getElem?_eq_some_iff.mp a1).1 hnd).mp (a1.trans a2.symm),fun h=>by
  obtain ⟨p,hp,e⟩:=List.mem_map.mp h
  obtain ⟨j,hj⟩:=List.mem_iff_getElem?.mp hp
  obtain ⟨k,_,_,hk'⟩:=aZ hlk hj
  have h1:=(mH hk').1
  rw [e,hc] at h1
  have e2:=Option.some.inj h1
  exact List.mem_map.mpr ⟨p,hp,by rw [e2]⟩⟩
 dsimp only [bQ,mR,mO]
 refine aDb ((List.range ho.length).map fun i:Nat=>V.int (0+(i:Int))) (fun i=>!decide (i∈ps.map fun p=>plc ho p.2)) [none,some (.ref G),some (.ref po)] (pH 5 2 (by decide +kernel) (by decide +kernel) rfl rfl rfl rfl (by trivial) (by trivial)) (small (by rw [List.length_map,List.length_range];lia)) (fun R r=>aFu ho.length (fun R' r'=>⟨_,rfl,po,wo,rfl,.inr (s1.aP hpo),by rw [lo'];exact r'⟩) (aV8 (by lia)) R r) (fun i x ex H' R l sm r=>?_) rfl fun D5 H5 n5 s5 g5=>?_
 ·rw [List.getElem?_map] at ex
  obtain ⟨j,ej,rfl⟩:=Option.map_eq_some_iff.mp ex
  have:j=i:=by
   obtain ⟨h1,h2⟩:=List.getElem?_eq_some_iff.mp ej
   rw [List.getElem_range] at h2
   exact h2.symm
  subst this
  have hj:j<ho.length:=by have:=(List.getElem?_eq_some_iff.mp ej).1;rw [List.length_range] at this;exact this
  obtain ⟨c,hc,hcell⟩:=aZ hwo (List.getElem?_eq_getElem (show j<wo.length by lia))
  obtain ⟨pc,epc,hpc⟩:=hcell
  have at':atI wo (0+(j:Int))=some (.ref pc):=by rw [Int.zero_add,←epc];exact dR (List.getElem?_eq_getElem (show j<wo.length by lia))
  refine ⟨_,rfl,_,rfl,po,wo,_,_,rfl,rfl,(s1.trans sm).aP hpo,at',pc,_,0,_,rfl,rfl,(s1.trans sm).aP hpc,at0 _ _,_,rfl,G,_,rfl,.inl (SqL.of (sm _ _ g1)),rfl,?_,_,rfl,?_⟩
  ·rw [List.all_eq_true]
   intro z hz
   obtain ⟨_,_,rfl⟩:=List.mem_map.mp hz
   rfl
  ·have e:inV (V.str c.1) ((ps.map (·.2)).map V.str)=decide (c.1∈ps.map (·.2)):=aY7 _ _
   rw [e,ejs j c hc]
   exact r H' (Same.refl _)
 rw [aMa] at g5
 have s15:=s1.trans s5
 have hpr:∀(i:Nat) (p:Str × Str),ps[i]?=some p→∃k,look hd p.1=some k∧look ho p.2=some k:=fun i p ep=>by
  obtain ⟨k,_,z⟩:=aZ hlk ep
  exact ⟨k,z⟩
 refine lV [none,none,some vh,some (.ref po)] (aHo 0 2 (by decide +kernel) (by decide +kernel) rfl rfl rfl rfl (by trivial) (by trivial)) ⟨_,rfl,tp,rfl,⟨_,s15.aP htp⟩,aEp (hab.imp fun _ _ ⟨a,ea,ha⟩=>⟨a,ea,s15.aP ha⟩) ⟨none,none,rfl⟩ (by lia) (tU fun H' s'=>(s15.trans s').aP htp) (mJ fun H' s'=>(s15.trans s').aP htp) (fun i H y=>∃p,ps[i]?=some p∧∃t,y=.ref t∧SqT K H t [.int (plc hd p.1:Nat),.int (plc ho p.2:Nat)]) (fun s ⟨p,ep,t,et,ht⟩=>⟨p,ep,t,et,s.aP ht⟩) (fun g ⟨p,ep,t,et,ht⟩=>⟨p,ep,t,et,SqT.kO g ht⟩) (fun i p ep H' R s' r=>?_) fun S H6 ys s6 _ g6 l6 hy6=>?_⟩
 ·rw [List.getElem?_map] at ep
  obtain ⟨p',e',rfl⟩:=Option.map_eq_some_iff.mp ep
  obtain ⟨k,lk1,lk2⟩:=hpr i p' e'
  refine ⟨_,rfl,_,rfl,vh,p'.1,hd,k,rfl,hI.same (s15.trans s'),by lia,lk1,fun H2 s2=>⟨_,rfl,_,rfl,.ref po,p'.2,ho,k,rfl,hJ.same (s15.trans (s'.trans s2)),by lia,lk2,fun H3 s3=>⟨by show 2≤sizeLine;decide,fun t H4 _ s4 g4=>r _ H4 (s2.trans (s3.trans s4)) ⟨p',e',t,rfl,SqT.of g4⟩⟩⟩⟩
 have s16:=s15.trans s6
 have hsp:bM (fun u (p:V × V)=>∃q,u=.ref q∧SqT K H6 q [p.1,p.2]) ys (ps.map fun p=>(V.int (plc hd p.1:Nat),V.int (plc ho p.2:Nat))):=by
  refine wK (lU (l6.trans lw) fun i y p e1 e2=>?_)
  obtain ⟨p',ep',t,et,ht⟩:=hy6 i y e1
  rw [e2] at ep'
  cases ep'
  exact ⟨t,et,ht⟩
 refine ⟨Nat.zero_le _,fun F H7 n7 s7 g7=>?_⟩
 have s17:=s16.trans s7
 generalize eis:(ps.map fun p=>plc hd p.1)=is
 generalize ejs':(ps.map fun p=>plc ho p.2)=js at g5
 generalize eleft:pR js ho.length=left at g5
 have bleft:∀r∈others,∀i∈left,i<r.length:=fun r hr' i hi=>by
  rw [←eleft] at hi
  have hi':=List.mem_range.mp (List.mem_filter.mp hi).1
  obtain ⟨c,hc⟩:∃c,ho[i]?=some c:=⟨_,List.getElem?_eq_getElem hi'⟩
  exact (aAd (hk2 r hr') hc).1
 have lleft:left.length≤100:=by
  rw [←eleft]
  have:=List.length_filter_le (fun i=>!decide (i∈js)) (List.range ho.length)
  rw [List.length_range] at this
  unfold pR
  lia
 refine ⟨_,rfl,D,rfl,⟨us,SqL.of (s17 _ _ hD)⟩,?_⟩
 refine oK (xs:=us) (fun i σ H'=>Same H6 H'∧(∃l l2,σ=[some vh,some (.ref D),some (.ref po),some (.ref C),some (.ref tp),some (.ref G),some (.ref D5),some (.ref S),some (.ref F),l,l2])∧∃ws,H' F=some (.lst ws)∧bM (jA K H') ws (joinR is js left (rows.take i) others)) ⟨s7,⟨_,_,rfl⟩,[],g7,.nil⟩ (fun i σ H' _ p=>SqL.of ((s16.trans p.1) _ _ hD)) (fun i x σ H' ex p=>?_) fun σ H' p=>?_
 ·obtain ⟨sm,⟨l,l2,rfl⟩,ws,gF,hws⟩:=p
  obtain ⟨r,er,hr'⟩:=aZ hu' ex
  have hrm:=List.mem_of_getElem? er
  obtain ⟨px,rfl,hpx⟩:=hr'.same s16
  rw [aA0 er]
  refine ⟨_,rfl,C,rfl,⟨os,SqL.of ((s16.trans sm) _ _ hC)⟩,?_⟩
  refine oK (xs:=os) (fun j σ H''=>Same H6 H''∧(∃l2,σ=[some vh,some (.ref D),some (.ref po),some (.ref C),some (.ref tp),some (.ref G),some (.ref D5),some (.ref S),some (.ref F),some (.ref px),l2])∧∃ws',H'' F=some (.lst ws')∧bM (jA K H'') ws' (joinR is js left (rows.take i) others++(kI js (keysOf is r) (others.take j)).map fun o=>r++dU left o)) ⟨sm,⟨_,rfl⟩,ws,gF,by rw [List.take_zero];show bM _ ws (_++[]);rw [List.append_nil];exact hws⟩ (fun j σ H'' _ p=>SqL.of ((s16.trans p.1) _ _ hC)) (fun j y σ H'' ey p=>?_) fun σ H'' p=>?_
  ·obtain ⟨sj,⟨l2,rfl⟩,ws',gF',hws'⟩:=p
   obtain ⟨o,eo,ho2⟩:=aZ ho' ey
   have hom:=List.mem_of_getElem? eo
   obtain ⟨py,rfl,hpy⟩:=ho2.same s16
   have hsc:∀p∈ps,Alike (r.getD (plc hd p.1) .non) (o.getD (plc ho p.2) .non)∧plc hd p.1<r.length∧plc ho p.2<o.length:=fun p hp=>by
    obtain ⟨j',hj'⟩:=List.mem_iff_getElem?.mp hp
    obtain ⟨k,lk1,lk2⟩:=hpr j' p hj'
    obtain ⟨b1,b2⟩:=aAd (hk r hrm) (mH lk1).1
    obtain ⟨c1,c2⟩:=aAd (hk2 o hom) (mH lk2).1
    exact ⟨aQy b2 c2,b1,c1⟩
   have sHj:=s16.trans sj
   dsimp only [bQ,aL2,tB,tCB,cT]
   refine oV [none,none,some (.ref px),some (.ref py)] (aHo 9 10 (by decide +kernel) (by decide +kernel) rfl rfl rfl rfl (by trivial) (by trivial)) ⟨_,rfl,S,rfl,⟨_,SqL.of (sj _ _ g6)⟩,aEp (hsp.imp fun _ _ ⟨a,ea,ha⟩=>⟨a,ea,sj.aP ha⟩) ⟨none,none,rfl⟩ (by lia) (aL4 fun H' s'=>SqL.of ((sj.trans s') _ _ g6)) (aAt fun H' s'=>SqL.of ((sj.trans s') _ _ g6)) (fun i _ y=>∃p,ps[i]?=some p∧y=.bl (decide (r.getD (plc hd p.1) .non=o.getD (plc ho p.2) .non))) (fun _ h=>h) (fun _ h=>h) (fun i p ep H' R s' rr=>?_) fun B H8 ys8 s8 _ g8 l8 hy8=>?_⟩
   ·rw [List.getElem?_map] at ep
    obtain ⟨p',e',rfl⟩:=Option.map_eq_some_iff.mp ep
    obtain ⟨al,b1,c1⟩:=hsc p' (List.mem_of_getElem? e')
    have at1':atI r ((plc hd p'.1:Nat):Int)=some (r.getD (plc hd p'.1) .non):=by
     have e1:r.getD (plc hd p'.1) .non=r[plc hd p'.1]:=by simp [b1]
     rw [e1];exact dR (List.getElem?_eq_getElem b1)
    have at2':atI o ((plc ho p'.2:Nat):Int)=some (o.getD (plc ho p'.2) .non):=by
     have e1:o.getD (plc ho p'.2) .non=o[plc ho p'.2]:=by simp [c1]
     rw [e1];exact dR (List.getElem?_eq_getElem c1)
    exact ⟨_,rfl,_,rfl,px,r,_,_,rfl,rfl,(sj.trans s').aP hpx,at1',_,rfl,_,rfl,py,o,_,_,rfl,rfl,(sj.trans s').aP hpy,at2',al.scal,rr _ _ (Same.refl _) ⟨p',e',rfl⟩⟩
   have e8:ys8=(ps.map fun p=>decide (r.getD (plc hd p.1) .non=o.getD (plc ho p.2) .non)).map V.bl:=by
    have lys:=hsp.len
    rw [List.length_map] at lys
    refine List.ext_getElem? fun i=>?_
    rw [List.getElem?_map,List.getElem?_map]
    cases e:ys8[i]? with
    |some y=>obtain ⟨p,ep,rfl⟩:=hy8 i y e;rw [ep];rfl
    |none=>
     have:=List.getElem?_eq_none_iff.mp e
     rw [List.getElem?_eq_none (by lia:ps.length≤i)];rfl
   subst e8
   refine ⟨B,_,rfl,SqL.of g8,_,rfl,?_⟩
   have keq:(ps.map fun p=>decide (r.getD (plc hd p.1) .non=o.getD (plc ho p.2) .non)).all id=decide (keysOf js o=keysOf is r):=by
    rw [←ejs',←eis]
    exact aTo fun p hp=>(hsc p hp).1
   rw [keq]
   have gF8:=s8 _ _ gF'
   have hws8:=hws'.imp fun _ _ z=>z.same s8
   by_cases hK:keysOf js o=keysOf is r
   ·rw [decide_eq_true hK]
    refine eX ?_
    have e10:kI js (keysOf is r) (others.take (j+1))=kI js (keysOf is r) (others.take j)++[o]:=by
     unfold kI
     rw [qG eo,List.filter_append]
     congr 1
     simp [hK]
    rw [e10,List.map_append,←List.append_assoc]
    have lws:=hws'.len
    have ljn:=rY is js left (rows.take i) others
    have lof:(kI js (keysOf is r) (others.take j)).length≤others.length:=Nat.le_trans (List.length_filter_le _ _) (by rw [List.length_take];lia)
    rw [List.length_append,List.length_map] at lws
    rw [List.length_take] at ljn
    have l9:min i rows.length * others.length≤30 * 30:=Nat.mul_le_mul (by lia) ol
    have lr:r.length≤100:=by rw [←kdl (hk r hrm)];unfold knds;rw [List.length_map];exact hl
    have lp:(dU left o).length=left.length:=by unfold dU;rw [List.length_map]
    have s68:=sj.trans s8
    refine ⟨_,rfl,.inl ⟨rfl,_,SqL.of gF8⟩,_,rfl,?_⟩
    dsimp only [tCB,cT]
    refine dZ (left.map fun i=>V.int (i:Nat)) (dU left o) (by rw [lp,List.length_map]) [none,some (.ref py)] (dO 10 (by decide +kernel) rfl rfl (by trivial)) (small (by rw [List.length_map];lia)) (fun R r=>lJ (fun H' sm=>SqL.of ((s6.trans (s68.trans sm)) _ _ g5)) (fun R' r'=>⟨_,rfl,r'⟩) R r) (fun i x y ex ey H' R l sm rr=>?_) rfl fun D2 H9 s9 g9=>⟨D2,_,rfl,SqL.of g9,fun t H10 _ s10 g10=>?_⟩
    ·unfold dU at ey
     rw [List.getElem?_map] at ex ey
     obtain ⟨n,en,rfl⟩:=Option.map_eq_some_iff.mp ex
     rw [en] at ey
     cases ey
     have hn:=bleft o hom n (List.mem_of_getElem? en)
     refine ⟨_,rfl,_,rfl,py,o,_,_,rfl,rfl,(s68.trans sm).aP hpy,?_,rr H' (Same.refl _)⟩
     have e:o.getD n .non=o[n]:=by simp [hn]
     show atI o ((n:Nat):Int)=some (o.getD n .non)
     rw [e]
     exact dR (List.getElem?_eq_getElem hn)
    ·have s910:=s9.trans s10
     refine ⟨px,t,r,dU left o,rfl,rfl,(s68.trans s910).aP hpx,SqT.of g10,small (by lia),fun tn H11 s11 g11=>?_⟩
     have gF11:=(s910.trans s11) _ _ gF8
     refine ⟨F,ws',.ref tn,rfl,rfl,gF11,Nat.lt_of_le_of_lt (show ws'.length≤1000 by lia) (by decide),cN n7 (s68.trans (s910.trans s11)),⟨_,rfl⟩,ws'++[.ref tn],aH,?_⟩
     exact oR (hws8.imp fun _ _ ⟨p,ep,hp⟩=>⟨p,ep,SqT.kO gF11 ((s910.trans s11).aP hp)⟩) (.cons ⟨tn,rfl,SqT.kO gF11 g11⟩ .nil)
   ·rw [decide_eq_false hK]
    refine bK ?_
    have e10:kI js (keysOf is r) (others.take (j+1))=kI js (keysOf is r) (others.take j):=by
     unfold kI
     rw [qG eo,List.filter_append]
     have:[o].filter (fun o=>decide (keysOf js o=keysOf is r))=[]:=by simp [hK]
     rw [this,List.append_nil]
    rw [e10]
    exact ⟨sj.trans s8,⟨_,rfl⟩,ws',gF8,hws8⟩
  ·obtain ⟨sj,⟨l2,rfl⟩,ws',gF',hws'⟩:=p
   have e9:others.take os.length=others:=List.take_of_length_le (by lia)
   rw [e9] at hws'
   exact ⟨sj,⟨_,_,rfl⟩,ws',gF',hws'⟩
 ·obtain ⟨sm,⟨l,l2,rfl⟩,ws,gF,hws⟩:=p
  have e9:rows.take us.length=rows:=List.take_of_length_le (by lia)
  rw [e9] at hws
  obtain ⟨ph,wh,rfl,hph,hwh⟩:=id hI
  have lh:=hwh.len
  have sH:=s16.trans sm
  have bl:∀i∈left,i<wo.length:=fun i hi=>by
   rw [←eleft] at hi
   have hi':=List.mem_range.mp (List.mem_filter.mp hi).1
   lia
  refine ⟨_,rfl,?_⟩
  dsimp only [tCB,cT]
  refine dZ (left.map fun i=>V.int (i:Nat)) (dU left wo) (by unfold dU;rw [List.length_map,List.length_map]) [none,some (.ref po)] (dO 2 (by decide +kernel) rfl rfl (by trivial)) (small (by rw [List.length_map];lia)) (fun R r=>lJ (fun H' sm'=>SqL.of ((s6.trans (sm.trans sm')) _ _ g5)) (fun R' r'=>⟨_,rfl,r'⟩) R r) (fun i x y ex ey H2 R l sm' rr=>?_) rfl fun D2 H9 s9 g9=>⟨D2,_,rfl,SqL.of g9,fun t H10 _ s10 g10=>?_⟩
  ·unfold dU at ey
   rw [List.getElem?_map] at ex ey
   obtain ⟨n,en,rfl⟩:=Option.map_eq_some_iff.mp ex
   rw [en] at ey
   cases ey
   have hn:=bl n (List.mem_of_getElem? en)
   refine ⟨_,rfl,_,rfl,po,wo,_,_,rfl,rfl,(sH.trans sm').aP hpo,?_,rr H2 (Same.refl _)⟩
   have e:wo.getD n .non=wo[n]:=by simp [hn]
   show atI wo ((n:Nat):Int)=some (wo.getD n .non)
   rw [e]
   exact dR (List.getElem?_eq_getElem hn)
  ·have s910:=s9.trans s10
   have lp:(dU left wo).length=left.length:=by unfold dU;rw [List.length_map]
   refine ⟨ph,t,wh,dU left wo,rfl,rfl,(sH.trans s910).aP hph,SqT.of g10,small (by lia),fun tn H11 s11 g11=>⟨_,rfl,by show 2≤sizeLine;decide,fun tt H12 _ s12 g12=>?_⟩⟩
   have sF:=s910.trans (s11.trans s12)
   exact q tt (.ref tn) F H12 (none_of s16 n7) (sH.trans sF) g12 ⟨ws,sF _ _ gF,by unfold kZ;rw [eis,ejs',eleft];exact hws.imp fun _ _ z=>z.same sF⟩
def aP6 (wi:TI) (g:TG) (tt:TT) (te:TE):TE:=fun σ H Q=>wi σ H fun J H1=>yW J H1 [none] g tt te Q
theorem aQe {X:Cx} {pos:Pos} {elt target iter:Expr} {ifs:List Expr} {scope:Scope} {x:Str} {wi:TI} {g:TG} {tt:TT} {te:TE}
  (C:xK scope [x]) (hfr:∀z,(z,NameKind.free)∈scope.names→X.env.kindOf z=some .cell∨X.env.kindOf z=some .free) (hc:X.calm=true)
  (hi:VI X target iter wi)
  (hb:∀cl s H fp,VG (cxC X [x] scope cl s H fp) target g∧VF (cxC X [x] scope cl s H fp) ifs tt∧VE (cxC X [x] scope cl s H fp) elt te)
  (hs:∀x,foldedSetIterable iter X.env x=pure x:=by intro _;rfl) :
  VE X (.ListComp elt [⟨target,iter,ifs,0⟩] scope pos) (aP6 wi g tt te):=VE.imp (bN C hfr hc hi hb hs) fun σ H Q h=>⟨[none],fH,h⟩
theorem aQ9 {K:PySem.W.Frag} {tl te:TE} {σ:L2.St} {H:Hp} {Q:VK} {a:Addr} (xs ys:List V) (hly:ys.length=xs.length) (hsz:xs.length≤sizeLine) (ha:H a=some (.lst xs)) (hl:∀R:VK,R (.ref a) H→tl σ H R)
  (he:∀(i:Nat) (x y:V),xs[i]?=some x→ys[i]?=some y→∀H' R,Same H H'→(∀H2,Same H' H2→R y H2)→te [some x] H' R)
  (q:∀D H',Same H H'→H' D=some (.lst ys)→Q (.ref D) H'):aP6 (sY K tl) (bQ 0) mL te σ H Q:=by
 refine hl _ ⟨a,rfl,⟨xs,SqL.of ha⟩,?_⟩
 refine yP Same (sI H) xs (fun _=>true) (fun i _ y=>ys[i]?=some y) (fun _ _ h=>h) (fun _ _ _ h=>h) (fun i σ=>∃x,xs[i]?=some x∧σ=[some x]) (fun σ=>∃l,σ=[l]) ⟨none,rfl⟩ hsz _ (aL4 fun H' s'=>SqL.of (s' _ _ ha)) (aAt fun H' s'=>SqL.of (s' _ _ ha)) (fun i x σ' H' Q' ex ps s' r=>?_) (fun i x σ2 ex hA H' R s' r=>r _ (Same.refl _)) (fun i x σ2 ex hA _ H' R s' r=>?_) fun D H' zs sm hD hz al=>?_
 ·obtain ⟨l,rfl⟩:=ps
  exact r [some x] ⟨some x,rfl⟩ ⟨x,ex,rfl⟩
 ·obtain ⟨x',ex',rfl⟩:=hA
  rw [ex] at ex'
  cases ex'
  have hi:i<ys.length:=by rw [hly];exact (List.getElem?_eq_some_iff.mp ex).1
  exact he i x ys[i] ex (List.getElem?_eq_getElem hi) H' R s' fun H2 s2=>r _ H2 s2 (List.getElem?_eq_getElem hi)
 ·rw [mK] at al
  obtain ⟨l1,l2⟩:=jM al
  have e:zs=ys:=List.ext_getElem? fun i=>by
   cases ez:zs[i]? with
   |some z=>exact (l2 i z ez).symm
   |none=>
    have:=List.getElem?_eq_none_iff.mp ez
    exact (List.getElem?_eq_none (by lia)).symm
  rw [e] at hz
  exact q D H' sm hz
def aKf (hd ho:Hdr) (ps:List (Str × Str)):Prop:=(∀p∈ps,∃kd,(p.1,kd)∈hd∧(p.2,kd)∈ho)∧(ps.map (·.1)).Nodup∧(ps.map (·.2)).Nodup
theorem aA8 {p:Nat→Bool}:∀(m k:Nat),sel p k (List.range' k m)=(List.range' k m).filter p
 |0,_=>rfl
 |m+1,k=>by
  rw [List.range'_succ,List.filter_cons]
  show (if p k then k::sel p (k+1) _ else sel p (k+1) _)=_
  rw [aA8 m (k+1)]
theorem aR7 {X:Cx} {scope:Scope} {x x2 y z y3:Str} {σ:L2.St} {u v u3:V} (i j k:Nat) (hf:(y,NameKind.free)∈scope.names) (hg:(z,NameKind.free)∈scope.names) (hf3:(y3,NameKind.free)∈scope.names) (hi:X.N[i]?=some y) (hj:X.N[j]?=some z) (hk:X.N[k]?=some y3) (hs:σ[i]?=some (some u)) (ht:σ[j]?=some (some v)) (hs3:σ[k]?=some (some u3)) (hv:Vis X.env.scope y) (hw:Vis X.env.scope z) (hv3:Vis X.env.scope y3):Cap X scope [x,x2,y,z,y3] σ [none,none,some u,some v,some u3]:=
 ⟨rfl,fun n q r h1 h2=>by
  match n,h1,h2 with
  |0,_,h2=>cases h2
  |1,_,h2=>cases h2
  |2,h1,h2=>cases h1;cases h2;exact ⟨hf,i,hi,hs,hv⟩
  |3,h1,h2=>cases h1;cases h2;exact ⟨hg,j,hj,ht,hw⟩
  |4,h1,h2=>cases h1;cases h2;exact ⟨hf3,k,hk,hs3,hv3⟩
  |n+5,h1,_=>cases h1⟩
theorem aO5 {R:Nat→V→Prop} {is:List Nat} {ys:List V} (h:nY R is ys):bM (fun y i=>R i y) ys is:=by
 induction h with
 |nil=>exact .nil
 |cons r _ ih=>exact .cons r ih
theorem aT5 {p:Nat→Bool} {n i:Nat} (h:i∈sel p 0 (List.range n)):i<n∧p i=true:=by
 have e:=aA8 (p:=p) n 0
 rw [←List.range_eq_range'] at e
 rw [e] at h
 obtain ⟨h1,h2⟩:=List.mem_filter.mp h
 exact ⟨List.mem_range.mp h1,h2⟩
def Cand (hd ho:Hdr) (ps:List (Str × Str)) (q:Str × Str):Prop:=(∃kd,(q.1,kd)∈hd∧(q.2,kd)∈ho)∧q.1∉ps.map (·.1)∧q.2∉ps.map (·.2)
theorem aKf.add {hd ho:Hdr} {ps:List (Str × Str)} {q:Str × Str} (h:aKf hd ho ps) (c:Cand hd ho ps q):aKf hd ho (ps++[q]):=by
 obtain ⟨h1,h2,h3⟩:=h
 obtain ⟨c1,c2,c3⟩:=c
 refine ⟨fun p hp=>?_,?_,?_⟩
 ·rcases List.mem_append.mp hp with hp|hp
  ·exact h1 p hp
  ·cases List.mem_singleton.mp hp;exact c1
 ·rw [List.map_append]
  exact List.nodup_append.mpr ⟨h2,by simp,fun a ha b hb e=>by
   have:b=q.1:=by simpa using hb
   exact c2 (this ▸ e ▸ ha)⟩
 ·rw [List.map_append]
  exact List.nodup_append.mpr ⟨h3,by simp,fun a ha b hb e=>by
   have:b=q.2:=by simpa using hb
   exact c3 (this ▸ e ▸ ha)⟩
def pB (ho:Hdr) (kd:Str) (ps:List (Str × Str)) (i:Nat):Bool:=match ho[i]? with
 |some cc=>decide (cc.2=kd) && !decide (cc.1∈ps.map (·.2))
 |none=>false
theorem aCs {c:Bool} {p q:Prop} (h:c=true) (hp:p):if c=true then p else q:=by rw [if_pos h];exact hp
def aIz (K:PySem.W.Frag):Sp:=fun vs H Q _=>∃(a:Addr) (vh vo:V) (hd ho:Hdr),vs=[.ref a,vh,vo]∧mQ H a∧cZ K H vh hd∧hd.length≤8∧cZ K H vo ho∧ho.length≤8∧(∀c∈hd,Nm c.1)∧(∀c∈ho,Nm c.1)∧∀t ps H',Fx a H H'→mQ H' a→oA K H' (jW K H') (.ref t) ps→ps.length≤3→aKf hd ho ps→Q (.ref t) H'
theorem aBd (T:Txt w K mg) (bD:Ok P w K mg base 1 "_law_next" ["_law_state","_law_many"] mZ):Ok P w K mg base 2 "_law_pairs" ["_law_state","_law_head_here","_law_other"] (aIz K):=by
 refine Ok.ofV T.aE1 fC (fun vs H Q E h=>?_) (fun f cdv A outer s H vs Q E hr h=>?_)
 ·obtain ⟨a,vh,vo,hd,ho,rfl,_⟩:=h;rfl
 obtain ⟨a,vh,vo,hd,ho,rfl,hst,hI,hl,hJ,hm,hn1,hn2,q⟩:=h
 have hu:=yQ hr
 refine ⟨_,(aC (aW (i:=3) fC.nd rfl (by trivial) (cU aA)) (aC (fQ PassesOwn.never rfl (dW (by rfl) T.gK (aB (cD iY aD (aO (bD.mono (by decide)) hr (by rfl) (aB (vv 0) (aB aD aA)))) aA)) (aL (i:=4) fC.nd rfl (by trivial)) (aC (aW (i:=5) fC.nd rfl (by trivial) (cU aA)) (aC (fQ PassesOwn.never rfl (eG (vv 1)) (tW rfl (bL (aL (i:=6) fC.nd rfl (by trivial)) (bL (aL (i:=7) fC.nd rfl (by trivial)) eQ))) (aG (bW (aY pZ (vv 6) (bN (N:=["_law_pair"]) (by trivial) (cY (by decide +kernel)) rfl (cV (vv 3)) (fun cl s' H' fp=>⟨(aL (i:=0) (show (["_law_pair"]:List Str).Nodup from by decide +kernel) rfl (Or.inl rfl)),bT,(aK (bZ (K:=K)) (vv 0) aD (fun _ _=>rfl))⟩)) (by with_unfolding_all rfl)) (aG (eF (qH PySem.F.plainAttrs_list PySem.F.slot_list_extend PySem.F.type_list_extend aA9 (vv 5) (aB (bN (N:=["_law_d","_law_sort","_law_c","_law_kind","_law_pairs_here"]) (by trivial) (cO (aF lC) rfl (by decide +kernel)) rfl (eG (vv 2)) (fun cl s' H' fp=>⟨(jP (K:=K) (n:=2) rfl (bL (aL (i:=0) (show (["_law_d","_law_sort","_law_c","_law_kind","_law_pairs_here"]:List Str).Nodup from by decide +kernel) rfl (Or.inl rfl)) (bL (aL (i:=1) (show (["_law_d","_law_sort","_law_c","_law_kind","_law_pairs_here"]:List Str).Nodup from by decide +kernel) rfl (Or.inl rfl)) eQ))),(aA4 (VW.pt (aJx (aY dC (vv 1) (vv 3) (bI _)) (aEw (aY (gG (K:=K)) (vv 0) (aQe (by trivial) (cY (by decide +kernel)) rfl (aQ4 (K:=K) (vv 4)) (fun cl s' H' fp=>⟨(aL (i:=0) (show (["_law_pair"]:List Str).Nodup from by decide +kernel) rfl (Or.inl rfl)),bT,(aK (bZ (K:=K)) (vv 0) aD (fun _ _=>rfl))⟩)) (by with_unfolding_all rfl)))))),(bY (aB (vv 2) (aB (vv 0) aA)))⟩)) aA)))) bA))) (aG (bW (aY (aWn (Nat.lt_of_succ_lt hu)) (vv 5) (cU aA) (bI _)) (aG (eF (qH PySem.F.plainAttrs_list PySem.F.slot_list_append PySem.F.type_list_append jE (vv 3) (aB (aK aX (vv 5) (aO (bD.mono (by decide)) hr (by rfl) (aB (vv 0) (aB (aR bC (by rfl) T.eY cP (aB (vv 5) aA)) aA))) (fun _ _=>rfl)) aA)))) bA))))) (aG (aN (bO cC (by rfl) T.cL cB (aB (vv 3) aA)))))),?_⟩
 obtain ⟨bh,wh,rfl,hbh,hwh⟩:=id hI
 obtain ⟨bo,wo,rfl,hbo,hwo⟩:=id hJ
 have lwh:=hwh.len
 have lwo:=hwo.len
 refine ⟨(by show 0≤sizeLine;decide),fun P0 H1 n1 s1 g1=>?_⟩
 have f1:=Fx.of hst s1
 have nPa:P0≠a:=hst.ne n1
 refine ⟨_,rfl,a,3,rfl,f1.st,by decide,fun m H2 f2 m0 m1=>?_⟩
 have f12:=f1.trans f2
 refine ⟨_,_,rfl,rfl,_,rfl,(by show -(2 ^ 62)≤1+m;lia),(by show 1+m<2 ^ 62;lia),?_⟩
 refine jG (n:=(1+m).toNat) (fun i σ H'=>Fx a H H'∧∃(ws:List V) (ps:List (Str × Str)) (l4 l5 l6 l7:Option V),H' P0=some (.lst ws)∧ps.length≤i∧bM (jW K H') ws ps∧aKf hd ho ps∧σ=[some (.ref a),some (.ref bh),some (.ref bo),some (.ref P0),l4,l5,l6,l7]) ⟨f12,[],[],_,_,_,_,f2.same _ _ nPa g1,Nat.zero_le _,.nil,⟨(fun p h=>by cases h),List.nodup_nil,List.nodup_nil⟩,rfl⟩ ?_ ?_
 ·rintro i σ H' hi ⟨fx,ws,ps,l4,l5,l6,l7,gP,lps,hw,hok,rfl⟩
  have lw:=hw.len
  have hp3:ps.length≤3:=by lia
  refine ⟨(by show 0≤sizeLine;decide),fun M H3 nM s3 gM=>?_⟩
  have nMP:M≠P0:=(bB gP nM).symm
  have t3:∀{b:Addr} {xs:List V},SqT K H b xs→SqT K H3 b xs:=fun z=>s3.aP (fx.aP hst z)
  refine ⟨_,rfl,bh,rfl,⟨wh,t3 hbh⟩,?_⟩
  refine aMd (xs:=wh) (fun j σ H''=>Same H' H''∧(∃l6 l7,σ=[some (.ref a),some (.ref bh),some (.ref bo),some (.ref P0),some (.int (0+(i:Int))),some (.ref M),l6,l7])∧∃(zs:List V) (qs:List (Str × Str)),H'' M=some (.lst zs)∧zs.length≤j * 8∧bM (jW K H'') zs qs∧∀q∈qs,Cand hd ho ps q) ⟨s3,⟨_,_,rfl⟩,[],[],gM,Nat.zero_le _,.nil,fun q h=>by cases h⟩ (fun j σ H'' _ p=>p.1.aP (fx.aP hst hbh)) (fun j x σ H'' ex p=>?_) fun σ H'' p=>?_
  ·obtain ⟨sj,⟨l6,l7,rfl⟩,zs,qs,gM',lz,hz,hc⟩:=p
   obtain ⟨c,ec,pc,rfl,hpc⟩:=aZ hwh ex
   have tj:∀{b:Addr} {xs:List V},SqT K H b xs→SqT K H'' b xs:=fun z=>sj.aP (fx.aP hst z)
   refine ⟨pc,_,rfl,tj hpc,rfl,?_⟩
   have gPj:=sj _ _ gP
   have hwj:=hw.imp fun _ _ z=>z.tk fun _ _ z=>sj.aP z
   dsimp only [oE,bQ,aIh,aL2,aJm,tOp]
   refine ⟨_,_,rfl,_,_,rfl,rfl,_,rfl,?_⟩
   refine dZ ws ((ps.map (·.1)).map V.str) (by rw [List.length_map,List.length_map];exact lw.symm) [none] fH (small (by lia)) (fun R r=>lJ (fun H' sm=>SqL.of (sm _ _ gPj)) (fun R' r'=>⟨_,rfl,r'⟩) R r) (fun i x y ex ey H' R l sm r=>?_) rfl fun D4 H4 s4 g4=>?_
   ·obtain ⟨p,ep,a,rfl,ha,_⟩:=aZ hwj ex
    rw [List.getElem?_map,List.getElem?_map,ep] at ey
    cases ey
    exact ⟨_,rfl,a,_,0,_,rfl,rfl,sm.aP ha,at0 _ _,r H' (Same.refl _)⟩
   refine ⟨D4,_,rfl,.inl (SqL.of g4),rfl,?_,_,rfl,?_⟩
   ·rw [List.all_eq_true]
    intro z hz
    obtain ⟨_,_,rfl⟩:=List.mem_map.mp hz
    rfl
   rw [if_pos rfl,wD]
   have gM4:=s4 _ _ gM'
   have hz4:=hz.imp fun _ _ z=>z.tk fun _ _ z=>s4.aP z
   have t4:∀{b:Addr} {xs:List V},SqT K H b xs→SqT K H4 b xs:=fun z=>s4.aP (tj z)
   by_cases hin:c.1∈ps.map (·.1)
   ·rw [decide_eq_true hin]
    exact qF rfl ⟨sj.trans s4,⟨_,_,rfl⟩,zs,qs,gM4,by lia,hz4,hc⟩
   ·rw [decide_eq_false hin]
    refine aCs rfl ?_
    refine ⟨_,rfl,.inl ⟨rfl,_,SqL.of gM4⟩,?_⟩
    dsimp only [cT]
    have gP4:=s4 _ _ gPj
    have hw4:=hwj.imp fun _ _ z=>z.tk fun _ _ z=>s4.aP z
    refine lV [none,none,some (.str c.1),some (.str c.2),some (.ref P0)] (aR7 6 7 3 (by decide +kernel) (by decide +kernel) (by decide +kernel) rfl rfl rfl rfl rfl rfl (by trivial) (by trivial) (by trivial)) ⟨_,rfl,bo,rfl,⟨_,t4 hbo⟩,yP Same (sI H4) wo (pB ho c.2 ps) (fun i H y=>∃cc,ho[i]?=some cc∧∃t,y=.ref t∧SqT K H t [.str c.1,.str cc.1]) (fun _ s ⟨cc,e,t,et,ht⟩=>⟨cc,e,t,et,s.aP ht⟩) (fun _ _ g ⟨cc,e,t,et,ht⟩=>⟨cc,e,t,et,SqT.kO g ht⟩) (fun i σ=>∃cc,ho[i]?=some cc∧At2 [none,none,some (.str c.1),some (.str c.2),some (.ref P0)] (.str cc.1) (.str cc.2) σ) (Ps2 [none,none,some (.str c.1),some (.str c.2),some (.ref P0)]) ⟨none,none,rfl⟩ (small (by lia)) _ (tU fun H' s'=>s'.aP (t4 hbo)) (mJ fun H' s'=>s'.aP (t4 hbo)) (fun i x σ' H' Q' ex hps s' qq=>?_) (fun i x σ2 ex hA H' R s' r=>?_) (fun i x σ2 ex hA _ H' R s' r=>?_) fun D6 H6 ys s6 _ g6 al=>?_⟩
    ·obtain ⟨cc,hcc,pc',rfl,hpc'⟩:=aZ hwo ex
     exact hg2 (s'.aP (t4 hpc')) hps fun σ2 h1 h2=>qq σ2 h1 ⟨cc,hcc,h2⟩
    ·obtain ⟨cc,hcc,rfl⟩:=hA
     have epb:pB ho c.2 ps i=(decide (cc.2=c.2) && !decide (cc.1∈ps.map (·.2))):=by unfold pB;rw [hcc]
     rw [epb] at r
     refine ⟨_,rfl,_,rfl,rfl,_,rfl,?_⟩
     by_cases hk:cc.2=c.2
     ·rw [decide_eq_true (show V.str cc.2=V.str c.2 by rw [hk])]
      rw [decide_eq_true hk,Bool.true_and] at r
      refine aCs rfl ?_
      refine ⟨_,rfl,aQ9 ws ((ps.map (·.2)).map V.str) (by rw [List.length_map,List.length_map];exact lw.symm) (small (by lia)) (s' _ _ gP4) (fun R' r'=>⟨_,rfl,r'⟩) (fun i x y ex ey H' R sm r=>?_) fun D5 H5 s5 g5=>⟨D5,_,rfl,.inl (SqL.of g5),rfl,?_,_,rfl,?_⟩⟩
      ·obtain ⟨p,ep,a,rfl,ha,_⟩:=aZ hw4 ex
       rw [List.getElem?_map,List.getElem?_map,ep] at ey
       cases ey
       exact ⟨_,rfl,a,_,1,_,rfl,rfl,(s'.trans sm).aP ha,at1 _ _ _,r H' (Same.refl _)⟩
      ·rw [List.all_eq_true]
       intro z hz
       obtain ⟨_,_,rfl⟩:=List.mem_map.mp hz
       rfl
      ·rw [if_pos rfl,wD]
       exact r H5 s5
     ·have:V.str cc.2≠V.str c.2:=fun z=>hk (by injection z)
      rw [decide_eq_false this]
      rw [decide_eq_false hk,Bool.false_and] at r
      exact qF rfl (r H' (Same.refl _))
    ·obtain ⟨cc,hcc,rfl⟩:=hA
     exact ⟨_,rfl,_,rfl,by show 2≤sizeLine;decide,fun t H5 _ s5 g5=>r _ H5 s5 ⟨cc,hcc,t,rfl,SqT.of g5⟩⟩
    have hal:=aO5 al
    have lsel:(sel (pB ho c.2 ps) 0 (List.range wo.length)).length≤wo.length:=by
     rw [List.range_eq_range',aA8]
     exact Nat.le_trans (List.length_filter_le _ _) (by rw [List.length_range'];exact Nat.le_refl _)
    have lys:=hal.len
    have gM6:=s6 _ _ gM4
    have hjl:j<wh.length:=(List.getElem?_eq_some_iff.mp ex).1
    refine ⟨M,D6,zs,ys,rfl,rfl,gM6,g6,small (by lia),cN nM (sj.trans (s4.trans s6)),⟨_,_,rfl⟩,zs++ys,qs++(sel (pB ho c.2 ps) 0 (List.range wo.length)).map fun i=>(c.1,((ho[i]?).getD c).1),aH,by rw [List.length_append];lia,?_,fun q hq=>?_⟩
    ·refine oR (hz4.imp fun _ _ z=>z.tk fun _ _ z=>SqT.kO gM6 (s6.aP z)) (wK (hal.imp fun y i ⟨cc,hcc,t,et,ht⟩=>?_))
     rw [hcc]
     exact ⟨t,et,SqT.kO gM6 ht,hn1 c (List.mem_of_getElem? ec),hn2 cc (List.mem_of_getElem? hcc)⟩
    ·rcases List.mem_append.mp hq with hq|hq
     ·exact hc q hq
     ·obtain ⟨i',hi',rfl⟩:=List.mem_map.mp hq
      obtain ⟨b1,b2⟩:=aT5 hi'
      unfold pB at b2
      cases hcc:ho[i']? with
      |none=>rw [hcc] at b2;cases b2
      |some cc=>
       rw [hcc] at b2
       rw [Bool.and_eq_true,decide_eq_true_eq] at b2
       obtain ⟨b3,b4⟩:=b2
       refine ⟨⟨c.2,List.mem_of_getElem? ec,?_⟩,hin,?_⟩
       ·rw [←b3];exact List.mem_of_getElem? hcc
       ·intro z
        rw [decide_eq_true (show cc.1∈ps.map (·.2) from z)] at b4
        cases b4
  ·obtain ⟨sj,⟨l6,l7,rfl⟩,zs,qs,gM',lz,hz,hc⟩:=p
   refine ⟨_,rfl,(by show 0≤sizeLine;decide),fun E1 H4 n4 s4 g4=>⟨M,E1,zs,rfl,rfl,SqL.of (s4 _ _ gM'),SqL.of g4,_,rfl,?_⟩⟩
   have s34:=sj.trans s4
   have f4:=fx.sm s34
   have gP4:=s34 _ _ gP
   have gM4:=s4 _ _ gM'
   have hw4:=hw.imp fun _ _ z=>z.tk fun _ _ z=>s34.aP z
   have hz4:=hz.imp fun _ _ z=>z.tk fun _ _ z=>s4.aP z
   by_cases ez:zs=[]
   ·subst ez
    exact qF rfl ⟨f4,ws,ps,_,_,_,_,gP4,by lia,hw4,hok,rfl⟩
   ·have hzl:0<zs.length:=List.length_pos_iff.mpr ez
    refine aCs (by cases zs with|nil=>exact absurd rfl ez|cons _ _=>rfl) ?_
    have nMa:M≠a:=fx.st.ne nM
    refine ⟨_,rfl,.inl ⟨rfl,_,SqL.of gP4⟩,_,rfl,_,rfl,_,rfl,M,zs,rfl,.inl (SqL.of gM4),a,(zs.length:Int),rfl,f4.st,⟨by lia,by lia⟩,fun z H5 f5 z0 z1=>?_⟩
    have hzi:z.toNat<zs.length:=by lia
    obtain ⟨q',eq',hq'⟩:=aZ hz4 (List.getElem?_eq_getElem hzi)
    have gP5:=f5.same _ _ nPa gP4
    have t5:∀(b:Addr) (xs:List V),SqT K H4 b xs→SqT K (L2.upd H5 P0 (.lst (ws++[zs[z.toNat]]))) b xs:=fun b xs zz=>SqT.kO gP5 (f5.aP f4.st zz)
    refine ⟨M,zs,z,zs[z.toNat],rfl,rfl,SqL.of (f5.same _ _ nMa gM4),?_,P0,ws,zs[z.toNat],rfl,rfl,gP5,Nat.lt_of_le_of_lt (show ws.length≤1000 by lia) (by decide),(f4.trans f5).upd n1 nPa,ws++[zs[z.toNat]],ps++[q'],_,_,_,_,aH,?_,?_,hok.add (hc q' (List.mem_of_getElem? eq')),rfl⟩
    ·have ezz:z=((z.toNat:Nat):Int):=by lia
     have e5:atI zs ((z.toNat:Nat):Int)=some zs[z.toNat]:=dR (List.getElem?_eq_getElem hzi)
     rwa [←ezz] at e5
    ·rw [List.length_append,List.length_singleton];lia
    ·exact oR (hw4.imp fun _ _ zz=>zz.tk t5) (.cons (hq'.tk t5) .nil)
 ·rintro σ H' ⟨fx,ws,ps,l4,l5,l6,l7,gP,lps,hw,hok,rfl⟩
  exact ⟨_,rfl,P0,ws,rfl,SqL.of gP,fun t H9 _ s9 g9=>q t ps H9 (fx.sm s9) (fx.sm s9).st ⟨t,ws,rfl,SqT.of g9,hw.imp fun _ _ z=>z.tk fun _ _ z=>s9.aP z⟩ (by lia) hok⟩
theorem aMs {K:PySem.W.Frag} {H:Hp} {us:List V} {rs:List (List V)} (h:bM (jA K H) us rs):∀x∈us,∃p,x=.ref p:=by
 induction h with
 |nil=>intro x hx;cases hx
 |cons r _ ih=>
  intro x hx
  rcases List.mem_cons.mp hx with rfl|hx
  ·obtain ⟨a,e,_⟩:=r;exact ⟨a,e⟩
  ·exact ih x hx
theorem aP0 {n i:Nat} {x:V} (e:((List.range n).map fun i:Nat=>V.int (0+(i:Int)))[i]?=some x):i<n∧x=.int (0+(i:Int)):=by
 have hi:i<n:=by
  have:=(List.getElem?_eq_some_iff.mp e).1
  rw [List.length_map,List.length_range] at this
  exact this
 rw [List.getElem?_map,List.getElem?_range hi] at e
 exact ⟨hi,(Option.some.inj e).symm⟩
theorem aSz {X:Cx} {scope:Scope} {N:List Str} {ta:TA} {te:TE} {tt:TT} {g:TG} {σ:L2.St} {H:Hp} {Q:VK} (σ0:L2.St) (cap:Cap X scope N σ σ0) (h:ta σ H fun vs H1=>∃j:Int,vs=[.int j]∧-(2 ^ 62)≤j∧j<2 ^ 62∧yW (Itr 0 j.toNat) H1 σ0 g tt te Q):iV X scope N (aJj ta) g tt te σ H Q:=⟨σ0,cap,h⟩
theorem aNe {K:PySem.W.Frag} {H:Hp} {Pr:List V→Prop}:∀{ys:List V},(∀y∈ys,∃r,jA K H y r∧Pr r)→∃rs,bM (jA K H) ys rs∧∀r∈rs,Pr r
 |[],_=>⟨[],.nil,fun r h=>by cases h⟩
 |y::ys,h=>by
  obtain ⟨r,h1,h2⟩:=h y List.mem_cons_self
  obtain ⟨rs,h3,h4⟩:=aNe (ys:=ys) fun z hz=>h z (List.mem_cons_of_mem _ hz)
  refine ⟨r::rs,.cons h1 h3,fun x hx=>?_⟩
  rcases List.mem_cons.mp hx with rfl|hx
  ·exact h2
  ·exact h4 x hx
def hs2 (n m:Str) (hd ho:Hdr):Str→Option Hdr:=fun x=>if x=n then some hd else if x=m then some ho else none
def tb2 (n m:Str) (L M:Addr) (rs os:List (List V)):Str→Option (Addr × List (List V)):=fun x=>if x=n then some (L,rs) else if x=m then some (M,os) else none
theorem aNp {n m:Str} {u v:V} (h:n≠m):jX [((Sum.inr n:Key),u),(Sum.inr m,v)] (Sum.inr n)=some u∧jX [((Sum.inr n:Key),u),(Sum.inr m,v)] (Sum.inr m)=some v:=by
 refine ⟨kE rfl,?_⟩
 rw [lY (fun z=>h (by injection z))]
 exact kE rfl
theorem aE8 {H:Hp} {d:Addr} {n m:Str} {vh vo:V} {hd ho:Hdr} (hne:n≠m) (h:H d=some (.dK [(Sum.inr n,vh),(Sum.inr m,vo)])) (hI:cZ K H vh hd) (hJ:cZ K H vo ho):lD K H d (hs2 n m hd ho):=by
 refine ⟨_,h,fun x hd' e=>?_⟩
 unfold hs2 at e
 by_cases z:x=n
 ·subst z
  rw [if_pos rfl] at e
  cases e
  exact ⟨vh,(aNp hne).1,hI⟩
 ·rw [if_neg z] at e
  by_cases z2:x=m
  ·subst z2
   rw [if_pos rfl] at e
   cases e
   exact ⟨vo,(aNp hne).2,hJ⟩
  ·rw [if_neg z2] at e;cases e
theorem aM7 {H:Hp} {d L M:Addr} {n m:Str} {rs os:List (List V)} (hne:n≠m) (h:H d=some (.dK [(Sum.inr n,.ref L),(Sum.inr m,.ref M)])) (hI:cG K H L rs) (hJ:cG K H M os):TabsAt K H d (tb2 n m L M rs os):=by
 refine ⟨_,h,fun x D rs' e=>?_⟩
 unfold tb2 at e
 by_cases z:x=n
 ·subst z
  rw [if_pos rfl] at e
  cases e
  exact ⟨(aNp hne).1,hI⟩
 ·rw [if_neg z] at e
  by_cases z2:x=m
  ·subst z2
   rw [if_pos rfl] at e
   cases e
   exact ⟨(aNp hne).2,hJ⟩
  ·rw [if_neg z2] at e;cases e
theorem aDe {X:Cx} {scope:Scope} {N:List Str} {σ:L2.St} {H:Hp} {Q:VK} {a:Addr} {vh:V} {hd:Hdr} (hs:σ[1]?=some (some (.ref a))) (cap:Cap X scope N σ [none,some (.ref a),some vh]) (hst:mQ H a) (hh:cZ K H vh hd) (hok:aS8 hd)
  (q:∀L us rows H',Fx a H H'→H L=none→H' L=some (.lst us)→bM (jA K H') us rows→rows.length≤20→(∀r∈rows,KdR (knds hd) r)→Q (.ref L) H') :
  iV X scope N (aJj (cT (nD mZ [] E0 (cT (yX 1) (cT (tC (.int 21)) aAu))) aAu)) (bQ 0) mL (nD (aEm K) [] E0 (cT (yX 1) (cT (yX 2) aAu))) σ H Q:=by
 refine aSz [none,some (.ref a),some vh] cap ?_
 refine ⟨_,hs,a,21,rfl,hst,by decide,fun z H5 f5 z0 z1=>?_⟩
 refine ⟨z,rfl,by lia,by lia,?_⟩
 have hh5:=hh.tk (f5.tk (K:=K) hst)
 refine yP (Fx a) (aVy f5.st) ((List.range z.toNat).map fun i:Nat=>V.int (0+(i:Int))) (fun _=>true) (fun _ H' y=>∃r,jA K H' y r∧KdR (knds hd) r) (fun f1 f2 ⟨r,⟨p,e,hp⟩,h⟩=>⟨r,⟨p,e,f2.aP f1.st hp⟩,h⟩) (fun _ _ gD ⟨r,⟨p,e,hp⟩,h⟩=>⟨r,⟨p,e,SqT.kO gD hp⟩,h⟩) (fun i σ=>∃x,σ=[some x,some (.ref a),some vh]) (fun σ=>∃l,σ=[l,some (.ref a),some vh]) ⟨none,rfl⟩ (small (by rw [List.length_map,List.length_range];lia)) (Itr 0 z.toNat) (fun H' i x _ ex=>?_) (fun H' _=>?_) (fun i x σ' H' Q' ex ps f' r=>?_) (fun i x σ2 ex at2 H' R f' r=>r H' (Fx.refl f'.st)) (fun i x σ2 ex at2 _ H' R f' r=>?_) fun L H6 ys f6 fL gL hys=>?_
 ·obtain ⟨hi,rfl⟩:=aP0 ex
  exact ⟨hi,fun y H2 hy=>hy⟩
 ·show z.toNat≤_
  rw [List.length_map,List.length_range];exact Nat.le_refl _
 ·obtain ⟨l,rfl⟩:=ps
  exact r _ ⟨some x,rfl⟩ ⟨x,rfl⟩
 ·obtain ⟨x',rfl⟩:=at2
  exact ⟨_,rfl,_,rfl,a,vh,hd,rfl,f'.st,hh5.tk (f'.tk f5.st),hok,fun t H2 r' f2 g2 hk=>r _ H2 f2 ⟨r',⟨t,rfl,SqT.of g2⟩,hk⟩⟩
 rw [mK,List.length_map,List.length_range] at hys
 obtain ⟨ly,hy⟩:=jM hys
 obtain ⟨rows,hrow,hkd⟩:=aNe (ys:=ys) fun y hm=>by
  obtain ⟨i,hi⟩:=List.mem_iff_getElem?.mp hm
  exact hy i y hi
 have lrow:=hrow.len
 exact q L ys rows H6 (f5.trans f6) (f5.free fL) gL hrow (by lia) hkd
abbrev Lk (hd ho:Hdr) (ps:List (Str × Str)) (ks:List Str):Prop:=bM (fun p k=>look hd p.1=some k∧look ho p.2=some k) ps ks
def jHd (hd ho:Hdr) (ps:List (Str × Str)):Hdr:=hd++ho.filter fun c=>!decide (c.1∈ps.map (·.2))
theorem aUq {hd ho:Hdr} {ps:List (Str × Str)} {ks:List Str} (hnd:(ho.map (·.1)).Nodup) (hlk:Lk hd ho ps ks) (i:Nat) (c:Str × Str) (hc:ho[i]?=some c):decide (c.1∈ps.map (·.2))=decide (i∈ps.map fun p=>plc ho p.2):=decide_eq_decide.mpr ⟨fun h=>by
  obtain ⟨p,hp,e⟩:=List.mem_map.mp h
  obtain ⟨j,hj⟩:=List.mem_iff_getElem?.mp hp
  obtain ⟨k,_,_,hk'⟩:=aZ hlk hj
  have h1:=(mH hk').1
  refine List.mem_map.mpr ⟨p,hp,?_⟩
  have a1:(ho.map (·.1))[plc ho p.2]?=some p.2:=by rw [List.getElem?_map,h1];rfl
  have a2:(ho.map (·.1))[i]?=some p.2:=by rw [List.getElem?_map,hc,e];rfl
  exact (List.getElem?_inj (List.getElem?_eq_some_iff.mp a1).1 hnd).mp (a1.trans a2.symm),fun h=>by
  obtain ⟨p,hp,e⟩:=List.mem_map.mp h
  obtain ⟨j,hj⟩:=List.mem_iff_getElem?.mp hp
  obtain ⟨k,_,_,hk'⟩:=aZ hlk hj
  have h1:=(mH hk').1
  rw [e,hc] at h1
  have e2:=Option.some.inj h1
  exact List.mem_map.mpr ⟨p,hp,by rw [e2]⟩⟩
theorem aMg {js:List Nat} {p:Str × Str→Bool} {o:List V}:∀(l:Hdr) (k:Nat),(∀i c,l[i]?=some c→p c=!decide (k+i∈js))→(∀i c,l[i]?=some c→KdV (aDi c.2) (o.getD (k+i) .non))→Al2 KdV (knds (l.filter p)) (((List.range' k l.length).filter fun i=>!decide (i∈js)).map fun i=>o.getD i .non)
 |[],_,_,_=>.nil
 |c::t,k,h1,h2=>by
  have ih:=aMg (js:=js) (p:=p) (o:=o) t (k+1) (fun i d e=>by rw [h1 (i+1) d e,show k+1+i=k+(i+1) by lia]) (fun i d e=>by rw [show k+1+i=k+(i+1) by lia];exact h2 (i+1) d e)
  have e0:=h1 0 c rfl
  have k0:=h2 0 c rfl
  rw [Nat.add_zero] at e0 k0
  rw [List.length_cons,List.range'_succ,List.filter_cons,List.filter_cons,e0]
  cases decide (k∈js) with
  |true=>exact ih
  |false=>exact .cons k0 ih
theorem aTv {α β:Type} {R:α→β→Prop} {as cs:List α} {bs ds:List β} (h:Al2 R as bs) (g:Al2 R cs ds):Al2 R (as++cs) (bs++ds):=by
 induction h with
 |nil=>exact g
 |cons r _ ih=>exact .cons r ih
theorem aT7 {hd ho:Hdr} {ps:List (Str × Str)} {ks:List Str} {rows others:List (List V)} (hnd:(ho.map (·.1)).Nodup) (hlk:Lk hd ho ps ks) (k1:∀r∈rows,KdR (knds hd) r) (k2:∀r∈others,KdR (knds ho) r):∀r∈kZ hd ho ps rows others,KdR (knds (jHd hd ho ps)) r:=by
 intro x hx
 unfold kZ joinR at hx
 obtain ⟨r,hr,hx⟩:=List.mem_flatMap.mp hx
 obtain ⟨o,ho',rfl⟩:=List.mem_map.mp hx
 have hom:=(List.mem_filter.mp ho').1
 unfold KdR jHd
 have e:knds (hd++ho.filter fun c=>!decide (c.1∈ps.map (·.2)))=knds hd++knds (ho.filter fun c=>!decide (c.1∈ps.map (·.2))):=List.map_append
 rw [e]
 refine aTv (k1 r hr) ?_
 unfold dU pR
 rw [List.range_eq_range']
 exact aMg ho 0 (fun i c hc=>by rw [aUq hnd hlk i c hc,Nat.zero_add]) (fun i c hc=>by rw [Nat.zero_add];exact (aAd (k2 o hom) hc).2)
theorem aQl {hd ho:Hdr} {ps:List (Str × Str)} (g:Good hd) (l1:hd.length≤4) (l2:ho.length≤4) (hnd:(ho.map (·.1)).Nodup) (hx:∀c∈ho,c.1∉ps.map (·.2)→c.1∉hd.map (·.1)):Good (jHd hd ho ps):=by
 unfold jHd
 have lf:=List.length_filter_le (fun c:Str × Str=>!decide (c.1∈ps.map (·.2))) ho
 refine ⟨?_,?_,?_⟩
 ·rw [List.map_append,List.nodup_append]
  refine ⟨g.1,hnd.sublist (List.filter_sublist.map _),fun a ha b hb e=>?_⟩
  obtain ⟨c,hc,rfl⟩:=List.mem_map.mp hb
  obtain ⟨h1,h2⟩:=List.mem_filter.mp hc
  refine hx c h1 (by simpa using h2) (e ▸ ha)
 ·rw [List.length_append];have:=g.2.1;lia
 ·rw [List.length_append];lia
theorem joined {hs:Str→Option Hdr} {tabs:Str→Option (Addr × List (List V))} {k l:Qn} {hd ho:Hdr} {rows others:List (List V)} {ps:List (Str × Str)} {ks:List Str} (q1:HQ hs k hd) (q2:HQ hs l ho) (r1:RQ hs tabs k rows) (r2:RQ hs tabs l others) (lr:rows.length≤20) (lo:others.length≤20) (l1:hd.length≤4) (l2:ho.length≤4) (hlk:Lk hd ho ps ks) (n1:(ps.map (·.1)).Nodup) (n2:(ps.map (·.2)).Nodup) (hx:∀c∈ho,c.1∉ps.map (·.2)→c.1∉hd.map (·.1)) (k1:∀r∈rows,KdR (knds hd) r) (k2:∀r∈others,KdR (knds ho) r) :
  HQ hs (.join k l ps) (jHd hd ho ps)∧RQ hs tabs (.join k l ps) (kZ hd ho ps rows others)∧aYr (jHd hd ho ps) (kZ hd ho ps rows others):=by
 refine ⟨.mk2 rfl q1 q2 (.join hlk n1 n2) (aQl q1.good l1 l2 q2.good.1 hx),.two rfl q1 r1 ⟨by lia,k1⟩ q2 r2 ⟨by lia,k2⟩ (.join hlk),?_,aT7 q2.good.1 hlk k1 k2⟩
 have h:=rY (ps.map fun p=>plc hd p.1) (ps.map fun p=>plc ho p.2) (pR (ps.map fun p=>plc ho p.2) ho.length) rows others
 have h2:rows.length * others.length≤20 * 20:=Nat.mul_le_mul lr lo
 unfold kZ
 lia
def ren (f:Str→Str) (hd:Hdr):Hdr:=hd.map fun c=>(f c.1,c.2)
theorem aMi {f:Str→Str} {n:Str}:∀{hd:Hdr},(∀c∈hd,f c.1=f n→c.1=n)→plc (ren f hd) (f n)=plc hd n
 |[],_=>rfl
 |c::t,h=>by
  have ih:=aMi (f:=f) (n:=n) (hd:=t) fun d hd=>h d (List.mem_cons_of_mem _ hd)
  show (if f c.1=f n then 0 else plc (ren f t) (f n)+1)=if c.1=n then 0 else plc t n+1
  by_cases e:c.1=n
  ·rw [if_pos e,if_pos (congrArg f e)]
  ·rw [if_neg e,if_neg (fun z=>e (h c List.mem_cons_self z)),ih]
theorem aGt {f:Str→Str} {n k:Str}:∀{hd:Hdr},(∀c∈hd,f c.1=f n→c.1=n)→look hd n=some k→look (ren f hd) (f n)=some k
 |[],_,h=>by cases h
 |c::t,h,g=>by
  have ih:=aGt (f:=f) (n:=n) (k:=k) (hd:=t) fun d hd=>h d (List.mem_cons_of_mem _ hd)
  unfold look at g ih ⊢
  show Option.map _ (List.find? _ ((f c.1,c.2)::ren f t))=_
  rw [List.find?_cons] at g ⊢
  by_cases e:c.1=n
  ·rw [decide_eq_true e] at g
   rw [decide_eq_true (p:=(f c.1,c.2).1=f n) (congrArg f e)]
   exact g
  ·rw [decide_eq_false e] at g
   rw [decide_eq_false (p:=(f c.1,c.2).1=f n) (fun z=>e (h c List.mem_cons_self z))]
   exact ih g
theorem aS0 {f:Str→Str} {hd ho:Hdr} {ps:List (Str × Str)} {rows others:List (List V)} (h:∀p∈ps,∀c∈ho,f c.1=f p.2→c.1=p.2):kZ hd (ren f ho) (ps.map fun p=>(p.1,f p.2)) rows others=kZ hd ho ps rows others:=by
 unfold kZ
 have e1:((ps.map fun p=>(p.1,f p.2)).map fun p=>plc hd p.1)=ps.map fun p=>plc hd p.1:=by rw [List.map_map];rfl
 have e2:((ps.map fun p=>(p.1,f p.2)).map fun p=>plc (ren f ho) p.2)=ps.map fun p=>plc ho p.2:=by
  rw [List.map_map]
  exact List.map_congr_left fun p hp=>aMi (h p hp)
 have e3:(ren f ho).length=ho.length:=List.length_map _
 rw [e1,e2,e3]
theorem aWq {f:Str→Str} {hd ho:Hdr} {ps:List (Str × Str)} {ks:List Str} (h:∀p∈ps,∀c∈ho,f c.1=f p.2→c.1=p.2) (k:Lk hd ho ps ks):Lk hd (ren f ho) (ps.map fun p=>(p.1,f p.2)) ks:=by
 unfold Lk at *
 induction k with
 |nil=>exact .nil
 |cons a _ ih=>exact .cons ⟨a.1,aGt (h _ List.mem_cons_self) a.2⟩ (ih fun p hp=>h p (List.mem_cons_of_mem _ hp))
theorem aL8 {hd ho:Hdr} {ps:List (Str × Str)} {ks:List Str} (k:Lk hd ho ps ks):Lk ho hd (ps.map fun p=>(p.2,p.1)) ks:=by
 unfold Lk at *
 induction k with
 |nil=>exact .nil
 |cons a _ ih=>exact .cons ⟨a.2,a.1⟩ ih
theorem aNf {f:Str→Str}:∀(fm:List Str) (ho:Hdr),List.zipWith (fun (n:Str) (c:Str × Str)=>(n,c.2)) (fm.map f) ho=ren f (List.zipWith (fun (n:Str) (c:Str × Str)=>(n,c.2)) fm ho)
 |[],_=>rfl
 |_::_,[]=>rfl
 |n::t,c::r=>congrArg ((f n,c.2)::·) (aNf t r)
theorem aP5 {f:Str→Str} {hd:Hdr}:knds (ren f hd)=knds hd:=by unfold knds ren;rw [List.map_map];rfl
def as1 (x own:Str):Str→Str:=fun n=>if n=x then own else n
theorem zX {x own:Str}:as1 x own x=own:=if_pos rfl
theorem rD {x own n:Str} (h:n≠x):as1 x own n=n:=if_neg h
theorem aFo {x own m n:Str} (hm:m≠own) (hn:n≠own) (e:as1 x own m=as1 x own n):m=n:=by
 by_cases h1:m=x
 ·by_cases h2:n=x
  ·rw [h1,h2]
  ·rw [h1,zX,rD h2] at e;exact absurd e.symm hn
 ·by_cases h2:n=x
  ·rw [h2,zX,rD h1] at e;exact absurd e hm
  ·rw [rD h1,rD h2] at e;exact e
theorem uP {α β:Type} {f:α→β}:∀{l:List α},(∀x∈l,∀y∈l,f x=f y→x=y)→l.Nodup→(l.map f).Nodup
 |[],_,_=>List.nodup_nil
 |x::t,h,nd=>by
  rw [List.nodup_cons] at nd
  rw [List.map_cons,List.nodup_cons]
  refine ⟨fun z=>?_,uP (fun a ha b hb=>h a (List.mem_cons_of_mem _ ha) b (List.mem_cons_of_mem _ hb)) nd.2⟩
  obtain ⟨y,hy,e⟩:=List.mem_map.mp z
  exact nd.1 (h x List.mem_cons_self y (List.mem_cons_of_mem _ hy) e.symm ▸ hy)
end
end My
namespace L2
open PySem PySem.Spec PyProof.Rows
section
variable {X:Cx}
theorem aL9 {K:PySem.W.Frag} {H:Hp}:∀{r:List V},(∀x∈r,(∃i,x=.int i)∨∃z,x=.str z)→∀n,Al2 (DEq K H n) r r
 |[],_,_=>.nil
 |x::r,h,n=>.cons (by rcases h x List.mem_cons_self with ⟨i,rfl⟩|⟨z,rfl⟩ <;> cases n <;> first|exact ⟨rfl,rfl⟩|exact .inl ⟨rfl,rfl⟩) (aL9 (fun y hy=>h y (List.mem_cons_of_mem _ hy)) n)
theorem aSr {K:PySem.W.Frag} {H:Hp} {us ws:List V} {rs:List (List V)} (h1:Al2 (jA K H) us rs) (h2:Al2 (jA K H) ws rs) (hf:∀r∈rs,∀x∈r,(∃i,x=.int i)∨∃z,x=.str z):Al2 (DEq K H 40) us ws:=by
 refine Al2.of (h1.len.trans h2.len.symm) fun i u w e1 e2=>?_
 obtain ⟨r,er,a,rfl,ha⟩:=h1.at e1
 obtain ⟨r',er',b,rfl,hb⟩:=h2.at e2
 rw [er] at er'
 cases er'
 exact .inr ⟨a,b,r,r,rfl,rfl,ha,hb,aL9 (hf r (List.mem_of_getElem? er)) 39⟩
def aTt (K:PySem.W.Frag):R2:=fun x y H Q=>∃(a b:Addr) (us ws:List V) (rs:List (List V)),x=.ref a∧y=.ref b∧SqL K H a us∧SqL K H b ws∧Al2 (jA K H) us rs∧Al2 (jA K H) ws rs∧(∀r∈rs,∀x∈r,(∃i,x=.int i)∨∃z,x=.str z)∧Q (.bl true) H
theorem aN8 (hu:X.A.units+64<cLine):OpR X (compareOp .Eq) (aTt X.K):=by
 intro pins s σ H x y v u Q I rx ry h
 obtain ⟨a,b,us,ws,rs,rfl,rfl,ha,hb,h1,h2,hf,q⟩:=h
 cases rx
 cases ry
 obtain ⟨its,r1,pl,hz⟩:=I.list ha
 obtain ⟨jts,r2,pm,hw⟩:=I.list hb
 have d:=aSr h1 h2 hf
 have l:=d.len
 have l1:=r1.length
 have l2:=r2.length
 refine SeqAt.RcAt.lists (e:=fun _=>true) pl.isList pm.isList (by rw [List.size_toArray,List.size_toArray];lia) (by lia) (tM I r1 r2 d fun d q1 q2=>xF I 40 d q1 q2 (by show X.A.units+1+40<cLine;lia)) _ _ _ _ ?_
 first
  |(rw [oG];exact ⟨.bl _,H,I,rfl,q⟩)
  |(simp only [oG];exact ⟨.bl _,H,I,rfl,q⟩)
def aWs (K:PySem.W.Frag):R2:=fun x y H Q=>∃(d e:Addr) (k l:Key) (a b a' b':Addr) (xs ys:List V),x=.ref d∧y=.ref e∧k≠l∧H d=some (.dK [(k,.ref a),(l,.ref a')])∧H e=some (.dK [(k,.ref b),(l,.ref b')])∧SqL K H a xs∧SqL K H b xs∧(∀x∈xs,∃p,x=.ref p)∧SqL K H a' ys∧SqL K H b' ys∧(∀x∈ys,∃p,x=.ref p)∧Q (.bl true) H
theorem aQ2 {X:Cx} (hu:X.A.units+64<cLine):OpR X (compareOp .Eq) (aWs X.K):=by
 intro pins s σ H x y v u Q I rx ry h
 obtain ⟨d,e,k,l,a,b,a',b',xs,ys,rfl,rfl,hkl,hd,he,ha,hb,hr,ha',hb',hr',q⟩:=h
 cases rx
 cases ry
 obtain ⟨z,hm,vs,rel,dd⟩:=aPs I.hok hd
 obtain ⟨z',hm',us,rel',de⟩:=aPs I.hok he
 obtain ⟨rfl⟩:vs=[(k,Value.ref a),(l,Value.ref a')]:=by
  cases rel with
  |cons q t=>cases t with
   |cons q2 t=>cases t;obtain ⟨k1,r1⟩:=q;obtain ⟨k2,r2⟩:=q2;rw [show _=((k:Key),Value.ref a) from Prod.ext k1.symm r1,show _=((l:Key),Value.ref a') from Prod.ext k2.symm r2]
 obtain ⟨rfl⟩:us=[(k,Value.ref b),(l,Value.ref b')]:=by
  cases rel' with
  |cons q t=>cases t with
   |cons q2 t=>cases t;obtain ⟨k1,r1⟩:=q;obtain ⟨k2,r2⟩:=q2;rw [show _=((k:Key),Value.ref b) from Prod.ext k1.symm r1,show _=((l:Key),Value.ref b') from Prod.ext k2.symm r2]
 have eqs:∀(a b:Addr) (xs:List V),SqL X.K H a xs→SqL X.K H b xs→(∀x∈xs,∃p,x=.ref p)→SeqAt.EqAt X.A.in1 s (.ref a) (.ref b) true:=fun a b xs ha hb hr=>by
  by_cases e:a=b
  ·subst e;exact SeqAt.EqAt.same _
  obtain ⟨its,r1,pl,_⟩:=I.list ha
  obtain ⟨jts,r2,pm,_⟩:=I.list hb
  obtain rfl:=aCw hr r1 r2
  refine SeqAt.EqAt.of_refs e ?_
  have zz:=SeqAt.RcAt.lists (A:=X.A.in1) (e:=fun _=>true) pl.isList pm.isList rfl (by show X.A.units+1<cLine;lia) (fun j h1 h2=>SeqAt.EqAt.same _)
  rw [oG] at zz
  exact zz
 have hv1:valueAt [(k,Value.ref b),(l,Value.ref b')] k=some (.ref b):=by simp [valueAt]
 have hv2:valueAt [(k,Value.ref b),(l,Value.ref b')] l=some (.ref b'):=by simp [valueAt,hkl]
 refine PySem.W.keq_eq (r:=true) hm hm' dd de (by lia) (fun _=>by
  first
   |exact PySem.W.KeqHits.hit (e:=true) (b:=true) hv1 (eqs _ _ _ ha hb hr) (PySem.W.KeqHits.hit (e:=true) (b:=true) hv2 (eqs _ _ _ ha' hb' hr') .nil)
   |exact PySem.W.KeqHits.hit (e:=true) (b:=true) hv1 (eqs _ _ _ hb ha hr) (PySem.W.KeqHits.hit (e:=true) (b:=true) hv2 (eqs _ _ _ hb' ha' hr') .nil)) ?_
 exact ⟨.bl true,H,I,rfl,q⟩
end
end L2
namespace My
open PySem PySem.Spec PyProof.Rows L2
section
variable {P:Program} {w:World} {K:PySem.W.Frag} {mg:Str→Option Value} {base:Heap}
theorem aNo {n:Str}:∀{l:List Str},l.Nodup→l.length≤(l.filter fun x=>!decide (x=n)).length+1
 |[],_=>by simp
 |x::r,h=>by
  rw [List.nodup_cons] at h
  rw [List.filter_cons,List.length_cons]
  by_cases e:x=n
  ·subst e
   rw [decide_eq_true rfl]
   have:r.filter (fun y=>!decide (y=x))=r:=List.filter_eq_self.mpr fun y hy=>by
    rw [decide_eq_false (fun z=>h.1 (by rw [←z];exact hy))]
    rfl
   simp [this]
  ·rw [decide_eq_false e]
   have:=aNo (n:=n) h.2
   simp only [Bool.not_false,if_true,List.length_cons]
   lia
theorem aHj {l:List Str} (h:l.Nodup):∀S:List Str,l.length≤(l.filter fun x=>!decide (x∈S)).length+S.length
 |[]=>by
  have e:(l.filter fun x=>!decide (x∈([]:List Str)))=l:=List.filter_eq_self.mpr (by intro x _;simp)
  rw [e]
  exact Nat.le_add_right _ _
 |s::S=>by
  have e:(l.filter fun x=>!decide (x∈s::S))=(l.filter fun x=>!decide (x∈S)).filter fun x=>!decide (x=s):=by
   rw [List.filter_filter]
   refine List.filter_congr fun x _=>?_
   by_cases a:x=s <;> by_cases b:x∈S <;> simp [a,b]
  have h1:=aHj h S
  have h2:=aNo (n:=s) (h.sublist (List.filter_sublist (p:=fun x=>!decide (x∈S))))
  rw [e,List.length_cons]
  lia
theorem aGy {p:Nat→Bool} {R:Nat→V→Prop}:∀{k:Nat} {l:List Str} {ys:List V},(∀(j:Nat) (n:Str),l[j]?=some n→∀y,R (k+j) y→y=.str n)→nY R (sel p k (List.range' k l.length)) ys→ys=(sel p k l).map V.str
 |k,[],ys,_,h=>by cases h;rfl
 |k,n::r,ys,hR,h=>by
  rw [List.length_cons,List.range'_succ] at h
  have h:nY R (if p k then k::sel p (k+1) (List.range' (k+1) r.length) else sel p (k+1) (List.range' (k+1) r.length)) ys:=h
  have ih:∀{zs:List V},nY R (sel p (k+1) (List.range' (k+1) r.length)) zs→zs=(sel p (k+1) r).map V.str:=fun {zs} hz=>
   aGy (k:=k+1) (l:=r) (fun j m hj y hy=>hR (j+1) m (by simpa using hj) y (by rw [show k+(j+1)=k+1+j by lia];exact hy)) hz
  show ys=(if p k then n::sel p (k+1) r else sel p (k+1) r).map V.str
  split at h
  ·rename_i hp
   rw [if_pos hp]
   cases h with
   |cons r' t=>
    rw [List.map_cons,←ih t,hR 0 n rfl _ r']
  ·rename_i hp
   rw [if_neg hp]
   exact ih h
theorem aR3 {ys:List V} {cs:Hdr} (hl:ys.length=cs.length) (h:∀(i:Nat) (y:V),ys[i]?=some y→∃c,cs[i]?=some c∧y=.str c.1):ys=(cs.map (·.1)).map V.str:=by
 rw [List.map_map]
 refine List.ext_getElem? fun i=>?_
 by_cases hi:i<ys.length
 ·obtain ⟨c,h1,h2⟩:=h i ys[i] (List.getElem?_eq_getElem hi)
  rw [List.getElem?_eq_getElem hi,List.getElem?_map,h1,h2]
  rfl
 ·rw [List.getElem?_eq_none (by lia),List.getElem?_eq_none (by rw [List.length_map];lia)]
theorem aKk {X:Cx} {scope:Scope} {N:List Str} {tl:TE} {σ:L2.St} {H:Hp} {Q:VK} {b:Addr} {us:List V} {cs:Hdr} (hb:SqT K H b us) (hu:bM (IsC K H) us cs) (h8:cs.length≤100) (cap:Cap X scope N σ [none,none]) (hw:∀R:VK,R (.ref b) H→tl σ H R)
  (q:∀D H',H D=none→Same H H'→H' D=some (.lst ((cs.map (·.1)).map V.str))→Q (.ref D) H'):iV X scope N (aJ9 K tl) (aJk K 2 (oE (bQ 0) (oE (bQ 1) aIh))) mL (yX 0) σ H Q:=by
 have lu:=hu.len
 refine lV [none,none] cap (hw _ ⟨b,rfl,⟨_,hb⟩,yP Same (sI H) us (fun _=>true) (fun i _ y=>∃c,cs[i]?=some c∧y=.str c.1) (fun _ _ h=>h) (fun _ _ _ h=>h) (fun i σ=>∃c,cs[i]?=some c∧At2 [none,none] (.str c.1) (.str c.2) σ) (Ps2 [none,none]) ⟨none,none,rfl⟩ (small (by lia)) _ (tU fun H' s'=>s'.aP hb) (mJ fun H' s'=>s'.aP hb) (fun i x σ' H' Q' ex hps s' qq=>?_) (fun i x σ2 ex hA H' R s' r=>r _ (Same.refl _)) (fun i x σ2 ex hA _ H' R s' r=>?_) fun D H1 ys s1 fD g1 hys=>?_⟩)
 ·obtain ⟨c,hc,p,rfl,hp⟩:=aZ hu ex
  exact hg2 (s'.aP hp) hps fun σ2 h1 h2=>qq σ2 h1 ⟨c,hc,h2⟩
 ·obtain ⟨c,hc,rfl⟩:=hA
  exact ⟨_,rfl,r _ _ (Same.refl H') ⟨c,hc,rfl⟩⟩
 ·rw [mK] at hys
  obtain ⟨l,hg⟩:=jM hys
  rw [aR3 (by lia) hg] at g1
  exact q D H1 fD s1 g1
def frP (l used:List Str) (i:Nat):Bool:=match l[i]? with
 |some n=>!decide (n∈used)
 |none=>false
def lA (ns used:List Str):List Str:=(ns.drop 3).filter fun n=>!decide (n∈used)
theorem aR8 {ns used:List Str} (h:sZ ns):(lA ns used).Nodup∧(∀n∈lA ns used,Nm n∧n∉used)∧14≤(lA ns used).length+used.length∧(lA ns used).length≤14:=by
 have hd:(ns.drop 3).Nodup:=h.2.2.sublist (List.drop_sublist 3 ns)
 have hl:(ns.drop 3).length=14:=by rw [List.length_drop,h.1]
 refine ⟨hd.sublist List.filter_sublist,fun n hn=>?_,?_,?_⟩
 ·obtain ⟨h1,h2⟩:=List.mem_filter.mp hn
  exact ⟨h.2.1 n (List.mem_of_mem_drop h1),by simpa using h2⟩
 ·have:=aHj hd used
  unfold lA
  lia
 ·have:=List.length_filter_le (fun n=>!decide (n∈used)) (ns.drop 3)
  unfold lA
  lia
theorem aJy {X:Cx} {scope:Scope} {Nn:List Str} {tl:TE} {tt:TT} {σ:L2.St} {H:Hp} {Q:VK} {U:V} {ns used:List Str} (hn:sZ ns) (cap:Cap X scope Nn σ [none,some U]) (hw:∀R:VK,(∀p H1,H p=none→Same H H1→H1 p=some (.lst ((ns.drop 3).map V.str))→R (.ref p) H1)→tl σ H R)
  (ht:∀(n:Str) l H' R,Same H H'→(∀H2,Same H' H2→R (!decide (n∈used)) H2)→tt (([none,some U].set 0 l).set 0 (some (.str n))) H' R)
  (q:∀D H',H D=none→Same H H'→H' D=some (.lst ((lA ns used).map V.str))→Q (.ref D) H'):iV X scope Nn (sY K tl) (bQ 0) tt (yX 0) σ H Q:=by
 have hl:(ns.drop 3).length=14:=by rw [List.length_drop,hn.1]
 refine oV [none,some U] cap (hw _ fun p H1 fp s1 g1=>⟨p,rfl,⟨_,SqL.of g1⟩,yP Same (sI H1) ((ns.drop 3).map V.str) (frP (ns.drop 3) used) (fun i _ y=>∃n,(ns.drop 3)[i]?=some n∧y=.str n) (fun _ _ h=>h) (fun _ _ _ h=>h) (fun i σ=>∃n,(ns.drop 3)[i]?=some n∧At1 [none,some U] (.str n) σ) (Ps1 [none,some U]) ⟨none,rfl⟩ (small (by rw [List.length_map];lia)) _ (aTp fun H' s'=>SqL.of (s' _ _ g1)) (aOt fun H' s'=>SqL.of (s' _ _ g1)) (fun i x σ' H' Q' ex hps s' qq=>?_) (fun i x σ2 ex hA H' R s' r=>?_) (fun i x σ2 ex hA _ H' R s' r=>?_) fun D H2 ys s2 fD g2 hys=>?_⟩)
 ·obtain ⟨n,hn',rfl⟩:=iD ex
  exact hg1 (i:=i) hps fun σ2 h1 h2=>qq σ2 h1 ⟨n,hn',h2⟩
 ·obtain ⟨n,hn',l,rfl⟩:=hA
  refine ht n l H' _ (s1.trans s') fun H2 s2=>?_
  have e:frP (ns.drop 3) used i=!decide (n∈used):=by unfold frP;rw [hn']
  rw [←e]
  exact r H2 s2
 ·obtain ⟨n,hn',l,rfl⟩:=hA
  exact ⟨_,by cases l <;> rfl,r _ _ (Same.refl H') ⟨n,hn',rfl⟩⟩
 ·rw [List.length_map,List.range_eq_range'] at hys
  have ey:=aGy (k:=0) (l:=ns.drop 3) (fun j n hj y hy=>by
   obtain ⟨m,hm,e⟩:=hy
   rw [Nat.zero_add,hj] at hm
   cases hm
   exact e) hys
  have es:sel (frP (ns.drop 3) used) 0 (ns.drop 3)=lA ns used:=uE fun i x ex=>by
   unfold frP
   rw [Nat.zero_add,ex]
  rw [ey,es] at g2
  exact q D H2 (s1.free fD) (s1.trans s2) g2
theorem uO {lo hi:Nat} {H:Hp} {t:Addr} {ns:List Str} (h:SqT K H t (ns.map V.str)) (hn:∀n∈ns,Nm n) (l1:lo≤ns.length) (l2:ns.length≤hi):lH gA lo hi K H (.ref t) ns:=by
 refine ⟨⟨t,_,rfl,h,?_⟩,l1,l2⟩
 clear h l1 l2
 induction ns with
 |nil=>exact .nil
 |cons n r ih=>exact .cons ⟨rfl,hn n (List.mem_cons_self ..)⟩ (ih fun m hm=>hn m (List.mem_cons_of_mem _ hm))
theorem aWa {S:TS} {D:Ends} {σ:L2.St} {H:Hp} (J:L2.St→Hp→Prop) (h1:∀N:L2.St→Hp→Prop,(∀σ' H',J σ' H'→N σ' H')→S { D with nx:=N } σ H) (h2:∀σ' H',J σ' H'→D.nx σ' H'):S D σ H:=h1 D.nx h2
theorem aJ4 {k l:Key} {u v:V} (h:k≠l):uQ [] [(k,u),(l,v)]=[(k,u),(l,v)]:=by
 simp [uQ,putK,h]
structure LJ (K:PySem.W.Frag) (a N L M:Addr) (ns:List Str) (vh vo:V) (hd ho:Hdr) (us os:List V) (rows others:List (List V)) (H:Hp):Prop where
 st:mQ H a
 nm:H N=some (.lst (ns.map V.str))
 hd:cZ K H vh hd
 ho:cZ K H vo ho
 gL:H L=some (.lst us)
 rL:bM (jA K H) us rows
 gM:H M=some (.lst os)
 rM:bM (jA K H) os others
section
variable {a N L M:Addr} {ns:List Str} {vh vo:V} {hd ho:Hdr} {us os:List V} {rows others:List (List V)} {H H':Hp}
theorem LJ.fx (W:LJ K a N L M ns vh vo hd ho us os rows others H) (h1:N≠a) (h2:L≠a) (h3:M≠a) (f:Fx a H H'):LJ K a N L M ns vh vo hd ho us os rows others H':=
 ⟨f.st,f.same _ _ h1 W.nm,W.hd.tk (f.tk W.st),W.ho.tk (f.tk W.st),f.same _ _ h2 W.gL,W.rL.imp fun _ _ ⟨p,e,hp⟩=>⟨p,e,f.aP W.st hp⟩,f.same _ _ h3 W.gM,W.rM.imp fun _ _ ⟨p,e,hp⟩=>⟨p,e,f.aP W.st hp⟩⟩
theorem LJ.same (W:LJ K a N L M ns vh vo hd ho us os rows others H) (s:Same H H'):LJ K a N L M ns vh vo hd ho us os rows others H':=
 ⟨W.st.same s,s _ _ W.nm,W.hd.same s,W.ho.same s,s _ _ W.gL,W.rL.imp fun _ _ z=>z.same s,s _ _ W.gM,W.rM.imp fun _ _ z=>z.same s⟩
end
theorem zU {rs:List (List V)} {r:List V} (h:r∈srt rs):r∈rs:=by
 unfold srt at h
 obtain ⟨i,hi,rfl⟩:=List.mem_map.mp h
 have:=PySem.W.wV hi
 rw [List.getD_eq_getElem?_getD,List.getElem?_eq_getElem this]
 exact List.getElem_mem this
theorem aGs:∀{fm:List Str} {ho:Hdr},fm.length=ho.length→knds (List.zipWith (fun (n:Str) (c:Str × Str)=>(n,c.2)) fm ho)=knds ho
 |[],[],_=>rfl
 |n::f,c::h,e=>congrArg (aDi c.2::·) (aGs (fm:=f) (ho:=h) (Nat.succ.inj e))
theorem xG:∀{fm:List Str} {ho:Hdr},fm.length=ho.length→(List.zipWith (fun (n:Str) (c:Str × Str)=>(n,c.2)) fm ho).map (·.1)=fm
 |[],[],_=>rfl
 |n::f,c::h,e=>congrArg (n::·) (xG (fm:=f) (ho:=h) (Nat.succ.inj e))
theorem aKf.looks {hd ho:Hdr} {ps:List (Str × Str)} (n1:(hd.map (·.1)).Nodup) (n2:(ho.map (·.1)).Nodup) (h:∀p∈ps,∃kd,(p.1,kd)∈hd∧(p.2,kd)∈ho):∃ks,bM (fun p k=>look hd p.1=some k∧look ho p.2=some k) ps ks:=by
 induction ps with
 |nil=>exact ⟨[],.nil⟩
 |cons p t ih=>
  obtain ⟨ks,hk⟩:=ih fun q hq=>h q (List.mem_cons_of_mem _ hq)
  obtain ⟨kd,h1,h2⟩:=h p List.mem_cons_self
  exact ⟨kd::ks,.cons ⟨aG4 n1 h1,aG4 n2 h2⟩ hk⟩
structure LT (d tb A1 A2:Addr) (n0 n1:Str) (vh vo:V) (us os:List V) (H:Hp):Prop where
 gd:H d=some (.dK [(Sum.inr n0,vh),(Sum.inr n1,vo)])
 gt:H tb=some (.dK [(Sum.inr n0,.ref A1),(Sum.inr n1,.ref A2)])
 g1:H A1=some (.lst us)
 g2:H A2=some (.lst os)
theorem LT.same {d tb A1 A2:Addr} {n0 n1:Str} {vh vo:V} {us os:List V} {H H':Hp} (W:LT d tb A1 A2 n0 n1 vh vo us os H) (s:Same H H'):LT d tb A1 A2 n0 n1 vh vo us os H':=⟨s _ _ W.gd,s _ _ W.gt,s _ _ W.g1,s _ _ W.g2⟩
theorem LT.fx {a d tb A1 A2:Addr} {n0 n1:Str} {vh vo:V} {us os:List V} {H H':Hp} (W:LT d tb A1 A2 n0 n1 vh vo us os H) (h1:d≠a) (h2:tb≠a) (h3:A1≠a) (h4:A2≠a) (f:Fx a H H'):LT d tb A1 A2 n0 n1 vh vo us os H':=⟨f.same _ _ h1 W.gd,f.same _ _ h2 W.gt,f.same _ _ h3 W.g1,f.same _ _ h4 W.g2⟩
theorem aR5 {n x own:Str}:atI [V.str n,V.str own] (if decide (V.str n=V.str x)=true then 1 else 0)=some (V.str (as1 x own n)):=by
 by_cases h:n=x
 ·rw [if_pos (decide_eq_true (congrArg V.str h)),h,zX];rfl
 ·rw [if_neg (fun z=>h (V.str.inj (of_decide_eq_true z))),rD h];rfl
theorem aWc {f:Addr} {fd:FuncData} (F:Fun K "law" "law" wG f fd) (T:Txt w K mg) (aF8:Ok P w K mg base 2 "_law_begin" ["_law_script"] (aH7 K)) (bD:Ok P w K mg base 1 "_law_next" ["_law_state","_law_many"] mZ)
  (aFh:Ok P w K mg base 2 "_law_names" ["_law_state","_law_many"] aSv) (yR:Ok P w K mg base 2 "_law_head" ["_law_state","_law_names_here"] (aIl K))
  (aAq:Ok P w K mg base 4 "_law_row" ["_law_state","_law_head_here"] (aEm K)) (aGg:Ok P w K mg base 2 "_law_pairs" ["_law_state","_law_head_here","_law_other"] (aIz K))
  (tD:Ok P w K mg base 2 "_law_joined" ["_law_head_here","_law_rows","_law_other_head","_law_others","_law_pairs_here"] (aRg K))
  (rG:Ok P w K mg base 1 "_law_same" ["_law_found","_law_due"] (aNi K)) (xU:Ok P w K mg base 49 "rows_of" ["heads","tables","question"] (xT K)) (aUv:Ok P w K mg base 49 "whole" ["heads","tables","question"] (xT K)) :
  pJ P w K mg base CX0 51 f fd ["_law_script"] (aD8 K):=by
 refine Fun.okV F cQ (fun vs H Q E h=>?_) (fun cdv A outer s H vs Q E hr h=>?_)
 ·obtain ⟨a,ns,rfl,_⟩:=h;rfl
 obtain ⟨sc,sn,rfl,hS,h63,q⟩:=h
 have hu:=yQ hr
 have hU:=hr.units
 refine ⟨_,(aC (aW (i:=1) cQ.nd rfl (by trivial) (aO (aF8.mono (by decide)) hr (by rfl) (aB (vv 0) aA))) (aC (aW (i:=2) cQ.nd rfl (by trivial) (aO (aFh.mono (by decide)) hr (by rfl) (aB (vv 1) (aB aD aA)))) (aC (aW (i:=3) cQ.nd rfl (by trivial) (aO (yR.mono (by decide)) hr (by rfl) (aB (vv 1) (aB (vv 2) aA)))) (aC (lB (i0:=4) cQ.nd rfl (by trivial) (N:=["_law_k","_law_state","_law_head_here"]) (by trivial) (cO (aF wG) rfl (by decide +kernel)) rfl (dW (by rfl) T.gK (aB (aO (bD.mono (by decide)) hr (by rfl) (aB (vv 1) (aB aD aA))) aA)) (fun cl s' H' fp=>⟨(aL (i:=0) (show (["_law_k","_law_state","_law_head_here"]:List Str).Nodup from by decide +kernel) rfl (Or.inl rfl)),bT,(aO (aAq.mono (by decide)) hr (by rfl) (aB (vv 1) (aB (vv 2) aA)))⟩)) (aC (aW (i:=5) cQ.nd rfl (by trivial) (aO (yR.mono (by decide)) hr (by rfl) (aB (vv 1) (aB (vv 2) aA)))) (aC (lB (i0:=6) cQ.nd rfl (by trivial) (N:=["_law_k","_law_state","_law_other"]) (by trivial) (cO (aF wG) rfl (by decide +kernel)) rfl (dW (by rfl) T.gK (aB (aO (bD.mono (by decide)) hr (by rfl) (aB (vv 1) (aB aD aA))) aA)) (fun cl s' H' fp=>⟨(aL (i:=0) (show (["_law_k","_law_state","_law_other"]:List Str).Nodup from by decide +kernel) rfl (Or.inl rfl)),bT,(aO (aAq.mono (by decide)) hr (by rfl) (aB (vv 1) (aB (vv 2) aA)))⟩)) (aC (bW (aY dC (aO (bD.mono (by decide)) hr (by rfl) (aB (vv 1) (aB aD aA))) aD (bI _)) (aC (aW (i:=5) cQ.nd rfl (by trivial) (vv 3)) (aG (aW (i:=6) cQ.nd rfl (by trivial) (vv 4)))) bA) (aC (aW (i:=7) cQ.nd rfl (by trivial) (aEi (oN (aK aX (vv 2) aD (fun _ _=>rfl)) (vv 3) (oN (aK aX (vv 2) aD (fun _ _=>rfl)) (vv 5) aFd)) rfl rfl (by simp) (by decide))) (aC (aW (i:=8) cQ.nd rfl (by trivial) (aEi (oN (aK aX (vv 2) aD (fun _ _=>rfl)) (bO tO (by rfl) T.zW vO (aB (vv 4) aA)) (oN (aK aX (vv 2) aD (fun _ _=>rfl)) (bO tO (by rfl) T.zW vO (aB (vv 6) aA)) aFd)) rfl rfl (by simp) (by decide))) (aC (aW (i:=9) cQ.nd rfl (by trivial) (bN (N:=["_law_name","_law_kind"]) (by trivial) (cY (by decide +kernel)) rfl (eG (vv 3)) (fun cl s' H' fp=>⟨(jP (K:=K) (n:=2) rfl (bL (aL (i:=0) (show (["_law_name","_law_kind"]:List Str).Nodup from by decide +kernel) rfl (Or.inl rfl)) (bL (aL (i:=1) (show (["_law_name","_law_kind"]:List Str).Nodup from by decide +kernel) rfl (Or.inl rfl)) eQ))),bT,(vv 0)⟩))) (aC (aW (i:=10) cQ.nd rfl (by trivial) (jY aG0 (bN (N:=["_law_name","_law_used"]) (by trivial) (cO (aF wG) rfl (by decide +kernel)) rfl (cV (jY aG0 (vv 2) (jQ aD) sG)) (fun cl s' H' fp=>⟨(aL (i:=0) (show (["_law_name","_law_used"]:List Str).Nodup from by decide +kernel) rfl (Or.inl rfl)),(aA4 (aY (gG (K:=K)) (vv 0) (vv 1) (by with_unfolding_all rfl))),(vv 0)⟩)) sG (jQ (aR bC (by rfl) T.eY cP (aB (vv 5) aA))))) (aC (aW (i:=11) cQ.nd rfl (by trivial) (bO cC (by rfl) T.cL cB (aB (bN (N:=["_law_k","_law_fresh","_law_other"]) (by trivial) (cO (aF wG) rfl (by decide +kernel)) rfl (dW (by rfl) T.gK (aB (aR bC (by rfl) T.eY cP (aB (vv 5) aA)) aA)) (fun cl s' H' fp=>⟨(aL (i:=0) (show (["_law_k","_law_fresh","_law_other"]:List Str).Nodup from by decide +kernel) rfl (Or.inl rfl)),bT,(bY (aB (aK (aIn (K:=K)) (vv 1) (vv 0) (fun _ _=>rfl)) (aB (aK (bZ (K:=K)) (aK (bZ (K:=K)) (vv 2) (vv 0) (fun _ _=>rfl)) aD (fun _ _=>rfl)) aA)))⟩)) aA))) (aC (aW (i:=12) cQ.nd rfl (by trivial) (aO (aGg.mono (by decide)) hr (by rfl) (aB (vv 1) (aB (vv 3) (aB (vv 11) aA))))) (aC (bW (aY (aV6 (Nat.lt_of_succ_lt hu)) (vv 12) (bY aA) (bI _)) (aG (aN (gO (aN8 hU) (aO (xU.mono (by decide)) hr (by rfl) (aB (vv 7) (aB (vv 8) (aB (bY (aB aU (aB (aK aX (vv 2) aD (fun _ _=>rfl)) aA))) aA)))) (aR jH (by rfl) T.oM lL (aB (vv 6) aA)) (bI _)))) bA) (aC (aFz (aO (tD.mono (by decide)) hr (by rfl) (aB (vv 3) (aB (vv 4) (aB (vv 11) (aB (vv 6) (aB (vv 12) aA)))))) (tW rfl (bL (aL (i:=13) cQ.nd rfl (by trivial)) (bL (aL (i:=14) cQ.nd rfl (by trivial)) eQ)))) (aC (aW (i:=15) cQ.nd rfl (by trivial) (bY (aB aU (aB (bY (aB aU (aB (aK aX (vv 2) aD (fun _ _=>rfl)) aA))) (aB (bY (aB aU (aB (bY (aB aU (aB (aK aX (vv 2) aD (fun _ _=>rfl)) aA))) (aB (bO cC (by rfl) T.cL cB (aB (vv 10) aA)) aA)))) (aB (vv 12) aA)))))) (aC (bW (fK (eO (aO (rG.mono (by decide)) hr (by rfl) (aB (aO (xU.mono (by decide)) hr (by rfl) (aB (vv 7) (aB (vv 8) (aB (vv 15) aA)))) (aB (aR jH (by rfl) T.oM lL (aB (vv 14) aA)) aA))))) (aG (aN kY)) bA) (aC (aW (i:=16) cQ.nd rfl (by trivial) (aK bH (aK bH (vv 3) (aO (bD.mono (by decide)) hr (by rfl) (aB (vv 1) (aB (aR bC (by rfl) T.eY cP (aB (vv 3) aA)) aA))) (fun _ _=>rfl)) aD (fun _ _=>rfl))) (aC (aW (i:=17) cQ.nd rfl (by trivial) (bO cC (by rfl) T.cL cB (aB (bN (N:=["_law_name","_law_own","_law_pairs_here"]) (by trivial) (cO (aF wG) rfl (by decide +kernel)) rfl (cV (vv 10)) (fun cl s' H' fp=>⟨(aL (i:=0) (show (["_law_name","_law_own","_law_pairs_here"]:List Str).Nodup from by decide +kernel) rfl (Or.inl rfl)),bT,(aK (aIn (K:=K)) (cU (aB (vv 0) (aB (vv 1) aA))) (bO aCt (by rfl) T.aMf aF7 (aB (gO dC (vv 0) (aK (bZ (K:=K)) (aK (bZ (K:=K)) (vv 2) aD (fun _ _=>rfl)) aD (fun _ _=>rfl)) (bI _)) aA)) (fun _ _=>rfl))⟩)) aA))) (aC (aW (i:=18) cQ.nd rfl (by trivial) (cD rW (bY (aB (bY (aB (aK (bZ (K:=K)) (aK (bZ (K:=K)) (vv 12) aD (fun _ _=>rfl)) aD (fun _ _=>rfl)) (aB (vv 16) aA))) aA)) (jY aTw (vv 12) (jQ aD) sG))) (aC (aW (i:=15) cQ.nd rfl (by trivial) (bY (aB aU (aB (bY (aB aU (aB (aK aX (vv 2) aD (fun _ _=>rfl)) aA))) (aB (bY (aB aU (aB (bY (aB aU (aB (aK aX (vv 2) aD (fun _ _=>rfl)) aA))) (aB (vv 17) aA)))) (aB (vv 18) aA)))))) (aC (bW (fK (eO (aO (rG.mono (by decide)) hr (by rfl) (aB (aO (xU.mono (by decide)) hr (by rfl) (aB (vv 7) (aB (vv 8) (aB (vv 15) aA)))) (aB (aR jH (by rfl) T.oM lL (aB (vv 14) aA)) aA))))) (aG (aN kY)) bA) (aC (aW (i:=19) cQ.nd rfl (by trivial) (bO cC (by rfl) T.cL cB (aB (bN (N:=["_law_c","_law_d"]) (by trivial) (cY (by decide +kernel)) rfl (eG (vv 12)) (fun cl s' H' fp=>⟨(jP (K:=K) (n:=2) rfl (bL (aL (i:=0) (show (["_law_c","_law_d"]:List Str).Nodup from by decide +kernel) rfl (Or.inl rfl)) (bL (aL (i:=1) (show (["_law_c","_law_d"]:List Str).Nodup from by decide +kernel) rfl (Or.inl rfl)) eQ))),bT,(bY (aB (vv 1) (aB (vv 0) aA)))⟩)) aA))) (aC (aFz (aO (tD.mono (by decide)) hr (by rfl) (aB (vv 11) (aB (vv 6) (aB (vv 3) (aB (vv 4) (aB (vv 19) aA)))))) (tW rfl (bL (aL (i:=13) cQ.nd rfl (by trivial)) (bL (aL (i:=14) cQ.nd rfl (by trivial)) eQ)))) (aC (aW (i:=15) cQ.nd rfl (by trivial) (bY (aB aU (aB (bY (aB aU (aB (bY (aB aU (aB (aK aX (vv 2) aD (fun _ _=>rfl)) aA))) (aB (bO cC (by rfl) T.cL cB (aB (vv 10) aA)) aA)))) (aB (bY (aB aU (aB (aK aX (vv 2) aD (fun _ _=>rfl)) aA))) (aB (vv 19) aA)))))) (aG (aN (nP (aO (rG.mono (by decide)) hr (by rfl) (aB (aO (aUv.mono (by decide)) hr (by rfl) (aB (vv 7) (aB (vv 8) (aB (vv 15) aA)))) (aB (aR jH (by rfl) T.oM lL (aB (vv 14) aA)) aA))) (nG (gO (aQ2 hU) (vv 8) (aEi (oN (aK aX (vv 2) aD (fun _ _=>rfl)) (vv 4) (oN (aK aX (vv 2) aD (fun _ _=>rfl)) (vv 6) aFd)) rfl rfl (by simp) (by decide)) (bI _))))))))))))))))))))))))))))))),?_⟩
 refine ⟨_,rfl,sc,sn,rfl,hS,h63,fun a H2 fa s2 hst=>?_⟩
 refine ⟨_,rfl,a,rfl,hst,fun N H3 ns f3 fN g3 hn=>?_⟩
 have nNa:N≠a:=hst.ne fN
 have hst3:=f3.st
 refine ⟨_,rfl,_,rfl,a,N,ns,rfl,hst3,g3,nNa,hn,fun vh H4 hd f4 hh hok l7=>?_⟩
 have hst4:=f4.st
 have g4:=f4.same _ _ nNa g3
 dsimp only [bQ,mR,mO]
 refine aDe rfl (pH 1 3 (by decide +kernel) (by decide +kernel) rfl rfl rfl rfl (by trivial) (by trivial)) hst4 hh hok fun L us rows H5 f5 nL gL hrow lr hkd=>?_
 have nLa:L≠a:=hst4.ne nL
 refine ⟨_,rfl,_,rfl,a,N,ns,rfl,f5.st,f5.same _ _ nNa g4,nNa,hn,fun vo H6 ho f6 hho hok2 l72=>?_⟩
 refine aDe rfl (pH 1 5 (by decide +kernel) (by decide +kernel) rfl rfl rfl rfl (by trivial) (by trivial)) f6.st hho hok2 fun M os others H7 f7 nM gM hoth lo hkd2=>?_
 have nMa:M≠a:=f6.st.ne nM
 have f67:=f6.trans f7
 have S7:LJ K a N L M ns vh vo hd ho us os rows others H7:=⟨f7.st,(f5.trans f67).same _ _ nNa g4,hh.tk ((f5.trans f67).tk hst4),hho.tk (f7.tk f6.st),f67.same _ _ nLa gL,hrow.imp fun _ _ ⟨p,e,hp⟩=>⟨p,e,f67.aP f5.st hp⟩,gM,hoth⟩
 refine aWa (fun σ H'=>∃vo M ho os others,LJ K a N L M ns vh vo hd ho us os rows others H'∧aS8 ho∧ho.length≤4∧others.length≤20∧(∀r∈others,KdR (knds ho) r)∧M≠a∧σ=[some (.ref sc),some (.ref a),some (.ref N),some vh,some (.ref L),some vo,some (.ref M),none,none,none,none,none,none,none,none,none,none,none,none,none]) (fun N' hN'=>?_) fun σ H8 ⟨vo,M,ho,os,others,S8,hok2,l72,lo,hkO,nMa,eσ⟩=>?_
 ·refine ⟨_,rfl,a,3,rfl,S7.st,by decide,fun z H8 f8 z0 z1=>⟨rfl,_,rfl,?_⟩⟩
  have S8:=S7.fx nNa nLa nMa f8
  by_cases hz:z=0
  ·rw [decide_eq_true (show V.int z=V.int 0 by rw [hz])]
   refine aCs rfl ?_
   exact ⟨_,rfl,_,rfl,hN' _ _ ⟨vh,L,hd,us,rows,⟨S8.st,S8.nm,S8.hd,S8.hd,S8.gL,S8.rL,S8.gL,S8.rL⟩,hok,l7,lr,hkd,nLa,rfl⟩⟩
  ·rw [decide_eq_false (show V.int z≠V.int 0 from fun e=>hz (by injection e))]
   refine qF rfl ?_
   exact hN' _ _ ⟨vo,M,ho,os,others,S8,hok2,l72,lo,hkd2,nMa,rfl⟩
 subst eσ
 clear S7 hoth hkd2 f67 gM f7 hho f6 hrow f5 gL hh
 obtain ⟨n0,n1,nr,rfl⟩:∃n0 n1 nr,ns=n0::n1::nr:=by
  have l17:=hn.1
  match ns,l17 with
  |n0::n1::nr,_=>exact ⟨n0,n1,nr,rfl⟩
 have hne:n0≠n1:=by
  have nd:=hn.2.2
  rw [List.nodup_cons] at nd
  exact fun z=>nd.1 (z ▸ List.mem_cons_self)
 have hne':(Sum.inr n0:Key)≠Sum.inr n1:=fun z=>hne (by injection z)
 refine fun d fd=>?_
 have sA:Same H8 (L2.upd H8 d (.dK [])):=bF fd _
 refine ⟨_,rfl,N,_,0,_,rfl,rfl,SqL.of (sA _ _ S8.nm),at0 _ _,_,rfl,_,rfl,N,_,1,_,rfl,rfl,SqL.of (sA _ _ S8.nm),at1 _ _ _,_,rfl,aH,[(Sum.inr n0,vh),(Sum.inr n1,vo)],rfl,by show 2≤15;decide,?_⟩
 rw [aJ4 hne']
 have sB:Same H8 (L2.upd (L2.upd H8 d (.dK [])) d (.dK [(Sum.inr n0,vh),(Sum.inr n1,vo)])):=cN fd sA
 have gdB:L2.upd (L2.upd H8 d (.dK [])) d (.dK [(Sum.inr n0,vh),(Sum.inr n1,vo)]) d=some (.dK [(Sum.inr n0,vh),(Sum.inr n1,vo)]):=aH
 generalize L2.upd (L2.upd H8 d (.dK [])) d (.dK [(Sum.inr n0,vh),(Sum.inr n1,vo)])=H9 at sB gdB ⊢
 have S9:=S8.same sB
 have nda:d≠a:=S8.st.ne fd
 clear sA S8
 refine fun tb ftb=>?_
 have sC:Same H9 (L2.upd H9 tb (.dK [])):=bF ftb _
 have gC:L2.upd H9 tb (.dK []) tb=some (.dK []):=aH
 generalize L2.upd H9 tb (.dK [])=H10 at sC gC ⊢
 refine ⟨_,rfl,N,_,0,_,rfl,rfl,SqL.of (sC _ _ S9.nm),at0 _ _,_,rfl,L,us,rfl,.inl (SqL.of (sC _ _ S9.gL)),fun A1 H11 nA1 s11 gA1=>?_⟩
 have sD:=sC.trans s11
 refine ⟨_,rfl,N,_,1,_,rfl,rfl,SqL.of (sD _ _ S9.nm),at1 _ _ _,_,rfl,M,os,rfl,.inl (SqL.of (sD _ _ S9.gM)),fun A2 H12 nA2 s12 gA2=>?_⟩
 have sE:=sD.trans s12
 refine ⟨(s11.trans s12) _ _ gC,[(Sum.inr n0,.ref A1),(Sum.inr n1,.ref A2)],rfl,by show 2≤15;decide,?_⟩
 rw [aJ4 hne']
 have sF:Same H9 (L2.upd H12 tb (.dK [(Sum.inr n0,.ref A1),(Sum.inr n1,.ref A2)])):=cN ftb sE
 have gtF:L2.upd H12 tb (.dK [(Sum.inr n0,.ref A1),(Sum.inr n1,.ref A2)]) tb=some (.dK [(Sum.inr n0,.ref A1),(Sum.inr n1,.ref A2)]):=aH
 have tcE:=(s11.trans s12) _ _ gC
 have gA1F:L2.upd H12 tb (.dK [(Sum.inr n0,.ref A1),(Sum.inr n1,.ref A2)]) A1=some (.lst us):=by
  have e:=s12 _ _ gA1
  rw [aV (sW e tcE (by intro z;cases z))];exact e
 have gA2F:L2.upd H12 tb (.dK [(Sum.inr n0,.ref A1),(Sum.inr n1,.ref A2)]) A2=some (.lst os):=by
  rw [aV (sW gA2 tcE (by intro z;cases z))];exact gA2
 have nA1a:A1≠a:=(S9.st.same sC).ne nA1
 have nA2a:A2≠a:=(S9.st.same sD).ne nA2
 generalize L2.upd H12 tb (.dK [(Sum.inr n0,.ref A1),(Sum.inr n1,.ref A2)])=H13 at sF gtF gA1F gA2F ⊢
 have S13:=S9.same sF
 have ntba:tb≠a:=S9.st.ne ftb
 have W13:LT d tb A1 A2 n0 n1 vh vo us os H13:=⟨sF _ _ gdB,gtF,gA1F,gA2F⟩
 clear sC gC sD sE s11 s12 gA1 gA2 tcE S9 sB gdB nA1 nA2
 obtain ⟨bh,wh,rfl,hbh,hwh⟩:=id S13.hd
 dsimp only [bQ,mR,mO]
 refine aKk hbh hwh (by lia) lK (fun R r=>⟨_,rfl,r⟩) fun U H14 nU s14 gU=>?_
 have S14:=S13.same s14
 have W14:=W13.same s14
 refine aJy (K:=K) (U:=.ref U) (used:=hd.map (·.1)) hn ?_ (fun R r=>?_) (fun n l H' R s' r=>?_) fun F14 H15 nF s15 gF=>?_
 ·exact dO 9 (by decide +kernel) rfl rfl (by trivial)
 ·refine ⟨_,rfl,_,rfl,N,_,rfl,SqL.of S14.nm,fun p' H' fp' s' g'=>r p' H' fp' s' ?_⟩
  rw [g',show (3:Int)=((3:Nat):Int) from rfl,aCe,List.map_drop]
 ·refine ⟨_,rfl,_,rfl,U,_,rfl,.inl (SqL.of (s' _ _ gU)),rfl,aAo,_,rfl,?_⟩
  rw [wD]
  exact r H' (Same.refl H')
 obtain ⟨fnd,fnm,flen,flen2⟩:=aR8 (used:=hd.map (·.1)) hn
 rw [List.length_map] at flen
 generalize hfr:lA (n0::n1::nr) (hd.map (·.1))=fr at gF fnd fnm flen flen2
 clear hfr
 have S15:=S14.same s15
 have W15:=W14.same s15
 obtain ⟨bo,wo,rfl,hbo,hwo⟩:=id S15.ho
 have lwo:=hwo.len
 refine ⟨_,rfl,bo,wo,rfl,.inr hbo,_,rfl,F14,_,rfl,SqL.of gF,fun Fr H16 nFr s16 gFr=>?_⟩
 have lfr:ho.length≤fr.length:=by lia
 rw [lwo,aVa,←List.map_take] at gFr
 generalize efm:fr.take ho.length=fm at gFr
 have lfm:fm.length=ho.length:=by rw [←efm,List.length_take];lia
 have fmnd:fm.Nodup:=by rw [←efm];exact fnd.sublist (List.take_sublist _ _)
 have fmnm:∀n∈fm,Nm n∧n∉hd.map (·.1):=fun n h=>fnm n (List.mem_of_mem_take (efm ▸ h))
 have S16:=S15.same s16
 have W16:=W15.same s16
 have nFra:Fr≠a:=S15.st.ne nFr
 have hbo16:=s16.aP hbo
 have hwo16:=hwo.imp fun _ _ z=>z.same s16
 clear hwo hbo efm fnd fnm flen flen2 gF nF nFr s15 s16 S15 S14 S13 hwh hbh
 generalize ecl:List.zipWith (fun (n:Str) (c:Str × Str)=>(n,c.2)) fm ho=cl
 have lcl:cl.length=ho.length:=by rw [←ecl,List.length_zipWith];lia
 dsimp only [bQ,mR,mO,tCB,cT]
 refine sJ ((List.range ho.length).map fun i:Nat=>V.int (0+(i:Int))) (eZ K cl) eZ.st eZ.su [none,some (.ref Fr),some (.ref bo)] (pH 10 5 (by decide +kernel) (by decide +kernel) rfl rfl rfl rfl (by trivial) (by trivial)) (small (by rw [List.length_map,List.length_range];lia)) (fun R r=>aFu ho.length (fun R' r'=>⟨_,rfl,bo,wo,rfl,.inr hbo16,by rw [lwo];exact r'⟩) (aV8 (by lia)) R r) (fun i x ex H' R l sm r=>?_) rfl fun D17 H17 ys s17 g17 l17 h17=>?_
 ·obtain ⟨hi,rfl⟩:=aP0 ex
  have hi2:i<fm.length:=by lia
  obtain ⟨c,hc,pc,epc,hpc⟩:=aZ hwo16 (List.getElem?_eq_getElem (show i<wo.length by lia))
  have a1:atI (fm.map V.str) (0+(i:Int))=some (V.str fm[i]):=by
   rw [Int.zero_add]
   exact dR (by rw [List.getElem?_map,List.getElem?_eq_getElem hi2];rfl)
  have a2:atI wo (0+(i:Int))=some (.ref pc):=by
   rw [Int.zero_add,←epc]
   exact dR (List.getElem?_eq_getElem (show i<wo.length by lia))
  have ec:cl[i]?=some (fm[i],c.2):=by
   rw [←ecl,List.getElem?_zipWith,List.getElem?_eq_getElem hi2,hc]
  exact ⟨_,rfl,_,rfl,Fr,_,_,_,rfl,rfl,SqL.of (sm _ _ gFr),a1,_,rfl,_,rfl,bo,wo,_,_,rfl,rfl,sm.aP hbo16,a2,pc,_,1,_,rfl,rfl,sm.aP hpc,at1 _ _ _,by show 2≤sizeLine;decide,fun t H5 _ s5 g5=>r _ H5 s5 ⟨(fm[i],c.2),t,ec,rfl,g5⟩⟩
 refine ⟨D17,_,rfl,SqL.of g17,fun Cl H18 _ s18 g18=>?_⟩
 have s1718:=s17.trans s18
 have hcl:cZ K H18 (.ref Cl) cl:=zR (SqT.of g18) (by rw [l17,List.length_map,List.length_range,lcl]) fun i y e=>(h17 i y e).st s18
 have S18:=S16.same s1718
 have gFr18:=s1718 _ _ gFr
 have clnm:∀c∈cl,Nm c.1:=fun c hc=>by
  rw [←ecl] at hc
  obtain ⟨i,hi⟩:=List.mem_iff_getElem?.mp hc
  rw [List.getElem?_zipWith] at hi
  cases e1:fm[i]? with
  |none=>rw [e1] at hi;cases hi
  |some n=>
   cases e2:ho[i]? with
   |none=>rw [e1,e2] at hi;cases hi
   |some c2=>
    rw [e1,e2] at hi
    cases hi
    exact (fmnm n (List.mem_of_getElem? e1)).1
 refine ⟨_,rfl,_,rfl,_,rfl,a,.ref bh,.ref Cl,hd,cl,rfl,S18.st,S18.hd,by lia,hcl,by lia,fun c hc=>(hok.2 c hc).1,clnm,fun tp ps H19 f19 st19 hps lps pok=>?_⟩
 have S19:=S18.fx nNa nLa nMa f19
 have W19:=(W16.same s1718).fx nda ntba nA1a nA2a f19
 have gFr19:=f19.same _ _ nFra gFr18
 have hcl19:=hcl.tk (f19.tk S18.st)
 clear W13 W14 W15 W16 S16 S18 gFr gFr18 hcl g17 g18 h17 hbo16 hwo16 s17 s18 s1718 f19 gU
 obtain ⟨tp',wps,etp,hsp,hwps⟩:=id hps
 cases etp
 have lwps:=hwps.len
 refine ⟨_,rfl,by show 0≤sizeLine;decide,fun e0 H20 _ s20 g20=>⟨tp,e0,wps,rfl,rfl,s20.aP hsp,SqT.of g20,_,rfl,?_⟩⟩
 have S20:=S19.same s20
 have W20:=W19.same s20
 have gFr20:=s20 _ _ gFr19
 have hcl20:=hcl19.same s20
 have hps20:oA K H20 (jW K H20) (.ref tp) ps:=⟨tp,wps,rfl,s20.aP hsp,hwps.imp fun _ _ z=>z.tk fun _ _ z=>s20.aP z⟩
 clear S19 W19 gFr19 hcl19 hps g20 s20 st19
 by_cases hem:wps=[]
 ·subst hem
  refine aCs rfl ?_
  refine ⟨_,rfl,_,rfl,_,rfl,N,_,1,_,rfl,rfl,SqL.of S20.nm,at1 _ _ _,(by show 2≤sizeLine;decide),fun pq H21 _ s21 g21=>?_⟩
  have S21:=S20.same s21
  have W21:=W20.same s21
  have hn1:Nm n1:=hn.2.1 n1 (List.mem_cons_of_mem _ List.mem_cons_self)
  refine ⟨d,tb,.ref pq,hs2 n0 n1 hd ho,tb2 n0 n1 A1 A2 rows others,.table n1,ho,others,rfl,aE8 hne W21.gd S21.hd S21.ho,aM7 hne W21.gt ⟨us,W21.g1,S21.rL⟩ ⟨os,W21.g2,S21.rM⟩,.table (SqT.of g21) hn1,by show 1≤20;decide,.mk0 rfl (.table (by unfold hs2;rw [if_neg hne.symm,if_pos rfl])) hok2.1,.table (D:=A2) (by unfold tb2;rw [if_neg hne.symm,if_pos rfl]),⟨by lia,hkO⟩,fun D22 H22 _ s22 ⟨us22,g22,h22⟩=>?_⟩
  have S22:=S21.same s22
  have lM:=S22.rM.len
  refine ⟨_,rfl,M,os,others,knds ho,rfl,SqL.of S22.gM,iJ S22.rM,by lia,rP hok2.1,hkO,fun C23 H23 us23 _ s23 g23 h23=>?_⟩
  refine ⟨D22,C23,us22,us23,srt others,rfl,rfl,SqL.of (s23 _ _ g22),SqL.of g23,iJ (h22.imp fun _ _ z=>z.same s23),iJ ((nR h23).imp fun _ _ z=>z.same s23),fun r hr'=>aHq (hkO r (zU hr')),q H23⟩
 ·refine qF (by cases wps with|nil=>exact absurd rfl hem|cons _ _=>rfl) ?_
  have clnd:(cl.map (·.1)).Nodup:=by rw [←ecl,xG lfm];exact fmnd
  have clk:knds cl=knds ho:=by rw [←ecl];exact aGs lfm
  have hkC:∀r∈others,KdR (knds cl) r:=by rw [clk];exact hkO
  obtain ⟨ks,hlk⟩:=aKf.looks hok.1.1 clnd pok.1
  refine ⟨_,rfl,_,rfl,_,rfl,_,rfl,_,rfl,.ref bh,L,.ref Cl,M,.ref tp,hd,cl,rows,others,ps,ks,rfl,S20.hd,by lia,hcl20,by lia,clnd,⟨us,S20.gL,S20.rL⟩,by lia,⟨os,S20.gM,S20.rM⟩,by lia,hkd,hkC,hps20,by lia,hlk,fun t1 u1 Ld H21 nLd s21 g21 hR21=>?_⟩
  refine ⟨t1,_,rfl,SqT.of g21,rfl,_,_,rfl,_,_,rfl,rfl,?_⟩
  refine ⟨_,rfl,N,_,0,_,rfl,rfl,SqL.of (s21 _ _ S20.nm),at0 _ _,(by show 2≤sizeLine;decide),fun q0 H22 _ s22 g22=>?_⟩
  have s2022:=s21.trans s22
  refine ⟨_,rfl,N,_,1,_,rfl,rfl,SqL.of (s2022 _ _ S20.nm),at1 _ _ _,(by show 2≤sizeLine;decide),fun q1 H23 _ s23 g23=>?_⟩
  have s2023:=s2022.trans s23
  refine ⟨_,rfl,Fr,_,rfl,SqL.of (s2023 _ _ gFr20),fun tf H24 _ s24 g24=>?_⟩
  refine ⟨(by show 3≤sizeLine;decide),fun q2 H25 _ s25 g25=>⟨_,rfl,(by show 4≤sizeLine;decide),fun q3 H26 _ s26 g26=>?_⟩⟩
  have s2426:=s25.trans s26
  have s2326:=s24.trans s2426
  have s2226:=s23.trans s2326
  have s2126:=s22.trans s2226
  have s2026:=s21.trans s2126
  have S26:=S20.same s2026
  have W26:=W20.same s2026
  have hn0:Nm n0:=hn.2.1 n0 List.mem_cons_self
  have hn1:Nm n1:=hn.2.1 n1 (List.mem_cons_of_mem _ List.mem_cons_self)
  have lps1:1≤ps.length:=by
   cases wps with
   |nil=>exact absurd rfl hem
   |cons _ _=>rw [←lwps];exact Nat.succ_le_succ (Nat.zero_le _)
  have ho1:1≤ho.length:=hok2.1.2.1
  have clfm:∀c∈cl,c.1∈fm:=fun c hc=>by
   have:=List.mem_map_of_mem (f:=(·.1)) hc
   rw [←ecl,xG lfm] at this
   exact this
  have hT0:HQ (hs2 n0 n1 hd ho) (.table n0) hd:=.mk0 rfl (.table (by unfold hs2;rw [if_pos rfl])) hok.1
  have hT1:HQ (hs2 n0 n1 hd ho) (.table n1) ho:=.mk0 rfl (.table (by unfold hs2;rw [if_neg hne.symm,if_pos rfl])) hok2.1
  have hN1:HQ (hs2 n0 n1 hd ho) (.nmd (.table n1) fm) cl:=.mk1 rfl hT1 (ecl ▸ .nmd lfm) ⟨clnd,by lia,by lia⟩
  have rT0:RQ (hs2 n0 n1 hd ho) (tb2 n0 n1 A1 A2 rows others) (.table n0) rows:=.table (D:=A1) (by unfold tb2;rw [if_pos rfl])
  have rT1:RQ (hs2 n0 n1 hd ho) (tb2 n0 n1 A1 A2 rows others) (.table n1) others:=.table (D:=A2) (by unfold tb2;rw [if_neg hne.symm,if_pos rfl])
  have fT1:Fit ho others:=⟨by lia,hkO⟩
  have rN1:RQ (hs2 n0 n1 hd ho) (tb2 n0 n1 A1 A2 rows others) (.nmd (.table n1) fm) others:=.one rfl hT1 rT1 fT1 .named
  obtain ⟨hJ,rJ,fJ⟩:=joined hT0 hN1 rT0 rN1 lr lo l7 (by lia) hlk pok.2.1 pok.2.2 (fun c hc _=>(fmnm c.1 (clfm c hc)).2) hkd hkC
  have iq:IsQ K H26 (.ref q3) (.join (.table n0) (.nmd (.table n1) fm) ps):=.join (SqT.of g26) ((IsQ.table (SqT.of g22) hn0).same s2226) (.nmd (s26.aP (SqT.of g25)) ((IsQ.table (SqT.of g23) hn1).same s2326) (uO (s2426.aP (SqT.of g24)) (fun n h=>(fmnm n h).1) (by lia) (by lia))) ⟨hps20.same s2026 fun _ _ h=>h.same s2026,lps1,lps⟩
  refine ⟨_,rfl,_,rfl,_,rfl,d,tb,.ref q3,hs2 n0 n1 hd ho,tb2 n0 n1 A1 A2 rows others,_,_,_,rfl,aE8 hne W26.gd S26.hd S26.ho,aM7 hne W26.gt ⟨us,W26.g1,S26.rL⟩ ⟨os,W26.g2,S26.rM⟩,iq,by show 4≤20;decide,hJ,rJ,fJ,fun D27 H27 _ s27 h27=>?_⟩
  obtain ⟨uu,gLd,hLd⟩:=(hR21.same s2126).same s27
  have luu:=hLd.len
  have fJ1:=fJ.1
  refine ⟨_,rfl,Ld,uu,kZ hd cl ps rows others,knds (jHd hd cl ps),rfl,SqL.of gLd,iJ hLd,by lia,rP hJ.good,fJ.2,fun C28 H28 us28 _ s28 g28 h28=>?_⟩
  have gJ:=hJ.good.2.2
  refine ⟨D27,C28,_,knds (jHd hd cl ps),rfl,h27.same s28,⟨us28,g28,(nR h28).imp fun _ _ z=>z.same s28⟩,?_,⟨?_,fun r hr'=>fJ.2 r (zU hr')⟩,fun H29 s29=>?_⟩
  ·rw [aD3];exact fJ1
  ·unfold knds;rw [List.length_map];lia
  refine ⟨_,rfl,qF rfl ?_⟩
  have s2629:=s27.trans (s28.trans s29)
  have S29:=S26.same s2629
  have W29:=W26.same s2629
  have gLd29:=(s28.trans s29) _ _ gLd
  have hLd29:=hLd.imp fun _ _ z=>z.same (s28.trans s29)
  have gFr29:=(s2026.trans s2629) _ _ gFr20
  have hcl29:=hcl20.same (s2026.trans s2629)
  have hps29:=hps20.same (s2026.trans s2629) fun _ _ h=>h.same (s2026.trans s2629)
  have nLda:Ld≠a:=S20.st.ne nLd
  clear gLd hLd gFr20 hcl20 hps20 S20 W20 S26 W26 iq hJ rJ g22 g23 g24 g25 g26 hR21 h27 g28 h28 s2026 s2126 s2226 s2326 s2426 s2629 s27 s28 s29 s26 s25 s24 s23 s22 s21 g21 s2022 s2023 nLd
  obtain ⟨bh',wh,e,hbh,hwh⟩:=id S29.hd
  cases e
  have lwh:=hwh.len
  have hd1:1≤hd.length:=hok.1.2.1
  refine ⟨_,rfl,_,rfl,_,rfl,bh,wh,rfl,.inr hbh,a,_,rfl,S29.st,⟨by lia,by lia⟩,fun z H30 f30 z0 z1=>?_⟩
  obtain ⟨zn,rfl⟩:∃n:Nat,z=n:=⟨z.toNat,by lia⟩
  have S30:=S29.fx nNa nLa nMa f30
  have W30:=W29.fx nda ntba nA1a nA2a f30
  have gLd30:=f30.same _ _ nLda gLd29
  have hLd30:bM (jA K H30) uu (kZ hd cl ps rows others):=hLd29.imp fun _ _ ⟨p,e,hp⟩=>⟨p,e,f30.aP S29.st hp⟩
  have gFr30:=f30.same _ _ nFra gFr29
  have hcl30:=hcl29.tk (f30.tk S29.st)
  have hps30:oA K H30 (jW K H30) (.ref tp) ps:=by
   obtain ⟨t,w',e,h1,h2⟩:=hps29
   exact ⟨t,w',e,f30.aP S29.st h1,h2.imp fun _ _ z=>z.tk (f30.tk S29.st)⟩
  have hbh30:=f30.aP S29.st hbh
  have hwh30:=hwh.imp fun _ _ z=>z.tk (f30.tk S29.st)
  have hz:zn<wh.length:=by lia
  obtain ⟨c,hc,pc,epc,hpc⟩:=aZ hwh30 (List.getElem?_eq_getElem hz)
  refine ⟨bh,wh,zn,_,rfl,rfl,hbh30,dR (by rw [List.getElem?_eq_getElem hz,epc]),pc,_,0,_,rfl,rfl,hpc,at0 _ _,?_⟩
  have hcm:=List.mem_of_getElem? hc
  obtain ⟨own,kown⟩:=c
  have hown:Nm own:=(hok.2 _ hcm).1
  have ownh:own∈hd.map (·.1):=List.mem_map.mpr ⟨_,hcm,rfl⟩
  clear S29 W29 gLd29 hLd29 gFr29 hcl29 hps29 hbh hwh hwh30 hpc epc f30 z0 z1
  dsimp only [bQ,mR,mO,tCB,cT]
  obtain ⟨p0,pt,rfl⟩:∃p0 pt,ps=p0::pt:=by
   cases ps with
   |nil=>exact absurd lps1 (by decide)
   |cons p0 pt=>exact ⟨p0,pt,rfl⟩
  obtain ⟨tp2,wp2,e,hsp30,hwp30⟩:=id hps30
  cases e
  obtain ⟨w0,wt,rfl,h0,hwt⟩:∃w0 wt,wp2=w0::wt∧jW K H30 w0 p0∧bM (jW K H30) wt pt:=by
   cases hwp30 with
   |cons a b=>exact ⟨_,_,rfl,a,b⟩
  obtain ⟨pa,rfl,hpa,np1,np2⟩:=h0
  refine dZ (fm.map V.str) ((fm.map (as1 p0.2 own)).map V.str) (by rw [List.length_map,List.length_map,List.length_map]) [none,some (.str own),some (.ref tp)] (pH 16 12 (by decide +kernel) (by decide +kernel) rfl rfl rfl rfl (by trivial) (by trivial)) (small (by rw [List.length_map];lia)) (fun R r=>lJ (fun H' sm=>SqL.of (sm _ _ gFr30)) (fun R' r'=>⟨_,rfl,r'⟩) R r) (fun i x y ex ey H' R l sm r=>?_) rfl fun D31 H31 s31 g31=>?_
  ·rw [List.getElem?_map] at ex
   obtain ⟨n,en,rfl⟩:=Option.map_eq_some_iff.mp ex
   rw [List.getElem?_map,List.getElem?_map,en] at ey
   cases ey
   exact ⟨_,rfl,_,rfl,by show 2≤sizeLine;decide,fun pl Ha _ sa ga=>⟨_,rfl,_,rfl,tp,_,0,_,rfl,rfl,(sm.trans sa).aP hsp30,at0 _ _,pa,_,1,_,rfl,rfl,(sm.trans sa).aP hpa,at1 _ _ _,rfl,.inr ⟨_,rfl,pl,_,_,_,rfl,rfl,SqL.of ga,aR5,r Ha sa⟩⟩⟩
  refine ⟨D31,_,rfl,SqL.of g31,fun tA H32 _ s32 g32=>?_⟩
  have s3032:=s31.trans s32
  refine ⟨_,rfl,tp,_,0,_,rfl,rfl,s3032.aP hsp30,at0 _ _,pa,_,0,_,rfl,rfl,s3032.aP hpa,at0 _ _,_,rfl,by show 2≤sizeLine;decide,fun ta H33 _ s33 g33=>⟨by show 1≤sizeLine;decide,fun tb' H34 _ s34 g34=>?_⟩⟩
  have s3034:=s3032.trans (s33.trans s34)
  refine ⟨_,rfl,_,rfl,tp,_,rfl,s3034.aP hsp30,fun sl H35 s35 g35=>?_⟩
  rw [show (1:Int)=((1:Nat):Int) from rfl,aCe,List.drop_one,List.tail_cons] at g35
  have lwt:=hwt.len
  rw [List.length_cons] at lps
  refine ⟨tb',sl,_,_,rfl,rfl,s35.aP (SqT.of g34),g35,by show 1+wt.length≤sizeLine;exact small (by lia),fun al H36 s36 g36=>?_⟩
  have s3036:=s3034.trans (s35.trans s36)
  have nown:∀n∈fm,n≠own:=fun n h e=>(fmnm n h).2 (e ▸ ownh)
  have p2fm:∀p∈p0::pt,p.2∈fm:=fun p hp=>by
   obtain ⟨kd,_,h⟩:=pok.1 p hp
   exact clfm _ h
  have hinj:∀p∈p0::pt,∀c∈cl,as1 p0.2 own c.1=as1 p0.2 own p.2→c.1=p.2:=fun p hp c hc=>aFo (nown _ (clfm c hc)) (nown _ (p2fm p hp))
  have nd2:=pok.2.2
  rw [List.map_cons,List.nodup_cons] at nd2
  have eps:((p0::pt).map fun p=>(p.1,as1 p0.2 own p.2))=(p0.1,own)::pt:=by
   rw [List.map_cons,zX]
   refine congrArg _ ((List.map_congr_left fun p hp=>?_).trans (List.map_id _))
   have e1:p.2≠p0.2:=fun e=>nd2.1 (List.mem_map.mpr ⟨p,hp,e⟩)
   rw [rD e1]
   rfl
  have hal:oA K H36 (jW K H36) (.ref al) ((p0::pt).map fun p=>(p.1,as1 p0.2 own p.2)):=by
   rw [eps]
   exact ⟨al,_,rfl,g36,.cons ⟨ta,rfl,(s34.trans (s35.trans s36)).aP (SqT.of g33),np1,hown⟩ (hwt.imp fun _ _ z=>z.same s3036)⟩
  have S36:=S30.same s3036
  dsimp only [List.set]
  refine ⟨_,rfl,N,_,0,_,rfl,rfl,SqL.of S36.nm,at0 _ _,(by show 2≤sizeLine;decide),fun r0 H37 _ s37 g37=>?_⟩
  refine ⟨_,rfl,N,_,1,_,rfl,rfl,SqL.of (s37 _ _ S36.nm),at1 _ _ _,(by show 2≤sizeLine;decide),fun r1 H38 _ s38 g38=>?_⟩
  refine ⟨_,rfl,(by show 3≤sizeLine;decide),fun r2 H39 _ s39 g39=>⟨_,rfl,(by show 4≤sizeLine;decide),fun r3 H40 _ s40 g40=>?_⟩⟩
  have s3840:=s39.trans s40
  have s3740:=s38.trans s3840
  have s3640:=s37.trans s3740
  have s3240:=s33.trans (s34.trans (s35.trans (s36.trans s3640)))
  have s3040:=s3036.trans s3640
  have S40:=S30.same s3040
  have W40:=W30.same s3040
  have cnd2:((ren (as1 p0.2 own) cl).map (·.1)).Nodup:=by
   have e:(ren (as1 p0.2 own) cl).map (·.1)=(cl.map (·.1)).map (as1 p0.2 own):=by unfold ren;rw [List.map_map,List.map_map];rfl
   rw [e]
   refine uP (fun x hx y hy=>?_) clnd
   obtain ⟨c1,h1,rfl⟩:=List.mem_map.mp hx
   obtain ⟨c2,h2,rfl⟩:=List.mem_map.mp hy
   exact aFo (nown _ (clfm _ h1)) (nown _ (clfm _ h2))
  have lren:(ren (as1 p0.2 own) cl).length=cl.length:=List.length_map _
  have hN2:HQ (hs2 n0 n1 hd ho) (.nmd (.table n1) (fm.map (as1 p0.2 own))) (ren (as1 p0.2 own) cl):=by
   have e:List.zipWith (fun (n:Str) (c:Str × Str)=>(n,c.2)) (fm.map (as1 p0.2 own)) ho=ren (as1 p0.2 own) cl:=by rw [aNf,ecl]
   exact .mk1 rfl hT1 (e ▸ .nmd (by rw [List.length_map];exact lfm)) ⟨cnd2,by lia,by lia⟩
  have rN2:RQ (hs2 n0 n1 hd ho) (tb2 n0 n1 A1 A2 rows others) (.nmd (.table n1) (fm.map (as1 p0.2 own))) others:=.one rfl hT1 rT1 fT1 .named
  have m1:((p0::pt).map fun p=>(p.1,as1 p0.2 own p.2)).map (·.1)=(p0::pt).map (·.1):=by rw [List.map_map];rfl
  have m2:((p0::pt).map fun p=>(p.1,as1 p0.2 own p.2)).map (·.2)=((p0::pt).map (·.2)).map (as1 p0.2 own):=by rw [List.map_map,List.map_map];rfl
  obtain ⟨hJ2,rJ2,fJ2⟩:=joined hT0 hN2 rT0 rN2 lr lo l7 (by lia) (aWq hinj hlk) (by rw [m1];exact pok.2.1) (by
    rw [m2]
    refine uP (fun x hx y hy=>?_) pok.2.2
    obtain ⟨c1,h1,rfl⟩:=List.mem_map.mp hx
    obtain ⟨c2,h2,rfl⟩:=List.mem_map.mp hy
    exact aFo (nown _ (p2fm _ h1)) (nown _ (p2fm _ h2))) (fun c hc hno=>by
    obtain ⟨c',hc',rfl⟩:=List.mem_map.mp hc
    rw [m2] at hno
    by_cases e:c'.1=p0.2
    ·exact absurd (List.mem_map.mpr ⟨p0.2,List.mem_cons_self,by rw [e]⟩) hno
    ·show as1 p0.2 own c'.1∉_
     rw [rD e]
     exact (fmnm _ (clfm _ hc')).2) hkd (by rw [aP5];exact hkC)
  rw [aS0 hinj] at rJ2 fJ2
  have nm2:∀n∈fm.map (as1 p0.2 own),Nm n:=fun n h=>by
   obtain ⟨m,hm,rfl⟩:=List.mem_map.mp h
   by_cases e:m=p0.2
   ·rw [e,zX];exact hown
   ·rw [rD e];exact (fmnm _ hm).1
  have iq2:IsQ K H40 (.ref r3) (.join (.table n0) (.nmd (.table n1) (fm.map (as1 p0.2 own))) ((p0::pt).map fun p=>(p.1,as1 p0.2 own p.2))):=.join (SqT.of g40) ((IsQ.table (SqT.of g37) hn0).same s3740) (.nmd (s40.aP (SqT.of g39)) ((IsQ.table (SqT.of g38) hn1).same s3840) (uO (s3240.aP (SqT.of g32)) nm2 (by rw [List.length_map];lia) (by rw [List.length_map];lia))) ⟨hal.same s3640 fun _ _ h=>h.same s3640,by rw [List.length_map];exact lps1,by rw [List.length_map];exact lps⟩
  dsimp only [aL2,aX7,tB,nD,bQ,List.set]
  refine ⟨_,rfl,_,rfl,_,rfl,d,tb,.ref r3,hs2 n0 n1 hd ho,tb2 n0 n1 A1 A2 rows others,_,_,_,rfl,aE8 hne W40.gd S40.hd S40.ho,aM7 hne W40.gt ⟨us,W40.g1,S40.rL⟩ ⟨os,W40.g2,S40.rM⟩,iq2,by show 4≤20;decide,hJ2,rJ2,fJ2,fun D41 H41 _ s41 h41=>?_⟩
  have s3041:=s3040.trans s41
  have hLd41:=hLd30.imp fun _ _ z=>z.same s3041
  refine ⟨_,rfl,Ld,uu,kZ hd cl (p0::pt) rows others,_,rfl,SqL.of (s3041 _ _ gLd30),iJ hLd41,by lia,rP hJ2.good,fJ2.2,fun C42 H42 us42 _ s42 g42 h42=>?_⟩
  have gJ2:=hJ2.good.2.2
  refine ⟨D41,C42,_,_,rfl,h41.same s42,⟨us42,g42,(nR h42).imp fun _ _ z=>z.same s42⟩,by rw [aD3];exact fJ1,⟨by unfold knds;rw [List.length_map];exact Nat.le_trans gJ2 (by decide),fun r hr'=>fJ2.2 r (zU hr')⟩,fun H43 s43=>⟨_,rfl,qF rfl ?_⟩⟩
  have s3043:=s3041.trans (s42.trans s43)
  have S43:=S30.same s3043
  have W43:=W30.same s3043
  have gFr43:=s3043 _ _ gFr30
  have hcl43:=hcl30.same s3043
  have hsp43:=s3043.aP hsp30
  have hwp43:bM (jW K H43) (.ref pa::wt) (p0::pt):=hwp30.imp fun _ _ z=>z.same s3043
  clear S30 W30 gFr30 hcl30 hps30 hsp30 hwp30 hLd30 hLd41 gLd30 S36 S40 W40 g31 g32 g33 g34 g35 g36 g37 g38 g39 g40 h41 g42 h42 iq2 hal hpa hwt hbh30 s3043 s3041 s3040 s3240 s3640 s3740 s3840 s3036 s3034 s3032 s31 s32 s33 s34 s35 s36 s37 s38 s39 s40 s41 s42 s43 hN2 rN2 hJ2 rJ2 fJ2 gJ2 fJ fJ1 gJ luu nm2 m1 m2 lren cnd2 eps
  obtain ⟨wpp,ewp⟩:∃x,x=V.ref pa::wt:=⟨_,rfl⟩
  obtain ⟨pp,eps⟩:∃x,x=p0::pt:=⟨_,rfl⟩
  rw [←ewp] at hsp43 hwp43
  rw [←eps] at hwp43 hlk pok
  clear hinj p2fm nd2
  have lwpp:=hwp43.len
  have lpp:pp.length≤3:=by rw [eps,List.length_cons];exact lps
  have hab:bM (fun u (p:V × V)=>∃q,u=.ref q∧SqT K H43 q [p.1,p.2]) wpp (pp.map fun p=>(V.str p.1,V.str p.2)):=wK (hwp43.imp fun _ _ ⟨a,ea,ha,_⟩=>⟨a,ea,ha⟩)
  dsimp only [yN,mR,mO,tCB,cT,List.set]
  refine lV [none,none] lK ⟨_,rfl,tp,rfl,⟨_,hsp43⟩,aEp hab ⟨none,none,rfl⟩ (by lia) (tU fun H' s'=>s'.aP hsp43) (mJ fun H' s'=>s'.aP hsp43) (fun i H y=>∃p,pp[i]?=some p∧∃t,y=.ref t∧SqT K H t [.str p.2,.str p.1]) (fun s ⟨p,ep,t,et,ht⟩=>⟨p,ep,t,et,s.aP ht⟩) (fun g ⟨p,ep,t,et,ht⟩=>⟨p,ep,t,et,SqT.kO g ht⟩) (fun i p ep H' R s' r=>?_) fun G H44 ys s44 _ g44 l44 hy=>?_⟩
  ·rw [List.getElem?_map] at ep
   obtain ⟨p',e',rfl⟩:=Option.map_eq_some_iff.mp ep
   exact ⟨_,rfl,_,rfl,by show 2≤sizeLine;decide,fun t H4 _ s4 g4=>r _ H4 s4 ⟨p',e',t,rfl,SqT.of g4⟩⟩
  refine ⟨G,_,rfl,SqL.of g44,fun tq H45 _ s45 g45=>?_⟩
  have s4345:=s44.trans s45
  have htq:oA K H45 (jW K H45) (.ref tq) (pp.map fun p=>(p.2,p.1)):=by
   refine ⟨tq,ys,rfl,SqT.of g45,wK (lU (l44.trans lwpp) fun i y p e1 e2=>?_)⟩
   obtain ⟨p',ep',t,et,ht⟩:=hy i y e1
   rw [ep'] at e2
   cases e2
   obtain ⟨_,e3,_,_,_,n1',n2'⟩:=aZ hwp43 (List.getElem?_eq_getElem (show i<wpp.length by have:=(List.getElem?_eq_some_iff.mp ep').1;lia))
   rw [ep'] at e3
   cases e3
   exact ⟨t,et,s45.aP ht,n2',n1'⟩
  have S45:=S43.same s4345
  dsimp only [nD,bQ,List.set]
  refine ⟨_,rfl,_,rfl,_,rfl,_,rfl,_,rfl,.ref Cl,M,.ref bh,L,.ref tq,cl,hd,others,rows,_,ks,rfl,hcl43.same s4345,by lia,S45.hd,by lia,hok.1.1,⟨os,S45.gM,S45.rM⟩,by lia,⟨us,S45.gL,S45.rL⟩,by lia,hkC,hkd,htq,by rw [List.length_map];lia,aL8 hlk,fun t2 u2 Le H46 nLe s46 g46 hR46=>?_⟩
  refine ⟨t2,_,rfl,SqT.of g46,rfl,_,_,rfl,_,_,rfl,rfl,?_⟩
  have S46:=S45.same s46
  dsimp only [List.set]
  refine ⟨_,rfl,N,_,1,_,rfl,rfl,SqL.of S46.nm,at1 _ _ _,(by show 2≤sizeLine;decide),fun t0 H47 _ s47 g47=>?_⟩
  refine ⟨_,rfl,Fr,_,rfl,SqL.of ((s4345.trans (s46.trans s47)) _ _ gFr43),fun tf2 H48 _ s48 g48=>?_⟩
  refine ⟨(by show 3≤sizeLine;decide),fun t1 H49 _ s49 g49=>?_⟩
  refine ⟨_,rfl,N,_,0,_,rfl,rfl,SqL.of ((s47.trans (s48.trans s49)) _ _ S46.nm),at0 _ _,(by show 2≤sizeLine;decide),fun t4 H50 _ s50 g50=>⟨_,rfl,(by show 4≤sizeLine;decide),fun t3 H51 _ s51 g51=>?_⟩⟩
  have s4951:=s50.trans s51
  have s4851:=s49.trans s4951
  have s4751:=s48.trans s4851
  have s4651:=s47.trans s4751
  have s4551:=s46.trans s4651
  have s4351:=s4345.trans s4551
  have S51:=S43.same s4351
  have W51:=W43.same s4351
  have fT0:Fit hd rows:=⟨by lia,hkd⟩
  have u1':((pp.map fun p=>(p.2,p.1)).map (·.1))=pp.map (·.2):=by rw [List.map_map];rfl
  have u2':((pp.map fun p=>(p.2,p.1)).map (·.2))=pp.map (·.1):=by rw [List.map_map];rfl
  obtain ⟨hJ3,rJ3,fJ3⟩:=joined hN1 hT0 rN1 rT0 lo lr (by lia) l7 (aL8 hlk) (by rw [u1'];exact pok.2.2) (by rw [u2'];exact pok.2.1) (fun c hc _ hm=>by
    obtain ⟨c',hc',e⟩:=List.mem_map.mp hm
    exact (fmnm c'.1 (clfm c' hc')).2 (e ▸ List.mem_map.mpr ⟨c,hc,rfl⟩)) hkC hkd
  have iq3:IsQ K H51 (.ref t3) (.join (.nmd (.table n1) fm) (.table n0) (pp.map fun p=>(p.2,p.1))):=.join (SqT.of g51) (.nmd (s4951.aP (SqT.of g49)) ((IsQ.table (SqT.of g47) hn1).same s4751) (uO (s4851.aP (SqT.of g48)) (fun n h=>(fmnm n h).1) (by lia) (by lia))) ((IsQ.table (SqT.of g50) hn0).same s51) ⟨htq.same s4551 fun _ _ h=>h.same s4551,by rw [List.length_map,eps,List.length_cons];lia,by rw [List.length_map];exact lpp⟩
  dsimp only [zK,aSf,nD,bQ,List.set]
  refine ⟨_,rfl,_,rfl,_,rfl,d,tb,.ref t3,hs2 n0 n1 hd ho,tb2 n0 n1 A1 A2 rows others,_,_,_,rfl,aE8 hne W51.gd S51.hd S51.ho,aM7 hne W51.gt ⟨us,W51.g1,S51.rL⟩ ⟨os,W51.g2,S51.rM⟩,iq3,by show 4≤20;decide,hJ3,rJ3,fJ3,fun D52 H52 _ s52 h52=>?_⟩
  obtain ⟨ue,gLe,hLe⟩:=(hR46.same s4651).same s52
  have lue:=hLe.len
  have fJ31:=fJ3.1
  have gJ3:=hJ3.good.2.2
  refine ⟨_,rfl,Le,ue,_,_,rfl,SqL.of gLe,iJ hLe,by lia,rP hJ3.good,fJ3.2,fun C53 H53 us53 _ s53 g53 h53=>?_⟩
  refine ⟨D52,C53,_,_,rfl,h52.same s53,⟨us53,g53,(nR h53).imp fun _ _ z=>z.same s53⟩,by rw [aD3];exact fJ31,⟨by unfold knds;rw [List.length_map];exact Nat.le_trans gJ3 (by decide),fun r hr'=>fJ3.2 r (zU hr')⟩,fun H54 s54=>?_⟩
  have s5154:=s52.trans (s53.trans s54)
  have S54:=S51.same s5154
  have W54:=W51.same s5154
  refine ⟨_,rfl,aCs rfl ?_⟩
  refine ⟨_,rfl,fun de fe=>?_⟩
  have sA:Same H54 (L2.upd H54 de (.dK [])):=bF fe _
  refine ⟨_,rfl,N,_,0,_,rfl,rfl,SqL.of (sA _ _ S54.nm),at0 _ _,_,rfl,_,rfl,N,_,1,_,rfl,rfl,SqL.of (sA _ _ S54.nm),at1 _ _ _,_,rfl,aH,[(Sum.inr n0,.ref L),(Sum.inr n1,.ref M)],rfl,by show 2≤15;decide,?_⟩
  rw [aJ4 hne']
  have sB:Same H54 (L2.upd (L2.upd H54 de (.dK [])) de (.dK [(Sum.inr n0,.ref L),(Sum.inr n1,.ref M)])):=cN fe sA
  exact ⟨tb,de,_,_,A1,L,A2,M,us,os,rfl,rfl,hne',sB _ _ W54.gt,aH,SqL.of (sB _ _ W54.g1),SqL.of (sB _ _ S54.gL),aMs S54.rL,SqL.of (sB _ _ W54.g2),SqL.of (sB _ _ S54.gM),aMs S54.rM,q _⟩
theorem aI7 (T:Txt w K mg):Ok P w K mg base 27 "head_of" ["heads","question"] (aH2 K):=by
 have g1:=aIy (P:=P) (base:=base) T
 have g2:=aKq (P:=P) (base:=base) T
 have g3:=aKz T g2
 have g4:=aJb T g1 g2
 have g5:=aLp T g1
 have g6:=aEs (P:=P) (base:=base) T
 have g7:=aQx g3
 have fm:Forms P w K mg base:=⟨g7,tV T,aFs T (aKg T g6 g3 (aH6 T g6 g4 g3)) (dH T),aDu T g7 (dH T),tR T g7 (dH T),aF4 T (aL1 T g7 (dH T)) (dH T),aHl T (aPa T g6 g3) (dH T),aIq T (aPl T g6 g3) (dH T),aJt T g1⟩
 have g8:=qD (P:=P) (base:=base) T
 have g9:=aLi (P:=P) (base:=base) T
 have g10:=uT (P:=P) (base:=base) T
 have g11:=aA5 T (aB2 (P:=P) (base:=base) T)
 have g12:=aF3 T g9
 have g13:=aFv T (aBt T) (aBz T g10 g9 (aB8 T g5 g9)) g12 (aCb T) (aFm T g10 g9 g11) (aBy T g12 (aG9 T g9)) (aBk T g12 g11)
 exact aK7 T (rH T g8 g13 g11 (vG T) 20) (aJ1 T (aG8 T fm g6) g8 (aJi T))
theorem all_rows (T:Txt w K mg):Ok P w K mg base 49 "rows_of" ["heads","tables","question"] (xT K)∧Ok P w K mg base 49 "whole" ["heads","tables","question"] (xT K):=by
 have g1:=aI7 (P:=P) (base:=base) T
 have g2:=aI6 T (vG (P:=P) (base:=base) T)
 have g5:=aOn (P:=P) (base:=base) T
 have g3:=aFk T (aDo T (aK1 T g2) (aK4 T g5) g5)
 have g4:=rB T (qD T) g3 g1 20
 exact ⟨aLq T g1 g4,aSd T g1 g4 (uL T (aLs T g2))⟩
theorem aWb {fa:Addr} (T:Txt w K mg) (hmg:mg "law"=some (.ref fa)) :
  ∃fd:FuncData,(∀(s:Shared) (u:Value),BindsTo s fd ⟨[u],[]⟩ [("_law_script",u)])∧∀base:Heap,K.In base→base.Ns mainGlobals mg→pJ P w K mg base CX0 51 fa fd ["_law_script"] (aD8 K):=by
 obtain ⟨f,fd,F,B,m⟩:=T.aZd
 have e:fa=f:=by
  rw [m] at hmg
  injection hmg with e
  injection e with e
  exact e.symm
 subst e
 refine ⟨fd,?_,fun base _ _=>?_⟩
 ·obtain ⟨⟨oc,od,kV,doc,pm,an,cdv,ct,osl,rfl,lk,hcd⟩,kp⟩:=F
  exact fun s u=>.of_eq rfl
 ·have n1:=aGe (P:=P) (base:=base) T
  have n2:=aBn T n1 (aB0 T n1)
  obtain ⟨r1,r2⟩:=all_rows (P:=P) (base:=base) T
  exact aWc F T (aBu T (aDp T)) n1 (aBx T n1 (aCc T)) (aFr T n1) (aHy T n2) (aBd T n1) (aBa T (aLb T)) (aEg T) r1 r2
end
inductive FA (K:PySem.W.Frag) (n:Str) (s:Stmt) (f:Addr):Prop
 |mk {od an:Option Addr} {sl:Array (Option Value)} {kV dc pm cd ct:Value}:PySem.W.nsIn K mainGlobals n=some (some (.ref f))→K.lookup f=some ⟨.type "function",od,.func (PySem.W.fnOf n n (rZ s) (jU s) (aF s) .none kV dc pm an cd ct),sl⟩→PySem.W.codeIn K cd n=true→PySem.W.keepIn K (.ref f)=true→FA K n s f
section
variable {K:PySem.W.Frag} {h:Heap} {mg:Str→Option Value} {n:Str} {s:Stmt} {f:Addr} {ps:List Str}
theorem jB (X:K.In h) (G:h.Ns mainGlobals mg) (a:FA K n s f):mg n=some (.ref f):=by
 obtain ⟨a,_,_,_⟩:=a
 exact PySem.W.mg_of X G a
theorem bG (X:K.In h) (G:h.Ns mainGlobals mg) (a:FA K n s f) (b:∀(kV doc pm:Value) (an:Option Addr) (cdv ct:Value) (us:List Value),us.length=ps.length→bindArgs (PySem.W.fnOf n n (rZ s) (jU s) (aF s) .none kV doc pm an cdv ct) ⟨us,[]⟩=pure (ps.zip us)):Dn K mg n s ps:=by
 have m:=jB X G a
 obtain ⟨_,l,c,k⟩:=a
 exact ⟨f,_,aSy l c k,(aSy l c k).binds b,m⟩
theorem aH5 (X:K.In h) (G:h.Ns mainGlobals mg) (a:FA K n s f):∃f o,(∃u,mg n=some u∧RelV (.ref f) u)∧K.lookup f=some o∧o.cls=.type "function":=by
 have m:=jB X G a
 obtain ⟨_,l,c,k⟩:=a
 exact ⟨f,_,⟨_,m,rfl⟩,l,rfl⟩
end
theorem ln0 {P:List Value→Prop} (h:P []):∀us:List Value,us.length=0→P us
 |[],_=>h
theorem ln1 {P:List Value→Prop} (h:∀a0,P [a0]):∀us:List Value,us.length=1→P us
 |[a0],_=>h a0
theorem ln2 {P:List Value→Prop} (h:∀a0 a1,P [a0,a1]):∀us:List Value,us.length=2→P us
 |[a0,a1],_=>h a0 a1
theorem ln3 {P:List Value→Prop} (h:∀a0 a1 a2,P [a0,a1,a2]):∀us:List Value,us.length=3→P us
 |[a0,a1,a2],_=>h a0 a1 a2
theorem ln4 {P:List Value→Prop} (h:∀a0 a1 a2 a3,P [a0,a1,a2,a3]):∀us:List Value,us.length=4→P us
 |[a0,a1,a2,a3],_=>h a0 a1 a2 a3
theorem ln5 {P:List Value→Prop} (h:∀a0 a1 a2 a3 a4,P [a0,a1,a2,a3,a4]):∀us:List Value,us.length=5→P us
 |[a0,a1,a2,a3,a4],_=>h a0 a1 a2 a3 a4
theorem ln6 {P:List Value→Prop} (h:∀a0 a1 a2 a3 a4 a5,P [a0,a1,a2,a3,a4,a5]):∀us:List Value,us.length=6→P us
 |[a0,a1,a2,a3,a4,a5],_=>h a0 a1 a2 a3 a4 a5
local macro_rules
 |`(tactic| trivial)=>`(tactic| first|exact (fun _ _ _ _ _ _=>ln1 fun _=>rfl)|exact (fun _ _ _ _ _ _=>ln2 fun _ _=>rfl)|exact (fun _ _ _ _ _ _=>ln3 fun _ _ _=>rfl)|exact (fun _ _ _ _ _ _=>ln4 fun _ _ _ _=>rfl)|exact (fun _ _ _ _ _ _=>ln0 rfl)|exact (fun _ _ _ _ _ _=>ln5 fun _ _ _ _ _=>rfl)|exact (fun _ _ _ _ _ _=>ln6 fun _ _ _ _ _ _=>rfl))
theorem aXf {K:PySem.W.Frag} {h:Heap} {mg:Str→Option Value} (X:K.In h) (G:h.Ns mainGlobals mg) {w:World} {f0 f1 f2 f3 f4 f5 f6 f7 f8 f9 f10 f11 f12 f13 f14 f15 f16 f17 f18 f19 f20 f21 f22 f23 f24 f25 f26 f27 f28 f29 f30 f31 f32 f33 f34 f35 f36 f37 f38 f39 f40 f41 f42 f43 f44 f45 f46 f47 f48 f49 f50 f51 f52 f53 f54 f55 f56 f57 f58 f59 f60 f61 f62 f63 f64 f65 f66 f67 f68 f69 f70 f71 f72 f73:Addr} {mW:Addr} {fP:Obj} {mU:Array Value} {wJ:Nat} {aKh:Tok} {zA:Tok} {zL:Tok} {aHp:Addr} {vP:Obj} {aHc:Array Value} {aR1:Nat} {vN:Addr} {lG:Obj} {wH:Array Value} {aDz:Nat} {aNh:Addr} {zO:Obj} {aNc:Array Value} {aUf:Nat} {aBs:Tok} {aBr:Tok} {aBq:Tok} {aGi:Tok} {aD0:Tok} {aE4:Tok} {aD9:Tok} {uY:Addr} {wB:Obj} {aIi:Array DictEntry} {aPu:Nat} {tt14_0:Addr} {to14_0:Obj} {ti14_0:Array Value} {tn14_0:Nat} {tt14_1:Addr} {to14_1:Obj} {ti14_1:Array Value} {tn14_1:Nat} {tt14_2:Addr} {to14_2:Obj} {ti14_2:Array Value} {tn14_2:Nat} {tt14_3:Addr} {to14_3:Obj} {ti14_3:Array Value} {tn14_3:Nat} {tt14_4:Addr} {to14_4:Obj} {ti14_4:Array Value} {tn14_4:Nat} {tt14_5:Addr} {to14_5:Obj} {ti14_5:Array Value} {tn14_5:Nat} {tt14_6:Addr} {to14_6:Obj} {ti14_6:Array Value} {tn14_6:Nat}
  (a0:FA K "is_whole" uR f0)
  (a1:FA K "is_word" xY f1)
  (a2:FA K "is_one_of" qT f2)
  (a3:FA K "is_tuple_of" jV f3)
  (a4:FA K "are_unlike" pW f4)
  (a5:FA K "names_of" uM f5)
  (a6:FA K "is_name" xZ f6)
  (a7:FA K "is_value" uF f7)
  (a8:FA K "kind_of" wO f8)
  (a9:FA K "is_other" uW f9)
  (a10:FA K "is_test" xV f10)
  (a11:FA K "is_pair" yC f11)
  (a12:FA K "is_sum" aAl f12)
  (a13:FA K "is_key" aAc f13)
  (a14:FA K "is_many" xH f14)
  (a15:FA K "are_tests" rA f15)
  (a16:FA K "are_names" qQ f16)
  (a17:FA K "are_group_names" iQ f17)
  (a18:FA K "are_pairs" qX f18)
  (a19:FA K "are_sums" uH f19)
  (a20:FA K "are_keys" uJ f20)
  (a21:FA K "may_be_question" iI f21)
  (a22:FA K "has_form" uD f22)
  (a23:FA K "questions_in" mF f23)
  (a24:FA K "own_size" uB f24)
  (a25:FA K "checked" xM f25)
  (a26:FA K "kind_in" xJ f26)
  (a27:FA K "need_like_kinds" iB f27)
  (a28:FA K "need_unlike" nJ f28)
  (a29:FA K "table_head" pY f29)
  (a30:FA K "other_kind" pI f30)
  (a31:FA K "where_head" iC f31)
  (a32:FA K "keep_head" mX f32)
  (a33:FA K "named_head" pK f33)
  (a34:FA K "join_head" gR f34)
  (a35:FA K "sum_kind" uN f35)
  (a36:FA K "group_head" lF f36)
  (a37:FA K "first_head" pC f37)
  (a38:FA K "head_here" rF f38)
  (a39:FA K "head_within" jR f39)
  (a40:FA K "head_of" xO f40)
  (a41:FA K "place_of" uV f41)
  (a42:FA K "places_of" mY f42)
  (a43:FA K "picked" vR f43)
  (a44:FA K "rows_by" yD f44)
  (a45:FA K "compares" zV f45)
  (a46:FA K "holds" aNr f46)
  (a47:FA K "where_rows" oZ f47)
  (a48:FA K "keep_rows" qP f48)
  (a49:FA K "join_rows" mV f49)
  (a50:FA K "summed" aJe f50)
  (a51:FA K "group_rows" oX f51)
  (a52:FA K "sorted_by" qR f52)
  (a53:FA K "ordered" xN f53)
  (a54:FA K "first_rows" pG f54)
  (a55:FA K "rows_here" qN f55)
  (a56:FA K "rows_within" gH f56)
  (a57:FA K "in_answer_order" gZ f57)
  (a58:FA K "rows_of" wY f58)
  (a59:FA K "whole" aFp f59)
  (a60:FA K "_law_seed" rO f60)
  (a61:FA K "_law_begin" pP f61)
  (a62:FA K "_law_next" rN f62)
  (a63:FA K "_law_words" pX f63)
  (a64:FA K "_law_names" lE f64)
  (a65:FA K "_law_great" pF f65)
  (a66:FA K "_law_value" pN f66)
  (a67:FA K "_law_head" qM f67)
  (a68:FA K "_law_row" oY f68)
  (a69:FA K "_law_at" yF f69)
  (a70:FA K "_law_joined" dF f70)
  (a71:FA K "_law_same" qY f71)
  (a72:FA K "_law_pairs" lC f72)
  (a73:FA K "law" wG f73)
  (q0:PySem.W.nsIn K mainGlobals "QUESTION_WORDS"=some (some (.ref mW))) (r0:K.lookup mW=some fP) (t0:fP.cls=.type "tuple") (y0:fP.dict=none) (u0:fP.data=.seq mU wJ) (v0:Vals [.str "and",.str "by",.str "count",.str "down",.str "first",.str "group",.str "join",.str "keep",.str "least",.str "most",.str "named",.str "on",.str "sum",.str "table",.str "up",.str "where",.str "with"] mU.toList)
  (q1:PySem.W.nsIn K mainGlobals "LETTERS"=some (some (.str "abcdefghijklmnopqrstuvwxyz" aKh)))
  (q2:PySem.W.nsIn K mainGlobals "MOST_LETTERS"=some (some (.int 8 zA)))
  (q3:PySem.W.nsIn K mainGlobals "MOST_COLUMNS"=some (some (.int 8 zL)))
  (q4:PySem.W.nsIn K mainGlobals "SIGNS"=some (some (.ref aHp))) (r4:K.lookup aHp=some vP) (t4:vP.cls=.type "tuple") (y4:vP.dict=none) (u4:vP.data=.seq aHc aR1) (v4:Vals [.str "=",.str "<",.str ">",.str "!"] aHc.toList)
  (q5:PySem.W.nsIn K mainGlobals "SUM_WORDS"=some (some (.ref vN))) (r5:K.lookup vN=some lG) (t5:lG.cls=.type "tuple") (y5:lG.dict=none) (u5:lG.data=.seq wH aDz) (v5:Vals [.str "count",.str "sum",.str "least",.str "most"] wH.toList)
  (q6:PySem.W.nsIn K mainGlobals "WAYS"=some (some (.ref aNh))) (r6:K.lookup aNh=some zO) (t6:zO.cls=.type "tuple") (y6:zO.dict=none) (u6:zO.data=.seq aNc aUf) (v6:Vals [.str "up",.str "down"] aNc.toList)
  (q7:PySem.W.nsIn K mainGlobals "MOST_TESTS"=some (some (.int 3 aBs)))
  (q8:PySem.W.nsIn K mainGlobals "MOST_NAMES"=some (some (.int 8 aBr)))
  (q9:PySem.W.nsIn K mainGlobals "MOST_PAIRS"=some (some (.int 3 aBq)))
  (q10:PySem.W.nsIn K mainGlobals "MOST_SUMS"=some (some (.int 4 aGi)))
  (q11:PySem.W.nsIn K mainGlobals "MOST_KEYS"=some (some (.int 3 aD0)))
  (q12:PySem.W.nsIn K mainGlobals "MOST_ROWS"=some (some (.int 60 aE4)))
  (q13:PySem.W.nsIn K mainGlobals "MOST_SIZE"=some (some (.int 20 aD9)))
  (q14:PySem.W.nsIn K mainGlobals "FORMS"=some (some (.ref uY))) (r14:K.lookup uY=some wB) (x14:wB.ExactDict) (o14:(uY == sysModules)=false) (u14:wB.data=.dict aIi aPu) (h14:∀P:Program,PH P w aIi.toList [("table",Value.ref tt14_0),("where",Value.ref tt14_1),("keep",Value.ref tt14_2),("named",Value.ref tt14_3),("join",Value.ref tt14_4),("group",Value.ref tt14_5),("first",Value.ref tt14_6)])
  (r14_0:K.lookup tt14_0=some to14_0) (t14_0:to14_0.cls=.type "tuple") (y14_0:to14_0.dict=none) (u14_0:to14_0.data=.seq ti14_0 tn14_0) (v14_0:Vals [.ref f6] ti14_0.toList)
  (r14_1:K.lookup tt14_1=some to14_1) (t14_1:to14_1.cls=.type "tuple") (y14_1:to14_1.dict=none) (u14_1:to14_1.data=.seq ti14_1 tn14_1) (v14_1:Vals [.ref f21,.ref f15] ti14_1.toList)
  (r14_2:K.lookup tt14_2=some to14_2) (t14_2:to14_2.cls=.type "tuple") (y14_2:to14_2.dict=none) (u14_2:to14_2.data=.seq ti14_2 tn14_2) (v14_2:Vals [.ref f21,.ref f16] ti14_2.toList)
  (r14_3:K.lookup tt14_3=some to14_3) (t14_3:to14_3.cls=.type "tuple") (y14_3:to14_3.dict=none) (u14_3:to14_3.data=.seq ti14_3 tn14_3) (v14_3:Vals [.ref f21,.ref f16] ti14_3.toList)
  (r14_4:K.lookup tt14_4=some to14_4) (t14_4:to14_4.cls=.type "tuple") (y14_4:to14_4.dict=none) (u14_4:to14_4.data=.seq ti14_4 tn14_4) (v14_4:Vals [.ref f21,.ref f21,.ref f18] ti14_4.toList)
  (r14_5:K.lookup tt14_5=some to14_5) (t14_5:to14_5.cls=.type "tuple") (y14_5:to14_5.dict=none) (u14_5:to14_5.data=.seq ti14_5 tn14_5) (v14_5:Vals [.ref f21,.ref f17,.ref f19] ti14_5.toList)
  (r14_6:K.lookup tt14_6=some to14_6) (t14_6:to14_6.cls=.type "tuple") (y14_6:to14_6.dict=none) (u14_6:to14_6.data=.seq ti14_6 tn14_6) (v14_6:Vals [.ref f21,.ref f20,.ref f14] ti14_6.toList)
  (z0:PySem.W.nsIn K mainGlobals "abs"=some none)
  (z1:PySem.W.nsIn K mainGlobals "all"=some none)
  (z2:PySem.W.nsIn K mainGlobals "any"=some none)
  (z3:PySem.W.nsIn K mainGlobals "bool"=some none)
  (z4:PySem.W.nsIn K mainGlobals "divmod"=some none)
  (z5:PySem.W.nsIn K mainGlobals "enumerate"=some none)
  (z6:PySem.W.nsIn K mainGlobals "int"=some none)
  (z7:PySem.W.nsIn K mainGlobals "isinstance"=some none)
  (z8:PySem.W.nsIn K mainGlobals "len"=some none)
  (z9:PySem.W.nsIn K mainGlobals "list"=some none)
  (z10:PySem.W.nsIn K mainGlobals "max"=some none)
  (z11:PySem.W.nsIn K mainGlobals "min"=some none)
  (z12:PySem.W.nsIn K mainGlobals "range"=some none)
  (z13:PySem.W.nsIn K mainGlobals "reversed"=some none)
  (z14:PySem.W.nsIn K mainGlobals "set"=some none)
  (z15:PySem.W.nsIn K mainGlobals "sorted"=some none)
  (z16:PySem.W.nsIn K mainGlobals "str"=some none)
  (z17:PySem.W.nsIn K mainGlobals "sum"=some none)
  (z18:PySem.W.nsIn K mainGlobals "tuple"=some none)
  (z19:PySem.W.nsIn K mainGlobals "zip"=some none):Txt w K mg:=
 ⟨PySem.W.mg_none_of X G z0,
  PySem.W.mg_none_of X G z1,
  PySem.W.mg_none_of X G z2,
  PySem.W.mg_none_of X G z3,
  PySem.W.mg_none_of X G z4,
  PySem.W.mg_none_of X G z5,
  PySem.W.mg_none_of X G z6,
  PySem.W.mg_none_of X G z7,
  PySem.W.mg_none_of X G z8,
  PySem.W.mg_none_of X G z9,
  PySem.W.mg_none_of X G z10,
  PySem.W.mg_none_of X G z11,
  PySem.W.mg_none_of X G z12,
  PySem.W.mg_none_of X G z13,
  PySem.W.mg_none_of X G z14,
  PySem.W.mg_none_of X G z15,
  PySem.W.mg_none_of X G z16,
  PySem.W.mg_none_of X G z17,
  PySem.W.mg_none_of X G z18,
  PySem.W.mg_none_of X G z19,
  ⟨_,PySem.W.mg_of X G q0,fun H=>.inr ⟨_,_,_,r0,t0,y0,u0,by have e:=v0.length;simp only [Array.length_toList] at e;rw [←e];exact small (by decide),v0⟩⟩,
  ⟨_,PySem.W.mg_of X G q1,_,rfl⟩,
  ⟨_,PySem.W.mg_of X G q2,_,rfl⟩,
  ⟨_,PySem.W.mg_of X G q3,_,rfl⟩,
  ⟨_,PySem.W.mg_of X G q4,fun H=>.inr ⟨_,_,_,r4,t4,y4,u4,by have e:=v4.length;simp only [Array.length_toList] at e;rw [←e];exact small (by decide),v4⟩⟩,
  ⟨_,PySem.W.mg_of X G q5,fun H=>.inr ⟨_,_,_,r5,t5,y5,u5,by have e:=v5.length;simp only [Array.length_toList] at e;rw [←e];exact small (by decide),v5⟩⟩,
  ⟨_,PySem.W.mg_of X G q6,fun H=>.inr ⟨_,_,_,r6,t6,y6,u6,by have e:=v6.length;simp only [Array.length_toList] at e;rw [←e];exact small (by decide),v6⟩⟩,
  ⟨_,PySem.W.mg_of X G q7,_,rfl⟩,
  ⟨_,PySem.W.mg_of X G q8,_,rfl⟩,
  ⟨_,PySem.W.mg_of X G q9,_,rfl⟩,
  ⟨_,PySem.W.mg_of X G q10,_,rfl⟩,
  ⟨_,PySem.W.mg_of X G q11,_,rfl⟩,
  ⟨_,PySem.W.mg_of X G q12,_,rfl⟩,
  ⟨_,PySem.W.mg_of X G q13,_,rfl⟩,
  ⟨uY,tt14_0,tt14_1,tt14_2,tt14_3,tt14_4,tt14_5,tt14_6,PySem.W.mg_of X G q14,⟨wB,r14,o14,fun P=>aOx x14 u14 (h14 P) (by show (List.map (fun x:Str × Value=>x.1) [("table",Value.ref tt14_0),("where",Value.ref tt14_1),("keep",Value.ref tt14_2),("named",Value.ref tt14_3),("join",Value.ref tt14_4),("group",Value.ref tt14_5),("first",Value.ref tt14_6)]).Nodup;exact (by decide +kernel:(["table","where","keep","named","join","group","first"]:List Str).Nodup))⟩,⟨f6,fun H=>.inr ⟨_,_,_,r14_0,t14_0,y14_0,u14_0,by have e:=v14_0.length;simp only [Array.length_toList] at e;rw [←e];exact small (by show 1≤1000;decide),v14_0⟩,jB X G a6⟩,⟨f21,f15,fun H=>.inr ⟨_,_,_,r14_1,t14_1,y14_1,u14_1,by have e:=v14_1.length;simp only [Array.length_toList] at e;rw [←e];exact small (by show 2≤1000;decide),v14_1⟩,jB X G a21,jB X G a15⟩,⟨f21,f16,fun H=>.inr ⟨_,_,_,r14_2,t14_2,y14_2,u14_2,by have e:=v14_2.length;simp only [Array.length_toList] at e;rw [←e];exact small (by show 2≤1000;decide),v14_2⟩,jB X G a21,jB X G a16⟩,⟨f21,f16,fun H=>.inr ⟨_,_,_,r14_3,t14_3,y14_3,u14_3,by have e:=v14_3.length;simp only [Array.length_toList] at e;rw [←e];exact small (by show 2≤1000;decide),v14_3⟩,jB X G a21,jB X G a16⟩,⟨f21,f21,f18,fun H=>.inr ⟨_,_,_,r14_4,t14_4,y14_4,u14_4,by have e:=v14_4.length;simp only [Array.length_toList] at e;rw [←e];exact small (by show 3≤1000;decide),v14_4⟩,jB X G a21,jB X G a21,jB X G a18⟩,⟨f21,f17,f19,fun H=>.inr ⟨_,_,_,r14_5,t14_5,y14_5,u14_5,by have e:=v14_5.length;simp only [Array.length_toList] at e;rw [←e];exact small (by show 3≤1000;decide),v14_5⟩,jB X G a21,jB X G a17,jB X G a19⟩,⟨f21,f20,f14,fun H=>.inr ⟨_,_,_,r14_6,t14_6,y14_6,u14_6,by have e:=v14_6.length;simp only [Array.length_toList] at e;rw [←e];exact small (by show 3≤1000;decide),v14_6⟩,jB X G a21,jB X G a20,jB X G a14⟩⟩,
  aH5 X G a6,
  aH5 X G a10,
  aH5 X G a11,
  aH5 X G a12,
  aH5 X G a13,
  bG X G a0 (by trivial),
  bG X G a1 (by trivial),
  bG X G a2 (by trivial),
  bG X G a3 (by trivial),
  bG X G a4 (by trivial),
  bG X G a5 (by trivial),
  bG X G a6 (by trivial),
  bG X G a7 (by trivial),
  bG X G a8 (by trivial),
  bG X G a9 (by trivial),
  bG X G a10 (by trivial),
  bG X G a11 (by trivial),
  bG X G a12 (by trivial),
  bG X G a13 (by trivial),
  bG X G a14 (by trivial),
  bG X G a15 (by trivial),
  bG X G a16 (by trivial),
  bG X G a17 (by trivial),
  bG X G a18 (by trivial),
  bG X G a19 (by trivial),
  bG X G a20 (by trivial),
  bG X G a21 (by trivial),
  bG X G a22 (by trivial),
  bG X G a23 (by trivial),
  bG X G a24 (by trivial),
  bG X G a25 (by trivial),
  bG X G a26 (by trivial),
  bG X G a27 (by trivial),
  bG X G a28 (by trivial),
  bG X G a29 (by trivial),
  bG X G a30 (by trivial),
  bG X G a31 (by trivial),
  bG X G a32 (by trivial),
  bG X G a33 (by trivial),
  bG X G a34 (by trivial),
  bG X G a35 (by trivial),
  bG X G a36 (by trivial),
  bG X G a37 (by trivial),
  bG X G a38 (by trivial),
  bG X G a39 (by trivial),
  bG X G a40 (by trivial),
  bG X G a41 (by trivial),
  bG X G a42 (by trivial),
  bG X G a43 (by trivial),
  bG X G a44 (by trivial),
  bG X G a45 (by trivial),
  bG X G a46 (by trivial),
  bG X G a47 (by trivial),
  bG X G a48 (by trivial),
  bG X G a49 (by trivial),
  bG X G a50 (by trivial),
  bG X G a51 (by trivial),
  bG X G a52 (by trivial),
  bG X G a53 (by trivial),
  bG X G a54 (by trivial),
  bG X G a55 (by trivial),
  bG X G a56 (by trivial),
  bG X G a57 (by trivial),
  bG X G a58 (by trivial),
  bG X G a59 (by trivial),
  bG X G a60 (by trivial),
  bG X G a61 (by trivial),
  bG X G a62 (by trivial),
  bG X G a63 (by trivial),
  bG X G a64 (by trivial),
  bG X G a65 (by trivial),
  bG X G a66 (by trivial),
  bG X G a67 (by trivial),
  bG X G a68 (by trivial),
  bG X G a69 (by trivial),
  bG X G a70 (by trivial),
  bG X G a71 (by trivial),
  bG X G a72 (by trivial),
  bG X G a73 (by trivial)⟩
end My
open PySem PySem.W PyProof.Rows
def PySem.W.Fast.tw9864042873396298986:=0
def PySem.W.Fast.tw10928050859143646963:=0
def PySem.W.Fast.tw16123187526314877048:=0
def PySem.W.Fast.tw18241815617428843662:=0
def PySem.W.Fast.tw495042883419690766:=0
def PySem.W.Fast.tw17440408129221388458:=0
def PySem.W.Fast.tw1397463471113560194:=0
def PySem.W.Fast.tw232366450816814613:=0
def PySem.W.Fast.tw7058970458701624426:=0
def PySem.W.Fast.tw9799062186303083038:=0
def PySem.W.Fast.tw5275233220849950502:=0
def PySem.W.Fast.tw5532178689936086557:=0
def PySem.W.Fast.tw3855269246076144913:=0
def PySem.W.Fast.tw9130442372161761997:=0
def PySem.W.Fast.tw16743848760314199423:=0
def PySem.W.Fast.tw16882828781954616534:=0
def PySem.W.Fast.tw11418909861425969377:=0
def PySem.W.Fast.tw12795460213555411970:=0
def PySem.W.Fast.tw7224063191191918728:=0
def PySem.W.Fast.tw536257207787563287:=0
def PySem.W.Fast.tw12495084714690455073:=0
def PySem.W.Fast.tw6451432202859592287:=0
def PySem.W.Fast.tw188802709440211985:=0
def PySem.W.Fast.tw9626032858610401822:=0
def PySem.W.Fast.tw5331944047397918327:=0
def PySem.W.Fast.tw3242224547818477065:=0
def PySem.W.Fast.tw10492608033481241440:=0
def PySem.W.Fast.tw18018081603025083199:=0
def PySem.W.Fast.tw8158578391421542915:=0
def PySem.W.Fast.tw6629773823642687679:=0
def PySem.W.Fast.tw1408904650344863320:=0
def PySem.W.Fast.tw16304869332674319975:=0
def PySem.W.Fast.tw17366994492290506232:=0
def PySem.W.Fast.tw6802315854094215202:=0
def PySem.W.Fast.tw11639464735863238822:=0
def PySem.W.Fast.tw2480408904312669250:=0
def PySem.W.Fast.tw15974600905804637272:=0
def PySem.W.Fast.tw2081712748654416176:=0
def PySem.W.Fast.tw11389394294940655916:=0
def PySem.W.Fast.tw17690546339945493553:=0
def PySem.W.Fast.tw758939546227446654:=0
def PySem.W.Fast.tw12445250974128661713:=0
def PySem.W.Fast.tw7175017219317283742:=0
def PySem.W.Fast.tw10193282267470879995:=0
def PySem.W.Fast.tw15573104447788246489:=0
def PySem.W.Fast.tw3492757884240307046:=0
def PySem.W.Fast.tw7806893620775343508:=0
def PySem.W.Fast.tw4913020946238042899:=0
def PySem.W.Fast.tw371424940944176159:=0
def PySem.W.Fast.tw14661559811517567454:=0
def PySem.W.Fast.tw10065448377284846466:=0
def PySem.W.Fast.tw1845859159694283120:=0
def PySem.W.Fast.tw15527187895972120127:=0
def PySem.W.Fast.tw12320595465777300950:=0
def PySem.W.Fast.tw13532959032130948818:=0
def PySem.W.Fast.tw17745860959088508717:=0
def PySem.W.Fast.tw9604288681768654026:=0
def PySem.W.Fast.tw12404571129523534606:=0
def PySem.W.Fast.tw5400147754635462361:=0
def PySem.W.Fast.tw11425091671899334002:=0
def PySem.W.Fast.tw10982297608193568099:=0
def PySem.W.Fast.tw16739234206449576392:=0
def PySem.W.Fast.tw7453344370293284106:=0
def PySem.W.Fast.tw1804663020032206812:=0
def PySem.W.Fast.tw13617950108222058867:=0
def PySem.W.Fast.tw81783740496672881:=0
def PySem.W.Fast.tw7650002248080887287:=0
def PySem.W.Fast.tw11784205649331390973:=0
def PySem.W.Fast.tw17701381540560600266:=0
def PySem.W.Fast.tw9090817908451608022:=0
def PySem.W.Fast.tw14545696520061060026:=0
def PySem.W.Fast.tw9055111099199576099:=0
def PySem.W.Fast.tw550843907135949431:=0
def PySem.W.Fast.tw12499441547175727452:=0
def PySem.W.Fast.tw4750186166244845137:=0
def PySem.W.Fast.tw5809072287759115736:=0
def PySem.W.Fast.tw1102215735829799358:=0
def PySem.W.Fast.tw6701467766534577754:=0
def PySem.W.Fast.tw7706793852489605593:=0
def PySem.W.Fast.tw12366546695443258876:=0
def PySem.W.Fast.tw10863371214508366655:=0
def PySem.W.Fast.tw14004949564202075116:=0
def PySem.W.Fast.tw13035564160669931449:=0
def PySem.W.Fast.tw4340661662874543355:=0
def PySem.W.Fast.tw4327409309088893399:=0
def PySem.W.Fast.tw4733580498080352864:=0
def PySem.W.Fast.tw16536600907136128931:=0
def PySem.W.Fast.tw5169418231138843041:=0
def PySem.W.Fast.tw11872797870667947468:=0
def PySem.W.Fast.tw10944207754222472915:=0
def PySem.W.Fast.tw15351100456615788946:=0
def PySem.W.Fast.tw2581291958368761694:=0
def PySem.W.Fast.tw11939304277384790648:=0
def PySem.W.Fast.tw1768040862161403172:=0
def PySem.W.Fast.tw10604729334607125802:=0
def PySem.W.Fast.tw15987779185505957597:=0
def PySem.W.Fast.tw1878611134815282811:=0
def PySem.W.Fast.tw5866907986764500243:=0
def PySem.W.Fast.tw15371373204791307666:=0
def PySem.W.Fast.tw5686974364952812835:=0
def PySem.W.Fast.tw9484937247812885889:=0
def PySem.W.Fast.tw6511239383243803615:=0
def PySem.W.Fast.tw16317983887919367823:=0
def PySem.W.Fast.tw18112757395397285094:=0
def PySem.W.Fast.tw4325322666235904101:=0
def PySem.W.Fast.tw9165044737932749600:=0
def PySem.W.Fast.tw194004450122425009:=0
def PySem.W.Fast.tw16506924224955403698:=0
def PySem.W.Fast.tw3660896639819260807:=0
def PySem.W.Fast.tw15069888973624938290:=0
def PySem.W.Fast.tw15740798216406742480:=0
def PySem.W.Fast.tw5369807077881118733:=0
def PySem.W.Fast.tw716204717598598750:=0
def PySem.W.Fast.tw3425836946240903107:=0
def PySem.W.Fast.tw5023107466082814789:=0
def PySem.W.Fast.tw5113037307869439386:=0
def PySem.W.Fast.tw3181660983062236720:=0
def PySem.W.Fast.tw17206157764962777908:=0
def PySem.W.Fast.tw12028696583448977163:=0
def PySem.W.Fast.tw11865466178579258491:=0
def PySem.W.Fast.tw394426969142793902:=0
def PySem.W.Fast.tw1153058465951690495:=0
def PySem.W.Fast.tw585160478126103919:=0
def PySem.W.Fast.tw14795187378870164707:=0
def PySem.W.Fast.tw7949854969432374293:=0
def PySem.W.Fast.tw1159236222703220135:=0
def PySem.W.Fast.tw15983687272507507899:=0
def PySem.W.Fast.tw10259804764274747637:=0
def PySem.W.Fast.tw5349884074331576869:=0
def PySem.W.Fast.tw3797890003736895270:=0
def PySem.W.Fast.tw8756072047462969974:=0
def PySem.W.Fast.tw6494231767913396654:=0
def PySem.W.Fast.tw5664047444219506590:=0
def PySem.W.Fast.tw4293309982242882923:=0
def PySem.W.Fast.tw16033915501476456154:=0
def PySem.W.Fast.tw15656075050364785169:=0
def PySem.W.Fast.tw2331024016539632229:=0
def PySem.W.Fast.tw9420811635575034461:=0
def PySem.W.Fast.tw8184489132695824642:=0
def PySem.W.Fast.tw10848945709112552418:=0
def PySem.W.Fast.tw11024107777769808481:=0
def PySem.W.Fast.tw14305030758827320479:=0
def PySem.W.Fast.tw15207348480031537008:=0
def PySem.W.Fast.tw17089644941453281716:=0
def PySem.W.Fast.tw18212488710892224195:=0
def PySem.W.Fast.tw10583310320281194590:=0
def PySem.W.Fast.tw7938398116217776138:=0
def PySem.W.Fast.tw2903256511007527919:=0
def PySem.W.Fast.tw7121133902982455404:=0
def PySem.W.Fast.tw2187297951495908323:=0
def PySem.W.Fast.tw6984802620820295090:=0
def PySem.W.Fast.tw13216073769589122646:=0
def PySem.W.Fast.tw11725684928610242739:=0
def PySem.W.Fast.tw1553269931903611925:=0
def PySem.W.Fast.tw13506028045623072920:=0
def PySem.W.Fast.tw7514009242246903483:=0
def PySem.W.Fast.tw3542803151691923532:=0
def PySem.W.Fast.tw6898400811356885834:=0
def PySem.W.Fast.tw11803312180909417773:=0
def PySem.W.Fast.tw9394719711702504428:=0
def PySem.W.Fast.tw15613516580613751635:=0
def PySem.W.Fast.tw4204100053859656981:=0
def PySem.W.Fast.tw6112765416948611353:=0
def PySem.W.Fast.tw14630938006532558652:=0
def PySem.W.Fast.tw4810847603428046556:=0
def PySem.W.Fast.tw370741620942833791:=0
def PySem.W.Fast.tw13713708861787162958:=0
def PySem.W.Fast.tw10277399542789009553:=0
def PySem.W.Fast.tw5836204491924752312:=0
def PySem.W.Fast.tw12462989682252593116:=0
def PySem.W.Fast.tw3117924069918315335:=0
def PySem.W.Fast.tw4157187910305415248:=0
def PySem.W.Fast.tw14535727351926777975:=0
def PySem.W.Fast.tw7324093784899645825:=0
def PySem.W.Fast.tw5349907720247755657:=0
def PySem.W.Fast.tw6922226018195278009:=0
def PySem.W.Fast.tw15038863766134654059:=0
def PySem.W.Fast.tw17849259768615973989:=0
def PySem.W.Fast.tw12693335178465726126:=0
def PySem.W.Fast.tw16215059617943696927:=0
def PySem.W.Fast.tw6756167103367713250:=0
def PySem.W.Fast.tw13971907450666388046:=0
def PySem.W.Fast.tw5766606992915141703:=0
def PySem.W.Fast.tw5776522174057842654:=0
def PySem.W.Fast.tw1338351626387502131:=0
def PySem.W.Fast.tw997008530298587317:=0
def PySem.W.Fast.tw10194394964256581600:=0
def PySem.W.Fast.tw13589426465128100698:=0
def PySem.W.Fast.tw13486467594887419987:=0
def PySem.W.Fast.tw13644420480991269827:=0
def PySem.W.Fast.tw4656320917267491975:=0
def PySem.W.Fast.tw16924950245685099278:=0
def PySem.W.Fast.tw8802428972864799526:=0
def PySem.W.Fast.tw3909303688363613374:=0
def PySem.W.Fast.tw11689671003447690366:=0
def PySem.W.Fast.tw8995799565798398316:=0
def PySem.W.Fast.tw3067304497937439387:=0
def PySem.W.Fast.tw4054259666939527190:=0
def PySem.W.Fast.tw13481015184821528006:=0
def PySem.W.Fast.tw8216122357127008320:=0
def PySem.W.Fast.tw226150718287226056:=0
def PySem.W.Fast.tw14449183538212886706:=0
def PySem.W.Fast.tw17162557102313347223:=0
def PySem.W.Fast.tw15107931288708503569:=0
def PySem.W.Fast.tw13604857677148407069:=0
def PySem.W.Fast.tw1563670955052655963:=0
def PySem.W.Fast.tw9845472554295102424:=0
def PySem.W.Fast.tw4284731254044487781:=0
def PySem.W.Fast.tw10572515517223194398:=0
def PySem.W.Fast.tw6129200512667658664:=0
def PySem.W.Fast.tw14259416934734430257:=0
def PySem.W.Fast.tw15332555157063313055:=0
def PySem.W.Fast.tw5261704449286540223:=0
def PySem.W.Fast.tw6303173088826538053:=0
def PySem.W.Fast.tw7006851673046589503:=0
def PySem.W.Fast.tw17167256759548924305:=0
def PySem.W.Fast.tw11287693945975121444:=0
def PySem.W.Fast.tw7087423159356568569:=0
def PySem.W.Fast.tw16079140954737336409:=0
def PySem.W.Fast.tw2751086436442920296:=0
def PySem.W.Fast.tw2328382361405849001:=0
def PySem.W.Fast.tw10152333238890671554:=0
def PySem.W.Fast.tw16308957452425977866:=0
def PySem.W.Fast.tw8526541337800136962:=0
def PySem.W.Fast.tw4458774824313083007:=0
def PySem.W.Fast.tw9144433279443885550:=0
def PySem.W.Fast.tw18342535222350346464:=0
def PySem.W.Fast.tw17250844534376433011:=0
def PySem.W.Fast.tw13537655607992029359:=0
def PySem.W.Fast.tw4544145935686410704:=0
def PySem.W.Fast.tw14725215505356304204:=0
def PySem.W.Fast.tw2063493406988881695:=0
def PySem.W.Fast.tw3689832871760373098:=0
def PySem.W.Fast.tw13307447542552503746:=0
def PySem.W.Fast.tw7133917171823730947:=0
def PySem.W.Fast.tw3712844052026638580:=0
def PySem.W.Fast.tw3864771386500467016:=0
def PySem.W.Fast.tw7422026937912264832:=0
def PySem.W.Fast.tw11100832304113860239:=0
def PySem.W.Fast.tw11700829832843413548:=0
def PySem.W.Fast.tw6845129066126805651:=0
def PySem.W.Fast.tw1441393457233013447:=0
def PySem.W.Fast.tw9567919687031268796:=0
def PySem.W.Fast.tw9531003487090802016:=0
def PySem.W.Fast.tw996742246356664653:=0
def PySem.W.Fast.tw14150922574991497833:=0
def PySem.W.Fast.tw14946861196910472982:=0
def PySem.W.Fast.tw13910881990524634691:=0
def PySem.W.Fast.tw14892976937436739503:=0
def PySem.W.Fast.tw6763113062846418846:=0
def PySem.W.Fast.tw4060018919853155270:=0
def PySem.W.Fast.tw10196805792891471864:=0
def PySem.W.Fast.tw860461396433097288:=0
def PySem.W.Fast.tw7784342336472025054:=0
def PySem.W.Fast.tw9105226546947196903:=0
def PySem.W.Fast.tw10775572566678506366:=0
def PySem.W.Fast.tw3218085089708956947:=0
def PySem.W.Fast.tw6604584919185802114:=0
def PySem.W.Fast.tw6924589364009107385:=0
def PySem.W.Fast.tw808171490981824133:=0
def PySem.W.Fast.tw15811600331270473636:=0
def PySem.W.Fast.tw7067682606400704249:=0
def PySem.W.Fast.tw6395478680646298929:=0
def PySem.W.Fast.tw17968505890567681837:=0
def PySem.W.Fast.tw1138095266694184471:=0
def PySem.W.Fast.tw7210739651573574538:=0
def PySem.W.Fast.tw3760484352479893653:=0
def PySem.W.Fast.tw8715421811709922148:=0
def PySem.W.Fast.tw3257117949083440262:=0
def PySem.W.Fast.tw16605514304743324911:=0
def PySem.W.Fast.tw14502017547707940182:=0
def PySem.W.Fast.tw12276841093732469132:=0
def PySem.W.Fast.tw17724132040872105432:=0
def PySem.W.Fast.tw264875274118605342:=0
def PySem.W.Fast.tw2811191694716591068:=0
def PySem.W.Fast.tw1480482297691105302:=0
def PySem.W.Fast.tw13442504261137163203:=0
def PySem.W.Fast.tw7579312550860130165:=0
def PySem.W.Fast.tw16033813724439208626:=0
def PySem.W.Fast.tw8508144833949366988:=0
def PySem.W.Fast.tw2557753272902770268:=0
def PySem.W.Fast.tw15680124198740828398:=0
def PySem.W.Fast.tw5663249319106919274:=0
def PySem.W.Fast.tw1335176339994162910:=0
def PySem.W.Fast.tw11708060685252622813:=0
def PySem.W.Fast.tw11842444063712053039:=0
def PySem.W.Fast.tw14866962603688586013:=0
def PySem.W.Fast.tw6906184066490495099:=0
def PySem.W.Fast.tw7989463799373999862:=0
def PySem.W.Fast.tw3473667809038370347:=0
def PySem.W.Fast.tw12557143562948175309:=0
def PySem.W.Fast.tw15980953282661526681:=0
def PySem.W.Fast.tw6348756939203638903:=0
def PySem.W.Fast.tw525327027229897785:=0
def PySem.W.Fast.tw6153785815266553856:=0
def PySem.W.Fast.tw5342786333522350703:=0
def PySem.W.Fast.tw5043601576907296780:=0
def PySem.W.Fast.tw2142382086416577008:=0
def PySem.W.Fast.tw11646473271475884014:=0
def PySem.W.Fast.tw35069523209629635:=0
def PySem.W.Fast.tw7360559566620534817:=0
def PySem.W.Fast.tw8788248291914817406:=0
def PySem.W.Fast.tw15919146843894448371:=0
def PySem.W.Fast.tw8091491193184232460:=0
def PySem.W.Fast.tw1343803382651872646:=0
def PySem.W.Fast.tw14421103447325212209:=0
def PySem.W.Fast.tw17574759482721993320:=0
def PySem.W.Fast.tw16179456852278166316:=0
def PySem.W.Fast.tw8821767757874277974:=0
def PySem.W.Fast.tw91183477826102182:=0
def PySem.W.Fast.tw15073356778998534404:=0
def PySem.W.Fast.tw3322262962711474321:=0
def PySem.W.Fast.tw729350754053906194:=0
def PySem.W.Fast.tw13180794586260920166:=0
def PySem.W.Fast.tw2560668314483257581:=0
def PySem.W.Fast.tw8628515316261405990:=0
def PySem.W.Fast.tw11821759294134392825:=0
def PySem.W.Fast.tw2233322107730348558:=0
def PySem.W.Fast.tw3053989386054035719:=0
def PySem.W.Fast.tw10692786776329086210:=0
def PySem.W.Fast.tw412595114428128584:=0
def PySem.W.Fast.tw16094637095005905334:=0
def PySem.W.Fast.tw5102132031813833103:=0
def PySem.W.Fast.tw1966223845714643779:=0
def PySem.W.Fast.tw18235233640071826859:=0
def PySem.W.Fast.tw10770528225925282872:=0
def PySem.W.Fast.tw10747780115182040749:=0
def PySem.W.Fast.tw17234335249012041421:=0
def PySem.W.Fast.tw17207622066353359675:=0
def PySem.W.Fast.tw6189434846504565274:=0
def PySem.W.Fast.tw3992376492296456185:=0
def PySem.W.Fast.tw7126773288623432139:=0
def PySem.W.Fast.tw7142717449662252119:=0
def PySem.W.Fast.tw13487880546415761799:=0
def PySem.W.Fast.tw1854164287518053680:=0
def PySem.W.Fast.tw8007186924014659734:=0
def PySem.W.Fast.tw17979569531920595470:=0
def PySem.W.Fast.tw8842740075169068710:=0
def PySem.W.Fast.tw10352716160050073757:=0
def PySem.W.Fast.tw1033977610842492149:=0
def PySem.W.Fast.tw10128392094943296228:=0
def PySem.W.Fast.tw8648315442422084000:=0
def PySem.W.Fast.tw4812838362022036206:=0
def PySem.W.Fast.tw15637995651206945561:=0
def PySem.W.Fast.tw4192370681022861919:=0
def PySem.W.Fast.tw17917200276317105395:=0
def PySem.W.Fast.tw4226029092447390313:=0
def PySem.W.Fast.tw3340382876864533372:=0
def PySem.W.Fast.tw10635264210856079493:=0
def PySem.W.Fast.tw59366581683619439:=0
def PySem.W.Fast.tw10898895207660792372:=0
def PySem.W.Fast.tw10009876390767349929:=0
def PySem.W.Fast.tw2263989655861987780:=0
def PySem.W.Fast.tw16198606662597413985:=0
def PySem.W.Fast.tw793573065134390305:=0
def PySem.W.Fast.tw7857500203328591279:=0
def PySem.W.Fast.tw12814387226943723966:=0
def PySem.W.Fast.tw17521896616851355562:=0
def PySem.W.Fast.tw7042576608360064664:=0
def PySem.W.Fast.tw14572540010068801888:=0
def PySem.W.Fast.tw12016135800453550341:=0
def PySem.W.Fast.tw9244380013902696178:=0
def PySem.W.Fast.tw16512376697479545993:=0
def PySem.W.Fast.tw10532757762164709431:=0
def PySem.W.Fast.tw4871914005617675466:=0
def PySem.W.Fast.tw3934497688596874818:=0
def PySem.W.Fast.tw4254516547561201417:=0
def PySem.W.Fast.tw8313820621812478591:=0
def PySem.W.Fast.tw3543877554357486331:=0
def PySem.W.Fast.tw8145867442839924290:=0
def PySem.W.Fast.tw12957261284173943678:=0
def PySem.W.Fast.tw2955255621387729571:=0
def PySem.W.Fast.tw18155591339709507886:=0
def PySem.W.Fast.tw16271162436690653424:=0
def PySem.W.Fast.tw11199519034713698992:=0
def PySem.W.Fast.tw16791084727421609607:=0
def PySem.W.Fast.tw5891516881217369543:=0
def PySem.W.Fast.tw3469244963918450301:=0
def PySem.W.Fast.tw2576352554165574011:=0
def PySem.W.Fast.tw1737857879432121879:=0
def PySem.W.Fast.tw11148124775235212890:=0
def PySem.W.Fast.tw9357464827307936766:=0
def PySem.W.Fast.tw10281345854475562154:=0
def PySem.W.Fast.tw8396622187197172771:=0
def PySem.W.Fast.tw11129661611189689379:=0
def PySem.W.Fast.tw12614464278422971131:=0
def PySem.W.Fast.tw9090043288263952847:=0
def PySem.W.Fast.tw15542370690680740272:=0
def PySem.W.Fast.tw13527630777373549040:=0
def PySem.W.Fast.tw2276931728214054135:=0
def PySem.W.Fast.tw8374461059612060447:=0
def PySem.W.Fast.tw737032007019350911:=0
def PySem.W.Fast.tw4583340806641913974:=0
def PySem.W.Fast.tw18386659643907854805:=0
def PySem.W.Fast.tw6636019481922289451:=0
def PySem.W.Fast.tw9271847304890829744:=0
def PySem.W.Fast.tw3258508295029414433:=0
def PySem.W.Fast.tw13640100317868755046:=0
def PySem.W.Fast.tw7063305832632197510:=0
def PySem.W.Fast.tw4923182983962566107:=0
def PySem.W.Fast.tw17929140716546661711:=0
def PySem.W.Fast.tw12841234693083296437:=0
def PySem.W.Fast.tw7602407111290880588:=0
def PySem.W.Fast.tw9943151770019170093:=0
def PySem.W.Fast.tw7331736826593897827:=0
def PySem.W.Fast.tw1003288903978358518:=0
def PySem.W.Fast.tw2536387854033068874:=0
def PySem.W.Fast.tw7954677799895839732:=0
def PySem.W.Fast.tw14955839693850886193:=0
def PySem.W.Fast.tw13616591090964938017:=0
def PySem.W.Fast.tw3270948090330385011:=0
def PySem.W.Fast.tw11114863786294966920:=0
def PySem.W.Fast.tw1595779264248510976:=0
def PySem.W.Fast.tw9425401527653135273:=0
def PySem.W.Fast.tw8897067537389624165:=0
def PySem.W.Fast.tw7241536550707150530:=0
def PySem.W.Fast.tw7320398963563151887:=0
def PySem.W.Fast.tw17129132477086878784:=0
def PySem.W.Fast.tw5929351121334291725:=0
def PySem.W.Fast.tw12092532828840519533:=0
def PySem.W.Fast.tw15654352579129325184:=0
def PySem.W.Fast.tw5137396228148229173:=0
def PySem.W.Fast.tw12410289470381886021:=0
def PySem.W.Fast.tw4703501873835219312:=0
def PySem.W.Fast.tw12112209367794085495:=0
def PySem.W.Fast.tw264769365691134866:=0
def PySem.W.Fast.tw12429033418945876845:=0
def PySem.W.Fast.tw14441657437551568570:=0
def PySem.W.Fast.tw15349043956191420662:=0
def PySem.W.Fast.tw18396294335229965368:=0
def PySem.W.Fast.tw10648936552666676207:=0
def PySem.W.Fast.tw828337034041919223:=0
def PySem.W.Fast.tw3761692437734835436:=0
def PySem.W.Fast.tw16978255428199562846:=0
def PySem.W.Fast.tw15973374805384412940:=0
def PySem.W.Fast.tw15686394105904898708:=0
def PySem.W.Fast.tw15038660434435171279:=0
def PySem.W.Fast.tw14650390913605381984:=0
def PySem.W.Fast.tw17210777714248766609:=0
def PySem.W.Fast.tw11623960239943560915:=0
def PySem.W.Fast.tw6576971566382193483:=0
def PySem.W.Fast.tw5119827770704932715:=0
def PySem.W.Fast.tw374244094888911015:=0
def PySem.W.Fast.tw788156944974352119:=0
def PySem.W.Fast.tw9125759918598662084:=0
def PySem.W.Fast.tw10622933028119100895:=0
def PySem.W.Fast.tw6440351508106955127:=0
def PySem.W.Fast.tw11108901159885869196:=0
def PySem.W.Fast.tw4529875087112708113:=0
def PySem.W.Fast.tw6900053726345005465:=0
def PySem.W.Fast.tw15528877456486457697:=0
def PySem.W.Fast.tw12026138356055253651:=0
def PySem.W.Fast.tw1165965534335206384:=0
def PySem.W.Fast.tw10973293530723810494:=0
def PySem.W.Fast.tw18151502384439489937:=0
def PySem.W.Fast.tw11643698451039797845:=0
def PySem.W.Fast.tw785852572578956327:=0
def PySem.W.Fast.tw12081604053298390660:=0
def PySem.W.Fast.tw7053355933274574617:=0
def PySem.W.Fast.tw8107712376702435888:=0
def PySem.W.Fast.tw13751408795189471056:=0
def PySem.W.Fast.tw18263760818573953501:=0
def PySem.W.Fast.tw3164312863011446966:=0
def PySem.W.Fast.tw6646564006373455972:=0
def PySem.W.Fast.tw8996668091616671577:=0
def PySem.W.Fast.tw11513462287148818090:=0
def PySem.W.Fast.tw7905520854079423565:=0
def PySem.W.Fast.tw1900497790818470718:=0
def PySem.W.Fast.tw12069010423892773426:=0
def PySem.W.Fast.tw12499212452187836712:=0
def PySem.W.Fast.tw1122774884161033533:=0
def PySem.W.Fast.tw4223649755079524725:=0
def PySem.W.Fast.tw6631142778043572128:=0
def PySem.W.Fast.tw3075949709522964851:=0
def PySem.W.Fast.tw5809816716099659155:=0
def PySem.W.Fast.tw14223078370794990996:=0
def PySem.W.Fast.tw9090368170650089105:=0
def PySem.W.Fast.tw14809723088935548746:=0
def PySem.W.Fast.tw6334054773627611003:=0
def PySem.W.Fast.tw12888478973675196963:=0
def PySem.W.Fast.tw17798604151709494172:=0
def PySem.W.Fast.tw2282494551965594452:=0
def PySem.W.Fast.tw14002570557086342434:=0
def PySem.W.Fast.tw11325933397309104215:=0
def PySem.W.Fast.tw18115955902902534126:=0
def PySem.W.Fast.tw14123545218192340592:=0
def PySem.W.Fast.tw17238023097130372870:=0
def PySem.W.Fast.tw226601370423950174:=0
def PySem.W.Fast.tw11006997675241942602:=0
def PySem.W.Fast.tw17757902936630659381:=0
def PySem.W.Fast.tw15492535845706531678:=0
def PySem.W.Fast.tw9557839787872337215:=0
def PySem.W.Fast.tw6351987149915587902:=0
def PySem.W.Fast.tw825540854381986968:=0
def PySem.W.Fast.tw12141273500302083379:=0
def PySem.W.Fast.tw10586647167688879655:=0
def PySem.W.Fast.tw12305731035484682393:=0
def PySem.W.Fast.tw13216744609262413589:=0
def PySem.W.Fast.tw4481684756727560650:=0
def PySem.W.Fast.tw1764346093126505840:=0
def PySem.W.Fast.tw17647944813342978118:=0
def PySem.W.Fast.tw4404491486997469453:=0
def PySem.W.Fast.tw4836792365175568836:=0
def PySem.W.Fast.tw3791861017496301397:=0
def PySem.W.Fast.tw7341015019225938092:=0
def PySem.W.Fast.tw4909011169502254838:=0
def PySem.W.Fast.tw14326602207794012272:=0
def PySem.W.Fast.tw2839857693063727296:=0
def PySem.W.Fast.tw6032244749611301236:=0
def PySem.W.Fast.tw13037274755966337449:=0
def PySem.W.Fast.tw4862477772796833620:=0
def PySem.W.Fast.tw15093815051092655818:=0
def PySem.W.Fast.tw8023099693528805765:=0
def PySem.W.Fast.tw5307824813145977493:=0
def PySem.W.Fast.tw4162124966747923379:=0
def PySem.W.Fast.tw5301511306206798246:=0
def PySem.W.Fast.tw11342202417831921402:=0
def PySem.W.Fast.tw10527734805951030745:=0
def PySem.W.Fast.tw550225288822958676:=0
def PySem.W.Fast.tw1859642862527968222:=0
def PySem.W.Fast.tw1568428864192933738:=0
def PySem.W.Fast.tw5969321999698541139:=0
def PySem.W.Fast.tw15253508035295407147:=0
def PySem.W.Fast.tw13124152405455085240:=0
def PySem.W.Fast.tw470752952459745122:=0
def PySem.W.Fast.tw8202097101742777062:=0
def PySem.W.Fast.tw6716481211491531628:=0
def PySem.W.Fast.tw2616233591373858186:=0
def PySem.W.Fast.tw3563001136075787864:=0
def PySem.W.Fast.tw6045393137784049190:=0
def PySem.W.Fast.tw4397382866269506648:=0
def PySem.W.Fast.tw4558254736135147356:=0
def PySem.W.Fast.tw9329736952084142216:=0
def PySem.W.Fast.tw10689184519608255787:=0
def PySem.W.Fast.tw17376194117062881047:=0
def PySem.W.Fast.tw12942058784284844507:=0
def PySem.W.Fast.tw11143346209497778812:=0
def PySem.W.Fast.tw15358783759214475173:=0
def PySem.W.Fast.tw15915018691673318125:=0
def PySem.W.Fast.tw4033298712655948395:=0
def PySem.W.Fast.tw949982406294036599:=0
def PySem.W.Fast.tw17086160187304669305:=0
def PySem.W.Fast.tw732915187932023392:=0
set_option maxRecDepth 100000 in
set_option maxHeartbeats 0 in
theorem PySem.Challenge.cw_shardask_k11_joined_holds : PySem.Challenge.rw_shardask_k11_joined.Holds := by
 w_on;o_law;k_head;(case hw=>w_witness2)
 k_fill
 refine L2.aRs (l:=PySem.Challenge.rw_shardask_k11_joined) (n:=63) (k:=51) (x:="_law_script") (CX:=L2.CX0) (sp:=My.aD8) rfl (by decide) rfl ⟨rfl,by decide,by decide⟩ (fun w h Y=>PySem.W.km_in_of Y) ?F (fun K H a ns hl hO hS=>My.aNt hl hS) (fun _ _ _ _ z=>z)
 case F=>
  intro w mg fa h KX G hmg
  have T:My.Txt w (L2.KOf KX) mg:=by
   dsimp only [L2.KOf]
   refine' My.aXf KX G ?a0 ?a1 ?a2 ?a3 ?a4 ?a5 ?a6 ?a7 ?a8 ?a9 ?a10 ?a11 ?a12 ?a13 ?a14 ?a15 ?a16 ?a17 ?a18 ?a19 ?a20 ?a21 ?a22 ?a23 ?a24 ?a25 ?a26 ?a27 ?a28 ?a29 ?a30 ?a31 ?a32 ?a33 ?a34 ?a35 ?a36 ?a37 ?a38 ?a39 ?a40 ?a41 ?a42 ?a43 ?a44 ?a45 ?a46 ?a47 ?a48 ?a49 ?a50 ?a51 ?a52 ?a53 ?a54 ?a55 ?a56 ?a57 ?a58 ?a59 ?a60 ?a61 ?a62 ?a63 ?a64 ?a65 ?a66 ?a67 ?a68 ?a69 ?a70 ?a71 ?a72 ?a73 ?q0 ?r0 ?t0 ?y0 ?u0 ?v0 ?q1 ?q2 ?q3 ?q4 ?r4 ?t4 ?y4 ?u4 ?v4 ?q5 ?r5 ?t5 ?y5 ?u5 ?v5 ?q6 ?r6 ?t6 ?y6 ?u6 ?v6 ?q7 ?q8 ?q9 ?q10 ?q11 ?q12 ?q13 ?q14 ?r14 ?x14 ?o14 ?u14 ?h14 ?r14_0 ?t14_0 ?y14_0 ?u14_0 ?v14_0 ?r14_1 ?t14_1 ?y14_1 ?u14_1 ?v14_1 ?r14_2 ?t14_2 ?y14_2 ?u14_2 ?v14_2 ?r14_3 ?t14_3 ?y14_3 ?u14_3 ?v14_3 ?r14_4 ?t14_4 ?y14_4 ?u14_4 ?v14_4 ?r14_5 ?t14_5 ?y14_5 ?u14_5 ?v14_5 ?r14_6 ?t14_6 ?y14_6 ?u14_6 ?v14_6 ?z0 ?z1 ?z2 ?z3 ?z4 ?z5 ?z6 ?z7 ?z8 ?z9 ?z10 ?z11 ?z12 ?z13 ?z14 ?z15 ?z16 ?z17 ?z18 ?z19
   (case a0=>(refine' My.FA.mk ?j0 ?l0 ?c0 ?k0);(case j0=>k_is);(case l0=>k_is);(case c0=>k_is);(case k0=>k_is))
   (case a1=>(refine' My.FA.mk ?j1 ?l1 ?c1 ?k1);(case j1=>k_is);(case l1=>k_is);(case c1=>k_is);(case k1=>k_is))
   (case a2=>(refine' My.FA.mk ?j2 ?l2 ?c2 ?k2);(case j2=>k_is);(case l2=>k_is);(case c2=>k_is);(case k2=>k_is))
   (case a3=>(refine' My.FA.mk ?j3 ?l3 ?c3 ?k3);(case j3=>k_is);(case l3=>k_is);(case c3=>k_is);(case k3=>k_is))
   (case a4=>(refine' My.FA.mk ?j4 ?l4 ?c4 ?k4);(case j4=>k_is);(case l4=>k_is);(case c4=>k_is);(case k4=>k_is))
   (case a5=>(refine' My.FA.mk ?j5 ?l5 ?c5 ?k5);(case j5=>k_is);(case l5=>k_is);(case c5=>k_is);(case k5=>k_is))
   (case a6=>(refine' My.FA.mk ?j6 ?l6 ?c6 ?k6);(case j6=>k_is);(case l6=>k_is);(case c6=>k_is);(case k6=>k_is))
   (case a7=>(refine' My.FA.mk ?j7 ?l7 ?c7 ?k7);(case j7=>k_is);(case l7=>k_is);(case c7=>k_is);(case k7=>k_is))
   (case a8=>(refine' My.FA.mk ?j8 ?l8 ?c8 ?k8);(case j8=>k_is);(case l8=>k_is);(case c8=>k_is);(case k8=>k_is))
   (case a9=>(refine' My.FA.mk ?j9 ?l9 ?c9 ?k9);(case j9=>k_is);(case l9=>k_is);(case c9=>k_is);(case k9=>k_is))
   (case a10=>(refine' My.FA.mk ?j10 ?l10 ?c10 ?k10);(case j10=>k_is);(case l10=>k_is);(case c10=>k_is);(case k10=>k_is))
   (case a11=>(refine' My.FA.mk ?j11 ?l11 ?c11 ?k11);(case j11=>k_is);(case l11=>k_is);(case c11=>k_is);(case k11=>k_is))
   (case a12=>(refine' My.FA.mk ?j12 ?l12 ?c12 ?k12);(case j12=>k_is);(case l12=>k_is);(case c12=>k_is);(case k12=>k_is))
   (case a13=>(refine' My.FA.mk ?j13 ?l13 ?c13 ?k13);(case j13=>k_is);(case l13=>k_is);(case c13=>k_is);(case k13=>k_is))
   (case a14=>(refine' My.FA.mk ?j14 ?l14 ?c14 ?k14);(case j14=>k_is);(case l14=>k_is);(case c14=>k_is);(case k14=>k_is))
   (case a15=>(refine' My.FA.mk ?j15 ?l15 ?c15 ?k15);(case j15=>k_is);(case l15=>k_is);(case c15=>k_is);(case k15=>k_is))
   (case a16=>(refine' My.FA.mk ?j16 ?l16 ?c16 ?k16);(case j16=>k_is);(case l16=>k_is);(case c16=>k_is);(case k16=>k_is))
   (case a17=>(refine' My.FA.mk ?j17 ?l17 ?c17 ?k17);(case j17=>k_is);(case l17=>k_is);(case c17=>k_is);(case k17=>k_is))
   (case a18=>(refine' My.FA.mk ?j18 ?l18 ?c18 ?k18);(case j18=>k_is);(case l18=>k_is);(case c18=>k_is);(case k18=>k_is))
   (case a19=>(refine' My.FA.mk ?j19 ?l19 ?c19 ?k19);(case j19=>k_is);(case l19=>k_is);(case c19=>k_is);(case k19=>k_is))
   (case a20=>(refine' My.FA.mk ?j20 ?l20 ?c20 ?k20);(case j20=>k_is);(case l20=>k_is);(case c20=>k_is);(case k20=>k_is))
   (case a21=>(refine' My.FA.mk ?j21 ?l21 ?c21 ?k21);(case j21=>k_is);(case l21=>k_is);(case c21=>k_is);(case k21=>k_is))
   (case a22=>(refine' My.FA.mk ?j22 ?l22 ?c22 ?k22);(case j22=>k_is);(case l22=>k_is);(case c22=>k_is);(case k22=>k_is))
   (case a23=>(refine' My.FA.mk ?j23 ?l23 ?c23 ?k23);(case j23=>k_is);(case l23=>k_is);(case c23=>k_is);(case k23=>k_is))
   (case a24=>(refine' My.FA.mk ?j24 ?l24 ?c24 ?k24);(case j24=>k_is);(case l24=>k_is);(case c24=>k_is);(case k24=>k_is))
   (case a25=>(refine' My.FA.mk ?j25 ?l25 ?c25 ?k25);(case j25=>k_is);(case l25=>k_is);(case c25=>k_is);(case k25=>k_is))
   (case a26=>(refine' My.FA.mk ?j26 ?l26 ?c26 ?k26);(case j26=>k_is);(case l26=>k_is);(case c26=>k_is);(case k26=>k_is))
   (case a27=>(refine' My.FA.mk ?j27 ?l27 ?c27 ?k27);(case j27=>k_is);(case l27=>k_is);(case c27=>k_is);(case k27=>k_is))
   (case a28=>(refine' My.FA.mk ?j28 ?l28 ?c28 ?k28);(case j28=>k_is);(case l28=>k_is);(case c28=>k_is);(case k28=>k_is))
   (case a29=>(refine' My.FA.mk ?j29 ?l29 ?c29 ?k29);(case j29=>k_is);(case l29=>k_is);(case c29=>k_is);(case k29=>k_is))
   (case a30=>(refine' My.FA.mk ?j30 ?l30 ?c30 ?k30);(case j30=>k_is);(case l30=>k_is);(case c30=>k_is);(case k30=>k_is))
   (case a31=>(refine' My.FA.mk ?j31 ?l31 ?c31 ?k31);(case j31=>k_is);(case l31=>k_is);(case c31=>k_is);(case k31=>k_is))
   (case a32=>(refine' My.FA.mk ?j32 ?l32 ?c32 ?k32);(case j32=>k_is);(case l32=>k_is);(case c32=>k_is);(case k32=>k_is))
   (case a33=>(refine' My.FA.mk ?j33 ?l33 ?c33 ?k33);(case j33=>k_is);(case l33=>k_is);(case c33=>k_is);(case k33=>k_is))
   (case a34=>(refine' My.FA.mk ?j34 ?l34 ?c34 ?k34);(case j34=>k_is);(case l34=>k_is);(case c34=>k_is);(case k34=>k_is))
   (case a35=>(refine' My.FA.mk ?j35 ?l35 ?c35 ?k35);(case j35=>k_is);(case l35=>k_is);(case c35=>k_is);(case k35=>k_is))
   (case a36=>(refine' My.FA.mk ?j36 ?l36 ?c36 ?k36);(case j36=>k_is);(case l36=>k_is);(case c36=>k_is);(case k36=>k_is))
   (case a37=>(refine' My.FA.mk ?j37 ?l37 ?c37 ?k37);(case j37=>k_is);(case l37=>k_is);(case c37=>k_is);(case k37=>k_is))
   (case a38=>(refine' My.FA.mk ?j38 ?l38 ?c38 ?k38);(case j38=>k_is);(case l38=>k_is);(case c38=>k_is);(case k38=>k_is))
   (case a39=>(refine' My.FA.mk ?j39 ?l39 ?c39 ?k39);(case j39=>k_is);(case l39=>k_is);(case c39=>k_is);(case k39=>k_is))
   (case a40=>(refine' My.FA.mk ?j40 ?l40 ?c40 ?k40);(case j40=>k_is);(case l40=>k_is);(case c40=>k_is);(case k40=>k_is))
   (case a41=>(refine' My.FA.mk ?j41 ?l41 ?c41 ?k41);(case j41=>k_is);(case l41=>k_is);(case c41=>k_is);(case k41=>k_is))
   (case a42=>(refine' My.FA.mk ?j42 ?l42 ?c42 ?k42);(case j42=>k_is);(case l42=>k_is);(case c42=>k_is);(case k42=>k_is))
   (case a43=>(refine' My.FA.mk ?j43 ?l43 ?c43 ?k43);(case j43=>k_is);(case l43=>k_is);(case c43=>k_is);(case k43=>k_is))
   (case a44=>(refine' My.FA.mk ?j44 ?l44 ?c44 ?k44);(case j44=>k_is);(case l44=>k_is);(case c44=>k_is);(case k44=>k_is))
   (case a45=>(refine' My.FA.mk ?j45 ?l45 ?c45 ?k45);(case j45=>k_is);(case l45=>k_is);(case c45=>k_is);(case k45=>k_is))
   (case a46=>(refine' My.FA.mk ?j46 ?l46 ?c46 ?k46);(case j46=>k_is);(case l46=>k_is);(case c46=>k_is);(case k46=>k_is))
   (case a47=>(refine' My.FA.mk ?j47 ?l47 ?c47 ?k47);(case j47=>k_is);(case l47=>k_is);(case c47=>k_is);(case k47=>k_is))
   (case a48=>(refine' My.FA.mk ?j48 ?l48 ?c48 ?k48);(case j48=>k_is);(case l48=>k_is);(case c48=>k_is);(case k48=>k_is))
   (case a49=>(refine' My.FA.mk ?j49 ?l49 ?c49 ?k49);(case j49=>k_is);(case l49=>k_is);(case c49=>k_is);(case k49=>k_is))
   (case a50=>(refine' My.FA.mk ?j50 ?l50 ?c50 ?k50);(case j50=>k_is);(case l50=>k_is);(case c50=>k_is);(case k50=>k_is))
   (case a51=>(refine' My.FA.mk ?j51 ?l51 ?c51 ?k51);(case j51=>k_is);(case l51=>k_is);(case c51=>k_is);(case k51=>k_is))
   (case a52=>(refine' My.FA.mk ?j52 ?l52 ?c52 ?k52);(case j52=>k_is);(case l52=>k_is);(case c52=>k_is);(case k52=>k_is))
   (case a53=>(refine' My.FA.mk ?j53 ?l53 ?c53 ?k53);(case j53=>k_is);(case l53=>k_is);(case c53=>k_is);(case k53=>k_is))
   (case a54=>(refine' My.FA.mk ?j54 ?l54 ?c54 ?k54);(case j54=>k_is);(case l54=>k_is);(case c54=>k_is);(case k54=>k_is))
   (case a55=>(refine' My.FA.mk ?j55 ?l55 ?c55 ?k55);(case j55=>k_is);(case l55=>k_is);(case c55=>k_is);(case k55=>k_is))
   (case a56=>(refine' My.FA.mk ?j56 ?l56 ?c56 ?k56);(case j56=>k_is);(case l56=>k_is);(case c56=>k_is);(case k56=>k_is))
   (case a57=>(refine' My.FA.mk ?j57 ?l57 ?c57 ?k57);(case j57=>k_is);(case l57=>k_is);(case c57=>k_is);(case k57=>k_is))
   (case a58=>(refine' My.FA.mk ?j58 ?l58 ?c58 ?k58);(case j58=>k_is);(case l58=>k_is);(case c58=>k_is);(case k58=>k_is))
   (case a59=>(refine' My.FA.mk ?j59 ?l59 ?c59 ?k59);(case j59=>k_is);(case l59=>k_is);(case c59=>k_is);(case k59=>k_is))
   (case a60=>(refine' My.FA.mk ?j60 ?l60 ?c60 ?k60);(case j60=>k_is);(case l60=>k_is);(case c60=>k_is);(case k60=>k_is))
   (case a61=>(refine' My.FA.mk ?j61 ?l61 ?c61 ?k61);(case j61=>k_is);(case l61=>k_is);(case c61=>k_is);(case k61=>k_is))
   (case a62=>(refine' My.FA.mk ?j62 ?l62 ?c62 ?k62);(case j62=>k_is);(case l62=>k_is);(case c62=>k_is);(case k62=>k_is))
   (case a63=>(refine' My.FA.mk ?j63 ?l63 ?c63 ?k63);(case j63=>k_is);(case l63=>k_is);(case c63=>k_is);(case k63=>k_is))
   (case a64=>(refine' My.FA.mk ?j64 ?l64 ?c64 ?k64);(case j64=>k_is);(case l64=>k_is);(case c64=>k_is);(case k64=>k_is))
   (case a65=>(refine' My.FA.mk ?j65 ?l65 ?c65 ?k65);(case j65=>k_is);(case l65=>k_is);(case c65=>k_is);(case k65=>k_is))
   (case a66=>(refine' My.FA.mk ?j66 ?l66 ?c66 ?k66);(case j66=>k_is);(case l66=>k_is);(case c66=>k_is);(case k66=>k_is))
   (case a67=>(refine' My.FA.mk ?j67 ?l67 ?c67 ?k67);(case j67=>k_is);(case l67=>k_is);(case c67=>k_is);(case k67=>k_is))
   (case a68=>(refine' My.FA.mk ?j68 ?l68 ?c68 ?k68);(case j68=>k_is);(case l68=>k_is);(case c68=>k_is);(case k68=>k_is))
   (case a69=>(refine' My.FA.mk ?j69 ?l69 ?c69 ?k69);(case j69=>k_is);(case l69=>k_is);(case c69=>k_is);(case k69=>k_is))
   (case a70=>(refine' My.FA.mk ?j70 ?l70 ?c70 ?k70);(case j70=>k_is);(case l70=>k_is);(case c70=>k_is);(case k70=>k_is))
   (case a71=>(refine' My.FA.mk ?j71 ?l71 ?c71 ?k71);(case j71=>k_is);(case l71=>k_is);(case c71=>k_is);(case k71=>k_is))
   (case a72=>(refine' My.FA.mk ?j72 ?l72 ?c72 ?k72);(case j72=>k_is);(case l72=>k_is);(case c72=>k_is);(case k72=>k_is))
   (case a73=>(refine' My.FA.mk ?j73 ?l73 ?c73 ?k73);(case j73=>k_is);(case l73=>k_is);(case c73=>k_is);(case k73=>k_is))
   (case q0=>k_is)
   (case r0=>k_is)
   (case t0=>rfl)
   (case y0=>rfl)
   (case u0=>rfl)
   (case v0=>repeat (first|exact L2.dI|refine L2.bJ rfl ?_|refine L2.bJ ⟨_,rfl⟩ ?_))
   (case q1=>k_is)
   (case q2=>k_is)
   (case q3=>k_is)
   (case q4=>k_is)
   (case r4=>k_is)
   (case t4=>rfl)
   (case y4=>rfl)
   (case u4=>rfl)
   (case v4=>repeat (first|exact L2.dI|refine L2.bJ rfl ?_|refine L2.bJ ⟨_,rfl⟩ ?_))
   (case q5=>k_is)
   (case r5=>k_is)
   (case t5=>rfl)
   (case y5=>rfl)
   (case u5=>rfl)
   (case v5=>repeat (first|exact L2.dI|refine L2.bJ rfl ?_|refine L2.bJ ⟨_,rfl⟩ ?_))
   (case q6=>k_is)
   (case r6=>k_is)
   (case t6=>rfl)
   (case y6=>rfl)
   (case u6=>rfl)
   (case v6=>repeat (first|exact L2.dI|refine L2.bJ rfl ?_|refine L2.bJ ⟨_,rfl⟩ ?_))
   (case q7=>k_is)
   (case q8=>k_is)
   (case q9=>k_is)
   (case q10=>k_is)
   (case q11=>k_is)
   (case q12=>k_is)
   (case q13=>k_is)
   (case q14=>k_is)
   (case r14=>k_is)
   (case x14=>exact ⟨rfl,rfl,rfl⟩)
   (case o14=>first|rfl|decide +kernel)
   (case u14=>rfl)
   (case h14=>intro P;repeat (first|exact L2.PH.nil|refine L2.PH.cons rfl rfl rfl ?_))
   (case r14_0=>k_is)
   (case t14_0=>rfl)
   (case y14_0=>rfl)
   (case u14_0=>rfl)
   (case v14_0=>repeat (first|exact L2.dI|refine L2.bJ rfl ?_|refine L2.bJ ⟨_,rfl⟩ ?_))
   (case r14_1=>k_is)
   (case t14_1=>rfl)
   (case y14_1=>rfl)
   (case u14_1=>rfl)
   (case v14_1=>repeat (first|exact L2.dI|refine L2.bJ rfl ?_|refine L2.bJ ⟨_,rfl⟩ ?_))
   (case r14_2=>k_is)
   (case t14_2=>rfl)
   (case y14_2=>rfl)
   (case u14_2=>rfl)
   (case v14_2=>repeat (first|exact L2.dI|refine L2.bJ rfl ?_|refine L2.bJ ⟨_,rfl⟩ ?_))
   (case r14_3=>k_is)
   (case t14_3=>rfl)
   (case y14_3=>rfl)
   (case u14_3=>rfl)
   (case v14_3=>repeat (first|exact L2.dI|refine L2.bJ rfl ?_|refine L2.bJ ⟨_,rfl⟩ ?_))
   (case r14_4=>k_is)
   (case t14_4=>rfl)
   (case y14_4=>rfl)
   (case u14_4=>rfl)
   (case v14_4=>repeat (first|exact L2.dI|refine L2.bJ rfl ?_|refine L2.bJ ⟨_,rfl⟩ ?_))
   (case r14_5=>k_is)
   (case t14_5=>rfl)
   (case y14_5=>rfl)
   (case u14_5=>rfl)
   (case v14_5=>repeat (first|exact L2.dI|refine L2.bJ rfl ?_|refine L2.bJ ⟨_,rfl⟩ ?_))
   (case r14_6=>k_is)
   (case t14_6=>rfl)
   (case y14_6=>rfl)
   (case u14_6=>rfl)
   (case v14_6=>repeat (first|exact L2.dI|refine L2.bJ rfl ?_|refine L2.bJ ⟨_,rfl⟩ ?_))
   (case z0=>k_is)
   (case z1=>k_is)
   (case z2=>k_is)
   (case z3=>k_is)
   (case z4=>k_is)
   (case z5=>k_is)
   (case z6=>k_is)
   (case z7=>k_is)
   (case z8=>k_is)
   (case z9=>k_is)
   (case z10=>k_is)
   (case z11=>k_is)
   (case z12=>k_is)
   (case z13=>k_is)
   (case z14=>k_is)
   (case z15=>k_is)
   (case z16=>k_is)
   (case z17=>k_is)
   (case z18=>k_is)
   (case z19=>k_is)
  exact My.aWb (P:=PySem.Challenge.rw_shardask_k11_joined.prog) T hmg
