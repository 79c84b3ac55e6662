import PyProof.Rows.All
import Wide.All
import OpenK.AllK
import Wide.FinOn
import Lean
import PyProof.EqAt
import PyProof.EqKinds
import PyProof.TupleCall
import PyProof.ExcClass3
import PyProof.ExcBaseAll.ValueError
import PyProof.InstStoreFacts
import PyProof.ExcArgsOwn
import PyProof.ExcAttrAll.ValueError
import PyProof.CallType
import PyProof.WalkLemmas
import PyProof.StrOps
import PyProof.ForAny
import PyProof.IsInstanceH
import PyProof.IsiFacts
import PyProof.IsiFacts2
import PyProof.FactsAll.object
import PyProof.ListMulRoad
import PyProof.FactsAll.tuple_2
import PyProof.StrLawsIdx
import KE.KDictList
import PyProof.Rows.Range3
import PyProof.EnumMake
import PyProof.EnumFor
import PyProof.CompUse
import PyProof.ListStr
import PyProof.NeKinds
import KE.KIntText
import KE.KUnpack
import KE.KDictOf
import KE.KEqDict
import KE.KDictSum
import PyProof.AttrMissHeap
import PyProof.IsInstanceT
import PySem.Challenge.RW_shardask_k04_questions_checked
set_option Elab.async false
set_option linter.all false
set_option maxRecDepth 100000
set_option maxHeartbeats 6400000
local macro_rules
  | `(tactic| trivial) => `(tactic| first | exact Or.inl rfl | exact Or.inr rfl | exact Or.inr (Or.inl rfl) | exact Or.inr (Or.inr rfl) | exact ⟨rfl, rfl, rfl, by decide +kernel, rfl, by decide +kernel, by decide +kernel⟩ | exact ⟨by decide +kernel, rfl, by decide +kernel, by decide +kernel⟩ | fail)
namespace L2
open PySem PySem.Spec PyProof.Rows
abbrev Key:=Sum Int Str
def aA7:Key→Value→Bool
 |.inl k,v=>Value.isInt k v
 |.inr x,v=>Value.isStrOf x v
def aX7 (w:World):Key→Int
 |.inl k=>hashInt k
 |.inr x=>hashStr w x
theorem eF:∀{k:Key} {v:Value},aA7 k v=true→(∃i t,k=Sum.inl i∧v=Value.int i t)∨(∃x t,k=Sum.inr x∧v=Value.str x t)
 |.inl i,v,h=>by
  obtain ⟨t,e⟩:=Value.isInt_shape (k:=i) (v:=v) h
  exact .inl ⟨i,t,rfl,e⟩
 |.inr x,v,h=>by
  obtain ⟨t,e⟩:=Value.isStrOf_shape (x:=x) (v:=v) h
  exact .inr ⟨x,t,rfl,e⟩
theorem aL0 (i:Int) (t:Tok):aA7 (.inl i) (.int i t)=true:=by simp [aA7,Value.isInt]
theorem aL9 (x:Str) (t:Tok):aA7 (.inr x) (.str x t)=true:=by simp [aA7,Value.isStrOf]
theorem aV6 (a b:Int):decide ((Sum.inl a:Key)=Sum.inl b)=(a == b):=by
 by_cases e:a=b
 ·subst e;simp
 ·have h:¬ (Sum.inl a:Key)=Sum.inl b:=fun q=>e (Sum.inl.inj q)
  rw [decide_eq_false h]
  exact (beq_eq_false_iff_ne.mpr e).symm
theorem aVm (a b:Str):decide ((Sum.inr a:Key)=Sum.inr b)=decide (a=b):=by
 by_cases e:a=b
 ·subst e;simp
 ·have h:¬ (Sum.inr a:Key)=Sum.inr b:=fun q=>e (Sum.inr.inj q)
  rw [decide_eq_false h,decide_eq_false e]
theorem aT3 (a:Int) (b:Str):decide ((Sum.inl a:Key)=Sum.inr b)=false:=decide_eq_false (fun q=>nomatch q)
theorem aTf (a:Str) (b:Int):decide ((Sum.inr a:Key)=Sum.inl b)=false:=decide_eq_false (fun q=>nomatch q)
def dR (prog:Program) (w:World):PySem.KeyKind prog w Key where
 is:=aA7
 hash:=aX7 w
 inj:=fun v a b ha hb=>by
  rcases eF ha with ⟨i,t,rfl,rfl⟩|⟨x,t,rfl,rfl⟩
  ·rcases eF hb with ⟨j,u,rfl,e⟩|⟨y,u,rfl,e⟩
   ·injection e with e1 _;rw [e1]
   ·exact nomatch e
  ·rcases eF hb with ⟨j,u,rfl,e⟩|⟨y,u,rfl,e⟩
   ·exact nomatch e
   ·injection e with e1 _;rw [e1]
 byValue:=fun k v h=>by
  rcases eF h with ⟨i,t,rfl,rfl⟩|⟨x,t,rfl,rfl⟩ <;> rfl
 pyHash:=fun hv h=>by
  rcases eF hv with ⟨i,t,rfl,rfl⟩|⟨x,t,rfl,rfl⟩
  ·exact wpAny_pyHash_int h
  ·exact wpAny_pyHash_str h
 eqBool:=fun hu hv h=>by
  rcases eF hu with ⟨i,t,rfl,rfl⟩|⟨x,t,rfl,rfl⟩
  ·rcases eF hv with ⟨j,u,rfl,rfl⟩|⟨y,u,rfl,rfl⟩
   ·rw [aV6] at h;exact wpAny_eqBool_int h
   ·rw [aT3] at h;exact SeqAt.EqAt.int_str i t y u _ _ _ _ h
  ·rcases eF hv with ⟨j,u,rfl,rfl⟩|⟨y,u,rfl,rfl⟩
   ·rw [aTf] at h;exact SeqAt.EqAt.str_int x t j u _ _ _ _ h
   ·rw [aVm] at h;exact wpAny_eqBool_str h
 «strs»:=fun k x t v h=>by
  rcases eF h with ⟨i,u,rfl,e⟩|⟨y,u,rfl,e⟩
  ·exact nomatch e
  ·injection e with e1 _
   subst e1
   cases v <;> rfl
theorem aHl (prog:Program) (w:World) (i:Int) (t:Tok):(dR prog w).is (.inl i) (.int i t)=true:=aL0 i t
theorem aHe (prog:Program) (w:World) (x:Str) (t:Tok):(dR prog w).is (.inr x) (.str x t)=true:=aL9 x t
inductive V where
 |non|bl (b:Bool)|int (i:Int)|str (x:Str)|byt (b:Array UInt8)|flt (b:UInt64)|ref (a:Addr)|ty (n:String)
 deriving DecidableEq
def RelV:V→Value→Prop
 |.non,u=>u=Value.none
 |.bl b,u=>u=Value.bool b
 |.int i,u=>∃t,u=Value.int i t
 |.str x,u=>∃t,u=Value.str x t
 |.byt b,u=>∃t,u=Value.bytes b t
 |.flt b,u=>∃t,u=Value.float b t
 |.ref a,u=>u=Value.ref a
 |.ty n,u=>u=Value.type n
abbrev Vals:List V→List Value→Prop:=Paired RelV
theorem Vals.length {xs:List V} {us:List Value} (r:Vals xs us):xs.length=us.length:=Paired.length r
theorem Vals.get:∀{xs:List V} {us:List Value} {i:Nat} {x:V},Vals xs us→xs[i]?=some x→∃u,us[i]?=some u∧RelV x u
 |_,_,_,_,.nil,e=>by simp at e
 |_,_,0,_,.cons r _,e=>by simp at e;subst e;exact ⟨_,rfl,r⟩
 |_,_,i+1,x,.cons _ t,e=>by
  obtain ⟨u,h1,h2⟩:=Vals.get (i:=i) (x:=x) t (by simpa using e)
  exact ⟨u,by simpa using h1,h2⟩
theorem Vals.set {x:V} {u:Value} (r:RelV x u):∀{xs:List V} {us:List Value} (i:Nat),Vals xs us→Vals (xs.set i x) (us.set i u)
 |_,_,_,.nil=>.nil
 |_,_,0,.cons _ t=>.cons r t
 |_,_,i+1,.cons q t=>.cons q (Vals.set r i t)
theorem Vals.append:∀{xs ys:List V} {us ws:List Value},Vals xs us→Vals ys ws→Vals (xs++ys) (us++ws)
 |_,_,_,_,.nil,s=>s
 |_,_,_,_,.cons r t,s=>.cons r (Vals.append t s)
theorem Vals.take:∀{xs:List V} {us:List Value} (n:Nat),Vals xs us→Vals (xs.take n) (us.take n)
 |_,_,0,_=>.nil
 |_,_,_+1,.nil=>.nil
 |_,_,n+1,.cons r t=>.cons r (Vals.take n t)
theorem Vals.drop:∀{xs:List V} {us:List Value} (n:Nat),Vals xs us→Vals (xs.drop n) (us.drop n)
 |_,_,0,r=>r
 |_,_,_+1,.nil=>.nil
 |_,_,n+1,.cons _ t=>Vals.drop n t
def xZ:Option V→Option Value→Prop
 |some v,some u=>RelV v u
 |none,none=>True
 |_,_=>False
def KV {κ:Type}:List (κ × V)→List (κ × Value)→Prop:=Paired fun (p:κ × V) (q:κ × Value)=>p.1=q.1∧RelV p.2 q.2
def kV:Key→V
 |.inl i=>.int i
 |.inr x=>.str x
inductive HO where
  |lst (xs:List V)
  |tup (xs:List V)
  |dK (kvs:List (Key × V))|dT (kvs:List (List Key × V))
  |set (S:Int→Bool) (n:Nat)
  |ins (C dx:Addr) (fs:List (Str × V))
  |own (x:Addr)
  |xd (fs:List (Str × V))
  |met (f x:Addr)
  |rng (lo hi:Int)
  |frz (o:Obj) (u:HO)
  |tbl (ps:Array Value)
  |ext (φ:Heap→Prop)
abbrev Hp:=Addr→Option HO
def upd (H:Hp) (a:Addr) (o:HO):Hp:=fun b=>if b=a then some o else H b
theorem aO {H:Hp} {a:Addr} {o:HO}:upd H a o a=some o:=by unfold upd;rw [if_pos rfl]
theorem bA {H:Hp} {a b:Addr} {o:HO} (h:b≠a):upd H a o b=H b:=by unfold upd;rw [if_neg h]
theorem aJ5 {H:Hp} {a:Addr} {o u:HO}:upd (upd H a o) a u=upd H a u:=by
 funext b;unfold upd;split <;> rfl
theorem pP {H:Hp} {a b:Addr} {o u:HO} (h:H a=some o) (h':H b=some u) (d:o≠u):a≠b:=by
 intro e;subst e;rw [h] at h';exact d (Option.some.inj h')
theorem bH {H:Hp} {a b:Addr} {o:HO} (h:H a=some o) (h':H b=none):a≠b:=by
 intro e;subst e;rw [h] at h';cases h'
def vL (h:Heap) (a:Addr) (items:Array Value):Prop:=IsTup h a items∧∀o,h.get? a=some o→o.dict=none
theorem vL.of {h:Heap} {a:Addr} {items:Array Value} {o:Obj} (e:h.get? a=some o) (d:o.dict=none) (x:IsTup h a items):vL h a items:=⟨x,fun o' e'=>by rw [e] at e';cases e';exact d⟩
theorem vL.new (h:Heap) (items:Array Value):vL (h.push { cls:=.type "tuple",data:=.seq items }) h.objs.size items:=.of (Heap.get?_push_size _ rfl) rfl (IsTup.new _ _)
theorem vL.keep {h h':Heap} {a:Addr} {items:Array Value} (x:vL h a items) (k:∀o,h.get? a=some o→h'.get? a=some o):vL h' a items:=by
 obtain ⟨⟨o,e,c⟩,d⟩:=x
 exact .of (k o e) (d o e) ⟨o,k o e,c⟩
section
variable (P:Program) (w:World)
def fY (H:Hp) (h:Heap) (a:Addr):HO→Prop
 |.lst xs=>xs.length≤sizeLine∧∃(its:List Value) (n:Nat),Vals xs its∧h.get? a=some { cls:=.type "list",data:=.seq its.toArray n }
 |.tup xs=>xs.length≤sizeLine∧∃its:List Value,Vals xs its∧vL h a its.toArray
 |.dK kvs=>kvs.length≤sizeLine∧(a == sysModules)=false∧∃vs,KV kvs vs∧h.DictOf (dR P w) a vs
 |.dT kvs=>kvs.length≤sizeLine∧(a == sysModules)=false∧∃xs:List (List Key × Addr × Value),
   Paired (fun (p:List Key × V) (q:List Key × Addr × Value)=>p.1=q.1∧H q.2.1=some (.tup (p.1.map kV))∧RelV p.2 q.2.2) kvs xs ∧
   ∃o es ep,h.get? a=some o∧o.ExactDict∧o.data=.dict es ep∧es.toList=xs.map (entryOfKey (tupleKind (dR P w)))∧(xs.map (·.1)).Nodup
 |.set S n=>h.SetOf (intKind P w) a S n
 |.ins C dx fs=>H dx=some (.own a)∧fs.length≤1000∧dx≠a∧h.get? a=some (PySem.W.instObj C dx) ∧
   ∃mA,h.Ns1 dx mA∧(∀f,xZ (fs.lookup f) (mA f))∧PySem.Within mA (fs.map (·.1))
 |.own _=>∃o,h.get? a=some o
 |.xd fs=>∃mA,h.Ns1 a mA∧∀f,xZ (fs.lookup f) (mA f)
 |.rng lo hi=>∃t u v,h.get? a=some { cls:=.type "range",data:=.fields #[.int lo t,.int hi u,.int 1 v] }
 |.frz o u=>h.get? a=some o∧fY H h a u
 |.tbl ps=>h.get? a=some { cls:=.none,data:=.fields ps }
 |.met f x=>h.get? a=some (PySem.W.methodObj (.ref f) (.ref x))
 |.ext φ=>φ h∧(∃o,h.get? a=some o)∧∀h1 h2:Heap,φ h1→(∀o,h1.get? a=some o→h2.get? a=some o)→φ h2
def HOk (H:Hp) (h:Heap):Prop:=∀a o,H a=some o→fY P w H h a o
end
section
variable {P:Program} {w:World} {H H':Hp} {h h':Heap} {a:Addr} {o:HO}
theorem fY.lt (x:fY P w H h a o):a<h.objs.size:=by
 cases o with
 |lst xs=>obtain ⟨_,_,_,_,e⟩:=x;exact Heap.lt_size e
 |tup xs=>obtain ⟨_,_,_,p⟩:=x;exact p.1.lt
 |dK kvs=>obtain ⟨_,_,_,_,o,_,_,e,_⟩:=x;exact Heap.lt_size e
 |dT kvs=>obtain ⟨_,_,_,_,o,_,_,e,_⟩:=x;exact Heap.lt_size e
 |set S n=>obtain ⟨o,_,_,_,e,_⟩:=x;exact Heap.lt_size e
 |ins C dx fs=>obtain ⟨_,_,_,e,_⟩:=x;exact Heap.lt_size e
 |own y=>obtain ⟨_,e⟩:=x;exact Heap.lt_size e
 |xd fs=>obtain ⟨_,⟨_,_,_,e,_⟩,_⟩:=x;exact Heap.lt_size e
 |rng lo hi=>obtain ⟨_,_,_,e⟩:=x;exact Heap.lt_size e
 |frz ob u=>obtain ⟨e,_⟩:=x;exact Heap.lt_size e
 |tbl ps=>exact Heap.lt_size (show h.get? a=some _ from x)
 |met f y=>exact Heap.lt_size (show h.get? a=some _ from x)
 |ext φ=>obtain ⟨_,⟨_,e⟩,_⟩:=x;exact Heap.lt_size e
theorem Paired.aT6 {α β:Type} {F G:α→β→Prop}:∀{l₁:List α} {l₂:List β},Paired F l₁ l₂→(∀a b,F a b→G a b)→Paired G l₁ l₂
 |_,_,.nil,_=>.nil
 |_,_,.cons r t,f=>.cons (f _ _ r) (Paired.aT6 t f)
theorem fY.stay (x:fY P w H h a o) (k:∀b u,(b=a∨H b=some (.own a))→h.get? b=some u→h'.get? b=some u)
  (ho:∀b,H b=some (.own a)→H' b=some (.own a)) (ht:∀b xs,H b=some (.tup xs)→H' b=some (.tup xs)):fY P w H' h' a o:=by
 induction o with
 |lst xs=>obtain ⟨z,its,n,r,e⟩:=x;exact ⟨z,its,n,r,k _ _ (.inl rfl) e⟩
 |tup xs=>obtain ⟨z,its,r,p⟩:=x;exact ⟨z,its,r,p.keep fun o e=>k _ _ (.inl rfl) e⟩
 |dK kvs=>obtain ⟨z,y,vs,r,ob,es,ep,e,c⟩:=x;exact ⟨z,y,vs,r,ob,es,ep,k _ _ (.inl rfl) e,c⟩
 |dT kvs=>
  obtain ⟨z,y,xs,r,ob,es,ep,e,c⟩:=x
  exact ⟨z,y,xs,Paired.aT6 r fun p q z=>⟨z.1,ht _ _ z.2.1,z.2.2⟩,ob,es,ep,k _ _ (.inl rfl) e,c⟩
 |set S n=>obtain ⟨ob,es,ep,t,e,c⟩:=x;exact ⟨ob,es,ep,t,k _ _ (.inl rfl) e,c⟩
 |ins C dx fs=>
  obtain ⟨d,z,ne,e,mA,⟨od,es,ep,e2,c⟩,r⟩:=x
  exact ⟨ho _ d,z,ne,k _ _ (.inl rfl) e,mA,⟨od,es,ep,k _ _ (.inr d) e2,c⟩,r⟩
 |own y=>obtain ⟨ob,e⟩:=x;exact ⟨ob,k _ _ (.inl rfl) e⟩
 |xd fs=>obtain ⟨mA,⟨od,es,ep,e,c⟩,r⟩:=x;exact ⟨mA,⟨od,es,ep,k _ _ (.inl rfl) e,c⟩,r⟩
 |rng lo hi=>obtain ⟨t,u,v,e⟩:=x;exact ⟨t,u,v,k _ _ (.inl rfl) e⟩
 |frz ob u ih=>obtain ⟨e,q⟩:=x;exact ⟨k _ _ (.inl rfl) e,ih q⟩
 |tbl ps=>
  have e:h.get? a=some { cls:=.none,data:=.fields ps }:=x
  show h'.get? a=some { cls:=.none,data:=.fields ps }
  exact k a _ (.inl rfl) e
 |met f y=>
  have e:h.get? a=some (PySem.W.methodObj (.ref f) (.ref y)):=x
  show h'.get? a=some (PySem.W.methodObj (.ref f) (.ref y))
  exact k a _ (.inl rfl) e
 |ext φ=>obtain ⟨p,⟨o,e⟩,st⟩:=x;exact ⟨st _ _ p fun o q=>k _ _ (.inl rfl) q,⟨o,k _ _ (.inl rfl) e⟩,st⟩
theorem HOk.lt (x:HOk P w H h) (e:H a=some o):a<h.objs.size:=(x a o e).lt
theorem HOk.fresh (x:HOk P w H h) (e:h.objs.size≤a):H a=none:=by
 cases q:H a with
 |none=>rfl
 |some u=>exact absurd (Nat.lt_of_lt_of_le (x.lt q) e) (Nat.lt_irrefl _)
theorem HOk.kept (x:HOk P w H h) (k:∀b u,h.get? b=some u→h'.get? b=some u):HOk P w H h':=fun a o e=>
 (x a o e).stay (fun b u _ q=>k b u q) (fun _ q=>q) fun _ _ q=>q
theorem HOk.laid (x:HOk P w H h) (k:∀b u,h.get? b=some u→h'.get? b=some u) (hp:h.objs.size≤a) (new:fY P w (upd H a o) h' a o):HOk P w (upd H a o) h':=fun b u e=>by
 have hn:=x.fresh hp
 by_cases hb:b=a
 ·subst hb;rw [aO] at e;cases e;exact new
 ·rw [bA hb] at e
  exact (x b u e).stay (fun c v _ q=>k c v q) (fun c q=>by rw [bA (bH q hn)];exact q) fun c xs q=>by rw [bA (bH q hn)];exact q
end
def Rd (H:Hp) (a:Addr) (u:HO):Prop:=H a=some u∨∃o,H a=some (.frz o u)
theorem Rd.ok {P:Program} {w:World} {H:Hp} {h:Heap} {a:Addr} {u:HO} (r:Rd H a u) (x:HOk P w H h):fY P w H h a u:=by
 rcases r with r|⟨o,r⟩
 ·exact x a u r
 ·obtain ⟨_,q⟩:=x a _ r
  exact q
def Mut:Option HO→Prop
 |some (.lst _)=>True
 |some (.dK _)=>True
 |some (.dT _)=>True
 |some (.set _ _)=>True
 |some (.ins _ _ _)=>True
 |some (.ext _)=>True
 |_=>False
section
variable {P:Program} {w:World} {H:Hp} {h h':Heap} {x e:Addr} {o':HO}
theorem HOk.write (ok:HOk P w H h) (mu:Mut (H x)) (he:e=x∨H e=some (.own x)) (k:∀b u,b≠e→h.get? b=some u→h'.get? b=some u) (heo:∃u,h'.get? e=some u)
  (new:fY P w (upd H x o') h' x o'):HOk P w (upd H x o') h':=fun b u q=>by
 have nown:∀c y,H c=some (.own y)→c≠x:=fun c y r z=>by subst z;rw [r] at mu;exact mu
 have ntup:∀c xs,H c=some (.tup xs)→c≠x:=fun c xs r z=>by subst z;rw [r] at mu;exact mu
 by_cases hb:b=x
 ·subst hb;rw [aO] at q;cases q;exact new
 ·rw [bA hb] at q
  by_cases hbe:b=e
  ·have q':H b=some (.own x):=by
    rcases he with z|z
    ·exact absurd (hbe.trans z) hb
    ·rw [hbe];exact z
   rw [q] at q';cases q'
   obtain ⟨v,hv⟩:=heo
   exact ⟨v,by rw [hbe];exact hv⟩
  ·refine (ok b u q).stay (fun c v hc r=>k c v ?_ r) (fun c r=>by rw [bA (nown c b r)];exact r) fun c xs r=>by rw [bA (ntup c xs r)];exact r
   rcases hc with rfl|hc
   ·exact hbe
   ·rintro rfl
    rcases he with z|z
    ·exact nown c b hc z
    ·rw [hc] at z;cases z;exact hb rfl
end
structure Un (fs ex:List Addr) (H H':Hp) (h h':Heap):Prop where
 keep:∀b o,h.get? b=some o→H b=none→b∉fs→b∉ex→h'.get? b=some o
 slot:∀b o,h.get? b=some o→H b=none→b∈fs→b∉ex→∃sl,h'.get? b=some { o with slots:=sl }
 free:∀b o,h.get? b=some o→H b=none→b∉ex→H' b=none
 there:∀b o,h.get? b=some o→b∉ex→∃o',h'.get? b=some o'
 tups:∀b xs,H b=some (.tup xs)→H' b=some (.tup xs)
 frzs:∀b o u,H b=some (.frz o u)→H' b=some (.frz o u)
 tbls:∀b ps,H b=some (.tbl ps)→∃more,H' b=some (.tbl (ps++more))
section
variable {fs fs' ex ex':List Addr} {H H1 H2:Hp} {h h1 h2 h':Heap} {a x e:Addr} {o:HO}
theorem Un.any (u:Un fs ex H H1 h h1) {b:Addr} {ob:Obj} (q:h.get? b=some ob) (n:H b=none) (hx:b∉ex):∃sl,h1.get? b=some { ob with slots:=sl }:=by
 by_cases hb:b∈fs
 ·exact u.slot b ob q n hb hx
 ·exact ⟨ob.slots,u.keep b ob q n hb hx⟩
theorem Un.kept (k:∀b u,h.get? b=some u→h'.get? b=some u):Un fs ex H H h h':=
 ⟨fun b ob q _ _ _=>k b ob q,fun b ob q _ _ _=>⟨ob.slots,k b ob q⟩,fun _ _ _ n _=>n,fun b ob q _=>⟨ob,k b ob q⟩,fun _ _ q=>q,fun _ _ _ q=>q,fun _ ps q=>⟨#[],by rw [q];simp⟩⟩
theorem Un.refl:Un fs ex H H h h:=Un.kept fun _ _ q=>q
theorem Un.laid (k:∀b u,h.get? b=some u→h'.get? b=some u) (hp:h.objs.size≤a) (hn:H a=none):Un fs ex H (upd H a o) h h' where
 keep:=fun b u q _ _ _=>k b u q
 slot:=fun b u q _ _ _=>⟨u.slots,k b u q⟩
 free:=fun b u q n _=>by rw [bA (Nat.ne_of_lt (Nat.lt_of_lt_of_le (Heap.lt_size q) hp))];exact n
 there:=fun b u q _=>⟨u,k b u q⟩
 tups:=fun b xs q=>by rw [bA (bH q hn)];exact q
 frzs:=fun b u xs q=>by rw [bA (bH q hn)];exact q
 tbls:=fun b ps q=>⟨#[],by rw [bA (bH q hn),q];simp⟩
theorem Un.write (mu:Mut (H x)) (he:e=x∨H e=some (.own x)) (k:∀b u,b≠e→h.get? b=some u→h'.get? b=some u) (heo:∃u,h'.get? e=some u):Un fs ex H (upd H x o) h h':=by
 have hx:∀b,H b=none→b≠x:=fun b n z=>by subst z;rw [n] at mu;exact mu
 have hb:∀b,H b=none→b≠e:=fun b n z=>by
  subst z
  rcases he with r|r
  ·exact hx b n r
  ·rw [n] at r;cases r
 have hm:∀b u,H b=some u→¬ Mut (some u)→b≠x:=fun b u q nm z=>by subst z;rw [q] at mu;exact nm mu
 refine ⟨fun b u q n _ _=>k b u (hb b n) q,fun b u q n _ _=>⟨u.slots,k b u (hb b n) q⟩,fun b u q n _=>by rw [bA (hx b n)];exact n,fun b u q _=>?_,
  fun b xs q=>by rw [bA (hm b _ q fun z=>z)];exact q,fun b u xs q=>by rw [bA (hm b _ q fun z=>z)];exact q,fun b ps q=>⟨#[],by rw [bA (hm b _ q fun z=>z),q];simp⟩⟩
 by_cases hbe:b=e
 ·subst hbe;exact heo
 ·exact ⟨u,k b u hbe q⟩
end
def trk (h:Heap) (H:Hp):List Addr:=(List.range h.objs.size).filter fun a=>(H a).isSome
def aDx (h:Heap) (H:Hp):Heap:=PySem.W.hideAll h (trk h H)
theorem aLn (h:Heap) (H:Hp):(aDx h H).objs.size=h.objs.size:=PySem.W.hideAll_size _ _
theorem aO6 {h:Heap} {H:Hp} {b:Addr} {o:Obj} (e:h.get? b=some o) (n:H b=none):(aDx h H).get? b=some o:=
 PySem.W.hideAll_get _ e fun hm=>by
  have q:(H b).isSome=true:=(List.mem_filter.mp hm).2
  rw [n] at q;simp at q
theorem aSg {h:Heap} {H:Hp} {b:Addr} {o:Obj} (e:(aDx h H).get? b=some o):h.get? b=some o∧H b=none:=by
 have e':h.get? b=some o:=PySem.W.of_hideAll (trk h H) e
 refine ⟨e',?_⟩
 cases q:H b with
 |none=>rfl
 |some x=>
  have hm:b∈trk h H:=List.mem_filter.mpr ⟨List.mem_range.mpr (Heap.lt_size e'),by simp [q]⟩
  have z:(aDx h H).get? b=none:=PySem.W.hideAll_none (trk h H) hm
  rw [z] at e;cases e
structure Mod (K:PySem.W.Frag) (mg:Str→Option Value) (base:Heap):Prop where
 kin:K.In base
 glob:base.Ns mainGlobals mg
 blt:∃mb,base.Ns builtinsNs mb∧∀x:Str,x≠"__name__"→mb x=bootBuiltins x
 nolimit:base.NoLimit
structure Cx where
 prog:Program
 w:World
 K:PySem.W.Frag
 mg:Str→Option Value
 base:Heap
 A:Around
 N:List Str
 s₀:Shared
 H₀:Hp
 env:Env
 outer:List Env
 stack:List Env
 ex:List Addr
 fn:Str→Bool
 calm:Bool
 pn:List (Addr × Obj)
 xe:Value→Shared→Prop
def frs (l:List Env):List Addr:=l.filterMap (·.frame)
abbrev Cx.fs (X:Cx):List Addr:=frs X.outer
def Vis (sc:Scope) (x:Str):Prop:=sc.names.lookup x=some .local∨sc.names.lookup x=some .cell∨sc.names.lookup x=some .free
def Loc (sc:Scope) (x:Str):Prop:=sc.names.lookup x=some .local∨sc.names.lookup x=some .cell
def Look (env:Env) (h:Heap) (m:Str→Option Value) (x:Str) (u:Value):Prop:=
 (env.kindOf x=some .local∧m x=some u)∨((env.kindOf x=some .cell∨env.kindOf x=some .free)∧∃c,env.cells.lookup x=some c∧h.IsCell c (some u))
structure Cx.Ok (X:Cx):Prop where
 mod:Mod X.K X.mg X.base
 kind:X.env.scope.kind=.function
 glob:X.env.globals=mainGlobals
 blt:X.env.builtins=builtinsNs
 above:X.s₀.heap.objs.size≤X.env.locals
 inj:∀x y c,X.env.cells.lookup x=some c→X.env.cells.lookup y=some c→x=y
 has:∀x,(X.env.kindOf x=some .cell∨X.env.kindOf x=some .free)→∃c,X.env.cells.lookup x=some c
 cab:∀x c,X.fn x=true→X.env.cells.lookup x=some c→X.s₀.heap.objs.size≤c
 hd:X.calm=true→X.A.handled=none
 frames:X.A.frames=some X.stack
 stk:X.stack=X.outer∨(X.stack=X.env::X.outer∧X.env.frame=some X.env.locals)
 exf:∀b∈X.ex,b≠X.env.locals∧∀x c,X.env.cells.lookup x=some c→c≠b
 bs:∀b o,X.base.get? b=some o→X.s₀.heap.get? b=some o∧X.H₀ b=none
 bsz:X.base.objs.size≤X.s₀.heap.objs.size
 noex:∀b o,X.base.get? b=some o→b∉X.ex
 exfs:∀b∈X.ex,b∉X.fs
 funs:X.s₀.heap.FunFrames X.base X.outer
 frf:∀b∈X.fs,X.H₀ b=none
structure Inv (X:Cx) (pins:List (Addr × Obj)) (σ:List (Option V)) (H:Hp) (s:Shared):Prop where
 ok:X.Ok
 os:s.os=X.s₀.os
 bare:AllBare s.gens
 base:Un X.fs X.ex X.H₀ H X.s₀.heap s.heap
 loc:∃m,s.heap.Ns X.env.locals m∧∀(i:Nat) (x:Str) (v:V),X.N[i]?=some x→σ[i]?=some (some v)→Vis X.env.scope x→∃u,RelV v u∧Look X.env s.heap m x u
 cell:∀x c,X.env.cells.lookup x=some c→∃v,s.heap.IsCell c v
 free:H X.env.locals=none
 freeC:∀x c,X.env.cells.lookup x=some c→H c=none
 pin:∀p∈X.pn++pins,s.heap.get? p.1=some p.2∧H p.1=none∧p.1≠X.env.locals∧p.1∉X.fs∧∀v,p.2.data≠.cell v
 hok:HOk X.prog X.w H s.heap
 len:σ.length=X.N.length
section
variable {X:Cx} {pins:List (Addr × Obj)} {σ:List (Option V)} {H H':Hp} {s:Shared} {h':Heap}
theorem Cx.Ok.nofr (ok:X.Ok) {b:Addr} {o:Obj} (e:X.base.get? b=some o):b∉X.fs:=fun hb=>by
 have:=(ok.funs.mem hb).1
 rw [e] at this;cases this
theorem Inv.bs (I:Inv X pins σ H s):∀b o,X.base.get? b=some o→s.heap.get? b=some o∧H b=none:=fun b o e=>
 ⟨I.base.keep b o (I.ok.bs b o e).1 (I.ok.bs b o e).2 (I.ok.nofr e) (I.ok.noex b o e),I.base.free b o (I.ok.bs b o e).1 (I.ok.bs b o e).2 (I.ok.noex b o e)⟩
theorem Inv.bk (I:Inv X pins σ H s):∀b o,X.base.get? b=some o→s.heap.get? b=some o:=fun b o e=>(I.bs b o e).1
theorem Inv.mod (I:Inv X pins σ H s):Mod X.K X.mg X.base:=I.ok.mod
theorem Inv.kIn (I:Inv X pins σ H s):X.K.In s.heap:=I.ok.mod.kin.keeps I.bk
theorem Inv.fr (I:Inv X pins σ H s):∃m,Fr X.base X.env.locals s.heap m:=
 let ⟨m,hn,_⟩:=I.loc
 ⟨m,hn,I.bk,Nat.le_trans I.ok.bsz I.ok.above⟩
theorem Inv.lt (I:Inv X pins σ H s):X.env.locals<s.heap.objs.size:=let ⟨_,hn,_⟩:=I.loc;hn.lt
theorem Inv.sz (I:Inv X pins σ H s):X.s₀.heap.objs.size≤s.heap.objs.size:=Nat.le_trans I.ok.above (Nat.le_of_lt I.lt)
theorem Inv.nofs (I:Inv X pins σ H s) {a:Addr} (h:s.heap.objs.size≤a):a∉X.fs:=fun hb=>by
 obtain ⟨_,o,ho,_⟩:=I.ok.funs.mem hb
 exact absurd (Nat.lt_of_lt_of_le (Heap.lt_size ho) (Nat.le_trans I.sz h)) (Nat.lt_irrefl _)
theorem Inv.cne (I:Inv X pins σ H s):∀x c,X.env.cells.lookup x=some c→c≠X.env.locals:=fun x c e z=>by
 obtain ⟨v,o,ho,hd⟩:=I.cell x c e
 obtain ⟨m,⟨o',es,ep,ho',hd',_⟩,_⟩:=I.loc
 rw [z,ho'] at ho;cases ho;rw [hd'] at hd;cases hd
theorem Inv.funs (I:Inv X pins σ H s):s.heap.FunFrames X.base X.outer:=by
 have all:∀(l:List Env),(∀b∈frs l,b∈X.fs)→X.s₀.heap.FunFrames X.base l→s.heap.FunFrames X.base l:=by
  intro l
  induction l with
  |nil=>intro _ _;trivial
  |cons env r ih=>
   intro hs hl
   obtain ⟨hk,⟨L,o,hf,hn,ho,hd⟩,hr⟩:=hl
   have hL:L∈X.fs:=hs L (by unfold frs;rw [List.filterMap_cons,hf];exact List.mem_cons_self)
   obtain ⟨sl,e⟩:=I.base.slot L o ho (I.ok.frf L hL) hL fun z=>I.ok.exfs L z hL
   exact ⟨hk,⟨L,_,hf,hn,e,hd⟩,ih (fun b hb=>hs b (by unfold frs;rw [List.filterMap_cons,hf];exact List.mem_cons_of_mem _ hb)) hr⟩
 exact all X.outer (fun _ hb=>hb) I.ok.funs
theorem Inv.stack (I:Inv X pins σ H s):s.heap.FunFrames X.base X.stack:=by
 rcases I.ok.stk with e|⟨e,hf⟩
 ·rw [e];exact I.funs
 ·rw [e]
  obtain ⟨m,hn,_⟩:=I.loc
  refine .cons (by rw [I.ok.kind];decide) hf hn ?_ I.funs
  exact Heap.get?_none_of_le (Nat.le_trans I.ok.bsz I.ok.above)
theorem Inv.aJi (I:Inv X pins σ H s):∀b∈frs X.stack,b∈X.env.locals::X.fs:=fun b hb=>by
 rcases I.ok.stk with e|⟨e,hf⟩
 ·rw [e] at hb;exact List.mem_cons_of_mem _ hb
 ·rw [e] at hb
  unfold frs at hb
  rw [List.filterMap_cons,hf] at hb
  exact hb
theorem Inv.aEg (I:Inv X pins σ H s):∀b∈frs X.stack,H b=none:=fun b hb=>by
 rcases List.mem_cons.mp (I.aJi b hb) with e|hb
 ·rw [e];exact I.free
 ·obtain ⟨_,o,ho,_⟩:=I.ok.funs.mem hb
  exact I.base.free b o ho (I.ok.frf b hb) fun z=>I.ok.exfs b z hb
theorem Inv.step {g':Array GenState} {t':Nat} {d':Drawn} {ch:List Addr} (I:Inv X pins σ H s)
  (hch:∀b∈ch,(b∈X.ex∨X.s₀.heap.objs.size≤b)∧b≠X.env.locals∧(∀x c,X.env.cells.lookup x=some c→c≠b)∧∀p∈X.pn++pins,p.1≠b)
  (keep:∀b o,b≠X.env.locals→b∉X.fs→b∉ch→s.heap.get? b=some o→H b=none→h'.get? b=some o)
  (slot:∀b o,b≠X.env.locals→b∈X.fs→b∉ch→s.heap.get? b=some o→H b=none→∃sl,h'.get? b=some { o with slots:=sl }) (free:∀b o,b∉ch→s.heap.get? b=some o→H b=none→H' b=none)
  (there:∀b o,b∉ch→s.heap.get? b=some o→∃o',h'.get? b=some o')
  (tups:∀b xs,H b=some (.tup xs)→H' b=some (.tup xs)) (frzs:∀b o u,H b=some (.frz o u)→H' b=some (.frz o u)) (tbls:∀b ps,H b=some (.tbl ps)→∃more,H' b=some (.tbl (ps++more)))
  (ns:∀m,s.heap.Ns X.env.locals m→h'.Ns X.env.locals m) (hok:HOk X.prog X.w H' h') (hg:AllBare g') :
  Inv X pins σ H' { s with heap:=h',gens:=g',drawn:=d',toks:=t' }:=by
 have neL:∀b o,X.s₀.heap.get? b=some o→b≠X.env.locals:=fun b o e=>Nat.ne_of_lt (Nat.lt_of_lt_of_le (Heap.lt_size e) I.ok.above)
 have neC:∀b o,X.s₀.heap.get? b=some o→b∉X.ex→b∉ch:=fun b o e hx hb=>by
  rcases (hch b hb).1 with z|z
  ·exact hx z
  ·exact absurd (Nat.lt_of_lt_of_le (Heap.lt_size e) z) (Nat.lt_irrefl _)
 have cellK:∀x c,X.env.cells.lookup x=some c→∀v,s.heap.IsCell c v→h'.IsCell c v:=fun x c e v ⟨o,ho,hd⟩=>by
  have nch:c∉ch:=fun z=>(hch c z).2.2.1 x c e rfl
  by_cases hc:c∈X.fs
  ·obtain ⟨sl,q⟩:=slot c o (I.cne x c e) hc nch ho (I.freeC x c e)
   exact ⟨_,q,hd⟩
  ·exact ⟨o,keep c o (I.cne x c e) hc nch ho (I.freeC x c e),hd⟩
 refine ⟨I.ok,I.os,hg,⟨fun b o e n hb hx=>?_,fun b o e n hb hx=>?_,fun b o e n hx=>?_,fun b o e hx=>?_,fun b xs e=>tups b xs (I.base.tups b xs e),fun b o xs e=>frzs b o xs (I.base.frzs b o xs e),fun b ps e=>?_⟩,?_,fun x c e=>?_,?_,fun x c e=>?_,fun p hp=>?_,hok,I.len⟩
 ·exact keep b o (neL b o e) hb (neC b o e hx) (I.base.keep b o e n hb hx) (I.base.free b o e n hx)
 ·obtain ⟨sl,e1⟩:=I.base.slot b o e n hb hx
  obtain ⟨sl',e2⟩:=slot b _ (neL b o e) hb (neC b o e hx) e1 (I.base.free b o e n hx)
  exact ⟨sl',e2⟩
 ·obtain ⟨o',e1⟩:=I.base.there b o e hx
  exact free b o' (neC b o e hx) e1 (I.base.free b o e n hx)
 ·obtain ⟨o',e1⟩:=I.base.there b o e hx
  exact there b o' (neC b o e hx) e1
 ·obtain ⟨m1,e1⟩:=I.base.tbls b ps e
  obtain ⟨m2,e2⟩:=tbls b _ e1
  exact ⟨m1++m2,by rw [e2,Array.append_assoc]⟩
 ·obtain ⟨m,hn,hl⟩:=I.loc
  refine ⟨m,ns m hn,fun i x v e1 e2 e3=>?_⟩
  obtain ⟨u,r,l⟩:=hl i x v e1 e2 e3
  refine ⟨u,r,?_⟩
  rcases l with l|⟨k,c,e,z⟩
  ·exact .inl l
  ·exact .inr ⟨k,c,e,cellK x c e _ z⟩
 ·obtain ⟨v,z⟩:=I.cell x c e
  exact ⟨v,cellK x c e v z⟩
 ·obtain ⟨m,⟨o,_,_,ho,_⟩,_⟩:=I.loc
  exact free _ o (fun z=>(hch _ z).2.1 rfl) ho I.free
 ·obtain ⟨v,o,ho,hd⟩:=I.cell x c e
  exact free c o (fun z=>(hch c z).2.2.1 x c e rfl) ho (I.freeC x c e)
 ·obtain ⟨e,n,ne,nf,d⟩:=I.pin p hp
  have nch:p.1∉ch:=fun z=>(hch p.1 z).2.2.2 p hp rfl
  exact ⟨keep p.1 p.2 ne nf nch e n,free p.1 p.2 nch e n,ne,nf,d⟩
theorem Inv.un {t':Nat} (I:Inv X pins σ H s) (u:Un X.fs [] H H' s.heap h') (hok:HOk X.prog X.w H' h'):Inv X pins σ H' { s with heap:=h',toks:=t' }:=by
 obtain ⟨m,⟨o,es,ep,ho,r⟩,_⟩:=id I.loc
 obtain ⟨sl,hL⟩:=u.any ho I.free (by simp)
 exact I.step (g':=s.gens) (d':=s.drawn) (ch:=[]) (fun _ z=>nomatch z) (fun b o _ hb _ e n=>u.keep b o e n hb (by simp)) (fun b o _ hb _ e n=>u.slot b o e n hb (by simp)) (fun b o _ e n=>u.free b o e n (by simp)) (fun b o _ e=>u.there b o e (by simp)) u.tups u.frzs u.tbls (fun m' hm=>by
  obtain ⟨o',es',ep',ho',r'⟩:=hm
  rw [ho] at ho';cases ho'
  exact ⟨_,es',ep',hL,r'⟩) hok I.bare
theorem Inv.call {g':Array GenState} {t':Nat} {d':Drawn} {ch:List Addr} (I:Inv X pins σ H s) (u:Un (frs X.stack) ch H H' s.heap h') (hok:HOk X.prog X.w H' h') (hg:AllBare g')
  (hch:∀b∈ch,(b∈X.ex∨X.s₀.heap.objs.size≤b)∧b≠X.env.locals∧(∀x c,X.env.cells.lookup x=some c→c≠b)∧∀p∈X.pn++pins,p.1≠b) :
  Inv X pins σ H' { s with heap:=h',gens:=g',drawn:=d',toks:=t' }:=by
 obtain ⟨m,⟨o,es,ep,ho,r⟩,_⟩:=id I.loc
 obtain ⟨sl,hL⟩:=u.any ho I.free fun z=>(hch _ z).2.1 rfl
 exact I.step (ch:=ch) hch (fun b o hL hb hc e n=>u.keep b o e n (fun z=>(List.mem_cons.mp (I.aJi b z)).elim hL hb) hc) (fun b o _ _ hc e n=>u.any e n hc) (fun b o hc e n=>u.free b o e n hc) (fun b o hc e=>u.there b o e hc) u.tups u.frzs u.tbls (fun m' hm=>by
  obtain ⟨o',es',ep',ho',r'⟩:=hm
  rw [ho] at ho';cases ho'
  exact ⟨_,es',ep',hL,r'⟩) hok hg
theorem Inv.turned {t':Nat} {it:Addr} (I:Inv X pins σ H s) (k:∀b o,b≠it→s.heap.get? b=some o→h'.get? b=some o) (hn:H it=none) (hL:it≠X.env.locals)
  (h1:it∈X.ex∨X.s₀.heap.objs.size≤it) (h2:∀x c,X.env.cells.lookup x=some c→c≠it) (h3:∀p∈X.pn++pins,p.1≠it):Inv X pins σ H { s with heap:=h',toks:=t' }:=by
 have nit:∀b u,H b=some u→b≠it:=fun b u e z=>by rw [z,hn] at e;cases e
 refine I.step (g':=s.gens) (d':=s.drawn) (ch:=[it]) (fun b hb=>?_) (fun b o _ _ hc e _=>k b o (fun z=>hc (by simp [z])) e) (fun b o _ _ hc e _=>⟨o.slots,k b o (fun z=>hc (by simp [z])) e⟩) (fun _ _ _ _ n=>n)
  (fun b o hc e=>⟨o,k b o (fun z=>hc (by simp [z])) e⟩) (fun _ _ e=>e) (fun _ _ _ e=>e) (fun b ps e=>⟨#[],by rw [e];simp⟩) (fun m hm=>?_) (fun b u e=>?_) I.bare
 ·have e:b=it:=by simpa using hb
  subst e
  exact ⟨h1,hL,h2,h3⟩
 ·obtain ⟨o,es,ep,ho,r⟩:=hm
  exact ⟨o,es,ep,k _ o (Ne.symm hL) ho,r⟩
 ·refine (I.hok b u e).stay (fun c v hc q=>k c v ?_ q) (fun _ q=>q) fun _ _ q=>q
  rcases hc with z|z
  ·rw [z];exact nit b u e
  ·exact nit c _ z
theorem Inv.tok (I:Inv X pins σ H s) (t:Nat):Inv X pins σ H { s with toks:=t }:=I.un (h':=s.heap) (t':=t) Un.refl I.hok
theorem Inv.kept {t':Nat} (I:Inv X pins σ H s) (k:∀b u,s.heap.get? b=some u→h'.get? b=some u):Inv X pins σ H { s with heap:=h',toks:=t' }:=I.un (Un.kept k) (I.hok.kept k)
theorem Inv.laid {a:Addr} {o:HO} {t':Nat} (I:Inv X pins σ H s) (k:∀b u,s.heap.get? b=some u→h'.get? b=some u) (hp:s.heap.objs.size≤a) (new:fY X.prog X.w (upd H a o) h' a o) :
  Inv X pins σ (upd H a o) { s with heap:=h',toks:=t' }:=I.un (Un.laid k hp (I.hok.fresh hp)) (I.hok.laid k hp new)
theorem Inv.write {x e:Addr} {o:HO} {t':Nat} (I:Inv X pins σ H s) (mu:Mut (H x)) (he:e=x∨H e=some (.own x)) (k:∀b u,b≠e→s.heap.get? b=some u→h'.get? b=some u) (heo:∃u,h'.get? e=some u)
  (new:fY X.prog X.w (upd H x o) h' x o):Inv X pins σ (upd H x o) { s with heap:=h',toks:=t' }:=I.un (Un.write mu he k heo) (I.hok.write mu he k heo new)
theorem Inv.aK5 {pins':List (Addr × Obj)} (I:Inv X pins σ H s) (h:∀p∈pins',s.heap.get? p.1=some p.2∧H p.1=none∧p.1≠X.env.locals∧p.1∉X.fs∧∀v,p.2.data≠.cell v):Inv X pins' σ H s:=
 ⟨I.ok,I.os,I.bare,I.base,I.loc,I.cell,I.free,I.freeC,fun p hp=>(List.mem_append.mp hp).elim (fun z=>I.pin p (List.mem_append_left _ z)) (h p),I.hok,I.len⟩
theorem zA {N:List Str} (hN:N.Nodup) {i j:Nat} {x:Str} (a:N[i]?=some x) (b:N[j]?=some x):i=j:=by
 obtain ⟨h1,e1⟩:=List.getElem?_eq_some_iff.mp a
 obtain ⟨h2,e2⟩:=List.getElem?_eq_some_iff.mp b
 exact (List.getElem_inj hN).mp (e1.trans e2.symm)
theorem aCb {M:Model} {A:Around} {E:Value→Shared→Prop} {i:Nat} {x:Str} {v:V} {u:Value} {Q:Unit→Shared→Prop} (I:Inv X pins σ H s) (hN:X.N.Nodup) (hi:X.N[i]?=some x) (hx:Loc X.env.scope x) (r:RelV v u)
  (h:∀s',Inv X pins (σ.set i (some v)) H s'→(∃a,Heap.SameBut a s.heap s'.heap∧(a=X.env.locals∨X.env.cells.lookup x=some a))→Q () s') (hf:X.fn x=true∨X.env.scope.names.lookup x=some .local:=by first|exact .inl rfl|exact .inr rfl|assumption):wpAny M A (storeName X.env x u) Q E s:=by
 obtain ⟨m,hn,hl⟩:=id I.loc
 have hcls:(X.env.scope.kind == .class || (X.env.scope.kind == .module && X.env.locals != X.env.globals))=false:=by rw [I.ok.kind];rfl
 have hiσ:i<σ.length:=by rw [I.len];exact (List.getElem?_eq_some_iff.mp hi).1
 have cne:=I.cne
 have tracked:∀{a:Addr} {h':Heap},(∃o,s.heap.get? a=some o∧H a=none)→Heap.SameBut a s.heap h'→HOk X.prog X.w H h':=fun {a h'} ha hs b ob e=>by
  obtain ⟨_,_,hfree⟩:=ha
  refine (I.hok b ob e).stay (fun c w' hc q=>(hs.2 c ?_).trans q) (fun _ q=>q) fun _ _ q=>q
  rintro rfl
  rcases hc with rfl|hc
  ·rw [hfree] at e;cases e
  ·rw [hfree] at hc;cases hc
 rcases hx with hk|hk
 ·refine wpAny_storeName_local hk hn (fun h' hn' hs=>?_) hcls
  obtain ⟨oL,_,_,hoL,_⟩:=id hn
  refine h _ ⟨I.ok,I.os,I.bare,⟨fun b o e n hb hx=>?_,fun b o e n hb hx=>?_,I.base.free,fun b o e hx=>?_,I.base.tups,I.base.frzs,I.base.tbls⟩,⟨_,hn',fun j y v' e1 e2 e3=>?_⟩,fun y c e=>?_,I.free,I.freeC,fun p hp=>?_,tracked ⟨oL,hoL,I.free⟩ hs,by simpa using I.len⟩ ⟨_,hs,.inl rfl⟩
  ·exact (hs.2 b (Nat.ne_of_lt (Nat.lt_of_lt_of_le (Heap.lt_size e) I.ok.above))).trans (I.base.keep b o e n hb hx)
  ·obtain ⟨sl,e1⟩:=I.base.slot b o e n hb hx
   exact ⟨sl,(hs.2 b (Nat.ne_of_lt (Nat.lt_of_lt_of_le (Heap.lt_size e) I.ok.above))).trans e1⟩
  ·obtain ⟨o',e1⟩:=I.base.there b o e hx
   exact ⟨o',(hs.2 b (Nat.ne_of_lt (Nat.lt_of_lt_of_le (Heap.lt_size e) I.ok.above))).trans e1⟩
  ·by_cases hj:j=i
   ·subst hj
    rw [hi] at e1;cases e1
    rw [List.getElem?_set_self hiσ] at e2
    cases e2
    exact ⟨u,r,.inl ⟨hk,by simp⟩⟩
   ·rw [List.getElem?_set_ne (Ne.symm hj)] at e2
    obtain ⟨u',r',q⟩:=hl j y v' e1 e2 e3
    refine ⟨u',r',?_⟩
    rcases q with ⟨k,e⟩|⟨k,c,e,z⟩
    ·refine .inl ⟨k,?_⟩
     have:y≠x:=fun e=>hj (zA hN e1 (e ▸ hi))
     simp [this,e]
    ·exact .inr ⟨k,c,e,z.sameBut hs (cne y c e)⟩
  ·obtain ⟨w',z⟩:=I.cell y c e
   exact ⟨w',z.sameBut hs (cne y c e)⟩
  ·obtain ⟨e,n,ne,nf,d⟩:=I.pin p hp
   exact ⟨(hs.2 p.1 ne).trans e,n,ne,nf,d⟩
 ·have hfn:X.fn x=true:=by
   rcases hf with z|z
   ·exact z
   ·rw [z] at hk;cases hk
  obtain ⟨c,hc⟩:=I.ok.has x (.inl hk)
  obtain ⟨w',z⟩:=I.cell x c hc
  refine wpAny_storeName_cell I.ok.kind hk hc z (fun h' hc' hs=>?_)
  obtain ⟨oc,hoc,hocd⟩:=id z
  refine h { s with heap:=h' } ⟨I.ok,I.os,I.bare,⟨fun b o e n hb hx=>?_,fun b o e n hb hx=>?_,I.base.free,fun b o e hx=>?_,I.base.tups,I.base.frzs,I.base.tbls⟩,⟨m,hn.sameBut hs (Ne.symm (cne x c hc)),fun j y v' e1 e2 e3=>?_⟩,fun y c' e=>?_,I.free,I.freeC,fun p hp=>?_,tracked ⟨oc,hoc,I.freeC x c hc⟩ hs,by simpa using I.len⟩ ⟨c,hs,.inr hc⟩
  ·exact (hs.2 b (Nat.ne_of_lt (Nat.lt_of_lt_of_le (Heap.lt_size e) (I.ok.cab x c hfn hc)))).trans (I.base.keep b o e n hb hx)
  ·obtain ⟨sl,e1⟩:=I.base.slot b o e n hb hx
   exact ⟨sl,(hs.2 b (Nat.ne_of_lt (Nat.lt_of_lt_of_le (Heap.lt_size e) (I.ok.cab x c hfn hc)))).trans e1⟩
  ·obtain ⟨o',e1⟩:=I.base.there b o e hx
   exact ⟨o',(hs.2 b (Nat.ne_of_lt (Nat.lt_of_lt_of_le (Heap.lt_size e) (I.ok.cab x c hfn hc)))).trans e1⟩
  ·by_cases hj:j=i
   ·subst hj
    rw [hi] at e1;cases e1
    rw [List.getElem?_set_self hiσ] at e2
    cases e2
    exact ⟨u,r,.inr ⟨.inl hk,c,hc,hc'⟩⟩
   ·rw [List.getElem?_set_ne (Ne.symm hj)] at e2
    obtain ⟨u',r',q⟩:=hl j y v' e1 e2 e3
    refine ⟨u',r',?_⟩
    rcases q with q|⟨k,c',e,z'⟩
    ·exact .inl q
    ·refine .inr ⟨k,c',e,z'.sameBut hs ?_⟩
     rintro rfl
     exact hj (zA hN e1 (I.ok.inj _ _ _ e hc ▸ hi))
  ·by_cases hcc:c'=c
   ·subst hcc;exact ⟨_,hc'⟩
   ·obtain ⟨w2,z2⟩:=I.cell y c' e
    exact ⟨w2,z2.sameBut hs hcc⟩
  ·obtain ⟨e,n,ne,nf,d⟩:=I.pin p hp
   refine ⟨(hs.2 p.1 ?_).trans e,n,ne,nf,d⟩
   intro q
   rw [q,hoc] at e
   have q':oc=p.2:=Option.some.inj e
   exact d w' (by rw [←q'];exact hocd)
theorem aAy {M:Model} {A:Around} {E:Value→Shared→Prop} {i:Nat} {x:Str} {v:V} {u:Value} {Q:Unit→Shared→Prop} (I:Inv X pins σ H s) (hN:X.N.Nodup) (hi:X.N[i]?=some x) (hx:Loc X.env.scope x) (r:RelV v u)
  (h:∀s',Inv X pins (σ.set i (some v)) H s'→Q () s') (hf:X.fn x=true∨X.env.scope.names.lookup x=some .local:=by first|exact .inl rfl|exact .inr rfl|assumption):wpAny M A (storeName X.env x u) Q E s:=
 aCb I hN hi hx r (fun s' I' _=>h s' I') hf
theorem Inv.call' {s':Shared} {ch:List Addr} (I:Inv X pins σ H s) (ho:s'.os=s.os) (u:Un (frs X.stack) ch H H' s.heap s'.heap) (hok:HOk X.prog X.w H' s'.heap) (hg:AllBare s'.gens)
  (hch:∀b∈ch,(b∈X.ex∨X.s₀.heap.objs.size≤b)∧b≠X.env.locals∧(∀x c,X.env.cells.lookup x=some c→c≠b)∧∀p∈X.pn++pins,p.1≠b):Inv X pins σ H' s':=by
 obtain ⟨h',g',d',t',o'⟩:=s'
 have e:o'=s.os:=ho
 subst e
 exact I.call (g':=g') (t':=t') (d':=d') u hok hg hch
end
abbrev XK:=Value→Option Addr→Hp→Prop
abbrev St:=List (Option V)
abbrev VK:=V→Hp→Prop
abbrev TE:=St→Hp→VK→Prop
abbrev TT:=St→Hp→(Bool→Hp→Prop)→Prop
abbrev TA:=St→Hp→(List V→Hp→Prop)→Prop
structure Ends where
 nx:St→Hp→Prop
 rt:VK
 bk:St→Hp→Prop:=fun _ _=>False
 ct:St→Hp→Prop:=fun _ _=>False
abbrev TS:=Ends→St→Hp→Prop
def EP (X:Cx) (pins:List (Addr × Obj)) (σ:St) (Q:VK) (u:Value) (s':Shared):Prop:=∃v H',Inv X pins σ H' s'∧RelV v u∧Q v H'
def TP (X:Cx) (pins:List (Addr × Obj)) (σ:St) (Q:Bool→Hp→Prop) (b:Bool) (s':Shared):Prop:=∃H',Inv X pins σ H' s'∧Q b H'
def AP (X:Cx) (pins:List (Addr × Obj)) (σ:St) (Q:List V→Hp→Prop) (us:List Value) (s':Shared):Prop:=∃vs H',Inv X pins σ H' s'∧Vals vs us∧Q vs H'
def SP (X:Cx) (pins:List (Addr × Obj)) (D:Ends) (f:Flow) (s':Shared):Prop:=
 match f with
 |.next=>∃σ' H',Inv X pins σ' H' s'∧D.nx σ' H'
 |.brk=>∃σ' H',Inv X pins σ' H' s'∧D.bk σ' H'
 |.cont=>∃σ' H',Inv X pins σ' H' s'∧D.ct σ' H'
 |.ret u=>∃v σ' H',Inv X pins σ' H' s'∧RelV v u∧D.rt v H'
def PE (X:Cx) (e:Expr) (t:TE):Prop:=
 ∀(pins:List (Addr × Obj)) (s:Shared) (σ:St) (H:Hp) (Q:VK),Inv X pins σ H s→t σ H Q→wpAny (model X.prog X.w) X.A (eval e X.env) (EP X pins σ Q) X.xe s
def PT (X:Cx) (e:Expr) (t:TT):Prop:=
 ∀(pins:List (Addr × Obj)) (s:Shared) (σ:St) (H:Hp) (Q:Bool→Hp→Prop),Inv X pins σ H s→t σ H Q→wpAny (model X.prog X.w) X.A (isTrue e X.env (eval e X.env)) (TP X pins σ Q) X.xe s
def PW (X:Cx) (e:Expr) (t:TT):Prop:=
 ∀(whole:Sem Value) (pins:List (Addr × Obj)) (s:Shared) (σ:St) (H:Hp) (Q:Bool→Hp→Prop),Inv X pins σ H s→t σ H Q→wpAny (model X.prog X.w) X.A (isTrue e X.env whole) (TP X pins σ Q) X.xe s
theorem PW.pt {X:Cx} {e:Expr} {t:TT} (h:PW X e t):PT X e t:=h _
def PA (X:Cx) (es:List Expr) (t:TA):Prop:=
 ∀(pos:Pos) (pins:List (Addr × Obj)) (s:Shared) (σ:St) (H:Hp) (Q:List V→Hp→Prop),Inv X pins σ H s→t σ H Q→wpAny (model X.prog X.w) X.A (spliced (backTo pos (starEach es X.env))) (AP X pins σ Q) X.xe s
def PS (X:Cx) (st:Stmt) (t:TS):Prop:=
 ∀(pins:List (Addr × Obj)) (s:Shared) (σ:St) (H:Hp) (D:Ends),Inv X pins σ H s→t D σ H→wpAny (model X.prog X.w) X.A (exec st X.env) (SP X pins D) X.xe s
def PSs (X:Cx) (st:List Stmt) (t:TS):Prop:=
 ∀(pins:List (Addr × Obj)) (s:Shared) (σ:St) (H:Hp) (D:Ends),Inv X pins σ H s→t D σ H→wpAny (model X.prog X.w) X.A (execs st X.env) (SP X pins D) X.xe s
theorem thn {α:Type} {t:Sem α} {Q Q':α→Shared→Prop} {M:Model} {A:Around} {E:Value→Shared→Prop} {s:Shared} (h:wpAny M A t Q E s) (hQ:∀a s,Q a s→Q' a s):wpAny M A t Q' E s:=wpAny_mono h hQ fun _ _ x=>x
section
variable {X:Cx}
def fQ (i:Nat):TE:=fun σ H Q=>∃v,σ[i]?=some (some v)∧Q v H
def tC (v:V):TE:=fun _ H Q=>Q v H
theorem aUd {i:Nat} {x:Str} {pos:Pos} (hN:X.N[i]?=some x) (hv:Vis X.env.scope x) (hd:(x == ("__debug__":Str))=false:=by decide) (hcd:(x == ("__classdict__":Str))=false:=by decide):PE X (.Name x pos) (fQ i):=by
 intro pins s σ H Q I h
 obtain ⟨v,e,h⟩:=h
 obtain ⟨m,hn,hl⟩:=I.loc
 obtain ⟨u,r,l⟩:=hl i x v hN e hv
 have fin:EP X pins σ Q u s:=⟨v,H,I,r,h⟩
 rcases l with ⟨hk,hm⟩|⟨hk,c,hc,hcell⟩
 ·exact wpAny_Name (wpAny_loadName_local I.ok.kind hk hn hm fin) hd
 ·rcases hk with hk|hk
  ·exact wpAny_Name (wpAny_loadName_cell I.ok.kind hk hc hcell fin) hd
  ·exact wpAny_Name (wpAny_loadName_free I.ok.kind hk hc hcell fin hcd) hd
theorem aUs {i j pos}:PE X (.Constant (.int i) j pos) (tC (.int i)):=fun _ _ _ H _ I h=>wpAny_Constant_int ⟨.int i,H,I.tok _,⟨_,rfl⟩,h⟩
theorem aWf {b j pos}:PE X (.Constant (.bool b) j pos) (tC (.bl b)):=fun _ _ _ H _ I h=>Constant_bool ⟨.bl b,H,I,rfl,h⟩
theorem aU7 {j pos}:PE X (.Constant .none j pos) (tC .non):=fun _ _ _ H _ I h=>Constant_none ⟨.non,H,I,rfl,h⟩
theorem aVs {x j pos}:PE X (.Constant (.str x) j pos) (tC (.str x)):=fun _ _ _ H _ I h=>Calls.Constant_str ⟨.str x,H,I.tok _,⟨_,rfl⟩,h⟩
def Gl (X:Cx) (x:Str):Prop:=X.env.kindOf x=some .globalImplicit
theorem qH {E:Value→Shared→Prop} {pins:List (Addr × Obj)} {s:Shared} {σ:St} {H:Hp} {x:Str} {u:Value} {pos:Pos} {Q:Value→Shared→Prop} (I:Inv X pins σ H s) (hg:Gl X x) (hm:X.mg x=some u) (h:Q u s)
  (hd:(x == ("__debug__":Str))=false:=by decide):wpAny (model X.prog X.w) X.A (eval (.Name x pos) X.env) Q E s:=
 Calls.Name_function_global I.ok.kind hg (Calls.loadGlobal_global (by rw [I.ok.glob];exact I.mod.glob.keeps I.bk) hm h) hd
theorem rD {E:Value→Shared→Prop} {pins:List (Addr × Obj)} {s:Shared} {σ:St} {H:Hp} {x:Str} {u:Value} {pos:Pos} {Q:Value→Shared→Prop} (I:Inv X pins σ H s) (hg:Gl X x) (hm:X.mg x=none) (hv:bootBuiltins x=some u) (h:Q u s)
  (hn:x≠"__name__":=by decide) (hd:(x == ("__debug__":Str))=false:=by decide):wpAny (model X.prog X.w) X.A (eval (.Name x pos) X.env) Q E s:=by
 obtain ⟨mb,h1,h2⟩:=I.mod.blt
 exact Calls.Name_function_global I.ok.kind hg (Calls.loadGlobal_builtin (by rw [I.ok.glob];exact I.mod.glob.keeps I.bk) hm (by rw [I.ok.blt];exact h1.keeps I.bk) ((h2 x hn).trans hv) h) hd
theorem aRb {x:Str} {v:V} {u:Value} {pos:Pos} (hg:Gl X x) (hm:X.mg x=some u) (r:RelV v u) (hd:(x == ("__debug__":Str))=false:=by decide):PE X (.Name x pos) (tC v):=
 fun _ _ _ H _ I h=>qH I hg hm ⟨v,H,I,r,h⟩ hd
theorem aRc {x:Str} {v:V} {u:Value} {pos:Pos} (hg:Gl X x) (hm:X.mg x=none) (hv:bootBuiltins x=some u) (r:RelV v u) (hn:x≠"__name__":=by decide) (hd:(x == ("__debug__":Str))=false:=by decide):PE X (.Name x pos) (tC v):=
 fun _ _ _ H _ I h=>rD I hg hm hv ⟨v,H,I,r,h⟩ hn hd
variable {a b:Expr} {ta tb:TE} {pos:Pos}
def tB (t:TE):TT:=fun σ H Q=>t σ H fun x H1=>∃c,x=.bl c∧Q c H1
theorem aVi {e:Expr} {t:TE} (h:PE X e t) (he:∀whole,isTrue e X.env whole=(do let v ←whole;standAt e.pos;holding [v] (truthy v)):=by intro _;rfl):PT X e (tB t):=by
 intro pins s σ H Q I hw
 refine isTrue_plain (thn (h pins s σ H _ I hw) fun v s1 ⟨x,H1,I1,r1,q1⟩=>?_) (he _)
 obtain ⟨d,rfl,q⟩:=q1
 cases r1
 exact wpAny_truthy_bool ⟨H1,I1,q⟩
variable {tA tB':TT} {rest:List Expr}
def tOr (t u:TT):TT:=fun σ H Q=>t σ H fun c H1=>if c=true then Q true H1 else u σ H1 Q
def aW6 (t:TT):TT:=fun σ H Q=>t σ H fun c H1=>Q (!c) H1
theorem aTd (ha:PT X a tA):PW X (.BoolOp .Or [a] pos) tA:=by
 intro wh pins s σ H Q I h
 refine isTrue_or (thn (ha pins s σ H Q I h) fun c s1 e=>?_)
 cases c with
 |false=>exact isTrue_or_nil e
 |true=>exact e
theorem aWo (ha:PT X a tA) (hb:PW X (.BoolOp .Or (b::rest) pos) tB'):PW X (.BoolOp .Or (a::b::rest) pos) (tOr tA tB'):=by
 intro wh pins s σ H Q I h
 refine isTrue_or (thn (ha pins s σ H _ I h) fun c s1 ⟨H1,I1,q1⟩=>?_)
 cases c with
 |true=>exact ⟨H1,I1,q1⟩
 |false=>exact hb wh pins s1 σ H1 Q I1 q1
theorem aVz (ha:PT X a tA):PT X (.UnaryOp .Not a pos) (aW6 tA):=by
 intro pins s σ H Q I h
 exact isTrue_not (ha pins s σ H (fun c H1=>Q (!c) H1) I h)
def aSz (ta tb:TE):TE:=fun σ H Q=>ta σ H fun x H1=>∃c,x=.bl c∧if c=true then tb σ H1 Q else Q (.bl false) H1
def aW2 (ta tb:TE):TE:=fun σ H Q=>ta σ H fun x H1=>∃c,x=.bl c∧if c=true then Q (.bl true) H1 else tb σ H1 Q
def aSy (ta:TE):TE:=fun σ H Q=>ta σ H fun x H1=>∃c,x=.bl c∧Q (.bl (!c)) H1
theorem aT5 {op} {t:TE} (h:PE X a t):PE X (.BoolOp op [a] pos) t:=fun pins s σ H Q I hw=>BoolOp_one (h pins s σ H Q I hw)
theorem aVa (ha:PE X a ta) (hb:PE X (.BoolOp .And (b::rest) pos) tb):PE X (.BoolOp .And (a::b::rest) pos) (aSz ta tb):=by
 intro pins s σ H Q I h
 refine BoolOp_and (thn (ha pins s σ H _ I h) fun v s1 ⟨x,H1,I1,r1,q1⟩=>?_)
 obtain ⟨c,rfl,q1⟩:=q1
 cases r1
 refine wpAny_truthy_bool ?_
 cases c with
 |true=>exact hb pins s1 σ H1 Q I1 q1
 |false=>exact ⟨.bl false,H1,I1,rfl,q1⟩
theorem aWg (ha:PE X a ta) (hb:PE X (.BoolOp .Or (b::rest) pos) tb):PE X (.BoolOp .Or (a::b::rest) pos) (aW2 ta tb):=by
 intro pins s σ H Q I h
 refine BoolOp_or (thn (ha pins s σ H _ I h) fun v s1 ⟨x,H1,I1,r1,q1⟩=>?_)
 obtain ⟨c,rfl,q1⟩:=q1
 cases r1
 refine wpAny_truthy_bool ?_
 cases c with
 |false=>exact hb pins s1 σ H1 Q I1 q1
 |true=>exact ⟨.bl true,H1,I1,rfl,q1⟩
theorem aTn (ha:PE X a ta):PE X (.UnaryOp .Not a pos) (aSy ta):=by
 intro pins s σ H Q I h
 refine UnaryOp_ (thn (ha pins s σ H _ I h) fun v s1 ⟨x,H1,I1,r1,q1⟩=>?_)
 obtain ⟨c,rfl,q1⟩:=q1
 cases r1
 exact not_of (wpAny_truthy_bool ⟨.bl (!c),H1,I1,rfl,q1⟩)
def tIf (t:TT) (ta tb:TE):TE:=fun σ H Q=>t σ H fun c H1=>if c=true then ta σ H1 Q else tb σ H1 Q
theorem aOs {c:Expr} (hc:PT X c tA) (ha:PE X a ta) (hb:PE X b tb):PE X (.IfExp c a b pos) (tIf tA ta tb):=by
 intro pins s σ H Q I h
 refine wpAny_IfExp (thn (hc pins s σ H _ I h) fun d s1 ⟨H1,I1,q1⟩=>?_)
 cases d with
 |true=>exact ha pins s1 σ H1 Q I1 q1
 |false=>exact hb pins s1 σ H1 Q I1 q1
end
def SqL (K:PySem.W.Frag) (H:Hp) (a:Addr) (xs:List V):Prop:=
 Rd H a (.lst xs) ∨
  ∃(o:Obj) (its:Array Value) (n:Nat),K.lookup a=some o∧o.cls=.type "list"∧o.dict=none∧o.data=.seq its n∧its.size≤sizeLine∧Vals xs its.toList
def SqT (K:PySem.W.Frag) (H:Hp) (a:Addr) (xs:List V):Prop:=
 Rd H a (.tup xs) ∨
  ∃(o:Obj) (its:Array Value) (n:Nat),K.lookup a=some o∧o.cls=.type "tuple"∧o.dict=none∧o.data=.seq its n∧its.size≤sizeLine∧Vals xs its.toList
def aYd:Value→Option V
 |.none=>some .non
 |.bool b=>some (.bl b)
 |.int i _=>some (.int i)
 |.str x _=>some (.str x)
 |.bytes b _=>some (.byt b)
 |.float b _=>some (.flt b)
 |.ref a=>some (.ref a)
 |.type n=>some (.ty n)
 |_=>none
theorem RelV.abs {x:V} {u:Value} (r:RelV x u):aYd u=some x:=by
 cases x with
 |non=>cases r;rfl
 |bl _=>cases r;rfl
 |int _=>obtain ⟨t,rfl⟩:=r;rfl
 |str _=>obtain ⟨t,rfl⟩:=r;rfl
 |byt _=>obtain ⟨t,rfl⟩:=r;rfl
 |flt _=>obtain ⟨t,rfl⟩:=r;rfl
 |ref _=>cases r;rfl
 |ty _=>cases r;rfl
theorem RelV.inj {x y:V} {u:Value} (r:RelV x u) (q:RelV y u):x=y:=Option.some.inj (r.abs.symm.trans q.abs)
theorem Vals.inj:∀{xs ys:List V} {us:List Value},Vals xs us→Vals ys us→xs=ys
 |_,_,_,.nil,.nil=>rfl
 |_,_,_,.cons r t,.cons r' t'=>by rw [r.inj r',Vals.inj t t']
section
variable {X:Cx} {pins:List (Addr × Obj)} {σ:St} {H:Hp} {s:Shared} {a:Addr} {xs ys:List V}
theorem SqL.of {K:PySem.W.Frag} (h:H a=some (.lst xs)):SqL K H a xs:=.inl (.inl h)
theorem SqT.of {K:PySem.W.Frag} (h:H a=some (.tup xs)):SqT K H a xs:=.inl (.inl h)
theorem Inv.list (I:Inv X pins σ H s) (h:SqL X.K H a xs):∃its:List Value,Vals xs its∧PlainL s.heap a its.toArray∧xs.length≤sizeLine:=by
 rcases h with h|⟨o,its,n,hk,hc,hd,hs,hz,r⟩
 ·obtain ⟨z,its,n,r,e⟩:=h.ok I.hok
  exact ⟨its,r,⟨_,n,e,rfl,rfl,rfl⟩,z⟩
 ·refine ⟨its.toList,r,⟨o,n,I.kIn a o hk,hc,hd,by simpa using hs⟩,?_⟩
  have e:=r.length
  simp only [Array.length_toList] at e
  omega
theorem Inv.tuple (I:Inv X pins σ H s) (h:SqT X.K H a xs):∃its:List Value,Vals xs its∧IsTup s.heap a its.toArray∧xs.length≤sizeLine:=by
 rcases h with h|⟨o,its,n,hk,hc,hd,hs,hz,r⟩
 ·obtain ⟨z,its,r,p⟩:=h.ok I.hok
  exact ⟨its,r,p.1,z⟩
 ·refine ⟨its.toList,r,⟨o,I.kIn a o hk,hc,n,by simpa using hs⟩,?_⟩
  have e:=r.length
  simp only [Array.length_toList] at e
  omega
theorem Inv.aYj (I:Inv X pins σ H s) (h:SqT X.K H a xs):∃its:List Value,Vals xs its∧vL s.heap a its.toArray∧xs.length≤sizeLine:=by
 rcases h with h|⟨o,its,n,hk,hc,hd,hs,hz,r⟩
 ·obtain ⟨z,its,r,p⟩:=h.ok I.hok
  exact ⟨its,r,p,z⟩
 ·refine ⟨its.toList,r,.of (I.kIn a o hk) hd ⟨o,I.kIn a o hk,hc,n,by simpa using hs⟩,?_⟩
  have e:=r.length
  simp only [Array.length_toList] at e
  omega
theorem Inv.aNy (I:Inv X pins σ H s) (h:SqL X.K H a xs) (h':SqL X.K H a ys):xs=ys:=by
 obtain ⟨its,r,⟨o,n,e,_,_,d⟩,_⟩:=I.list h
 obtain ⟨its',r',⟨o',n',e',_,_,d'⟩,_⟩:=I.list h'
 rw [e] at e';cases e'
 rw [d] at d'
 injection d' with d1 _
 have:its=its':=by simpa using congrArg Array.toList d1
 subst this
 exact r.inj r'
theorem Inv.aMz (I:Inv X pins σ H s) (h:SqT X.K H a xs) (h':SqT X.K H a ys):xs=ys:=by
 obtain ⟨its,r,⟨o,e,_,n,d⟩,_⟩:=I.tuple h
 obtain ⟨its',r',⟨o',e',_,n',d'⟩,_⟩:=I.tuple h'
 rw [e] at e';cases e'
 rw [d] at d'
 injection d' with d1 _
 have:its=its':=by simpa using congrArg Array.toList d1
 subst this
 exact r.inj r'
end
abbrev Cx.wish (X:Cx) (E:Value→Shared→Prop):Cx:={ X with xe:=E }
abbrev Cx.nox (X:Cx):Cx:=X.wish fun _ _=>False
theorem Cx.Ok.wish {X:Cx} (ok:X.Ok) (E:Value→Shared→Prop):(X.wish E).Ok:=
 ⟨ok.mod,ok.kind,ok.glob,ok.blt,ok.above,ok.inj,ok.has,ok.cab,ok.hd,ok.frames,ok.stk,ok.exf,ok.bs,ok.bsz,ok.noex,ok.exfs,ok.funs,ok.frf⟩
theorem Cx.Ok.pX {X:Cx} {E:Value→Shared→Prop} (ok:(X.wish E).Ok):X.Ok:=
 ⟨ok.mod,ok.kind,ok.glob,ok.blt,ok.above,ok.inj,ok.has,ok.cab,ok.hd,ok.frames,ok.stk,ok.exf,ok.bs,ok.bsz,ok.noex,ok.exfs,ok.funs,ok.frf⟩
section
variable {X:Cx} {pins:List (Addr × Obj)} {σ:St} {H:Hp} {s:Shared} {E:Value→Shared→Prop}
theorem Inv.wish (I:Inv X pins σ H s) (E:Value→Shared→Prop):Inv (X.wish E) pins σ H s:=⟨I.ok.wish E,I.os,I.bare,I.base,I.loc,I.cell,I.free,I.freeC,I.pin,I.hok,I.len⟩
theorem Inv.pX (I:Inv (X.wish E) pins σ H s):Inv X pins σ H s:=⟨I.ok.pX,I.os,I.bare,I.base,I.loc,I.cell,I.free,I.freeC,I.pin,I.hok,I.len⟩
theorem SP.pX {D:Ends} {f:Flow} {s':Shared} (h:SP (X.wish E) pins D f s'):SP X pins D f s':=by
 cases f with
 |next=>obtain ⟨σ',H',I,q⟩:=h;exact ⟨σ',H',I.pX,q⟩
 |brk=>obtain ⟨σ',H',I,q⟩:=h;exact ⟨σ',H',I.pX,q⟩
 |cont=>obtain ⟨σ',H',I,q⟩:=h;exact ⟨σ',H',I.pX,q⟩
 |ret u=>obtain ⟨v,σ',H',I,r,q⟩:=h;exact ⟨v,σ',H',I.pX,r,q⟩
theorem PSs.nox {st:List Stmt} {t:TS} (h:PSs X.nox st t):PSs X st t:=fun pins s σ H D I hw=>
 wpAny_mono (h pins s σ H D (I.wish _) hw) (fun _ _ q=>q.pX) fun _ _ z=>False.elim z
end
section
variable {X:Cx} {st:Stmt} {rest:List Stmt} {t u:TS} {e:Expr} {te:TE} {pos:Pos}
def aGx:TS:=fun D σ H=>D.nx σ H
def qF (t u:TS):TS:=fun D σ H=>t { D with nx:=u D } σ H
theorem aRk:PSs X [] aGx:=fun _ _ σ H _ I h=>wpAny_execs_nil ⟨σ,H,I,h⟩
theorem aOc (h1:PS X st t) (h2:PSs X rest u):PSs X (st::rest) (qF t u):=by
 intro pins s σ H D I h
 refine wpAny_execs_cons (thn (h1 pins s σ H { D with nx:=u D } I h) fun f s1 q=>?_)
 cases f with
 |next=>
  obtain ⟨σ',H',I',q⟩:=q
  exact h2 pins s1 σ' H' D I' q
 |ret v=>exact q
 |brk=>exact q
 |cont=>exact q
theorem aRu (h1:PS X st t):PSs X [st] t:=by
 intro pins s σ H D I h
 refine wpAny_execs_cons (thn (h1 pins s σ H D I h) fun f s1 q=>?_)
 cases f with
 |next=>exact wpAny_execs_nil q
 |ret v=>exact q
 |brk=>exact q
 |cont=>exact q
theorem Inv.quiet {pins:List (Addr × Obj)} {σ:St} {H:Hp} {s:Shared} (I:Inv X pins σ H s):interactive X.env=false:=by simp [interactive,I.ok.kind]
def aGa (te:TE):TS:=fun D σ H=>te σ H fun _ H1=>D.nx σ H1
theorem aKw (he:PE X e te) (hs:swapsWith e none pos.line X.env=pure false:=by rfl):PS X (.Expr e pos) (aGa te):=by
 intro pins s σ H D I h
 exact wpAny_Expr_any (thn (he pins s σ H _ I h) fun v s1 ⟨x,H1,I1,r1,q1⟩=>⟨σ,H1,I1,q1⟩) I.quiet hs
def aMm (te:TE):TS:=fun D σ H=>te σ H D.rt
theorem aTt (he:PE X e te):PS X (.Return (some e) pos) (aMm te):=by
 intro pins s σ H D I h
 exact wpAny_Return_some (thn (he pins s σ H _ I h) fun v s1 ⟨x,H1,I1,r1,q1⟩=>⟨x,σ,H1,I1,r1,q1⟩)
def aT0 (c:TT) (t u:TS):TS:=fun D σ H=>c σ H fun b H1=>if b=true then t D σ H1 else u D σ H1
theorem aXo {c:Expr} {a b:List Stmt} {tc:TT} (hc:PT X c tc) (ha:PSs X a t) (hb:PSs X b u):PS X (.If c a b pos) (aT0 tc t u):=by
 intro pins s σ H D I h
 refine wpAny_If (thn (hc pins s σ H _ I h) fun d s1 ⟨H1,I1,q1⟩=>?_)
 cases d with
 |true=>exact ha pins s1 σ H1 D I1 q1
 |false=>exact hb pins s1 σ H1 D I1 q1
end
abbrev TG:=V→St→Hp→(St→Hp→Prop)→Prop
abbrev TGs:=List V→St→Hp→(St→Hp→Prop)→Prop
def PG (X:Cx) (target:Expr) (t:TG):Prop:=
 ∀(pins:List (Addr × Obj)) (s:Shared) (σ:St) (H:Hp) (v:V) (u:Value) (Q:St→Hp→Prop),Inv X pins σ H s→RelV v u→t v σ H Q →
  wpAny (model X.prog X.w) X.A (assign target X.env u) (fun _ s'=>∃σ' H',Inv X pins σ' H' s'∧Q σ' H') X.xe s
def PGs (X:Cx) (ts:List Expr) (t:TGs):Prop:=
 ∀(pins:List (Addr × Obj)) (s:Shared) (σ:St) (H:Hp) (vs:List V) (us:List Value) (Q:St→Hp→Prop),Inv X pins σ H s→Vals vs us→t vs σ H Q →
  wpAny (model X.prog X.w) X.A (assignInOrder ((assignEach ts X.env).map (·.2)) us) (fun _ s'=>∃σ' H',Inv X pins σ' H' s'∧Q σ' H') X.xe s
abbrev aR3:=V→V→V→Hp→(Hp→Prop)→Prop
def aT2 (X:Cx) (t:aR3):Prop:=
 ∀(pins:List (Addr × Obj)) (s:Shared) (σ:St) (H:Hp) (o i v:V) (ov iv u:Value) (Q:Hp→Prop),Inv X pins σ H s→RelV o ov→RelV i iv→RelV v u→t o i v H Q →
  wpAny (model X.prog X.w) X.A (setItem ov iv u) (fun _ s'=>∃H',Inv X pins σ H' s'∧Q H') X.xe s
section
variable {X:Cx} {pos:Pos}
def cH (i:Nat):TG:=fun v σ H Q=>Q (σ.set i (some v)) H
theorem aSs {i:Nat} {x:Str} (hN:X.N.Nodup) (hi:X.N[i]?=some x) (hx:Loc X.env.scope x) (hf:X.fn x=true∨X.env.scope.names.lookup x=some .local:=by first|exact .inl rfl|exact .inr rfl|assumption):PG X (.Name x pos) (cH i):=by
 intro pins s σ H v u Q I r h
 exact wpAny_assign_Name (aAy I hN hi hx r (fun s' I'=>⟨_,H,I',h⟩) hf)
def aM8:TGs:=fun vs σ H Q=>vs=[]∧Q σ H
def qT (t:TG) (u:TGs):TGs:=fun vs σ H Q=>∃v r,vs=v::r∧t v σ H fun σ' H'=>u r σ' H' Q
theorem aRl:PGs X [] aM8:=by
 intro pins s σ H vs us Q I r h
 obtain ⟨e,h⟩:=h
 subst e
 cases r
 exact assignInOrder_nil ⟨σ,H,I,h⟩
theorem aO2 {e:Expr} {es:List Expr} {t:TG} {u:TGs} (h1:PG X e t) (h2:PGs X es u)
  (hs:(assignEach (e::es) X.env).map (·.2)=assign e X.env::(assignEach es X.env).map (·.2):=by rfl):PGs X (e::es) (qT t u):=by
 intro pins s σ H vs us Q I r h
 obtain ⟨v,vr,e1,h⟩:=h
 subst e1
 cases r with
 |cons r rr=>
  rw [hs]
  refine assignInOrder_cons (thn (h1 pins s σ H _ _ _ I r h) fun _ s1 ⟨σ1,H1,I1,q1⟩=>?_)
  exact h2 pins s1 σ1 H1 _ _ Q I1 rr q1
def aJt (K:PySem.W.Frag) (n:Nat) (t:TGs):TG:=fun v σ H Q=>∃a xs,v=.ref a∧SqT K H a xs∧xs.length=n∧t xs σ H Q
theorem aV5 {es:List Expr} {k:Nat} {t:TGs} {n:Nat} (hc:X.calm=true) (h:PGs X es t)
  (hn:(assignEach es X.env).length=n:=by rfl) (hst:(assignEach es X.env).findIdx? (·.1)=none:=by rfl):PG X (.Tuple es k pos) (aJt X.K n t):=by
 intro pins s σ H v u Q I r hw
 obtain ⟨a,xs,e1,hq,hl,hw⟩:=hw
 subst e1
 cases r
 obtain ⟨its,rv,ht,hz⟩:=I.tuple hq
 refine assign_Tuple_tuple (I.ok.hd hc) ht (by simp [hn,←hl,rv.length]) hst fun h' hx=>?_
 have I1:Inv X pins σ H { s with heap:=h' }:=I.kept (t':=s.toks) fun b o e=>hx b o (Nat.ne_of_lt (Heap.lt_size e)) e
 exact h pins _ σ H xs _ Q I1 (by simpa using rv) hw
def aXn (to ti:TE) (t:aR3):TG:=fun v σ H Q=>to σ H fun o H1=>ti σ H1 fun i H2=>t o i v H2 fun H3=>Q σ H3
theorem aTs {o i:Expr} {to ti:TE} {t:aR3} (ho:PE X o to) (hi:PE X i ti) (hs:aT2 X t)
  (ha:∀v,assign (.Subscript o i pos) X.env v=(do
   let ov ←holding [v] (eval o X.env)
   let iv ←holding [v,ov] (eval i X.env)
   standAt pos
   holding [v,ov,iv] (setItem ov iv v)
   release [v,ov,iv] []):=by intro _;rfl):PG X (.Subscript o i pos) (aXn to ti t):=by
 intro pins s σ H v u Q I r h
 rw [ha]
 refine wpAny_bind (wpAny_holding (thn (ho pins s σ H _ I h) fun ov s1 ⟨x,H1,I1,r1,q1⟩=>?_))
 refine wpAny_bind (wpAny_holding (thn (hi pins s1 σ H1 _ I1 q1) fun iv s2 ⟨y,H2,I2,r2,q2⟩=>?_))
 refine wpAny_bind (wpAny_standAt (wpAny_bind (wpAny_holding (thn (hs pins s2 σ H2 x y v ov iv u _ I2 r1 r2 r q2) fun _ s3 ⟨H3,I3,q3⟩=>?_))))
 exact wpAny_release ⟨σ,H3,I3,q3⟩
def oY (te:TE) (g:TG):TS:=fun D σ H=>te σ H fun x H1=>g x σ H1 D.nx
theorem aVc {tg e:Expr} {te:TE} {g:TG} (he:PE X e te) (hg:PG X tg g) (hs:swapsWithSole [tg] e pos.line X.env=pure false:=by rfl) (hw:swappedStores [tg] e X.env=pure none:=by rfl)
  (h1:(assignEach [tg] X.env).map (·.2)=[assign tg X.env]:=by rfl):PS X (.Assign [tg] e pos) (oY te g):=by
 intro pins s σ H D I h
 refine wpAny_Assign_stores (thn (he pins s σ H _ I h) fun v s1 ⟨x,H1,I1,r1,q1⟩=>?_) hs hw
 rw [h1]
 exact thn (hg pins s1 σ H1 x v _ I1 r1 q1) fun _ s2 q=>q
theorem aVt {i:Nat} {x:Str} {e:Expr} {te:TE} {pos':Pos} (hN:X.N.Nodup) (hi:X.N[i]?=some x) (hx:Loc X.env.scope x) (he:PE X e te) (hs:swapsWith e (some (.Name x pos')) pos.line X.env=pure false:=by rfl) (hf:X.fn x=true∨X.env.scope.names.lookup x=some .local:=by first|exact .inl rfl|exact .inr rfl|assumption) :
  PS X (.Assign [.Name x pos'] e pos) (oY te (cH i)):=by
 intro pins s σ H D I h
 refine wpAny_Assign_Name (thn (he pins s σ H _ I h) fun v s1 ⟨y,H1,I1,r1,q1⟩=>?_) hs
 exact aAy I1 hN hi hx r1 (fun s2 I2=>⟨_,H1,I2,q1⟩) hf
end
section
variable {X:Cx} {pos:Pos}
def aNv (c:TT) (tb:TS):TS:=fun D σ H=>∃W:Nat→St→Hp→Prop,(∃m,W m σ H)∧∀m σ H,W m σ H →
 c σ H fun b H1=>if b=true then ∃N:St→Hp→Prop,(∀σ' H',N σ' H'→∃m',m'<m∧W m' σ' H')∧tb { D with nx:=N,ct:=N,bk:=D.nx } σ H1 else D.nx σ H1
theorem aO8 {c:Expr} {body:List Stmt} {tc:TT} {tb:TS} (hp:PassesOwn (model X.prog X.w) X.A X.env X.xe) (hc:PT X c tc) (hb:PSs X body tb):PS X (.While c body [] pos) (aNv tc tb):=by
 intro pins s σ H D I h
 obtain ⟨W,⟨m0,w0⟩,turn⟩:=h
 refine wpAny_While (codeAny_whileLoop (fun n s'=>∃σ' H',Inv X pins σ' H' s'∧W n σ' H') ?_ m0 ⟨σ,H,I,w0⟩)
 rintro n s1 ⟨σ1,H1,I1,w1⟩
 refine wpAny_passesOwn hp (thn (hc pins s1 σ1 H1 _ I1 (turn n σ1 H1 w1)) fun b s2 ⟨H2,I2,q2⟩=>?_)
 cases b with
 |true=>
  obtain ⟨N,hN,q2⟩:=q2
  rw [if_pos rfl]
  refine wpAny_passesOwn hp (thn (hb pins s2 σ1 H2 _ I2 q2) fun f s3 q3=>?_)
  cases f with
  |next=>
   obtain ⟨σ3,H3,I3,n3⟩:=q3
   obtain ⟨m',hm,w3⟩:=hN σ3 H3 n3
   exact ⟨m',hm,σ3,H3,I3,w3⟩
  |cont=>
   obtain ⟨σ3,H3,I3,n3⟩:=q3
   obtain ⟨m',hm,w3⟩:=hN σ3 H3 n3
   exact ⟨m',hm,σ3,H3,I3,w3⟩
  |brk=>exact q3
  |ret v=>exact q3
 |false=>
  rw [if_neg Bool.false_ne_true]
  exact wpAny_execs_nil ⟨σ1,H2,I2,q2⟩
end
structure It where
 go:Nat→Hp→Prop
 yld:Nat→Hp→V→Hp→Prop
 stop:Nat→Hp→Prop
def sO (X:Cx) (pins:List (Addr × Obj)) (H:Hp) (b:Addr):Prop:=
 H b=none∧b≠X.env.locals∧b∉X.fs∧(b∈X.ex∨X.s₀.heap.objs.size≤b)∧(∀x c,X.env.cells.lookup x=some c→c≠b)∧∀p∈X.pn++pins,p.1≠b
theorem Inv.aJm {X:Cx} {pins:List (Addr × Obj)} {σ:St} {H H':Hp} {s:Shared} {b:Addr} (I:Inv X pins σ H s) (hb:s.heap.objs.size≤b) (hn:H' b=none):sO X pins H' b:=by
 refine ⟨hn,Nat.ne_of_gt (Nat.lt_of_lt_of_le I.lt hb),I.nofs hb,.inr (Nat.le_trans I.sz hb),fun x c e z=>?_,fun p hp z=>?_⟩
 ·obtain ⟨v,q⟩:=I.cell x c e
  exact absurd (Nat.lt_of_lt_of_le q.lt (by rw [z];exact hb)) (Nat.lt_irrefl _)
 ·exact absurd (Nat.lt_of_lt_of_le (Heap.lt_size (I.pin p hp).1) (by rw [z];exact hb)) (Nat.lt_irrefl _)
structure Turn (P:Program) (w:World) (K:PySem.W.Frag) (tg:Expr) (J:It) (fp:List Addr) (it:Addr) (tn:Nat→Heap→Prop):Prop where
 mem:it∈fp
 obj:∀i h,tn i h→∀b∈fp,∃o,h.get? b=some o∧∀v,o.data≠.cell v
 keep:∀i h h',tn i h→(∀b∈fp,∀o,h.get? b=some o→h'.get? b=some o)→tn i h'
 item:∀(X:Cx),X.prog=P→X.w=w→X.K=K→X.calm=true→∀(i:Nat) (pins:List (Addr × Obj)) (s:Shared) (σ:St) (H:Hp) (E:Value→Shared→Prop),Inv X pins σ H s→(∀b∈fp,sO X pins H b)→tn i s.heap→J.go i H →
  wpAny (model P w) X.A (pyNext (.ref it)) (fun r s1=>∃u,r=some u ∧
   wpAny (model P w) X.A (letOwnedTupleGo tg (.ref it) u) (fun _ s2=>∃x H',Inv X pins σ H' s2∧RelV x u∧J.yld i H x H'∧tn (i+1) s2.heap∧∀b∈fp,H' b=none) E s1) E s
 done:∀(X:Cx),X.prog=P→X.w=w→X.K=K→X.calm=true→∀(i:Nat) (pins:List (Addr × Obj)) (s:Shared) (σ:St) (H:Hp) (E:Value→Shared→Prop),Inv X pins σ H s→(∀b∈fp,sO X pins H b)→tn i s.heap→J.stop i H →
  wpAny (model P w) X.A (pyNext (.ref it)) (fun r s1=>r=none∧Inv X pins σ H s1) E s
 self:∀(A:Around) (i:Nat) (s:Shared) (Q:Value→Shared→Prop) (E:Value→Shared→Prop),tn i s.heap→Q (.ref it) s→wpAny (model P w) A (pyIter (.ref it)) Q E s
abbrev TI:=St→Hp→(It→Hp→Prop)→Prop
def PIE (X:Cx) (pins:List (Addr × Obj)) (σ:St) (tg:Expr) (R:It→Hp→Prop) (itv:Value) (s2:Shared):Prop:=
 ∃(it:Addr) (fp:List Addr) (tn:Nat→Heap→Prop) (J:It) (H':Hp),itv=.ref it∧Inv X pins σ H' s2∧Turn X.prog X.w X.K tg J fp it tn∧tn 0 s2.heap∧(∀b∈fp,sO X pins H' b)∧R J H'
def PI (X:Cx) (tg iter:Expr) (wi:TI):Prop:=
 ∀(pins:List (Addr × Obj)) (s:Shared) (σ:St) (H:Hp) (R:It→Hp→Prop),Inv X pins σ H s→wi σ H R →
  wpAny (model X.prog X.w) X.A (eval iter X.env) (fun v s1=>wpAny (model X.prog X.w) X.A (pyIter v) (PIE X pins σ tg R) X.xe s1) X.xe s
theorem aGq {M:Model} {A:Around} {E:Value→Shared→Prop} {s:Shared} {tg:Expr} {it:Addr} {u:Value} {o:Obj} {n:String} {vs:Array Value} {Q:Unit→Shared→Prop} (ho:s.heap.get? it=some o) (hc:o.cls=.type n) (hd:o.data=.fields vs)
  (hn:["enumerate","zip","dict_itemiterator","dict_reverseitemiterator","odict_iterator","itertools.zip_longest","itertools.pairwise"].contains n=false) (hQ:Q () s):wpAny M A (letOwnedTupleGo tg (.ref it) u) Q E s:=by
 unfold letOwnedTupleGo
 cases tg <;> first
  |exact wpAny_pure hQ
  |(cases u <;> first
    |exact wpAny_pure hQ
    |(refine wpAny_bind (wpAny_load ho ?_);rw [hc,hd];show wpAny M A (if (["enumerate","zip","dict_itemiterator","dict_reverseitemiterator","odict_iterator","itertools.zip_longest","itertools.pairwise"].contains n && vs[0]? == some (rawInt _))=true then _ else _) Q E s;rw [if_neg (by intro h;rw [hn,Bool.false_and] at h;cases h)];exact wpAny_pure hQ))
def Itl (K:PySem.W.Frag) (a:Addr):It:=
 ⟨fun i H=>∃xs x,SqL K H a xs∧xs[i]?=some x,fun i H x H'=>H'=H∧∀xs,SqL K H a xs→xs[i]?=some x,fun i H=>∃xs,SqL K H a xs∧xs.length≤i⟩
def Itt (K:PySem.W.Frag) (a:Addr):It:=
 ⟨fun i H=>∃xs x,SqT K H a xs∧xs[i]?=some x,fun i H x H'=>H'=H∧∀xs,SqT K H a xs→xs[i]?=some x,fun i H=>∃xs,SqT K H a xs∧xs.length≤i⟩
def Itr (lo:Int) (n:Nat):It:=⟨fun i _=>i<n,fun i H x H'=>H'=H∧x=.int (lo+i),fun i _=>n≤i⟩
theorem aMd {P:Program} {w:World} {K:PySem.W.Frag} {tg:Expr} (a it:Addr):Turn P w K tg (Itl K a) [it] it (fun i h=>h.IsListIter it a i) where
 mem:=by simp
 obj:=fun i h st b hb=>by
  have e:b=it:=by simpa using hb
  subst e
  obtain ⟨o,e,c,d⟩:=st
  exact ⟨o,e,fun v z=>by rw [d] at z;cases z⟩
 keep:=fun i h h' st k=>st.at fun o e=>k it (by simp) o e
 item:=by
  intro X hP hw hK hc i pins s σ H E I hf st hg
  subst hP hw hK
  obtain ⟨xs,x,hq,hx⟩:=hg
  obtain ⟨its,rv,p,hz⟩:=I.list hq
  obtain ⟨u,hu,ru⟩:=rv.get hx
  obtain ⟨f0,f1,f2,f3,f4,f5⟩:=hf it (by simp)
  refine wpAny_pyNext_list_item st p.isList (x:=u) (by simpa using hu) fun h' st' sb=>?_
  have I1:Inv X pins σ H { s with heap:=h' }:=I.turned (t':=s.toks) (fun b o hb e=>(sb.2 b hb).trans e) f0 f1 f3 f4 f5
  obtain ⟨o,e,c,d⟩:=id st'
  exact ⟨u,rfl,aGq (s:={ s with heap:=h' }) e c d (by decide) ⟨x,H,I1,ru,⟨rfl,fun ys hy=>by rw [I.aNy hy hq];exact hx⟩,st',fun b hb=>(hf b hb).1⟩⟩
 done:=by
  intro X hP hw hK hc i pins s σ H E I hf st hg
  subst hP hw hK
  obtain ⟨xs,hq,hx⟩:=hg
  obtain ⟨its,rv,p,hz⟩:=I.list hq
  obtain ⟨f0,f1,f2,f3,f4,f5⟩:=hf it (by simp)
  have hl:=rv.length
  exact wpAny_pyNext_list_end (I.ok.hd hc) st p.isList (by simp;omega) fun h' eb=>⟨rfl,I.turned (t':=s.toks) (fun b o hb e=>eb b o hb e) f0 f1 f3 f4 f5⟩
 self:=fun _ _ _ _ _ st h=>wpAny_pyIter_listiter st h
theorem aH6 {P:Program} {w:World} {K:PySem.W.Frag} {tg:Expr} (a it:Addr):Turn P w K tg (Itt K a) [it] it (fun i h=>h.IsTupleIter it a i) where
 mem:=by simp
 obj:=fun i h st b hb=>by
  have e:b=it:=by simpa using hb
  subst e
  obtain ⟨o,e,c,d⟩:=st
  exact ⟨o,e,fun v z=>by rw [d] at z;cases z⟩
 keep:=fun i h h' st k=>st.at fun o e=>k it (by simp) o e
 item:=by
  intro X hP hw hK hc i pins s σ H E I hf st hg
  subst hP hw hK
  obtain ⟨xs,x,hq,hx⟩:=hg
  obtain ⟨its,rv,p,hz⟩:=I.tuple hq
  obtain ⟨u,hu,ru⟩:=rv.get hx
  obtain ⟨f0,f1,f2,f3,f4,f5⟩:=hf it (by simp)
  refine wpAny_pyNext_tuple_item st (show s.heap.IsTuple a its.toArray from p) (x:=u) (by simpa using hu) fun h' st' sb=>?_
  have I1:Inv X pins σ H { s with heap:=h' }:=I.turned (t':=s.toks) (fun b o hb e=>(sb.2 b hb).trans e) f0 f1 f3 f4 f5
  obtain ⟨o,e,c,d⟩:=id st'
  exact ⟨u,rfl,aGq (s:={ s with heap:=h' }) e c d (by decide) ⟨x,H,I1,ru,⟨rfl,fun ys hy=>by rw [I.aMz hy hq];exact hx⟩,st',fun b hb=>(hf b hb).1⟩⟩
 done:=by
  intro X hP hw hK hc i pins s σ H E I hf st hg
  subst hP hw hK
  obtain ⟨xs,hq,hx⟩:=hg
  obtain ⟨its,rv,p,hz⟩:=I.tuple hq
  obtain ⟨f0,f1,f2,f3,f4,f5⟩:=hf it (by simp)
  have hl:=rv.length
  exact wpAny_pyNext_tuple_end (I.ok.hd hc) st (show s.heap.IsTuple a its.toArray from p) (by simp;omega) fun h' eb=>⟨rfl,I.turned (t':=s.toks) (fun b o hb e=>eb b o hb e) f0 f1 f3 f4 f5⟩
 self:=fun _ _ _ _ _ st h=>wpAny_pyIter_tupleiter st h
theorem aIz {P:Program} {w:World} {K:PySem.W.Frag} {tg:Expr} (it:Addr) (lo:Int) (n:Nat):Turn P w K tg (Itr lo n) [it] it (fun i h=>IsRangeIter h it (lo+(i:Nat) * 1) ((n:Int) - (i:Nat)) 1) where
 mem:=by simp
 obj:=fun i h st b hb=>by
  have e:b=it:=by simpa using hb
  subst e
  exact ⟨_,st,fun v z=>by
   have z':Data.fields _=Data.cell v:=z
   cases z'⟩
 keep:=fun i h h' st k=>k it (by simp) _ st
 item:=by
  intro X hP hw hK hc i pins s σ H E I hf st hg
  subst hP hw hK
  obtain ⟨f0,f1,f2,f3,f4,f5⟩:=hf it (by simp)
  have W:=Walks.range (prog:=X.prog) (w:=X.w) (I.ok.hd hc) it lo 1 n
  refine W.item i s _ _ hg st fun v h' tk hv st' kk=>?_
  obtain ⟨t,rfl⟩:=hv
  have I1:Inv X pins σ H { s with heap:=h',toks:=tk }:=I.turned (fun b o hb e=>kk b o (by simpa using hb) e) f0 f1 f3 f4 f5
  refine ⟨_,rfl,aGq (s:={ s with heap:=h',toks:=tk }) (n:="range_iterator") st' rfl rfl (by decide) ⟨.int (lo+i),H,I1,⟨t,?_⟩,⟨rfl,rfl⟩,st',fun b hb=>(hf b hb).1⟩⟩
  rw [Int.mul_one]
 done:=by
  intro X hP hw hK hc i pins s σ H E I hf st hg
  subst hP hw hK
  obtain ⟨f0,f1,f2,f3,f4,f5⟩:=hf it (by simp)
  exact wpAny_pyNext_range_end (I.ok.hd hc) st (by have:n≤i:=hg;omega) fun h' eb=>⟨rfl,I.turned (t':=s.toks) (fun b o hb e=>eb b o hb e) f0 f1 f3 f4 f5⟩
 self:=fun _ _ _ _ _ st h=>wpAny_pyIter_rangeiter st h
section
variable {X:Cx} {tg:Expr}
def qW (K:PySem.W.Frag) (tl:TE):TI:=fun σ H R=>tl σ H fun x H1=>∃a,x=.ref a∧(∃xs,SqL K H1 a xs)∧R (Itl K a) H1
def aIl (K:PySem.W.Frag) (tl:TE):TI:=fun σ H R=>tl σ H fun x H1=>∃a,x=.ref a∧(∃xs,SqT K H1 a xs)∧R (Itt K a) H1
theorem aR6 {l:Expr} {tl:TE} (hl:PE X l tl):PI X tg l (qW X.K tl):=by
 intro pins s σ H R I h
 refine thn (hl pins s σ H _ I h) fun v s1 ⟨x,H1,I1,r1,q1⟩=>?_
 obtain ⟨a,e,⟨xs,hq⟩,q⟩:=q1
 subst e
 cases r1
 obtain ⟨its,rv,p,hz⟩:=I1.list hq
 refine wpAny_pyIter_list p.isList ?_
 refine ⟨s1.heap.objs.size,[s1.heap.objs.size],_,_,H1,rfl,I1.kept (t':=s1.toks) fun b o e=>Heap.get?_push_of_some _ e,aMd a _,⟨_,Heap.get?_push_size _ rfl,rfl,rfl⟩,fun b hb=>?_,q⟩
 have e:b=s1.heap.objs.size:=by simpa using hb
 subst e
 exact I1.aJm (Nat.le_refl _) (I1.hok.fresh (Nat.le_refl _))
theorem aUu {l:Expr} {tl:TE} (hl:PE X l tl):PI X tg l (aIl X.K tl):=by
 intro pins s σ H R I h
 refine thn (hl pins s σ H _ I h) fun v s1 ⟨x,H1,I1,r1,q1⟩=>?_
 obtain ⟨a,e,⟨xs,hq⟩,q⟩:=q1
 subst e
 cases r1
 obtain ⟨its,rv,p,hz⟩:=I1.tuple hq
 refine wpAny_pyIter_tuple (show s1.heap.IsTuple a its.toArray from p) ?_
 refine ⟨s1.heap.objs.size,[s1.heap.objs.size],_,_,H1,rfl,I1.kept (t':=s1.toks) fun b o e=>Heap.get?_push_of_some _ e,aH6 a _,⟨_,Heap.get?_push_size _ rfl,rfl,rfl⟩,fun b hb=>?_,q⟩
 have e:b=s1.heap.objs.size:=by simpa using hb
 subst e
 exact I1.aJm (Nat.le_refl _) (I1.hok.fresh (Nat.le_refl _))
theorem aNj {pins:List (Addr × Obj)} {σ:St} {H:Hp} {s:Shared} {R:It→Hp→Prop} {E:Value→Shared→Prop} {lo hi:Int} {t u v:Tok} {tk:Nat} (I:Inv X pins σ H s) (h1:-(2 ^ 62)≤lo) (h2:lo<2 ^ 62) (h3:-(2 ^ 62)≤hi) (h4:hi<2 ^ 62)
  (q:R (Itr lo (hi - lo).toNat) H):wpAny (model X.prog X.w) X.A (pyIter (.ref s.heap.objs.size)) (PIE X pins σ tg R) E { s with heap:=s.heap.push { cls:=.type "range",data:=.fields #[.int lo t,.int hi u,.int 1 v] },toks:=tk }:=by
 refine wpAny_pyIter_range (IsRange.new ..) (small_one h1 h2 h3 h4) ?_
 have I1:Inv X pins σ H { s with heap:=s.heap.push { cls:=.type "range",data:=.fields #[.int lo t,.int hi u,.int 1 v] },toks:=tk }:=I.kept fun b o e=>Heap.get?_push_of_some _ e
 refine ⟨(s.heap.push { cls:=.type "range",data:=.fields #[.int lo t,.int hi u,.int 1 v] }).objs.size,[(s.heap.push { cls:=.type "range",data:=.fields #[.int lo t,.int hi u,.int 1 v] }).objs.size],_,_,H,rfl,
  I1.kept (t':=tk) fun b o e=>Heap.get?_push_of_some _ e,aIz _ lo (hi - lo).toNat,?_,fun b hb=>?_,q⟩
 ·have e1:lo+((0:Nat):Int) * 1=lo:=by simp
  have e2:(((hi - lo).toNat:Nat):Int) - ((0:Nat):Int)=Builtin.Range.rangeSize lo hi 1:=by rw [rangeSize_one];split <;> omega
  show IsRangeIter _ _ (lo+((0:Nat):Int) * 1) ((((hi - lo).toNat:Nat):Int) - ((0:Nat):Int)) 1
  rw [e1,e2]
  exact Heap.get?_push_size _ rfl
 ·have e:b=(s.heap.push { cls:=.type "range",data:=.fields #[.int lo t,.int hi u,.int 1 v] }).objs.size:=by simpa using hb
  subst e
  exact I1.aJm (Nat.le_refl _) (I1.hok.fresh (Nat.le_refl _))
def aPh (ta:TA):TI:=fun σ H R=>ta σ H fun vs H1=>∃j:Int,vs=[.int j]∧-(2 ^ 62)≤j∧j<2 ^ 62∧R (Itr 0 j.toNat) H1
theorem aM1 {a:Expr} {ta:TA} {p pos:Pos} (hg:Gl X "range") (hm:X.mg "range"=none) (ha:PA X [a] ta) (hs:starEach [a] X.env=[(false,eval a X.env)]:=by rfl):PI X tg (.Call (.Name "range" p) [a] [] pos) (aPh ta):=by
 intro pins s σ H R I h
 refine Call_ (rD I hg hm boot_range (PyProof.Rows.callWith_type1 (thn (ha pos pins s σ H _ I h) fun us s1 ⟨vs,H1,I1,r1,q1⟩=>?_) hs rfl))
 obtain ⟨j,e,q1,q2,q⟩:=q1
 subst e
 cases r1 with
 |cons r rr=>
  cases rr
  obtain ⟨t,rfl⟩:=r
  exact call_range_1 (aNj I1 (by omega) (by omega) q1 q2 (by simpa using q))
def aW0 (wi:TI) (g:TG) (tb:TS):TS:=fun D σ H=>wi σ H fun J H1=>∃W:Nat→Nat→St→Hp→Prop,(∃m,W 0 m σ H1)∧∀i m σ H,W i m σ H →
 (J.stop i H∧D.nx σ H)∨(J.go i H∧∃N:St→Hp→Prop,(∀σ' H',N σ' H'→∃m',m'<m∧W (i+1) m' σ' H')∧∀x H',J.yld i H x H'→g x σ H' fun σ2 H2=>tb { D with nx:=N,ct:=N,bk:=D.nx } σ2 H2)
def vR (fp:List Addr) (h:Heap):List (Addr × Obj):=fp.filterMap fun b=>(h.get? b).map fun o=>(b,o)
theorem jH {fp:List Addr} {h:Heap} {b:Addr} {o:Obj} (hb:b∈fp) (e:h.get? b=some o):(b,o)∈vR fp h:=List.mem_filterMap.mpr ⟨b,hb,by rw [e];rfl⟩
theorem aL3 {fp:List Addr} {h:Heap} {p:Addr × Obj} (hp:p∈vR fp h):p.1∈fp∧h.get? p.1=some p.2:=by
 obtain ⟨b,hb,e⟩:=List.mem_filterMap.mp hp
 cases q:h.get? b with
 |none=>rw [q] at e;cases e
 |some o=>
  rw [q] at e
  have e':(b,o)=p:=Option.some.inj e
  subst e'
  exact ⟨hb,q⟩
theorem Inv.pinned {pins:List (Addr × Obj)} {σ:St} {H:Hp} {s:Shared} {fp:List Addr} (I:Inv X pins σ H s) (hf:∀b∈fp,sO X pins H b) (ho:∀b∈fp,∃o,s.heap.get? b=some o∧∀v,o.data≠.cell v):Inv X (pins++vR fp s.heap) σ H s:=
 I.aK5 fun p hp=>(List.mem_append.mp hp).elim (fun z=>I.pin p (List.mem_append_right _ z)) fun z=>by
  obtain ⟨hb,e⟩:=aL3 z
  obtain ⟨f0,f1,f2,_⟩:=hf p.1 hb
  obtain ⟨o,e',d⟩:=ho p.1 hb
  rw [e] at e';cases e'
  exact ⟨e,f0,f1,f2,d⟩
theorem Inv.lG {pins pl:List (Addr × Obj)} {σ:St} {H:Hp} {s:Shared} (I:Inv X (pins++pl) σ H s):Inv X pins σ H s:=I.aK5 fun p hp=>I.pin p (List.mem_append_right _ (List.mem_append_left _ hp))
theorem aU3 {iter:Expr} {body:List Stmt} {wi:TI} {g:TG} {tb:TS} {pos:Pos} (hp:PassesOwn (model X.prog X.w) X.A X.env X.xe) (hc:X.calm=true) (hi:PI X tg iter wi) (hg:PG X tg g) (hb:PSs X body tb)
  (hs:∀x,foldedSetIterable iter X.env x=pure x:=by intro _;rfl):PS X (.For tg iter body [] pos) (aW0 wi g tb):=by
 intro pins s σ H D I h
 refine wpAny_For (thn (hi pins s σ H _ I h) fun v s1 h1=>thn h1 fun itv s2 h2=>?_) hs
 obtain ⟨it,fp,tn,J,H2,e,I2,T,st2,f2,W,⟨m0,w0⟩,turn⟩:=h2
 subst e
 have stat:∀{H':Hp},(∀b∈fp,H' b=none)→∀b∈fp,sO X pins H' b:=fun hn b hb=>⟨hn b hb,(f2 b hb).2⟩
 refine codeAny_forLoop_any (fun n s'=>∃i σ' H',Inv X pins σ' H' s'∧tn i s'.heap∧(∀b∈fp,H' b=none)∧W i n σ' H') ?_ m0 ⟨0,σ,H2,I2,st2,fun b hb=>(f2 b hb).1,w0⟩
 rintro n s3 ⟨i,σ3,H3,I3,st3,fr3,w3⟩
 rcases turn i n σ3 H3 w3 with ⟨stop,qn⟩|⟨go,N,hN,step⟩
 ·refine wpAny_passesOwn hp (thn (T.done X rfl rfl rfl hc i pins s3 σ3 H3 X.xe I3 (stat fr3) st3 stop) fun r s4 ⟨hr,I4⟩=>?_)
  subst hr
  exact wpAny_execs_nil ⟨σ3,H3,I4,qn⟩
 ·refine wpAny_passesOwn hp (thn (T.item X rfl rfl rfl hc i pins s3 σ3 H3 X.xe I3 (stat fr3) st3 go) fun r s4 ⟨u,hr,h4⟩=>?_)
  subst hr
  refine wpAny_passesOwn hp (thn h4 fun _ s5 ⟨x,H5,I5,r5,y5,st5,fr5⟩=>?_)
  have I5':=I5.pinned (stat fr5) (T.obj _ _ st5)
  refine wpAny_passesOwn hp (thn (hg _ s5 σ3 H5 x u _ I5' r5 (step x H5 y5)) fun _ s6 ⟨σ6,H6,I6,q6⟩=>?_)
  refine wpAny_passesOwn hp (thn (hb _ s6 σ6 H6 _ I6 q6) fun f s7 q7=>?_)
  have again:∀{σ7:St} {H7:Hp},Inv X (pins++vR fp s5.heap) σ7 H7 s7→N σ7 H7→∃m,m<n∧∃i σ' H',Inv X pins σ' H' s7∧tn i s7.heap∧(∀b∈fp,H' b=none)∧W i m σ' H':=fun {σ7 H7} I7 n7=>by
   obtain ⟨m',hm,w7⟩:=hN σ7 H7 n7
   refine ⟨m',hm,i+1,σ7,H7,I7.lG,T.keep _ _ _ st5 fun b hb o e=>(I7.pin (b,o) (List.mem_append_right _ (List.mem_append_right _ (jH hb e)))).1,fun b hb=>?_,w7⟩
   obtain ⟨o,e,d⟩:=T.obj _ _ st5 b hb
   exact (I7.pin (b,o) (List.mem_append_right _ (List.mem_append_right _ (jH hb e)))).2.1
  cases f with
  |next=>obtain ⟨σ7,H7,I7,n7⟩:=q7;exact again I7 n7
  |cont=>obtain ⟨σ7,H7,I7,n7⟩:=q7;exact again I7 n7
  |brk=>obtain ⟨σ7,H7,I7,q7⟩:=q7;exact ⟨σ7,H7,I7.lG,q7⟩
  |ret v=>obtain ⟨x7,σ7,H7,I7,r7,q7⟩:=q7;exact ⟨x7,σ7,H7,I7.lG,r7,q7⟩
end
theorem aNn {K:PySem.W.Frag} {a:Addr} {xs:List V} {g:TG} {tb:TS} {D:Ends} {σ:St} {H:Hp} (Pv:Nat→St→Hp→Prop) (h0:Pv 0 σ H) (hl:∀i σ H,i≤xs.length→Pv i σ H→SqL K H a xs)
  (hs:∀i x σ H,xs[i]?=some x→Pv i σ H→g x σ H fun σ2 H2=>tb { D with nx:=Pv (i+1),ct:=Pv (i+1),bk:=D.nx } σ2 H2) (hd:∀σ H,Pv xs.length σ H→D.nx σ H) :
  ∃W:Nat→Nat→St→Hp→Prop,(∃m,W 0 m σ H)∧∀i m σ H,W i m σ H →
   ((Itl K a).stop i H∧D.nx σ H)∨((Itl K a).go i H∧∃N:St→Hp→Prop,(∀σ' H',N σ' H'→∃m',m'<m∧W (i+1) m' σ' H')∧∀x H',(Itl K a).yld i H x H'→g x σ H' fun σ2 H2=>tb { D with nx:=N,ct:=N,bk:=D.nx } σ2 H2):=by
 refine ⟨fun i m σ H=>m=xs.length - i∧i≤xs.length∧Pv i σ H,⟨xs.length,by simp,Nat.zero_le _,h0⟩,?_⟩
 rintro i m σ H ⟨rfl,hi,p⟩
 have q:=hl i σ H hi p
 by_cases hlt:i<xs.length
 ·refine .inr ⟨⟨xs,xs[i],q,by simp [hlt]⟩,Pv (i+1),fun σ' H' p'=>⟨xs.length - (i+1),by omega,rfl,hlt,p'⟩,fun x H' y=>?_⟩
  obtain ⟨e,y⟩:=y
  subst e
  exact hs i x σ _ (y xs q) p
 ·have e:i=xs.length:=by omega
  subst e
  exact .inl ⟨⟨xs,q,Nat.le_refl _⟩,hd σ H p⟩
theorem aLe {K:PySem.W.Frag} {a:Addr} {xs:List V} {g:TG} {tb:TS} {D:Ends} {σ:St} {H:Hp} (Pv:Nat→St→Hp→Prop) (h0:Pv 0 σ H) (hl:∀i σ H,i≤xs.length→Pv i σ H→SqT K H a xs)
  (hs:∀i x σ H,xs[i]?=some x→Pv i σ H→g x σ H fun σ2 H2=>tb { D with nx:=Pv (i+1),ct:=Pv (i+1),bk:=D.nx } σ2 H2) (hd:∀σ H,Pv xs.length σ H→D.nx σ H) :
  ∃W:Nat→Nat→St→Hp→Prop,(∃m,W 0 m σ H)∧∀i m σ H,W i m σ H →
   ((Itt K a).stop i H∧D.nx σ H)∨((Itt K a).go i H∧∃N:St→Hp→Prop,(∀σ' H',N σ' H'→∃m',m'<m∧W (i+1) m' σ' H')∧∀x H',(Itt K a).yld i H x H'→g x σ H' fun σ2 H2=>tb { D with nx:=N,ct:=N,bk:=D.nx } σ2 H2):=by
 refine ⟨fun i m σ H=>m=xs.length - i∧i≤xs.length∧Pv i σ H,⟨xs.length,by simp,Nat.zero_le _,h0⟩,?_⟩
 rintro i m σ H ⟨rfl,hi,p⟩
 have q:=hl i σ H hi p
 by_cases hlt:i<xs.length
 ·refine .inr ⟨⟨xs,xs[i],q,by simp [hlt]⟩,Pv (i+1),fun σ' H' p'=>⟨xs.length - (i+1),by omega,rfl,hlt,p'⟩,fun x H' y=>?_⟩
  obtain ⟨e,y⟩:=y
  subst e
  exact hs i x σ _ (y xs q) p
 ·have e:i=xs.length:=by omega
  subst e
  exact .inl ⟨⟨xs,q,Nat.le_refl _⟩,hd σ H p⟩
theorem gC {lo:Int} {n:Nat} {g:TG} {tb:TS} {D:Ends} {σ:St} {H:Hp} (Pv:Nat→St→Hp→Prop) (h0:Pv 0 σ H)
  (hs:∀i σ H,i<n→Pv i σ H→g (.int (lo+i)) σ H fun σ2 H2=>tb { D with nx:=Pv (i+1),ct:=Pv (i+1),bk:=D.nx } σ2 H2) (hd:∀σ H,Pv n σ H→D.nx σ H) :
  ∃W:Nat→Nat→St→Hp→Prop,(∃m,W 0 m σ H)∧∀i m σ H,W i m σ H →
   ((Itr lo n).stop i H∧D.nx σ H)∨((Itr lo n).go i H∧∃N:St→Hp→Prop,(∀σ' H',N σ' H'→∃m',m'<m∧W (i+1) m' σ' H')∧∀x H',(Itr lo n).yld i H x H'→g x σ H' fun σ2 H2=>tb { D with nx:=N,ct:=N,bk:=D.nx } σ2 H2):=by
 refine ⟨fun i m σ H=>m=n - i∧i≤n∧Pv i σ H,⟨n,by simp,Nat.zero_le _,h0⟩,?_⟩
 rintro i m σ H ⟨rfl,hi,p⟩
 by_cases hlt:i<n
 ·refine .inr ⟨hlt,Pv (i+1),fun σ' H' p'=>⟨n - (i+1),by omega,rfl,hlt,p'⟩,fun x H' y=>?_⟩
  obtain ⟨e,y⟩:=y
  subst e y
  exact hs i σ _ hlt p
 ·have e:i=n:=by omega
  subst e
  exact .inl ⟨Nat.le_refl _,hd σ H p⟩
abbrev R2:=V→V→Hp→VK→Prop
def OpR (X:Cx) (f:Value→Value→Sem Value) (r:R2):Prop:=
 ∀(pins:List (Addr × Obj)) (s:Shared) (σ:St) (H:Hp) (x y:V) (v u:Value) (Q:VK),Inv X pins σ H s→RelV x v→RelV y u→r x y H Q →
  wpAny (model X.prog X.w) X.A (f v u) (EP X pins σ Q) X.xe s
def UnR (X:Cx) (f:Value→Sem Value) (r:V→Hp→VK→Prop):Prop:=
 ∀(pins:List (Addr × Obj)) (s:Shared) (σ:St) (H:Hp) (x:V) (v:Value) (Q:VK),Inv X pins σ H s→RelV x v→r x H Q →
  wpAny (model X.prog X.w) X.A (f v) (EP X pins σ Q) X.xe s
def cV (X:Cx) (f:Value) (r:List V→Hp→VK→Prop):Prop:=
 ∀(pins:List (Addr × Obj)) (s:Shared) (σ:St) (H:Hp) (xs:List V) (us:List Value) (Q:VK),Inv X pins σ H s→Vals xs us→r xs H Q →
  wpAny (model X.prog X.w) X.A (call f us) (EP X pins σ Q) X.xe s
def aYb (X:Cx) (r:V→Hp→(Bool→Hp→Prop)→Prop):Prop:=
 ∀(pins:List (Addr × Obj)) (s:Shared) (σ:St) (H:Hp) (x:V) (v:Value) (Q:Bool→Hp→Prop),Inv X pins σ H s→RelV x v→r x H Q →
  wpAny (model X.prog X.w) X.A (truthy v) (TP X pins σ Q) X.xe s
def tOp (r:R2) (ta tb:TE):TE:=fun σ H Q=>ta σ H fun x H1=>tb σ H1 fun y H2=>r x y H2 Q
def tUn (r:V→Hp→VK→Prop) (ta:TE):TE:=fun σ H Q=>ta σ H fun x H1=>r x H1 Q
def rI (C:Int→Int→Prop) (g:Int→Int→V):R2:=fun x y H Q=>∃i j,x=.int i∧y=.int j∧C i j∧Q (g i j) H
def rI0 (g:Int→Int→V):R2:=fun x y H Q=>∃i j,x=.int i∧y=.int j∧Q (g i j) H
def rU (g:Int→V):V→Hp→VK→Prop:=fun x H Q=>∃i,x=.int i∧Q (g i) H
section
variable {X:Cx} {a b c:Expr} {ta tb tc:TE} {pos:Pos}
theorem aQr (ha:PE X a ta) (hb:PE X b tb) {pins:List (Addr × Obj)} {s:Shared} {σ:St} {H:Hp} {R:V→V→Hp→Prop} (I:Inv X pins σ H s)
  (h:ta σ H fun x H1=>tb σ H1 fun y H2=>R x y H2) {Q:Value→Shared→Prop} {f:Value→Value→Sem Value}
  (hf:∀v u s2 x y H2,Inv X pins σ H2 s2→RelV x v→RelV y u→R x y H2→wpAny (model X.prog X.w) X.A (f v u) Q X.xe s2) :
  wpAny (model X.prog X.w) X.A (eval a X.env) (fun v s₁=>wpAny (model X.prog X.w) X.A (eval b X.env) (fun u s₂=>wpAny (model X.prog X.w) X.A (f v u) Q X.xe s₂) X.xe s₁) X.xe s:=by
 refine thn (ha pins s σ H _ I h) fun v s1 ⟨x,H1,I1,r1,q1⟩=>?_
 refine thn (hb pins s1 σ H1 _ I1 q1) fun u s2 ⟨y,H2,I2,r2,q2⟩=>?_
 exact hf v u s2 x y H2 I2 r1 r2 q2
theorem aXa {op:Operator} {r:R2} (ho:OpR X (binaryOp op) r) (ha:PE X a ta) (hb:PE X b tb):PE X (.BinOp a op b pos) (tOp r ta tb):=by
 intro pins s σ H Q I h
 exact wpAny_BinOp (aQr ha hb I h fun v u s2 x y H2 I2 rx ry q=>ho pins s2 σ H2 x y v u Q I2 rx ry q)
theorem aXj {op:UnaryOp} {r:V→Hp→VK→Prop} (ho:UnR X (unaryOp op) r) (ha:PE X a ta):PE X (.UnaryOp op a pos) (tUn r ta):=by
 intro pins s σ H Q I h
 exact UnaryOp_ (thn (ha pins s σ H _ I h) fun v s1 ⟨x,H1,I1,r1,q1⟩=>ho pins s1 σ H1 x v Q I1 r1 q1)
theorem opI {f:Value→Value→Sem Value} {C:Int→Int→Prop} {g:Int→Int→Int}
  (rule:∀(i j:Int) (t u:Tok) (s:Shared) (Q:Value→Shared→Prop) (E:Value→Shared→Prop),C i j→Q (.int (g i j) s.toks) { s with toks:=s.toks+1 }→wpAny (model X.prog X.w) X.A (f (.int i t) (.int j u)) Q E s) :
  OpR X f (rI C fun i j=>.int (g i j)):=by
 intro pins s σ H x y v u Q I rx ry h
 obtain ⟨i,j,rfl,rfl,hc,q⟩:=h
 obtain ⟨t,rfl⟩:=rx
 obtain ⟨t',rfl⟩:=ry
 exact rule i j t t' s _ _ hc ⟨.int (g i j),H,I.tok _,⟨_,rfl⟩,q⟩
theorem aXl {f:Value→Value→Sem Value} {g:Int→Int→Int}
  (rule:∀(i j:Int) (t u:Tok) (s:Shared) (Q:Value→Shared→Prop) (E:Value→Shared→Prop),Q (.int (g i j) s.toks) { s with toks:=s.toks+1 }→wpAny (model X.prog X.w) X.A (f (.int i t) (.int j u)) Q E s) :
  OpR X f (rI0 fun i j=>.int (g i j)):=by
 intro pins s σ H x y v u Q I rx ry h
 obtain ⟨i,j,rfl,rfl,q⟩:=h
 obtain ⟨t,rfl⟩:=rx
 obtain ⟨t',rfl⟩:=ry
 exact rule i j t t' s _ _ ⟨.int (g i j),H,I.tok _,⟨_,rfl⟩,q⟩
theorem aTi {f:Value→Value→Sem Value} {g:Int→Int→Bool}
  (rule:∀(i j:Int) (t u:Tok) (s:Shared) (Q:Value→Shared→Prop) (E:Value→Shared→Prop),Q (.bool (g i j)) s→wpAny (model X.prog X.w) X.A (f (.int i t) (.int j u)) Q E s) :
  OpR X f (rI0 fun i j=>.bl (g i j)):=by
 intro pins s σ H x y v u Q I rx ry h
 obtain ⟨i,j,rfl,rfl,q⟩:=h
 obtain ⟨t,rfl⟩:=rx
 obtain ⟨t',rfl⟩:=ry
 exact rule i j t t' s _ _ ⟨.bl (g i j),H,I,rfl,q⟩
def aY3 (i j:Int):Prop:=0<j∧j<1073741824
def aX4 (i j:Int):Prop:=0≤j∧j≤1000000∧i.natAbs<2 ^ 64
def aVk (i j:Int):Prop:=(-(2 ^ 64)<i∧i<2 ^ 64)∨(-(2 ^ 64)<j∧j<2 ^ 64)
theorem aVk.ok {i j:Int} (h:aVk i j):IntMulOk i j:=by
 rcases h with ⟨h1,h2⟩|⟨h1,h2⟩
 ·exact .of_left (intBits_le_64 h1 h2)
 ·exact .of_right (intBits_le_64 h1 h2)
theorem cX:OpR X (binaryOp .Add) (rI0 fun i j=>.int (i+j)):=aXl fun _ _ _ _ _ _ _ q=>add_int q
theorem zP:OpR X (binaryOp .Sub) (rI0 fun i j=>.int (i - j)):=aXl fun _ _ _ _ _ _ _ q=>sub_int q
theorem yX:OpR X (binaryOp .Mult) (rI aVk fun i j=>.int (i * j)):=opI fun _ _ _ _ _ _ _ hc q=>mul_int q hc.ok
theorem aQ4:OpR X (binaryOp .FloorDiv) (rI aY3 fun i j=>.int (i / j)):=opI fun i j _ _ _ _ _ hc q=>by
 have h1:(0:Int)<j:=hc.1
 have h2:j<1073741824:=hc.2
 exact floordiv_int (by omega) (by rw [Int.fdiv_eq_ediv_of_nonneg i (by omega)];exact q) (.inl (PyProof.noPylong_small (by omega)))
theorem rO:OpR X (binaryOp .Mod) (rI (fun _ j=>0<j) fun i j=>.int (i % j)):=opI fun i j _ _ _ _ _ hc q=>by
 have h1:(0:Int)<j:=hc
 exact mod_int' (by omega) (by rw [Int.fmod_eq_emod_of_nonneg i (by omega)];exact q)
theorem aJo:OpR X (binaryOp .Pow) (rI aX4 fun i j=>.int (i ^ j.toNat)):=opI fun _ _ _ _ _ _ _ hc q=>pow_int_small hc.1 hc.2.1 hc.2.2 q
theorem unI {f:Value→Sem Value} {g:Int→Int}
  (rule:∀(i:Int) (t:Tok) (s:Shared) (Q:Value→Shared→Prop) (E:Value→Shared→Prop),Q (.int (g i) s.toks) { s with toks:=s.toks+1 }→wpAny (model X.prog X.w) X.A (f (.int i t)) Q E s) :
  UnR X f (rU fun i=>.int (g i)):=by
 intro pins s σ H x v Q I rx h
 obtain ⟨i,rfl,q⟩:=h
 obtain ⟨t,rfl⟩:=rx
 exact rule i t s _ _ ⟨.int (g i),H,I.tok _,⟨_,rfl⟩,q⟩
theorem aVn:UnR X (unaryOp .USub) (rU fun i=>.int (-i)):=unI fun _ _ _ _ _ q=>neg_int q
end
def scal:V→V→Bool
 |.non,.non=>true|.non,.int _=>true|.int _,.non=>true|.non,.bl _=>true|.bl _,.non=>true|.non,.str _=>true|.str _,.non=>true
 |.int _,.int _=>true|.bl _,.bl _=>true|.str _,.str _=>true|.byt _,.byt _=>true
 |.int _,.str _=>true|.str _,.int _=>true|.bl _,.str _=>true|.str _,.bl _=>true
 |_,_=>false
def rEq:R2:=fun x y H Q=>scal x y=true∧Q (.bl (decide (x=y))) H
def rNe:R2:=fun x y H Q=>scal x y=true∧Q (.bl (!decide (x=y))) H
theorem aKx {i j:Int}:decide (V.int i=V.int j)=(i == j):=by
 rw [Bool.eq_iff_iff]
 simp
theorem aNd {i j:Bool}:decide (V.bl i=V.bl j)=(i == j):=by
 rw [Bool.eq_iff_iff]
 simp
theorem aLh {i j:Str}:decide (V.str i=V.str j)=(i == j):=by
 rw [Bool.eq_iff_iff]
 simp
theorem aLb {i j:Array UInt8}:decide (V.byt i=V.byt j)=(i.toList == j.toList):=by
 rw [Bool.eq_iff_iff]
 cases i
 cases j
 simp
section
variable {X:Cx} {a b c:Expr} {ta tb tc:TE} {pos:Pos}
theorem cO {pins:List (Addr × Obj)} {σ:St} {H:Hp} {s:Shared} {Q:VK} {k k':Bool} (I:Inv X pins σ H s) (q:Q (.bl k) H) (e:k=k'):EP X pins σ Q (.bool k') s:=by
 subst e
 exact ⟨.bl k,H,I,rfl,q⟩
theorem dG:OpR X (compareOp .Eq) rEq:=by
 intro pins s σ H x y v u Q I rx ry h
 obtain ⟨hs,q⟩:=h
 cases x with
 |non=>
  cases rx
  cases y with
  |non=>cases ry;exact PySem.EqNone.eq_none_none (cO I q (by simp))
  |bl j=>cases ry;exact PySem.EqNone.eq_none_bool (cO I q (by simp))
  |int j=>obtain ⟨t',rfl⟩:=ry;exact PySem.EqNone.eq_none_int (cO I q (by simp))
  |str j=>obtain ⟨t',rfl⟩:=ry;exact PySem.EqNone.eq_none_str (cO I q (by simp))
  |_=>exact absurd (show false=true from hs) Bool.false_ne_true
 |bl i=>
  cases rx
  cases y with
  |non=>cases ry;exact PySem.EqNone.eq_bool_none (cO I q (by simp))
  |bl j=>cases ry;exact eq_bool (cO I q aNd)
  |str j=>obtain ⟨t',rfl⟩:=ry;exact PySem.EqMixed.eq_bool_str (cO I q (by simp))
  |_=>exact absurd (show false=true from hs) Bool.false_ne_true
 |int i=>
  obtain ⟨t,rfl⟩:=rx
  cases y with
  |non=>cases ry;exact PySem.EqNone.eq_int_none (cO I q (by simp))
  |int j=>obtain ⟨t',rfl⟩:=ry;exact eq_int (cO I q aKx)
  |str j=>obtain ⟨t',rfl⟩:=ry;exact PySem.EqMixed.eq_int_str (cO I q (by simp))
  |_=>exact absurd (show false=true from hs) Bool.false_ne_true
 |str i=>
  obtain ⟨t,rfl⟩:=rx
  cases y with
  |non=>cases ry;exact PySem.EqNone.eq_str_none (cO I q (by simp))
  |bl j=>cases ry;exact PySem.EqMixed.eq_str_bool (cO I q (by simp))
  |int j=>obtain ⟨t',rfl⟩:=ry;exact PySem.EqMixed.eq_str_int (cO I q (by simp))
  |str j=>obtain ⟨t',rfl⟩:=ry;exact eq_str (cO I q aLh)
  |_=>exact absurd (show false=true from hs) Bool.false_ne_true
 |byt i=>
  obtain ⟨t,rfl⟩:=rx
  cases y with
  |byt j=>obtain ⟨t',rfl⟩:=ry;exact PySem.W.eq_bytes (cO I q aLb)
  |_=>exact absurd (show false=true from hs) Bool.false_ne_true
 |_=>cases y <;> exact absurd (show false=true from hs) Bool.false_ne_true
theorem aAo:OpR X (compareOp .NotEq) rNe:=by
 intro pins s σ H x y v u Q I rx ry h
 obtain ⟨hs,q⟩:=h
 cases x with
 |non=>
  cases rx
  cases y with
  |non=>cases ry;exact PySem.EqNone.ne_none_none (cO I q (by simp))
  |bl j=>cases ry;exact PySem.EqNone.ne_none_bool (cO I q (by simp))
  |int j=>obtain ⟨t',rfl⟩:=ry;exact PySem.EqNone.ne_none_int (cO I q (by simp))
  |str j=>obtain ⟨t',rfl⟩:=ry;exact PySem.EqNone.ne_none_str (cO I q (by simp))
  |_=>exact absurd (show false=true from hs) Bool.false_ne_true
 |bl i=>
  cases rx
  cases y with
  |non=>cases ry;exact PySem.EqNone.ne_bool_none (cO I q (by simp))
  |bl j=>cases ry;exact ne_bool (cO I q (congrArg not aNd))
  |str j=>obtain ⟨t',rfl⟩:=ry;exact PySem.EqMixed.ne_bool_str (cO I q (by simp))
  |_=>exact absurd (show false=true from hs) Bool.false_ne_true
 |int i=>
  obtain ⟨t,rfl⟩:=rx
  cases y with
  |non=>cases ry;exact PySem.EqNone.ne_int_none (cO I q (by simp))
  |int j=>obtain ⟨t',rfl⟩:=ry;exact ne_int (cO I q (congrArg not aKx))
  |str j=>obtain ⟨t',rfl⟩:=ry;exact PySem.EqMixed.ne_int_str (cO I q (by simp))
  |_=>exact absurd (show false=true from hs) Bool.false_ne_true
 |str i=>
  obtain ⟨t,rfl⟩:=rx
  cases y with
  |non=>cases ry;exact PySem.EqNone.ne_str_none (cO I q (by simp))
  |bl j=>cases ry;exact PySem.EqMixed.ne_str_bool (cO I q (by simp))
  |int j=>obtain ⟨t',rfl⟩:=ry;exact PySem.EqMixed.ne_str_int (cO I q (by simp))
  |str j=>obtain ⟨t',rfl⟩:=ry;exact ne_str (cO I q (congrArg not aLh))
  |_=>exact absurd (show false=true from hs) Bool.false_ne_true
 |byt i=>
  obtain ⟨t,rfl⟩:=rx
  cases y with
  |byt j=>obtain ⟨t',rfl⟩:=ry;exact PySem.W.ne_bytes (cO I q (congrArg not aLb))
  |_=>exact absurd (show false=true from hs) Bool.false_ne_true
 |_=>cases y <;> exact absurd (show false=true from hs) Bool.false_ne_true
theorem aOf:OpR X (compareOp .Lt) (rI0 fun i j=>.bl (decide (i<j))):=aTi fun _ _ _ _ _ _ _ q=>lt_int q
theorem aKu:OpR X (compareOp .LtE) (rI0 fun i j=>.bl (decide (i≤j))):=aTi fun _ _ _ _ _ _ _ q=>le_int q
theorem aNt:OpR X (compareOp .Gt) (rI0 fun i j=>.bl (decide (j<i))):=aTi fun _ _ _ _ _ _ _ q=>gt_int q
theorem aMx:OpR X (compareOp .In) (fun x y H Q=>∃i j,x=.str i∧y=.str j∧Q (.bl (!(Builtin.Str.occurrences j i 0 j.length 1).isEmpty)) H):=by
 intro pins s σ H x y v u Q I rx ry h
 obtain ⟨i,j,rfl,rfl,q⟩:=h
 obtain ⟨t,rfl⟩:=rx
 obtain ⟨t',rfl⟩:=ry
 exact in_str (cO I q rfl)
theorem aUj:OpR X (compareOp .Is) (fun x y H Q=>y=.non∧Q (.bl (decide (x=.non))) H):=by
 intro pins s σ H x y v u Q I rx ry h
 obtain ⟨rfl,q⟩:=h
 cases ry
 refine is_none_gen (cO I q ?_)
 cases x <;> first
  |(cases rx;rfl)
  |(obtain ⟨t,rfl⟩:=rx;rfl)
theorem OpR.or {f:Value→Value→Sem Value} {r r':R2} (h:OpR X f r) (h':OpR X f r'):OpR X f (fun x y H Q=>r x y H Q∨r' x y H Q):=by
 intro pins s σ H x y v u Q I rx ry q
 rcases q with q|q
 ·exact h pins s σ H x y v u Q I rx ry q
 ·exact h' pins s σ H x y v u Q I rx ry q
theorem bL (b:Expr) {op:CmpOp} (h:op≠.In:=by decide) (h2:op≠.NotIn:=by decide):behindInMarks op b=false:=by
 have e1:(op == CmpOp.In)=false:=by cases op <;> first|rfl|exact absurd rfl h
 have e2:(op == CmpOp.NotIn)=false:=by cases op <;> first|rfl|exact absurd rfl h2
 cases b <;> simp [behindInMarks,e1,e2]
theorem aRv {op:CmpOp} {r:R2} (ho:OpR X (compareOp op) r) (ha:PE X a ta) (hb:PE X b tb) (hm:behindInMarks op b=false):PE X (.Compare a [op] [b] pos) (tOp r ta tb):=by
 intro pins s σ H Q I h
 exact wpAny_Compare1 (aQr ha hb I h fun v u s2 x y H2 I2 rx ry q=>ho pins s2 σ H2 x y v u Q I2 rx ry q) hm
def aKa (t:TE):TT:=fun σ H Q=>t σ H fun x H'=>∃k,x=.bl k∧Q k H'
theorem aQ8 {op:CmpOp} {r:R2} (ho:OpR X (compareOp op) r) (ha:PE X a ta) (hb:PE X b tb) (hm:behindInMarks op b=false):PT X (.Compare a [op] [b] pos) (aKa (tOp r ta tb)):=by
 intro pins s σ H Q I h
 refine wpAny_isTrue_Compare1 (thn (ha pins s σ H _ I h) fun v s1 ⟨x,H1,I1,r1,q1⟩=>thn (hb pins s1 σ H1 _ I1 q1) fun u s2 ⟨y,H2,I2,r2,q2⟩=>
  thn (ho pins s2 σ H2 x y v u _ I2 r1 r2 q2) fun c s3 ⟨z,H3,I3,r3,k,e,q3⟩=>?_) hm
 subst e
 cases r3
 exact wpAny_truthy_bool ⟨H3,I3,q3⟩
def aC7 (r r':R2) (ta tb tc:TE):TE:=fun σ H Q=>ta σ H fun x H1=>tb σ H1 fun y H2=>r x y H2 fun z H3=>∃k,z=.bl k ∧
 (if k=true then tc σ H3 fun w' H4=>r' y w' H4 Q else Q (.bl false) H3)
theorem aN1 {op op':CmpOp} {r r':R2} (ho:OpR X (compareOp op) r) (ho':OpR X (compareOp op') r') (ha:PE X a ta) (hb:PE X b tb) (hc:PE X c tc)
  (hm:lastMarks [op,op'] [b,c]=false:=by with_unfolding_all rfl):PE X (.Compare a [op,op'] [b,c] pos) (aC7 r r' ta tb tc):=by
 intro pins s σ H Q I h
 refine Compare_chain (thn (ha pins s σ H _ I h) fun v s1 ⟨x,H1,I1,r1,q1⟩=>chain_link (thn (hb pins s1 σ H1 _ I1 q1) fun u s2 ⟨y,H2,I2,r2,q2⟩=>
  thn (ho pins s2 σ H2 x y v u _ I2 r1 r2 q2) fun d s3 ⟨z,H3,I3,r3,k,e,q3⟩=>?_)) hm
 subst e
 cases r3
 refine wpAny_truthy_bool ?_
 cases k with
 |false=>exact ite_ff ⟨.bl false,H3,I3,rfl,q3⟩
 |true=>exact ite_tt (chain_last (thn (hc pins s3 σ H3 _ I3 q3) fun w' s4 ⟨z',H4,I4,r4,q4⟩=>ho' pins s4 σ H4 y z' u w' Q I4 r2 r4 q4))
theorem aN7 {op op':CmpOp} {r r':R2} (ho:OpR X (compareOp op) r) (ho':OpR X (compareOp op') r') (ha:PE X a ta) (hb:PE X b tb) (hc:PE X c tc)
  (hm:lastMarks [op,op'] [b,c]=false:=by with_unfolding_all rfl):PT X (.Compare a [op,op'] [b,c] pos) (aKa (aC7 r r' ta tb tc)):=by
 intro pins s σ H Q I h
 refine isTrue_chain (thn (ha pins s σ H _ I h) fun v s1 ⟨x,H1,I1,r1,q1⟩=>test_link (thn (hb pins s1 σ H1 _ I1 q1) fun u s2 ⟨y,H2,I2,r2,q2⟩=>
  thn (ho pins s2 σ H2 x y v u _ I2 r1 r2 q2) fun d s3 ⟨z,H3,I3,r3,k,e,q3⟩=>?_)) hm
 subst e
 cases r3
 refine wpAny_truthy_bool ?_
 cases k with
 |false=>
  obtain ⟨k',e',q'⟩:=q3
  cases e'
  exact ite_ff ⟨H3,I3,q'⟩
 |true=>
  refine ite_tt (test_last (thn (hc pins s3 σ H3 _ I3 q3) fun w' s4 ⟨z',H4,I4,r4,q4⟩=>thn (ho' pins s4 σ H4 y z' u w' _ I4 r2 r4 q4) fun d' s5 ⟨z2,H5,I5,r5,k2,e2,q5⟩=>?_))
  subst e2
  cases r5
  exact wpAny_truthy_bool ⟨H5,I5,q5⟩
def aUq (K:PySem.W.Frag) (x:V) (H:Hp) (k:Bool):Prop:=
 match x with
 |.non=>k=false
 |.bl b=>k=b
 |.int i=>k=(i != 0)
 |.str y=>y.length≤sizeLine∧k=((y.length:Int) != 0)
 |.byt y=>y.size≤sizeLine∧k=((y.size:Int) != 0)
 |.ref p=>(∃xs,SqL K H p xs∧k=!xs.isEmpty)∨(∃xs,SqT K H p xs∧k=!xs.isEmpty)∨∃kvs,H p=some (.dK kvs)∧k=!kvs.isEmpty
 |_=>False
theorem aIq {κ:Type} {kvs:List (κ × V)} {vs:List (κ × Value)} (r:KV kvs vs):(!vs.isEmpty)=!kvs.isEmpty:=by
 cases r <;> rfl
theorem aAm {xs:List V} {its:List Value} (r:Vals xs its):(!its.toArray.isEmpty)=!xs.isEmpty:=by
 cases r <;> simp
theorem wJ:(sizeLine:Nat)<2 ^ 63:=by rw [sizeLine_eq];decide
theorem aTp:aYb X (fun x H Q=>∃k,aUq X.K x H k∧Q k H):=by
 intro pins s σ H x v Q I rx h
 obtain ⟨k,e,q⟩:=h
 have hl:=wJ
 have hs:sizeLine=16777216:=sizeLine_eq
 cases x with
 |non=>
  cases rx
  have e':k=false:=e
  subst e'
  exact truthy_none ⟨H,I,q⟩
 |bl b=>
  cases rx
  have e':k=b:=e
  subst e'
  exact wpAny_truthy_bool ⟨H,I,q⟩
 |int i=>
  obtain ⟨t,rfl⟩:=rx
  have e':k=(i != 0):=e
  subst e'
  exact PySem.P.truthy_int ⟨H,I,q⟩
 |str y=>
  obtain ⟨t,rfl⟩:=rx
  obtain ⟨hy,e'⟩:y.length≤sizeLine∧k=((y.length:Int) != 0):=e
  subst e'
  exact PySem.P.truthy_str (by omega) ⟨H,I.tok _,q⟩
 |byt y=>
  obtain ⟨t,rfl⟩:=rx
  obtain ⟨hy,e'⟩:y.size≤sizeLine∧k=((y.size:Int) != 0):=e
  subst e'
  exact PySem.W.truthy_bytes (by omega) ⟨H,I.tok _,q⟩
 |ref p=>
  cases rx
  have e':(∃xs,SqL X.K H p xs∧k=!xs.isEmpty)∨(∃xs,SqT X.K H p xs∧k=!xs.isEmpty)∨∃kvs,H p=some (.dK kvs)∧k=!kvs.isEmpty:=e
  rcases e' with ⟨xs,hx,e'⟩|⟨xs,hx,e'⟩|⟨kvs,hx,e'⟩
  ·subst e'
   obtain ⟨its,r,pl,hz⟩:=I.list hx
   have hlen:=r.length
   exact wpAny_truthy_list pl.isList (by simp only [List.size_toArray];omega) ⟨H,I.tok _,by rw [aAm r];exact q⟩
  ·subst e'
   obtain ⟨its,r,pl,hz⟩:=I.tuple hx
   have hlen:=r.length
   exact truthy_tuple pl (by simp only [List.size_toArray];omega) ⟨H,I.tok _,by rw [aAm r];exact q⟩
  ·subst e'
   obtain ⟨hz,hS,vs,r,m⟩:kvs.length≤sizeLine∧(p == sysModules)=false∧∃vs,KV kvs vs∧s.heap.DictOf (dR X.prog X.w) p vs:=I.hok p _ hx
   have hlen:kvs.length=vs.length:=Paired.length r
   exact wpAny_truthy_dict hS m (by omega) ⟨H,I.tok _,by rw [aIq r];exact q⟩
 |_=>exact (show False from e).elim
theorem aP2 (ha:PE X a ta) (he:∀whole,isTrue a X.env whole=(do let v ←whole;standAt a.pos;holding [v] (truthy v))) :
  PT X a (fun σ H Q=>ta σ H fun x H'=>∃k,aUq X.K x H' k∧Q k H'):=by
 intro pins s σ H Q I h
 exact isTrue_plain (thn (ha pins s σ H _ I h) fun v s1 ⟨x,H1,I1,r1,q1⟩=>aTp pins s1 σ H1 x v Q I1 r1 q1) (he _)
theorem nU:OpR X (binaryOp .Add) (fun x y H Q=>∃i j,x=.str i∧y=.str j∧i.length+j.length≤sizeLine∧Q (.str (i++j)) H):=by
 intro pins s σ H x y v u Q I rx ry h
 obtain ⟨i,j,rfl,rfl,hz,q⟩:=h
 obtain ⟨t,rfl⟩:=rx
 obtain ⟨t',rfl⟩:=ry
 exact add_str (fun t' tk=>⟨.str (i++j),H,I.tok _,⟨_,rfl⟩,q⟩) hz
def aFz (b:Expr):Prop:=∀o i,subscripted b false o i=operate [o,i] (getItem o i)
theorem aHd (ha:PE X a ta) (hb:PE X b tb) (hs:aFz b) :
  PE X (.Subscript a b pos) (tOp (fun x y H Q=>∃z i c,x=.str z∧y=.int i∧0≤i∧i<2 ^ 63∧i<z.length∧z.cps[i.toNat]?=some c∧Q (.str ⟨#[c]⟩) H) ta tb):=by
 intro pins s σ H Q I h
 refine Subscript_ (aQr ha hb I h fun v u s2 x y H2 I2 rx ry q=>?_)
 obtain ⟨z,i,c,rfl,rfl,h0,h63,h1,hc,q⟩:=q
 obtain ⟨t,rfl⟩:=rx
 obtain ⟨t',rfl⟩:=ry
 have e:seqIndex? i z.length=some i.toNat:=PySem.StrLaws.seqIndex_nonneg h0 h1
 exact tail_any (typeIs_str s2 z t) slot_str_getitem.lookup (getItem_str (c:=c) (by
  have e1:decide (i < -(2 ^ 63:Int))=false:=decide_eq_false (by omega)
  have e2:decide (i ≥ 2 ^ 63)=false:=decide_eq_false (by omega)
  rw [e1,e2] <;> rfl) (by rw [e];exact hc) ⟨.str ⟨#[c]⟩,H2,I2.tok _,⟨_,rfl⟩,q⟩) (hs _ _)
theorem vals1 {x:V} {us:List Value} (r:Vals [x] us):∃u,us=[u]∧RelV x u:=by
 cases r with
 |cons r1 r2=>cases r2;exact ⟨_,rfl,r1⟩
theorem vals2 {x y:V} {us:List Value} (r:Vals [x,y] us):∃u w',us=[u,w']∧RelV x u∧RelV y w':=by
 cases r with
 |cons r1 r2=>
  cases r2 with
  |cons r3 r4=>cases r4;exact ⟨_,_,rfl,r1,r3⟩
theorem aMe (hc:X.calm=true):cV X (.builtin "min") (fun xs H Q=>∃i j,xs=[.int i,.int j]∧Q (.int (if j<i then j else i)) H):=by
 intro pins s σ H xs us Q I r h
 obtain ⟨i,j,rfl,q⟩:=h
 obtain ⟨u,w',rfl,⟨t,rfl⟩,⟨t',rfl⟩⟩:=vals2 r
 refine min_two_ints (I.ok.hd hc) fun h' tk k=>⟨_,H,I.kept k,?_,q⟩
 by_cases hj:j<i
 ·rw [if_pos hj,if_pos hj];exact ⟨_,rfl⟩
 ·rw [if_neg hj,if_neg hj];exact ⟨_,rfl⟩
theorem qK:cV X (.type "int") (fun xs H Q=>(∃i,xs=[.int i]∧Q (.int i) H)∨∃k,xs=[.bl k]∧Q (.int (if k then 1 else 0)) H):=by
 intro pins s σ H xs us Q I r h
 rcases h with ⟨i,rfl,q⟩|⟨k,rfl,q⟩
 ·obtain ⟨u,rfl,t,rfl⟩:=vals1 r
  exact call_int_int ⟨.int i,H,I,⟨_,rfl⟩,q⟩
 ·obtain ⟨u,rfl,r1⟩:=vals1 r
  cases r1
  exact call_int_bool ⟨.int (if k then 1 else 0),H,I.tok _,⟨_,rfl⟩,q⟩
end
section
variable {prog:Program} {w:World} {A:Around} {E:Value→Shared→Prop} {s:Shared} {K:PySem.W.Frag} {x dx C f:Addr} {mA:Str→Option Value} {name:Str} {v:Value}
end
theorem xZ.some_of {v:V} {o:Option Value} (r:xZ (some v) o):∃u,o=some u∧RelV v u:=by
 cases o with
 |none=>exact (show False from r).elim
 |some u=>exact ⟨u,rfl,r⟩
section
variable {P:Program} {w:World} {H H':Hp} {h h':Heap} {a C dx:Addr} {fs fs':List (Str × V)}
end
section
variable {X:Cx} {pins:List (Addr × Obj)} {σ:St} {H:Hp} {s:Shared} {a C dx:Addr} {fs:List (Str × V)} {f:Str} {v:V} {A:Around} {E:Value→Shared→Prop}
theorem aSr {prog:Program} {w:World} {env:Env} {e:Expr} {f:Str} {pos:Pos} {s:Shared} {Q:Value→Shared→Prop} (hb:attributeBase e f env (eval e env)=eval e env)
  (h:wpAny (model prog w) A (eval e env) (fun o s₁=>wpAny (model prog w) A (getAttr o f true) Q E s₁) E s):wpAny (model prog w) A (eval (.Attribute e f pos) env) Q E s:=
 Attribute_any_ h (by rw [arm_eval_Attribute,hb])
end
section
variable {X:Cx} {o e value:Expr} {f:Str} {pos pos' tpos:Pos} {ta tv:TE}
end
section
variable {X:Cx} {pins:List (Addr × Obj)} {σ:St} {H:Hp} {s:Shared} {A:Around} {E:Value→Shared→Prop} {Q:Value→Shared→Prop} {c:Value} {b:Bool}
end
structure Room (k:Nat) (A:Around):Prop where
 hd:A.handled=none
 dp:A.depth+3 * k+5<recursionLimit
 un:A.units+16 * k+200<cLine
theorem Room.mono {j k:Nat} {A:Around} (r:Room k A) (h:j≤k):Room j A:=⟨r.hd,by have:=r.dp;omega,by have:=r.un;omega⟩
theorem Room.deeper {k:Nat} {A:Around} (r:Room (k+1) A) (env:Env):Room k (A.deeper env):=
 ⟨r.hd,by have:=r.dp;show A.depth+1+3 * k+5<_;omega,by have:=r.un;show A.units+3+16 * k+200<_;omega⟩
theorem aI1 {A:Around} {C:Addr} {us:List Value} {kw:List (Str × Value)}:(A.under (.builtin "type.__call__" ⟨.ref C::us,kw⟩)).depth=A.depth+1:=by
 first|rfl|simp [Around.under,Code.weight,Code.isCreation,Code.isGuard,Code.isCaller,Code.frames,Code.isFrame,guardIds]
theorem aIj {A:Around} {C:Addr} {us:List Value} {kw:List (Str × Value)}:(A.under (.builtin "type.__call__" ⟨.ref C::us,kw⟩)).units=A.units+1:=by
 first|rfl|simp [Around.under,Code.cUnits,Code.frames,Code.isFrame]
theorem Room.make {k:Nat} {A:Around} (r:Room (k+1) A) (C:Addr) (us:List Value) (kw:List (Str × Value)):Room k (A.under (.builtin "type.__call__" ⟨.ref C::us,kw⟩)):=
 ⟨r.hd,by have:=r.dp;rw [aI1];omega,by have:=r.un;rw [aIj];omega⟩
theorem Room.depth {k:Nat} {A:Around} (r:Room k A):A.depth<recursionLimit:=by have:=r.dp;omega
theorem Room.units {k:Nat} {A:Around} (r:Room k A):A.units+64<cLine:=by have:=r.un;omega
def jB:TA:=fun _ H Q=>Q [] H
def bQ (ta:TE) (tr:TA):TA:=fun σ H Q=>ta σ H fun x H1=>tr σ H1 fun xs H2=>Q (x::xs) H2
section
variable {X:Cx} {e:Expr} {es:List Expr} {te:TE} {t:TA} {pos:Pos}
theorem aN8:PA X [] jB:=fun _ _ _ _ H Q I h=>Calls.spliced_nil ⟨[],H,I,.nil,h⟩
theorem aSj (ha:PE X e te) (hr:PA X es t) (hs:starEach (e::es) X.env=(false,eval e X.env)::starEach es X.env:=by rfl):PA X (e::es) (bQ te t):=by
 intro pos pins s σ H Q I h
 rw [hs]
 show wpAny _ _ (spliced ((false,eval e X.env)::backTo pos (starEach es X.env))) _ _ s
 refine Calls.spliced_cons (thn (ha pins s σ H _ I h) fun u s1 ⟨x,H1,I1,r1,q1⟩=>?_)
 exact thn (hr pos pins s1 σ H1 _ I1 q1) fun us s2 ⟨xs,H2,I2,r2,q2⟩=>⟨x::xs,H2,I2,.cons r1 r2,q2⟩
end
abbrev Sp:=List V→Hp→VK→XK→Prop
abbrev CXT:=List Env→Hp→Shared→XK→Value→Shared→Prop
structure aIn (P:Program) (w:World) (K:PySem.W.Frag) (mg:Str→Option Value) (base:Heap) (A:Around) (outer:List Env) (s:Shared) (H:Hp):Prop where
 frames:A.frames=some outer
 mod:Mod K mg base
 bs:∀b o,base.get? b=some o→s.heap.get? b=some o∧H b=none
 bsz:base.objs.size≤s.heap.objs.size
 funs:s.heap.FunFrames base outer
 frf:∀b∈frs outer,H b=none
 hok:HOk P w H s.heap
 bare:AllBare s.gens
def CE (outer:List Env) (P:Program) (w:World) (H:Hp) (s:Shared) (Q:VK) (u:Value) (s':Shared):Prop:=
 ∃v H',s'.os=s.os∧AllBare s'.gens∧Un (frs outer) [] H H' s.heap s'.heap∧HOk P w H' s'.heap∧RelV v u∧Q v H'
def CR (CX:CXT) (outer:List Env) (P:Program) (w:World) (H:Hp) (s:Shared) (Q:VK) (E:XK) (r:Result) (s':Shared):Prop:=
 match r with
 |.ok (.ret u)=>CE outer P w H s Q u s'
 |.ok _=>False
 |.error e=>CX outer H s E e s'
structure jA (P:Program) (w:World) (K:PySem.W.Frag) (mg:Str→Option Value) (base:Heap) (CX:CXT) (k:Nat) (f:Addr) (fd:FuncData) (ps:List Str) (sp:Sp):Prop where
 len:∀vs H Q E,sp vs H Q E→vs.length=ps.length
 run:∀(A:Around) (outer:List Env) (s:Shared) (H:Hp) (args:Args) (us:List Value) (vs:List V) (Q:VK) (E:XK),Room k A→aIn P w K mg base A outer s H→BindsTo s fd args (ps.zip us)→Vals vs us→sp vs H Q E →
  codeAny (model P w) A (.call (.ref f) args) (CR CX outer P w H s Q E) s
theorem jA.mono {P:Program} {w:World} {K:PySem.W.Frag} {mg:Str→Option Value} {base:Heap} {CX:CXT} {j k:Nat} {f:Addr} {fd:FuncData} {ps:List Str} {sp:Sp} (F:jA P w K mg base CX j f fd ps sp) (h:j≤k) :
  jA P w K mg base CX k f fd ps sp:=⟨F.len,fun A outer s H args us vs Q E hr=>F.run A outer s H args us vs Q E (hr.mono h)⟩
theorem jA.imp {P:Program} {w:World} {K:PySem.W.Frag} {mg:Str→Option Value} {base:Heap} {CX:CXT} {k:Nat} {f:Addr} {fd:FuncData} {ps:List Str} {sp sp':Sp} (F:jA P w K mg base CX k f fd ps sp)
  (h:∀vs H Q E,sp' vs H Q E→sp vs H Q E):jA P w K mg base CX k f fd ps sp':=
 ⟨fun vs H Q E q=>F.len vs H Q E (h _ _ _ _ q),fun A outer s H args us vs Q E hr he hb hv hs=>F.run A outer s H args us vs Q E hr he hb hv (h _ _ _ _ hs)⟩
theorem aIn.make {P:Program} {w:World} {K:PySem.W.Frag} {mg:Str→Option Value} {base:Heap} {A:Around} {outer:List Env} {s:Shared} {H:Hp} (e:aIn P w K mg base A outer s H) (C:Addr) (us:List Value) (kw:List (Str × Value)) :
  aIn P w K mg base (A.under (.builtin "type.__call__" ⟨.ref C::us,kw⟩)) outer s H:=⟨by first|exact e.frames|(simpa [Around.under,Code.envs,Code.isFrame,pushEnvs] using e.frames),e.mod,e.bs,e.bsz,e.funs,e.frf,e.hok,e.bare⟩
section
variable {X:Cx} {pins:List (Addr × Obj)} {σ:St} {H:Hp} {s s':Shared}
theorem Inv.env0 (I:Inv X pins σ H s):aIn X.prog X.w X.K X.mg X.base X.A X.stack s H:=
 ⟨I.ok.frames,I.ok.mod,I.bs,Nat.le_trans I.ok.bsz I.sz,I.stack,I.aEg,I.hok,I.bare⟩
theorem Inv.after {Q:VK} {u:Value} (I:Inv X pins σ H s) (h:CE X.stack X.prog X.w H s Q u s'):EP X pins σ Q u s':=by
 obtain ⟨v,H',os,bare,un,hok,r,q⟩:=h
 obtain ⟨hh,g,d,t,os'⟩:=s'
 obtain rfl:os'=s.os:=os
 exact ⟨v,H',I.call (h':=hh) (g':=g) (d':=d) (t':=t) (ch:=[]) un hok bare (fun b z=>absurd z (by simp)),r,q⟩
end
def uJ (sp:Sp) (dvs:List V) (E:XK) (t:TA):TE:=fun σ H Q=>t σ H fun vs H1=>sp (vs++dvs) H1 Q E
def Binds (K:PySem.W.Frag) (fd:FuncData) (ps:List Str) (ds:List Value):Prop:=
 ∀(s:Shared) (us:List Value),K.In s.heap→(us++ds).length=ps.length→BindsTo s fd ⟨us,[]⟩ (ps.zip (us++ds))
theorem Binds.all {K:PySem.W.Frag} {fd:FuncData} {ps:List Str} (h:∀us:List Value,us.length=ps.length→bindArgs fd ⟨us,[]⟩=pure (ps.zip us)):Binds K fd ps []:=fun s us _ hl=>by
 rw [List.append_nil] at hl ⊢
 exact .of_eq (h us hl)
def rH (CX:CXT) (X:Cx) (E:XK):Prop:=∀(pins:List (Addr × Obj)) (σ:St) (H:Hp) (s:Shared) (e:Value) (s':Shared),Inv X pins σ H s→CX X.stack H s E e s'→X.xe e s'
section
variable {X:Cx} {CX:CXT} {k:Nat} {f C:Addr} {fd:FuncData} {ps:List Str} {sp:Sp} {dvs:List V} {ds:List Value} {E:XK} {x m:Str} {p pos apos:Pos} {e o:Expr} {es:List Expr} {ta:TE} {t:TA}
theorem aI2 {pins:List (Addr × Obj)} {σ:St} {H:Hp} {s:Shared} {Q:VK} {us:List Value} {vs:List V} (F:jA X.prog X.w X.K X.mg X.base CX k f fd ps sp) (hr:Room k X.A) (hb:Binds X.K fd ps ds) (hd:Vals dvs ds) (hx:rH CX X E)
  (I:Inv X pins σ H s) (r:Vals vs us) (h:sp (vs++dvs) H Q E):wpAny (model X.prog X.w) X.A (call (.ref f) us) (EP X pins σ Q) X.xe s:=by
 have r2:Vals (vs++dvs) (us++ds):=r.append hd
 have hl:(us++ds).length=ps.length:=by rw [←r2.length];exact F.len _ _ _ _ h
 refine wpAny_call (codeAny_mono (F.run X.A X.stack s H ⟨us,[]⟩ (us++ds) (vs++dvs) Q E hr I.env0 (hb s us I.kIn hl) r2 h) fun r s' hq=>?_)
 cases r with
 |error e=>exact hx pins σ H s e s' I hq
 |ok fl=>
  cases fl with
  |ret u=>exact I.after hq
  |next=>exact False.elim hq
  |brk=>exact False.elim hq
  |cont=>exact False.elim hq
theorem aKb (F:jA X.prog X.w X.K X.mg X.base CX k f fd ps sp) (hr:Room k X.A) (hg:Gl X x) (hm:X.mg x=some (.ref f)) (hk:PySem.W.keepIn X.K (.ref f)=true) (hb:Binds X.K fd ps ds) (hd:Vals dvs ds) (hx:rH CX X E)
  (ha:PA X (e::es) t) (hdb:(x == ("__debug__":Str))=false:=by decide) (he:starEach (e::es) X.env=(false,eval e X.env)::starEach es X.env:=by rfl) (hpl:(backTo pos (starEach es X.env)).any (·.1)=false:=by rfl) :
  PE X (.Call (.Name x p) (e::es) [] pos) (uJ sp dvs E t):=by
 intro pins s σ H Q I h
 refine wpAny_Call_Name_kw (qH I hg hm ?_ hdb)
 refine PySem.W.callWith_K (h₀:=X.base) I.ok.mod.kin hk (thn (ha pos pins s σ H _ I h) fun us s1 ⟨vs,H1,I1,r,q⟩=>⟨I1.kIn,?_⟩) he hpl
 exact aI2 F hr hb hd hx I1 r q
theorem aQa (F:jA X.prog X.w X.K X.mg X.base CX k f fd ps sp) (hr:Room k X.A) (hg:Gl X x) (hm:X.mg x=some (.ref f)) (hk:PySem.W.keepIn X.K (.ref f)=true) (hb:Binds X.K fd ps ds) (hd:Vals dvs ds) (hx:rH CX X E)
  (hdb:(x == ("__debug__":Str))=false:=by decide):PE X (.Call (.Name x p) [] [] pos) (uJ sp dvs E jB):=by
 intro pins s σ H Q I h
 refine wpAny_Call_Name_kw (qH I hg hm ?_ hdb)
 exact PySem.W.callWith_K0 I.kIn hk (aI2 (us:=[]) F hr hb hd hx I .nil h)
end
section
variable {X:Cx} {CX:CXT} {k:Nat} {f C:Addr} {fd:FuncData} {ps ks:List Str} {sp:Sp} {E:XK} {x m:Str} {p pos apos kpos:Pos} {e o:Expr} {es:List Expr} {kws:List Keyword} {te ta:TE} {t tk:TA} {nm:Option Str}
variable {g:List Value→List Value→List Value} {gV:List V→List V→List V}
end
structure aW (N P:List Str) (sc:Scope):Prop where
 kind:sc.kind=.function
 co:sc.isCoroutine=false
 gen:sc.isGenerator=false
 nd:N.Nodup
 pre:N.take P.length=P
 par:∀x∈P,sc.names.lookup x=some .local∨sc.names.lookup x=some .cell
 nofree:∀y∈sc.names,y.2≠.free
theorem aBz {kindOf:Str→Option NameKind} {x:Str}:∀{binds:List (Str × Value)} {m:Str→Option Value},(∀v,(x,v)∉binds)→bindL kindOf binds m x=m x
 |[],_,_=>rfl
 |(n,v)::r,m,h=>by
  unfold bindL
  rw [aBz fun w hw=>h w (List.mem_cons_of_mem _ hw)]
  split
  ·have:x≠n:=by rintro rfl;exact h v List.mem_cons_self
   simp [this]
  ·rfl
theorem aCc {kindOf:Str→Option NameKind} {x:Str}:∀{binds:List (Str × Value)} {m:Str→Option Value},(∀v,(x,v)∉binds)→bindC kindOf binds m x=m x
 |[],_,_=>rfl
 |(n,v)::r,m,h=>by
  unfold bindC
  rw [aCc fun w hw=>h w (List.mem_cons_of_mem _ hw)]
  split
  ·rfl
  ·have:x≠n:=by rintro rfl;exact h v List.mem_cons_self
   simp [this]
theorem aB2 {kindOf:Str→Option NameKind} {x:Str} {v:Value}:∀{P:List Str} {vs:List Value} {i:Nat} {m:Str→Option Value},P.Nodup→P[i]?=some x→vs[i]?=some v→kindOf x=some .local →
  bindL kindOf (P.zip vs) m x=some v
 |[],_,_,_,_,h,_,_=>by simp at h
 |_::_,[],_,_,_,_,h,_=>by simp at h
 |p::P,w::vs,0,m,nd,h1,h2,hk=>by
  simp at h1 h2;subst h1;subst h2
  show bindL kindOf ((p,w)::P.zip vs) m p=_
  unfold bindL
  rw [aBz fun v hv=>(List.nodup_cons.mp nd).1 (List.of_mem_zip hv).1,if_pos hk]
  simp
 |p::P,w::vs,i+1,m,nd,h1,h2,hk=>by
  show bindL kindOf ((p,w)::P.zip vs) m x=_
  unfold bindL
  exact aB2 (i:=i) (List.nodup_cons.mp nd).2 (by simpa using h1) (by simpa using h2) hk
theorem aCj {kindOf:Str→Option NameKind} {x:Str} {v:Value}:∀{P:List Str} {vs:List Value} {i:Nat} {m:Str→Option Value},P.Nodup→P[i]?=some x→vs[i]?=some v→kindOf x≠some .local →
  bindC kindOf (P.zip vs) m x=some v
 |[],_,_,_,_,h,_,_=>by simp at h
 |_::_,[],_,_,_,_,h,_=>by simp at h
 |p::P,w::vs,0,m,nd,h1,h2,hk=>by
  simp at h1 h2;subst h1;subst h2
  show bindC kindOf ((p,w)::P.zip vs) m p=_
  unfold bindC
  rw [aCc fun v hv=>(List.nodup_cons.mp nd).1 (List.of_mem_zip hv).1,if_neg hk]
  simp
 |p::P,w::vs,i+1,m,nd,h1,h2,hk=>by
  show bindC kindOf ((p,w)::P.zip vs) m x=_
  unfold bindC
  exact aCj (i:=i) (List.nodup_cons.mp nd).2 (by simpa using h1) (by simpa using h2) hk
def start (N:List Str) (vs:List V):St:=vs.map some++List.replicate (N.length - vs.length) none
def wB (CX:CXT) (P:Program) (w:World) (K:PySem.W.Frag) (mg:Str→Option Value) (base:Heap) (N:List Str) (qual:Str) (scope:Scope) (f:Addr) (cd:Value) (A:Around) (outer:List Env) (s:Shared) (H:Hp) (E:XK):Cx where
 prog:=P
 w:=w
 K:=K
 mg:=mg
 base:=base
 A:=A.deeper (envOfC qual scope s.heap.objs.size f cd)
 N:=N
 s₀:=s
 H₀:=H
 env:=envOfC qual scope s.heap.objs.size f cd
 outer:=outer
 stack:=envOfC qual scope s.heap.objs.size f cd::outer
 ex:=[]
 calm:=true
 fn:=fun _=>true
 pn:=[]
 xe:=fun e s'=>wpAny (model P w) (A.deeper (envOfC qual scope s.heap.objs.size f cd)) (leaving (envOfC qual scope s.heap.objs.size f cd) e) (fun _ s''=>CX outer H s E e s'') (fun e' s''=>CX outer H s E e' s'') s'
theorem aG2 {sc:Scope} {n:Nat} {x:Str} (h:sc.names.lookup x=some .cell):∃c,(cellsFrom n sc.names []).lookup x=some c:=by
 have q:=PySem.W.cellsFrom_some sc.names n [] (.inl h)
 exact Option.isSome_iff_exists.mp q
theorem aMb {CX:CXT} {P:Program} {w:World} {K:PySem.W.Frag} {mg:Str→Option Value} {base:Heap} {N ps:List Str} {qual:Str} {scope:Scope} {f:Addr} {cd:Value} {A:Around} {outer:List Env} {s s1:Shared} {H:Hp} {E:XK} {us:List Value} {vs:List V}
  (S:aW N ps scope) (hd:A.handled=none) (e0:aIn P w K mg base A outer s H) (hl:vs.length=ps.length) (r:Vals vs us)
  (x:InCallC s s.heap.objs.size (bindL (envOfC qual scope s.heap.objs.size f cd).kindOf (ps.zip us) fun _=>none) (cellsFrom (s.heap.objs.size+1) scope.names []) (bindC (envOfC qual scope s.heap.objs.size f cd).kindOf (ps.zip us) fun _=>none) s1) :
  Inv (wB CX P w K mg base N qual scope f cd A outer s H E) [] (start N vs) H s1:=by
 have hpl:ps.length≤N.length:=by have:=congrArg List.length S.pre;rw [List.length_take] at this;omega
 obtain ⟨h1,tk,rfl,hk⟩:=x.done
 have noA:∀b:Addr,b∉(wB CX P w K mg base N qual scope f cd A outer s H E).ex:=fun b z=>absurd (show b∈([]:List Addr) from z) (by simp)
 refine ⟨⟨e0.mod,S.kind,rfl,rfl,Nat.le_refl _,fun y z c h1 h2=>?_,fun y hy=>?_,fun y c _ h=>?_,fun _=>hd,Around.frames_deeper e0.frames,.inr ⟨rfl,rfl⟩,fun b z=>absurd z (noA b),e0.bs,e0.bsz,fun b _ _=>noA b,fun b z=>absurd z (noA b),e0.funs,e0.frf⟩,
  rfl,e0.bare,Un.kept hk,⟨_,x.toInCall.ns,fun i y v h1 h2 h3=>?_⟩,fun y c h=>⟨_,x.cell y c h⟩,e0.hok.fresh (Nat.le_refl _),fun y c h=>?_,fun p hp=>absurd (show p∈([]:List (Addr × Obj)) from hp) (by simp),e0.hok.kept hk,?_⟩
 ·exact name_of_addr x.apart (PySem.mem_of_lookup h1) (PySem.mem_of_lookup h2)
 ·have hy:scope.names.lookup y=some .cell∨scope.names.lookup y=some .free:=hy
  rcases hy with hy|hy
  ·exact aG2 hy
  ·exact absurd rfl (S.nofree _ (PySem.mem_of_lookup hy))
 ·exact Nat.le_of_lt (x.above y c (PySem.mem_of_lookup h))
 ·have hi:i<vs.length:=by
   unfold start at h2
   by_cases hi:i<vs.length
   ·exact hi
   ·rw [List.getElem?_append_right (by simpa using hi)] at h2
    rw [List.getElem?_replicate] at h2
    split at h2 <;> cases h2
  have ha:vs[i]?=some v:=by
   unfold start at h2
   rw [List.getElem?_append_left (by simpa using hi),List.getElem?_map] at h2
   cases e:vs[i]? with
   |none=>rw [e] at h2;cases h2
   |some a=>rw [e] at h2;cases h2;rfl
  obtain ⟨u,hu,rv⟩:=r.get ha
  have hp:ps[i]?=some y:=by
   rw [←S.pre,List.getElem?_take_of_lt (by omega)];exact h1
  have ndP:ps.Nodup:=by rw [←S.pre];exact S.nd.sublist (List.take_sublist _ _)
  refine ⟨u,rv,?_⟩
  rcases S.par y (List.mem_of_getElem? hp) with k|k
  ·exact .inl ⟨k,aB2 ndP hp hu k⟩
  ·obtain ⟨c,e⟩:=aG2 (n:=s.heap.objs.size+1) k
   refine .inr ⟨.inl k,c,e,?_⟩
   have q:=x.cell y c e
   rw [aCj ndP hp hu (by show scope.names.lookup y≠_;rw [k];decide)] at q
   exact q
 ·exact e0.hok.fresh (Nat.le_of_lt (x.above y c (PySem.mem_of_lookup h)))
 ·unfold start
  show _=N.length
  rw [List.length_append,List.length_map,List.length_replicate]
  omega
theorem aSu {CX:CXT} {P:Program} {w:World} {K:PySem.W.Frag} {mg:Str→Option Value} {base:Heap} {k:Nat} {f:Addr} {name qual:Str} {params:Arguments} {body:List Stmt} {scope:Scope} {dV kV doc pm cdv ct oc:Value} {an od:Option Addr}
  {osl:Array (Option Value)} {N ps:List Str} {sp:Sp} (lk:K.lookup f=some ⟨oc,od,.func (PySem.W.fnOf name qual params body scope dV kV doc pm an cdv ct),osl⟩) (hcd:PySem.W.codeIn K cdv qual=true) (S:aW N ps scope)
  (len:∀vs H Q E,sp vs H Q E→vs.length=ps.length)
  (hbody:∀(A:Around) (outer:List Env) (s:Shared) (H:Hp) (vs:List V) (Q:VK) (E:XK),Room k (A.deeper (envOfC qual scope s.heap.objs.size f cdv))→sp vs H Q E →
   ∃t,PSs (wB CX P w K mg base N qual scope f cdv A outer s H E) body t∧t { nx:=fun _ H'=>Q .non H',rt:=Q } (start N vs) H) :
  jA P w K mg base CX (k+1) f (PySem.W.fnOf name qual params body scope dV kV doc pm an cdv ct) ps sp:=by
 refine ⟨len,fun A outer s H args us vs Q E hr e0 hb r hsp=>?_⟩
 have hl:=len _ _ _ _ hsp
 have KX:K.In s.heap:=e0.mod.kin.keeps fun b o e=>(e0.bs b o e).1
 have lim:s.heap.NoLimit:=e0.mod.nolimit.keeps fun b o e=>(e0.bs b o e).1
 have hkind:∀y∈ps.zip us,scope.names.lookup y.1=some .local∨(scope.names.lookup y.1=some .cell∧((cellsFrom (s.heap.objs.size+1) scope.names []).lookup y.1).isSome=true):=fun ⟨n,v⟩ hy=>by
  rcases S.par n (List.of_mem_zip hy).1 with q|q
  ·exact .inl q
  ·exact .inr ⟨q,PySem.W.cellsFrom_some _ _ _ (.inl q)⟩
 refine codeAny_call_function hr.depth (KX _ _ lk) rfl S.co S.gen rfl (PySem.W.codeRec_of KX hcd) (hb _ _ _ _ ?_)
 refine wpAny_newFunctionEnv_cells S.kind hkind fun env he s1 x=>?_
 subst he
 refine ⟨lim.keeps x.toInCall.keep,codeAny_func ?_⟩
 obtain ⟨t,ht,hq⟩:=hbody A outer s H vs Q E (hr.deeper _) hsp
 have I:Inv (wB CX P w K mg base N qual scope f cdv A outer s H E) [] (start N vs) H s1:=aMb S hr.hd e0 hl r x
 refine wpAny_mono (ht [] s1 (start N vs) H _ I hq) (fun fl s' hs=>?_) fun e s' hs=>hs
 have fin:∀{σ':St} {H':Hp} {v:V} {u:Value},Inv (wB CX P w K mg base N qual scope f cdv A outer s H E) [] σ' H' s'→RelV v u→Q v H'→CE outer P w H s Q u s':=
  fun {σ' H' v u} J rv q=>⟨v,H',J.os,J.bare,J.base,J.hok,rv,q⟩
 cases fl with
 |ret u=>
  obtain ⟨v,σ',H',J,rv,q⟩:=hs
  exact fin J rv q
 |next=>
  obtain ⟨σ',H',J,q⟩:=hs
  exact fin (v:=V.non) (u:=Value.none) J rfl q
 |brk=>
  obtain ⟨_,_,_,q⟩:=hs
  exact False.elim q
 |cont=>
  obtain ⟨_,_,_,q⟩:=hs
  exact False.elim q
section
variable {X:Cx} {x:Str} {p pos:Pos} {e:Expr} {es:List Expr} {t:TA} {id T:String} {r:List V→Hp→VK→Prop}
def tCB (r:List V→Hp→VK→Prop) (t:TA):TE:=fun σ H Q=>t σ H fun vs H1=>r vs H1 Q
theorem aP9 (hc:cV X (.builtin id) r) (hg:Gl X x) (hm:X.mg x=none) (hv:bootBuiltins x=some (.builtin id)) (ha:PA X (e::es) t) (hn:x≠"__name__":=by decide) (hdb:(x == ("__debug__":Str))=false:=by decide)
  (he:starEach (e::es) X.env=(false,eval e X.env)::starEach es X.env:=by rfl) (hpl:(backTo pos (starEach es X.env)).any (·.1)=false:=by rfl):PE X (.Call (.Name x p) (e::es) [] pos) (tCB r t):=by
 intro pins s σ H Q I h
 refine wpAny_Call_Name_kw (rD I hg hm hv ?_ hn hdb)
 exact PyProof.Rows.callWith_builtin1 (thn (ha pos pins s σ H _ I h) fun us s1 ⟨vs,H1,I1,r1,q1⟩=>hc pins s1 σ H1 vs us Q I1 r1 q1) he hpl
theorem aMo (hc:cV X (.type T) r) (hg:Gl X x) (hm:X.mg x=none) (hv:bootBuiltins x=some (.type T)) (ha:PA X (e::es) t) (hn:x≠"__name__":=by decide) (hdb:(x == ("__debug__":Str))=false:=by decide)
  (he:starEach (e::es) X.env=(false,eval e X.env)::starEach es X.env:=by rfl) (hpl:(backTo pos (starEach es X.env)).any (·.1)=false:=by rfl):PE X (.Call (.Name x p) (e::es) [] pos) (tCB r t):=by
 intro pins s σ H Q I h
 refine wpAny_Call_Name_kw (rD I hg hm hv ?_ hn hdb)
 exact PyProof.Rows.callWith_type1 (thn (ha pos pins s σ H _ I h) fun us s1 ⟨vs,H1,I1,r1,q1⟩=>hc pins s1 σ H1 vs us Q I1 r1 q1) he hpl
end
end L2
namespace HT
open PySem PyProof.Rows
section
open PySem.SeqAt
open PySem.AutoSeq1 (wpAny_loadPart')
open PySem.MeetsSeq PySem.MeetsSeq2 PySem.MeetsSeq3
end
section
variable {prog:Program} {w:World} {A:Around} {E:Value→Shared→Prop} {s:Shared}
theorem aRe {t b:Addr} {vs ws:List Value} {Q:Value→Shared→Prop} (ht:IsTup s.heap t vs.toArray) (hb:IsTup s.heap b ws.toArray) (hv:vs≠[])
  (h1:ws=[]→Q (.ref t) s) (h2:ws≠[]→Q (.ref s.heap.objs.size) { s with heap:=s.heap.push { cls:=.type "tuple",data:=.seq (vs++ws).toArray } })
  (hsz:vs.length+ws.length≤sizeLine):wpAny (model prog w) A (binaryOp .Add (.ref t) (.ref b)) Q E s:=by
 obtain ⟨⟨cls,dd,data,sl⟩,ho,hc,n,hd⟩:=id ht
 obtain ⟨⟨cls2,dd2,data2,sl2⟩,ho2,hc2,n2,hd2⟩:=id hb
 simp only at hc hd hc2 hd2
 subst hc hd hc2 hd2
 have e:vs.toArray++ws.toArray=(vs++ws).toArray:=by simp
 by_cases hw:ws=[]
 ·exact concat_meets ⟨_,ho,rfl⟩ ⟨_,ho2,rfl⟩ noFill_tuple_add seq_tuple_add PySem.F.slot_tuple_add PySem.F.entry_tuple_add (PySem.F.args_tuple_add_2 _ _)
   (tuple_addW1 t b vs.toArray ws.toArray n n2 dd dd2 sl sl2 (by simpa using hv) (by simp [hw])) ⟨ho,ho2,h1 hw⟩
 ·refine concat_meets ⟨_,ho,rfl⟩ ⟨_,ho2,rfl⟩ noFill_tuple_add seq_tuple_add PySem.F.slot_tuple_add PySem.F.entry_tuple_add (PySem.F.args_tuple_add_2 _ _)
   (tuple_addW2 t b vs.toArray ws.toArray n n2 dd dd2 sl sl2 (by simpa using hv) (by simpa using hw) (by rw [List.size_toArray,List.size_toArray];exact hsz)) ⟨ho,ho2,?_⟩
  rw [e]
  exact h2 hw
def sIx (n d:Nat):Option Int→Nat
 |none=>d
 |some v=>if v<0 then (v+(n:Int)).toNat else min v.toNat n
theorem zK (n d:Nat):sIx n d none=d:=rfl
theorem yH (n d k:Nat):sIx n d (some (k:Int))=min k n:=by
 show (if (k:Int)<0 then ((k:Int)+(n:Int)).toNat else min (k:Int).toNat n)=min k n
 rw [if_neg (by omega),Int.toNat_natCast]
theorem aU2 (n d:Nat) (hd:d≤n) (o:Option Int):sIx n d o≤n:=by
 cases o with
 |none=>exact hd
 |some v=>
  show (if v<0 then (v+(n:Int)).toNat else min v.toNat n)≤n
  by_cases hv:v<0
  ·rw [if_pos hv];omega
  ·rw [if_neg hv];exact Nat.min_le_right _ _
theorem aKq (v:Int) (n d:Nat):(if v<0 then max (v+(n:Int)) 0 else min v (n:Int))=((sIx n d (some v):Nat):Int):=by
 show (if v<0 then max (v+(n:Int)) 0 else min v (n:Int))=(((if v<0 then (v+(n:Int)).toNat else min v.toNat n):Nat):Int)
 by_cases hv:v<0
 ·simp only [if_pos hv];omega
 ·simp only [if_neg hv];omega
theorem aIx (lo hi:Option Int) (n:Nat):Builtin.Slice.sliceAdjust lo hi 1 (n:Int)=(((sIx n 0 lo:Nat):Int),((sIx n n hi:Nat):Int)):=by
 have h1:¬ ((1:Int)<0):=by omega
 unfold Builtin.Slice.sliceAdjust
 simp only [h1,if_false]
 refine Prod.ext ?_ ?_
 ·cases lo with
  |none=>rfl
  |some v=>exact aKq v n 0
 ·cases hi with
  |none=>rfl
  |some v=>exact aKq v n n
theorem aIh (i j:Nat):Builtin.Slice.slicePlaces (i:Int) (j:Int) 1=j - i:=by
 unfold Builtin.Slice.slicePlaces
 have h1:(1:Int) > 0:=by omega
 simp only [h1,if_true,Int.ediv_one]
 split <;> omega
theorem zZ {v:Value} {o:Option Int} {Q:Option Int→Shared→Prop} (p:IsPart v o) (h:Q o s):wpAny (model prog w) A (Builtin.Slice.slicePartIndex v) Q E s:=by
 cases p with
 |none=>exact slicePart_none h
 |int i t=>exact slicePart_int h
theorem mY {sl:Addr} {vl vu:Value} {lo hi:Option Int} {n:Nat} {Q:Int × Int × Nat→Shared→Prop} (hs:s.heap.IsSliceOf sl vl vu .none) (pl:IsPart vl lo) (pu:IsPart vu hi)
  (h:Q (((sIx n 0 lo:Nat):Int),1,sIx n n hi - sIx n 0 lo) s):wpAny (model prog w) A (Builtin.Slice.sliceApplied (.ref sl) (pure (n:Int))) Q E s:=by
 obtain ⟨os,hos,hcs,hds⟩:=id hs
 unfold Builtin.Slice.sliceApplied Builtin.Slice.sliceFields
 refine wpAny_bind (wpAny_bind (wpAny_field hos hds (x:=vl) rfl (wpAny_bind (wpAny_field hos hds (x:=vu) rfl (wpAny_bind (wpAny_field hos hds (x:=.none) rfl (wpAny_pure ?_)))))))
 refine wpAny_bind (slicePart_none ?_)
 show wpAny _ _ (if ((1:Int) == 0)=true then _ else _) _ _ s
 rw [if_neg (by decide)]
 refine wpAny_bind (zZ pl (wpAny_bind (zZ pu (wpAny_bind (wpAny_pure ?_)))))
 show wpAny _ _ (match Builtin.Slice.sliceAdjust lo hi 1 (n:Int) with|(lo,hi)=>pure (lo,(1:Int),Builtin.Slice.slicePlaces lo hi 1)) _ _ s
 rw [aIx lo hi n]
 show wpAny _ _ (pure (((sIx n 0 lo:Nat):Int),(1:Int),Builtin.Slice.slicePlaces ((sIx n 0 lo:Nat):Int) ((sIx n n hi:Nat):Int) 1)) _ _ s
 rw [aIh]
 exact wpAny_pure h
theorem aO7 (xs:Array Value) (i k:Nat):((List.range k).filterMap fun (m:Nat)=>xs[((i:Int)+(m:Int) * 1).toNat]?).toArray=((xs.toList.drop i).take k).toArray:=by
 have e:(fun (m:Nat)=>xs[((i:Int)+(m:Int) * 1).toNat]?)=fun m=>xs[i+m]?:=by
  funext m
  have:((i:Int)+(m:Int) * 1).toNat=i+m:=by omega
  rw [this]
 rw [e]
 have:=pick_run xs i k
 rw [List.filterMap_map] at this
 have e2:((fun x=>xs[x]?) ∘ fun x=>i+x)=fun m=>xs[i+m]?:=rfl
 rw [e2] at this
 rw [this]
theorem vK {t sl:Addr} {items:Array Value} {vl vu:Value} {lo hi:Option Int} {Q:Value→Shared→Prop} (ht:IsTup s.heap t items) (hs:s.heap.IsSliceOf sl vl vu .none) (pl:IsPart vl lo) (pu:IsPart vu hi)
  (hw:¬ (sIx items.size 0 lo=0∧sIx items.size items.size hi=items.size))
  (h:Q (.ref s.heap.objs.size) { s with heap:=s.heap.push { cls:=.type "tuple",data:=.seq ((items.toList.drop (sIx items.size 0 lo)).take (sIx items.size items.size hi - sIx items.size 0 lo)).toArray } })
  (hsz:items.size≤sizeLine):wpAny (model prog w) A (getItem (.ref t) (.ref sl)) Q E s:=by
 have htake:sizeOk (.seq ((items.toList.drop (sIx items.size 0 lo)).take (sIx items.size items.size hi - sIx items.size 0 lo)).toArray):=by
  show ((items.toList.drop (sIx items.size 0 lo)).take (sIx items.size items.size hi - sIx items.size 0 lo)).toArray.size≤sizeLine
  rw [List.size_toArray,List.length_take,List.length_drop,Array.length_toList]
  omega
 have hj:sIx items.size items.size hi≤items.size:=aU2 _ _ (Nat.le_refl _) hi
 obtain ⟨os,hos,hcs,hds⟩:=id hs
 have hTs:s.TypeIs (.ref sl) "slice":=⟨os,hos,hcs⟩
 unfold getItem
 try with_reducible refine wpAny_holding ?_
 first|refine wpAny_bind (wpAny_pure ?_)|skip
 refine wpAny_bind (wpAny_sequenceKey ht.typeIs (by decide) ?_)
 refine wpAny_bind (wpAny_callSpecial?_slot (name:=Str.ofString "__getitem__") ht.typeIs PyProof.Rows.slot_tuple_getitem
  (wpAny_call_entry PyProof.Rows.slot_tuple_getitem ht.typeIs entry_tuple_getitem ?_ (args_tuple_getitem _ _)))
 show wpAny _ _ (Builtin.Tuple.tupleItemsOf (.ref t) >>= _) _ _ s
 refine wpAny_bind (tupleItemsOf_ ht ?_)
 refine wpAny_bind (wpAny_typeOf hTs ?_)
 rw [if_pos (by decide)]
 refine wpAny_bind (mY hs pl pu ?_)
 have hno:¬ ((((sIx items.size 0 lo:Nat):Int) == 0 && (1:Int) == 1 && (sIx items.size items.size hi - sIx items.size 0 lo) == items.size)=true):=by
  intro q
  rw [Bool.and_eq_true,Bool.and_eq_true] at q
  have q1:((sIx items.size 0 lo:Nat):Int)=0:=eq_of_beq q.1.1
  have q2:sIx items.size items.size hi - sIx items.size 0 lo=items.size:=eq_of_beq q.2
  exact hw ⟨by omega,by omega⟩
 show wpAny _ _ (if (((sIx items.size 0 lo:Nat):Int) == 0 && (1:Int) == 1 && (sIx items.size items.size hi - sIx items.size 0 lo) == items.size)=true then _ else _) _ _ s
 rw [if_neg hno,aO7]
 first
  |exact wpAny_bind (m:=Builtin.Tuple.tupleExact _) (wpAny_newObj_type (wpAny_pure ⟨_,rfl,wpAny_pure h⟩) htake)
  |exact wpAny_bind (m:=Builtin.Tuple.tupleExact _) (wpAny_newObj_type (wpAny_bind (wpAny_pure (wpAny_pure ⟨_,rfl,wpAny_pure h⟩))) htake)
  |exact wpAny_bind (wpAny_bind (m:=Builtin.Tuple.tupleExact _) (wpAny_newObj_type (wpAny_pure (wpAny_pure ⟨_,rfl,wpAny_pure h⟩)) htake))
  |exact wpAny_bind (wpAny_bind (m:=Builtin.Tuple.tupleExact _) (wpAny_newObj_type (wpAny_pure ⟨_,rfl,wpAny_pure h⟩) htake))
end
end HT
namespace L2
open PySem PySem.Spec PyProof.Rows
abbrev TO:=St→Hp→(Option Int→Hp→Prop)→Prop
def PO (X:Cx) (e:Option Expr) (t:TO):Prop:=
 ∀(pins:List (Addr × Obj)) (s:Shared) (σ:St) (H:Hp) (Q:Option Int→Hp→Prop),Inv X pins σ H s→t σ H Q →
  wpAny (model X.prog X.w) X.A (evalPart e X.env) (fun u s'=>∃o H',Inv X pins σ H' s'∧IsPart u o∧Q o H') X.xe s
def aLf:TO:=fun _ H Q=>Q none H
def aSv (t:TE):TO:=fun σ H Q=>t σ H fun x H1=>∃i,x=.int i∧Q (some i) H1
section
variable {X:Cx} {e:Expr} {te:TE} {lo hi:Option Expr} {tl th:TO} {pos p2:Pos}
theorem aSn:PO X none aLf:=by
 intro pins s σ H Q I h
 rw [evalPart_none]
 exact wpAny_pure ⟨none,H,I,.none,h⟩
theorem aSd (h:PE X e te):PO X (some e) (aSv te):=by
 intro pins s σ H Q I hw
 rw [evalPart_some]
 refine thn (h pins s σ H _ I hw) fun u s1 ⟨x,H1,I1,r1,q1⟩=>?_
 obtain ⟨i,rfl,q⟩:=q1
 obtain ⟨t,rfl⟩:=r1
 exact ⟨some i,H1,I1,.int i t,q⟩
def SlR (X:Cx) (r:V→Option Int→Option Int→Hp→VK→Prop):Prop:=
 ∀(pins:List (Addr × Obj)) (s:Shared) (σ:St) (H:Hp) (x:V) (v vl vu:Value) (lo hi:Option Int) (sl:Addr) (Q:VK),Inv X pins σ H s→RelV x v→s.heap.IsSliceOf sl vl vu .none→IsPart vl lo→IsPart vu hi→r x lo hi H Q →
  ∃T id,typeLookup (.type T) "__getitem__"=pure (some (.builtin id))∧s.TypeIs v T∧wpAny (model X.prog X.w) X.A (getItem v (.ref sl)) (EP X pins σ Q) X.xe s
def tSl (r:V→Option Int→Option Int→Hp→VK→Prop) (te:TE) (tl th:TO):TE:=fun σ H Q=>te σ H fun x H1=>tl σ H1 fun l H2=>th σ H2 fun u H3=>r x l u H3 Q
theorem aPw {r:V→Option Int→Option Int→Hp→VK→Prop} (hr:SlR X r) (he:PE X e te) (hl:PO X lo tl) (hu:PO X hi th):PE X (.Subscript e (.Slice lo hi none p2) pos) (tSl r te tl th):=by
 intro pins s σ H Q I h
 refine Subscript_ (thn (he pins s σ H _ I h) fun v s1 ⟨x,H1,I1,r1,q1⟩=>?_)
 refine wpAny_Slice (thn (hl pins s1 σ H1 _ I1 q1) fun vl s2 ⟨l,H2,I2,pl,q2⟩=>thn (hu pins s2 σ H2 _ I2 q2) fun vu s3 ⟨u,H3,I3,pu,q3⟩=>?_)
 rw [evalPart_none]
 refine wpAny_pure ?_
 have I4:Inv X pins σ H3 { s3 with heap:=s3.heap.push { cls:=.type "slice",data:=.fields #[vl,vu,.none] } }:=I3.kept (t':=s3.toks) fun b ob q=>Heap.get?_push_of_some _ q
 obtain ⟨T,id,hT,ht,hg⟩:=hr pins { s3 with heap:=s3.heap.push { cls:=.type "slice",data:=.fields #[vl,vu,.none] } } σ H3 x v vl vu l u s3.heap.objs.size Q I4 r1 (Heap.IsSliceOf.new ..) pl pu q3
 show wpAny (model X.prog X.w) X.A (subscriptTail e (.Slice lo hi none p2) v (.ref s3.heap.objs.size)) (EP X pins σ Q) X.xe { s3 with heap:=s3.heap.push { cls:=.type "slice",data:=.fields #[vl,vu,.none] } }
 exact tail_any (ops:=[.ref s3.heap.objs.size,v]) ht hT hg (by with_unfolding_all rfl)
def pD (xs:List V) (lo hi:Option Int):List V:=(xs.drop (HT.sIx xs.length 0 lo)).take (HT.sIx xs.length xs.length hi - HT.sIx xs.length 0 lo)
theorem xH (xs:List V) (lo hi:Option Int):(pD xs lo hi).length≤xs.length:=by
 unfold pD
 rw [List.length_take,List.length_drop]
 omega
def aYr (K:PySem.W.Frag):V→Option Int→Option Int→Hp→VK→Prop:=fun x lo hi H Q=>∃a xs,x=.ref a∧SqT K H a xs ∧
 ¬ (HT.sIx xs.length 0 lo=0∧HT.sIx xs.length xs.length hi=xs.length)∧∀p,H p=none→Q (.ref p) (upd H p (.tup (pD xs lo hi)))
theorem aUg:SlR X (aYr X.K):=by
 intro pins s σ H x v vl vu lo hi sl Q I rx hs pl pu h
 obtain ⟨a,xs,rfl,hx,hw,q⟩:=h
 cases rx
 obtain ⟨its,r,ht,hz⟩:=I.tuple hx
 have hlen:its.toArray.size=xs.length:=by rw [List.size_toArray];exact r.length.symm
 refine ⟨"tuple",_,PyProof.Rows.slot_tuple_getitem.lookup,ht.typeIs,?_⟩
 refine HT.vK ht hs pl pu (by rw [hlen];exact hw) ?_ (by rw [hlen];exact hz)
 rw [hlen]
 refine ⟨.ref s.heap.objs.size,_,I.laid (t':=s.toks) (o:=.tup (pD xs lo hi)) (fun b ob q=>Heap.get?_push_of_some _ q) (Nat.le_refl _) ?_,rfl,q _ (I.hok.fresh (Nat.le_refl _))⟩
 exact ⟨Nat.le_trans (xH xs lo hi) hz,_,(r.drop (HT.sIx xs.length 0 lo)).take (HT.sIx xs.length xs.length hi - HT.sIx xs.length 0 lo),vL.new _ _⟩
def aXc (K:PySem.W.Frag):R2:=fun x y H Q=>∃a b xs ys,x=.ref a∧y=.ref b∧SqT K H a xs∧SqT K H b ys∧xs≠[]∧xs.length+ys.length≤sizeLine ∧
 (ys=[]→Q (.ref a) H)∧(ys≠[]→∀p,H p=none→Q (.ref p) (upd H p (.tup (xs++ys))))
theorem Vals.yL {xs:List V} {us:List Value} (r:Vals xs us):us=[]↔xs=[]:=by
 cases r with
 |nil=>simp
 |cons _ _=>simp
theorem aQh:OpR X (binaryOp .Add) (aXc X.K):=by
 intro pins s σ H x y v u Q I rx ry h
 obtain ⟨a,b,xs,ys,rfl,rfl,ha,hb,hx,hz,q1,q2⟩:=h
 cases rx
 cases ry
 obtain ⟨its,r1,p1,_⟩:=I.tuple ha
 obtain ⟨its2,r2,p2,_⟩:=I.tuple hb
 refine HT.aRe p1 p2 (fun z=>hx (r1.yL.mp z)) (fun z=>⟨.ref a,H,I,rfl,q1 (r2.yL.mp z)⟩) (fun z=>?_) (by rw [←r1.length,←r2.length];exact hz)
 refine ⟨.ref s.heap.objs.size,_,I.laid (t':=s.toks) (o:=.tup (xs++ys)) (fun b ob q=>Heap.get?_push_of_some _ q) (Nat.le_refl _) ?_,rfl,q2 (fun w=>z (r2.yL.mpr w)) _ (I.hok.fresh (Nat.le_refl _))⟩
 exact ⟨by rw [List.length_append];exact hz,_,r1.append r2,vL.new _ _⟩
end
def ixN (n:Nat) (i:Int):Option Nat:=if 0≤i then (if i<n then some i.toNat else none) else if -(n:Int)≤i then some (i+n).toNat else none
def atI {α:Type} (xs:List α) (i:Int):Option α:=(ixN xs.length i).bind fun j=>xs[j]?
theorem aKr {n:Nat} {i:Int} {j:Nat} (h:ixN n i=some j):seqIndex? i n=some j∧j<n∧-(n:Int)≤i∧i<n:=by
 unfold ixN at h
 by_cases h0:0≤i
 ·rw [if_pos h0] at h
  by_cases h1:i<n
  ·rw [if_pos h1] at h
   have e:i.toNat=j:=Option.some.inj h
   exact ⟨by rw [seqIndex_of h0 h1,e],by omega,by omega,h1⟩
  ·rw [if_neg h1] at h;cases h
 ·rw [if_neg h0] at h
  by_cases h1:-(n:Int)≤i
  ·rw [if_pos h1] at h
   have e:(i+n).toNat=j:=Option.some.inj h
   exact ⟨by rw [seqIndex_neg (by omega) h1,e],by omega,h1,by omega⟩
  ·rw [if_neg h1] at h;cases h
theorem aK3 {α:Type} {xs:List α} {i:Int} {v:α} (h:atI xs i=some v):∃j,seqIndex? i xs.length=some j∧xs[j]?=some v∧j<xs.length∧-(xs.length:Int)≤i∧i<xs.length:=by
 unfold atI at h
 cases e:ixN xs.length i with
 |none=>rw [e] at h;cases h
 |some j=>
  rw [e] at h
  obtain ⟨h1,h2,h3,h4⟩:=aKr e
  exact ⟨j,h1,h,h2,h3,h4⟩
theorem dH {α:Type} {xs:List α} {j:Nat} {v:α} (h:xs[j]?=some v):atI xs (j:Int)=some v:=by
 have hj:j<xs.length:=(List.getElem?_eq_some_iff.mp h).1
 have e:ixN xs.length (j:Int)=some j:=by
  unfold ixN
  rw [if_pos (by omega),if_pos (by omega)];simp
 unfold atI;rw [e];exact h
def aJ1 (b:Expr):Prop:=∀o i,subscripted b false o i=operate [o,i] (getItem o i)
def IxR (X:Cx) (r:R2):Prop:=
 ∀(value slice:Expr) (pins:List (Addr × Obj)) (s:Shared) (σ:St) (H:Hp) (x y:V) (v u:Value) (Q:VK),Inv X pins σ H s→RelV x v→RelV y u→r x y H Q →
  subscripted slice false v u=operate [v,u] (getItem v u)→wpAny (model X.prog X.w) X.A (subscriptTail value slice v u) (EP X pins σ Q) X.xe s
def MtR (X:Cx) (id:String) (r:V→List V→Hp→VK→Prop):Prop:=
 ∀(pins:List (Addr × Obj)) (s:Shared) (σ:St) (H:Hp) (x:V) (xs:List V) (v:Value) (us:List Value) (Q:VK),Inv X pins σ H s→RelV x v→Vals xs us→r x xs H Q →
  wpAny (model X.prog X.w) X.A (call (.builtin id) (v::us)) (EP X pins σ Q) X.xe s
section
variable {X:Cx} {a b:Expr} {ta tb:TE} {pos:Pos}
theorem aXq {r:R2} (hr:IxR X r) (ha:PE X a ta) (hb:PE X b tb) (hs:aJ1 b):PE X (.Subscript a b pos) (tOp r ta tb):=by
 intro pins s σ H Q I h
 exact Subscript_ (aQr ha hb I h fun v u s2 x y H2 I2 rx ry q=>hr a b pins s2 σ H2 x y v u Q I2 rx ry q (hs _ _))
def aRq (K:PySem.W.Frag):R2:=fun x y H Q=>∃p xs i v,x=.ref p∧y=.int i∧SqL K H p xs∧atI xs i=some v∧Q v H
def aWl (K:PySem.W.Frag):R2:=fun x y H Q=>∃p xs i v,x=.ref p∧y=.int i∧SqT K H p xs∧atI xs i=some v∧Q v H
theorem dU:IxR X (aRq X.K):=by
 intro value slice pins s σ H x y v u Q I rx ry h hs
 obtain ⟨p,xs,i,z,rfl,rfl,hq,he,q⟩:=h
 cases rx
 obtain ⟨t,rfl⟩:=ry
 obtain ⟨its,r,pl,hz⟩:=I.list hq
 obtain ⟨j,h1,h2,h3,h4,h5⟩:=aK3 he
 obtain ⟨w,ew,rw'⟩:=r.get h2
 have hl:=r.length
 have hn:=wJ
 have fin:EP X pins σ Q w s:=⟨z,H,I,rw',q⟩
 by_cases h0:0≤i
 ·have hj:i.toNat=j:=by
   rw [seqIndex_of h0 h5] at h1
   exact Option.some.inj h1
  exact item_listR pl.isList h0 (by omega) (by rw [hj];simpa using ew) fin hs
 ·have hj:(i+(its.toArray.size:Int)).toNat=j:=by
   rw [seqIndex_neg (by omega) h4] at h1
   rw [List.size_toArray,←hl]
   exact Option.some.inj h1
  exact subscriptTail_builtinR (x:=w) pl.isList.typeIs slot_list_getitem.lookup
   (wpAny_getItem_list_neg (Q:=fun r s'=>r=w∧EP X pins σ Q r s') pl.isList (by omega) (by rw [List.size_toArray] <;> omega) (by omega) (by rw [hj];simpa using ew) ⟨rfl,fin⟩) hs
theorem cM:IxR X (aWl X.K):=by
 intro value slice pins s σ H x y v u Q I rx ry h hs
 obtain ⟨p,xs,i,z,rfl,rfl,hq,he,q⟩:=h
 cases rx
 obtain ⟨t,rfl⟩:=ry
 obtain ⟨its,r,pl,hz⟩:=I.tuple hq
 obtain ⟨j,h1,h2,h3,h4,h5⟩:=aK3 he
 obtain ⟨w,ew,rw'⟩:=r.get h2
 have hl:=r.length
 have hn:=wJ
 have fin:EP X pins σ Q w s:=⟨z,H,I,rw',q⟩
 exact subscriptTail_builtinR (x:=w) pl.typeIs slot_tuple_getitem.lookup
  (getItem_tuple (j:=j) (Q:=fun r s'=>r=w∧EP X pins σ Q r s') pl (by omega) (by omega) (by rw [List.size_toArray,←hl];exact h1) (by simpa using ew) ⟨rfl,fin⟩) hs
theorem aIf (its:List Value) (n j:Nat) (u:Value):Obj.mapSeq (·.setIfInBounds j u) { cls:=.type "list",data:=.seq its.toArray n }={ cls:=.type "list",data:=.seq (its.set j u).toArray n }:=by
 simp [Obj.mapSeq]
theorem Inv.lst {pins:List (Addr × Obj)} {σ:St} {H:Hp} {s:Shared} {p:Addr} {xs:List V} (I:Inv X pins σ H s) (h:H p=some (.lst xs)) :
  ∃(its:List Value) (n:Nat),Vals xs its∧s.heap.get? p=some { cls:=.type "list",data:=.seq its.toArray n }∧xs.length≤sizeLine:=by
 obtain ⟨z,its,n,r,e⟩:=I.hok p _ h
 exact ⟨its,n,r,e,z⟩
theorem Inv.aUz {pins:List (Addr × Obj)} {σ:St} {H:Hp} {s:Shared} {p:Addr} {xs ys:List V} {its its':List Value} {n n':Nat} {f:Obj→Obj} (I:Inv X pins σ H s) (h:H p=some (.lst xs))
  (ho:s.heap.get? p=some { cls:=.type "list",data:=.seq its.toArray n }) (hf:f { cls:=.type "list",data:=.seq its.toArray n }={ cls:=.type "list",data:=.seq its'.toArray n' }) (r:Vals ys its') (hz:ys.length≤sizeLine) (t:Nat) :
  Inv X pins σ (upd H p (.lst ys)) { s with heap:=s.heap.update p f,toks:=t }:=by
 have e:(s.heap.update p f).get? p=some { cls:=.type "list",data:=.seq its'.toArray n' }:=by
  rw [Heap.get?_update_self f ho (by rw [hf] <;> rfl),hf]
 refine I.write (x:=p) (e:=p) (by rw [h];trivial) (.inl rfl) (fun b u hb q=>(Heap.get?_update_other _ _ (Ne.symm hb)).trans q) ⟨_,e⟩ ?_
 exact ⟨hz,its',n',r,e⟩
def aW9:V→V→V→Hp→(Hp→Prop)→Prop:=fun o i v H Q=>∃p xs k j,o=.ref p∧i=.int k∧H p=some (.lst xs)∧ixN xs.length k=some j∧Q (upd H p (.lst (xs.set j v)))
theorem set_list:aT2 X aW9:=by
 intro pins s σ H o i v ov iv u Q I ro ri rv h
 obtain ⟨p,xs,k,j,rfl,rfl,hp,hj,q⟩:=h
 cases ro
 obtain ⟨t,rfl⟩:=ri
 obtain ⟨its,n,r,ho,hz⟩:=I.lst hp
 obtain ⟨h1,h2,h3,h4⟩:=aKr hj
 have hl:=r.length
 have hn:=wJ
 have I':Inv X pins σ (upd H p (.lst (xs.set j v))) { s with heap:=s.heap.update p (Obj.mapSeq (·.setIfInBounds j u)) }:=
  I.aUz hp ho (aIf its n j u) (r.set rv j) (by rw [List.length_set];exact hz) s.toks
 by_cases h0:0≤k
 ·have hk:k.toNat=j:=by
   rw [seqIndex_of h0 h4] at h1
   exact Option.some.inj h1
  exact PySem.W.ki_setAt ho h0 (by omega) (by rw [List.size_toArray,←hl];exact h4) (by rw [hk];exact ⟨_,I',q⟩)
 ·have hk:(k+(its.toArray.size:Int)).toNat=j:=by
   rw [seqIndex_neg (by omega) h3] at h1
   rw [List.size_toArray,←hl]
   exact Option.some.inj h1
  exact PySem.W.ki_setBack ho (by omega) (by rw [List.size_toArray,←hl];exact h3) (by omega) (by rw [hk];exact ⟨_,I',q⟩)
theorem aEk (lo hi:Option Int) (n:Nat):(sliceBounds lo hi none n).1=((HT.sIx n 0 lo:Nat):Int)∧(sliceBounds lo hi none n).2.1=((HT.sIx n n hi:Nat):Int)∧(sliceBounds lo hi none n).2.2=1:=by
 refine ⟨?_,?_,rfl⟩
 ·cases lo with
  |none=>simp [sliceBounds,HT.sIx]
  |some i=>
   simp only [sliceBounds,HT.sIx,Option.getD_none,show (1:Int) > 0 by decide,if_true]
   by_cases h:i<0
   ·simp only [h,if_true] <;> omega
   ·simp only [h,if_false] <;> omega
 ·cases hi with
  |none=>simp [sliceBounds,HT.sIx]
  |some i=>
   simp only [sliceBounds,HT.sIx,Option.getD_none,show (1:Int) > 0 by decide,if_true]
   by_cases h:i<0
   ·simp only [h,if_true] <;> omega
   ·simp only [h,if_false] <;> omega
theorem aBu (its:List Value) (lo hi:Option Int):slicePick its.toArray lo hi none=((its.drop (HT.sIx its.length 0 lo)).take (HT.sIx its.length its.length hi - HT.sIx its.length 0 lo)).toArray:=by
 obtain ⟨h1,h2,h3⟩:=aEk lo hi its.toArray.size
 unfold slicePick
 rw [h1,h2,h3]
 simp only [sliceRange_one,pick_run,List.size_toArray] <;> rfl
def aYl (K:PySem.W.Frag):V→Option Int→Option Int→Hp→VK→Prop:=fun x lo hi H Q=>∃a xs,x=.ref a∧SqL K H a xs∧∀p,H p=none→Q (.ref p) (upd H p (.lst (pD xs lo hi)))
theorem aQg:SlR X (aYl X.K):=by
 intro pins s σ H x v vl vu lo hi sl Q I rx hs pl pu h
 obtain ⟨a,xs,rfl,hx,q⟩:=h
 cases rx
 obtain ⟨its,r,ht,hz⟩:=I.list hx
 have hlen:=r.length
 refine ⟨"list",_,slot_list_getitem.lookup,ht.isList.typeIs,?_⟩
 refine wpAny_getItem_list_slice ht.isList hs pl pu .none (by simp) ?_ (by rw [List.size_toArray] <;> omega)
 rw [aBu,←hlen]
 refine ⟨.ref s.heap.objs.size,_,I.laid (t':=s.toks) (o:=.lst (pD xs lo hi)) (fun b ob q=>Heap.get?_push_of_some _ q) (Nat.le_refl _) ?_,rfl,q _ (I.hok.fresh (Nat.le_refl _))⟩
 exact ⟨Nat.le_trans (xH xs lo hi) hz,_,0,(r.drop (HT.sIx xs.length 0 lo)).take (HT.sIx xs.length xs.length hi - HT.sIx xs.length 0 lo),Heap.get?_push_size _ rfl⟩
def kJ:V→Bool
 |.non=>true
 |.bl _=>true
 |.int _=>true
 |.str _=>true
 |_=>false
def eqV:V→V→Bool
 |.non,.non=>true
 |.bl a,.bl b=>a == b
 |.bl a,.int b=>(if a then 1 else 0) == b
 |.int a,.bl b=>a == (if b then 1 else 0)
 |.int a,.int b=>a == b
 |.str a,.str b=>a == b
 |_,_=>false
theorem aT4 {A:Around} {s:Shared} {y x:V} {u v:Value} (ry:RelV y u) (rx:RelV x v) (fy:kJ y=true) (fx:kJ x=true):SeqAt.EqAt A s u v (eqV y x):=by
 cases y with
 |non=>
  cases ry
  cases x with
  |non=>cases rx;exact SeqAt.EqAt.same _
  |bl b=>cases rx;exact SeqAt.EqAt.none_bool b
  |int b=>obtain ⟨t,rfl⟩:=rx;exact SeqAt.EqAt.none_int b t
  |str b=>obtain ⟨t,rfl⟩:=rx;exact SeqAt.EqAt.none_str b t
  |_=>exact absurd (show false=true from fx) Bool.false_ne_true
 |bl a=>
  cases ry
  cases x with
  |non=>cases rx;exact SeqAt.EqAt.bool_none a
  |bl b=>cases rx;exact SeqAt.EqAt.bool_bool a b
  |int b=>obtain ⟨t,rfl⟩:=rx;exact SeqAt.EqAt.bool_int a b t
  |str b=>obtain ⟨t,rfl⟩:=rx;exact SeqAt.EqAt.bool_str a b t
  |_=>exact absurd (show false=true from fx) Bool.false_ne_true
 |int a=>
  obtain ⟨t',rfl⟩:=ry
  cases x with
  |non=>cases rx;exact SeqAt.EqAt.int_none a t'
  |bl b=>cases rx;exact SeqAt.EqAt.int_bool a t' b
  |int b=>obtain ⟨t,rfl⟩:=rx;exact SeqAt.EqAt.int_int a t' b t
  |str b=>obtain ⟨t,rfl⟩:=rx;exact SeqAt.EqAt.int_str a t' b t
  |_=>exact absurd (show false=true from fx) Bool.false_ne_true
 |str a=>
  obtain ⟨t',rfl⟩:=ry
  cases x with
  |non=>cases rx;exact SeqAt.EqAt.str_none a t'
  |bl b=>cases rx;exact SeqAt.EqAt.str_bool a t' b
  |int b=>obtain ⟨t,rfl⟩:=rx;exact SeqAt.EqAt.str_int a t' b t
  |str b=>obtain ⟨t,rfl⟩:=rx;exact SeqAt.EqAt.str_str a t' b t
  |_=>exact absurd (show false=true from fx) Bool.false_ne_true
 |_=>exact absurd (show false=true from fy) Bool.false_ne_true
def eqU (x:V) (u:Value):Bool:=match u with
 |.none=>eqV .non x
 |.bool b=>eqV (.bl b) x
 |.int i _=>eqV (.int i) x
 |.str z _=>eqV (.str z) x
 |_=>false
theorem aPl {x y:V} {u:Value} (r:RelV y u) (f:kJ y=true):eqU x u=eqV y x:=by
 cases y with
 |non=>cases r;rfl
 |bl b=>cases r;rfl
 |int i=>obtain ⟨t,rfl⟩:=r;rfl
 |str z=>obtain ⟨t,rfl⟩:=r;rfl
 |_=>exact absurd (show false=true from f) Bool.false_ne_true
theorem sZ {x:V}:∀{xs:List V} {us:List Value},Vals xs us→xs.all kJ=true→us.any (eqU x)=xs.any fun y=>eqV y x
 |_,_,.nil,_=>rfl
 |y::xs,u::us,.cons r t,f=>by
  rw [List.all_cons,Bool.and_eq_true] at f
  rw [List.any_cons,List.any_cons,aPl r f.1,sZ t f.2]
theorem qG {A:Around} {s:Shared} {x:V} {v:Value} (rx:RelV x v) (fx:kJ x=true):∀{xs:List V} {us:List Value},Vals xs us→xs.all kJ=true→∀u∈us,SeqAt.EqAt A s u v (eqU x u)
 |_,_,.nil,_=>fun u hu=>by cases hu
 |y::xs,u::us,.cons r t,f=>fun u' hu=>by
  rw [List.all_cons,Bool.and_eq_true] at f
  rcases List.mem_cons.mp hu with rfl|hu
  ·rw [aPl r f.1];exact aT4 r rx f.1 fx
  ·exact qG rx fx t f.2 u' hu
def inV (x:V) (xs:List V):Bool:=xs.any fun y=>eqV y x
def rIn (K:PySem.W.Frag) (neg:Bool):R2:=fun x y H Q=>∃p xs,y=.ref p∧(SqL K H p xs∨SqT K H p xs)∧kJ x=true∧xs.all kJ=true∧Q (.bl (if neg then !inV x xs else inV x xs)) H
theorem wF:OpR X (compareOp .In) (rIn X.K false):=by
 intro pins s σ H x y v u Q I rx ry h
 obtain ⟨p,xs,rfl,hq,fx,fs,q⟩:=h
 cases ry
 rcases hq with hq|hq
 ·obtain ⟨its,r,pl,hz⟩:=I.list hq
  refine SeqAt.in_listAt (eqU x) pl.isList (fun w hw=>qG rx fx r fs w (by simpa using hw)) ⟨.bl _,H,I,rfl,?_⟩
  rw [show its.toArray.any (eqU x)=its.any (eqU x) by simp,sZ r fs]
  exact q
 ·obtain ⟨its,r,pl,hz⟩:=I.tuple hq
  refine SeqAt.in_tupleAt (eqU x) pl (fun w hw=>qG rx fx r fs w (by simpa using hw)) ⟨.bl _,H,I,rfl,?_⟩
  rw [show its.toArray.any (eqU x)=its.any (eqU x) by simp,sZ r fs]
  exact q
theorem uB:OpR X (compareOp .NotIn) (rIn X.K true):=by
 intro pins s σ H x y v u Q I rx ry h
 obtain ⟨p,xs,rfl,hq,fx,fs,q⟩:=h
 cases ry
 rcases hq with hq|hq
 ·obtain ⟨its,r,pl,hz⟩:=I.list hq
  refine SeqAt.notIn_listAt (eqU x) pl.isList (fun w hw=>qG rx fx r fs w (by simpa using hw)) ⟨.bl _,H,I,rfl,?_⟩
  rw [show its.toArray.any (eqU x)=its.any (eqU x) by simp,sZ r fs]
  exact q
 ·obtain ⟨its,r,pl,hz⟩:=I.tuple hq
  refine SeqAt.notIn_tupleAt (eqU x) pl (fun w hw=>qG rx fx r fs w (by simpa using hw)) ⟨.bl _,H,I,rfl,?_⟩
  rw [show its.toArray.any (eqU x)=its.any (eqU x) by simp,sZ r fs]
  exact q
theorem bD:cV X (.builtin "len") (fun xs H Q=>∃p ys,xs=[.ref p]∧(SqL X.K H p ys∨SqT X.K H p ys)∧Q (.int ys.length) H):=by
 intro pins s σ H xs us Q I r h
 obtain ⟨p,ys,rfl,hq,q⟩:=h
 obtain ⟨u,rfl,rx⟩:=vals1 r
 cases rx
 have hn:=wJ
 rcases hq with hq|hq
 ·obtain ⟨its,r',pl,hz⟩:=I.list hq
  have hlen:=r'.length
  exact Calls.call_len_list pl.isList (by simp only [List.size_toArray] <;> omega) ⟨.int ys.length,H,I.tok _,⟨s.toks+1,by rw [List.size_toArray,hlen]⟩,q⟩
 ·obtain ⟨its,r',pl,hz⟩:=I.tuple hq
  have hlen:=r'.length
  exact len_tuple pl (by simp only [List.size_toArray] <;> omega) ⟨.int ys.length,H,I.tok _,⟨s.toks+1,by rw [List.size_toArray,hlen]⟩,q⟩
theorem tX:cV X (.builtin "len") (fun xs H Q=>∃z,xs=[.str z]∧z.length≤sizeLine∧Q (.int z.length) H):=by
 intro pins s σ H xs us Q I r h
 obtain ⟨z,rfl,hz,q⟩:=h
 obtain ⟨u,rfl,t,rfl⟩:=vals1 r
 have hn:=wJ
 exact len_str (by omega) ⟨.int z.length,H,I.tok _,⟨_,rfl⟩,q⟩
theorem cV.or {f:Value} {r r':List V→Hp→VK→Prop} (h:cV X f r) (h':cV X f r'):cV X f (fun xs H Q=>r xs H Q∨r' xs H Q):=by
 intro pins s σ H xs us Q I rs q
 rcases q with q|q
 ·exact h pins s σ H xs us Q I rs q
 ·exact h' pins s σ H xs us Q I rs q
theorem aDf:cV X (.type "list") (fun xs H Q=>∃p ys,xs=[.ref p]∧(SqL X.K H p ys∨SqT X.K H p ys)∧∀l,H l=none→Q (.ref l) (upd H l (.lst ys))):=by
 intro pins s σ H xs us Q I r h
 obtain ⟨p,ys,rfl,hq,q⟩:=h
 obtain ⟨u,rfl,rx⟩:=vals1 r
 cases rx
 have fin:∀(its:List Value),Vals ys its→ys.length≤sizeLine→∀(h':Heap) (c':Nat),(∀b o',s.heap.get? b=some o'→h'.get? b=some o') →
   h'.get? s.heap.objs.size=some { cls:=.type "list",dict:=none,data:=.seq its.toArray c',slots:=#[] }→EP X pins σ Q (.ref s.heap.objs.size) { s with heap:=h' }:=fun its r' hz h' c' kp e=>
  ⟨.ref s.heap.objs.size,_,I.laid (t':=s.toks) kp (Nat.le_refl _) (show fY X.prog X.w _ h' _ (.lst ys) from ⟨hz,its,c',r',e⟩),rfl,q _ (I.hok.fresh (Nat.le_refl _))⟩
 rcases hq with hq|hq
 ·obtain ⟨its,r',pl,hz⟩:=I.list hq
  have hlen:=r'.length
  obtain ⟨o,ho,hc,n,hd⟩:=pl.isList
  exact call_list_seq p (.inl rfl) ho hc hd (fun h' c' kp e=>fin its r' hz h' c' kp e) (by simp only [List.size_toArray] <;> omega)
 ·obtain ⟨its,r',pl,hz⟩:=I.tuple hq
  have hlen:=r'.length
  obtain ⟨o,ho,hc,n,hd⟩:=pl
  exact call_list_seq p (.inr rfl) ho hc hd (fun h' c' kp e=>fin its r' hz h' c' kp e) (by simp only [List.size_toArray] <;> omega)
theorem aBk:cV X (.type "tuple") (fun xs H Q=>∃p ys,xs=[.ref p]∧((SqL X.K H p ys∧∀l,H l=none→Q (.ref l) (upd H l (.tup ys)))∨(SqT X.K H p ys∧Q (.ref p) H))):=by
 intro pins s σ H xs us Q I r h
 obtain ⟨p,ys,rfl,h⟩:=h
 obtain ⟨u,rfl,rx⟩:=vals1 r
 cases rx
 rcases h with ⟨hq,q⟩|⟨hq,q⟩
 ·obtain ⟨its,r',pl,hz⟩:=I.list hq
  have hlen:=r'.length
  refine call_tuple_list pl.isList (fun h' kp=>?_) (by simp only [List.size_toArray] <;> omega)
  have I1:Inv X pins σ H { s with heap:=h' }:=I.kept (t':=s.toks) kp
  have I2:Inv X pins σ (upd H h'.objs.size (.tup ys)) { s with heap:=h'.push { cls:=.type "tuple",data:=.seq its.toArray } }:=
   I1.laid (t':=s.toks) (fun b o e=>Heap.get?_push_of_some _ e) (Nat.le_refl _) (show fY X.prog X.w _ _ _ (.tup ys) from ⟨hz,its,r',vL.new _ _⟩)
  exact ⟨.ref h'.objs.size,_,I2,rfl,q _ (I1.hok.fresh (Nat.le_refl _))⟩
 ·obtain ⟨its,r',pl,hz⟩:=I.tuple hq
  exact call_tuple_same pl ⟨.ref p,H,I,rfl,q⟩
def tyV (K:PySem.W.Frag) (T:String) (x:V) (H:Hp):Prop:=match x with
 |.str _=>T = "str"
 |.int _=>T = "int"
 |.ref p=>(T = "list"∧∃xs,SqL K H p xs)∨(T = "tuple"∧∃o,K.lookup p=some o∧o.cls=.type "tuple"∧o.dict=none) ∨
   (T = "dict"∧((∃kvs,H p=some (.dK kvs))∨∃kvs,H p=some (.dT kvs)))∨(T = "set"∧∃S n,H p=some (.set S n))
 |_=>False
theorem aNh {pins:List (Addr × Obj)} {σ:St} {H:Hp} {s:Shared} {T:String} {x:V} {v:Value} (I:Inv X pins σ H s) (r:RelV x v) (ty:tyV X.K T x H) :
  s.TypeIs v T∧∀a,v=.ref a→∃ob,s.heap.get? a=some ob∧ob.dict=none:=by
 cases x with
 |str z=>
  obtain ⟨t,rfl⟩:=r
  cases (show T = "str" from ty)
  exact ⟨typeIs_str s z t,fun _ e=>nomatch e⟩
 |int i=>
  obtain ⟨t,rfl⟩:=r
  cases (show T = "int" from ty)
  exact ⟨typeIs_int s i t,fun _ e=>nomatch e⟩
 |ref p=>
  cases r
  rcases ty with ⟨rfl,xs,hq⟩|⟨rfl,o,hk,hc,hd⟩|⟨rfl,hk⟩|⟨rfl,S,n,hk⟩
  ·obtain ⟨its,_,pl,_⟩:=I.list hq
   refine ⟨pl.isList.typeIs,fun a e=>?_⟩
   cases e
   obtain ⟨o,n,e,c,hd,_⟩:=pl
   exact ⟨o,e,hd⟩
  ·refine ⟨⟨o,I.kIn p o hk,hc⟩,fun a e=>?_⟩
   cases e
   exact ⟨o,I.kIn _ o hk,hd⟩
  ·have z:∃o,s.heap.get? p=some o∧o.ExactDict:=by
    rcases hk with ⟨kvs,hk⟩|⟨kvs,hk⟩
    ·obtain ⟨_,_,_,_,o,_,_,e,ex,_⟩:=I.hok p _ hk
     exact ⟨o,e,ex⟩
    ·obtain ⟨_,_,_,_,o,_,_,e,ex,_⟩:=I.hok p _ hk
     exact ⟨o,e,ex⟩
   obtain ⟨o,e,ex⟩:=z
   refine ⟨⟨o,e,ex.1⟩,fun a e2=>?_⟩
   cases e2
   exact ⟨o,e,ex.2.1⟩
  ·obtain ⟨o,_,_,_,e,ex,_⟩:=I.hok p _ hk
   refine ⟨⟨o,e,ex.1⟩,fun a e2=>?_⟩
   cases e2
   exact ⟨o,e,ex.2.1⟩
 |_=>exact False.elim ty
def aWx (K:PySem.W.Frag) (T:String) (r:V→List V→Hp→VK→Prop) (to:TE):TE:=fun σ H Q=>to σ H fun x H1=>tyV K T x H1∧r x [] H1 Q
def tBM (K:PySem.W.Frag) (T:String) (r:V→List V→Hp→VK→Prop) (to:TE) (t:TA):TE:=fun σ H Q=>to σ H fun x H1=>tyV K T x H1∧t σ H1 fun xs H2=>r x xs H2 Q
variable {o e:Expr} {es:List Expr} {to:TE} {t:TA} {name:Str} {apos cpos:Pos} {T id:String} {r:V→List V→Hp→VK→Prop}
theorem aTw (pa:PlainAttrs T) (slot:Slot T name id) (hty:typeOf (.builtin id)=pure (.type "method_descriptor")) (hm:MtR X id r) (ho:PE X o to)
  (hbase:attributeBase o name X.env (eval o X.env)=eval o X.env:=by rfl) (hline:(apos.endLine == cpos.line)=true:=by rfl):PE X (.Call (.Attribute o name apos) [] [] cpos) (aWx X.K T r to):=by
 intro pins s σ H Q I h
 refine wpAny_Call_method0_late hbase hline (thn (ho pins s σ H _ I h) fun v s1 ⟨x,H1,I1,r1,ty,q1⟩=>?_)
 obtain ⟨h1,h2⟩:=aNh I1 r1 ty
 exact ⟨T,id,pa,slot,hty,h1,h2,Calls.callWith_builtin rfl (PySem.evalArgs_none (hm pins s1 σ H1 x [] v [] Q I1 r1 .nil q1))⟩
theorem aXw (pa:PlainAttrs T) (slot:Slot T name id) (hty:typeOf (.builtin id)=pure (.type "method_descriptor")) (hm:MtR X id r) (ho:PE X o to) (ha:PA X (e::es) t)
  (hbase:attributeBase o name X.env (eval o X.env)=eval o X.env:=by rfl)
  (hfew:((backTo cpos (starEach (e::es) X.env)).all (fun x=>!x.1) && (backToKw cpos (keywordEach [] X.env)).all (fun x=>x.1.isSome)
   && decide ((e::es).length+([]:List Keyword).length+(if ([]:List Keyword).isEmpty then 0 else 1)<30))=true:=by rfl)
  (hline:(apos.endLine == cpos.line)=true:=by rfl) (hs:starEach (e::es) X.env=(false,eval e X.env)::starEach es X.env:=by rfl) (hplain:(backTo cpos (starEach es X.env)).any (·.1)=false:=by rfl) :
  PE X (.Call (.Attribute o name apos) (e::es) [] cpos) (tBM X.K T r to t):=by
 intro pins s σ H Q I h
 refine wpAny_Call_method_late hbase hfew hline rfl (thn (ho pins s σ H _ I h) fun v s1 ⟨x,H1,I1,r1,ty,q1⟩=>?_)
 obtain ⟨h1,h2⟩:=aNh I1 r1 ty
 refine ⟨T,id,pa,slot,hty,h1,h2,?_⟩
 have hA:=ha cpos pins s1 σ H1 _ I1 q1
 rw [hs] at hA ⊢
 refine Calls.callWith_builtin (by show (false || (backTo cpos (starEach es X.env)).any (·.1))=false;rw [hplain] <;> rfl) (Calls.evalArgs_plain ?_)
 exact thn hA fun us s2 ⟨vs,H2,I2,r2,q2⟩=>hm pins s2 σ H2 x vs v us Q I2 r1 r2 q2
end
def MtM (X:Cx) (id:String) (r:V→List V→Hp→VK→Prop):Prop:=
 ∀(pins:List (Addr × Obj)) (s:Shared) (σ:St) (H:Hp) (x:V) (xs:List V) (v:Value) (us:List Value) (Q:VK),Inv X pins σ H s→RelV x v→Vals xs us→r x xs H Q →
  wpAny (model X.prog X.w) X.A (call (.builtin id) (v::us)) (EP X pins σ Q) X.xe s
theorem Vals.one:∀{x:V} {us:List Value},Vals [x] us→∃u,us=[u]∧RelV x u
 |_,_,.cons r .nil=>⟨_,rfl,r⟩
theorem Vals.two:∀{x y:V} {us:List Value},Vals [x,y] us→∃u v,us=[u,v]∧RelV x u∧RelV y v
 |_,_,_,.cons r (.cons q .nil)=>⟨_,_,rfl,r,q⟩
theorem Vals.zero:∀{us:List Value},Vals [] us→us=[]
 |_,.nil=>rfl
theorem Vals.dropLast {xs:List V} {us:List Value} (h:Vals xs us):Vals xs.dropLast us.dropLast:=by
 induction h with
 |nil=>exact .nil
 |cons r t ih=>
  cases t with
  |nil=>exact .nil
  |cons q t'=>exact .cons r ih
theorem Vals.reverse {xs:List V} {us:List Value} (h:Vals xs us):Vals xs.reverse us.reverse:=by
 induction h with
 |nil=>exact .nil
 |cons r t ih=>rw [List.reverse_cons,List.reverse_cons];exact Vals.append ih (.cons r .nil)
theorem Vals.rep {xs:List V} {us:List Value} (h:Vals xs us):∀k:Nat,Vals (List.replicate k xs).flatten (List.replicate k us).flatten
 |0=>.nil
 |k+1=>by
  rw [List.replicate_succ,List.replicate_succ,List.flatten_cons,List.flatten_cons]
  exact Vals.append h (Vals.rep h k)
theorem aHr {α:Type} (l:List α):l.eraseIdx (l.length - 1)=l.dropLast:=by
 induction l with
 |nil=>rfl
 |cons a r ih=>
  cases r with
  |nil=>rfl
  |cons b r=>
   have e:(a::b::r).length - 1=((b::r).length - 1)+1:=by
    have h1:(a::b::r).length=r.length+2:=rfl
    have h2:(b::r).length=r.length+1:=rfl
    omega
   rw [e,List.eraseIdx_cons_succ,ih]
   all_goals rfl
theorem foldl_rep (its:List Value):∀(k:Nat) (acc:List Value),
  List.foldl (fun x1 x2=>x1++x2) acc.toArray (List.replicate k its.toArray)=(acc++(List.replicate k its).flatten).toArray
 |0,acc=>by simp
 |k+1,acc=>by
  have e:acc.toArray++its.toArray=(acc++its).toArray:=by simp
  have e2:(acc++its)++(List.replicate k its).flatten=acc++(List.replicate (k+1) its).flatten:=by
   rw [List.replicate_succ,List.flatten_cons,List.append_assoc]
  rw [←e2,←foldl_rep its k (acc++its),←e,List.replicate_succ,List.foldl_cons]
section
variable {X:Cx} {pins:List (Addr × Obj)} {σ:St} {H:Hp} {s:Shared} {l b:Addr} {xs ys zs:List V}
theorem Inv.lset {its its':List Value} {n:Nat} {f:Array Value→Array Value} {t':Nat} (I:Inv X pins σ H s) (hH:H l=some (.lst xs))
  (e:s.heap.get? l=some { cls:=.type "list",data:=.seq its.toArray n }) (hf:f its.toArray=its'.toArray) (hv:Vals ys its') (hz:ys.length≤sizeLine) :
  Inv X pins σ (upd H l (.lst ys)) { s with heap:=s.heap.update l (Obj.mapSeq f),toks:=t' }:=by
 have q:=PySem.IsL.update e f
 rw [hf] at q
 refine I.write (x:=l) (e:=l) (by rw [hH];exact trivial) (.inl rfl) (fun b' u hb hu=>(Heap.get?_update_other s.heap (Obj.mapSeq f) (Ne.symm hb)).trans hu) ⟨_,q⟩ ?_
 exact ⟨hz,its',_,hv,q⟩
theorem Inv.lnew {its:List Value} {t':Nat} (I:Inv X pins σ H s) (hv:Vals ys its) (hz:ys.length≤sizeLine) :
  Inv X pins σ (upd H s.heap.objs.size (.lst ys)) { s with heap:=s.heap.push { cls:=.type "list",data:=.seq its.toArray },toks:=t' }:=
 I.laid (fun _ _ q=>Heap.get?_push_of_some _ q) (Nat.le_refl _) ⟨hz,its,0,hv,Heap.get?_push_size _ rfl⟩
theorem Inv.fresh (I:Inv X pins σ H s):H s.heap.objs.size=none:=I.hok.fresh (Nat.le_refl _)
theorem Inv.aJp (I:Inv X pins σ H s) (hH:H l=some (.lst xs)):xs.length≤sizeLine∧∃(its:List Value) (n:Nat),Vals xs its∧xs.length=its.length∧s.heap.get? l=some { cls:=.type "list",data:=.seq its.toArray n }:=by
 obtain ⟨z,its,n,r,e⟩:=I.hok l _ hH
 exact ⟨z,its,n,r,r.length,e⟩
theorem aNo {n:Nat} (h:n≤sizeLine):Builtin.List.listTooLong n=false:=by
 unfold Builtin.List.listTooLong
 exact decide_eq_false (by omega)
end
section
variable {X:Cx}
def aEp:V→List V→Hp→VK→Prop:=fun x vs H Q=>∃l xs y,x=.ref l∧vs=[y]∧H l=some (.lst xs)∧xs.length<sizeLine∧Q .non (upd H l (.lst (xs++[y])))
theorem wK:MtM X "list.append" aEp:=by
 intro pins s σ H x vs v us Q I rx rv h
 obtain ⟨l,xs,y,rfl,rfl,hH,hz,q⟩:=h
 cases rx
 obtain ⟨u,rfl,ru⟩:=rv.one
 obtain ⟨z,its,n,r,hl,e⟩:=I.aJp hH
 refine call_meets F.slot_list_append ⟨_,e,rfl⟩ F.entry_list_append (F.args_list_append_2 _ _) (PySem.list_append l its.toArray n u (by rw [List.size_toArray];omega)) ⟨e,?_⟩
 refine ⟨.non,_,I.lset (its':=its++[u]) hH e (by simp) (r.append (.cons ru .nil)) ?_,rfl,q⟩
 rw [List.length_append,List.length_singleton]
 omega
def aJw:V→List V→Hp→VK→Prop:=fun x vs H Q=>∃l b xs zs,x=.ref l∧vs=[.ref b]∧H l=some (.lst xs)∧H b=some (.lst zs)∧xs.length+zs.length≤sizeLine∧Q .non (upd H l (.lst (xs++zs)))
theorem aMq:MtM X "list.extend" aJw:=by
 intro pins s σ H x vs v us Q I rx rv h
 obtain ⟨l,b,xs,zs,rfl,rfl,hH,hB,hz,q⟩:=h
 cases rx
 obtain ⟨u,rfl,ru⟩:=rv.one
 cases ru
 obtain ⟨z,its,n,r,hl,e⟩:=I.aJp hH
 obtain ⟨z2,its2,n2,r2,hl2,e2⟩:=I.aJp hB
 have hsz:its.toArray.size+its2.toArray.size≤sizeLine:=by rw [List.size_toArray,List.size_toArray];omega
 have hlong:¬ (!its.toArray.isEmpty && Builtin.List.listTooLong (its.toArray.size+its2.toArray.size))=true:=by
  rw [aNo hsz,Bool.and_false]
  exact Bool.false_ne_true
 refine call_meets F.slot_list_extend ⟨_,e,rfl⟩ F.entry_list_extend (F.args_list_extend_2 _ _)
  (AutoSeq1.list_extend_list_list_0 l its.toArray n b its2.toArray n2 hlong (by rw [List.size_toArray];omega) (by omega)) ⟨e,e2,?_⟩
 refine ⟨.non,_,I.lset (its':=its++its2) hH e (by simp) (r.append r2) ?_,rfl,q⟩
 rw [List.length_append]
 omega
def aXd:V→List V→Hp→VK→Prop:=fun x vs H Q=>∃l xs y,x=.ref l∧vs=[]∧H l=some (.lst xs)∧xs[xs.length - 1]?=some y∧Q y (upd H l (.lst xs.dropLast))
theorem aUl:MtM X "list.pop" aXd:=by
 intro pins s σ H x vs v us Q I rx rv h
 obtain ⟨l,xs,y,rfl,rfl,hH,hy,q⟩:=h
 cases rx
 have hus:=rv.zero
 subst hus
 obtain ⟨z,its,n,r,hl,e⟩:=I.aJp hH
 obtain ⟨u,hu,ru⟩:=r.get hy
 have hy':its.toArray[its.toArray.size - 1]?=some u:=by
  show its.toArray[its.length - 1]?=some u
  rw [←Array.getElem?_toList,←hl]
  exact hu
 refine call_meets F.slot_list_pop ⟨_,e,rfl⟩ F.entry_list_pop (F.args_list_pop_1 _) (MeetsSeq.list_pop_last l its.toArray n u hy' (by rw [List.size_toArray];omega)) ⟨e,?_⟩
 refine ⟨y,_,I.lset (its':=its.dropLast) hH e ?_ r.dropLast ?_,ru,q⟩
 ·show its.toArray.eraseIdxIfInBounds (its.toArray.size - 1)=its.dropLast.toArray
  rw [List.size_toArray,List.eraseIdxIfInBounds_toArray,aHr]
 ·rw [List.length_dropLast]
  omega
def aGr:V→List V→Hp→VK→Prop:=fun x vs H Q=>∃l xs,x=.ref l∧vs=[]∧H l=some (.lst xs)∧Q .non (upd H l (.lst xs.reverse))
theorem aJq:MtM X "list.reverse" aGr:=by
 intro pins s σ H x vs v us Q I rx rv h
 obtain ⟨l,xs,rfl,rfl,hH,q⟩:=h
 cases rx
 have hus:=rv.zero
 subst hus
 obtain ⟨z,its,n,r,hl,e⟩:=I.aJp hH
 refine call_meets F.slot_list_reverse ⟨_,e,rfl⟩ F.entry_list_reverse (F.args_list_reverse_1 _) (AutoSeq1.list_reverse_list_0 l its.toArray n (by rw [List.size_toArray];omega)) ⟨e,?_⟩
 refine ⟨.non,_,I.lset (its':=its.reverse) hH e (by simp) r.reverse ?_,rfl,q⟩
 rw [List.length_reverse]
 omega
def aYm:R2:=fun x y H Q=>∃l b xs zs,x=.ref l∧y=.ref b∧H l=some (.lst xs)∧H b=some (.lst zs)∧xs.length+zs.length≤sizeLine∧∀p,H p=none→Q (.ref p) (upd H p (.lst (xs++zs)))
theorem aT7:OpR X (binaryOp .Add) aYm:=by
 intro pins s σ H x y v u Q I rx ry h
 obtain ⟨l,b,xs,zs,rfl,rfl,hH,hB,hz,q⟩:=h
 cases rx
 cases ry
 obtain ⟨z,its,n,r,hl,e⟩:=I.aJp hH
 obtain ⟨z2,its2,n2,r2,hl2,e2⟩:=I.aJp hB
 refine PySem.P.add_list e e2 ?_ (by rw [List.size_toArray,List.size_toArray];omega)
 have ea:its.toArray++its2.toArray=(its++its2).toArray:=by simp
 rw [ea]
 exact ⟨.ref _,_,I.lnew (t':=s.toks) (r.append r2) (by rw [List.length_append];omega),rfl,q _ I.fresh⟩
theorem len_rep {α:Type} (xs:List α) (k:Nat):(List.replicate k xs).flatten.length=k * xs.length:=by
 induction k with
 |zero=>simp
 |succ k ih=>rw [List.replicate_succ,List.flatten_cons,List.length_append,ih,Nat.succ_mul,Nat.add_comm]
end
section
variable {prog:Program} {w:World} {A:Around} {E:Value→Shared→Prop} {s:Shared}
end
section
variable {X:Cx}
end
end L2
namespace Att
open PySem PySem.W PySem.Calls PyProof.Rows
theorem xO {P:Params} {h:Heap}:∀(ns:List Int) (vs:List Value),WellAll P h vs (ns.map WData.int)→IntsAre vs ns:=by
 intro ns
 induction ns with
 |nil=>
  intro vs w
  rw [List.map_nil] at w
  cases w
  exact .nil
 |cons n ns ih=>
  intro vs w
  rw [List.map_cons] at w
  cases w with
  |cons a b=>
   cases a
   exact .cons _ _ (ih _ b)
theorem aLs {l:OpenLaw} {n:Nat} (hn:l.most=some n) {P:Params} {h:Heap} {args:List WData} {vals:List Value}
  (hpre:l.row.toRowW.claim.pre args=true) (hwl:WellAll P h vals args) :
  ∃a vs ns,vals=[Value.ref a]∧args=[WData.list (ns.map WData.int)]∧h.get? a=some { cls:=.type "list",data:=.seq vs.toArray }∧IntsAre vs ns∧ns.length≤n:=by
 have hsh:WShape.hasAll [] args [.list .int]=true:=(pre_splitW hpre).1
 have hc:l.pre.holds [] { args:=args }=true:=(pre_splitW hpre).2
 obtain ⟨d,r,rfl,h1,h2⟩:=hasAllW_cons hsh
 obtain rfl:=hasAllW_nil h2
 obtain ⟨xs,rfl,h3⟩:=hasW_list h1
 obtain ⟨ns,rfl⟩:=items_int h3
 have hlen:ns.length≤n:=by
  unfold OpenLaw.pre at hc
  have h4:(WTm.not (.lt (.lit (.int (n:Int))) (.len (.arg 0)))).holds [] { args:=[.list (ns.map .int)] }=true:=by
   have h4:=(holds_andW hc).1
   rw [hn] at h4
   exact h4
  have h5:=condW_of h4 (w_not (w_lt w_lit (w_len_list (w_arg rfl))))
  rw [List.length_map] at h5
  refine Nat.le_of_not_lt fun q=>?_
  have q':(n:Int)<((ns.length:Nat):Int):=by omega
  first
   |(rw [decide_eq_true q'] at h5;exact absurd h5 (by decide))
   |(simp at h5;omega)
 cases hwl with
 |cons w1 w2=>
  cases w2
  cases w1 with
  |list ho hall=>exact ⟨_,_,ns,rfl,rfl,ho,xO ns _ hall,hlen⟩
theorem aLj (l:OpenLaw) (args:List WData):l.row.toRowW.claim.post args (.bool true) args=true:=
 postW_of (r:=l.row.toRowW) (X:=(true == true))
  (show WShape.has [] (.bool true) .bool=true by first|rfl|decide|simp [WShape.has,WShape.arms,WShape.armsAll])
  (show (WTm.eq .res (.lit (.bool true))).value [] { args:=args,res:=some (.bool true),after:=args }=some (.bool (true == true)) from w_eq_bool (w_res rfl) w_lit) rfl
theorem aFf {l:OpenLaw} {n:Nat} {q:Program} {loose:List Str} {XP:(Str→Option Value)→Heap→Prop} {YP:World→Heap→Prop} {d:DefRec}
  (hn:l.most=some n) (hdf:d.params.defaults=[])
  (call:∀(w:World) (s₀ s₁:Shared) (mg mb:Str→Option Value) (fa:Addr) (o:Obj) (pm cd doc:Value) (a:Addr) (vs:List Value) (ns:List Int),
   Ground q loose [] XP w s₀ mg mb s₁.heap→YP w s₁.heap →
   s₁.heap.get? fa=some o→o.data=.func (docDef d.name d.params d.body d.scope pm cd doc)→s₁.heap.CodeRec cd d.name→mg d.name=some (.ref fa) →
   s₁.heap.get? a=some { cls:=.type "list",data:=.seq vs.toArray }→IntsAre vs ns→ns.length≤n→s₁.gens=#[] →
   codeAny (model l.prog w) callerA (.call (.ref fa) ⟨[.ref a],[]⟩) (fun r s'=>r=.ok (.ret (.bool true))∧OldK s₁.heap s'.heap∧s'.os=s₁.os∧AllBare s'.gens) s₁) :
  WalkO q loose XP YP l.row.toRowW d [] (fun f vs=>PySem.call f vs):=by
 intro w s₀ s₁ mg mb G Y fa o pm cd doc dV kV ho hd hcd hD hmg hg args vals as hpre hlay hrd hwl hlo
 obtain rfl:dV=.none:=Dflts.none hD hdf
 obtain rfl:kV=.none:=Dflts.noKw hD
 obtain ⟨a,vs,ns,rfl,rfl,hobj,hints,hlen⟩:=aLs hn hpre hwl
 refine enter_call (codeAny_mono (call w s₀ s₁ mg mb fa o pm cd doc a vs ns G Y ho (fd_plain hd) hcd hmg hobj hints hlen hg) fun r s' hq=>?_)
 obtain ⟨rfl,h2,h3,h4⟩:=hq
 exact ⟨.inl ⟨.bool true,.bool true,[],rfl,fun _=>rfl,.bool true,aLj l _,fun _=>⟨List.Pairwise.nil,fun _ hm=>(nomatch hm)⟩⟩,h2,h3,h4⟩
section
variable {prog:Program} {w:World} {A:Around} {E:Value→Shared→Prop} {s:Shared} {K:Frag}
end
end Att
namespace L2
open PySem PySem.Spec PyProof.Rows
theorem aCe:∀{vs:List Value} {ns:List Int},IntsAre vs ns→Vals (ns.map V.int) vs
 |_,_,.nil=>.nil
 |_,_,.cons n t h=>.cons ⟨t,rfl⟩ (aCe h)
def Only (H:Hp):Prop:=∀b,H b=none∨∃o xs,H b=some (.frz o (.lst xs))
theorem aOk {P:Program} {w:World} {K:PySem.W.Frag} {mg mb:Str→Option Value} {CX:CXT} {k:Nat} {fa a:Addr} {fd:FuncData} {x:Str} {sp:Sp} {s₁:Shared} {vs:List Value} {ns:List Int}
  (KX:K.In s₁.heap) (hns:s₁.heap.Ns mainGlobals mg) (hb:s₁.heap.Ns builtinsNs mb) (hbb:∀x:Str,x≠"__name__"→mb x=bootBuiltins x) (hlim:s₁.heap.NoLimit) (hg:s₁.gens=#[])
  (ha:s₁.heap.get? a=some { cls:=.type "list",data:=.seq vs.toArray }) (hi:IntsAre vs ns) (hl:ns.length≤sizeLine) (hr:Room k callerA)
  (F:∀base:Heap,K.In base→base.Ns mainGlobals mg→jA P w K mg base CX k fa fd [x] sp) (hbind:∀(s:Shared) (u:Value),BindsTo s fd ⟨[u],[]⟩ [(x,u)])
  (hsp:∀H:Hp,Only H→SqL K H a (ns.map V.int)→sp [.ref a] H (fun v _=>v=.bl true) fun _ _ _=>False)
  (hCX:∀H e s',CX [] H s₁ (fun _ _ _=>False) e s'→False) :
  codeAny (model P w) callerA (.call (.ref fa) ⟨[.ref a],[]⟩) (fun r s'=>r=.ok (.ret (.bool true))∧OldK s₁.heap s'.heap∧s'.os=s₁.os∧AllBare s'.gens) s₁:=by
 have rv:=aCe hi
 have lenV:=hi.length
 have core:∀H:Hp,Only H→SqL K H a (ns.map V.int)→HOk P w H s₁.heap→(∀b,H b≠none→b=a)→(H a≠none→K.lookup a=none) →
   codeAny (model P w) callerA (.call (.ref fa) ⟨[.ref a],[]⟩) (fun r s'=>r=.ok (.ret (.bool true))∧OldK s₁.heap s'.heap∧s'.os=s₁.os∧AllBare s'.gens) s₁:=by
  intro H hO hS hok hA hK
  have base_of:∀{b:Addr} {o:Obj},s₁.heap.get? b=some o→H b=none→(aDx s₁.heap H).get? b=some o:=fun e n=>aO6 e n
  have noA:∀{b:Addr} {o:Obj} {es:Array DictEntry} {ep:Nat},s₁.heap.get? b=some o→o.data=.dict es ep→H b=none:=fun {b o es ep} e d=>by
   cases q:H b with
   |none=>rfl
   |some u=>
    have e':b=a:=hA b (by rw [q];simp)
    subst e'
    rw [ha] at e;cases e
    have d':Data.seq vs.toArray _=Data.dict es ep:=d
    cases d'
  have nsK:∀{b:Addr} {m:Str→Option Value},s₁.heap.Ns b m→(aDx s₁.heap H).Ns b m:=fun {b m} ⟨o,es,ep,e,d,r⟩=>⟨o,es,ep,base_of e (noA e d),d,r⟩
  have hKb:K.In (aDx s₁.heap H):=fun b o e=>base_of (KX b o e) (by
   cases q:H b with
   |none=>rfl
   |some u=>
    have e':b=a:=hA b (by rw [q];simp)
    subst e'
    rw [hK (by rw [q];simp)] at e;cases e)
  have hM:Mod K mg (aDx s₁.heap H):=⟨hKb,nsK hns,⟨mb,nsK hb,hbb⟩,let ⟨mc,h1,h2⟩:=hlim;⟨mc,nsK h1,h2⟩⟩
  have e0:aIn P w K mg (aDx s₁.heap H) callerA [] s₁ H:=⟨rfl,hM,fun b o e=>aSg e,Nat.le_of_eq (aLn _ _),trivial,fun b hb=>absurd (show b∈([]:List Addr) from hb) (by simp),hok,.of_eq hg⟩
  refine codeAny_mono ((F _ hKb (nsK hns)).run callerA [] s₁ H ⟨[.ref a],[]⟩ [.ref a] [.ref a] _ _ hr e0 (hbind s₁ (.ref a)) (.cons rfl .nil) (hsp H hO hS)) fun r s' h=>?_
  cases r with
  |error e=>exact (hCX H e s' h).elim
  |ok fl=>
   cases fl with
   |next=>exact False.elim h
   |brk=>exact False.elim h
   |cont=>exact False.elim h
   |ret u=>
    obtain ⟨v,H',os,bare,un,hok',r',q⟩:=h
    have q':v=.bl true:=q
    subst q'
    obtain rfl:u=Value.bool true:=r'
    refine ⟨rfl,OldK.of_keep fun b o e=>?_,os,bare⟩
    cases q:H b with
    |none=>exact un.keep b o e q (by intro z;exact absurd (show b∈([]:List Addr) from z) (by simp)) (by simp)
    |some u=>
     rcases hO b with z|⟨ob,xs,z⟩
     ·rw [q] at z;cases z
     ·have z2:=un.frzs b ob _ z
      obtain ⟨e1,_⟩:=hok b _ z
      obtain ⟨e2,_⟩:=hok' b _ z2
      rw [e] at e1;cases e1
      exact e2
 cases hk:K.lookup a with
 |some o=>
  have e:=KX a o hk
  rw [ha] at e
  cases e
  refine core (fun _=>none) (fun _=>.inl rfl) (.inr ⟨_,vs.toArray,_,hk,rfl,rfl,rfl,by rw [List.size_toArray,lenV];exact hl,by simpa using rv⟩) (fun b u z=>by have z':(none:Option HO)=some u:=z;cases z') (fun b z=>absurd rfl z) fun z=>absurd rfl z
 |none=>
  refine core (fun b=>if b=a then some (.frz { cls:=.type "list",data:=.seq vs.toArray } (.lst (ns.map V.int))) else none) (fun b=>?_) (.inl (.inr ⟨{ cls:=.type "list",data:=.seq vs.toArray },if_pos rfl⟩)) (fun b u z=>?_) (fun b z=>?_) fun _=>hk
  ·by_cases hb:b=a
   ·exact .inr ⟨_,_,if_pos hb⟩
   ·exact .inl (if_neg hb)
  ·by_cases hb:b=a
   ·have z':=(if_pos hb).symm.trans z
    cases z'
    subst hb
    exact ⟨ha,by rw [List.length_map];exact hl,vs,_,rv,ha⟩
   ·have z':=(if_neg hb).symm.trans z
    cases z'
  ·by_cases hb:b=a
   ·exact hb
   ·exact absurd (if_neg hb) z
abbrev KOf {K:PySem.W.Frag} {h:Heap} (_:K.In h):PySem.W.Frag:=K
theorem aRr {l:PySem.W.OpenLaw} {n k:Nat} {q:Program} {loose:List Str} {XP:(Str→Option Value)→Heap→Prop} {YP:World→Heap→Prop} {d:DefRec} {K:Params→PySem.W.Frag} {CX:World→CXT} {sp:World→Sp} {x:Str}
  (hn:l.most=some n) (hn2:n≤sizeLine) (hdf:d.params.defaults=[]) (hr:Room k callerA)
  (hY:∀(w:World) (h:Heap),YP w h→(K w.params).In h)
  (F:∀(w:World) (mg:Str→Option Value) (fa:Addr) (h:Heap),(K w.params).In h→h.Ns mainGlobals mg→mg d.name=some (.ref fa) →
   ∃fd:FuncData,(∀(s:Shared) (u:Value),BindsTo s fd ⟨[u],[]⟩ [(x,u)]) ∧
    ∀base:Heap,(K w.params).In base→base.Ns mainGlobals mg→jA l.prog w (K w.params) mg base (CX w) k fa fd [x] (sp w))
  (hsp:∀(w:World) (H:Hp) (a:Addr) (ns:List Int),ns.length≤n→Only H→SqL (K w.params) H a (ns.map V.int)→sp w [.ref a] H (fun v _=>v=.bl true) fun _ _ _=>False)
  (hCX:∀(w:World) (H:Hp) (s:Shared) (e:Value) (s':Shared),CX w [] H s (fun _ _ _=>False) e s'→False) :
  PySem.W.WalkO q loose XP YP l.row.toRowW d [] (fun f vs=>PySem.call f vs):=by
 refine Att.aFf hn hdf fun w s₀ s₁ mg mb fa o pm cd doc a vs ns G Y ho hd hcd hmg hobj hints hlen hg=>?_
 have KX:=hY w _ Y
 obtain ⟨fd,hb,hF⟩:=F w mg fa _ KX G.T.g hmg
 exact aOk KX G.T.g G.T.b G.T.builtins G.T.nolimit hg hobj hints (Nat.le_trans hlen hn2) hr hF hb (fun H hO hS=>hsp w H a ns hlen hO hS) fun H e s'=>hCX w H s₁ e s'
theorem aPi {l:PySem.W.OpenLaw} {n k:Nat} {q:Program} {loose:List Str} {XP:(Str→Option Value)→Heap→Prop} {YP:World→Heap→Prop} {d:DefRec} {K:Params→PySem.W.Frag} {CX:CXT} {sp:PySem.W.Frag→Sp} {x:Str}
  (hn:l.most=some n) (hn2:n≤sizeLine) (hdf:d.params.defaults=[]) (hr:Room k callerA)
  (hY:∀(w:World) (h:Heap),YP w h→(K w.params).In h)
  (F:∀(w:World) (mg:Str→Option Value) (fa:Addr) (h:Heap),(K w.params).In h→h.Ns mainGlobals mg→mg d.name=some (.ref fa) →
   ∃fd:FuncData,(∀(s:Shared) (u:Value),BindsTo s fd ⟨[u],[]⟩ [(x,u)]) ∧
    ∀base:Heap,(K w.params).In base→base.Ns mainGlobals mg→jA l.prog w (K w.params) mg base CX k fa fd [x] (sp (K w.params)))
  (hsp:∀(K:PySem.W.Frag) (H:Hp) (a:Addr) (ns:List Int),ns.length≤n→Only H→SqL K H a (ns.map V.int)→sp K [.ref a] H (fun v _=>v=.bl true) fun _ _ _=>False)
  (hCX:∀(H:Hp) (s:Shared) (e:Value) (s':Shared),CX [] H s (fun _ _ _=>False) e s'→False) :
  PySem.W.WalkO q loose XP YP l.row.toRowW d [] (fun f vs=>PySem.call f vs):=
 aRr (K:=K) (CX:=fun _=>CX) (sp:=fun w=>sp (K w.params)) hn hn2 hdf hr hY F (fun w H a ns h1 h2 h3=>hsp (K w.params) H a ns h1 h2 h3) fun _ H s e s'=>hCX H s e s'
def inClass (s:Stmt) (j:Nat):Stmt:=match s with
 |.ClassDef _ _ _ body _ _ _ _ _ _ _=>body.getD j (.Pass ⟨0,0,0,0⟩)
 |_=>.Pass ⟨0,0,0,0⟩
def nJ (s:Stmt):Arguments:=match s with
 |.FunctionDef _ a _ _ _ _ _ _ _ _=>a
 |_=>{ posonlyargs:=[],args:=[],vararg:=none,kwonlyargs:=[],kw_defaults:=[],kwarg:=none,defaults:=[] }
def fX (s:Stmt):List Stmt:=match s with
 |.FunctionDef _ _ b _ _ _ _ _ _ _=>b
 |_=>[]
def aK (s:Stmt):Scope:=match s with
 |.FunctionDef _ _ _ _ _ _ sc _ _ _=>sc
 |_=>{ kind:=.function,names:=[],isGenerator:=false,isCoroutine:=false }
abbrev CX0:CXT:=fun _ _ _ _ _ _=>False
abbrev E0:XK:=fun _ _ _=>False
theorem aKi {X:Cx}:rH CX0 X E0:=fun _ _ _ _ _ _ _ h=>h.elim
structure Fun (K:PySem.W.Frag) (x qual:Str) (st:Stmt) (f:Addr) (fd:FuncData):Prop where
 ex:∃(oc:Value) (od:Option Addr) (kV doc pm:Value) (an:Option Addr) (cdv ct:Value) (osl:Array (Option Value)),
  fd=PySem.W.fnOf x qual (nJ st) (fX st) (aK st) .none kV doc pm an cdv ct∧K.lookup f=some ⟨oc,od,.func fd,osl⟩∧PySem.W.codeIn K cdv qual=true
 kp:PySem.W.keepIn K (.ref f)=true
section
variable {P:Program} {w:World} {K:PySem.W.Frag} {mg:Str→Option Value} {base:Heap}
theorem Fun.ok {x qual:Str} {st:Stmt} {f:Addr} {fd:FuncData} {N ps:List Str} {k:Nat} {sp:Sp} (F:Fun K x qual st f fd) (S:aW N ps (aK st)) (len:∀vs H Q E,sp vs H Q E→vs.length=ps.length)
  (hbody:∀(cdv:Value) (A:Around) (outer:List Env) (s:Shared) (H:Hp) (vs:List V) (Q:VK) (E:XK),Room k (A.deeper (envOfC qual (aK st) s.heap.objs.size f cdv))→sp vs H Q E →
   ∃t,PSs (wB CX0 P w K mg base N qual (aK st) f cdv A outer s H E).nox (fX st) t∧t { nx:=fun _ H'=>Q .non H',rt:=Q } (start N vs) H):jA P w K mg base CX0 (k+1) f fd ps sp:=by
 obtain ⟨oc,od,kV,doc,pm,an,cdv,ct,osl,rfl,lk,hcd⟩:=F.ex
 refine aSu lk hcd S len fun A outer s H vs Q E hr hsp=>?_
 obtain ⟨t,h,q⟩:=hbody cdv A outer s H vs Q E hr hsp
 exact ⟨t,h.nox,q⟩
theorem Fun.binds {x qual:Str} {st:Stmt} {f:Addr} {fd:FuncData} {ps:List Str} (F:Fun K x qual st f fd)
  (h:∀(kV doc pm:Value) (an:Option Addr) (cdv ct:Value) (us:List Value),us.length=ps.length→bindArgs (PySem.W.fnOf x qual (nJ st) (fX st) (aK st) .none kV doc pm an cdv ct) ⟨us,[]⟩=pure (ps.zip us)):Binds K fd ps []:=by
 obtain ⟨oc,od,kV,doc,pm,an,cdv,ct,osl,rfl,lk,hcd⟩:=F.ex
 exact .all (h kV doc pm an cdv ct)
theorem aD1 {x qual:Str} {st:Stmt} {f:Addr} {oc:Value} {od an:Option Addr} {osl:Array (Option Value)} {kV doc pm cdv ct:Value} (l:K.lookup f=some ⟨oc,od,.func (PySem.W.fnOf x qual (nJ st) (fX st) (aK st) .none kV doc pm an cdv ct),osl⟩)
  (c:PySem.W.codeIn K cdv qual=true) (k:PySem.W.keepIn K (.ref f)=true):Fun K x qual st f (PySem.W.fnOf x qual (nJ st) (fX st) (aK st) .none kV doc pm an cdv ct):=⟨⟨oc,od,kV,doc,pm,an,cdv,ct,osl,rfl,l,c⟩,k⟩
end
theorem aB9 {A:Around} {k:Nat} (hr:Room k A):A.units+1<cLine:=Nat.lt_of_le_of_lt (Nat.add_le_add_left (by decide:1≤64) _) hr.units
theorem fL {n:Nat} (h:n≤1000):n<sizeLine:=Nat.lt_of_le_of_lt h (by decide)
section
variable {X:Cx}
theorem pv (i:Nat) {x:Str} {pos:Pos} (hN:X.N[i]?=some x:=by rfl) (hv:Vis X.env.scope x:=by trivial) (hd:(x == ("__debug__":Str))=false:=by decide)
  (hcd:(x == ("__classdict__":Str))=false:=by decide):PE X (.Name x pos) (fQ i):=aUd hN hv hd hcd
end
theorem cI {A B:Prop} (h:B):if false=true then A else B:=by
 rw [if_neg Bool.false_ne_true]
 exact h
theorem cY {A B:Prop} (h:A):if true=true then A else B:=by
 rw [if_pos rfl]
 exact h
theorem mK {c A B:Prop} [Decidable c] (h1:c→A) (h2:¬ c→B):if c then A else B:=by
 by_cases h:c
 ·rw [if_pos h]
  exact h1 h
 ·rw [if_neg h]
  exact h2 h
def Same (H H':Hp):Prop:=∀b o,H b=some o→H' b=some o
theorem Same.refl (H:Hp):Same H H:=fun _ _ h=>h
theorem Same.trans {H H1 H2:Hp} (a:Same H H1) (b:Same H1 H2):Same H H2:=fun c o h=>b c o (a c o h)
theorem Same.free {H H':Hp} (e:Same H H') {l:Addr} (h:H' l=Option.none):H l=Option.none:=by
 cases q:H l with
 |none=>rfl
 |some o=>
  rw [e l o q] at h
  cases h
theorem Same.seq {K:PySem.W.Frag} {H H':Hp} {a:Addr} {xs:List V} (e:Same H H') (h:SqL K H a xs):SqL K H' a xs:=by
 rcases h with (h|⟨o,h⟩)|h
 ·exact .inl (.inl (e _ _ h))
 ·exact .inl (.inr ⟨o,e _ _ h⟩)
 ·exact .inr h
end L2
namespace PySem
open Sem (wp)
section
variable {M:Model} {prog:Program} {w:World} {A:Around} {E:Value→Shared→Prop} {R:Result→Shared→Prop} {h:Heap} {g:Array GenState} {d:Drawn} {t:Nat} {os:OsState}
variable {nm q:Str} {C N:Addr} {bs bm bmN:List Value} {hdct:Bool} {sn:List Str} {sub:List Value} {ab:Bool} {col:Option Bool} {dd:Option Addr} {k0 k1 k2 k3 k5:Option Value} {Bn newId inN:String}
theorem aE7 (Fn:ExcBaseFacts Bn newId inN bmN) (hBn:bm.contains (.type Bn)=true) {rest:List Value} {Q:Unit→Shared→Prop} (hC:h.get? C=some (excClassObj nm q C N bs bm hdct sn sub ab col dd k0 k1 k2 k3 k5 newId))
  (hq:Q () ⟨h,g,d,t,os⟩):wpAny M A (checkBuiltinCall newId ⟨.ref C::rest,[]⟩) Q E ⟨h,g,d,t,os⟩:=by
 have hcont:(Value.ref C::bm).contains (.type Bn)=true:=by rw [List.contains_cons,hBn,Bool.or_true]
 have hstar:=Fn.noStar
 simp only [checkBuiltinCall,Fn.newKind,Fn.newSplit,Fn.newRow]
 repeat (first|refine wpAny_loadPart_at hC ?_|(refine wpAny_isSubtype_exc hC ?_;rw [hcont])|refine wpAny_staticBase_exc hC ?_|refine wpAny_madeBy_exc hC ?_|simp only [bne_self_eq_false,Bool.false_eq_true,if_false]|wp_step)
 exact hq
theorem aWt (Fn:ExcBaseFacts Bn newId inN bmN) (hBn:bm.contains (.type Bn)=true) (hA:bm.contains (.type "AttributeError")=false) (hN:bm.contains (.type "NameError")=false) {rest:List Value} (hC:h.get? C=some (excClassObj nm q C N bs bm hdct sn sub ab col dd k0 k1 k2 k3 k5 newId))
  (hq:R (.ok (.ret (.ref (h.objs.size+1)))) ⟨(h.push { cls:=.type "tuple",data:=.seq rest.toArray }).push
   { cls:=.ref C,data:=.fields #[.ref h.objs.size,.none,.none,.none,.bool false,.none] },g,d,t,os⟩) (hrest:rest.length≤sizeLine:=by size_fits) :
  codeAny (model prog w) A (.builtin newId ⟨.ref C::rest,[]⟩) R ⟨h,g,d,t,os⟩:=by
 have hends:=Fn.ends
 have hcB:(Value.ref C::bm).contains (.type Bn)=true:=by rw [List.contains_cons,hBn,Bool.or_true]
 have hcA:(Value.ref C::bm).contains (.type "AttributeError")=false:=by rw [List.contains_cons,hA];rfl
 have hcN:(Value.ref C::bm).contains (.type "NameError")=false:=by rw [List.contains_cons,hN];rfl
 refine codeAny_builtinAt Fn.entry ?_
 unfold Builtin.«BaseException.__new__»
 refine wpAt_bind ?_
 show wpAt _ _ _ (stack >>= _) _ _ _
 refine wpAt_bind (wpAt_stack fun p below=>wpAt_of_wpAny ?_)
 wp_walk
 refine wpAt_of_wpAny ?_
 rw [Fn.owner]
 repeat (first|with_reducible refine wpAny_madeHere_exc Fn.canon hC ?_|with_reducible refine wpAny_loadPart_at hC ?_|(with_reducible refine wpAny_isSubtype_exc hC ?_;first|rw [hcB]|rw [hcA]|rw [hcN])|wp_step)
 show R _ _
 rw [Heap.size_push]
 exact hq
end
end PySem
namespace L2
open PySem PySem.Spec PyProof.Rows
def aA1:List Value→Bool
 |.ref _::r=>aA1 r
 |l=>l == [.type "ValueError",.type "Exception",.type "BaseException",.type "object"]
theorem vJ (self:Value):∀{l:List Value},aA1 l=true→refuseLoop self "__setattr__" l=pure ()
 |[],e=>absurd e (by decide)
 |.ref c::r,e=>by rw [refuseLoop_ref];exact vJ self e
 |.none::r,e|.bool _::r,e|.int _ _::r,e|.str _ _::r,e|.float _ _::r,e|.bytes _ _::r,e|.builtin _::r,e|.type _::r,e=>by
  have q:=beq_iff_eq.mp e
  rw [q];exact PySem.F.store_ValueError.passes self
structure XC (K:PySem.W.Frag) (C fI:Addr):Prop where
 at_:∃nm q N bs bm sn sub ab col dd k0 k1 k2 k3 k5,K.lookup C=some (excClassObj nm q C N bs bm true sn sub ab col dd k0 k1 k2 k3 k5 "ValueError.__new__")∧bm.contains (.type "ValueError")=true ∧
  bm.contains (.type "AttributeError")=false∧bm.contains (.type "NameError")=false∧bm.contains (.type "BaseException")=true
 init:PySem.W.findIn K (.ref C) "__init__"=some (some (.ref fI))
 fn:PySem.W.typeIn K (.ref fI)=some (.type "function")
 row:(PySem.W.clsIn K C).any (fun cd=>aA1 cd.mro && cd.hasDict)=true
 sa:PySem.W.findIn K (.ref C) "__setattr__"=some (some (.builtin "object.__setattr__"))
 ga:PySem.W.findIn K (.ref C) "__getattribute__"=some (some (.builtin "BaseException.__getattribute__"))
 hook:PySem.W.findIn K (.ref C) "__getattr__"=some none
 act:PySem.W.findIn K (.ref C) "act"=some none
 cls:PySem.W.findIn K (.ref C) "__class__"=some (some (.builtin "object.__class__"))
section
variable {prog:Program} {w:World} {A:Around} {E:Value→Shared→Prop} {h:Heap} {g:Array GenState} {d:Drawn} {t:Nat} {os:OsState} {K:PySem.W.Frag} {C fI:Addr}
theorem aFa (X:K.In h) (c:XC K C fI) {rest:List Value} {Q:Fin→Shared→Prop}
  (hq:∀h' e,Heap.MadeExcOf h h' e (.ref C) rest→e=h.objs.size+1→h'.get? h.objs.size=some { cls:=.type "tuple",data:=.seq rest.toArray } →
   wpAny (model prog w) A (call (.ref fI) (.ref e::rest)) (fun r s'=>r=.none∧Q (.done (.ret (.ref e))) s') E ⟨h',g,d,t,os⟩) (hrest:rest.length≤sizeLine) :
  wpAny (model prog w) A (Builtin.«type.__call__» ⟨.ref C::rest,[]⟩) Q E ⟨h,g,d,t,os⟩:=by
 obtain ⟨⟨nm,q,N,bs,bm,sn,sub,ab,col,dd,k0,k1,k2,k3,k5,lk,hB,hA,hN,hE⟩,hi,hf,_⟩:=c
 have hC:=X _ _ lk
 have F:=PySem.F.excBase_ValueError
 repeat (first|with_reducible refine wpAny_loadPart_at hC ?_|with_reducible refine wpAny_madeBy_exc hC ?_|wp_step)
 refine codeAny_call_builtin_code (Code.quiet_builtin _ F.quiet) (aE7 F hB hC ?_)
 refine aWt F hB hA hN hC ?_ hrest
 show wpAny _ _ _ _ _ _
 have kp:∀b o,h.get? b=some o→((h.push { cls:=.type "tuple",data:=.seq rest.toArray }).push { cls:=.ref C,data:=.fields #[.ref h.objs.size,.none,.none,.none,.bool false,.none] }).get? b=some o:=
  fun b o e=>Heap.get?_push_of_some _ (Heap.get?_push_of_some _ e)
 have hC₁:=kp _ _ hC
 have X₁:=X.keeps kp
 have hget:((h.push { cls:=.type "tuple",data:=.seq rest.toArray }).push
   { cls:=.ref C,data:=.fields #[.ref h.objs.size,.none,.none,.none,.bool false,.none] }).get? (h.objs.size+1)=some
   { cls:=.ref C,data:=.fields #[.ref h.objs.size,.none,.none,.none,.bool false,.none] }:=by heap_get
 have htup:((h.push { cls:=.type "tuple",data:=.seq rest.toArray }).push
   { cls:=.ref C,data:=.fields #[.ref h.objs.size,.none,.none,.none,.bool false,.none] }).get? h.objs.size=some { cls:=.type "tuple",data:=.seq rest.toArray }:=Heap.get?_push_of_some _ (Heap.get?_push_at rfl rfl)
 have hcC:(Value.ref C::bm).contains (.ref C)=true:=by simp
 unfold isInstance
 repeat (first|with_reducible refine wpAny_loadPart_at hget ?_|(with_reducible refine wpAny_isSubtype_exc hC₁ ?_;rw [hcC])|wp_step)
 show wpAny _ _ (typeLookup (.ref C) _) _ _ _
 refine (PySem.W.looks_findIn X₁ hi).at ?_
 refine wpAny_holding (wpAny_bind ?_)
 unfold bindSpecial
 refine wpAny_bind ((PySem.W.looks_typeIn X₁ hf).at ?_)
 rw [if_pos (by decide)]
 refine wpAny_pure (wpAny_bind (wpAny_mono (hq _ (h.objs.size+1) ⟨kp,Heap.get?_none_of_le (Nat.le_succ _),h.objs.size,hget,Heap.get?_none_of_le (Nat.le_refl _),htup⟩ rfl htup) (fun r s' hr=>?_) fun _ _ x=>x))
 obtain ⟨rfl,hQ⟩:=hr
 wp_walk
 exact hQ
theorem x_call (X:K.In h) (c:XC K C fI) {rest:List Value} {Q:Value→Shared→Prop}
  (hq:∀h' e,Heap.MadeExcOf h h' e (.ref C) rest→e=h.objs.size+1→h'.get? h.objs.size=some { cls:=.type "tuple",data:=.seq rest.toArray } →
   wpAny (model prog w) (A.under (.builtin "type.__call__" ⟨.ref C::rest,[]⟩)) (call (.ref fI) (.ref e::rest)) (fun r s'=>r=.none∧Q (.ref e) s') E ⟨h',g,d,t,os⟩) (hrest:rest.length≤sizeLine) :
  wpAny (model prog w) A (call (.ref C) rest) Q E ⟨h,g,d,t,os⟩:=by
 obtain ⟨nm,q,N,bs,bm,sn,sub,ab,col,dd,k0,k1,k2,k3,k5,lk,hB,hA,hN,hE⟩:=c.at_
 have hC:=X _ _ lk
 have f1:=tc_lookup
 have f2:=tc_bind (.ref C)
 have hT:(⟨h,g,d,t,os⟩:Shared).TypeIs (.ref C) "type":=⟨_,hC,rfl⟩
 refine wpAny_call (codeAny_of_tree ?_)
 show wpAny _ _ (callAny (.ref C) _) _ _ _
 repeat (any_goals (first|assumption|with_reducible refine wpAny_loadPart_at hC ?_|wp_step))
 refine ⟨rfl,?_⟩
 refine codeAny_call_builtin_at (Code.quiet_builtin _ (by decide +kernel)) entry_typeCall (wpAny_check_type_call_sub hC (aFa X c (fun h' e hm h1 h2=>?_) hrest))
 exact hq h' e hm h1 h2
end
def XO (e C:Addr) (d:Option Addr):HO:=.ext fun h=>∃vs:Array Value,h.get? e=some { cls:=.ref C,dict:=d,data:=.fields vs }∧vs.size=6∧vs[1]?=some .none
theorem XO.at {P:Program} {w:World} {H:Hp} {h:Heap} {e C:Addr} {d:Option Addr} (x:HOk P w H h) (q:H e=some (XO e C d)):∃vs:Array Value,h.get? e=some { cls:=.ref C,dict:=d,data:=.fields vs }∧vs.size=6∧vs[1]?=some .none:=(x e _ q).1
theorem XO.ok {P:Program} {w:World} {H:Hp} {h:Heap} {e C:Addr} {d:Option Addr} {vs:Array Value} (q:h.get? e=some { cls:=.ref C,dict:=d,data:=.fields vs }) (z:vs.size=6) (n:vs[1]?=some .none):fY P w H h e (XO e C d):=
 ⟨⟨vs,q,z,n⟩,⟨_,q⟩,fun h1 h2 ⟨us,a,b,c⟩ k=>⟨us,k _ a,b,c⟩⟩
theorem aR1 (K:PySem.W.Frag):PySem.W.findCls K (.type "ValueError") (.type "type") "__init__"=some (.val (.builtin "ValueError.__init__")):=
 show PySem.W.findCls [] (.type "ValueError") (.type "type") "__init__"=some (.val (.builtin "ValueError.__init__")) by kernel_rfl
section
variable {prog:Program} {w:World} {A:Around} {E:Value→Shared→Prop} {s:Shared} {K:PySem.W.Frag} {C fI e:Addr}
theorem aT8 (X:K.In s.heap) (c:XC K C fI) {dx:Option Addr} {vs:Array Value} {sl:Array (Option Value)} {rest:List Value} {Q:Value→Shared→Prop} (he:s.heap.get? e=some { cls:=.ref C,dict:=dx,data:=.fields vs,slots:=sl }) (hz:0<vs.size) {u0:Value} (h0:vs[0]?=some u0) (hr:rest.length≤sizeLine)
  (h:Q .none { s with heap:=(s.heap.push { cls:=.type "tuple",data:=.seq rest.toArray }).update e (Obj.mapFields (·.setIfInBounds 0 (.ref s.heap.objs.size))) }) :
  wpAny (model prog w) A (call (.builtin "ValueError.__init__") (.ref e::rest)) Q E s:=by
 obtain ⟨nm,q,N,bs,bm,sn,sub,ab,col,dd,k0,k1,k2,k3,k5,lk,hB,hA,hN,hE⟩:=c.at_
 have hC:=X _ _ lk
 have F:=PySem.F.excBase_ValueError
 obtain ⟨hp,g,d,t,os⟩:=s
 have hcB:(Value.ref C::bm).contains (.type "ValueError")=true:=by rw [List.contains_cons,hB,Bool.or_true]
 refine wpAny_call (codeAny_call_builtin F.init.plain F.initEntry ?_)
 have hshort:=F.noStar
 simp only [checkBuiltinCall,F.initKind,F.initSplit,F.initRow]
 repeat (first|with_reducible refine wpAny_loadPart_at he ?_|with_reducible refine wpAny_loadPart_at hC ?_|(with_reducible refine wpAny_isSubtype_exc hC ?_;rw [hcB])|wp_step)
 refine wpAny_onRaise ?_
 rw [show ∀(a b:String) (n:Nat),Bind.check ⟨.positional,"*","ValueError",.self,[⟨"args",.varPos,false⟩]⟩ a b n (List.map (fun x=>x.fst) ({ pos:=Value.ref e::rest }:Args).kw)=pure () from
  fun a b n=>check_star_args _ _ _ _ _ _]
 refine wpAny_pure ?_
 unfold Builtin.«BaseException.__init__» newTuple
 refine wpAny_bind (wpAny_newObj_type ?_ (by show rest.toArray.size≤sizeLine;rw [List.size_toArray];exact hr))
 have he₁:=Heap.get?_push_of_some (h:=hp) { cls:=.type "tuple",data:=.seq rest.toArray } he
 refine wpAny_bind ?_
 unfold Builtin.BaseException.bexcPut
 refine wpAny_bind (wpAny_field he₁ rfl h0 ?_)
 refine wpAny_bind (wpAny_setField he₁ rfl hz ?_)
 split
 ·exact wpAny_letGo (wpAny_pure h)
 ·exact wpAny_pure (wpAny_pure h)
end
end L2
namespace L2
open PySem PySem.Spec PyProof.Rows Builtin Builtin.ObjectAttr
section
variable {prog:Program} {w:World} {A:Around} {E:Value→Shared→Prop} {s:Shared} {K:PySem.W.Frag} {C fI e:Addr}
theorem aRs (X:K.In s.heap) (c:XC K C fI) {vs:Array Value} {v:Value} {Q:Unit→Shared→Prop} (he:s.heap.get? e=some { cls:=.ref C,data:=.fields vs })
  (hq:∀h' t',h'.get? e=some { cls:=.ref C,dict:=some s.heap.objs.size,data:=.fields vs }→h'.Ns1 s.heap.objs.size (fun y=>if y = "act" then some v else none) →
   (∀b o,b≠e→s.heap.get? b=some o→h'.get? b=some o)→Q () { s with heap:=h',toks:=t' }) :
  wpAny (model prog w) A (setAttr (.ref e) "act" v) Q E s:=by
 have I:PySem.W.InstAt s.heap e { cls:=.ref C,data:=.fields vs } C none:=⟨he,rfl,rfl,trivial⟩
 refine PySem.W.set_plain X I c.sa ?_
 obtain ⟨cd,hc,ho'⟩:=PySem.W.any_some c.row
 obtain ⟨ho,hd⟩:=Bool.and_eq_true_iff.mp ho'
 have SF:=PySem.F.store_object
 have SV:=PySem.F.store_ValueError
 have hm:PySem.W.Looks (model prog w) s.heap (mroOf (.ref C)) cd.mro:=(PySem.W.looks_clsIn X hc).andThen .now
 have hasO:∀{l:List Value},aA1 l=true→l.contains (.type "object")=true∧l.isEmpty=false:=by
  intro l
  induction l with
  |nil=>intro z;exact absurd z (by decide)
  |cons a r ih=>
   intro z
   refine ⟨?_,rfl⟩
   cases a with
   |ref x=>rw [List.contains_cons,(ih z).1,Bool.or_true]
   |_=>have q:=beq_iff_eq.mp z;rw [q];decide +kernel
 have sub:PySem.W.Looks (model prog w) s.heap (isInstance (.ref e) (.type "object")) true:=I.type.andThen (PySem.W.looks_mroIn X (by unfold PySem.W.mroIn;rw [hc,Option.bind_some,if_neg (by rw [(hasO ho).2];decide),(hasO ho).1]))
 refine codeAny_call_builtin SF.slot.plain SF.entry (@PySem.W.check_slot (model prog w) _ _ { s with toks:=s.toks+1 } "object.__setattr__" "object" "__setattr__" (.ref e) [.str "act" s.toks,v] [] _ SF.kind SF.split sub (SF.args (.ref e) (.str "act" s.toks) v) ?_)
 rw [PySem.W.osa_eq,refuse_eq]
 refine wpAny_bind (wpAny_bind (I.type _ _ _ _ (fun _ _ e=>e) (wpAny_bind (hm _ _ _ _ (fun _ _ e=>e) ?_))))
 rw [vJ _ ho]
 refine wpAny_pure (wpAny_bind (I.type _ _ _ _ (fun _ _ e=>e) (wpAny_bind (PySem.W.looks_findIn X c.act _ _ _ _ (fun _ _ e=>e) (wpAny_bind ?_)))))
 refine wpAny_pure ?_
 dsimp only
 obtain ⟨h,g,d,t,os⟩:=s
 dsimp only at *
 unfold storeInOwnDict
 have hxs:e≠h.objs.size:=Nat.ne_of_lt (Heap.lt_size he)
 have hx₁:(h.push { cls:=.type "dict",data:=.dict #[] }).get? e=some { cls:=.ref C,data:=.fields vs }:=Heap.get?_push_of_some _ he
 refine wpAny_bind (wpAny_pure (wpAny_bind ?_))
 unfold ownDictForStores instanceDict
 refine wpAny_bind (wpAny_loadPart he ?_)
 dsimp only
 refine wpAny_bind ((PySem.W.looks_clsIn X hc) _ _ _ _ (fun _ _ e=>e) ?_)
 rw [hd,if_neg (by decide),if_neg (by simp [typeHasDict])]
 refine wpAny_bind (wpAny_alloc' ?_)
 refine wpAny_bind (wpAny_update' hx₁ ?_)
 refine wpAny_pure ?_
 have hgd:((h.push { cls:=.type "dict",data:=.dict #[] }).update e fun o=>{ cls:=o.cls,dict:=some h.objs.size,data:=o.data,slots:=o.slots }).get? h.objs.size
   = some { cls:=.type "dict",data:=.dict #[] }:=
  (Heap.get?_update_ne _ _ _ _ hxs.symm).trans (Heap.get?_push_at rfl rfl)
 have hnd:((h.push { cls:=.type "dict",data:=.dict #[] }).update e fun o=>{ cls:=o.cls,dict:=some h.objs.size,data:=o.data,slots:=o.slots }).Ns h.objs.size (fun _=>none):=
  ⟨_,#[],_,hgd,rfl,fun e he=>absurd he (by simp),fun _=>rfl⟩
 show wpAny _ _ (storeInDict h.objs.size (.str "act" _) "act" v) _ _ _
 unfold storeInDict newKeyGuard
 refine wpAny_bind (wpAny_pure (wpAny_bind (wpAny_nsSet1 (Heap.Ns1.of_empty hnd) fun h' hn' hs=>?_)))
 obtain ⟨oD,esD,epD,hoD,hdD,hcD⟩:=hn'.count (Within.cons "act" v Within.nil)
 refine wpAny_bind (wpAny_lookBehind hoD (by rw [hdD];exact pastItsLine_dict (Nat.le_trans hcD (by rw [List.length_cons,List.length_nil,sizeLine_eq];omega))) ?_)
 refine wpAny_pure ?_
 refine hq h' _ ?_ hn' fun b ob hbx hb=>(hs.2 b (Nat.ne_of_lt (Heap.lt_size hb))).trans ((Heap.get?_update_ne _ _ _ _ hbx).trans (Heap.get?_push_of_some _ hb))
 exact (hs.2 e hxs).trans (Heap.get?_update_self _ hx₁ rfl)
theorem x_load (X:K.In s.heap) (c:XC K C fI) {vs:Array Value} {dx:Addr} {v:Value} {mA:Str→Option Value} {expr:Bool} {Q:Value→Shared→Prop} (he:s.heap.get? e=some { cls:=.ref C,dict:=some dx,data:=.fields vs })
  (hn:s.heap.Ns1 dx mA) (hv:mA "act"=some v) (hh:PySem.W.handedIn v=true) (hq:Q v { s with toks:=s.toks+1 }) :
  wpAny (model prog w) A (getAttr (.ref e) "act" expr) Q E s:=by
 obtain ⟨cd,hc,ho'⟩:=PySem.W.any_some c.row
 obtain ⟨ho,hd⟩:=Bool.and_eq_true_iff.mp ho'
 obtain ⟨h,g,d,t,os⟩:=s
 have hx2:(Value.builtin "BaseException.__getattribute__" == Value.builtin "object.__getattribute__")=false:=by decide +kernel
 have T:PySem.W.Looks (model prog w) h (typeOf (.ref e)) (.ref C):=(PySem.W.Looks.ld he).andThen .now
 unfold getAttr
 refine wpAny_bind (wpAny_mkText ?_)
 unfold getAttrBy
 refine wpAny_holding (wpAny_bind (T.at (wpAny_bind ((PySem.W.looks_findIn X c.ga).at ?_))))
 dsimp only
 rw [show (onTheHeap (Value.ref C) && Value.builtin "BaseException.__getattribute__" == Value.builtin "object.__getattribute__")=false by rw [hx2];rfl,if_neg (by decide)]
 unfold getAttrByItsOwn hookBefore
 rw [if_pos (show onTheHeap (Value.ref C)=true from rfl)]
 refine wpAny_bind ((PySem.W.looks_findIn X c.hook).at (wpAny_bind (wpAny_attempt (wpAny_holding ?_))))
 unfold callGetattribute
 rw [show (expr && onTheHeap (Value.builtin "BaseException.__getattribute__"))=false from Bool.and_false _,if_neg (by decide)]
 unfold boundAndCalled
 have ga:=PySem.F.attr_ValueError.ga
 rw [ga.bind]
 refine wpAny_bind (wpAny_pure ?_)
 show wpAny _ _ (call (.builtin "BaseException.__getattribute__") [.ref e,.str "act" t]) _ _ _
 obtain ⟨nm,q,N,bs,bm,sn,sub,ab,col,dd,k0,k1,k2,k3,k5,lk,hB,hA,hN,hE⟩:=c.at_
 have hcd:cd.mro=.ref C::bm:=by
  unfold PySem.W.clsIn at hc
  rw [lk] at hc
  cases hc;rfl
 have sb:PySem.W.Looks (model prog w) h (isInstance (.ref e) (.type "BaseException")) true:=T.andThen (PySem.W.looks_mroIn X (by unfold PySem.W.mroIn;rw [hc,Option.bind_some,hcd,if_neg (by simp),List.contains_cons,hE,Bool.or_true]))
 refine wpAny_call (codeAny_call_builtin ga.plain PySem.F.entry_bexc_ga (@PySem.W.check_slot (model prog w) _ _ ⟨h,g,d,t+1,os⟩ "BaseException.__getattribute__" "BaseException" "__getattribute__" (.ref e) [.str "act" t] [] _ (by decide +kernel) (by decide +kernel) sb (PySem.F.args_bexc_ga (.ref e) (.str "act" t)) ?_))
 obtain ⟨od,es,ep,hod,hdd,-,-,hf⟩:=hn
 have I:PySem.W.InstAt h e { cls:=.ref C,dict:=some dx,data:=.fields vs } C (some od):=⟨he,rfl,rfl,hod⟩
 have hl:PySem.W.lookIn "act" od=some (some v):=by
  have q:=(hf "act").trans hv
  unfold nsFind findBy at q
  rw [←Array.find?_toList] at q
  unfold PySem.W.lookIn
  rw [hdd]
  dsimp only
  obtain ⟨en,e1,e2⟩:=Option.map_eq_some_iff.mp q
  rw [e1]
  dsimp only
  rw [e2]
 have hfo:PySem.W.findObj K C (some od) "act"=some (.value v):=by
  unfold PySem.W.findObj
  rw [hc,Option.bind_some,c.act,Option.bind_some]
  dsimp only
  rw [Option.bind_some,Option.bind_some]
  unfold PySem.W.ownOf
  rw [hd,if_pos rfl]
  dsimp only
  rw [hl];rfl
 refine wpAny_bind (wpAny_pure (wpAny_bind (wpAny_pure (wpAny_bind (T.at (wpAny_bind ((PySem.W.looks_find X I hfo).at ?_)))))))
 refine wpAny_pure ?_
 show wpAny _ _ (handedOut v) _ _ _
 rw [PySem.W.handedOut_of hh]
 exact wpAny_pure hq
end
end L2
namespace L2
open PySem PySem.Spec PyProof.Rows Builtin Builtin.ObjectAttr
section
variable {prog:Program} {w:World} {A:Around} {E:Value→Shared→Prop} {s:Shared} {K:PySem.W.Frag} {C fI e:Addr}
theorem aPf (c:XC K C fI):∃cd bm,PySem.W.clsIn K C=some cd∧cd.mro=.ref C::bm∧bm.contains (.type "BaseException")=true∧aA1 cd.mro=true∧cd.hasDict=true∧bm.contains (.type "AttributeError")=false:=by
 obtain ⟨cd,hc,ho'⟩:=PySem.W.any_some c.row
 obtain ⟨ho,hd⟩:=Bool.and_eq_true_iff.mp ho'
 obtain ⟨nm,q,N,bs,bm,sn,sub,ab,col,dd,k0,k1,k2,k3,k5,lk,hB,hA,hN,hE⟩:=c.at_
 refine ⟨cd,bm,hc,?_,hE,ho,hd,hA⟩
 unfold PySem.W.clsIn at hc
 rw [lk] at hc
 cases hc;rfl
theorem aB5:∀{l:List Value},aA1 l=true→l.contains (.type "object")=true
 |[],e=>absurd e (by decide)
 |.ref c::r,e=>by rw [List.contains_cons,aB5 (l:=r) e,Bool.or_true]
 |.none::r,e|.bool _::r,e|.int _ _::r,e|.str _ _::r,e|.float _ _::r,e|.bytes _ _::r,e|.builtin _::r,e|.type _::r,e=>by
  have q:=beq_iff_eq.mp e
  rw [q];decide +kernel
theorem aJ2 (X:K.In s.heap) (c:XC K C fI) {vs:Array Value} {dx:Option Addr} {Q:Option Value→Shared→Prop} (he:s.heap.get? e=some { cls:=.ref C,dict:=dx,data:=.fields vs }) (hd:∀a,dx=some a→∃o,s.heap.get? a=some o)
  (hq:Q (some (.ref C)) { s with toks:=s.toks+1 }):wpAny (model prog w) A (getAttr? (.ref e) "__class__") Q E s:=by
 obtain ⟨cd,bm,hc,hm,hE,ho,hdi,hA⟩:=aPf c
 obtain ⟨h,g,d,t,os⟩:=s
 have hx2:(Value.builtin "BaseException.__getattribute__" == Value.builtin "object.__getattribute__")=false:=by decide +kernel
 have T:PySem.W.Looks (model prog w) h (typeOf (.ref e)) (.ref C):=(PySem.W.Looks.ld he).andThen .now
 unfold getAttr? getAttrBy?
 refine wpAny_bind (wpAny_mkText (wpAny_bind (wpAny_attempt ?_)))
 unfold getAttrBy
 refine wpAny_holding (wpAny_bind (T.at (wpAny_bind ((PySem.W.looks_findIn X c.ga).at ?_))))
 dsimp only
 rw [show (onTheHeap (Value.ref C) && Value.builtin "BaseException.__getattribute__" == Value.builtin "object.__getattribute__")=false by rw [hx2];rfl,if_neg (by decide)]
 unfold getAttrByItsOwn hookBefore
 rw [if_pos (show onTheHeap (Value.ref C)=true from rfl)]
 refine wpAny_bind ((PySem.W.looks_findIn X c.hook).at (wpAny_bind (wpAny_attempt (wpAny_holding ?_))))
 unfold callGetattribute
 rw [show (false && onTheHeap (Value.builtin "BaseException.__getattribute__"))=false from rfl,if_neg (by decide)]
 unfold boundAndCalled
 have ga:=PySem.F.attr_ValueError.ga
 rw [ga.bind]
 refine wpAny_bind (wpAny_pure ?_)
 show wpAny _ _ (call (.builtin "BaseException.__getattribute__") [.ref e,.str "__class__" t]) _ _ _
 have sb:PySem.W.Looks (model prog w) h (isInstance (.ref e) (.type "BaseException")) true:=T.andThen (PySem.W.looks_mroIn X (by unfold PySem.W.mroIn;rw [hc,Option.bind_some,hm,if_neg (by simp),List.contains_cons,hE,Bool.or_true]))
 refine wpAny_call (codeAny_call_builtin ga.plain PySem.F.entry_bexc_ga (@PySem.W.check_slot (model prog w) _ _ ⟨h,g,d,t+1,os⟩ "BaseException.__getattribute__" "BaseException" "__getattribute__" (.ref e) [.str "__class__" t] [] _ (by decide +kernel) (by decide +kernel) sb (PySem.F.args_bexc_ga (.ref e) (.str "__class__" t)) ?_))
 have I:∃od,PySem.W.InstAt h e { cls:=.ref C,dict:=dx,data:=.fields vs } C od:=by
  cases dx with
  |none=>exact ⟨none,he,rfl,rfl,trivial⟩
  |some a=>obtain ⟨o,q⟩:=hd a rfl;exact ⟨some o,he,rfl,rfl,q⟩
 obtain ⟨od,I⟩:=I
 have hfo:PySem.W.findObj K C od "__class__"=some (.bind (.builtin "getset_descriptor.__get__") (.builtin "object.__class__")):=by
  unfold PySem.W.findObj
  rw [hc,Option.bind_some,c.cls,Option.bind_some]
  dsimp only
  rw [show PySem.W.specialIn K (.builtin "object.__class__") "__get__"=some (some (.builtin "getset_descriptor.__get__")) from show PySem.W.specialIn [] (.builtin "object.__class__") "__get__"=some (some (.builtin "getset_descriptor.__get__")) by decide +kernel,Option.bind_some]
  dsimp only
  rw [show PySem.W.takesIn K (.builtin "object.__class__")=some true from show PySem.W.takesIn [] (.builtin "object.__class__")=some true by decide +kernel,Option.bind_some]
 refine wpAny_bind (wpAny_pure (wpAny_bind (wpAny_pure (wpAny_bind (T.at (wpAny_bind ((PySem.W.looks_find X I hfo).at ?_)))))))
 have hob:PySem.W.mroIn K C (.type "object")=some true:=by unfold PySem.W.mroIn;rw [hc,Option.bind_some,if_neg (by rw [hm];simp),aB5 ho]
 refine wpAny_bind (wpAny_holding (wpAny_call (PySem.W.class_get (s:=⟨h,g,d,t+1,os⟩) X I hob ?_)))
 exact wpAny_pure (wpAny_pure (wpAny_pure hq))
theorem aDa (X:K.In s.heap) (c:XC K C fI) {vs:Array Value} {dx:Option Addr} {D:Value} {b:Bool} {Q:Fin→Shared→Prop} (he:s.heap.get? e=some { cls:=.ref C,dict:=dx,data:=.fields vs }) (hd:∀a,dx=some a→∃o,s.heap.get? a=some o)
  (hD:PySem.W.Looks (model prog w) s.heap (typeOf D) (.type "type")) (hT:PySem.W.Looks (model prog w) s.heap (isType D) true) (hb:PySem.W.mroIn K C D=some b) (hq:∀t,Q (.done (.ret (.bool b))) { s with toks:=t }) :
  wpAny (model prog w) A (Builtin.«isinstance.nested» ⟨[.ref e,D,rawInt 0],[]⟩) Q E s:=by
 obtain ⟨cd,bm,hc,hm,hE,ho,hdi,hA⟩:=aPf c
 have hcC:PySem.W.mroIn K C (.ref C)=some true:=by unfold PySem.W.mroIn;rw [hc,Option.bind_some,if_neg (by rw [hm];simp),hm];simp
 obtain ⟨h,g,d,t,os⟩:=s
 have T:PySem.W.Looks (model prog w) h (typeOf (.ref e)) (.ref C):=(PySem.W.Looks.ld he).andThen .now
 have L2:=PySem.W.looks_mroIn (M:=model prog w) X hb
 have LI:PySem.W.Looks (model prog w) h (isInstance (.ref e) D) b:=T.andThen L2
 unfold Builtin.«isinstance.nested»
 refine wpAny_bind (T.at ?_)
 by_cases q:(Value.ref C == D)=true
 ·rw [if_pos q]
  have q':=beq_iff_eq.mp q
  subst q'
  rw [hcC] at hb;cases hb
  exact wpAny_bind (wpAny_rule (wpAny_bind (wpAny_pure (wpAny_pure (hq t)))))
 ·rw [if_neg q]
  refine wpAny_bind (hD.at ?_)
  rw [if_pos (by decide)]
  have P:∀{Q':Bool→Shared→Prop} {E':Value→Shared→Prop} {A':Around},(∀t,Q' b ⟨h,g,d,t,os⟩)→wpAny (model prog w) A' (do
    if !(←isType D) then
     if ←Builtins.hasBases D then unsupported "isinstance:class-by-__bases__"
     rule "isinstance.not-a-class";raiseError "TypeError" "isinstance() arg 2 must be a type, a tuple of types, or a union"
    if ←isInstance (.ref e) D then return true
    let some c ←getAttr? (.ref e) "__class__"|return false
    if !(←isType c) then return false
    rule "isinstance.by-__class__";isSubtype c D) Q' E' ⟨h,g,d,t,os⟩:=by
   intro Q' E' A' hq'
   refine wpAny_bind (hT.at ?_)
   rw [if_neg (by decide)]
   refine wpAny_bind (LI.at ?_)
   cases b with
   |true=>rw [if_pos rfl];exact wpAny_pure (hq' t)
   |false=>
    rw [if_neg (by decide)]
    refine wpAny_bind (aJ2 X c he hd ?_)
    dsimp only
    have tC:PySem.W.Looks (model prog w) h (isType (.ref C)) true:=by
     obtain ⟨nm,q,N,bs,bm,sn,sub,ab,col,dd,k0,k1,k2,k3,k5,lk,-⟩:=c.at_
     exact (PySem.W.Looks.ld (X _ _ lk)).andThen .now
    refine wpAny_bind (tC _ _ _ _ (fun _ _ e=>e) ?_)
    rw [if_neg (by decide)]
    exact wpAny_bind (wpAny_rule (L2 _ _ _ _ (fun _ _ e=>e) (hq' _)))
  exact wpAny_bind (P fun t=>wpAny_pure (hq t))
end
section
variable {M:Model} {A:Around} {E:Value→Shared→Prop} {s:Shared} {base:Heap} {env:Env} {outer:List Env} {L e:Addr}
theorem aJv {oe:Obj} {vs:Array Value} {head:Value} {hadNext:Bool} {Q:Unit→Shared→Prop} (hfr:A.frames=some (env::outer)) (hl:s.heap.FunFrames base (env::outer)) (hf:env.frame=some L)
  (he:s.heap.get? e=some oe) (hd:oe.data=.fields vs) (hsz:1<vs.size)
  (h:∀h',(∀b o,b≠e→b∉frs (env::outer)→s.heap.get? b=some o→h'.get? b=some o)→(∀b o,b≠e→s.heap.get? b=some o→∃sl,h'.get? b=some { o with slots:=sl }) →
   h'.get? e=some (oe.mapFields (·.setIfInBounds 1 (.ref s.heap.objs.size)))→(∃oT ts,h'.get? s.heap.objs.size=some oT∧oT.data=.fields ts∧3<ts.size)→Q () { s with heap:=h' }) :
  wpAny M A (do let a ←frameOf env;let pl ←entryPlaceOf L hadNext;let b ←EntryCells.newEntry head a .none (rawInt L) .none pl;setField (.ref e) 1 b) Q E s:=by
 have hene:e∉(env::outer).filterMap (·.frame):=fun hm=>by
  obtain ⟨_,o,ho,hnf⟩:=hl.mem hm
  rw [he] at ho;injection ho with ho;subst ho;exact hnf vs hd
 refine wpAny_bind (wpAny_frameOf_fun hfr hl hf fun h₁ hs₁=>?_)
 refine wpAny_bind (wpAny_entryPlaceOf fun pl hpl=>?_)
 unfold EntryCells.newEntry newFields
 refine wpAny_bind (wpAny_newObj_type ?_ (hpl.sizeOk5 _ _ _ _ _))
 have he₁:h₁.get? e=some oe:=(hs₁.2.1 e hene).trans he
 have he₂:=Heap.get?_push_of_some (h:=h₁) { cls:=.type "traceback",dict:=none,data:=.fields ([head,.ref L,.none,rawInt L,.none]++(if pl.isEmpty then List.replicate 6 Value.none else pl)).toArray } he₁
 have hTe:h₁.objs.size≠e:=Nat.ne_of_gt (Heap.lt_size he₁)
 have hd₃:=Obj.data_mapFields hd (·.setIfInBounds 1 (Value.ref h₁.objs.size))
 have he₃:=Heap.get?_update_self (Obj.mapFields (·.setIfInBounds 1 (Value.ref h₁.objs.size))) he₂ (Obj.isFreed_of_fields hd₃)
 have hT₃:=(Heap.get?_update_other (h₁.push { cls:=.type "traceback",dict:=none,data:=.fields ([head,.ref L,.none,rawInt L,.none]++(if pl.isEmpty then List.replicate 6 Value.none else pl)).toArray })
  (Obj.mapFields (·.setIfInBounds 1 (Value.ref h₁.objs.size))) (Ne.symm hTe)).trans (Heap.get?_push_size h₁ rfl)
 have keep:∀b o,b≠e→h₁.get? b=some o →
   ((h₁.push { cls:=.type "traceback",dict:=none,data:=.fields ([head,.ref L,.none,rawInt L,.none]++(if pl.isEmpty then List.replicate 6 Value.none else pl)).toArray }).update e (Obj.mapFields (·.setIfInBounds 1 (Value.ref h₁.objs.size)))).get? b=some o:=fun b o hbe hb=>by
  rw [Heap.get?_update_other _ _ (Ne.symm hbe)]
  exact Heap.get?_push_of_some _ hb
 refine wpAny_setField he₂ hd hsz (h _ (fun b o hbe hbf hb=>keep b o hbe ((hs₁.2.1 b hbf).trans hb)) (fun b o hbe hb=>?_) ?_ ?_)
 ·obtain ⟨sl,hs⟩:=hs₁.2.2 b o hb
  exact ⟨sl,keep b _ hbe hs⟩
 ·rw [←hs₁.1];exact he₃
 ·rw [←hs₁.1]
  exact ⟨_,_,hT₃,rfl,by simp only [List.size_toArray,List.length_append,List.length_cons,List.length_nil] <;> omega⟩
theorem aV2 {oe:Obj} {vs:Array Value} {Q:Unit→Shared→Prop} (T:Option Addr) (hfr:A.frames=some (env::outer)) (hl:s.heap.FunFrames base (env::outer)) (hf:env.frame=some L)
  (he:s.heap.get? e=some oe) (hd:oe.data=.fields vs) (h1:vs[1]?=some (T.elim .none .ref)) (hT:∀a,T=some a→a≠e∧∃oT ts,s.heap.get? a=some oT∧oT.data=.fields ts∧3<ts.size)
  (h:∀h' T',(∀b o,b≠e→T≠some b→b∉frs (env::outer)→s.heap.get? b=some o→h'.get? b=some o)→(∀b o,b≠e→T≠some b→s.heap.get? b=some o→∃sl,h'.get? b=some { o with slots:=sl })→(∀b o,s.heap.get? b=some o→∃o',h'.get? b=some o') →
   (∃vs':Array Value,h'.get? e=some { oe with data:=.fields vs' }∧vs'.size=vs.size∧vs'[1]?=some (.ref T'))→(∃oT ts,h'.get? T'=some oT∧oT.data=.fields ts∧3<ts.size)→(T=some T'∨T'=s.heap.objs.size)→Q () { s with heap:=h' }) :
  wpAny M A (noteFrame (.ref e) env) Q E s:=by
 unfold noteFrame
 simp only [hf]
 obtain ⟨u,hu,h1⟩:∃u:Value,u=T.elim .none .ref∧vs[1]?=some u:=⟨_,rfl,h1⟩
 refine wpAny_bind (wpAny_field he hd h1 ?_)
 have hs1:1<vs.size:=(Array.getElem?_eq_some_iff.mp h1).1
 have mf:∀n:Addr,oe.mapFields (·.setIfInBounds 1 (.ref n))={ oe with data:=.fields (vs.setIfInBounds 1 (.ref n)) }:=fun n=>by
  obtain ⟨c,d,dt,sl⟩:=oe
  cases hd
  rfl
 have hfin:∀{h':Heap} {n:Addr},h'.get? e=some (oe.mapFields (·.setIfInBounds 1 (.ref n)))→∃vs':Array Value,h'.get? e=some { oe with data:=.fields vs' }∧vs'.size=vs.size∧vs'[1]?=some (.ref n):=fun {h' n} q=>
  ⟨_,by rw [q,mf n],by simp,by simp [hs1]⟩
 cases T with
 |none=>
  obtain rfl:u=.none:=hu
  rw [if_neg (by decide)]
  refine aJv hfr hl hf he hd hs1 fun h' k1 k2 k3 k4=>h h' _ (fun b o hb _ hf q=>k1 b o hb hf q) (fun b o hb _ q=>k2 b o hb q) (fun b o q=>?_) (hfin k3) k4 (.inr rfl)
  by_cases z:b=e
  ·subst z;exact ⟨_,k3⟩
  ·obtain ⟨sl,r⟩:=k2 b o z q;exact ⟨_,r⟩
 |some a=>
  obtain ⟨hae,oT,ts,hTa,hdT,h3⟩:=hT a rfl
  obtain rfl:u=.ref a:=hu
  rw [if_pos (show (Value.ref a != Value.none)=true from by simp)]
  refine wpAny_bind (wpAny_field hTa hdT (Array.getElem?_eq_getElem h3) ?_)
  by_cases hq:(ts[3] == rawInt L)=true
  ·rw [if_pos hq]
   refine wpAny_pure (h s.heap a (fun b o _ _ _ q=>q) (fun b o _ _ q=>⟨o.slots,q⟩) (fun b o q=>⟨o,q⟩) ⟨vs,?_,rfl,h1⟩ ⟨oT,ts,hTa,hdT,h3⟩ (.inl rfl))
   rw [he]
   obtain ⟨c,d,dt,sl⟩:=oe
   cases hd
   rfl
  rw [if_neg hq]
  refine wpAny_bind (wpAny_setField hTa hdT h3 ?_)
  have other:∀b,b≠a→(s.heap.update a (Obj.mapFields (·.setIfInBounds 3 Value.none))).get? b=s.heap.get? b:=fun b hb=>Heap.get?_update_other _ _ (Ne.symm hb)
  have noRecord:∀b o,s.heap.get? b=some o→(∀vs,o.data≠.fields vs)→b≠a:=fun b o hb hnf q=>by
   rw [q,hTa] at hb;injection hb with hb;subst hb;exact hnf ts hdT
  have hsz:(s.heap.update a (Obj.mapFields (·.setIfInBounds 3 Value.none))).objs.size=s.heap.objs.size:=Heap.size_after_update ..
  have hsame:=Heap.get?_update_self (h:=s.heap) (Obj.mapFields (·.setIfInBounds 3 Value.none)) hTa (Obj.isFreed_of_fields (Obj.data_mapFields hdT _))
  refine aJv (s:={ s with heap:=s.heap.update a (Obj.mapFields (·.setIfInBounds 3 Value.none)) }) hfr (hl.of_keeps fun b o hb hnf=>⟨o,(other b (noRecord b o hb hnf)).trans hb,rfl⟩) hf ((other e (Ne.symm hae)).trans he) hd hs1 fun h' k1 k2 k3 k4=>?_
  dsimp only at k1 k2 k3 k4
  rw [hsz] at k3 k4
  refine h h' _ (fun b o hb hba hf q=>k1 b o hb hf ((other b fun z=>hba (by rw [z])).trans q)) (fun b o hb hba q=>k2 b o hb ((other b fun z=>hba (by rw [z])).trans q)) (fun b o q=>?_) (hfin k3) k4 (.inr rfl)
  by_cases z:b=e
  ·subst z;exact ⟨_,k3⟩
  ·by_cases y:b=a
   ·subst y
    obtain ⟨sl,r⟩:=k2 b _ z hsame
    exact ⟨_,r⟩
   ·obtain ⟨sl,r⟩:=k2 b o z ((other b y).trans q);exact ⟨_,r⟩
end
def yC (e T C dx:Addr):HO:=.ext fun h=>∃vs:Array Value,h.get? e=some { cls:=.ref C,dict:=some dx,data:=.fields vs }∧vs.size=6∧vs[1]?=some (.ref T)
def TbO (T:Addr):HO:=.ext fun h=>∃oT ts,h.get? T=some oT∧oT.data=.fields ts∧3<ts.size
def up2 (H:Hp) (e T C dx:Addr):Hp:=upd (upd H T (TbO T)) e (yC e T C dx)
abbrev xdA:HO:=.xd [(("act":Str),V.non)]
theorem yC.ok {P:Program} {w:World} {H:Hp} {h:Heap} {e T C dx:Addr} {vs:Array Value} (q:h.get? e=some { cls:=.ref C,dict:=some dx,data:=.fields vs }) (z:vs.size=6) (n:vs[1]?=some (.ref T)):fY P w H h e (yC e T C dx):=
 ⟨⟨vs,q,z,n⟩,⟨_,q⟩,fun h1 h2 ⟨us,a,b,c⟩ k=>⟨us,k _ a,b,c⟩⟩
theorem TbO.ok {P:Program} {w:World} {H:Hp} {h:Heap} {T:Addr} (q:∃oT ts,h.get? T=some oT∧oT.data=.fields ts∧3<ts.size):fY P w H h T (TbO T):=by
 obtain ⟨o,ts,a,b,c⟩:=q
 exact ⟨⟨o,ts,a,b,c⟩,⟨_,a⟩,fun h1 h2 ⟨u,us,a,b,c⟩ k=>⟨u,us,k _ a,b,c⟩⟩
theorem aSl {H:Hp} {a:Addr} {o:HO} (h:H a=some o):upd H a o=H:=by
 funext b;unfold upd;split
 ·rename_i e;rw [e,h]
 ·rfl
def Xt:HO→Prop
 |.ext _=>True
 |_=>False
section
variable {X:Cx} {pins:List (Addr × Obj)} {σ:St} {H H₁:Hp} {s:Shared} {e C dx:Addr} {M:Model} {E:Value→Shared→Prop} {Q:Unit→Shared→Prop}
theorem aCi (I:Inv X pins σ H s) (hst:X.stack=X.env::X.outer) (hfrm:X.env.frame=some X.env.locals) (T:Option Addr) {vs:Array Value}
  (he:s.heap.get? e=some { cls:=.ref C,dict:=some dx,data:=.fields vs }) (z:vs.size=6) (h1:vs[1]?=some (T.elim .none .ref))
  (hT:∀a,T=some a→a≠e∧(∃oT ts,s.heap.get? a=some oT∧oT.data=.fields ts∧3<ts.size)∧∃o,H a=some o∧Xt o)
  (hx:∃o,H e=some o∧Xt o) (tr:∀b o,H₁ b=some o→b≠e∧T≠some b∧H b=some o) (cov:∀b o,H b=some o→b≠e→T≠some b→H₁ b=some o)
  (q:∀T' s',Inv X pins σ (up2 H₁ e T' C dx) s'→H₁ T'=none→T'≠e→Q () s') :
  wpAny M X.A (noteFrame (.ref e) X.env) Q E s:=by
 have hfun:s.heap.FunFrames X.base (X.env::X.outer):=hst ▸ I.stack
 obtain ⟨oE,hE,hEx⟩:=hx
 refine aV2 T (by rw [←hst];exact I.ok.frames) hfun hfrm he rfl h1 (fun a ha=>⟨(hT a ha).1,(hT a ha).2.1⟩) fun h' T' k1 k2 k3 k4 k5 k6=>?_
 have fr0:∀b∈frs (X.env::X.outer),H b=none:=fun b hb=>I.aEg b (by rw [hst];exact hb)
 have un:∀b,H b=none→H₁ b=none:=fun b n=>by
  cases r:H₁ b with
  |none=>rfl
  |some o=>rw [(tr b o r).2.2] at n;cases n
 have h₁T:H₁ T'=none:=by
  rcases k6 with k6|rfl
  ·cases r:H₁ T' with
   |none=>rfl
   |some o=>exact absurd k6 (tr _ o r).2.1
  ·exact un _ (I.hok.fresh (Nat.le_refl _))
 have nTe:T'≠e:=by
  rcases k6 with k6|rfl
  ·exact (hT _ k6).1
  ·exact Nat.ne_of_gt (Heap.lt_size he)
 have get2:∀b,b≠e→b≠T'→up2 H₁ e T' C dx b=H₁ b:=fun b n1 n2=>by unfold up2;rw [bA n1,bA n2]
 have trk:∀b o,H b=some o→T≠some b→b≠T':=fun b o r n=>by
  rcases k6 with k6|rfl
  ·exact fun zz=>n (by rw [zz];exact k6)
  ·exact Nat.ne_of_lt (I.hok.lt r)
 have old:∀b,H b=none→(∃o,s.heap.get? b=some o)→b≠T':=fun b n ⟨o,r⟩=>by
  rcases k6 with k6|rfl
  ·intro zz
   obtain ⟨o',r',_⟩:=(hT _ k6).2.2
   rw [zz,r'] at n;cases n
  ·exact Nat.ne_of_lt (Heap.lt_size r)
 have notE:∀b o,H b=some o→¬ Xt o→b≠e∧T≠some b:=fun b o r n=>by
  refine ⟨fun zz=>?_,fun zz=>?_⟩
  ·subst zz;rw [hE] at r;cases r;exact n hEx
  ·obtain ⟨o',r',x'⟩:=(hT b zz).2.2
   rw [r'] at r;cases r;exact n x'
 have keepT:∀b o u,H b=some o→b≠e→T≠some b→s.heap.get? b=some u→h'.get? b=some u:=fun b o u r n1 n2 r2=>
  k1 b u n1 n2 (fun hb=>by rw [fr0 b hb] at r;cases r) r2
 have stay2:∀b o,H b=some o→¬ Xt o→up2 H₁ e T' C dx b=some o:=fun b o r n=>by
  obtain ⟨n1,n2⟩:=notE b o r n
  rw [get2 b n1 (trk b o r n2)];exact cov b o r n1 n2
 have hok:HOk X.prog X.w (up2 H₁ e T' C dx) h':=fun b o r=>by
  by_cases be:b=e
  ·subst be
   unfold up2 at r;rw [aO] at r;cases r
   obtain ⟨vs',e1,e2,e3⟩:=k4
   exact yC.ok (vs:=vs') e1 (e2.trans z) e3
  ·by_cases bT:b=T'
   ·subst bT
    unfold up2 at r;rw [bA be,aO] at r;cases r
    exact TbO.ok k5
   ·rw [get2 b be bT] at r
    obtain ⟨n1,n2,r'⟩:=tr b o r
    refine (I.hok b o r').stay (fun c u hc r2=>?_) (fun c r2=>stay2 c _ r2 fun z=>z) fun c xs r2=>stay2 c _ r2 fun z=>z
    rcases hc with rfl|hc
    ·exact keepT c o u r' n1 n2 r2
    ·obtain ⟨m1,m2⟩:=notE c _ hc fun z=>z
     exact keepT c _ u hc m1 m2 r2
 have hTn:∀b,T=some b→H b≠none:=fun b hb n=>by
  obtain ⟨o',r',_⟩:=(hT b hb).2.2
  rw [r'] at n;cases n
 have U:Un (frs X.stack) [] H (up2 H₁ e T' C dx) s.heap h':=by
  refine ⟨fun b o r n hb _=>?_,fun b o r n hb _=>?_,fun b o r n _=>?_,fun b o r _=>k3 b o r,fun b xs r=>stay2 b _ r fun z=>z,fun b o u r=>stay2 b _ r fun z=>z,fun b ps r=>⟨#[],by rw [stay2 b _ r fun z=>z];simp⟩⟩
  ·exact k1 b o (fun zz=>by subst zz;rw [hE] at n;cases n) (fun zz=>hTn b zz n) (by rw [←hst];exact hb) r
  ·exact k2 b o (fun zz=>by subst zz;rw [hE] at n;cases n) (fun zz=>hTn b zz n) r
  ·rw [get2 b (fun zz=>by subst zz;rw [hE] at n;cases n) (old b n ⟨o,r⟩)];exact un b n
 exact q T' _ (I.call' (s':={ s with heap:=h' }) (ch:=[]) rfl U hok I.bare fun b z=>absurd z (by simp)) h₁T nTe
theorem nO {T:Addr} {A:Around} {fr:Option Addr} (I:Inv X pins σ (up2 H₁ e T C dx) s) (hTe:T≠e) (q:∀s',Inv X pins σ (up2 H₁ e T C dx) s'→Q () s'):wpAny M A (setFlight (.ref e) fr) Q E s:=by
 have e1:up2 H₁ e T C dx e=some (yC e T C dx):=aO
 have e2:up2 H₁ e T C dx T=some (TbO T):=by unfold up2;rw [bA hTe,aO]
 obtain ⟨vs,hge,hz,hv1⟩:=(I.hok e _ e1).1
 obtain ⟨oT,ts,hgT,hdT,ht3⟩:=(I.hok T _ e2).1
 unfold setFlight
 refine wpAny_bind (wpAny_field hge rfl hv1 ?_)
 rw [if_pos (show (Value.ref T != Value.none)=true from by simp)]
 refine wpAny_setField hgT hdT ht3 (q _ ?_)
 have hu:=Heap.get?_update_self (h:=s.heap) (Obj.mapFields (·.setIfInBounds 3 (fr.elim Value.none fun f=>rawInt f))) hgT (Obj.isFreed_of_fields (Obj.data_mapFields hdT _))
 have W:=I.write (x:=T) (e:=T) (o:=TbO T) (h':=s.heap.update T (Obj.mapFields (·.setIfInBounds 3 (fr.elim Value.none fun f=>rawInt f)))) (t':=s.toks) (by rw [e2];trivial) (.inl rfl) (fun b u nb q=>(Heap.get?_update_other _ _ (Ne.symm nb)).trans q) ⟨_,hu⟩
  (TbO.ok ⟨_,_,hu,Obj.data_mapFields hdT _,by simpa using ht3⟩)
 rw [aSl e2] at W
 exact W
theorem aMl (I:Inv X pins σ (upd H₁ e (XO e C (some dx))) s) (hst:X.stack=X.env::X.outer) (hfrm:X.env.frame=some X.env.locals) (n:H₁ e=none)
  (q:∀T' s',Inv X pins σ (up2 H₁ e T' C dx) s'→H₁ T'=none→T'≠e→Q () s') :
  wpAny M X.A (noteFrame (.ref e) X.env) Q E s:=by
 obtain ⟨vs,he,z,h1⟩:=XO.at (d:=some dx) I.hok aO
 refine aCi I hst hfrm none he z h1 (fun a ha=>nomatch ha) ⟨_,aO,trivial⟩ (fun b o r=>?_) (fun b o r ne _=>by rw [bA ne] at r;exact r) q
 have ne:b≠e:=fun zz=>by subst zz;rw [n] at r;cases r
 exact ⟨ne,(nomatch ·),by rw [bA ne];exact r⟩
theorem aB6 {T:Addr} (I:Inv X pins σ (up2 H₁ e T C dx) s) (hst:X.stack=X.env::X.outer) (hfrm:X.env.frame=some X.env.locals) (n:H₁ e=none) (nT:H₁ T=none) (hTe:T≠e)
  (q:∀T' s',Inv X pins σ (up2 H₁ e T' C dx) s'→H₁ T'=none→T'≠e→Q () s') :
  wpAny M X.A (noteFrame (.ref e) X.env) Q E s:=by
 have e1:up2 H₁ e T C dx e=some (yC e T C dx):=aO
 have e2:up2 H₁ e T C dx T=some (TbO T):=by unfold up2;rw [bA hTe,aO]
 obtain ⟨vs,he,z,h1⟩:=(I.hok e _ e1).1
 refine aCi I hst hfrm (some T) he z h1 (fun a ha=>?_) ⟨_,e1,trivial⟩ (fun b o r=>?_) (fun b o r ne nt=>?_) q
 ·cases ha
  exact ⟨hTe,(I.hok T _ e2).1,_,e2,trivial⟩
 ·have ne:b≠e:=fun zz=>by subst zz;rw [n] at r;cases r
  have nt:b≠T:=fun zz=>by subst zz;rw [nT] at r;cases r
  exact ⟨ne,fun zz=>nt (Option.some.inj zz).symm,by unfold up2;rw [bA ne,bA nt];exact r⟩
 ·unfold up2 at r
  rw [bA ne,bA (fun zz=>nt (by rw [zz]))] at r;exact r
end
def CXR (P:Program) (w:World):CXT:=fun outer H s E v s'=>∃e T dx C H₁,v=.ref e∧s'.os=s.os∧AllBare s'.gens∧H₁ e=none∧H₁ T=none∧T≠e∧H₁ dx=some xdA ∧
 Un (frs outer) [] H (up2 H₁ e T C dx) s.heap s'.heap∧HOk P w (up2 H₁ e T C dx) s'.heap∧E (.ref C) (some e) H₁
def Raises (X:Cx) (E:XK):Prop:=∀(pins:List (Addr × Obj)) (σ:St) (H₁:Hp) (s:Shared) (e C dx:Addr),Inv X pins σ (upd H₁ e (XO e C (some dx))) s→H₁ e=none→H₁ dx=some xdA→E (.ref C) (some e) H₁→X.xe (.ref e) s
section
variable {P:Program} {w:World} {K:PySem.W.Frag} {mg:Str→Option Value} {base:Heap} {N:List Str} {qual:Str} {scope:Scope} {f:Addr} {cd:Value} {A:Around} {outer:List Env} {s₀:Shared} {H₀:Hp} {E:XK}
theorem aCl {pins:List (Addr × Obj)} {σ:St} {H₁:Hp} {s:Shared} {e T C dx:Addr} (I:Inv (wB (CXR P w) P w K mg base N qual scope f cd A outer s₀ H₀ E) pins σ (up2 H₁ e T C dx) s) (n:H₁ e=none) (nT:H₁ T=none) (hTe:T≠e) (hd:H₁ dx=some xdA) (q:E (.ref C) (some e) H₁) :
  CXR P w outer H₀ s₀ E (.ref e) s:=⟨e,T,dx,C,H₁,rfl,I.os,I.bare,n,nT,hTe,hd,I.base,I.hok,q⟩
theorem aBy:Raises (wB (CXR P w) P w K mg base N qual scope f cd A outer s₀ H₀ E) E:=by
 intro pins σ H₁ s e C dx I n hd q
 show wpAny _ _ (leaving _ (.ref e)) _ _ s
 unfold leaving
 exact wpAny_bind (aMl I rfl rfl n fun T' s' I' nT hTe=>nO I' hTe fun s2 I2=>aCl I2 n nT hTe hd q)
def Thr (X:Cx) (E:XK):Prop:=∀(pins:List (Addr × Obj)) (σ:St) (H₁:Hp) (s:Shared) (e T C dx:Addr),Inv X pins σ (up2 H₁ e T C dx) s→H₁ e=none→H₁ T=none→T≠e→H₁ dx=some xdA→E (.ref C) (some e) H₁→X.xe (.ref e) s
theorem Thr.passes {X:Cx} {E:XK} (h:Thr X E):rH (CXR X.prog X.w) X E:=by
 intro pins σ H s v s' I hc
 obtain ⟨e,T,dx,C,H₁,rfl,os,bare,n,nT,hTe,hd,un,hok,q⟩:=hc
 exact h pins σ H₁ s' e T C dx (I.call' (s':=s') (ch:=[]) os un hok bare fun b z=>absurd z (by simp)) n nT hTe hd q
theorem aNr:Thr (wB (CXR P w) P w K mg base N qual scope f cd A outer s₀ H₀ E) E:=by
 intro pins σ H₁ s e T C dx I n nT hTe hd q
 show wpAny _ _ (leaving _ (.ref e)) _ _ s
 unfold leaving
 exact wpAny_bind (aB6 I rfl rfl n nT hTe fun T' s' I' nT' hTe'=>nO I' hTe' fun s2 I2=>aCl I2 n nT' hTe' hd q)
end
theorem aTq {H:Hp} {a:Addr} {o:HO} (h:H a=some o):upd H a o=H:=by
 funext b;unfold upd;split
 ·rename_i e;rw [e,h]
 ·rfl
theorem aPv {H:Hp} {a b:Addr} {o u:HO} (h:a≠b):upd (upd H a o) b u=upd (upd H b u) a o:=by
 funext c;unfold upd
 by_cases e1:c=b
 ·by_cases e2:c=a
  ·exact absurd (e2.symm.trans e1) h
  ·simp [e1,e2,Ne.symm h]
 ·by_cases e2:c=a
  ·simp [e2,h]
  ·simp [e1,e2]
def tVI (K:PySem.W.Frag) (fI:Addr) (t:TA):TE:=fun σ H Q=>t σ H fun vs H1=>∃e C v,vs=[.ref e,v]∧H1 e=some (XO e C none)∧XC K C fI∧Q .non H1
def aNe (K:PySem.W.Frag) (fI:Addr) (ta tv:TE):TS:=fun D σ H=>tv σ H fun y H1=>ta σ H1 fun x H2=>∃e C,y=.non∧x=.ref e∧H2 e=some (XO e C none)∧XC K C fI ∧
 ∀dx,H2 dx=none→dx≠e→D.nx σ (upd (upd H2 dx xdA) e (XO e C (some dx)))
section
variable {X:Cx} {o value e1:Expr} {es:List Expr} {p ap pos pos' cpos:Pos} {ta tv:TE} {t:TA} {fI:Addr} {pl:Sem Bool}
theorem aLc:bootBuiltins "ValueError"=some (.type "ValueError"):=by decide +kernel
theorem aS3:typeOf (.type "ValueError")=pure (.type "type"):=by first|rfl|kernel_rfl
theorem aR4:PySem.W.handedIn (.builtin "ValueError.__init__")=true:=by decide +kernel
theorem aRz:Manifest.isStub "ValueError"=false:=by decide +kernel
theorem aOx (hg:Gl X "ValueError") (hm:X.mg "ValueError"=none) (ha:PA X (e1::es) t)
  (hst:starEach (e1::es) X.env=(false,eval e1 X.env)::starEach es X.env:=by rfl) (hpl:(backTo cpos (starEach es X.env)).any (·.1)=false:=by rfl)
  (ht:eval (.Call (.Attribute (.Name "ValueError" p) "__init__" ap) (e1::es) [] cpos) X.env=(do
   let ov ←eval (.Name "ValueError" p) X.env
   standAt ap.atName
   let (f,first) ←holding [ov] (getMethod ov "__init__" pl)
   callWith cpos f first (backTo cpos (starEach (e1::es) X.env)) (backToKw cpos (keywordEach [] X.env))):=by rfl) :
  PE X (.Call (.Attribute (.Name "ValueError" p) "__init__" ap) (e1::es) [] cpos) (tVI X.K fI t):=by
 intro pins s σ H Q I h
 refine PySem.W.methodCall_KW (pl:=pl) (rD I hg hm aLc ?_) ht
 obtain ⟨m,F⟩:=I.fr
 refine PySem.W.method_type (T:="ValueError") (name:="__init__") (v:=.builtin "ValueError.__init__") F I.ok.mod.kin aS3 aRz (aR1 X.K) aR4 ?_
 refine PyProof.Rows.callWith_builtin1 (thn (ha cpos pins _ σ H _ (I.tok _) h) fun us s1 ⟨vs,H1,I1,r,e,C,v,ev,he,c,q⟩=>?_) hst hpl
 subst ev
 cases r with
 |cons r0 r1=>
  cases r1 with
  |@cons _ u2 _ _ r2 r3=>
   cases r3
   obtain rfl:=r0
   obtain ⟨ws,hg',hz,h1⟩:=XO.at I1.hok he
   have h0:0<ws.size:=by omega
   refine aT8 I1.kIn c hg' h0 (Array.getElem?_eq_getElem h0) (by rw [sizeLine_eq,List.length_cons,List.length_nil];omega) ?_
   refine ⟨.non,H1,?_,rfl,q⟩
   have I2:=I1.kept (h':=s1.heap.push { cls:=.type "tuple",data:=.seq [u2].toArray }) (t':=s1.toks) (fun b u e=>Heap.get?_push_of_some _ e)
   have hg2:=Heap.get?_push_of_some (h:=s1.heap) { cls:=.type "tuple",data:=.seq [u2].toArray } hg'
   have hu:=Heap.get?_update_self (Obj.mapFields (·.setIfInBounds 0 (Value.ref s1.heap.objs.size))) hg2 (Obj.isFreed_of_fields (Obj.data_mapFields rfl _))
   have W:=I2.write (x:=e) (e:=e) (o:=XO e C none) (t':=s1.toks) (by rw [he];trivial) (.inl rfl) (fun b u nb q=>(Heap.get?_update_other _ _ (Ne.symm nb)).trans q) ⟨_,hu⟩
    (XO.ok (vs:=ws.setIfInBounds 0 (.ref s1.heap.objs.size)) hu (by simp [hz]) (by rw [Array.getElem?_setIfInBounds_ne (by decide)];exact h1))
   rw [aTq he] at W
   exact W
theorem aVj (ha:PE X o ta) (hv:PE X value tv) (hs:swapsWith value (some (.Attribute o "act" pos')) pos.line X.env=pure false:=by rfl):PS X (.Assign [.Attribute o "act" pos'] value pos) (aNe X.K fI ta tv):=by
 intro pins s σ H D I h
 refine plainObj_wpAny_Assign_Attribute (thn (hv pins s σ H _ I h) fun u s1 ⟨y,H1,I1,ry,q⟩=>thn (ha pins s1 σ H1 _ I1 q) fun ov s2 ⟨x,H2,I2,rx,e,C,ey,ex,he,c,q2⟩=>?_) hs
 subst ex ey
 obtain rfl:=rx
 obtain rfl:=ry
 obtain ⟨ws,hg',hz,h1⟩:=XO.at I2.hok he
 have hdn:H2 s2.heap.objs.size=none:=I2.hok.fresh (Nat.le_refl _)
 have hne:s2.heap.objs.size≠e:=Nat.ne_of_gt (Heap.lt_size hg')
 refine aRs I2.kIn c hg' fun h' t' k1 k2 k3=>⟨σ,_,?_,q2 _ hdn hne⟩
 obtain ⟨od,es,ep,hod,hdd,r⟩:=id k2
 have I3:=I2.laid (a:=s2.heap.objs.size) (o:=xdA) (h':=s2.heap.push od) (t':=t') (fun b u e=>Heap.get?_push_of_some _ e) (Nat.le_refl _)
  ⟨_,⟨od,es,ep,Heap.get?_push_size _ (Heap.get?_some_iff.mp hod).2,hdd,r⟩,fun f=>by
   by_cases e:f = "act"
   ·subst e;simp [xZ,RelV]
   ·have n:(f == ("act":Str))=false:=by simpa using e
    simp [List.lookup,n,e,xZ]⟩
 refine I3.write (x:=e) (e:=e) (o:=XO e C (some s2.heap.objs.size)) (h':=h') (t':=t') (by rw [bA (Ne.symm hne),he];trivial) (.inl rfl) (fun b u nb q=>?_) ⟨_,k1⟩ (XO.ok k1 hz h1)
 by_cases eb:b=s2.heap.objs.size
 ·subst eb
  rw [Heap.get?_push_size _ (Heap.get?_some_iff.mp hod).2] at q
  cases q;exact hod
 ·refine k3 b u nb ?_
  obtain ⟨q1,q2⟩:=Heap.get?_some_iff.mp q
  refine Heap.get?_some_iff.mpr ⟨?_,q2⟩
  rw [←q1]
  generalize s2.heap=hh at eb ⊢
  cases hh
  simp only at eb
  simp [Heap.push,Array.getElem?_push,eb]
end
def aA6 (K:PySem.W.Frag) (fI:Addr):Sp:=fun vs H Q _=>∃e C,vs=[.ref e,.non]∧H e=some (XO e C none)∧XC K C fI∧∀dx,H dx=none→dx≠e→Q .non (upd (upd H dx xdA) e (XO e C (some dx)))
def aHz (C:Addr) (E:XK) (t:TA):TS:=fun _ σ H=>t σ H fun vs H1=>vs=[.non]∧∀e dx,H1 e=none→H1 dx=none→dx≠e→E (.ref C) (some e) (upd H1 dx xdA)
section
variable {M:Model} {A:Around} {E:Value→Shared→Prop} {env:Env} {K:PySem.W.Frag} {C fI:Addr}
theorem aG6 {s:Shared} {x:Sem Value} {Q:Flow→Shared→Prop} (c:XC K C fI) (hh:A.handled=none)
  (h:wpAny M A x (fun v s₁=>∃e d vs,v=.ref e∧K.In s₁.heap∧s₁.heap.get? e=some { cls:=.ref C,dict:=d,data:=.fields vs }∧vs[1]?=some .none∧E (.ref e) s₁) E s) :
  wpAny M A (raiseStmt env (some x) none) Q E s:=by
 obtain ⟨nm,q,N,bs,bm,sn,sub,ab,col,dd,k0,k1,k2,k3,k5,lk,hB,hA,hN,hE⟩:=c.at_
 have hcB:(Value.ref C::bm).contains (.type "BaseException")=true:=by rw [List.contains_cons,hE,Bool.or_true]
 unfold raiseStmt
 refine wpAny_bind (wpAny_mono h (fun v s₁ h₁=>?_) fun _ _ x=>x)
 obtain ⟨e,di,vs,rfl,X,he,h1,hE'⟩:=h₁
 have hC:=X _ _ lk
 obtain ⟨hp,g,d,tk,os⟩:=s₁
 repeat (first|with_reducible refine wpAny_loadPart_at he ?_|with_reducible refine wpAny_loadPart_at hC ?_|(with_reducible refine wpAny_isSubtype_exc hC ?_;rw [hcB])|with_reducible refine wpAny_field he rfl h1 ?_|wp_step)
 exact wpAny_raiseNew_none hh hE'
end
section
variable {X:Cx} {CX:CXT} {k:Nat} {C fI:Addr} {fd:FuncData} {ps:List Str} {E:XK} {x:Str} {np cpos pos:Pos} {a:Expr} {t:TA}
theorem aRf {pins:List (Addr × Obj)} {σ:St} {H:Hp} {s:Shared} {Q:VK} {u:Value} (c:XC X.K C fI) (F:jA X.prog X.w X.K X.mg X.base CX k fI fd ps (aA6 X.K fI)) (hr:Room (k+1) X.A) (hb:Binds X.K fd ps []) (hx:rH CX X E0)
  (I:Inv X pins σ H s) (r:RelV .non u) (h:∀e dx,H e=none→H dx=none→dx≠e→Q (.ref e) (upd (upd H dx xdA) e (XO e C (some dx)))) :
  wpAny (model X.prog X.w) X.A (call (.ref C) [u]) (EP X pins σ Q) X.xe s:=by
 obtain ⟨hp,g,d,tk,os⟩:=s
 refine x_call I.kIn c (fun h' e mk ee ht=>?_) (by rw [sizeLine_eq,List.length_cons,List.length_nil];omega)
 obtain ⟨t0,te,-,-⟩:=mk.there
 have hen:H e=none:=I.hok.fresh (by rw [ee];exact Nat.le_succ _)
 have I2:Inv X pins σ (upd H e (XO e C none)) ⟨h',g,d,tk,os⟩:=I.laid (a:=e) (h':=h') (t':=tk) mk.keeps (by rw [ee];exact Nat.le_succ _) (XO.ok te rfl rfl)
 have sp:aA6 X.K fI [.ref e,.non] (upd H e (XO e C none)) (fun v H2=>v=.non∧Q (.ref e) H2) E0:=by
  refine ⟨e,C,rfl,aO,c,fun dx n ne=>⟨rfl,?_⟩⟩
  rw [bA ne] at n
  have q:=h e dx hen n ne
  rw [aPv (Ne.symm ne),aJ5]
  exact q
 have r2:Vals [V.ref e,V.non] [Value.ref e,u]:=.cons rfl (.cons r .nil)
 have hl:([Value.ref e,u]++[]).length=ps.length:=by
  have q:=F.len _ _ _ _ sp
  rw [List.append_nil];exact q
 have hb':=hb ⟨h',g,d,tk,os⟩ [Value.ref e,u] I2.kIn hl
 rw [List.append_nil] at hb'
 refine wpAny_call (codeAny_mono (F.run _ X.stack _ _ ⟨[Value.ref e,u],[]⟩ [Value.ref e,u] _ _ E0 (hr.make C [u] []) (I2.env0.make C [u] []) hb' r2 sp) fun r s' hq'=>?_)
 cases r with
 |error v=>exact hx pins σ _ _ v s' I2 hq'
 |ok fl=>
  cases fl with
  |ret w=>
   obtain ⟨v,H',I3,rv,ev,q3⟩:=I2.after hq'
   subst ev
   exact ⟨rv,⟨V.ref e,H',I3,rfl,q3⟩⟩
  |next=>exact False.elim hq'
  |brk=>exact False.elim hq'
  |cont=>exact False.elim hq'
theorem aOn (c:XC X.K C fI) (F:jA X.prog X.w X.K X.mg X.base CX k fI fd ps (aA6 X.K fI)) (hr:Room (k+1) X.A) (hb:Binds X.K fd ps []) (hx:rH CX X E0) (hR:Raises X E) (hc:X.calm=true) (hk:PySem.W.keepIn X.K (.ref C)=true)
  (hg:Gl X x) (hm:X.mg x=some (.ref C)) (ha:PA X [a] t) (hdb:(x == ("__debug__":Str))=false:=by decide) (he:starEach [a] X.env=(false,eval a X.env)::starEach [] X.env:=by rfl) :
  PS X (.Raise (some (.Call (.Name x np) [a] [] cpos)) none pos) (aHz C E t):=by
 intro pins s σ H D I h
 rw [arm_exec_Raise]
 refine wpAny_bind (wpAny_standAt (aG6 c (I.ok.hd hc) ?_))
 refine wpAny_bind (wpAny_mono (Q:=EP X pins σ fun v H'=>∃e dx H₁,v=.ref e∧H'=upd H₁ e (XO e C (some dx))∧H₁ e=none∧H₁ dx=some xdA∧E (.ref C) (some e) H₁) (E:=X.xe) ?_ (fun v s1 ⟨y,H',I',ry,e,dx,H₁,ey,eH,n,nd,q⟩=>?_) fun _ _ z=>z)
 ·refine wpAny_Call_Name_kw (qH I hg hm ?_ hdb)
  refine PySem.W.callWith_K (h₀:=X.base) I.ok.mod.kin hk (thn (ha cpos pins s σ H _ I h) fun us s1 ⟨vs,H1,I1,r,ev,q⟩=>⟨I1.kIn,?_⟩) he rfl
  subst ev
  cases r with
  |cons r0 r1=>
   cases r1
   exact aRf c F hr hb hx I1 r0 fun e dx n1 n2 ne=>⟨e,dx,upd H1 dx xdA,rfl,rfl,by rw [bA (Ne.symm ne)];exact n1,aO,q e dx n1 n2 ne⟩
 ·subst ey eH
  obtain rfl:=ry
  refine wpAny_bind (wpAny_standAt (wpAny_pure ?_))
  obtain ⟨vs,hg',hz,h1⟩:=XO.at (d:=some dx) I'.hok aO
  exact ⟨e,_,vs,rfl,I'.kIn,hg',h1,hR pins σ H₁ s1 e C dx I' n nd q⟩
end
section
variable {X:Cx} {pins:List (Addr × Obj)} {σ:St} {H:Hp} {s:Shared} {M:Model} {A:Around} {E:Value→Shared→Prop} {i:Nat} {n:Str} {pos:Pos} {Q:Unit→Shared→Prop}
theorem name_goes (I:Inv X pins σ H s) (hN:X.N.Nodup) (hi:X.N[i]?=some n) (hk:X.env.scope.names.lookup n=some .local) (h:∀s',Inv X pins (σ.set i none) H s'→Q () s') :
  wpAny M A (do bindName X.env n .none;unbindBehindTheSuite X.env n pos) Q E s:=by
 obtain ⟨m,hn,hl⟩:=id I.loc
 have hcls:(X.env.scope.kind == .class || (X.env.scope.kind == .module && X.env.locals != X.env.globals))=false:=by rw [I.ok.kind];rfl
 have hiσ:i<σ.length:=by rw [I.len];exact (List.getElem?_eq_some_iff.mp hi).1
 have cne:=I.cne
 obtain ⟨oL,_,_,hoL,_⟩:=id hn
 refine wpAny_nameGoes_keeps hk hn hcls fun h' v hn' hs=>?_
 have lt:∀b o,X.s₀.heap.get? b=some o→b≠X.env.locals:=fun b o e=>Nat.ne_of_lt (Nat.lt_of_lt_of_le (Heap.lt_size e) I.ok.above)
 have hok:HOk X.prog X.w H h':=fun b ob e=>by
  refine (I.hok b ob e).stay (fun c w' hc q=>(hs.2 c ?_).trans q) (fun _ q=>q) fun _ _ q=>q
  rintro rfl
  rcases hc with rfl|hc
  ·rw [I.free] at e;cases e
  ·rw [I.free] at hc;cases hc
 refine h _ ⟨I.ok,I.os,I.bare,⟨fun b o e n hb hx=>?_,fun b o e n hb hx=>?_,I.base.free,fun b o e hx=>?_,I.base.tups,I.base.frzs,I.base.tbls⟩,⟨_,hn',fun j y v' e1 e2 e3=>?_⟩,fun y c e=>?_,I.free,I.freeC,fun p hp=>?_,hok,by simpa using I.len⟩
 ·exact (hs.2 b (lt b o e)).trans (I.base.keep b o e n hb hx)
 ·obtain ⟨sl,e1⟩:=I.base.slot b o e n hb hx
  exact ⟨sl,(hs.2 b (lt b o e)).trans e1⟩
 ·obtain ⟨o',e1⟩:=I.base.there b o e hx
  exact ⟨o',(hs.2 b (lt b o e)).trans e1⟩
 ·by_cases hj:j=i
  ·subst hj
   rw [List.getElem?_set_self hiσ] at e2
   cases e2
  ·rw [List.getElem?_set_ne (Ne.symm hj)] at e2
   obtain ⟨u',r',q⟩:=hl j y v' e1 e2 e3
   refine ⟨u',r',?_⟩
   rcases q with ⟨k,e⟩|⟨k,c,e,z⟩
   ·refine .inl ⟨k,?_⟩
    have:y≠n:=fun e=>hj (zA hN e1 (e ▸ hi))
    simp [this,e]
   ·exact .inr ⟨k,c,e,z.sameBut hs (cne y c e)⟩
 ·obtain ⟨w',z⟩:=I.cell y c e
  exact ⟨w',z.sameBut hs (cne y c e)⟩
 ·obtain ⟨e,n,ne,nf,d⟩:=I.pin p hp
  exact ⟨(hs.2 p.1 ne).trans e,n,ne,nf,d⟩
end
def qX (X:Cx) (pins:List (Addr × Obj)) (σ₀:St) (E:XK):Cx:={ X with pn:=X.pn++pins,xe:=fun v s'=>∃e T dx C H₁,v=.ref e∧Inv X pins σ₀ (up2 H₁ e T C dx) s'∧H₁ e=none∧H₁ T=none∧T≠e∧H₁ dx=some xdA∧E (.ref C) (some e) H₁ }
def rG (X:Cx) (e:Addr):Cx:={ X with A:=X.A.mark (some (.ref e)),calm:=false,xe:=fun _ _=>False }
section
variable {X:Cx} {pins:List (Addr × Obj)} {σ σ₀:St} {H:Hp} {s:Shared} {E:XK} {e:Addr}
theorem aUv (ok:X.Ok):(qX X pins σ₀ E).Ok:=⟨ok.mod,ok.kind,ok.glob,ok.blt,ok.above,ok.inj,ok.has,ok.cab,ok.hd,ok.frames,ok.stk,ok.exf,ok.bs,ok.bsz,ok.noex,ok.exfs,ok.funs,ok.frf⟩
theorem aRx (ok:X.Ok):(rG X e).Ok:=⟨ok.mod,ok.kind,ok.glob,ok.blt,ok.above,ok.inj,ok.has,ok.cab,(fun z=>nomatch z),ok.frames,ok.stk,ok.exf,ok.bs,ok.bsz,ok.noex,ok.exfs,ok.funs,ok.frf⟩
theorem Inv.aWj (I:Inv X pins σ H s):Inv (qX X pins σ₀ E) [] σ H s:=⟨aUv I.ok,I.os,I.bare,I.base,I.loc,I.cell,I.free,I.freeC,fun p hp=>I.pin p (by rw [List.append_nil] at hp;exact hp),I.hok,I.len⟩
theorem Inv.aFk {pins':List (Addr × Obj)} (ok:X.Ok) (I:Inv (qX X pins σ₀ E) pins' σ H s):Inv X pins σ H s:=⟨ok,I.os,I.bare,I.base,I.loc,I.cell,I.free,I.freeC,fun p hp=>I.pin p (List.mem_append_left _ hp),I.hok,I.len⟩
theorem Inv.aNf (I:Inv X pins σ H s):Inv (rG X e) pins σ H s:=⟨aRx I.ok,I.os,I.bare,I.base,I.loc,I.cell,I.free,I.freeC,I.pin,I.hok,I.len⟩
theorem Inv.aEs (ok:X.Ok) (I:Inv (rG X e) pins σ H s):Inv X pins σ H s:=⟨ok,I.os,I.bare,I.base,I.loc,I.cell,I.free,I.freeC,I.pin,I.hok,I.len⟩
end
def aKh (σ₀:St) (sp:Sp) (dvs:List V) (E:XK) (t:TA):TE:=fun σ H Q=>σ=σ₀∧t σ H fun vs H1=>sp (vs++dvs) H1 Q E
section
variable {X:Cx} {pins₀:List (Addr × Obj)} {σ₀:St} {k:Nat} {f:Addr} {fd:FuncData} {ps:List Str} {sp:Sp} {dvs:List V} {ds:List Value} {E:XK} {x:Str} {p pos:Pos} {e:Expr} {es:List Expr} {t:TA}
theorem aMn (ok:X.Ok) (F:jA X.prog X.w X.K X.mg X.base (CXR X.prog X.w) k f fd ps sp) (hr:Room k X.A) (hg:Gl X x) (hm:X.mg x=some (.ref f)) (hk:PySem.W.keepIn X.K (.ref f)=true) (hb:Binds X.K fd ps ds) (hd:Vals dvs ds)
  (ha:PA (qX X pins₀ σ₀ E) (e::es) t) (hdb:(x == ("__debug__":Str))=false:=by decide) (he:starEach (e::es) X.env=(false,eval e X.env)::starEach es X.env:=by rfl) (hpl:(backTo pos (starEach es X.env)).any (·.1)=false:=by rfl) :
  PE (qX X pins₀ σ₀ E) (.Call (.Name x p) (e::es) [] pos) (aKh σ₀ sp dvs E t):=by
 rintro pins s σ H Q I ⟨rfl,h⟩
 refine wpAny_Call_Name_kw (qH (X:=qX X pins₀ σ E) I hg hm ?_ hdb)
 refine PySem.W.callWith_K (h₀:=X.base) I.ok.mod.kin hk (thn (ha pos pins s σ H _ I h) fun us s1 ⟨vs,H1,I1,r,q⟩=>⟨I1.kIn,?_⟩) he hpl
 have r2:Vals (vs++dvs) (us++ds):=r.append hd
 have hl:(us++ds).length=ps.length:=by rw [←r2.length];exact F.len _ _ _ _ q
 refine wpAny_call (codeAny_mono (F.run X.A X.stack s1 H1 ⟨us,[]⟩ (us++ds) (vs++dvs) Q E hr I1.env0 (hb s1 us I1.kIn hl) r2 q) fun r s' hq=>?_)
 cases r with
 |error v=>
  obtain ⟨a,T,dx,C,H₁,rfl,os,bare,n,nT,hTe,hd',un,hok,q'⟩:=hq
  exact ⟨a,T,dx,C,H₁,rfl,(Inv.aFk ok I1).call' (s':=s') (ch:=[]) os un hok bare (fun b z=>absurd z (by simp)),n,nT,hTe,hd',q'⟩
 |ok fl=>
  cases fl with
  |ret u=>exact I1.after hq
  |next=>exact False.elim hq
  |brk=>exact False.elim hq
  |cont=>exact False.elim hq
end
structure XS (K:PySem.W.Frag) (S:Addr):Prop where
 ty:PySem.W.typeIn K (.ref S)=some (.type "type")
 cls:(PySem.W.clsIn K S).isSome=true
 base:PySem.W.mroIn K S (.type "BaseException")=some true
theorem aLl {M:Model} {A:Around} {E:Value→Shared→Prop} {s:Shared} {K:PySem.W.Frag} {S C e:Addr} {oe:Obj} {Q:Bool→Shared→Prop} (X:K.In s.heap) (hS:XS K S) (he:s.heap.get? e=some oe) (hc:oe.cls=.ref C) (hm:PySem.W.mroIn K C (.ref S)=some true)
  (hq:Q true s):wpAny M A (excMatches (.ref e) (.ref S)) Q E s:=by
 obtain ⟨h,g,d,t,os⟩:=s
 have T:PySem.W.Looks M h (typeOf (.ref S)) (.type "type"):=PySem.W.looks_typeIn X hS.ty
 have T0:PySem.W.Looks M h (isInstance (.ref S) (.type "tuple")) false:=T.andThen (PySem.W.Looks.of_pure tc_notTuple)
 have Ti:PySem.W.Looks M h (isType (.ref S)) true:=by
  obtain ⟨cd,q⟩:=Option.isSome_iff_exists.mp hS.cls
  unfold PySem.W.clsIn at q
  split at q
  ·rename_i ho
   exact (PySem.W.Looks.ld (X _ _ ho)).andThen .now
  ·cases q
 have Te:PySem.W.Looks M h (typeOf (.ref e)) (.ref C):=hc ▸ (PySem.W.Looks.ld he).andThen .now
 have L1:=PySem.W.looks_mroIn (M:=M) X hS.base
 have L2:=PySem.W.looks_mroIn (M:=M) X hm
 have LE:PySem.W.Looks M h (isExcClass (.ref S)) true:=Ti.andThen L1
 unfold excMatches
 refine wpAny_bind (T0.at ?_)
 rw [if_neg (by decide)]
 refine wpAny_bind (wpAny_pure (a:=[Value.ref S]) ?_)
 simp only [List.forIn_cons,List.forIn_nil]
 refine wpAny_bind (wpAny_bind (wpAny_bind (LE.at ?_)))
 simp only [Bool.not_true,Bool.false_eq_true,if_false]
 refine wpAny_pure (wpAny_pure (wpAny_bind (Te.at (wpAny_bind (wpAny_bind (wpAny_bind (L2.at ?_)))))))
 simp only [if_true]
 exact wpAny_pure (wpAny_pure (wpAny_pure hq))
def aWu (D:Ends) (i:Nat):Ends:={ nx:=fun σ H=>D.nx (σ.set i none) H,rt:=D.rt,bk:=fun σ H=>D.bk (σ.set i none) H,ct:=fun σ H=>D.ct (σ.set i none) H }
def exE (K:PySem.W.Frag) (S:Addr) (i:Nat) (th:TS) (D:Ends) (σ:St):XK:=fun v o H₁=>∃C e fI,v=.ref C∧o=some e∧XC K C fI∧PySem.W.mroIn K C (.ref S)=some true ∧
 ∀T dx,H₁ e=none→H₁ T=none→T≠e→H₁ dx=some xdA→th (aWu D i) (σ.set i (some (.ref e))) (up2 H₁ e T C dx)
def aWv (K:PySem.W.Frag) (S:Addr) (i:Nat) (tb:St→XK→TS) (th:TS):TS:=fun D σ H=>tb σ (exE K S i th D σ) D σ H
section
variable {X:Cx} {S:Addr} {i:Nat} {x n:Str} {np hpos pos:Pos} {body suite:List Stmt} {b₀:Stmt} {tb:St→XK→TS} {th:TS}
theorem aUp (hst:X.stack=X.env::X.outer) (hfrm:X.env.frame=some X.env.locals) (hN:X.N.Nodup) (hi:X.N[i]?=some n) (hk:X.env.scope.names.lookup n=some .local)
  (hg:Gl X x) (hm:X.mg x=some (.ref S)) (hS:XS X.K S) (hb:∀pins σ₀ E,X.Ok→PSs (qX X pins σ₀ E) body (tb σ₀ E)) (hh:∀e,PSs (rG X e) (b₀::suite) th) (hdb:(x == ("__debug__":Str))=false:=by decide) :
  PS X (.Try body [.ExceptHandler (some (.Name x np)) (some n) (b₀::suite) hpos] [] [] pos) (aWv X.K S i tb th):=by
 intro pins s σ H D I h
 refine wpAny_Try_except (wpAny_mono (hb pins σ (exE X.K S i th D σ) I.ok [] s σ H D I.aWj h) (fun f s1 h1=>?_) fun v s1 h1=>?_)
 ·cases f with
  |next=>
   obtain ⟨σ',H',I',q⟩:=h1
   exact wpAny_execs_nil ⟨σ',H',Inv.aFk I.ok I',q⟩
  |brk=>obtain ⟨σ',H',I',q⟩:=h1;exact ⟨σ',H',Inv.aFk I.ok I',q⟩
  |cont=>obtain ⟨σ',H',I',q⟩:=h1;exact ⟨σ',H',Inv.aFk I.ok I',q⟩
  |ret u=>obtain ⟨v,σ',H',I',r,q⟩:=h1;exact ⟨v,σ',H',Inv.aFk I.ok I',r,q⟩
 ·obtain ⟨e,T,dx,C,H₁,rfl,I1,n1,nT,hTe,hd,C',e',fI,eC,ee,c,hmr,q⟩:=h1
  cases eC;cases ee
  refine aB6 I1 hst hfrm n1 nT hTe fun T' s1' I1' nT' hTe'=>nO I1' hTe' fun s2 I2=>?_
  have I2h:Inv (rG X e) pins σ (up2 H₁ e T' C dx) s2:=I2.aNf
  refine wpAny_handleBy_cons (codeAny_handlers_test ?_) (by intro q;cases q)
  refine qH (X:=rG X e) I2h hg hm ?_ hdb
  have e1:up2 H₁ e T' C dx e=some (yC e T' C dx):=aO
  obtain ⟨vs,hge,hz,hv1⟩:=(I2.hok e _ e1).1
  refine aLl I2.kIn hS hge rfl hmr ?_
  rw [if_pos rfl]
  refine codeAny_handlers_suite_as ?_
  refine nO I2 hTe' fun s2' I3=>?_
  refine aAy I3 hN hi (.inl hk) (v:=.ref e) rfl (fun s3 I4=>?_) (.inr hk)
  refine wpAny_mono (hh e pins s3 _ _ _ I4.aNf (q T' dx n1 nT' hTe' hd)) (fun f s4 h4=>?_) fun _ _ z=>z.elim
  cases f with
  |next=>
   obtain ⟨σ',H',I',q'⟩:=h4
   exact name_goes (Inv.aEs I.ok I') hN hi hk fun s5 I5=>⟨_,H',I5,q'⟩
  |brk=>
   obtain ⟨σ',H',I',q'⟩:=h4
   exact name_goes (Inv.aEs I.ok I') hN hi hk fun s5 I5=>⟨_,H',I5,q'⟩
  |cont=>
   obtain ⟨σ',H',I',q'⟩:=h4
   exact name_goes (Inv.aEs I.ok I') hN hi hk fun s5 I5=>⟨_,H',I5,q'⟩
  |ret u=>
   obtain ⟨v,σ',H',I',r,q'⟩:=h4
   exact name_goes (Inv.aEs I.ok I') hN hi hk fun s5 I5=>⟨v,_,H',I5,r,q'⟩
end
section
variable {X:Cx} {o:Expr} {pos:Pos} {ta:TE}
def aW1 (K:PySem.W.Frag) (ta:TE):TE:=fun σ H Q=>ta σ H fun x H1=>∃e T C dx fI,x=.ref e∧H1 e=some (yC e T C dx)∧XC K C fI∧H1 dx=some xdA∧Q .non H1
theorem aVp (he:PE X o ta) (hb:attributeBase o "act" X.env (eval o X.env)=eval o X.env:=by rfl):PE X (.Attribute o "act" pos) (aW1 X.K ta):=by
 intro pins s σ H Q I h
 refine aSr hb (thn (he pins s σ H _ I h) fun u s1 ⟨x,H1,I1,rx,e,T,C,dx,fI,ex,ea,c,ed,q⟩=>?_)
 subst ex
 obtain rfl:u=Value.ref e:=rx
 obtain ⟨vs,hge,hz,hv1⟩:=(I1.hok e _ ea).1
 obtain ⟨mA,hn,hf⟩:=I1.hok dx _ ed
 have q1:=hf "act"
 have q2:mA "act"=some .none:=by
  cases z:mA "act" with
  |none=>rw [z] at q1;exact False.elim q1
  |some y=>rw [z] at q1;exact congrArg some q1
 exact x_load I1.kIn c hge hn q2 rfl ⟨.non,H1,I1.tok _,rfl,q⟩
def aOr (K:PySem.W.Frag) (D:V) (Du:Value) (b:Bool→Prop):List V→Hp→VK→Prop:=fun xs H Q=>∃e T C dx fI bb,xs=[.ref e,D]∧H e=some (yC e T C dx)∧XC K C fI∧H dx=some xdA∧PySem.W.mroIn K C Du=some bb∧b bb∧Q (.bl bb) H
theorem aGo {D:V} {Du:Value} (hr:∀u,RelV D u→u=Du) (hD:∀(M:Model) (h:Heap),X.K.In h→PySem.W.Looks M h (typeOf Du) (.type "type")) (hT:∀(M:Model) (h:Heap),X.K.In h→PySem.W.Looks M h (isType Du) true) :
  cV X (.builtin "isinstance") (aOr X.K D Du fun _=>True):=by
 rintro pins s σ H xs us Q I r ⟨e,T,C,dx,fI,bb,rfl,he,c,hd,hm,-,q⟩
 cases r with
 |cons r0 r1=>
  cases r1 with
  |@cons _ u2 _ _ r2 r3=>
   cases r3
   obtain rfl:=r0
   have hu:Du=u2:=(hr _ r2).symm
   subst hu
   obtain ⟨vs,hge,hz,hv1⟩:=(I.hok e _ he).1
   have hdx:∃o,s.heap.get? dx=some o:=by
    obtain ⟨mA,⟨o,_,_,ho,_⟩,_⟩:=I.hok dx _ hd
    exact ⟨o,ho⟩
   have g:Meets (Builtin.«isinstance» ⟨[.ref e,Du],[]⟩) (fun _ R s=>X.K.In s.heap∧s.heap.get? e=some { cls:=.ref C,dict:=some dx,data:=.fields vs }∧(∃o,s.heap.get? dx=some o)∧∀t,R (.ok (.ret (.bool bb))) { s with toks:=t }):=
    fun prog w A R s hs=>isinstance_outer (aDa hs.1 c hs.2.1 (fun a z=>by cases z;exact hs.2.2.1) (hD _ _ hs.1) (hT _ _ hs.1) hm fun t=>hs.2.2.2 t) (by intro z;cases z)
   exact call_isinstance g ⟨I.kIn,hge,hdx,fun t=>⟨.bl bb,H,I.tok t,rfl,q⟩⟩
theorem aQ7 {D:Addr} (hS:XS X.K D):cV X (.builtin "isinstance") (aOr X.K (.ref D) (.ref D) fun _=>True):=by
 refine aGo (fun u r=>r) (fun M h k=>PySem.W.looks_typeIn k hS.ty) fun M h k=>?_
 obtain ⟨cd,q⟩:=Option.isSome_iff_exists.mp hS.cls
 unfold PySem.W.clsIn at q
 split at q
 ·rename_i ho
  exact (PySem.W.Looks.ld (k _ _ ho)).andThen .now
 ·cases q
theorem aU1:cV X (.builtin "isinstance") (aOr X.K (.ty "ValueError") (.type "ValueError") fun _=>True):=
 aGo (fun u r=>r) (fun M h k=>PySem.W.Looks.of_pure aS3) fun M h k=>.now
end
end L2
namespace PySem
namespace RvF
end RvF
section
variable {prog:Program} {w:World} {A:Around} {E:Value→Shared→Prop} {s:Shared}
end
end PySem
namespace L2
open PySem PySem.Spec PyProof.Rows
theorem aAj:bootBuiltins "int"=some (.type "int"):=by decide +kernel
theorem aRm:bootBuiltins "bool"=some (.type "bool"):=by decide +kernel
theorem aOt:bootBuiltins "str"=some (.type "str"):=by decide +kernel
theorem aK8:bootBuiltins "list"=some (.type "list"):=by decide +kernel
theorem cJ:bootBuiltins "tuple"=some (.type "tuple"):=by decide +kernel
theorem aQj:bootBuiltins "dict"=some (.type "dict"):=by decide +kernel
theorem aUm:bootBuiltins "zip"=some (.type "zip"):=by decide +kernel
theorem aDq:bootBuiltins "enumerate"=some (.type "enumerate"):=by decide +kernel
theorem bZ:bootBuiltins "isinstance"=some (.builtin "isinstance"):=by decide +kernel
theorem cZ:bootBuiltins "len"=some (.builtin "len"):=by decide +kernel
theorem aIu:bootBuiltins "all"=some (.builtin "all"):=by decide +kernel
theorem aVb:bootBuiltins "any"=some (.builtin "any"):=by decide +kernel
theorem aUo:bootBuiltins "min"=some (.builtin "min"):=by decide +kernel
theorem aLq:bootBuiltins "sorted"=some (.builtin "sorted"):=by decide +kernel
def sgn (x:Str) (i:Nat):Str:=⟨#[x.cps.getD i 0]⟩
theorem aNp {x:Str} {i c:Nat} (h:x.cps[i]?=some c):(⟨#[c]⟩:Str)=sgn x i:=by
 unfold sgn
 rw [Array.getD_eq_getD_getElem?,h]
 rfl
def Its (x:Str):It:=⟨fun i _=>i<x.cps.size,fun i H v H'=>H'=H∧v=.str (sgn x i),fun i _=>x.cps.size≤i⟩
theorem aL7 {P:Program} {w:World} {K:PySem.W.Frag} {tg:Expr} (it:Addr) (x:Str) (t:Tok):Turn P w K tg (Its x) [it] it (fun i h=>h.IsStrIter it "str_ascii_iterator" x t i) where
 mem:=by simp
 obj:=fun i h st b hb=>by
  have e:b=it:=by simpa using hb
  subst e
  obtain ⟨o,e,c,d⟩:=st
  exact ⟨o,e,fun v z=>by rw [d] at z;cases z⟩
 keep:=fun i h h' st k=>let ⟨o,ho,r⟩:=st;⟨o,k it (by simp) o ho,r⟩
 item:=by
  intro X hP hw hK hc i pins s σ H E I hf st hg
  subst hP hw hK
  obtain ⟨f0,f1,f2,f3,f4,f5⟩:=hf it (by simp)
  refine (Walks.strAscii (prog:=X.prog) (w:=X.w) (I.ok.hd hc) it x t).item i s _ _ hg st fun v h' tk hv st' kk=>?_
  obtain ⟨c,u,hcx,rfl⟩:=hv
  have I1:Inv X pins σ H { s with heap:=h',toks:=tk }:=I.turned (fun b o hb e=>kk b o (by simpa using hb) e) f0 f1 f3 f4 f5
  obtain ⟨o,e,c',d⟩:=id st'
  exact ⟨_,rfl,aGq (s:={ s with heap:=h',toks:=tk }) e c' d (by decide) ⟨.str ⟨#[c]⟩,H,I1,⟨u,rfl⟩,⟨rfl,by rw [aNp hcx]⟩,st',fun b hb=>(hf b hb).1⟩⟩
 done:=by
  intro X hP hw hK hc i pins s σ H E I hf st hg
  subst hP hw hK
  obtain ⟨f0,f1,f2,f3,f4,f5⟩:=hf it (by simp)
  exact wpAny_pyNext_ascii_end (I.ok.hd hc) st (Array.getElem?_eq_none_iff.mpr hg) fun h' eb=>⟨rfl,I.turned (t':=s.toks) (fun b o hb e=>eb b o hb e) f0 f1 f3 f4 f5⟩
 self:=fun _ _ _ _ _ st h=>wpAny_pyIter_striter_ascii st h
theorem aMs {P:Program} {w:World} {K:PySem.W.Frag} {tg:Expr} (it:Addr) (x:Str) (t:Tok):Turn P w K tg (Its x) [it] it (fun i h=>h.IsStrIter it "str_iterator" x t i) where
 mem:=by simp
 obj:=fun i h st b hb=>by
  have e:b=it:=by simpa using hb
  subst e
  obtain ⟨o,e,c,d⟩:=st
  exact ⟨o,e,fun v z=>by rw [d] at z;cases z⟩
 keep:=fun i h h' st k=>let ⟨o,ho,r⟩:=st;⟨o,k it (by simp) o ho,r⟩
 item:=by
  intro X hP hw hK hc i pins s σ H E I hf st hg
  subst hP hw hK
  obtain ⟨f0,f1,f2,f3,f4,f5⟩:=hf it (by simp)
  refine (Walks.strWide (prog:=X.prog) (w:=X.w) (I.ok.hd hc) it x t).item i s _ _ hg st fun v h' tk hv st' kk=>?_
  obtain ⟨c,u,hcx,rfl⟩:=hv
  have I1:Inv X pins σ H { s with heap:=h',toks:=tk }:=I.turned (fun b o hb e=>kk b o (by simpa using hb) e) f0 f1 f3 f4 f5
  obtain ⟨o,e,c',d⟩:=id st'
  exact ⟨_,rfl,aGq (s:={ s with heap:=h',toks:=tk }) e c' d (by decide) ⟨.str ⟨#[c]⟩,H,I1,⟨u,rfl⟩,⟨rfl,by rw [aNp hcx]⟩,st',fun b hb=>(hf b hb).1⟩⟩
 done:=by
  intro X hP hw hK hc i pins s σ H E I hf st hg
  subst hP hw hK
  obtain ⟨f0,f1,f2,f3,f4,f5⟩:=hf it (by simp)
  exact wpAny_pyNext_wide_end (I.ok.hd hc) st (Array.getElem?_eq_none_iff.mpr hg) fun h' eb=>⟨rfl,I.turned (t':=s.toks) (fun b o hb e=>eb b o hb e) f0 f1 f3 f4 f5⟩
 self:=fun _ _ _ _ _ st h=>wpAny_pyIter_striter_wide st h
section
variable {X:Cx} {tg:Expr}
def aTu (tl:TE):TI:=fun σ H R=>tl σ H fun x H1=>∃z,x=.str z∧R (Its z) H1
theorem aVu {l:Expr} {tl:TE} (hl:PE X l tl):PI X tg l (aTu tl):=by
 intro pins s σ H R I h
 refine thn (hl pins s σ H _ I h) fun v s1 ⟨x,H1,I1,r1,q1⟩=>?_
 obtain ⟨z,e,q⟩:=q1
 subst e
 obtain ⟨t,rfl⟩:=r1
 have fp:∀b∈[s1.heap.objs.size],sO X pins H1 b:=fun b hb=>by
  have e:b=s1.heap.objs.size:=by simpa using hb
  subst e
  exact I1.aJm (Nat.le_refl _) (I1.hok.fresh (Nat.le_refl _))
 cases ha:z.cps.all (·<128)
 ·exact wpAny_pyIter_wide ha ⟨s1.heap.objs.size,[s1.heap.objs.size],_,_,H1,rfl,I1.kept (t':=s1.toks) fun b o e=>Heap.get?_push_of_some _ e,aMs _ z t,⟨_,Heap.get?_push_size _ rfl,rfl,rfl⟩,fp,q⟩
 ·exact wpAny_pyIter_ascii ha ⟨s1.heap.objs.size,[s1.heap.objs.size],_,_,H1,rfl,I1.kept (t':=s1.toks) fun b o e=>Heap.get?_push_of_some _ e,aL7 _ z t,⟨_,Heap.get?_push_size _ rfl,rfl,rfl⟩,fp,q⟩
def aJs (x:V) (T:String):Option Bool:=match x with
 |.int _=>if T = "int" then some true else if T = "bool" then some false else if T = "str" then some false else none
 |.str _=>if T = "int" then some false else if T = "bool" then some false else if T = "str" then some true else none
 |.bl _=>if T = "int" then some true else if T = "bool" then some true else if T = "str" then some false else none
 |_=>none
def aWi:List V→Hp→VK→Prop:=fun xs H Q=>∃x T b,xs=[x,.ty T]∧aJs x T=some b∧Q (.bl b) H
theorem uR:cV X (.builtin "isinstance") aWi:=by
 intro pins s σ H xs us Q I r h
 obtain ⟨x,T,b,rfl,e,q⟩:=h
 obtain ⟨u,v,rfl,rx,rT⟩:=r.two
 cases rT
 have f0:∀{k:Bool},some k=some b→EP X pins σ Q (.bool k) s:=fun e=>by cases e;exact ⟨.bl _,H,I,rfl,q⟩
 have f1:∀{k:Bool},some k=some b→EP X pins σ Q (.bool k) { s with toks:=s.toks+1 }:=fun e=>by cases e;exact ⟨.bl _,H,I.tok _,rfl,q⟩
 cases x with
 |int i=>
  obtain ⟨t,rfl⟩:=rx
  unfold aJs at e
  dsimp only at e
  split at e
  ·rename_i hT;subst hT;exact IsiPair.int_int (f0 e)
  split at e
  ·rename_i hT;subst hT;exact IsiPair.int_bool (f1 e)
  split at e
  ·rename_i hT;subst hT;exact IsiPair.int_str (f1 e)
  ·cases e
 |str z=>
  obtain ⟨t,rfl⟩:=rx
  unfold aJs at e
  dsimp only at e
  split at e
  ·rename_i hT;subst hT;exact IsiPair.str_int (f1 e)
  split at e
  ·rename_i hT;subst hT;exact IsiPair.str_bool (f1 e)
  split at e
  ·rename_i hT;subst hT;exact IsiPair.str_str (f0 e)
  ·cases e
 |bl z=>
  cases rx
  unfold aJs at e
  dsimp only at e
  split at e
  ·rename_i hT;subst hT;exact IsiPair.bool_int (f0 e)
  split at e
  ·rename_i hT;subst hT;exact IsiPair.bool_bool (f0 e)
  split at e
  ·rename_i hT;subst hT;exact IsiPair.bool_str (f1 e)
  ·cases e
 |_=>cases (show (none:Option Bool)=some b from e)
end
theorem small {n:Nat} (h:n≤1000):n≤sizeLine:=Nat.le_of_lt (fL h)
theorem dN:Vals [] []:=.nil
theorem bO {x:V} {u:Value} {xs:List V} {us:List Value} (r:RelV x u) (t:Vals xs us):Vals (x::xs) (u::us):=.cons r t
def gO:Expr→Bool
 |.Starred ..=>false
 |_=>true
theorem bY {e:Expr} {es:List Expr} {env:Env} (h:gO e=true):starEach (e::es) env=(false,eval e env)::starEach es env:=by
 cases e <;> first|rfl|cases h
theorem aUk {X:Cx} {e:Expr} {es:List Expr} {te:TE} {t:TA} (ha:PE X e te) (hr:PA X es t) (hp:gO e=true:=by rfl) :
  PA X (e::es) (bQ te t):=aSj ha hr (bY hp)
theorem aWh {X:Cx} {x:Str} {v:V} {pos:Pos} (hg:Gl X x) (hm:∃u,X.mg x=some u∧RelV v u) (hd:(x == ("__debug__":Str))=false:=by decide):PE X (.Name x pos) (tC v):=by
 obtain ⟨u,hm,r⟩:=hm
 exact aRb hg hm r hd
section
variable {P:Program} {w:World} {K:PySem.W.Frag} {mg:Str→Option Value} {base:Heap}
def Dn (K:PySem.W.Frag) (mg:Str→Option Value) (x:Str) (st:Stmt) (ps:List Str):Prop:=∃f fd,Fun K x x st f fd∧Binds K fd ps []∧mg x=some (.ref f)
def Ok (P:Program) (w:World) (K:PySem.W.Frag) (mg:Str→Option Value) (base:Heap) (k:Nat) (x:Str) (ps:List Str) (sp:Sp):Prop:=
 ∃f fd,mg x=some (.ref f)∧PySem.W.keepIn K (.ref f)=true∧Binds K fd ps []∧jA P w K mg base CX0 k f fd ps sp
theorem Ok.mono {j k:Nat} {x:Str} {ps:List Str} {sp:Sp} (h:Ok P w K mg base j x ps sp) (hj:j≤k):Ok P w K mg base k x ps sp:=by
 obtain ⟨f,fd,h1,h2,h3,h4⟩:=h
 exact ⟨f,fd,h1,h2,h3,h4.mono hj⟩
theorem Ok.of {x:Str} {st:Stmt} {N ps:List Str} {k:Nat} {sp:Sp} (D:Dn K mg x st ps) (S:aW N ps (aK st)) (len:∀vs H Q E,sp vs H Q E→vs.length=ps.length)
  (hbody:∀(f:Addr) (cdv:Value) (A:Around) (outer:List Env) (s:Shared) (H:Hp) (vs:List V) (Q:VK) (E:XK),Room k (A.deeper (envOfC x (aK st) s.heap.objs.size f cdv))→sp vs H Q E →
   ∃t,PSs (wB CX0 P w K mg base N x (aK st) f cdv A outer s H E).nox (fX st) t∧t { nx:=fun _ H'=>Q .non H',rt:=Q } (start N vs) H):Ok P w K mg base (k+1) x ps sp:=by
 obtain ⟨f,fd,F,B,m⟩:=D
 exact ⟨f,fd,m,F.kp,B,F.ok S len fun cdv A outer s H vs Q E hr h=>hbody f cdv A outer s H vs Q E hr h⟩
end
section
variable {X:Cx} {k:Nat} {ps:List Str} {sp:Sp} {x:Str} {p pos:Pos} {e:Expr} {es:List Expr} {t:TA}
theorem aW5 (G:Ok X.prog X.w X.K X.mg X.base k x ps sp) (hr:Room k X.A) (hg:Gl X x) (ha:PA X (e::es) t) (hdb:(x == ("__debug__":Str))=false:=by decide)
  (he:starEach (e::es) X.env=(false,eval e X.env)::starEach es X.env:=by rfl) (hpl:(backTo pos (starEach es X.env)).any (·.1)=false:=by rfl) :
  PE X (.Call (.Name x p) (e::es) [] pos) (uJ sp [] E0 t):=by
 obtain ⟨f,fd,h1,h2,h3,h4⟩:=G
 exact aKb h4 hr hg h1 h2 h3 .nil aKi ha hdb he hpl
theorem aTo (G:Ok X.prog X.w X.K X.mg X.base k x ps sp) (hr:Room k X.A) (hg:Gl X x) (hdb:(x == ("__debug__":Str))=false:=by decide) :
  PE X (.Call (.Name x p) [] [] pos) (uJ sp [] E0 jB):=by
 obtain ⟨f,fd,h1,h2,h3,h4⟩:=G
 exact aQa h4 hr hg h1 h2 h3 .nil aKi hdb
end
theorem sW {env:Env} (f:Str × NameKind→List (Str × Addr)→Sem (ForInStep (List (Str × Addr))))
  (h1:∀n r,f (n,.free) r=(cellOf env n >>= fun a=>pure (.yield ((n,a)::r)))) (h2:∀n k r,k≠.free→f (n,k) r=pure (.yield r)) :
  ∀(names:List (Str × NameKind)) (acc:List (Str × Addr)),(∀y∈names,y.2=.free→∃c,env.cells.lookup y.1=some c) →
  ∃cl,forIn names acc f=(pure (cl++acc):Sem _)∧(∀p∈cl,env.cells.lookup p.1=some p.2∧(p.1,NameKind.free)∈names)∧∀y,(y,NameKind.free)∈names→∃c,(y,c)∈cl
 |[],acc,_=>⟨[],by simp,fun _ h=>(nomatch h),fun _ h=>(nomatch h)⟩
 |(n,k)::r,acc,h=>by
  by_cases hk:k=.free
  ·subst hk
   obtain ⟨c,hc⟩:=h (n,.free) List.mem_cons_self rfl
   obtain ⟨cl,e,p1,p2⟩:=sW f h1 h2 r ((n,c)::acc) fun y hy=>h y (List.mem_cons_of_mem _ hy)
   refine ⟨cl++[(n,c)],?_,fun p hp=>?_,fun y hy=>?_⟩
   ·rw [List.forIn_cons,h1]
    have e0:cellOf env n=pure c:=by unfold cellOf;rw [hc]
    rw [e0,pure_bind,pure_bind]
    show forIn r ((n,c)::acc) f=_
    rw [e,List.append_assoc]
    rfl
   ·rcases List.mem_append.mp hp with hp|hp
    ·exact ⟨(p1 p hp).1,List.mem_cons_of_mem _ (p1 p hp).2⟩
    ·obtain rfl:=List.mem_singleton.mp hp
     exact ⟨hc,List.mem_cons_self⟩
   ·rcases List.mem_cons.mp hy with e|hy
    ·cases e
     exact ⟨c,by simp⟩
    ·obtain ⟨c',q⟩:=p2 y hy
     exact ⟨c',List.mem_append_left _ q⟩
  ·obtain ⟨cl,e,p1,p2⟩:=sW f h1 h2 r acc fun y hy=>h y (List.mem_cons_of_mem _ hy)
   refine ⟨cl,?_,fun p hp=>⟨(p1 p hp).1,List.mem_cons_of_mem _ (p1 p hp).2⟩,fun y hy=>?_⟩
   ·rw [List.forIn_cons,h2 n k acc hk,pure_bind]
    exact e
   ·rcases List.mem_cons.mp hy with e|hy
    ·cases e
     exact absurd rfl hk
    ·exact p2 y hy
theorem aAq {scope:Scope} {env:Env} (h:∀y∈scope.names,y.2=.free→∃c,env.cells.lookup y.1=some c) :
  ∃cl,closureFor scope env=pure cl∧(∀p∈cl,env.cells.lookup p.1=some p.2∧(p.1,NameKind.free)∈scope.names)∧∀y,(y,NameKind.free)∈scope.names→∃c,(y,c)∈cl:=by
 unfold closureFor
 obtain ⟨cl,e,p1,p2⟩:=sW (env:=env) (fun x r=>match x with|(name,kind)=>if (kind == NameKind.free)=true then do let a ←cellOf env name;pure (.yield ((name,a)::r)) else pure (.yield r))
  (fun n r=>rfl) (fun n k r hk=>by
   have:(k == NameKind.free)=false:=by simpa using hk
   simp only [this,Bool.false_eq_true,if_false]) scope.names [] h
 refine ⟨cl,?_,p1,p2⟩
 rw [List.append_nil] at e
 refine Eq.trans ?_ e
 first
 |rfl
 |simp
theorem lookup_mem {α β:Type} [BEq α] [LawfulBEq α] {a:α} {b:β}:∀{l:List (α × β)},(a,b)∈l→∃b',l.lookup a=some b'
 |(x,y)::r,h=>by
  rw [List.lookup_cons]
  by_cases e:(a == x)=true
  ·exact ⟨y,by rw [e]⟩
  ·have e':(a == x)=false:=by simpa using e
   rw [e']
   rcases List.mem_cons.mp h with z|z
   ·cases z
    simp at e
   ·exact lookup_mem z
theorem vD {env:Env} {y:Str} {k:NameKind}:∀{names:List (Str × NameKind)},names.lookup y=some .free →
  (names.map fun (x:Str × NameKind)=>match x with|(n,k)=>if (k == NameKind.free && env.scope.kind == ScopeKind.function && env.kindOf n == some NameKind.cell) then (n,NameKind.cell) else (n,k)).lookup y=some .cell ∨
  (names.map fun (x:Str × NameKind)=>match x with|(n,k)=>if (k == NameKind.free && env.scope.kind == ScopeKind.function && env.kindOf n == some NameKind.cell) then (n,NameKind.cell) else (n,k)).lookup y=some .free
 |[],h=>by simp at h
 |(n,k')::r,h=>by
  rw [List.map_cons]
  rw [List.lookup_cons] at h
  by_cases e:(y == n)=true
  ·rw [e] at h
   cases h
   by_cases q:((NameKind.free == NameKind.free) && env.scope.kind == ScopeKind.function && env.kindOf n == some NameKind.cell)=true
   ·left
    simp only [q,if_true,List.lookup_cons,e]
   ·right
    have q':=Bool.eq_false_iff.mpr q
    simp only [q',Bool.false_eq_true,if_false,List.lookup_cons,e]
  ·have e':(y == n)=false:=by simpa using e
   rw [e'] at h
   have ih:=vD (env:=env) (k:=k) h
   have key:∀z:Str × NameKind,z.1=n→(List.lookup y (z::(r.map fun (x:Str × NameKind)=>match x with|(n,k)=>if (k == NameKind.free && env.scope.kind == ScopeKind.function && env.kindOf n == some NameKind.cell) then (n,NameKind.cell) else (n,k)))) =
     List.lookup y (r.map fun (x:Str × NameKind)=>match x with|(n,k)=>if (k == NameKind.free && env.scope.kind == ScopeKind.function && env.kindOf n == some NameKind.cell) then (n,NameKind.cell) else (n,k)):=fun z hz=>by
    obtain ⟨z1,z2⟩:=z
    cases hz
    rw [List.lookup_cons,e']
   have kz:(match ((n,k'):Str × NameKind) with|(n,k)=>if (k == NameKind.free && env.scope.kind == ScopeKind.function && env.kindOf n == some NameKind.cell) then (n,NameKind.cell) else (n,k)).1=n:=by
    dsimp only
    split <;> rfl
   rw [key _ kz]
   exact ih
theorem uQ {env:Env} {y:Str}:∀{names:List (Str × NameKind)},(∀z∈names,z.2≠.cell) →
  ((names.map fun (x:Str × NameKind)=>match x with|(n,k)=>if (k == NameKind.free && env.scope.kind == ScopeKind.function && env.kindOf n == some NameKind.cell) then (n,NameKind.cell) else (n,k)).lookup y=some .cell ∨
  (names.map fun (x:Str × NameKind)=>match x with|(n,k)=>if (k == NameKind.free && env.scope.kind == ScopeKind.function && env.kindOf n == some NameKind.cell) then (n,NameKind.cell) else (n,k)).lookup y=some .free)→(y,NameKind.free)∈names
 |[],_,h=>by simp at h
 |(n,k')::r,hc,h=>by
  rw [List.map_cons] at h
  by_cases e:(y == n)=true
  ·have ey:y=n:=by simpa using e
   subst ey
   have hk:k'=.free:=by
    by_cases q:((k' == NameKind.free) && env.scope.kind == ScopeKind.function && env.kindOf y == some NameKind.cell)=true
    ·rw [Bool.and_eq_true,Bool.and_eq_true] at q
     simpa using q.1.1
    ·have q':=Bool.eq_false_iff.mpr q
     simp only [q',Bool.false_eq_true,if_false,List.lookup_cons,e] at h
     rcases h with h|h
     ·cases h
      exact absurd rfl (hc (y,.cell) List.mem_cons_self)
     ·cases h;rfl
   subst hk
   exact List.mem_cons_self
  ·have e':(y == n)=false:=by simpa using e
   have key:∀z:Str × NameKind,z.1=n→(List.lookup y (z::(r.map fun (x:Str × NameKind)=>match x with|(n,k)=>if (k == NameKind.free && env.scope.kind == ScopeKind.function && env.kindOf n == some NameKind.cell) then (n,NameKind.cell) else (n,k)))) =
     List.lookup y (r.map fun (x:Str × NameKind)=>match x with|(n,k)=>if (k == NameKind.free && env.scope.kind == ScopeKind.function && env.kindOf n == some NameKind.cell) then (n,NameKind.cell) else (n,k)):=fun z hz=>by
    obtain ⟨z1,z2⟩:=z
    cases hz
    rw [List.lookup_cons,e']
   have kz:(match ((n,k'):Str × NameKind) with|(n,k)=>if (k == NameKind.free && env.scope.kind == ScopeKind.function && env.kindOf n == some NameKind.cell) then (n,NameKind.cell) else (n,k)).1=n:=by
    dsimp only
    split <;> rfl
   rw [key _ kz] at h
   exact List.mem_cons_of_mem _ (uQ (fun z hz=>hc z (List.mem_cons_of_mem _ hz)) h)
section
variable {prog:Program} {w:World} {A:Around} {E:Value→Shared→Prop} {R:Result→Shared→Prop} {s:Shared}
theorem aB3 {elt target iter:Expr} {ifs:List Expr} {scope:Scope} {pos:Pos} {it acc:Value} {env:Env} (I:Nat→Shared→Prop)
  (turn:∀n s,I n s→wpAny (model prog w) A (pyNext it) (fun r s₁=>match r with
   |none=>R (.ok .next) s₁
   |some v=>wpAny (model prog w) A (letOwnedTupleGo target it v) (fun _ s'=>wpAny (model prog w) A (assign target env v) (fun _ s₂=>
     wpAny (model prog w) A (forIn ifs true fun c r=>if r=true then do let ok ←isTrue c env (eval c env);pure (ForInStep.yield ok) else pure (ForInStep.yield r)) (fun ok s₃=>
      if ok=true then wpAny (model prog w) A (eval elt env) (fun x s₄=>
       wpAny (model prog w) A (call (.builtin "list.append") [acc,x]) (fun _ s₅=>∃m,m<n∧I m s₅) (notedBy (model prog w) A env fun e s'=>R (.error e) s') s₄) (notedBy (model prog w) A env fun e s'=>R (.error e) s') s₃
      else ∃m,m<n∧I m s₃) (notedBy (model prog w) A env fun e s'=>R (.error e) s') s₂) (notedBy (model prog w) A env fun e s'=>R (.error e) s') s') (notedBy (model prog w) A env fun e s'=>R (.error e) s') s₁)
   (notedBy (model prog w) A env fun e s'=>R (.error e) s') s)
  (n:Nat) (h:I n s):codeAny (model prog w) A (.compLoop (.ListComp elt [⟨target,iter,ifs,0⟩] scope pos) 0 it acc env) R s:=by
 refine codeAny_loop rfl I (fun n s hI=>?_) n h
 show wpAny _ A ((compTurn (.ListComp elt [⟨target,iter,ifs,0⟩] scope pos) 0 it acc env).onRaise (fun x=>do noteFrame x env;theTreesLotGoes x)) _ _ s
 refine wpAny_noted ?_
 rw [compTurn_list]
 refine wpAny_bind (wpAny_standAt (wpAny_bind (wpAny_mono (turn n s hI) (fun r s₁ h₁=>?_) fun _ _ h'=>h')))
 cases r with
 |none=>exact wpAny_pure h₁
 |some v=>
  refine wpAny_bind (wpAny_mono h₁ (fun _ s' h₁'=>wpAny_bind (wpAny_mono h₁' (fun _ s₂ h₂=>wpAny_bind (wpAny_mono h₂ (fun ok s₃ h₃=>?_) fun _ _ h'=>h')) fun _ _ h'=>h')) fun _ _ h'=>h')
  cases ok with
  |false=>exact wpAny_pure ⟨rfl,h₃⟩
  |true=>
   exact wpAny_bind (wpAny_bind (wpAny_mono h₃ (fun x s₄ h₄=>wpAny_bind (wpAny_mono h₄ (fun _ s₅ h₅=>wpAny_pure (wpAny_pure ⟨rfl,h₅⟩)) fun _ _ h'=>h')) fun _ _ h'=>h'))
end
def cxC (X:Cx) (N:List Str) (scope:Scope) (cl:List (Str × Addr)) (s:Shared) (H:Hp) (fp:List Addr):Cx:=
 { X with N:=N,s₀:=s,H₀:=H,env:=compEnvC scope cl s.heap.objs.size X.env,outer:=X.stack,stack:=X.stack,ex:=fp,fn:=fun _=>false,pn:=[],xe:=fun _ _=>False }
def aP0 (X:Cx) (ifs:List Expr) (tt:TT):Prop:=
 ∀(pins:List (Addr × Obj)) (s:Shared) (σ:St) (H:Hp) (Q:Bool→Hp→Prop),Inv X pins σ H s→tt σ H Q →
  wpAny (model X.prog X.w) X.A (forIn ifs true fun c r=>if r=true then do let ok ←isTrue c X.env (eval c X.env);pure (ForInStep.yield ok) else pure (ForInStep.yield r)) (TP X pins σ Q) X.xe s
def pM:TT:=fun _ H Q=>Q true H
theorem aUe {X:Cx}:aP0 X [] pM:=fun _ _ _ H _ I h=>wpAny_tests_nil ⟨H,I,h⟩
theorem aTz {X:Cx} {c:Expr} {tc:TT} (h:PT X c tc):aP0 X [c] tc:=fun pins s σ H Q I q=>wpAny_tests_one (h pins s σ H Q I q)
structure zQ (scope:Scope) (N:List Str):Prop where
 cell:∀y∈scope.names,y.2≠.cell
 kind:scope.kind=.function
 names:∀y∈scope.names,y.2=.local→scope.names.lookup y.1=some .local
 free:∀y∈scope.names,y.2=.free→scope.names.lookup y.1=some .free
def Cap (X:Cx) (scope:Scope) (N:List Str) (σ σ':St):Prop:=
 σ'.length=N.length∧∀(i:Nat) (y:Str) (v:V),N[i]?=some y→σ'[i]?=some (some v)→(y,NameKind.free)∈scope.names∧∃j:Nat,X.N[j]?=some y∧σ[j]?=some (some v)∧Vis X.env.scope y
theorem aFs {X:Cx} {pins:List (Addr × Obj)} {σ σ':St} {H:Hp} {s:Shared} {scope:Scope} {N:List Str} {cl:List (Str × Addr)} {fp:List Addr} {h1:Heap} {tk:Nat} {m1:Str→Option Value}
  (I:Inv X pins σ H s) (C:zQ scope N) (hfr:∀y,(y,NameKind.free)∈scope.names→X.env.kindOf y=some .cell∨X.env.kindOf y=some .free)
  (p1:∀p∈cl,X.env.cells.lookup p.1=some p.2∧(p.1,NameKind.free)∈scope.names) (p2:∀y,(y,NameKind.free)∈scope.names→∃c,(y,c)∈cl)
  (cap:Cap X scope N σ σ') (hf:∀b∈fp,sO X pins H b) (hfl:∀b∈fp,b<s.heap.objs.size)
  (hn:h1.Ns s.heap.objs.size m1) (hk:∀b o,s.heap.get? b=some o→h1.get? b=some o) :
  Inv (cxC X N scope cl s H fp) [] σ' H { s with heap:=h1,toks:=tk }:=by
 have ok:=I.ok
 have lk:∀y c,cl.lookup y=some c→X.env.cells.lookup y=some c:=fun y c e=>(p1 _ (PySem.mem_of_lookup e)).1
 have lk2:∀y,(y,NameKind.free)∈scope.names→∃c,cl.lookup y=some c∧X.env.cells.lookup y=some c:=fun y hy=>by
  obtain ⟨c,hc⟩:=p2 y hy
  obtain ⟨c',e⟩:=lookup_mem hc
  exact ⟨c',e,lk y c' e⟩
 have fsub:∀b∈fp,b∉frs X.stack:=fun b hb z=>by
  obtain ⟨f0,f1,f2,_⟩:=hf b hb
  rcases List.mem_cons.mp (I.aJi b z) with e|e
  ·exact f1 e
  ·exact f2 e
 have ok':(cxC X N scope cl s H fp).Ok:=by
  refine ⟨ok.mod,C.kind,ok.glob,ok.blt,Nat.le_refl _,fun x y c h1 h2=>ok.inj x y c (lk x c h1) (lk y c h2),fun y hy=>?_,fun y c h _=>?_,ok.hd,ok.frames,.inl rfl,fun b hb=>?_,I.bs,Nat.le_trans ok.bsz I.sz,
   fun b o e hb=>?_,fsub,I.stack,I.aEg⟩
  ·obtain ⟨c,e,_⟩:=lk2 y (uQ (env:=X.env) C.cell hy)
   exact ⟨c,e⟩
  ·exact absurd (show false=true from h) Bool.false_ne_true
  ·obtain ⟨f0,f1,f2,f3,f4,f5⟩:=hf b hb
   exact ⟨Nat.ne_of_lt (hfl b hb),fun x c e=>f4 x c (lk x c e)⟩
  ·obtain ⟨f0,f1,f2,f3,f4,f5⟩:=hf b hb
   rcases f3 with z|z
   ·exact ok.noex b o e z
   ·exact absurd (Nat.lt_of_lt_of_le (Heap.lt_size e) (Nat.le_trans ok.bsz z)) (Nat.lt_irrefl _)
 refine ⟨ok',rfl,I.bare,Un.kept hk,⟨m1,hn,fun i y v e1 e2 e3=>?_⟩,fun y c e=>?_,I.hok.fresh (Nat.le_refl _),fun y c e=>I.freeC y c (lk y c e),fun p hp=>absurd (show p∈([]:List (Addr × Obj)) from hp) (by simp),I.hok.kept hk,cap.1⟩
 ·obtain ⟨hy,j,e4,e5,e6⟩:=cap.2 i y v e1 e2
  obtain ⟨m,_,hl⟩:=I.loc
  obtain ⟨u,r,l⟩:=hl j y v e4 e5 e6
  refine ⟨u,r,.inr ?_⟩
  rcases l with ⟨k,_⟩|⟨k,c,e,z⟩
  ·rcases hfr y hy with q|q <;> (rw [k] at q;cases q)
  ·obtain ⟨c',e',e''⟩:=lk2 y hy
   rw [e] at e''
   cases e''
   have rl:=vD (env:=X.env) (k:=.free) (C.free (y,.free) hy rfl)
   refine ⟨rl,c,e',?_⟩
   obtain ⟨o,ho,hd⟩:=z
   exact ⟨o,hk _ _ ho,hd⟩
 ·obtain ⟨v,o,ho,hd⟩:=I.cell y c (lk y c e)
  exact ⟨v,o,hk _ _ ho,hd⟩
def jU (X:Cx) (scope:Scope) (N:List Str) (wi:TI) (g:TG) (tt:TT) (te:TE):TE:=fun σ H Q=>∃σ0,Cap X scope N σ σ0∧wi σ H fun J H1=>∀D,H1 D=none→∃W:Nat→Nat→St→Hp→List V→Prop,(∃m,W 0 m σ0 (upd H1 D (.lst [])) []) ∧
 ∀i m σ' H' ys,W i m σ' H' ys→H' D=some (.lst ys)∧((J.stop i H'∧Q (.ref D) H')∨(J.go i H'∧∀x H2,J.yld i H' x H2→g x σ' H2 fun σ3 H3=>tt σ3 H3 fun b H4=>
  if b=true then te σ3 H4 fun y H5=>H5 D=some (.lst ys)∧ys.length<sizeLine∧∃m',m'<m∧W (i+1) m' σ3 (upd H5 D (.lst (ys++[y]))) (ys++[y]) else H4 D=some (.lst ys)∧∃m',m'<m∧W (i+1) m' σ3 H4 ys))
theorem aQk {X:Cx} {elt target iter:Expr} {ifs:List Expr} {scope:Scope} {pos:Pos} {N:List Str} {wi:TI} {g:TG} {tt:TT} {te:TE}
  (C:zQ scope N) (hfr:∀y,(y,NameKind.free)∈scope.names→X.env.kindOf y=some .cell∨X.env.kindOf y=some .free) (hc:X.calm=true)
  (hi:PI X target iter wi)
  (hb:∀cl s H fp,PG (cxC X N scope cl s H fp) target g∧aP0 (cxC X N scope cl s H fp) ifs tt∧PE (cxC X N scope cl s H fp) elt te)
  (hs:∀x,foldedSetIterable iter X.env x=pure x:=by intro _;rfl) :
  PE X (.ListComp elt [⟨target,iter,ifs,0⟩] scope pos) (jU X scope N wi g tt te):=by
 intro pins s σ H Q I hq
 obtain ⟨σ0,cap,hq⟩:=hq
 obtain ⟨cl,hcl,p1,p2⟩:=aAq (scope:=scope) (env:=X.env) (fun y hy hk=>by
  obtain ⟨n,k⟩:=y
  cases hk
  exact I.ok.has n (hfr n hy))
 rw [eval_ListComp]
 refine wpAny_comprehension_free (use:=none) rfl hs hcl C.kind C.names (thn (hi pins s σ H _ I hq) fun xv s1 h1=>thn h1 fun itv s2 h2=>?_)
 obtain ⟨it,fp,tn,J,H2,rfl,I2,T,st2,f2,q2⟩:=h2
 refine wpAny_newObj_type (wpAny_newFunctionEnv C.cell (by intro y hy;simp at hy) (fun h₁ hns₁ hsb₁=>?_) C.kind)
 dsimp only at hns₁ hsb₁ ⊢
 have hD:H2 s2.heap.objs.size=none:=I2.hok.fresh (Nat.le_refl _)
 have I3:Inv X pins σ (upd H2 s2.heap.objs.size (.lst [])) { s2 with heap:=s2.heap.push { cls:=.type "list",dict:=none,data:=.seq ([]:List Value).toArray } }:=
  I2.laid (t':=s2.toks) (fun b u e=>Heap.get?_push_of_some _ e) (Nat.le_refl _) ⟨Nat.zero_le _,[],0,.nil,Heap.get?_push_size _ rfl⟩
 generalize hs3:({ s2 with heap:=s2.heap.push { cls:=.type "list",dict:=none,data:=.seq ([]:List Value).toArray } }:Shared)=s3 at I3
 have hh3:s2.heap.push { cls:=.type "list",dict:=none,data:=.seq ([]:List Value).toArray }=s3.heap:=by rw [←hs3]
 rw [hh3] at hns₁ hsb₁
 have fl2:∀b∈fp,b<s2.heap.objs.size:=fun b hb=>by
  obtain ⟨o,e,_⟩:=T.obj _ _ st2 b hb
  exact Heap.lt_size e
 have fl3:∀b∈fp,b<s3.heap.objs.size:=fun b hb=>by
  rw [←hh3,Heap.size_push]
  exact Nat.lt_succ_of_lt (fl2 b hb)
 have f3:∀b∈fp,sO X pins (upd H2 s2.heap.objs.size (.lst [])) b:=fun b hb=>by
  obtain ⟨f0,fr⟩:=f2 b hb
  exact ⟨by rw [bA (Nat.ne_of_lt (fl2 b hb))];exact f0,fr⟩
 have keep3:∀b o,s3.heap.get? b=some o→h₁.get? b=some o:=fun b o e=>hsb₁.extBut b o (Nat.ne_of_lt (Heap.lt_size e)) (Heap.get?_push_of_some _ e)
 have I4:=aFs (tk:=s3.toks) I3 C hfr p1 p2 cap f3 fl3 hns₁ keep3
 have st4:tn 0 h₁:=T.keep _ _ _ st2 fun b hb o e=>keep3 b o (by rw [←hh3];exact Heap.get?_push_of_some _ e)
 obtain ⟨W,⟨m0,w0⟩,turn⟩:=q2 s2.heap.objs.size hD
 have fpc:∀{H':Hp},(∀b∈fp,H' b=none)→∀b∈fp,sO (cxC X N scope cl s3 (upd H2 s2.heap.objs.size (.lst [])) fp) [] H' b:=fun {H'} hn b hb=>by
  obtain ⟨e1,e2⟩:=I4.ok.exf b hb
  exact ⟨hn b hb,e1,I4.ok.exfs b hb,.inl hb,e2,fun p hp=>absurd (show p∈([]:List (Addr × Obj)) from hp) (by simp)⟩
 have loop:∀s4:Shared,s4={ s3 with heap:=h₁,toks:=s3.toks } →
   codeAny (model X.prog X.w) X.A (.compLoop (.ListComp elt [⟨target,iter,ifs,0⟩] scope pos) 0 (.ref it) (.ref s2.heap.objs.size) (compEnvC scope cl s3.heap.objs.size X.env))
    (compPost (model X.prog X.w) X.A X.xe none (EP X pins σ Q) (.ref s2.heap.objs.size) s3.heap.objs.size) s4:=by
  rintro s4 rfl
  refine aB3 (fun n s'=>∃i σ' H' ys,Inv (cxC X N scope cl s3 (upd H2 s2.heap.objs.size (.lst [])) fp) [] σ' H' s'∧tn i s'.heap∧(∀b∈fp,H' b=none)∧W i n σ' H' ys) ?_ m0 ⟨0,σ0,_,[],I4,st4,fun b hb=>(f3 b hb).1,w0⟩
  rintro n s5 ⟨i,σ5,H5,ys,I5,st5,fr5,w5⟩
  obtain ⟨hacc,w5⟩:=turn i n σ5 H5 ys w5
  have noE:∀{α:Type} {t:Sem α} {Q':α→Shared→Prop} {E':Value→Shared→Prop} {s':Shared},wpAny (model X.prog X.w) X.A t Q' (fun _ _=>False) s'→wpAny (model X.prog X.w) X.A t Q' E' s':=fun h=>wpAny_mono h (fun _ _ q=>q) fun _ _ z=>z.elim
  rcases w5 with ⟨stop,qn⟩|⟨go,step⟩
  ·refine noE (thn (T.done (cxC X N scope cl s3 (upd H2 s2.heap.objs.size (.lst [])) fp) rfl rfl rfl hc i [] s5 σ5 H5 _ I5 (fpc fr5) st5 stop) fun r s6 ⟨hr,I6⟩=>?_)
   subst hr
   obtain ⟨m6,hn6,_⟩:=I6.loc
   refine ⟨m6,hn6,fun h' sb=>?_⟩
   have kp:∀b o,b≠s3.heap.objs.size→s6.heap.get? b=some o→h'.get? b=some o:=fun b o hb e=>sb.extBut b o hb e
   have ne3:∀b o,s3.heap.get? b=some o→b≠s3.heap.objs.size:=fun b o e=>Nat.ne_of_lt (Heap.lt_size e)
   have un:Un (frs X.stack) fp (upd H2 s2.heap.objs.size (.lst [])) H5 s3.heap h':=by
    have u:=I6.base
    exact ⟨fun b o e n hb hx=>kp b o (ne3 b o e) (u.keep b o e n hb hx),fun b o e n hb hx=>by
     obtain ⟨sl,e1⟩:=u.slot b o e n hb hx
     exact ⟨sl,kp b _ (ne3 b o e) e1⟩,u.free,fun b o e hx=>by
     obtain ⟨o',e1⟩:=u.there b o e hx
     exact ⟨o',kp b _ (ne3 b o e) e1⟩,u.tups,u.frzs,u.tbls⟩
   have hok:HOk X.prog X.w H5 h':=fun b u e=>by
    refine (I6.hok b u e).stay (fun c v hc' q=>kp c v ?_ q) (fun _ q=>q) fun _ _ q=>q
    have hfree:H5 s3.heap.objs.size=none:=I6.free
    rintro rfl
    rcases hc' with z|z
    ·rw [z] at hfree;rw [hfree] at e;cases e
    ·rw [hfree] at z;cases z
   have I7:Inv X pins σ H5 { s6 with heap:=h' }:=by
    refine I3.call' (s':={ s6 with heap:=h' }) I6.os un hok I6.bare fun b hb=>?_
    obtain ⟨f0,f1,f2',f3',f4,f5⟩:=f3 b hb
    exact ⟨f3',f1,f4,f5⟩
   exact ⟨.ref s2.heap.objs.size,H5,I7,rfl,qn⟩
  ·refine noE (thn (T.item (cxC X N scope cl s3 (upd H2 s2.heap.objs.size (.lst [])) fp) rfl rfl rfl hc i [] s5 σ5 H5 (fun _ _=>False) I5 (fpc fr5) st5 go) fun r s6 ⟨u,hr,h6⟩=>?_)
   subst hr
   refine noE (thn h6 fun _ s7 ⟨x,H7,I7,r7,y7,st7,fr7⟩=>?_)
   obtain ⟨hg,ht,he⟩:=hb cl s3 (upd H2 s2.heap.objs.size (.lst [])) fp
   have I7':=I7.pinned (fpc fr7) (T.obj _ _ st7)
   have back:∀{σ8:St} {H8:Hp} {s8:Shared},Inv (cxC X N scope cl s3 (upd H2 s2.heap.objs.size (.lst [])) fp) ([]++vR fp s7.heap) σ8 H8 s8→tn (i+1) s8.heap∧∀b∈fp,H8 b=none:=fun {σ8 H8 s8} I8=>
    ⟨T.keep _ _ _ st7 fun b hb o e=>(I8.pin (b,o) (List.mem_append_right _ (List.mem_append_right _ (jH hb e)))).1,fun b hb=>by
     obtain ⟨o,e,d⟩:=T.obj _ _ st7 b hb
     exact (I8.pin (b,o) (List.mem_append_right _ (List.mem_append_right _ (jH hb e)))).2.1⟩
   refine noE (thn (hg _ s7 σ5 H7 x u _ I7' r7 (step x H7 y7)) fun _ s8 ⟨σ8,H8,I8,q8⟩=>?_)
   refine noE (thn (ht _ s8 σ8 H8 _ I8 q8) fun b s9 ⟨H9,I9,q9⟩=>?_)
   cases b with
   |false=>
    rw [if_neg Bool.false_ne_true] at q9 ⊢
    obtain ⟨_,m',hm,w9⟩:=q9
    exact ⟨m',hm,i+1,σ8,H9,ys,I9.lG,(back I9).1,(back I9).2,w9⟩
   |true=>
    rw [if_pos rfl] at q9 ⊢
    refine noE (thn (he _ s9 σ8 H9 _ I9 q9) fun yv s10 ⟨y,H10,I10,r10,hacc10,hlen,m',hm,w10⟩=>?_)
    refine noE (thn (wK _ s10 σ8 H10 (.ref s2.heap.objs.size) [y] (.ref s2.heap.objs.size) [yv] (fun _ H11=>H11=upd H10 s2.heap.objs.size (.lst (ys++[y]))) I10 rfl (.cons r10 .nil) ⟨_,_,_,rfl,rfl,hacc10,hlen,rfl⟩) fun _ s11 ⟨z,H11,I11,_,e11⟩=>?_)
    subst e11
    exact ⟨m',hm,i+1,σ8,_,ys++[y],I11.lG,(back I11).1,(back I11).2,w10⟩
 have fin:=codeAny_compStart_list (loop { s3 with heap:=h₁,toks:=s3.toks } rfl) (T.self _ _ _ _ _ st4 (loop { s3 with heap:=h₁,toks:=s3.toks } rfl))
 subst hs3
 exact fin
end L2
namespace PySem
open Sem (wp)
namespace IfF
theorem aP7:typeLookup (.type "function") "__class__"=pure (some (.builtin "object.__class__")):=by rw [typeLookup_type,builtinLookup_eq_fast];kernel_rfl
theorem yG:Slot "function" "__getattribute__" "object.__getattribute__":=
 .of (owner:="object") (n:="__getattribute__") (by rw [typeLookup_type,builtinLookup_eq_fast];kernel_rfl) (by decide +kernel) (by decide +kernel) (by decide +kernel)
  (by first|exact .inl (by decide +kernel)|exact .inr (by decide +kernel)) (by rw [isSubtype_type];kernel_rfl)
theorem aPa:entryFor table "object.__getattribute__"=some Builtin.«object.__getattribute__»:=entryFor_of_tree (by kernel_rfl)
theorem xY:isSubtype (.type "function") (.type (".".intercalate ("object.__class__".cutAt '.').dropLast))=pure true:=by
 rw [F.owner_object_class,isSubtype_type];kernel_rfl
theorem sub_int:isSubtype (.type "function") (.type "int")=pure false:=by rw [isSubtype_type];kernel_rfl
theorem sub_bool:isSubtype (.type "function") (.type "bool")=pure false:=by rw [isSubtype_type];kernel_rfl
theorem aR2:isSubtype (.type "function") (.type "str")=pure false:=by rw [isSubtype_type];kernel_rfl
end IfF
section
variable {prog:Program} {w:World} {A:Around} {E:Value→Shared→Prop} {h:Heap} {g:Array GenState} {d:Drawn} {t:Nat} {os:OsState} {a:Addr} {o:Obj}
theorem aDk {R:Result→Shared→Prop} (hx:h.get? a=some o) (hc:o.cls=.type "function") (hq:R (.ok (.ret (.type "function"))) ⟨h,g,d,t,os⟩) :
  codeAny (model prog w) A (.call (.builtin "getset_descriptor.__get__") ⟨[.builtin "object.__class__",.ref a,.type "function"],[]⟩) R ⟨h,g,d,t,os⟩:=by
 have hT:(⟨h,g,d,t,os⟩:Shared).TypeIs (.ref a) "function":=⟨_,hx,hc⟩
 have hT5:(⟨h,g,d,t,os⟩:Shared).TypeIs (.builtin "object.__class__") "getset_descriptor":=F.typeOf_object_class
 have f8:=IfF.xY
 refine codeAny_call_builtin F.slot_gs_get.plain F.entry_gs_get (F.slot_gs_get.check _ _ _ _ _ _ _ _ hT5 (F.args_gs_get _ _ _) ?_)
 repeat (any_goals (first|assumption|wp_step))
 refine ⟨Code.quiet_builtin _ (by decide +kernel),codeAny_builtin F.entry_object_class ?_⟩
 repeat (any_goals (first|assumption|wp_step))
theorem zB {tk:Tok} {Q:Fin→Shared→Prop} (hx:h.get? a=some o) (hc:o.cls=.type "function") (hq:Q (.done (.ret (.type "function"))) ⟨h,g,d,t,os⟩) :
  wpAny (model prog w) A (Builtin.«object.__getattribute__» ⟨[.ref a,.str "__class__" tk],[]⟩) Q E ⟨h,g,d,t,os⟩:=by
 have hT:(⟨h,g,d,t,os⟩:Shared).TypeIs (.ref a) "function":=⟨_,hx,hc⟩
 have hT5:(⟨h,g,d,t,os⟩:Shared).TypeIs (.builtin "object.__class__") "getset_descriptor":=F.typeOf_object_class
 have f4:=IfF.aP7
 have f5:=F.typeOf_object_class
 have f6:=F.slot_gs_get.lookup
 have f7:=F.slot_gs_set.lookup
 repeat (any_goals (first|assumption|wp_step))
 refine aDk hx hc ?_
 repeat (any_goals (first|assumption|wp_step))
theorem aEx {tk:Tok} {Q:Value→Shared→Prop} (hx:h.get? a=some o) (hc:o.cls=.type "function") (hq:Q (.type "function") ⟨h,g,d,t,os⟩):wpAny (model prog w) A (getAttrBy (.ref a) (.str "__class__" tk) false) Q E ⟨h,g,d,t,os⟩:=by
 have hT:(⟨h,g,d,t,os⟩:Shared).TypeIs (.ref a) "function":=⟨_,hx,hc⟩
 have f2:=IfF.yG.lookup
 have f3:=IfF.yG.bind (.ref a)
 repeat (any_goals (first|assumption|wp_step))
 refine codeAny_call_builtin IfF.yG.plain IfF.aPa (IfF.yG.check _ _ _ _ _ _ _ _ hT (F.args_object_getattribute_2 _ _) (zB hx hc ?_))
 repeat (any_goals (first|assumption|wp_step))
theorem aBg {Q:Option Value→Shared→Prop} (hx:h.get? a=some o) (hc:o.cls=.type "function") (hq:Q (some (.type "function")) ⟨h,g,d,t+1,os⟩):wpAny (model prog w) A (getAttr? (.ref a) "__class__") Q E ⟨h,g,d,t,os⟩:=by
 unfold getAttr? getAttrBy?
 repeat (any_goals (first|assumption|with_reducible apply aEx hx hc|wp_step))
theorem aA9 {T:String} {dep:Int} {tk:Tok} {Q:Fin→Shared→Prop} (hx:h.get? a=some o) (hc:o.cls=.type "function") (hne:(Value.type "function" == Value.type T)=false) (hty:typeOf (.type T)=pure (.type "type"))
  (hsub:isSubtype (.type "function") (.type T)=pure false) (hq:Q (.done (.ret (.bool false))) ⟨h,g,d,t+1,os⟩) :
  wpAny (model prog w) A (Builtin.«isinstance.nested» ⟨[.ref a,.type T,.int dep tk],[]⟩) Q E ⟨h,g,d,t,os⟩:=by
 have hT:(⟨h,g,d,t,os⟩:Shared).TypeIs (.ref a) "function":=⟨_,hx,hc⟩
 repeat (any_goals (first|assumption|with_reducible apply aBg hx hc|wp_step))
end
theorem nY {a:Addr} {T:String} (hne:(Value.type "function" == Value.type T)=false) (hty:typeOf (.type T)=pure (.type "type")) (hsub:isSubtype (.type "function") (.type T)=pure false) :
  Meets (Builtin.«isinstance» ⟨[.ref a,.type T],[]⟩) (fun _ R s=>(∃o,s.heap.get? a=some o∧o.cls=.type "function")∧R (.ok (.ret (.bool false))) { s with toks:=s.toks+1 }):=
 fun _ _ _ _ s hs=>by
  obtain ⟨h,g,d,t,os⟩:=s
  obtain ⟨⟨o,hx,hc⟩,hq⟩:=hs
  exact isinstance_outer (aA9 hx hc hne hty hsub hq)
section
variable {prog:Program} {w:World} {A:Around} {E:Value→Shared→Prop} {s:Shared} {Q:Value→Shared→Prop} {a:Addr} {o:Obj}
theorem aJr (hx:s.heap.get? a=some o) (hc:o.cls=.type "function") (h:Q (.bool false) { s with toks:=s.toks+1 }):wpAny (model prog w) A (call (.builtin "isinstance") [.ref a,.type "int"]) Q E s:=
 call_isinstance (nY (by decide) F.isi_meta_int IfF.sub_int) ⟨⟨o,hx,hc⟩,h⟩
theorem aGv (hx:s.heap.get? a=some o) (hc:o.cls=.type "function") (h:Q (.bool false) { s with toks:=s.toks+1 }):wpAny (model prog w) A (call (.builtin "isinstance") [.ref a,.type "bool"]) Q E s:=
 call_isinstance (nY (by decide) F.isi_meta_bool IfF.sub_bool) ⟨⟨o,hx,hc⟩,h⟩
theorem aJg (hx:s.heap.get? a=some o) (hc:o.cls=.type "function") (h:Q (.bool false) { s with toks:=s.toks+1 }):wpAny (model prog w) A (call (.builtin "isinstance") [.ref a,.type "str"]) Q E s:=
 call_isinstance (nY (by decide) F.isi_meta_str IfF.aR2) ⟨⟨o,hx,hc⟩,h⟩
end
end PySem
namespace L2
open PySem PySem.Spec PyProof.Rows
section
variable {X:Cx}
theorem PE.imp {e:Expr} {t t':TE} (h:PE X e t) (k:∀σ H Q,t' σ H Q→t σ H Q):PE X e t':=fun pins s σ H Q I q=>h pins s σ H Q I (k σ H Q q)
def aXx (K:PySem.W.Frag):List V→Hp→VK→Prop:=fun xs H Q=>∃(p:Addr) (bs:List Bool),xs=[.ref p]∧SqL K H p (bs.map V.bl)∧Q (.bl (bs.all id)) H
theorem all_range (bs:List Bool):(List.range bs.length).all (fun i=>bs.getD i false)=bs.all id:=by
 rw [Bool.eq_iff_iff,List.all_eq_true,List.all_eq_true]
 constructor
 ·intro h b hb
  obtain ⟨i,hi,e⟩:=List.mem_iff_getElem.mp hb
  have:=h i (List.mem_range.mpr hi)
  rw [List.getD_eq_getElem?_getD,List.getElem?_eq_getElem hi] at this
  rw [←e]
  exact this
 ·intro h i hi
  have hi:=List.mem_range.mp hi
  rw [List.getD_eq_getElem?_getD,List.getElem?_eq_getElem hi]
  exact h _ (List.getElem_mem hi)
theorem aAn (hc:X.calm=true):cV X (.builtin "all") (aXx X.K):=by
 intro pins s σ H xs us Q I r h
 obtain ⟨p,bs,rfl,hq,q⟩:=h
 obtain ⟨u,rfl,rx⟩:=r.one
 cases rx
 obtain ⟨its,rv,pl,hz⟩:=I.list hq
 have hl:=rv.length
 rw [List.length_map] at hl
 have hne:p≠s.heap.objs.size:=by
  obtain ⟨o,ho,_⟩:=pl.isList
  exact Nat.ne_of_lt (Heap.lt_size ho)
 refine call_all_walk (wpAny_pyIter_list pl.isList ?_)
 refine ⟨s.heap.objs.size,_,_,_,_,_,fun i=>bs.getD i false,rfl,Walks.list (show X.A.in1.handled=none from I.ok.hd hc) _ p hne its.toArray,⟨⟨_,Heap.get?_push_size _ rfl,rfl,rfl⟩,?_⟩,?_,fun h' tk kp=>?_⟩
 ·exact pl.isList.at fun o e=>Heap.get?_push_of_some _ e
 ·intro i v s' Q' E' hv hq'
  have hv':its[i]?=some v:=by simpa using hv
  have hi:i<bs.length:=by rw [hl];exact (List.getElem?_eq_some_iff.mp hv').1
  obtain ⟨u,hu,ru⟩:=rv.get (i:=i) (x:=.bl bs[i]) (by rw [List.getElem?_map,List.getElem?_eq_getElem hi];rfl)
  rw [hv'] at hu
  cases hu
  cases ru
  have e:bs.getD i false=bs[i]:=by rw [List.getD_eq_getElem?_getD,List.getElem?_eq_getElem hi];rfl
  replace hq':Q' (bs.getD i false) s':=hq'
  rw [e] at hq'
  exact wpAny_truthy_bool hq'
 ·have e:(List.range its.toArray.size).all (fun i=>bs.getD i false)=bs.all id:=by
   rw [List.size_toArray,←hl];exact all_range bs
  rw [e]
  refine ⟨.bl (bs.all id),H,?_,rfl,q⟩
  exact I.kept fun b o eo=>kp b o (by
   intro z
   have:b=s.heap.objs.size:=by simpa using z
   rw [this] at eo
   exact absurd (Heap.lt_size eo) (Nat.lt_irrefl _)) (Heap.get?_push_of_some _ eo)
inductive Rk (K:PySem.W.Frag) (H:Hp):V→String→Prop
 |non:Rk K H .non "NoneType"
 |lst {a xs}:SqL K H a xs→Rk K H (.ref a) "list"
 |tup {a xs}:SqT K H a xs→Rk K H (.ref a) "tuple"
 |dct {a kvs}:H a=some (.dK kvs)→Rk K H (.ref a) "dict"
 |fn {a o}:K.lookup a=some o→o.cls=.type "function"→Rk K H (.ref a) "function"
def aS8 (K:PySem.W.Frag):List V→Hp→VK→Prop:=fun xs H Q=>∃x k T,xs=[x,.ty T]∧Rk K H x k∧(T = "int"∨T = "bool"∨T = "str")∧Q (.bl false) H
theorem qN:cV X (.builtin "isinstance") (aS8 X.K):=by
 intro pins s σ H xs us Q I r h
 obtain ⟨x,k,T,rfl,hx,hT,q⟩:=h
 obtain ⟨u,v,rfl,rx,rT⟩:=r.two
 cases rT
 have f1:EP X pins σ Q (.bool false) { s with toks:=s.toks+1 }:=⟨.bl _,H,I.tok _,rfl,q⟩
 cases hx with
 |non=>
  cases rx
  rcases hT with rfl|rfl|rfl
  ·exact IsiPair.NoneType_int f1
  ·exact IsiPair.NoneType_bool f1
  ·exact IsiPair.NoneType_str f1
 |lst hq=>
  cases rx
  obtain ⟨its,rv,⟨o,n,e,c,_⟩,hz⟩:=I.list hq
  rcases hT with rfl|rfl|rfl
  ·exact IsiPair.list_int e c f1
  ·exact IsiPair.list_bool e c f1
  ·exact IsiPair.list_str e c f1
 |tup hq=>
  cases rx
  obtain ⟨its,rv,⟨o,e,c,_⟩,hz⟩:=I.tuple hq
  rcases hT with rfl|rfl|rfl
  ·exact IsiPair.tuple_int e c f1
  ·exact IsiPair.tuple_bool e c f1
  ·exact IsiPair.tuple_str e c f1
 |dct hq=>
  cases rx
  obtain ⟨_,_,_,_,o,_,_,e,ex,_⟩:=I.hok _ _ hq
  rcases hT with rfl|rfl|rfl
  ·exact IsiPair.dict_int e ex.1 f1
  ·exact IsiPair.dict_bool e ex.1 f1
  ·exact IsiPair.dict_str e ex.1 f1
 |fn hk hc=>
  cases rx
  have e:=I.kIn _ _ hk
  rcases hT with rfl|rfl|rfl
  ·exact aJr e hc f1
  ·exact aGv e hc f1
  ·exact aJg e hc f1
end
theorem mV {X:Cx} {scope:Scope} (h:∀z∈scope.names,z.2≠.free):∀y,(y,NameKind.free)∈scope.names→X.env.kindOf y=some .cell∨X.env.kindOf y=some .free:=fun y hy=>absurd rfl (h _ hy)
theorem fC {X:Cx} {scope:Scope} (sc:Scope) (e:X.env.scope=sc) (h:∀z∈scope.names,z.2=.free→sc.names.lookup z.1=some .cell∨sc.names.lookup z.1=some .free) :
  ∀y,(y,NameKind.free)∈scope.names→X.env.kindOf y=some .cell∨X.env.kindOf y=some .free:=fun y hy=>by
 show X.env.scope.names.lookup y=some .cell∨X.env.scope.names.lookup y=some .free
 rw [e]
 exact h _ hy rfl
theorem Same.bB {K:PySem.W.Frag} {H H':Hp} {a:Addr} {xs:List V} (e:Same H H') (h:SqT K H a xs):SqT K H' a xs:=by
 rcases h with (h|⟨o,h⟩)|h
 ·exact .inl (.inl (e _ _ h))
 ·exact .inl (.inr ⟨o,e _ _ h⟩)
 ·exact .inr h
theorem cC {H:Hp} {p:Addr} (h:H p=none) (o:HO):Same H (upd H p o):=fun b u q=>by rw [bA (bH q h)];exact q
theorem Rk.same {K:PySem.W.Frag} {H H':Hp} {v:V} {k:String} (e:Same H H') (h:Rk K H v k):Rk K H' v k:=by
 cases h with
 |non=>exact .non
 |lst q=>exact .lst (e.seq q)
 |tup q=>exact .tup (e.bB q)
 |dct q=>exact .dct (e _ _ q)
 |fn q c=>exact .fn q c
theorem aMp {X:Cx} {scope:Scope} {x:Str} {σ:St}:Cap X scope [x] σ [none]:=⟨rfl,fun i y v _ h2=>by
 cases i with
 |zero=>cases h2
 |succ i=>cases h2⟩
section
theorem aLo {X:Cx} {scope:Scope} {N:List Str} {wi:TI} {te:TE} {σ:St} {H:Hp} {Q:VK} (xs:List V) (f:V→V) (σ0:St) (cap:Cap X scope N σ σ0) (hsz:xs.length≤sizeLine)
  (hw:∀R:It→Hp→Prop,(∀J:It,(∀H' i x,Same H H'→xs[i]?=some x→J.go i H'∧∀y H2,J.yld i H' y H2→H2=H'∧y=x)→(∀H',Same H H'→J.stop xs.length H')→R J H)→wi σ H R)
  (he:∀x∈xs,∀H' R l,Same H H'→R (f x) H'→te ((σ0.set 0 l).set 0 (some x)) H' R) (h0:σ0[0]?=some none)
  (q:∀D,H D=none→Q (.ref D) (upd H D (.lst (xs.map f)))) :
  jU X scope N wi (cH 0) pM te σ H Q:=by
 refine ⟨σ0,cap,hw _ fun J go stop D hD=>?_⟩
 have sm:∀ys:List V,Same H (upd H D (.lst ys)):=fun ys b o e=>by rw [bA (bH e hD)];exact e
 refine ⟨fun i m σ' H' ys=>i≤xs.length∧m=xs.length - i∧(∃l,σ'=σ0.set 0 l)∧H'=upd H D (.lst ys)∧ys=(xs.take i).map f,⟨xs.length,Nat.zero_le _,rfl,⟨none,?_⟩,rfl,rfl⟩,?_⟩
 ·refine (List.ext_getElem? fun j=>?_)
  rw [List.getElem?_set]
  split
  ·rename_i hj
   subst hj
   split
   ·exact h0
   ·rename_i hlt
    exact List.getElem?_eq_none_iff.mpr (by omega)
  ·rfl
 ·rintro i m σ' H' ys ⟨hi,rfl,⟨l,rfl⟩,rfl,rfl⟩
  refine ⟨aO,?_⟩
  by_cases hlt:i<xs.length
  ·right
   obtain ⟨g1,g2⟩:=go (upd H D (.lst ((xs.take i).map f))) i xs[i] (sm _) (List.getElem?_eq_getElem hlt)
   refine ⟨g1,fun x H2 hy=>?_⟩
   obtain ⟨rfl,rfl⟩:=g2 x H2 hy
   unfold cH pM
   dsimp only
   rw [if_pos rfl]
   refine he xs[i] (List.getElem_mem hlt) _ _ l (sm _) ⟨aO,?_,xs.length - (i+1),by omega,hlt,rfl,⟨some xs[i],?_⟩,?_,?_⟩
   ·rw [List.length_map,List.length_take];omega
   ·rw [List.set_set]
   ·rw [aJ5]
   ·rw [List.take_add_one,List.getElem?_eq_getElem hlt,List.map_append]
    rfl
  ·left
   have e:i=xs.length:=by omega
   subst e
   refine ⟨stop _ (sm _),?_⟩
   rw [List.take_length]
   exact q D hD
theorem aTe {z:Str} {tl:TE} {σ:St} {H:Hp} (h:∀R:VK,R (.str z) H→tl σ H R) (R:It→Hp→Prop)
  (q:∀J:It,(∀H' i x,Same H H'→((List.range z.cps.size).map fun i=>V.str (sgn z i))[i]?=some x→J.go i H'∧∀y H2,J.yld i H' y H2→H2=H'∧y=x) →
   (∀H',Same H H'→J.stop ((List.range z.cps.size).map fun i=>V.str (sgn z i)).length H')→R J H):aTu tl σ H R:=by
 refine h _ ⟨z,rfl,q _ (fun H' i x _ e=>?_) fun H' _=>?_⟩
 ·rw [List.getElem?_map] at e
  have hi:i<z.cps.size:=by
   cases hr:(List.range z.cps.size)[i]? with
   |none=>rw [hr] at e;cases e
   |some j=>have:=(List.getElem?_eq_some_iff.mp hr).1;rwa [List.length_range] at this
  rw [List.getElem?_range hi] at e
  cases e
  exact ⟨hi,fun y H2 hy=>hy⟩
 ·rw [List.length_map,List.length_range]
  exact Nat.le_refl _
theorem aQf {K:PySem.W.Frag} {a:Addr} {xs:List V} {tl:TE} {σ:St} {H:Hp} (hS:∀H',Same H H'→SqL K H' a xs) (h:∀R:VK,R (.ref a) H→tl σ H R) (R:It→Hp→Prop)
  (q:∀J:It,(∀H' i x,Same H H'→xs[i]?=some x→J.go i H'∧∀y H2,J.yld i H' y H2→H2=H'∧y=x)→(∀H',Same H H'→J.stop xs.length H')→R J H):qW K tl σ H R:=by
 refine h _ ⟨a,rfl,⟨xs,hS H (Same.refl H)⟩,q _ (fun H' i x s e=>⟨⟨xs,x,hS H' s,e⟩,fun y H2 hy=>?_⟩) fun H' s=>⟨xs,hS H' s,Nat.le_refl _⟩⟩
 obtain ⟨e1,e2⟩:=hy
 have e3:=e2 xs (hS H' s)
 rw [e] at e3
 cases e3
 exact ⟨e1,rfl⟩
end
section
variable {κ:Type} [DecidableEq κ]
def nC (kvs:List (κ × V)) (k:κ):Option V:=(kvs.find? fun kv=>decide (kv.1=k)).map (·.2)
def putK (kvs:List (κ × V)) (k:κ) (v:V):List (κ × V):=
 if (kvs.any fun kv=>decide (kv.1=k))=true then kvs.map (fun kv=>if kv.1=k then (kv.1,v) else kv) else kvs++[(k,v)]
theorem pY {p:κ × V} {r:List (κ × V)} {k:κ} (e:p.1=k):nC (p::r) k=some p.2:=by simp [nC,List.find?_cons,e]
theorem pQ {p:κ × V} {r:List (κ × V)} {k:κ} (e:¬ p.1=k):nC (p::r) k=nC r k:=by simp [nC,List.find?_cons,e]
theorem tR (k:κ):∀kvs:List (κ × V),(kvs.any fun kv=>decide (kv.1=k))=(nC kvs k).isSome
 |[]=>rfl
 |p::r=>by
  rw [List.any_cons]
  by_cases e:p.1=k
  ·simp only [pY e,decide_eq_true e,Bool.true_or,Option.isSome_some]
  ·rw [pQ e,decide_eq_false e,Bool.false_or];exact tR k r
theorem pJ (kvs:List (κ × V)) (k:κ) (v:V):(putK kvs k v).length≤kvs.length+1:=by
 unfold putK
 split
 ·rw [List.length_map];omega
 ·rw [List.length_append,List.length_cons,List.length_nil];omega
theorem aGe {kvs:List (κ × V)} {k:κ} (v:V) (h:nC kvs k=none):putK kvs k v=kvs++[(k,v)]:=by
 unfold putK
 rw [tR,h]
 exact if_neg (by decide)
theorem xZ.aLm {o:Option V} {u:Option Value} (r:xZ o u):o.isSome=u.isSome:=by
 cases o with
 |none=>cases u with
  |none=>rfl
  |some _=>exact (show False from r).elim
 |some _=>cases u with
  |none=>exact (show False from r).elim
  |some _=>rfl
theorem KV.val {kvs:List (κ × V)} {vs:List (κ × Value)} (r:KV kvs vs) (k:κ):xZ (nC kvs k) (valueAt vs k):=by
 unfold KV at r
 induction r with
 |nil=>exact True.intro
 |@cons p q ps qs h t ih=>
  obtain ⟨h1,h2⟩:=h
  by_cases e:p.1=k
  ·have e':q.1=k:=h1.symm.trans e
   have b:valueAt (q::qs) k=some q.2:=by simp [valueAt,List.find?_cons,e']
   rw [pY e,b];exact h2
  ·have e':¬ q.1=k:=fun z=>e (h1.trans z)
   have b:valueAt (q::qs) k=valueAt qs k:=by simp [valueAt,List.find?_cons,e']
   rw [pQ e,b];exact ih
theorem KV.any {kvs:List (κ × V)} {vs:List (κ × Value)} (r:KV kvs vs) (k:κ):(kvs.any fun kv=>decide (kv.1=k))=vs.any fun kv=>decide (kv.1=k):=by
 unfold KV at r
 induction r with
 |nil=>rfl
 |cons h t ih=>rw [List.any_cons,List.any_cons,ih,h.1]
theorem KV.repl {kvs:List (κ × V)} {vs:List (κ × Value)} (r:KV kvs vs) (k:κ) {y:V} {u:Value} (ry:RelV y u) :
  KV (kvs.map fun kv=>if kv.1=k then (kv.1,y) else kv) (vs.map fun kv=>if kv.1=k then (kv.1,u) else kv):=by
 unfold KV at r ⊢
 induction r with
 |nil=>exact .nil
 |@cons p q ps qs h t ih=>
  rw [List.map_cons,List.map_cons]
  refine .cons ?_ ih
  obtain ⟨h1,h2⟩:=h
  by_cases e:p.1=k
  ·rw [if_pos e,if_pos (h1.symm.trans e)];exact ⟨h1,ry⟩
  ·rw [if_neg e,if_neg (fun z=>e (h1.trans z))];exact ⟨h1,h2⟩
theorem KV.put {kvs:List (κ × V)} {vs:List (κ × Value)} (r:KV kvs vs) (k:κ) {y:V} {u:Value} (ry:RelV y u):KV (putK kvs k y) (stored vs k u):=by
 unfold putK stored
 rw [r.any k]
 by_cases e:(vs.any fun kv=>decide (kv.1=k))=true
 ·rw [if_pos e,if_pos e];exact r.repl k ry
 ·rw [if_neg e,if_neg e];exact Paired.snoc r ⟨rfl,ry⟩
theorem KV.keys {kvs:List (κ × V)} {vs:List (κ × Value)} (r:KV kvs vs):kvs.map (·.1)=vs.map (·.1):=by
 unfold KV at r
 induction r with
 |nil=>rfl
 |cons h t ih=>rw [List.map_cons,List.map_cons,ih,h.1]
theorem KV.length {kvs:List (κ × V)} {vs:List (κ × Value)} (r:KV kvs vs):kvs.length=vs.length:=Paired.length r
end
theorem aKo {P:Program} {w:World} {k:Key} {u:Value} (r:RelV (kV k) u):(dR P w).is k u=true:=by
 cases k with
 |inl i=>obtain ⟨t,e⟩:=(show ∃t,u=Value.int i t from r);subst e;exact aHl P w i t
 |inr x=>obtain ⟨t,e⟩:=(show ∃t,u=Value.str x t from r);subst e;exact aHe P w x t
theorem aCq {P:Program} {w:World}:∀{ks:List Key} {us:List Value},Vals (ks.map kV) us→ItemsAre (dR P w) ks us
 |[],_,r=>by rw [List.map_nil] at r;cases r;exact .nil
 |k::ks,_,r=>by
  rw [List.map_cons] at r
  cases r with
  |cons h t=>exact .cons (aKo h) (aCq t)
abbrev KT (H:Hp):List (List Key × V)→List (List Key × Addr × Value)→Prop:=Paired fun p q=>p.1=q.1∧H q.2.1=some (.tup (p.1.map kV))∧RelV p.2 q.2.2
theorem KT.val {H:Hp} {kvs:List (List Key × V)} {xs:List (List Key × Addr × Value)} (r:KT H kvs xs) (k:List Key):xZ (nC kvs k) ((atKey xs k).map (·.2)):=by
 induction r with
 |nil=>exact True.intro
 |@cons p q ps qs h t ih=>
  obtain ⟨h1,_,h2⟩:=h
  by_cases e:p.1=k
  ·have e':q.1=k:=h1.symm.trans e
   have b:atKey (q::qs) k=some q.2:=by simp [atKey,List.find?_cons,e']
   rw [pY e,b];exact h2
  ·have e':¬ q.1=k:=fun z=>e (h1.trans z)
   have b:atKey (q::qs) k=atKey qs k:=by simp [atKey,List.find?_cons,e']
   rw [pQ e,b];exact ih
theorem KT.repl {H:Hp} {kvs:List (List Key × V)} {xs:List (List Key × Addr × Value)} (r:KT H kvs xs) (k:List Key) {y:V} {u:Value} (ry:RelV y u) :
  KT H (kvs.map fun kv=>if kv.1=k then (kv.1,y) else kv) (xs.map (putAt k u)):=by
 induction r with
 |nil=>exact .nil
 |@cons p q ps qs h t ih=>
  rw [List.map_cons,List.map_cons]
  refine .cons ?_ ih
  obtain ⟨h1,h2,h3⟩:=h
  unfold putAt
  by_cases e:p.1=k
  ·rw [if_pos e,if_pos (h1.symm.trans e)];exact ⟨h1,h2,ry⟩
  ·rw [if_neg e,if_neg (fun z=>e (h1.trans z))];exact ⟨h1,h2,h3⟩
theorem KT.put {H:Hp} {kvs:List (List Key × V)} {xs:List (List Key × Addr × Value)} (r:KT H kvs xs) (k:List Key) {b:Addr} {y:V} {u:Value} (hb:H b=some (.tup (k.map kV))) (ry:RelV y u) :
  KT H (putK kvs k y) (storedH xs k b u):=by
 have e:(kvs.any fun kv=>decide (kv.1=k))=(atKey xs k).isSome:=by
  rw [tR,(r.val k).aLm,Option.isSome_map]
 unfold putK storedH
 rw [e]
 by_cases q:(atKey xs k).isSome=true
 ·rw [if_pos q,if_pos q];exact r.repl k ry
 ·rw [if_neg q,if_neg q];exact Paired.snoc r ⟨rfl,hb,ry⟩
theorem KT.keeps {H H':Hp} {kvs:List (List Key × V)} {xs:List (List Key × Addr × Value)} (r:KT H kvs xs) (ht:∀b ys,H b=some (.tup ys)→H' b=some (.tup ys)):KT H' kvs xs:=
 Paired.aT6 r fun _ _ z=>⟨z.1,ht _ _ z.2.1,z.2.2⟩
section
variable {P:Program} {w:World} {H:Hp} {h:Heap} {a:Addr}
theorem aS6 {u:HO} (ok:HOk P w H h) (e:Rd H a u):fY P w H h a u:=e.ok ok
theorem aKp {kvs:List (Key × V)} (ok:HOk P w H h) (e:Rd H a (.dK kvs)):kvs.length≤sizeLine∧(a == sysModules)=false∧∃vs,KV kvs vs∧h.DictOf (dR P w) a vs:=
 show fY P w H h a (.dK kvs) from aS6 ok e
theorem aS4 {kvs:List (Key × V)} (ok:HOk P w H h) (e:H a=some (.dK kvs)):kvs.length≤sizeLine∧(a == sysModules)=false∧∃vs,KV kvs vs∧h.DictOf (dR P w) a vs:=aKp ok (.inl e)
theorem aJk {ks:List Key} (ok:HOk P w H h) (e:H a=some (.tup (ks.map kV))):(tupleKind (dR P w)).is h ks a:=by
 obtain ⟨_,its,r,⟨o,h1,h2,n,h3⟩,_⟩:=(show fY P w H h a (.tup (ks.map kV)) from ok a _ e)
 exact ⟨o,its.toArray,n,h1,h2,h3,by simpa using aCq r⟩
theorem aQb {kvs:List (List Key × V)} (ok:HOk P w H h) (e:Rd H a (.dT kvs)):kvs.length≤sizeLine∧(a == sysModules)=false ∧
  ∃xs,KT H kvs xs∧h.DictOfH (tupleKind (dR P w)) a xs:=by
 obtain ⟨z,y,xs,r,o,es,ep,h1,h2,h3,h4,h5⟩:=(show fY P w H h a (.dT kvs) from aS6 ok e)
 refine ⟨z,y,xs,r,o,es,ep,h1,h2,h3,h4,fun x hx=>?_,h5⟩
 have all:∀{l:List (List Key × V)} {m:List (List Key × Addr × Value)},KT H l m→∀x∈m,(tupleKind (dR P w)).is h x.1 x.2.1:=by
  intro l m q
  induction q with
  |nil=>intro x hx;exact nomatch hx
  |@cons p q ps qs hq t ih=>
   intro x hx
   rcases List.mem_cons.mp hx with e|hx
   ·subst e
    exact aJk ok (by rw [←hq.1];exact hq.2.1)
   ·exact ih x hx
 exact all r x hx
theorem aXm {kvs:List (List Key × V)} (ok:HOk P w H h) (e:H a=some (.dT kvs)):kvs.length≤sizeLine∧(a == sysModules)=false ∧
  ∃xs,KT H kvs xs∧h.DictOfH (tupleKind (dR P w)) a xs:=aQb ok (.inl e)
end
def aE1 (H:Hp) (a:Addr) (y:V) (r:Option V):Prop:=
 (∃kvs k,Rd H a (.dK kvs)∧y=kV k∧r=nC kvs k)∨∃kvs k b,Rd H a (.dT kvs)∧y=.ref b∧H b=some (.tup (k.map kV))∧r=nC kvs k
def aNz (H:Hp) (a:Addr) (y v:V) (H':Hp):Prop:=
 (∃kvs k,H a=some (.dK kvs)∧y=kV k∧kvs.length<sizeLine∧H'=upd H a (.dK (putK kvs k v))) ∨
 ∃kvs k b,H a=some (.dT kvs)∧y=.ref b∧H b=some (.tup (k.map kV))∧kvs.length<sizeLine∧H'=upd H a (.dT (putK kvs k v))
theorem aE1.k {H:Hp} {a:Addr} {kvs:List (Key × V)} {k:Key} (e:H a=some (.dK kvs)):aE1 H a (kV k) (nC kvs k):=.inl ⟨kvs,k,.inl e,rfl,rfl⟩
theorem aNz.k {H:Hp} {a:Addr} {kvs:List (Key × V)} {k:Key} {v:V} (e:H a=some (.dK kvs)) (hl:kvs.length<sizeLine):aNz H a (kV k) v (upd H a (.dK (putK kvs k v))):=.inl ⟨kvs,k,e,rfl,hl,rfl⟩
section
variable {X:Cx} {pins:List (Addr × Obj)} {σ:St} {H:Hp} {s:Shared} {a:Addr} {y v:V} {u r:Value} {o:Option V} {A:Around} {E:Value→Shared→Prop}
theorem Inv.big (I:Inv X pins σ H s):sysModules<s.heap.objs.size:=by
 have h:mainGlobals<s.heap.objs.size:=(I.mod.glob.keeps I.bk).lt
 exact Nat.lt_trans (by decide) h
theorem aM7 {Q:Value→Shared→Prop} (hu:A.units+1<cLine) (I:Inv X pins σ H s) (g:aE1 H a y (some v)) (ry:RelV y u) (h:∀w' s',Inv X pins σ H s'→RelV v w'→Q w' s') :
  wpAny (model X.prog X.w) A (getItem (.ref a) u) Q E s:=by
 rcases g with ⟨kvs,k,e,ey,l⟩|⟨kvs,k,b,e,ey,eb,l⟩
 ·subst ey
  obtain ⟨z,hd,vs,rel,dd⟩:=aKp I.hok e
  obtain ⟨w',hw,rw'⟩:=xZ.some_of (v:=v) (o:=valueAt vs k) (by rw [l];exact rel.val k)
  exact wpAny_getItem_of (aKo ry) dd.mapOf hw (h w' _ (I.tok _) rw')
 ·subst ey
  cases (show u=Value.ref b from ry)
  obtain ⟨z,hd,xs,rel,dd⟩:=aQb I.hok e
  obtain ⟨w',hw,rw'⟩:=xZ.some_of (v:=v) (o:=(atKey xs k).map (·.2)) (by rw [l];exact rel.val k)
  obtain ⟨p,hp,hp2⟩:=Option.map_eq_some_iff.mp hw
  refine wpAny_getItem_heap (tupleKind_room_in1 hu) (aJk I.hok eb) dd hp ?_
  rw [hp2]
  exact h w' _ (I.tok _) rw'
theorem aJ7 {h':Heap} {t':Nat} {ob:HO} (I:Inv X pins σ H s) (mu:Mut (H a)) (hs:Heap.SameBut a s.heap h') (he:∃q,h'.get? a=some q) (new:fY X.prog X.w (upd H a ob) h' a ob) :
  Inv X pins σ (upd H a ob) { s with heap:=h',toks:=t' }:=
 I.write (x:=a) (e:=a) mu (.inl rfl) (fun b q hb z=>(hs.2 b hb).trans z) he new
theorem aVl {P:Program} {w:World} {H':Hp} {h':Heap} {kvs:List (Key × V)} {vs:List (Key × Value)} (z:kvs.length≤sizeLine) (hd:(a == sysModules)=false) (rel:KV kvs vs) (dd:h'.DictOf (dR P w) a vs) :
  fY P w H' h' a (.dK kvs):=⟨z,hd,vs,rel,dd⟩
theorem aLk {H':Hp} {Q:Unit→Shared→Prop} (hu:A.units+1<cLine) (I:Inv X pins σ H s) (g:aNz H a y v H') (ry:RelV y u) (rv:RelV v r) (h:∀s',Inv X pins σ H' s'→Q () s') :
  wpAny (model X.prog X.w) A (setItem (.ref a) u r) Q E s:=by
 rcases g with ⟨kvs,k,e,ey,l,eH⟩|⟨kvs,k,b,e,ey,eb,l,eH⟩
 ·subst ey eH
  obtain ⟨z,hd,vs,rel,dd⟩:=aS4 I.hok e
  have hz:vs.length≤sizeLine:=by rw [←rel.length];exact z
  have hl:(putK kvs k v).length≤sizeLine:=by have:=pJ kvs k v;omega
  refine wpAny_setItem_pairs (hsz:=hz) (aKo ry) dd fun h' dd' hs=>h _ ?_
  have he:∃q,h'.get? a=some q:=let ⟨q,_,_,hq,_⟩:=dd';⟨q,hq⟩
  exact aJ7 I (by rw [e];exact True.intro) hs he (aVl hl hd (rel.put k rv) dd')
 ·subst ey eH
  cases (show u=Value.ref b from ry)
  obtain ⟨z,hd,xs,rel,dd⟩:=aXm I.hok e
  have hz:xs.length≤sizeLine:=by rw [←Paired.length rel];exact z
  have hl:(putK kvs k v).length≤sizeLine:=by have:=pJ kvs k v;omega
  refine wpAny_setItem_heap (hsz:=hz) (tupleKind_room_in1 hu) (aJk I.hok eb) dd fun h' dd' hs=>h _ ?_
  obtain ⟨q,es,ep,hq,h2,h3,h4,_,h5⟩:=dd'
  refine aJ7 I (by rw [e];exact True.intro) hs ⟨q,hq⟩ ⟨hl,hd,_,(rel.put k eb rv).keeps fun c ys ec=>?_,q,es,ep,hq,h2,h3,h4,h5⟩
  rw [bA (pP ec e (fun z=>nomatch z))]
  exact ec
end
section
variable {X:Cx} {pins:List (Addr × Obj)} {σ:St} {H:Hp} {s:Shared} {a:Addr} {kvs:List (Key × V)} {k:Key} {u:Value} {A:Around} {E:Value→Shared→Prop}
theorem aW4 {Q:Value→Shared→Prop} (I:Inv X pins σ H s) (e:Rd H a (.dK kvs)) (h:∀t s',Inv X pins σ H s'→Q (.int kvs.length t) s'):wpAny (model X.prog X.w) A (call (.builtin "len") [.ref a]) Q E s:=by
 obtain ⟨z,hd,vs,rel,dd⟩:=aKp I.hok e
 refine call_len_dict hd dd (by rw [←rel.length];rw [sizeLine_eq] at z;omega) ?_
 rw [←rel.length]
 exact h _ _ (I.tok _)
end
def aU0 (i:Expr):Prop:=∀ov iv,subscripted i false ov iv=operate [ov,iv] (getItem ov iv)
theorem aSb {prog:Program} {w:World} {A:Around} {E:Value→Shared→Prop} {s:Shared} {env:Env} {value slice:Expr} {pos:Pos} {T id:String} {Q:Value→Shared→Prop}
  (hl:typeLookup (.type T) "__getitem__"=pure (some (.builtin id))) (hs:aU0 slice)
  (h:wpAny (model prog w) A (eval value env) (fun o s₁=>wpAny (model prog w) A (eval slice env) (fun i s₂=>s₂.TypeIs o T∧wpAny (model prog w) A (getItem o i) Q E s₂) E s₁) E s) :
  wpAny (model prog w) A (eval (.Subscript value slice pos) env) Q E s:=by
 refine Subscript_ (wpAny_mono h (fun o s₁ h₁=>wpAny_mono h₁ (fun i s₂ h₂=>?_) fun _ _ x=>x) fun _ _ x=>x)
 obtain ⟨hT,h₂⟩:=h₂
 unfold subscriptTail
 refine wpAny_bind ?_
 rw [getitemInPython_of_ne hT.not_modules]
 refine wpAny_bind (wpAny_specialOf hT hl ?_)
 have fin:wpAny (model prog w) A (subscripted slice false o i) (fun r s₃=>wpAny (model prog w) A (letTemporaryGo value o r >>= fun _=>pure r) Q E s₃) E s₂:=by
  rw [hs o i]
  exact wpAny_operating (wpAny_mono h₂ (fun r s₃ h₃=>wpAny_bind (wpAny_letTemporaryGo (wpAny_pure h₃))) fun _ _ x=>x)
 first
  |exact wpAny_pure (wpAny_bind fin)
  |exact wpAny_bind (wpAny_pure (wpAny_bind fin))
  |exact wpAny_bind fin
theorem aFm {X:Cx} {pins:List (Addr × Obj)} {σ:St} {H:Hp} {s:Shared} {a:Addr} {y:V} {o:Option V} (I:Inv X pins σ H s) (g:aE1 H a y o):s.TypeIs (.ref a) "dict":=by
 rcases g with ⟨kvs,k,e,_,_⟩|⟨kvs,k,b,e,_,_,_⟩
 ·obtain ⟨_,_,vs,_,dd⟩:=aKp I.hok e
  exact dd.typeIs
 ·obtain ⟨_,_,xs,_,dd⟩:=aQb I.hok e
  exact dd.typeIs
def aSt (td ty:TE):TE:=fun σ H Q=>td σ H fun x H1=>ty σ H1 fun y H2=>∃a v,x=.ref a∧aE1 H2 a y (some v)∧Q v H2
def aTa (td ty tv:TE):TS:=fun D σ H=>tv σ H fun v H1=>td σ H1 fun x H2=>ty σ H2 fun y H3=>∃a H4,x=.ref a∧aNz H3 a y v H4∧D.nx σ H4
section
variable {X:Cx} {o i e value:Expr} {pos pos' tpos:Pos} {td ty tv:TE}
theorem aQ3 (hu:X.A.units+1<cLine) (ho:PE X o td) (hi:PE X i ty) (hs:aU0 i):PE X (.Subscript o i pos) (aSt td ty):=by
 intro pins s σ H Q I h
 refine aSb PySem.F.slot_dict_getitem.lookup hs (thn (ho pins s σ H _ I h) fun u s1 ⟨x,H1,I1,rx,q1⟩=>thn (hi pins s1 σ H1 _ I1 q1) fun iv s2 ⟨y,H2,I2,ry,a,v,ex,g,q2⟩=>?_)
 subst ex
 obtain rfl:u=Value.ref a:=rx
 exact ⟨aFm I2 g,aM7 hu I2 g ry fun w' s3 I3 rw'=>⟨v,H2,I3,rw',q2⟩⟩
theorem aQn (hu:X.A.units+1<cLine) (ho:PE X o td) (hi:PE X i ty) (hv:PE X value tv) (hs:swapsWith value (some (.Subscript o i pos')) pos.line X.env=pure false) :
  PS X (.Assign [.Subscript o i pos'] value pos) (aTa td ty tv):=by
 intro pins s σ H D I h
 refine wpAny_Assign_Subscript (thn (hv pins s σ H _ I h) fun r s1 ⟨v,H1,I1,rv,q1⟩=>thn (ho pins s1 σ H1 _ I1 q1) fun u s2 ⟨x,H2,I2,rx,q2⟩=>thn (hi pins s2 σ H2 _ I2 q2) fun iv s3 ⟨y,H3,I3,ry,a,H4,ex,g,q3⟩=>?_) hs
 subst ex
 obtain rfl:u=Value.ref a:=rx
 exact aLk hu I3 g ry rv fun s4 I4=>⟨σ,H4,I4,q3⟩
end
theorem aO0 {P:Program} {w:World} {H:Hp} (h:Heap) (hb:sysModules<h.objs.size):fY P w H (h.push { cls:=.type "dict",data:=.dict #[] }) h.objs.size (.dK []):=
 ⟨Nat.zero_le _,beq_eq_false_iff_ne.mpr (Ne.symm (Nat.ne_of_lt hb)),[],.nil,Heap.DictOf.new h⟩
def aPd:TE:=fun _ H Q=>∀p,H p=none→Q (.ref p) (upd H p (.dK []))
section
variable {X:Cx} {pos:Pos}
theorem aNu:PE X (.Dict [] [] pos) aPd:=fun pins s σ H Q I h=>
 wpAny_Dict_empty ⟨.ref s.heap.objs.size,_,I.laid (a:=s.heap.objs.size) (o:=.dK []) (t':=s.toks) (fun _ _ q=>Heap.get?_push_of_some _ q) (Nat.le_refl _) (aO0 s.heap I.big),rfl,h _ (I.hok.fresh (Nat.le_refl _))⟩
end
def oM (kvs more:List (Key × V)):List (Key × V):=more.foldl (fun acc kv=>putK acc kv.1 kv.2) kvs
theorem KV.merge:∀{more:List (Key × V)} {rs:List (Key × Value)} {kvs:List (Key × V)} {vs:List (Key × Value)},KV more rs→KV kvs vs→KV (oM kvs more) (merged vs rs):=by
 intro more rs kvs vs r
 unfold KV at r
 induction r generalizing kvs vs with
 |nil=>intro q;exact q
 |@cons p q ps qs h t ih=>
  intro r0
  have e:KV (putK kvs p.1 p.2) (stored vs q.1 q.2):=by
   have:=r0.put p.1 h.2
   rw [←h.1];exact this
  exact ih e
theorem qU:∀(more kvs:List (Key × V)),(oM kvs more).length≤kvs.length+more.length
 |[],kvs=>by show kvs.length≤kvs.length+0;omega
 |p::r,kvs=>by
  have h1:=qU r (putK kvs p.1 p.2)
  have h2:=pJ kvs p.1 p.2
  show (oM (putK kvs p.1 p.2) r).length≤_
  rw [List.length_cons];omega
section
variable {X:Cx} {pins:List (Addr × Obj)} {σ:St} {H:Hp} {s:Shared} {a:Addr} {y d:V} {u r:Value} {o:Option V} {A:Around} {E:Value→Shared→Prop}
end
section
variable {X:Cx} {o e f:Expr} {apos cpos:Pos} {td ty tx:TE}
end
section
variable {X:Cx} {pins:List (Addr × Obj)} {σ:St} {H:Hp} {s:Shared} {a:Addr} {kvs:List (Key × V)} {A:Around} {E:Value→Shared→Prop}
end
section
variable {X:Cx} {pins:List (Addr × Obj)} {σ:St} {H:Hp} {s:Shared} {a:Addr} {y:V} {u:Value} {A:Around} {E:Value→Shared→Prop}
end
section
variable {X:Cx}
theorem aL4:cV X (.builtin "len") (fun xs H Q=>∃a kvs,xs=[V.ref a]∧H a=some (.dK kvs)∧Q (.int kvs.length) H):=by
 intro pins s σ H xs us Q I r h
 obtain ⟨a,kvs,rfl,ha,q⟩:=h
 obtain ⟨u,rfl,ru⟩:=vals1 r
 cases ru
 exact aW4 I (.inl ha) fun t s' I'=>⟨.int kvs.length,H,I',⟨t,rfl⟩,q⟩
end
section
variable {κ:Type} [DecidableEq κ]
theorem aKe {kvs:List (κ × V)} {k:κ} {v:V} (h:nC kvs k=some v):k∈kvs.map (·.1):=by
 have q:(kvs.any fun kv=>decide (kv.1=k))=true:=by
  rw [tR,h]
  all_goals rfl
 obtain ⟨p,hp,e⟩:=List.any_eq_true.mp q
 exact List.mem_map.mpr ⟨p,hp,of_decide_eq_true e⟩
end
structure VE (X:Cx) (e:Expr) (t:TE):Prop where
 out:PE X e t
structure VT (X:Cx) (e:Expr) (t:TT):Prop where
 out:PT X e t
structure VW (X:Cx) (e:Expr) (t:TT):Prop where
 out:PW X e t
structure VA (X:Cx) (es:List Expr) (t:TA):Prop where
 out:PA X es t
structure VS (X:Cx) (st:Stmt) (t:TS):Prop where
 out:PS X st t
structure VSs (X:Cx) (st:List Stmt) (t:TS):Prop where
 out:PSs X st t
structure VI (X:Cx) (tg iter:Expr) (t:TI):Prop where
 out:PI X tg iter t
structure VG (X:Cx) (tg:Expr) (t:TG):Prop where
 out:PG X tg t
structure VGs (X:Cx) (tg:List Expr) (t:TGs):Prop where
 out:PGs X tg t
structure VO (X:Cx) (e:Option Expr) (t:TO):Prop where
 out:PO X e t
structure VF (X:Cx) (ifs:List Expr) (t:TT):Prop where
 out:aP0 X ifs t
section
variable {X:Cx} {a b c e:Expr} {es:List Expr} {ta tb tc te:TE} {t:TA} {tA tB':TT} {pos p:Pos} {x:Str}
theorem vv (i:Nat) {x:Str} {pos:Pos} (hN:X.N[i]?=some x:=by rfl) (hv:Vis X.env.scope x:=by trivial) (hd:(x == ("__debug__":Str))=false:=by decide)
  (hcd:(x == ("__classdict__":Str))=false:=by decide):VE X (.Name x pos) (fQ i):=⟨pv i hN hv hd hcd⟩
theorem dO {v:V} (hg:Gl X x) (hm:∃u,X.mg x=some u∧RelV v u) (hd:(x == ("__debug__":Str))=false:=by decide):VE X (.Name x pos) (tC v):=⟨aWh hg hm hd⟩
theorem iC {v:V} {u:Value} (hg:Gl X x) (hm:X.mg x=none) (hv:bootBuiltins x=some u) (r:RelV v u) (hn:x≠"__name__":=by decide) (hd:(x == ("__debug__":Str))=false:=by decide):VE X (.Name x pos) (tC v):=⟨aRc hg hm hv r hn hd⟩
theorem aG {i j}:VE X (.Constant (.int i) j pos) (tC (.int i)):=⟨aUs⟩
theorem iZ {b j}:VE X (.Constant (.bool b) j pos) (tC (.bl b)):=⟨aWf⟩
theorem gA {j}:VE X (.Constant .none j pos) (tC .non):=⟨aU7⟩
theorem aJ {x j}:VE X (.Constant (.str x) j pos) (tC (.str x)):=⟨aVs⟩
theorem bG {op:Operator} {r:R2} (ho:OpR X (binaryOp op) r) (ha:VE X a ta) (hb:VE X b tb):VE X (.BinOp a op b pos) (tOp r ta tb):=⟨aXa ho ha.1 hb.1⟩
theorem aWp {op:UnaryOp} {r:V→Hp→VK→Prop} (ho:UnR X (unaryOp op) r) (ha:VE X a ta):VE X (.UnaryOp op a pos) (tUn r ta):=⟨aXj ho ha.1⟩
theorem gJ {op:CmpOp} {r:R2} (ho:OpR X (compareOp op) r) (ha:VE X a ta) (hb:VE X b tb) (hm:behindInMarks op b=false):VE X (.Compare a [op] [b] pos) (tOp r ta tb):=⟨aRv ho ha.1 hb.1 hm⟩
theorem bF {op:CmpOp} {r:R2} (ho:OpR X (compareOp op) r) (ha:VE X a ta) (hb:VE X b tb) (hm:behindInMarks op b=false):VT X (.Compare a [op] [b] pos) (aKa (tOp r ta tb)):=⟨aQ8 ho ha.1 hb.1 hm⟩
theorem aNi {op op':CmpOp} {r r':R2} (ho:OpR X (compareOp op) r) (ho':OpR X (compareOp op') r') (ha:VE X a ta) (hb:VE X b tb) (hc:VE X c tc)
  (hm:lastMarks [op,op'] [b,c]=false:=by with_unfolding_all rfl):VE X (.Compare a [op,op'] [b,c] pos) (aC7 r r' ta tb tc):=⟨aN1 ho ho' ha.1 hb.1 hc.1 hm⟩
theorem aPn {op op':CmpOp} {r r':R2} (ho:OpR X (compareOp op) r) (ho':OpR X (compareOp op') r') (ha:VE X a ta) (hb:VE X b tb) (hc:VE X c tc)
  (hm:lastMarks [op,op'] [b,c]=false:=by with_unfolding_all rfl):VT X (.Compare a [op,op'] [b,c] pos) (aKa (aC7 r r' ta tb tc)):=⟨aN7 ho ho' ha.1 hb.1 hc.1 hm⟩
theorem mU {op} (h:VE X a te):VE X (.BoolOp op [a] pos) te:=⟨aT5 h.1⟩
theorem lM {rest:List Expr} (ha:VE X a ta) (hb:VE X (.BoolOp .And (b::rest) pos) tb):VE X (.BoolOp .And (a::b::rest) pos) (aSz ta tb):=⟨aVa ha.1 hb.1⟩
theorem aXk {rest:List Expr} (ha:VE X a ta) (hb:VE X (.BoolOp .Or (b::rest) pos) tb):VE X (.BoolOp .Or (a::b::rest) pos) (aW2 ta tb):=⟨aWg ha.1 hb.1⟩
theorem aVw (ha:VE X a ta):VE X (.UnaryOp .Not a pos) (aSy ta):=⟨aTn ha.1⟩
theorem aAl (hc:VT X c tA) (ha:VE X a ta) (hb:VE X b tb):VE X (.IfExp c a b pos) (tIf tA ta tb):=⟨aOs hc.1 ha.1 hb.1⟩
theorem aA:VA X [] jB:=⟨aN8⟩
theorem aB (ha:VE X e te) (hr:VA X es t) (hp:gO e=true:=by rfl):VA X (e::es) (bQ te t):=⟨aUk ha.1 hr.1 hp⟩
theorem aU {k:Nat} {ps:List Str} {sp:Sp} (G:Ok X.prog X.w X.K X.mg X.base k x ps sp) (hr:Room k X.A) (hg:Gl X x) (ha:VA X (e::es) t) (hdb:(x == ("__debug__":Str))=false:=by decide)
  (hp:gO e=true:=by rfl) (hpl:(backTo pos (starEach es X.env)).any (·.1)=false:=by rfl) :
  VE X (.Call (.Name x p) (e::es) [] pos) (uJ sp [] E0 t):=⟨aW5 G hr hg ha.1 hdb (bY hp) hpl⟩
theorem aV9 {k:Nat} {ps:List Str} {sp:Sp} (G:Ok X.prog X.w X.K X.mg X.base k x ps sp) (hr:Room k X.A) (hg:Gl X x) (hdb:(x == ("__debug__":Str))=false:=by decide) :
  VE X (.Call (.Name x p) [] [] pos) (uJ sp [] E0 jB):=⟨aTo G hr hg hdb⟩
theorem aY {id:String} {r:List V→Hp→VK→Prop} (hc:cV X (.builtin id) r) (hg:Gl X x) (hm:X.mg x=none) (hv:bootBuiltins x=some (.builtin id)) (ha:VA X (e::es) t) (hn:x≠"__name__":=by decide) (hdb:(x == ("__debug__":Str))=false:=by decide)
  (hp:gO e=true:=by rfl) (hpl:(backTo pos (starEach es X.env)).any (·.1)=false:=by rfl):VE X (.Call (.Name x p) (e::es) [] pos) (tCB r t):=⟨aP9 hc hg hm hv ha.1 hn hdb (bY hp) hpl⟩
theorem cB {T:String} {r:List V→Hp→VK→Prop} (hc:cV X (.type T) r) (hg:Gl X x) (hm:X.mg x=none) (hv:bootBuiltins x=some (.type T)) (ha:VA X (e::es) t) (hn:x≠"__name__":=by decide) (hdb:(x == ("__debug__":Str))=false:=by decide)
  (hp:gO e=true:=by rfl) (hpl:(backTo pos (starEach es X.env)).any (·.1)=false:=by rfl):VE X (.Call (.Name x p) (e::es) [] pos) (tCB r t):=⟨aMo hc hg hm hv ha.1 hn hdb (bY hp) hpl⟩
theorem wW {o:Expr} {to:TE} {name:Str} {apos cpos:Pos} {T id:String} {r:V→List V→Hp→VK→Prop} (pa:PlainAttrs T) (slot:Slot T name id) (hty:typeOf (.builtin id)=pure (.type "method_descriptor")) (hm:MtR X id r) (ho:VE X o to) (ha:VA X (e::es) t)
  (hbase:attributeBase o name X.env (eval o X.env)=eval o X.env:=by rfl)
  (hfew:((backTo cpos (starEach (e::es) X.env)).all (fun x=>!x.1) && (backToKw cpos (keywordEach [] X.env)).all (fun x=>x.1.isSome)
   && decide ((e::es).length+([]:List Keyword).length+(if ([]:List Keyword).isEmpty then 0 else 1)<30))=true:=by rfl)
  (hline:(apos.endLine == cpos.line)=true:=by rfl) (hp:gO e=true:=by rfl) (hplain:(backTo cpos (starEach es X.env)).any (·.1)=false:=by rfl) :
  VE X (.Call (.Attribute o name apos) (e::es) [] cpos) (tBM X.K T r to t):=⟨aXw pa slot hty hm ho.1 ha.1 hbase hfew hline (bY hp) hplain⟩
theorem lW (ha:VE X a ta) (hb:VE X b tb) (hs:aFz b) :
  VE X (.Subscript a b pos) (tOp (fun x y H Q=>∃z i c,x=.str z∧y=.int i∧0≤i∧i<2 ^ 63∧i<z.length∧z.cps[i.toNat]?=some c∧Q (.str ⟨#[c]⟩) H) ta tb):=⟨aHd ha.1 hb.1 hs⟩
theorem lD:VO X none aLf:=⟨aSn⟩
theorem gG (h:VE X e te):VO X (some e) (aSv te):=⟨aSd h.1⟩
theorem gB {r:V→Option Int→Option Int→Hp→VK→Prop} {lo hi:Option Expr} {tl th:TO} {p2:Pos} (hr:SlR X r) (he:VE X e te) (hl:VO X lo tl) (hu:VO X hi th):VE X (.Subscript e (.Slice lo hi none p2) pos) (tSl r te tl th):=⟨aPw hr he.1 hl.1 hu.1⟩
theorem bV {r:R2} (hr:IxR X r) (ha:VE X a ta) (hb:VE X b tb) (hs:aJ1 b):VE X (.Subscript a b pos) (tOp r ta tb):=⟨aXq hr ha.1 hb.1 hs⟩
theorem aN4:VE X (.Dict [] [] pos) aPd:=⟨aNu⟩
theorem VE.imp {t t':TE} (h:VE X e t) (k:∀σ H Q,t' σ H Q→t σ H Q):VE X e t':=⟨PE.imp h.1 k⟩
theorem lH (ha:VT X a tA):VW X (.BoolOp .Or [a] pos) tA:=⟨aTd ha.1⟩
theorem oU {rest:List Expr} (ha:VT X a tA) (hb:VW X (.BoolOp .Or (b::rest) pos) tB'):VW X (.BoolOp .Or (a::b::rest) pos) (tOr tA tB'):=⟨aWo ha.1 hb.1⟩
theorem VW.pt (h:VW X e tA):VT X e tA:=⟨h.1.pt⟩
theorem fZ (ha:VT X a tA):VT X (.UnaryOp .Not a pos) (aW6 tA):=⟨aVz ha.1⟩
theorem fP (h:VE X e te) (he:∀whole,isTrue e X.env whole=(do let v ←whole;standAt e.pos;holding [v] (truthy v)):=by intro _;rfl):VT X e (tB te):=⟨aVi h.1 he⟩
theorem aNc (ha:VE X a ta) (he:∀whole,isTrue a X.env whole=(do let v ←whole;standAt a.pos;holding [v] (truthy v)):=by intro _;rfl) :
  VT X a (fun σ H Q=>ta σ H fun x H'=>∃k,aUq X.K x H' k∧Q k H'):=⟨aP2 ha.1 he⟩
variable {st:Stmt} {rest:List Stmt} {u w':TS}
theorem bK:VSs X [] aGx:=⟨aRk⟩
theorem aF (h1:VS X st u) (h2:VSs X rest w'):VSs X (st::rest) (qF u w'):=⟨aOc h1.1 h2.1⟩
theorem aL (h1:VS X st u):VSs X [st] u:=⟨aRu h1.1⟩
theorem aR (he:VE X e te):VS X (.Return (some e) pos) (aMm te):=⟨aTt he.1⟩
theorem cP {a b:List Stmt} (hc:VT X c tA) (ha:VSs X a u) (hb:VSs X b w'):VS X (.If c a b pos) (aT0 tA u w'):=⟨aXo hc.1 ha.1 hb.1⟩
theorem aQ {i:Nat} {pos':Pos} (hN:X.N.Nodup) (hi:X.N[i]?=some x) (hx:Loc X.env.scope x) (he:VE X e te) (hs:swapsWith e (some (.Name x pos')) pos.line X.env=pure false:=by rfl) (hf:X.fn x=true∨X.env.scope.names.lookup x=some .local:=by first|exact .inl rfl|exact .inr rfl|assumption) :
  VS X (.Assign [.Name x pos'] e pos) (oY te (cH i)):=⟨aVt hN hi hx he.1 hs hf⟩
theorem iB (he:VE X e te) (hs:swapsWith e none pos.line X.env=pure false:=by rfl):VS X (.Expr e pos) (aGa te):=⟨aKw he.1 hs⟩
theorem jL {tg iter:Expr} {body:List Stmt} {wi:TI} {g:TG} {tb:TS} (hp:PassesOwn (model X.prog X.w) X.A X.env X.xe) (hc:X.calm=true) (hi:VI X tg iter wi) (hg:VG X tg g) (hb:VSs X body tb)
  (hs:∀x,foldedSetIterable iter X.env x=pure x:=by intro _;rfl):VS X (.For tg iter body [] pos) (aW0 wi g tb):=⟨aU3 hp hc hi.1 hg.1 hb.1 hs⟩
theorem aV {i:Nat} (hN:X.N.Nodup) (hi:X.N[i]?=some x) (hx:Loc X.env.scope x) (hf:X.fn x=true∨X.env.scope.names.lookup x=some .local:=by first|exact .inl rfl|exact .inr rfl|assumption):VG X (.Name x pos) (cH i):=⟨aSs hN hi hx hf⟩
theorem dX:VGs X [] aM8:=⟨aRl⟩
theorem bJ {t:TG} {u:TGs} (h1:VG X e t) (h2:VGs X es u) (hs:(assignEach (e::es) X.env).map (·.2)=assign e X.env::(assignEach es X.env).map (·.2):=by rfl):VGs X (e::es) (qT t u):=⟨aO2 h1.1 h2.1 hs⟩
theorem mH {k:Nat} {t:TGs} {n:Nat} (hc:X.calm=true) (h:VGs X es t) (hn:(assignEach es X.env).length=n:=by rfl) (hst:(assignEach es X.env).findIdx? (·.1)=none:=by rfl):VG X (.Tuple es k pos) (aJt X.K n t):=⟨aV5 hc h.1 hn hst⟩
variable {tg:Expr}
theorem gH (h:VE X e te):VI X tg e (qW X.K te):=⟨aR6 h.1⟩
theorem mO (h:VE X e te):VI X tg e (aIl X.K te):=⟨aUu h.1⟩
theorem aTm (h:VE X e te):VI X tg e (aTu te):=⟨aVu h.1⟩
theorem dW (hg:Gl X "range") (hm:X.mg "range"=none) (ha:VA X [a] t) (hp:gO a=true:=by rfl):VI X tg (.Call (.Name "range" p) [a] [] pos) (aPh t):=⟨aM1 hg hm ha.1 (bY (es:=[]) hp)⟩
theorem fH:VF X [] pM:=⟨aUe⟩
theorem wA (h:VT X c tA):VF X [c] tA:=⟨aTz h.1⟩
theorem dC {elt target iter:Expr} {ifs:List Expr} {scope:Scope} {N:List Str} {wi:TI} {g:TG} {tt:TT}
  (C:zQ scope N) (hfr:∀y,(y,NameKind.free)∈scope.names→X.env.kindOf y=some .cell∨X.env.kindOf y=some .free) (hc:X.calm=true)
  (hi:VI X target iter wi)
  (hb:∀cl s H fp,VG (cxC X N scope cl s H fp) target g∧VF (cxC X N scope cl s H fp) ifs tt∧VE (cxC X N scope cl s H fp) elt te)
  (hs:∀x,foldedSetIterable iter X.env x=pure x:=by intro _;rfl) :
  VE X (.ListComp elt [⟨target,iter,ifs,0⟩] scope pos) (jU X scope N wi g tt te):=
 ⟨aQk C hfr hc hi.1 (fun cl s H fp=>⟨(hb cl s H fp).1.1,(hb cl s H fp).2.1.1,(hb cl s H fp).2.2.1⟩) hs⟩
end
section
variable {P:Program} {w:World} {K:PySem.W.Frag} {mg:Str→Option Value} {base:Heap}
theorem Fun.okV {x qual:Str} {st:Stmt} {f:Addr} {fd:FuncData} {N ps:List Str} {k:Nat} {sp:Sp} (F:Fun K x qual st f fd) (S:aW N ps (aK st)) (len:∀vs H Q E,sp vs H Q E→vs.length=ps.length)
  (hbody:∀(cdv:Value) (A:Around) (outer:List Env) (s:Shared) (H:Hp) (vs:List V) (Q:VK) (E:XK),Room k (A.deeper (envOfC qual (aK st) s.heap.objs.size f cdv))→sp vs H Q E →
   ∃t,VSs (wB CX0 P w K mg base N qual (aK st) f cdv A outer s H E).nox (fX st) t∧t { nx:=fun _ H'=>Q .non H',rt:=Q } (start N vs) H):jA P w K mg base CX0 (k+1) f fd ps sp:=
 F.ok S len fun cdv A outer s H vs Q E hr h=>let ⟨t,h1,h2⟩:=hbody cdv A outer s H vs Q E hr h;⟨t,h1.1,h2⟩
theorem Ok.ofV {x:Str} {st:Stmt} {N ps:List Str} {k:Nat} {sp:Sp} (D:Dn K mg x st ps) (S:aW N ps (aK st)) (len:∀vs H Q E,sp vs H Q E→vs.length=ps.length)
  (hbody:∀(f:Addr) (cdv:Value) (A:Around) (outer:List Env) (s:Shared) (H:Hp) (vs:List V) (Q:VK) (E:XK),Room k (A.deeper (envOfC x (aK st) s.heap.objs.size f cdv))→sp vs H Q E →
   ∃t,VSs (wB CX0 P w K mg base N x (aK st) f cdv A outer s H E).nox (fX st) t∧t { nx:=fun _ H'=>Q .non H',rt:=Q } (start N vs) H):Ok P w K mg base (k+1) x ps sp:=
 Ok.of D S len fun f cdv A outer s H vs Q E hr h=>let ⟨t,h1,h2⟩:=hbody f cdv A outer s H vs Q E hr h;⟨t,h1.1,h2⟩
end
section
variable {P:Program} {w:World} {K:PySem.W.Frag} {mg:Str→Option Value} {base:Heap}
def OkX (P:Program) (w:World) (K:PySem.W.Frag) (mg:Str→Option Value) (base:Heap) (k:Nat) (x:Str) (ps:List Str) (sp:Sp):Prop:=
 ∃f fd,mg x=some (.ref f)∧PySem.W.keepIn K (.ref f)=true∧Binds K fd ps []∧jA P w K mg base (CXR P w) k f fd ps sp
theorem OkX.mono {j k:Nat} {x:Str} {ps:List Str} {sp:Sp} (h:OkX P w K mg base j x ps sp) (hj:j≤k):OkX P w K mg base k x ps sp:=by
 obtain ⟨f,fd,h1,h2,h3,h4⟩:=h
 exact ⟨f,fd,h1,h2,h3,h4.mono hj⟩
theorem OkX.ofV {x:Str} {st:Stmt} {N ps:List Str} {k:Nat} {sp:Sp} (D:Dn K mg x st ps) (S:aW N ps (aK st)) (len:∀vs H Q E,sp vs H Q E→vs.length=ps.length)
  (hbody:∀(f:Addr) (cdv:Value) (A:Around) (outer:List Env) (s:Shared) (H:Hp) (vs:List V) (Q:VK) (E:XK),Room k (A.deeper (envOfC x (aK st) s.heap.objs.size f cdv))→sp vs H Q E →
   ∃t,VSs (wB (CXR P w) P w K mg base N x (aK st) f cdv A outer s H E) (fX st) t∧t { nx:=fun _ H'=>Q .non H',rt:=Q } (start N vs) H):OkX P w K mg base (k+1) x ps sp:=by
 obtain ⟨f,fd,F,B,m⟩:=D
 obtain ⟨oc,od,kV,doc,pm,an,cdv,ct,osl,rfl,lk,hcd⟩:=F.ex
 exact ⟨f,_,m,F.kp,B,aSu lk hcd S len fun A outer s H vs Q E hr hsp=>let ⟨t,h1,h2⟩:=hbody f cdv A outer s H vs Q E hr hsp;⟨t,h1.1,h2⟩⟩
theorem jA.calm {k:Nat} {f:Addr} {fd:FuncData} {ps:List Str} {sp sp':Sp} (F:jA P w K mg base (CXR P w) k f fd ps sp) (h:∀vs H Q E,sp' vs H Q E→sp vs H Q E0):jA P w K mg base CX0 k f fd ps sp':=
 ⟨fun vs H Q E q=>F.len vs H Q E0 (h _ _ _ _ q),fun A outer s H args us vs Q E hr he hb hv hs=>codeAny_mono (F.run A outer s H args us vs Q E0 hr he hb hv (h _ _ _ _ hs)) fun r s' hq=>by
  cases r with
  |error v=>obtain ⟨_,_,_,_,_,_,_,_,_,_,_,_,_,_,z⟩:=hq;exact z.elim
  |ok fl=>cases fl <;> exact hq⟩
theorem OkX.calm {k:Nat} {x:Str} {ps:List Str} {sp sp':Sp} (G:OkX P w K mg base k x ps sp) (h:∀vs H Q E,sp' vs H Q E→sp vs H Q E0):Ok P w K mg base k x ps sp':=by
 obtain ⟨f,fd,h1,h2,h3,h4⟩:=G
 exact ⟨f,fd,h1,h2,h3,h4.calm h⟩
structure ExT (K:PySem.W.Frag) (mg:Str→Option Value) (st:Stmt) (x y:Str) (C S:Addr):Prop where
 at_:∃fI fd,XC K C fI∧Fun K "__init__" y st fI fd∧Binds K fd ["self","act"] []
 mg:mg x=some (.ref C)
 kp:PySem.W.keepIn K (.ref C)=true
 cls:XS K C
 over:PySem.W.mroIn K C (.ref S)=some true
theorem aK4 {k:Nat} {y:Str} {st:Stmt} {fI:Addr} {fd:FuncData} (F:Fun K "__init__" y st fI fd) (Sc:aW ["self","act"] ["self","act"] (aK st))
  (hb:∀(X:Cx),X.N=(["self","act"]:List Str)→X.env.scope=aK st→X.mg=mg→VSs X (fX st) (qF (aGa (tVI X.K fI (bQ (fQ 0) (bQ (fQ 1) jB)))) (aNe X.K fI (fQ 0) (fQ 1)))) :
  jA P w K mg base CX0 (k+1) fI fd ["self","act"] (aA6 K fI):=by
 refine F.okV Sc (fun vs H Q E ⟨e,C,z,_⟩=>by rw [z];rfl) fun cdv A outer s H vs Q E hr ⟨e,C,ev,he,c,q⟩=>⟨_,hb _ rfl rfl rfl,?_⟩
 subst ev
 refine ⟨_,rfl,_,rfl,e,C,.non,rfl,he,c,?_⟩
 exact ⟨_,rfl,_,rfl,e,C,rfl,rfl,he,c,fun dx n ne=>q dx n ne⟩
end
section
variable {X:Cx} {k j:Nat} {C S:Addr} {E:XK} {x y:Str} {np cpos pos:Pos} {a:Expr} {t:TA} {st:Stmt}
theorem aFd (hT:ExT X.K X.mg st x y C S) (hI:∀fI fd,Fun X.K "__init__" y st fI fd→jA X.prog X.w X.K X.mg X.base CX0 k fI fd ["self","act"] (aA6 X.K fI)) (hr:Room (k+1) X.A) (hR:Raises X E) (hc:X.calm=true)
  (hg:Gl X x) (ha:VA X [a] t) (hdb:(x == ("__debug__":Str))=false:=by decide) (hp:gO a=true:=by rfl) :
  VS X (.Raise (some (.Call (.Name x np) [a] [] cpos)) none pos) (aHz C E t):=by
 obtain ⟨⟨fI,fd,c,F,B⟩,m,kp,_,_⟩:=hT
 exact ⟨aOn c (hI fI fd F) hr B aKi hR hc kp hg m ha.1 hdb (bY (es:=[]) hp)⟩
theorem aVo {K:PySem.W.Frag} {o:Expr} {ta:TE} {f:Str} (he:VE X o ta) (hK:X.K=K:=by rfl) (hf:f = "act":=by first|rfl|decide) (hb:attributeBase o f X.env (eval o X.env)=eval o X.env:=by rfl):VE X (.Attribute o f pos) (aW1 K ta):=by
 subst hf hK
 exact ⟨aVp he.1 hb⟩
theorem aN3 {K:PySem.W.Frag} {D:Addr} (hS:XS K D) (hK:X.K=K:=by rfl):cV X (.builtin "isinstance") (aOr K (.ref D) (.ref D) fun _=>True):=by
 subst hK;exact aQ7 hS
theorem aR5 {K:PySem.W.Frag} (hK:X.K=K:=by rfl):cV X (.builtin "isinstance") (aOr K (.ty "ValueError") (.type "ValueError") fun _=>True):=by
 subst hK;exact aU1
theorem aVg {i:Nat} {n:Str} {hpos:Pos} {body suite:List Stmt} {b₀:Stmt} {tb:St→XK→TS} {th:TS} (hst:X.stack=X.env::X.outer) (hfrm:X.env.frame=some X.env.locals) (hN:X.N.Nodup) (hi:X.N[i]?=some n) (hk:X.env.scope.names.lookup n=some .local)
  (hg:Gl X x) (hm:X.mg x=some (.ref S)) (hS:XS X.K S) (hb:∀pins σ₀ E,X.Ok→VSs (qX X pins σ₀ E) body (tb σ₀ E)) (hh:∀e,VSs (rG X e) (b₀::suite) th) (hdb:(x == ("__debug__":Str))=false:=by decide) :
  VS X (.Try body [.ExceptHandler (some (.Name x np)) (some n) (b₀::suite) hpos] [] [] pos) (aWv X.K S i tb th):=
 ⟨aUp hst hfrm hN hi hk hg hm hS (fun pins σ₀ E ok=>(hb pins σ₀ E ok).1) (fun e=>(hh e).1) hdb⟩
theorem aB1 {pins₀:List (Addr × Obj)} {σ₀:St} {ps:List Str} {sp:Sp} {p:Pos} {e:Expr} {es:List Expr} (ok:X.Ok) (G:OkX X.prog X.w X.K X.mg X.base k x ps sp) (hr:Room k X.A) (hg:Gl X x)
  (ha:VA (qX X pins₀ σ₀ E) (e::es) t) (hdb:(x == ("__debug__":Str))=false:=by decide) (hp:gO e=true:=by rfl) (hpl:(backTo pos (starEach es X.env)).any (·.1)=false:=by rfl) :
  VE (qX X pins₀ σ₀ E) (.Call (.Name x p) (e::es) [] pos) (aKh σ₀ sp [] E t):=by
 obtain ⟨f,fd,h1,h2,h3,h4⟩:=G
 exact ⟨aMn ok h4 hr hg h1 h2 h3 .nil ha.1 hdb (bY hp) hpl⟩
end
section
variable {X:Cx} {N:List Str} {scope:Scope} {cl:List (Str × Addr)} {s₁:Shared} {H₀:Hp} {fp:List Addr} {E:XK} {pins:List (Addr × Obj)} {σ:St} {H:Hp} {s:Shared}
end
section
variable {X:Cx} {k:Nat} {x:Str} {ps:List Str} {sp:Sp} {E:XK} {p pos:Pos} {e:Expr} {es:List Expr} {t:TA} {te:TE}
theorem aG5 (G:OkX X.prog X.w X.K X.mg X.base k x ps sp) (hr:Room k X.A) (hT:Thr X E) (hg:Gl X x)
  (ha:VA X (e::es) t) (hdb:(x == ("__debug__":Str))=false:=by decide) (hp:gO e=true:=by rfl) (hpl:(backTo pos (starEach es X.env)).any (·.1)=false:=by rfl) :
  VE X (.Call (.Name x p) (e::es) [] pos) (uJ sp [] E t):=by
 obtain ⟨f,fd,h1,h2,h3,h4⟩:=G
 exact ⟨aKb h4 hr hg h1 h2 h3 .nil hT.passes ha.1 hdb (bY hp) hpl⟩
end
end L2
namespace PySem
abbrev qP (t:Addr) (i:Nat):Obj:={ cls:=.type "tuple_iterator",data:=.fields #[.ref t,.int (i:Int) 0] }
abbrev wH (f0:Value) (TI TO:Addr):Obj:={ cls:=.type "zip",dict:=none,data:=.fields #[f0,.bool false,.bool false,.ref TI,.ref TO],slots:=#[] }
abbrev nW (a b:Value):Obj:={ cls:=.type "tuple",data:=.seq #[a,b] }
section
variable {prog:Program} {w:World} {A:Around} {E:Value→Shared→Prop} {s:Shared}
theorem aAz {it t:Addr} {i:Nat} {its:Array Value} {x:Value} {Q:Value→Shared→Prop} (ho:s.heap.get? it=some (qP t i)) (ht:s.heap.IsTuple t its) (hx:its[i]?=some x)
  (q:∀h',h'.get? it=some (qP t (i+1))→Heap.SameBut it s.heap h'→Q x { s with heap:=h' }):wpAny (model prog w) A (Builtin.SmallTypes.nextOf (.ref it)) Q E s:=by
 have hT:s.TypeIs (.ref it) "tuple_iterator":=⟨_,ho,rfl⟩
 obtain ⟨ol,hol,_,nl,hdl⟩:=ht
 unfold Builtin.SmallTypes.nextOf
 refine wpAny_bind (wpAny_callSpecial?_slot (name:=Str.ofString "__next__") hT F.slot_tuple_iterator_next (wpAny_call_entry F.slot_tuple_iterator_next hT F.entry_tuple_iterator_next ?_ (F.args_tuple_iterator_next_1 _)))
 refine wpAny_bind (m:=field (.ref it) 0) (wpAny_field ho rfl (x:=.ref t) rfl ?_)
 refine (if_neg (show ¬ ((Value.ref t == Value.none)=true) from Bool.false_ne_true)).symm ▸ ?_
 refine wpAny_bind (m:=field (.ref it) 1) (wpAny_field ho rfl (x:=.int i 0) rfl ?_)
 refine wpAny_bind (m:=seqItems? (.ref t)) (wpAny_seqItems hol hdl ?_)
 simp only [Int.toNat_natCast,hx]
 refine wpAny_bind (wpAny_setField ho rfl (by simp) (wpAny_pure ⟨x,rfl,wpAny_pure (q _ ?_ (Heap.SameBut.update ..))⟩))
 exact Heap.get?_update_self _ ho rfl
theorem aAs {it t:Addr} {i:Nat} {its:Array Value} {Q:Value→Shared→Prop} (hh:A.handled=none) (ho:s.heap.get? it=some (qP t i)) (ht:s.heap.IsTuple t its) (hx:its[i]?=none)
  (q:∀h' e,Heap.ExtBut it s.heap h'→(∃o,h'.get? e=some o∧o.cls=.type "StopIteration")→E (.ref e) { s with heap:=h' }):wpAny (model prog w) A (Builtin.SmallTypes.nextOf (.ref it)) Q E s:=by
 have hT:s.TypeIs (.ref it) "tuple_iterator":=⟨_,ho,rfl⟩
 obtain ⟨ol,hol,_,nl,hdl⟩:=ht
 unfold Builtin.SmallTypes.nextOf
 refine wpAny_bind (wpAny_callSpecial?_slot (name:=Str.ofString "__next__") hT F.slot_tuple_iterator_next (wpAny_call_entry F.slot_tuple_iterator_next hT F.entry_tuple_iterator_next ?_ (F.args_tuple_iterator_next_1 _)))
 refine wpAny_bind (m:=field (.ref it) 0) (wpAny_field ho rfl (x:=.ref t) rfl ?_)
 refine (if_neg (show ¬ ((Value.ref t == Value.none)=true) from Bool.false_ne_true)).symm ▸ ?_
 refine wpAny_bind (m:=field (.ref it) 1) (wpAny_field ho rfl (x:=.int i 0) rfl ?_)
 refine wpAny_bind (m:=seqItems? (.ref t)) (wpAny_seqItems hol hdl ?_)
 simp only [Int.toNat_natCast,hx]
 refine wpAny_bind (wpAny_rule (wpAny_bind (wpAny_setField ho rfl (by simp) ?_)))
 unfold Builtin.SmallTypes.stopIteration
 refine wpAny_bind ?_
 simp only [newExc,newTuple]
 refine wpAny_bind (wpAny_newObj_type ?_ (by size_fits))
 refine wpAny_bind (m:=firstArgMember _ _) (wpAny_of_eq (a:=Value.none) (by first|rfl|(simp only [firstArgMember];rfl)) ?_)
 refine wpAny_newObj_type ?_ (by size_fits)
 simp only [raiseNew]
 refine wpAny_bind (wpAny_handled ?_)
 first|rw [show A.in1.handled=none from hh]|rw [hh]
 refine wpAny_bind (wpAny_pure (wpAny_throw ?_))
 exact q _ _ (((Heap.SameBut.update ..).extBut.push _).push _) ⟨_,Heap.get?_push_size _ rfl,rfl⟩
structure aDo (z TI TO a b:Addr):Prop where
 h1:TI≠z
 h2:TO≠z
 h3:a≠z
 h4:b≠z
 h5:TI≠TO
 h6:TI≠a
 h7:TI≠b
 h8:TO≠a
 h9:TO≠b
 h10:a≠b
theorem aKd {T:Addr} {a b x:Value} {k:Nat} {Q:Unit→Shared→Prop} (hT:s.heap.get? T=some (nW a b))
  (q:∀h',h'.get? T=some { cls:=.type "tuple",data:=.seq ((#[a,b]:Array Value).setIfInBounds k x) }→Heap.SameBut T s.heap h'→Q () { s with heap:=h' }) :
  wpAny (model prog w) A (updateSeq T (·.setIfInBounds k x)) Q E s:=by
 refine wpAny_updateSeq hT rfl (q _ ?_ (Heap.SameBut.update ..))
 rw [Heap.get?_update_self _ hT rfl]
 simp [Obj.mapSeq]
theorem aLw {z TI TO i1 i2 t u:Addr} {k:Nat} {xs ys:Array Value} {x y a b:Value} {Q:Option Value→Shared→Prop} (D:aDo z TI TO i1 i2)
  (hz:s.heap.get? z=some (wH .none TI TO)) (hTI:s.heap.get? TI=some (nW (.ref i1) (.ref i2))) (hTO:s.heap.get? TO=some (nW a b))
  (g1:s.heap.get? i1=some (qP t k)) (g2:s.heap.get? i2=some (qP u k)) (ht:s.heap.IsTuple t xs) (hu:s.heap.IsTuple u ys) (hx:xs[k]?=some x) (hy:ys[k]?=some y)
  (t1:t≠z) (t2:t≠TO) (t3:t≠i1) (t4:t≠i2) (u1:u≠z) (u2:u≠TO) (u3:u≠i1) (u4:u≠i2)
  (q:∀h',h'.get? z=some (wH (rawInt s.heap.objs.size) TI TO)→h'.get? TO=some (nW x y)→h'.get? i1=some (qP t (k+1))→h'.get? i2=some (qP u (k+1))→h'.get? s.heap.objs.size=some (nW x y) →
   (∀c o,c≠z→c≠TO→c≠i1→c≠i2→s.heap.get? c=some o→h'.get? c=some o)→Q (some (.ref s.heap.objs.size)) { s with heap:=h' }) :
  wpAny (model prog w) A (pyNext (.ref z)) Q E s:=by
 have hT:s.TypeIs (.ref z) "zip":=⟨_,hz,rfl⟩
 unfold pyNext
 refine wpAny_bind (wpAny_attempt (wpAny_callSpecial?_slot (name:=Str.ofString "__next__") hT F.slot_zip_next (wpAny_call_entry F.slot_zip_next hT F.entry_zip_next ?_ (F.args_zip_next_1 _))))
 refine wpAny_bind (m:=field (.ref z) 2) (wpAny_field hz rfl (x:=.bool false) rfl ?_)
 refine wpAny_bind (m:=field (.ref z) 3) (wpAny_field hz rfl (x:=.ref TI) rfl (wpAny_bind (wpAny_seqItems hTI rfl ?_)))
 refine wpAny_bind (m:=Builtin.SmallTypes.ownedTupleIsFree (.ref z)) ?_
 unfold Builtin.SmallTypes.ownedTupleIsFree
 refine wpAny_bind (wpAny_field hz rfl (x:=.none) rfl (wpAny_pure ?_))
 simp only [if_true]
 refine wpAny_bind (wpAny_rule (wpAny_bind (wpAny_field hz rfl (x:=.ref TO) rfl (wpAny_bind (wpAny_setField_rec hz (by simp) fun h1 z1 s1=>?_)))))
 replace z1:h1.get? z=some (wH .ellipsis TI TO):=z1
 refine wpAny_bind ?_
 simp only [List.zipIdx_cons,List.zipIdx_nil,List.forIn_cons,List.forIn_nil]
 refine wpAny_bind (wpAny_bind (wpAny_onRaise ?_))
 refine wpAny_bind (m:=Builtin.SmallTypes.nextOf (.ref i1)) (aAz (s:={ s with heap:=h1 }) (s1.extBut _ _ D.h3 g1) (ht.extBut s1.extBut t1) hx fun h2 g12 s2=>wpAny_pure ?_)
 have TO2:h2.get? TO=some (nW a b):=s2.extBut _ _ D.h8 (s1.extBut _ _ D.h2 hTO)
 refine wpAny_bind (wpAny_seqItems TO2 rfl (wpAny_bind (aKd (s:={ s with heap:=h2 }) TO2 fun h3 TO3 s3=>wpAny_bind (wpAny_letGo (wpAny_pure ?_)))))
 replace TO3:h3.get? TO=some (nW x b):=TO3
 refine wpAny_bind (wpAny_bind (wpAny_onRaise ?_))
 refine wpAny_bind (m:=Builtin.SmallTypes.nextOf (.ref i2)) (aAz (s:={ s with heap:=h3 }) (s3.extBut _ _ D.h9.symm (s2.extBut _ _ D.h10.symm (s1.extBut _ _ D.h4 g2))) (((hu.extBut s1.extBut u1).extBut s2.extBut u3).extBut s3.extBut u2) hy fun h4 g24 s4=>wpAny_pure ?_)
 have TO4:h4.get? TO=some (nW x b):=s4.extBut _ _ D.h9 TO3
 refine wpAny_bind (wpAny_seqItems TO4 rfl (wpAny_bind (aKd (s:={ s with heap:=h4 }) TO4 fun h5 TO5 s5=>wpAny_bind (wpAny_letGo (wpAny_pure (wpAny_pure ?_))))))
 replace TO5:h5.get? TO=some (nW x y):=TO5
 refine wpAny_bind (wpAny_seqItems TO5 rfl (wpAny_bind (wpAny_newTuple ?_)))
 have hsz:h5.objs.size=s.heap.objs.size:=by rw [s5.1,s4.1,s3.1,s2.1,s1.1]
 have z5:h5.get? z=some (wH .ellipsis TI TO):=s5.extBut _ _ D.h2.symm (s4.extBut _ _ D.h4.symm (s3.extBut _ _ D.h2.symm (s2.extBut _ _ D.h3.symm z1)))
 have kp:∀c o,c≠z→c≠TO→c≠i1→c≠i2→s.heap.get? c=some o→h5.get? c=some o:=fun c o c1 c2 c3 c4 e=>s5.extBut _ _ c2 (s4.extBut _ _ c4 (s3.extBut _ _ c2 (s2.extBut _ _ c3 (s1.extBut _ _ c1 e))))
 have g15:h5.get? i1=some (qP t (k+1)):=s5.extBut _ _ D.h8.symm (s4.extBut _ _ D.h10 (s3.extBut _ _ D.h8.symm g12))
 have g25:h5.get? i2=some (qP u (k+1)):=s5.extBut _ _ D.h9.symm g24
 refine wpAny_bind (m:=Builtin.SmallTypes.ownedTupleHandOut (.ref z) (.ref h5.objs.size)) ?_
 unfold Builtin.SmallTypes.ownedTupleHandOut
 have z6:(h5.push (nW x y)).get? z=some (wH .ellipsis TI TO):=Heap.get?_push_of_some _ z5
 refine wpAny_bind (wpAny_setField_rec z6 (by simp) fun h7 z7 s7=>?_)
 replace z7:h7.get? z=some (wH (rawInt h5.objs.size) TI TO):=z7
 refine wpAny_setField_rec z7 (by simp) fun h8 z8 s8=>?_
 replace z8:h8.get? z=some (wH (rawInt h5.objs.size) TI TO):=z8
 have up:∀c o,c≠z→h5.get? c=some o→h8.get? c=some o:=fun c o c1 e=>s8.extBut _ _ c1 (s7.extBut _ _ c1 (Heap.get?_push_of_some _ e))
 have nz:h5.objs.size≠z:=Nat.ne_of_gt (Heap.lt_size z5)
 have T8:h8.get? h5.objs.size=some (nW x y):=s8.extBut _ _ nz (s7.extBut _ _ nz (Heap.get?_push_size _ rfl))
 rw [hsz] at z8 T8
 refine wpAny_pure ⟨_,rfl,wpAny_pure ?_⟩
 show Q (some (.ref h5.objs.size)) _
 rw [hsz]
 exact q h8 z8 (up _ _ D.h2 TO5) (up _ _ D.h3 g15) (up _ _ D.h4 g25) T8 fun c o c1 c2 c3 c4 e=>up c o c1 (kp c o c1 c2 c3 c4 e)
theorem aPu {z TI TO i1 i2 t:Addr} {k:Nat} {xs:Array Value} {a b:Value} {Q:Option Value→Shared→Prop} (hh:A.handled=none) (D:aDo z TI TO i1 i2)
  (hz:s.heap.get? z=some (wH .none TI TO)) (hTI:s.heap.get? TI=some (nW (.ref i1) (.ref i2))) (hTO:s.heap.get? TO=some (nW a b))
  (g1:s.heap.get? i1=some (qP t k)) (ht:s.heap.IsTuple t xs) (hx:xs[k]?=none) (t1:t≠z)
  (q:∀h',(∀c o,c≠z→c≠TO→c≠i1→c≠i2→s.heap.get? c=some o→h'.get? c=some o)→Q none { s with heap:=h' }) :
  wpAny (model prog w) A (pyNext (.ref z)) Q E s:=by
 have hT:s.TypeIs (.ref z) "zip":=⟨_,hz,rfl⟩
 unfold pyNext
 refine wpAny_bind (wpAny_attempt (wpAny_callSpecial?_slot (name:=Str.ofString "__next__") hT F.slot_zip_next (wpAny_call_entry F.slot_zip_next hT F.entry_zip_next ?_ (F.args_zip_next_1 _))))
 refine wpAny_bind (m:=field (.ref z) 2) (wpAny_field hz rfl (x:=.bool false) rfl ?_)
 refine wpAny_bind (m:=field (.ref z) 3) (wpAny_field hz rfl (x:=.ref TI) rfl (wpAny_bind (wpAny_seqItems hTI rfl ?_)))
 refine wpAny_bind (m:=Builtin.SmallTypes.ownedTupleIsFree (.ref z)) ?_
 unfold Builtin.SmallTypes.ownedTupleIsFree
 refine wpAny_bind (wpAny_field hz rfl (x:=.none) rfl (wpAny_pure ?_))
 simp only [if_true]
 refine wpAny_bind (wpAny_rule (wpAny_bind (wpAny_field hz rfl (x:=.ref TO) rfl (wpAny_bind (wpAny_setField_rec hz (by simp) fun h1 z1 s1=>?_)))))
 replace z1:h1.get? z=some (wH .ellipsis TI TO):=z1
 refine wpAny_bind ?_
 simp only [List.zipIdx_cons,List.zipIdx_nil,List.forIn_cons,List.forIn_nil]
 refine wpAny_bind (wpAny_bind (wpAny_onRaise ?_))
 refine wpAny_bind (m:=Builtin.SmallTypes.nextOf (.ref i1)) (aAs (s:={ s with heap:=h1 }) hh (s1.extBut _ _ D.h3 g1) (ht.extBut s1.extBut t1) hx fun h2 e s2 he=>?_)
 obtain ⟨oe,hoe,hce⟩:=he
 have z2:h2.get? z=some (wH .ellipsis TI TO):=s2 _ _ D.h3.symm z1
 have hez:e≠z:=fun x=>by subst x;rw [z2] at hoe;cases hoe;simp at hce
 refine wpAny_setField_rec z2 (by simp) fun h3 _ s3=>?_
 refine wpAny_bind (wpAny_isInstance (T:="StopIteration") (b:=true) ⟨oe,s3.extBut _ _ hez hoe,hce⟩ isSubtype_stop ?_)
 exact wpAny_pure (q _ fun c o c1 _ c3 _ x=>s3.extBut _ _ c1 (s2 _ _ c3 (s1.extBut _ _ c1 x)))
end
end PySem
namespace PySem
section
variable {prog:Program} {w:World} {A:Around} {E:Value→Shared→Prop} {s:Shared}
abbrev zT1 (h:Heap) (t:Addr):Heap:=h.push (qP t 0)
abbrev zT2 (h:Heap) (t u:Addr):Heap:=(zT1 h t).push (qP u 0)
abbrev zT3 (h:Heap) (t u:Addr):Heap:=(zT2 h t u).push (nW (.ref h.objs.size) (.ref (zT1 h t).objs.size))
abbrev zT4 (h:Heap) (t u:Addr):Heap:=(zT3 h t u).push (nW .none .none)
abbrev zT5 (h:Heap) (t u:Addr):Heap:=(zT4 h t u).push (wH .none (zT2 h t u).objs.size (zT3 h t u).objs.size)
theorem aH2 (t u:Addr) (xs ys:Array Value):Meets (Builtin.«zip.__new__» ⟨[.type "zip",.ref t,.ref u],[]⟩)
  (fun _ R s=>s.heap.IsTuple t xs∧s.heap.IsTuple u ys∧R (.ok (.ret (.ref (zT4 s.heap t u).objs.size))) { s with heap:=zT5 s.heap t u }):=
 .of_wp fun prog w A R s h=>by
  obtain ⟨hp,g,d,tk,os⟩:=s
  obtain ⟨a1,a2,h⟩:=h
  have hsub:=sub_zip
  have b1:Heap.IsTuple (Shared.heap ⟨hp,g,d,tk,os⟩) t xs:=a1
  have b2:Heap.IsTuple (Shared.heap ⟨hp.push { cls:=.type "tuple_iterator",data:=.fields #[.ref t,.int 0 0] },g,d,tk,os⟩) u ys:=by
   obtain ⟨o,ho,r⟩:=a2
   exact ⟨o,Heap.get?_push_of_some _ ho,r⟩
  wp_walk using wpAny_pyIter_tuple b1,wpAny_pyIter_tuple b2
  exact ⟨_,rfl,h⟩
theorem aMv {t u:Addr} {xs ys:Array Value} {Q:Value→Shared→Prop} (ht:s.heap.IsTuple t xs) (hu:s.heap.IsTuple u ys) (q:Q (.ref (zT4 s.heap t u).objs.size) { s with heap:=zT5 s.heap t u }) :
  wpAny (model prog w) A (call (.type "zip") [.ref t,.ref u]) Q E s:=by
 refine callType_new F.called_zip (by decide) (F.typeCall_zip_2 _ _) (F.newCall_zip_2 _ _) (fun obj=>F.args_object_init_3 obj _ _) F.entry_zip_new (aH2 t u xs ys) ⟨ht,hu,?_⟩
 exact ⟨⟨_,Heap.get?_push_size _ rfl,rfl⟩,q⟩
end
end PySem
namespace L2
open PySem PySem.Spec PyProof.Rows
section
variable {X:Cx} {pins:List (Addr × Obj)} {σ:St} {H:Hp} {s:Shared}
theorem Inv.tup_ne {t b:Addr} {xs:List V} (I:Inv X pins σ H s) (h:SqT X.K H t xs) (f:sO X pins H b):t≠b:=by
 rintro rfl
 obtain ⟨f0,f1,f2,f3,_⟩:=f
 rcases h with (h|⟨o,h⟩)|⟨o,its,n,hk,_⟩
 ·rw [f0] at h;cases h
 ·rw [f0] at h;cases h
 ·have e:=I.ok.mod.kin t o hk
  rcases f3 with z|z
  ·exact I.ok.noex t o e z
  ·exact absurd (Nat.lt_of_lt_of_le (Heap.lt_size e) (Nat.le_trans I.ok.bsz z)) (Nat.lt_irrefl _)
theorem Inv.drawn {ch:List Addr} {h':Heap} {vs:List V} {its:List Value} {T:Addr} (I:Inv X pins σ H s) (hch:∀b∈ch,sO X pins H b) (kp:∀b o,b∉ch→s.heap.get? b=some o→h'.get? b=some o)
  (hT:s.heap.objs.size≤T) (hv:Vals vs its) (hz:vs.length≤sizeLine) (ho:vL h' T its.toArray) (hth:∀b∈ch,∃o,h'.get? b=some o):Inv X pins σ (upd H T (.tup vs)) { s with heap:=h' }:=by
 have fT:H T=none:=I.hok.fresh hT
 have nT:∀b o,s.heap.get? b=some o→b≠T:=fun b o e=>Nat.ne_of_lt (Nat.lt_of_lt_of_le (Heap.lt_size e) hT)
 have nch:∀b u,H b=some u→b∉ch:=fun b u e z=>by rw [(hch b z).1] at e;cases e
 refine I.step (g':=s.gens) (d':=s.drawn) (t':=s.toks) (ch:=ch) (fun b hb=>?_) (fun b o _ _ hc e _=>kp b o hc e) (fun b o _ _ hc e _=>⟨o.slots,kp b o hc e⟩) (fun b o hc e n=>by rw [bA (nT b o e)];exact n)
  (fun b o hc e=>⟨o,kp b o hc e⟩) (fun b xs e=>by rw [bA (bH e fT)];exact e) (fun b o u e=>by rw [bA (bH e fT)];exact e) (fun b ps e=>⟨#[],by rw [bA (bH e fT),e];simp⟩) (fun m hm=>?_) (fun b u e=>?_) I.bare
 ·obtain ⟨_,f1,_,f3,f4,f5⟩:=hch b hb
  exact ⟨f3,f1,f4,f5⟩
 ·obtain ⟨o,es,ep,ho',r⟩:=hm
  exact ⟨o,es,ep,kp _ o (fun z=>(hch _ z).2.1 rfl) ho',r⟩
 ·by_cases hb:b=T
  ·subst hb
   rw [aO] at e
   cases e
   exact ⟨hz,its,hv,ho⟩
  ·rw [bA hb] at e
   refine (I.hok b u e).stay (fun c v hc' q=>kp c v ?_ q) (fun c q=>by rw [bA (bH q fT)];exact q) fun c xs q=>by rw [bA (bH q fT)];exact q
   rcases hc' with z|z
   ·rw [z];exact nch b u e
   ·exact nch c _ z
theorem Inv.aLa {ch:List Addr} {h':Heap} (I:Inv X pins σ H s) (hch:∀b∈ch,sO X pins H b) (kp:∀b o,b∉ch→s.heap.get? b=some o→h'.get? b=some o):Inv X pins σ H { s with heap:=h' }:=by
 have nch:∀b u,H b=some u→b∉ch:=fun b u e z=>by rw [(hch b z).1] at e;cases e
 refine I.step (g':=s.gens) (d':=s.drawn) (t':=s.toks) (ch:=ch) (fun b hb=>?_) (fun b o _ _ hc e _=>kp b o hc e) (fun b o _ _ hc e _=>⟨o.slots,kp b o hc e⟩) (fun _ _ _ _ n=>n)
  (fun b o hc e=>⟨o,kp b o hc e⟩) (fun _ _ e=>e) (fun _ _ _ e=>e) (fun b ps e=>⟨#[],by rw [e];simp⟩) (fun m hm=>?_) (fun b u e=>?_) I.bare
 ·obtain ⟨_,f1,_,f3,f4,f5⟩:=hch b hb
  exact ⟨f3,f1,f4,f5⟩
 ·obtain ⟨o,es,ep,ho',r⟩:=hm
  exact ⟨o,es,ep,kp _ o (fun z=>(hch _ z).2.1 rfl) ho',r⟩
 ·refine (I.hok b u e).stay (fun c v hc' q=>kp c v ?_ q) (fun _ q=>q) fun _ _ q=>q
  rcases hc' with z|z
  ·rw [z];exact nch b u e
  ·exact nch c _ z
end
def Itz (K:PySem.W.Frag) (t u:Addr) (xs ys:List V):It:=
 ⟨fun i H=>SqT K H t xs∧SqT K H u ys∧i<xs.length∧i<ys.length,fun i H v H'=>∃T a b,H T=none∧v=.ref T∧H'=upd H T (.tup [a,b])∧xs[i]?=some a∧ys[i]?=some b,fun i H=>SqT K H t xs∧xs.length≤i⟩
def ztn (z TI TO i1 i2 t u:Addr) (i:Nat) (h:Heap):Prop:=
 h.get? z=some (wH .none TI TO)∧h.get? TI=some (nW (.ref i1) (.ref i2))∧(∃a b,h.get? TO=some (nW a b))∧h.get? i1=some (qP t i)∧h.get? i2=some (qP u i)
theorem aNs {P:Program} {w:World} {K:PySem.W.Frag} {elts:List Expr} {kt:Nat} {pos:Pos} {z TI TO i1 i2 t u:Addr} {xs ys:List V} (D:aDo z TI TO i1 i2) :
  Turn P w K (.Tuple elts kt pos) (Itz K t u xs ys) [z,TI,TO,i1,i2] z (ztn z TI TO i1 i2 t u) where
 mem:=by simp
 obj:=fun i h st b hb=>by
  obtain ⟨e1,e2,⟨a,c,e3⟩,e4,e5⟩:=st
  simp only [List.mem_cons,List.not_mem_nil,or_false] at hb
  rcases hb with rfl|rfl|rfl|rfl|rfl
  ·exact ⟨_,e1,fun v z=>by cases (show Data.fields _=Data.cell v from z)⟩
  ·exact ⟨_,e2,fun v z=>by cases (show Data.seq _ _=Data.cell v from z)⟩
  ·exact ⟨_,e3,fun v z=>by cases (show Data.seq _ _=Data.cell v from z)⟩
  ·exact ⟨_,e4,fun v z=>by cases (show Data.fields _=Data.cell v from z)⟩
  ·exact ⟨_,e5,fun v z=>by cases (show Data.fields _=Data.cell v from z)⟩
 keep:=fun i h h' st k=>by
  obtain ⟨e1,e2,⟨a,c,e3⟩,e4,e5⟩:=st
  exact ⟨k z (by simp) _ e1,k TI (by simp) _ e2,⟨a,c,k TO (by simp) _ e3⟩,k i1 (by simp) _ e4,k i2 (by simp) _ e5⟩
 item:=by
  intro X hP hw hK hc i pins s σ H E I hf st hg
  subst hP hw hK
  obtain ⟨e1,e2,⟨a0,c0,e3⟩,e4,e5⟩:=st
  obtain ⟨ht,hu,l1,l2⟩:=hg
  obtain ⟨its,rv,pt,hz⟩:=I.tuple ht
  obtain ⟨jts,rw',pu,hz'⟩:=I.tuple hu
  obtain ⟨x,hx,rx⟩:=rv.get (List.getElem?_eq_getElem l1)
  obtain ⟨y,hy,ry⟩:=rw'.get (List.getElem?_eq_getElem l2)
  have fz:=hf z (by simp)
  have fO:=hf TO (by simp)
  have f1:=hf i1 (by simp)
  have f2:=hf i2 (by simp)
  refine aLw D e1 e2 e3 e4 e5 (show s.heap.IsTuple t its.toArray from pt) (show s.heap.IsTuple u jts.toArray from pu) (by simpa using hx) (by simpa using hy) (I.tup_ne ht fz) (I.tup_ne ht fO) (I.tup_ne ht f1) (I.tup_ne ht f2)
   (I.tup_ne hu fz) (I.tup_ne hu fO) (I.tup_ne hu f1) (I.tup_ne hu f2) fun h' a1 a2 a3 a4 a5 kp=>?_
  refine ⟨_,rfl,?_⟩
  have fT:H s.heap.objs.size=none:=I.hok.fresh (Nat.le_refl _)
  have I1:Inv X pins σ (upd H s.heap.objs.size (.tup [xs[i],ys[i]])) { s with heap:=h' }:=by
   refine I.drawn (ch:=[z,TO,i1,i2]) (its:=[x,y]) (fun b hb=>?_) (fun b o hb e=>?_) (Nat.le_refl _) (.cons rx (.cons ry .nil)) (small (by simp)) (.of a5 rfl ⟨_,a5,rfl,_,rfl⟩) (fun b hb=>?_)
   ·refine hf b ?_
    simp only [List.mem_cons,List.not_mem_nil,or_false] at hb ⊢
    rcases hb with h|h|h|h <;> simp [h]
   ·simp only [List.mem_cons,List.not_mem_nil,or_false,not_or] at hb
    exact kp b o hb.1 hb.2.1 hb.2.2.1 hb.2.2.2 e
   ·simp only [List.mem_cons,List.not_mem_nil,or_false] at hb
    rcases hb with rfl|rfl|rfl|rfl
    ·exact ⟨_,a1⟩
    ·exact ⟨_,a2⟩
    ·exact ⟨_,a3⟩
    ·exact ⟨_,a4⟩
  have nT:∀b∈[z,TI,TO,i1,i2],b≠s.heap.objs.size:=fun b hb=>by
   have e:∃o,s.heap.get? b=some o:=by
    simp only [List.mem_cons,List.not_mem_nil,or_false] at hb
    rcases hb with rfl|rfl|rfl|rfl|rfl
    ·exact ⟨_,e1⟩
    ·exact ⟨_,e2⟩
    ·exact ⟨_,e3⟩
    ·exact ⟨_,e4⟩
    ·exact ⟨_,e5⟩
   obtain ⟨o,e⟩:=e
   exact Nat.ne_of_lt (Heap.lt_size e)
  refine wpAny_letOwnedTupleGo_zip (s:={ s with heap:=h' }) a1 fun h2 z2 s2=>?_
  obtain ⟨g0,g1,g2,g3,g4,g5⟩:=fz
  have I2:Inv X pins σ (upd H s.heap.objs.size (.tup [xs[i],ys[i]])) { s with heap:=h2 }:=Inv.turned (s:={ s with heap:=h' }) I1 (t':=s.toks) (it:=z) (fun b o hb e=>(s2.2 b hb).trans e) (by rw [bA (nT z (by simp))];exact g0) g1 g3 g4 g5
  refine ⟨.ref s.heap.objs.size,_,I2,rfl,⟨_,_,_,fT,rfl,rfl,List.getElem?_eq_getElem l1,List.getElem?_eq_getElem l2⟩,?_,fun b hb=>by rw [bA (nT b hb)];exact (hf b hb).1⟩
  exact ⟨z2,s2.extBut _ _ D.h1 (kp TI _ D.h1 D.h5 D.h6 D.h7 e2),⟨_,_,s2.extBut _ _ D.h2 a2⟩,s2.extBut _ _ D.h3 a3,s2.extBut _ _ D.h4 a4⟩
 done:=by
  intro X hP hw hK hc i pins s σ H E I hf st hg
  subst hP hw hK
  obtain ⟨e1,e2,⟨a0,c0,e3⟩,e4,e5⟩:=st
  obtain ⟨ht,hl⟩:=hg
  obtain ⟨its,rv,pt,hz⟩:=I.tuple ht
  have hlen:=rv.length
  refine aPu (I.ok.hd hc) D e1 e2 e3 e4 (show s.heap.IsTuple t its.toArray from pt) (by simp;omega) (I.tup_ne ht (hf z (by simp))) fun h' kp=>⟨rfl,?_⟩
  refine Inv.aLa (ch:=[z,TO,i1,i2]) I (fun b hb=>hf b ?_) fun b o hb e=>?_
  ·simp only [List.mem_cons,List.not_mem_nil,or_false] at hb ⊢
   rcases hb with h|h|h|h <;> simp [h]
  ·simp only [List.mem_cons,List.not_mem_nil,or_false,not_or] at hb
   exact kp b o hb.1 hb.2.1 hb.2.2.1 hb.2.2.2 e
 self:=fun _ _ _ _ _ st h=>wpAny_pyIter_zip st.1 h
section
variable {X:Cx}
def aPg (K:PySem.W.Frag) (ta:TA):TI:=fun σ H R=>ta σ H fun vs H1=>∃t u xs ys,vs=[.ref t,.ref u]∧SqT K H1 t xs∧SqT K H1 u ys∧R (Itz K t u xs ys) H1
theorem aRw {elts:List Expr} {kt:Nat} {tp:Pos} {a b:Expr} {ta:TA} {p pos:Pos} (hg:Gl X "zip") (hm:X.mg "zip"=none) (ha:PA X [a,b] ta) (hs:starEach [a,b] X.env=(false,eval a X.env)::starEach [b] X.env:=by rfl)
  (hs2:starEach [b] X.env=[(false,eval b X.env)]:=by rfl):PI X (.Tuple elts kt tp) (.Call (.Name "zip" p) [a,b] [] pos) (aPg X.K ta):=by
 intro pins s σ H R I h
 refine Call_ (rD I hg hm aUm (PyProof.Rows.callWith_type1 (thn (ha pos pins s σ H _ I h) fun us s1 ⟨vs,H1,I1,r1,q1⟩=>?_) hs (by rw [hs2];rfl)))
 obtain ⟨t,u,xs,ys,e,ht,hu,q⟩:=q1
 subst e
 obtain ⟨its,rv,pt,hz⟩:=I1.tuple ht
 obtain ⟨jts,rw',pu,hz'⟩:=I1.tuple hu
 cases r1 with
 |cons r rr=>
  cases rr with
  |cons r' rr'=>
   cases rr'
   cases r
   cases r'
   refine aMv (show s1.heap.IsTuple t its.toArray from pt) (show s1.heap.IsTuple u jts.toArray from pu) ?_
   have z1:(zT1 s1.heap t).objs.size=s1.heap.objs.size+1:=Heap.size_push ..
   have z2:(zT2 s1.heap t u).objs.size=s1.heap.objs.size+2:=by rw [Heap.size_push,z1]
   have z3:(zT3 s1.heap t u).objs.size=s1.heap.objs.size+3:=by rw [Heap.size_push,z2]
   have z4:(zT4 s1.heap t u).objs.size=s1.heap.objs.size+4:=by rw [Heap.size_push,z3]
   have D:aDo (zT4 s1.heap t u).objs.size (zT2 s1.heap t u).objs.size (zT3 s1.heap t u).objs.size s1.heap.objs.size (zT1 s1.heap t).objs.size:=by
    constructor <;> (show (_:Nat)≠(_:Nat);rw [Ne];intro h;simp only [z1,z2,z3,z4] at h;omega)
   have g5:(zT5 s1.heap t u).get? (zT4 s1.heap t u).objs.size=some (wH .none (zT2 s1.heap t u).objs.size (zT3 s1.heap t u).objs.size):=Heap.get?_push_size _ rfl
   have g4:(zT5 s1.heap t u).get? (zT3 s1.heap t u).objs.size=some (nW .none .none):=Heap.get?_push_of_some _ (Heap.get?_push_size _ rfl)
   have g3:(zT5 s1.heap t u).get? (zT2 s1.heap t u).objs.size=some (nW (.ref s1.heap.objs.size) (.ref (zT1 s1.heap t).objs.size)):=Heap.get?_push_of_some _ (Heap.get?_push_of_some _ (Heap.get?_push_size _ rfl))
   have g2:(zT5 s1.heap t u).get? (zT1 s1.heap t).objs.size=some (qP u 0):=Heap.get?_push_of_some _ (Heap.get?_push_of_some _ (Heap.get?_push_of_some _ (Heap.get?_push_size _ rfl)))
   have g1:(zT5 s1.heap t u).get? s1.heap.objs.size=some (qP t 0):=Heap.get?_push_of_some _ (Heap.get?_push_of_some _ (Heap.get?_push_of_some _ (Heap.get?_push_of_some _ (Heap.get?_push_size _ rfl))))
   have I2:Inv X pins σ H1 { s1 with heap:=zT5 s1.heap t u }:=I1.kept (t':=s1.toks) fun b o e=>Heap.get?_push_of_some _ (Heap.get?_push_of_some _ (Heap.get?_push_of_some _ (Heap.get?_push_of_some _ (Heap.get?_push_of_some _ e))))
   refine wpAny_pyIter_zip (s:={ s1 with heap:=zT5 s1.heap t u }) g5 ⟨_,_,_,_,H1,rfl,I2,aNs (xs:=xs) (ys:=ys) D,⟨g5,g3,⟨_,_,g4⟩,g1,g2⟩,fun b hb=>?_,q⟩
   have hb':s1.heap.objs.size≤b:=by
    simp only [List.mem_cons,List.not_mem_nil,or_false] at hb
    rcases hb with rfl|rfl|rfl|rfl|rfl
    ·rw [z4];exact Nat.le_add_right ..
    ·rw [z2];exact Nat.le_add_right ..
    ·rw [z3];exact Nat.le_add_right ..
    ·exact Nat.le_refl _
    ·rw [z1];exact Nat.le_add_right ..
   exact I1.aJm hb' (I1.hok.fresh hb')
end
section
variable {X:Cx}
inductive Tk (K:PySem.W.Frag) (H:Hp):V→Bool→Prop
 |int {i}:Tk K H (.int i) false
 |str {x}:Tk K H (.str x) false
 |bl {b}:Tk K H (.bl b) false
 |non:Tk K H .non false
 |lst {a xs}:SqL K H a xs→Tk K H (.ref a) false
 |dct {a kvs}:H a=some (.dK kvs)→Tk K H (.ref a) false
 |tup {a xs}:SqT K H a xs→Tk K H (.ref a) true
def aXs (K:PySem.W.Frag):List V→Hp→VK→Prop:=fun xs H Q=>∃x b,xs=[x,.ty "tuple"]∧Tk K H x b∧Q (.bl b) H
theorem jG:cV X (.builtin "isinstance") (aXs X.K):=by
 intro pins s σ H xs us Q I r h
 obtain ⟨x,b,rfl,hx,q⟩:=h
 obtain ⟨u,v,rfl,rx,rT⟩:=r.two
 cases rT
 have f0:EP X pins σ Q (.bool b) s:=⟨.bl _,H,I,rfl,q⟩
 have f1:EP X pins σ Q (.bool b) { s with toks:=s.toks+1 }:=⟨.bl _,H,I.tok _,rfl,q⟩
 cases hx with
 |int=>obtain ⟨t,rfl⟩:=rx;exact IsiPair.int_tuple f1
 |str=>obtain ⟨t,rfl⟩:=rx;exact IsiPair.str_tuple f1
 |bl=>cases rx;exact IsiPair.bool_tuple f1
 |non=>cases rx;exact IsiPair.NoneType_tuple f1
 |lst hq=>
  cases rx
  obtain ⟨its,rv,⟨o,n,e,c,_⟩,hz⟩:=I.list hq
  exact IsiPair.list_tuple e c f1
 |dct hq=>
  cases rx
  obtain ⟨_,_,_,_,o,_,_,e,ex,_⟩:=I.hok _ _ hq
  exact IsiPair.dict_tuple e ex.1 f1
 |tup hq=>
  cases rx
  obtain ⟨its,rv,⟨o,e,c,_⟩,hz⟩:=I.tuple hq
  exact IsiPair.tuple_tuple e c f0
end
section
variable {X:Cx} {scope:Scope} {N:List Str} {wi:TI} {te:TE} {σ:St} {H:Hp} {Q:VK}
theorem lF {σ0:St} {j:Nat} (h0:σ0[j]?=some none):σ0=σ0.set j none:=by
 refine (List.ext_getElem? fun i=>?_)
 rw [List.getElem?_set]
 split
 ·rename_i hj
  subst hj
  split
  ·exact h0
  ·rename_i hlt
   exact List.getElem?_eq_none_iff.mpr (by omega)
 ·rfl
theorem aI3 {K:PySem.W.Frag} {a:Addr} {xs:List V} {tl:TE} (hS:SqT K H a xs) (h:∀R:VK,R (.ref a) H→tl σ H R) (R:It→Hp→Prop)
  (q:∀J:It,(∀H' i x,Same H H'→xs[i]?=some x→J.go i H'∧∀y H2,J.yld i H' y H2→H2=H'∧y=x)→(∀H',Same H H'→J.stop xs.length H')→R J H):aIl K tl σ H R:=by
 refine h _ ⟨a,rfl,⟨xs,hS⟩,q _ (fun H' i x s e=>⟨⟨xs,x,s.bB hS,e⟩,fun y H2 hy=>?_⟩) fun H' s=>⟨xs,s.bB hS,Nat.le_refl _⟩⟩
 obtain ⟨e1,e2⟩:=hy
 have e3:=e2 xs (s.bB hS)
 rw [e] at e3
 cases e3
 exact ⟨e1,rfl⟩
end
def Held (P:Program) (w:World) (K:PySem.W.Frag) (mg:Str→Option Value) (base:Heap) (k:Nat) (f:Addr) (ps:List Str) (sp:Sp):Prop:=
 ∃fd,PySem.W.keepIn K (.ref f)=true∧Binds K fd ps []∧jA P w K mg base CX0 k f fd ps sp
theorem Ok.held {P:Program} {w:World} {K:PySem.W.Frag} {mg:Str→Option Value} {base:Heap} {k:Nat} {x:Str} {ps:List Str} {sp:Sp} (G:Ok P w K mg base k x ps sp):∃f,mg x=some (.ref f)∧Held P w K mg base k f ps sp:=by
 obtain ⟨f,fd,h1,h2,h3,h4⟩:=G
 exact ⟨f,h1,fd,h2,h3,h4⟩
theorem Held.mono {P:Program} {w:World} {K:PySem.W.Frag} {mg:Str→Option Value} {base:Heap} {j k:Nat} {f:Addr} {ps:List Str} {sp:Sp} (h:Held P w K mg base j f ps sp) (hj:j≤k):Held P w K mg base k f ps sp:=by
 obtain ⟨fd,h1,h2,h3⟩:=h
 exact ⟨fd,h1,h2,h3.mono hj⟩
section
variable {X:Cx} {x:Str} {p pos:Pos} {e:Expr} {es:List Expr} {te:TE} {t:TA}
def aOo (P:Program) (w:World) (K:PySem.W.Frag) (mg:Str→Option Value) (base:Heap) (k:Nat) (te:TE) (t:TA):TE:=fun σ H Q=>te σ H fun v H1=>∃f ps sp,v=.ref f∧Held P w K mg base k f ps sp∧t σ H1 fun vs H2=>sp vs H2 Q E0
theorem aRg {k:Nat} (hr:Room k X.A) (hf:PE X (.Name x p) te) (ha:PA X (e::es) t)
  (he:starEach (e::es) X.env=(false,eval e X.env)::starEach es X.env:=by rfl) (hpl:(backTo pos (starEach es X.env)).any (·.1)=false:=by rfl) :
  PE X (.Call (.Name x p) (e::es) [] pos) (aOo X.prog X.w X.K X.mg X.base k te t):=by
 intro pins s σ H Q I h
 refine wpAny_Call_Name_kw (thn (hf pins s σ H _ I h) fun u s1 ⟨v,H1,I1,r1,q1⟩=>?_)
 obtain ⟨f,ps,sp,rfl,⟨fd,hk,hb,F⟩,q⟩:=q1
 obtain rfl:u=Value.ref f:=r1
 refine PySem.W.callWith_K (h₀:=X.base) I1.ok.mod.kin hk (thn (ha pos pins s1 σ H1 _ I1 q) fun us s2 ⟨vs,H2,I2,r,q2⟩=>⟨I2.kIn,?_⟩) he hpl
 exact aI2 F hr hb .nil aKi I2 r (by simpa using q2)
end
end L2
namespace PySem
theorem lO:fillsNumberSlot (.type "tuple") "mul"=pure false:=
 fillsNumberSlot_seq (id:="tuple.__mul__") (r:=some (.builtin "tuple.__rmul__")) F.slot_tuple_mul.lookup (by decide +kernel) F.slot_tuple_rmul.lookup (by decide +kernel)
theorem rA:seqRepeat? (.type "tuple")=pure (some (.builtin "tuple.__mul__")):=by
 unfold seqRepeat?
 rw [seqSlot_of (T:="tuple") (name:="__mul__") (id:="tuple.__mul__") F.slot_tuple_mul.lookup (by decide +kernel),seqSlot_of (T:="tuple") (name:="__rmul__") (id:="tuple.__rmul__") F.slot_tuple_rmul.lookup (by decide +kernel)]
 rfl
theorem pO (a:Int) (t:Tok) (l:Addr) (items:Array Value) (n:Nat) (dd:Option Addr) (sl:Array (Option Value)) :
  Meets (Builtin.«int.__rmul__» ⟨[.int a t,.ref l],[]⟩) (fun _ R s=>s.heap.get? l=some { cls:=.type "tuple",dict:=dd,data:=.seq items n,slots:=sl }∧R (.ok (.ret Value.notImplemented)) s):=
 .of_wp fun prog w A R s h=>by
  obtain ⟨hp,g,d,tk,os⟩:=s;obtain ⟨hl,h⟩:=h
  wp_walk;exact ⟨_,rfl,h⟩
theorem aH4 (l:Addr) (items:Array Value) (n:Nat) (dd:Option Addr) (sl:Array (Option Value)) (x:Int) (u:Tok) (h1:(decide (x < -(2 ^ 63)) || decide (x ≥ 2 ^ 63))=false) (h2:(items.isEmpty || x == 1)=false) (h3:(decide (x≤0) || items.isEmpty)=false)
  (h4:¬ (items.size:Int) * x > (2 ^ 63 - 1) / 8) (h5:Builtin.Tuple.tupleTooMany ((items.size:Int) * x)=false) (h6:(List.foldl (fun x1 x2=>x1++x2) #[] (List.replicate x.toNat items)).size≤sizeLine) :
  Meets (Builtin.«tuple.__mul__» ⟨[.ref l,.int x u],[]⟩) (fun _ R s=>s.heap.get? l=some { cls:=.type "tuple",dict:=dd,data:=.seq items n,slots:=sl }∧R (.ok (.ret (Value.ref s.heap.objs.size))) { s with heap:=s.heap.push { cls:=Value.type "tuple",data:=Data.seq (List.foldl (fun x1 x2=>x1++x2) #[] (List.replicate x.toNat items)) } }):=
 .of_wp fun prog w A R s h=>by
  obtain ⟨hp,g,d,tk,os⟩:=s;obtain ⟨hl,h⟩:=h
  wp_walk
  refine wpAny_ite_false (by rw [h1];rfl) ?_
  wp_walk
  refine wpAny_ite_false (decide_eq_false h4) ?_
  wp_walk
  first
   |exact ⟨_,rfl,h⟩
   |(refine wpAny_ite_false (decide_eq_false (Nat.not_lt.mpr h6)) ?_;wp_walk;exact ⟨_,rfl,h⟩)
end PySem
namespace L2
open PySem PySem.Spec PyProof.Rows
section
variable {X:Cx}
theorem aQo:OpR X (binaryOp .Add) (fun x y H Q=>∃a b ys,x=.ref a∧y=.ref b∧SqT X.K H a []∧SqT X.K H b ys∧Q (.ref b) H):=by
 intro pins s σ H x y v u Q I rx ry h
 obtain ⟨a,b,ys,rfl,rfl,ha,hb,q⟩:=h
 cases rx
 cases ry
 obtain ⟨its,r1,p1,_⟩:=I.tuple ha
 obtain ⟨its2,r2,p2,_⟩:=I.tuple hb
 cases r1
 obtain ⟨⟨cls,dd,data,sl⟩,ho,hc,n,hd⟩:=id p1
 obtain ⟨⟨cls2,dd2,data2,sl2⟩,ho2,hc2,n2,hd2⟩:=id p2
 simp only at hc hd hc2 hd2
 subst hc hd hc2 hd2
 exact concat_meets ⟨_,ho,rfl⟩ ⟨_,ho2,rfl⟩ noFill_tuple_add seq_tuple_add PySem.F.slot_tuple_add PySem.F.entry_tuple_add (PySem.F.args_tuple_add_2 _ _)
  (tuple_addW0 a b #[] its2.toArray n n2 dd dd2 sl sl2 rfl) ⟨ho,ho2,⟨.ref b,H,I,rfl,q⟩⟩
def aWm (K:PySem.W.Frag):R2:=fun x y H Q=>∃l k xs,x=.ref l∧y=.int k∧SqT K H l xs∧xs≠[]∧2≤k∧k<2 ^ 63∧xs.length * k.toNat≤sizeLine ∧
 ∀p,H p=none→Q (.ref p) (upd H p (.tup (List.replicate k.toNat xs).flatten))
theorem aSf:OpR X (binaryOp .Mult) (aWm X.K):=by
 intro pins s σ H x y v u Q I rx ry h
 obtain ⟨l,k,xs,rfl,rfl,hH,hx,h1,h2,hz,q⟩:=h
 cases rx
 obtain ⟨t,rfl⟩:=ry
 obtain ⟨its,r,p1,_⟩:=I.tuple hH
 obtain ⟨⟨cls,dd,data,sl⟩,ho,hc,n,hd⟩:=id p1
 simp only at hc hd
 subst hc hd
 have hl:=r.length
 have hne:its≠[]:=fun z=>hx (r.yL.mp z)
 have hemp:its.toArray.isEmpty=false:=by cases its with|nil=>exact absurd rfl hne|cons _ _=>rfl
 have hk:(k.toNat:Int)=k:=Int.toNat_of_nonneg (by omega)
 have hmul:((its.toArray.size:Nat):Int) * k=((its.length * k.toNat:Nat):Int):=by rw [List.size_toArray,Int.natCast_mul,hk]
 have hz':its.length * k.toNat≤sizeLine:=by rw [←hl];exact hz
 have f0:List.foldl (fun x1 x2=>x1++x2) #[] (List.replicate k.toNat its.toArray)=(List.replicate k.toNat its).flatten.toArray:=by
  have:=foldl_rep its k.toNat []
  rw [List.nil_append] at this
  exact this
 have hcap:(sizeLine:Nat)≤(2 ^ 63 - 1) / 8:=by decide
 refine wpAny_binaryOp_repeat_ref (T:="tuple") (U:="int") (by decide) ⟨_,ho,rfl⟩ (fun s'=>typeIs_int s' k t) lO F.fills_int_mul F.slot_int_rmul rA F.slot_int_index.lookup
  (call_meets F.slot_int_rmul (typeIs_int s k t) F.entry_int_rmul (F.args_int_rmul_2 _ _) (pO k t l its.toArray n dd sl)
   ⟨ho,rfl,⟨_,ho,rfl⟩,call_meets F.slot_tuple_mul ⟨_,ho,rfl⟩ F.entry_tuple_mul (F.args_tuple_mul_2 _ _) (aH4 l its.toArray n dd sl k t ?_ ?_ ?_ ?_ ?_ ?_) ⟨ho,?_⟩⟩)
 ·rw [decide_eq_false (by omega),decide_eq_false (by omega)];rfl
 ·rw [hemp,Bool.false_or];exact beq_false_of_ne (by omega)
 ·rw [hemp,decide_eq_false (by omega)];rfl
 ·rw [hmul];omega
 ·unfold Builtin.Tuple.tupleTooMany;rw [hmul];exact decide_eq_false (by omega)
 ·rw [f0,List.size_toArray,len_rep,Nat.mul_comm];exact hz'
 ·rw [f0]
  refine ⟨.ref s.heap.objs.size,_,I.laid (t':=s.toks) (o:=.tup (List.replicate k.toNat xs).flatten) (fun b ob q=>Heap.get?_push_of_some _ q) (Nat.le_refl _) ?_,rfl,q _ (I.hok.fresh (Nat.le_refl _))⟩
  exact ⟨by rw [len_rep,Nat.mul_comm];exact hz,_,r.rep k.toNat,vL.new _ _⟩
end
end L2
namespace PySem
section
variable {prog:Program} {w:World}
variable {A:Around} {E:Value→Shared→Prop} {s:Shared}
end
end PySem
namespace L2
open PySem PySem.Spec PyProof.Rows
section
variable {X:Cx}
end
theorem iD {X:Cx} {scope:Scope} {x y:Str} {σ:St} {v:V} (j:Nat) (hf:(y,NameKind.free)∈scope.names) (hj:X.N[j]?=some y) (hs:σ[j]?=some (some v)) (hv:Vis X.env.scope y):Cap X scope [x,y] σ [none,some v]:=
 ⟨rfl,fun i z u h1 h2=>by
  match i,h1,h2 with
  |0,_,h2=>cases h2
  |1,h1,h2=>cases h1;cases h2;exact ⟨hf,j,hj,hs,hv⟩
  |i+2,h1,_=>cases h1⟩
theorem mW {X:Cx} {scope:Scope} {x y:Str} {σ:St}:Cap X scope [x,y] σ [none,none]:=⟨rfl,fun i z u h1 h2=>by
  match i,h1,h2 with
  |0,_,h2=>cases h2
  |1,_,h2=>cases h2
  |i+2,h1,_=>cases h1⟩
section
variable {X:Cx} {a b e:Expr} {es:List Expr} {te:TE} {t:TA} {pos p:Pos} {x:Str}
theorem aRn {k:Nat} (hr:Room k X.A) (hf:VE X (.Name x p) te) (ha:VA X (e::es) t) (hp:gO e=true:=by rfl) (hpl:(backTo pos (starEach es X.env)).any (·.1)=false:=by rfl) :
  VE X (.Call (.Name x p) (e::es) [] pos) (aOo X.prog X.w X.K X.mg X.base k te t):=⟨aRg hr hf.1 ha.1 (bY hp) hpl⟩
theorem aFb {P:Program} {w:World} {K:PySem.W.Frag} {mg:Str→Option Value} {base:Heap} {k:Nat} (hr:Room k X.A) (hf:VE X (.Name x p) te) (ha:VA X (e::es) t) (hp:gO e=true:=by rfl) (hpl:(backTo pos (starEach es X.env)).any (·.1)=false:=by rfl)
  (h1:X.prog=P:=by rfl) (h2:X.w=w:=by rfl) (h3:X.K=K:=by rfl) (h4:X.mg=mg:=by rfl) (h5:X.base=base:=by rfl) :
  VE X (.Call (.Name x p) (e::es) [] pos) (aOo P w K mg base k te t):=by
 subst h1 h2 h3 h4 h5
 exact aRn hr hf ha hp hpl
theorem qJ {K:PySem.W.Frag} (h:X.K=K:=by rfl):IxR X (aWl K):=by subst h;exact cM
theorem mF {K:PySem.W.Frag} {k:Nat} {u:TGs} {n:Nat} (hc:X.calm=true) (h:VGs X es u) (hn:(assignEach es X.env).length=n:=by rfl) (hst:(assignEach es X.env).findIdx? (·.1)=none:=by rfl) (hK:X.K=K:=by rfl):VG X (.Tuple es k pos) (aJt K n u):=by
 subst hK
 exact mH hc h hn hst
theorem aQm {elts:List Expr} {kt:Nat} {tp:Pos} (hg:Gl X "zip") (hm:X.mg "zip"=none) (ha:VA X [a,b] t) (hp:gO a=true:=by rfl) (hp2:gO b=true:=by rfl) :
  VI X (.Tuple elts kt tp) (.Call (.Name "zip" p) [a,b] [] pos) (aPg X.K t):=⟨aRw hg hm ha.1 (bY hp) (bY (es:=[]) hp2)⟩
theorem rR {tg:Expr} {g:TG} (he:VE X e te) (hg:VG X tg g) (hs:swapsWithSole [tg] e pos.line X.env=pure false:=by rfl) (hw:swappedStores [tg] e X.env=pure none:=by rfl)
  (h1:(assignEach [tg] X.env).map (·.2)=[assign tg X.env]:=by rfl):VS X (.Assign [tg] e pos) (oY te g):=⟨aVc he.1 hg.1 hs hw h1⟩
end
section
variable {X:Cx}
def aX0:V→Option Int→Option Int→Hp→VK→Prop:=fun x lo hi H Q=>∃z,x=.str z∧z.length≤sizeLine∧Q (.str (Txt.slice z lo hi)) H
theorem aEc:SlR X aX0:=by
 intro pins s σ H x v vl vu lo hi sl Q I rx hs pl pu h
 obtain ⟨z,rfl,hz,q⟩:=h
 obtain ⟨t,rfl⟩:=rx
 have fin:∀l u:Option (Int × Tok),l.map (·.1)=lo→u.map (·.1)=hi→s.heap.IsSlice sl l u none→wpAny (model X.prog X.w) X.A (getItem (.str z t) (.ref sl)) (EP X pins σ Q) X.xe s:=fun l u e1 e2 hsl=>by
  subst e1 e2
  refine wpAny_getItem_str_slice (st:=none) hsl rfl ?_
  unfold sliceMade
  have hle:=Txt.slice_le z (l.map (·.1)) (u.map (·.1))
  exact post_val_or_str ⟨Nat.le_trans hle hz,fun t' k=>⟨.str (Txt.slice z (l.map (·.1)) (u.map (·.1))),H,I.tok _,⟨_,rfl⟩,q⟩⟩
 refine ⟨"str",_,F.slot_str_getitem.lookup,typeIs_str _ _ _,?_⟩
 obtain ⟨o,ho,hc,hd⟩:=hs
 cases pl with
 |none=>
  cases pu with
  |none=>exact fin none none rfl rfl ⟨o,ho,hc,hd⟩
  |int j u=>exact fin none (some (j,u)) rfl rfl ⟨o,ho,hc,hd⟩
 |int i t=>
  cases pu with
  |none=>exact fin (some (i,t)) none rfl rfl ⟨o,ho,hc,hd⟩
  |int j u=>exact fin (some (i,t)) (some (j,u)) rfl rfl ⟨o,ho,hc,hd⟩
end
theorem aC2 {ta:TA} {σ:St} {H:Hp} (n:Nat) (h:∀R:List V→Hp→Prop,R [.int n] H→ta σ H R) (hn:(n:Int)<2 ^ 62) (R:It→Hp→Prop)
  (q:∀J:It,(∀H' i x,Same H H'→((List.range n).map fun i:Nat=>V.int (0+(i:Int)))[i]?=some x→J.go i H'∧∀y H2,J.yld i H' y H2→H2=H'∧y=x) →
   (∀H',Same H H'→J.stop ((List.range n).map fun i:Nat=>V.int (0+(i:Int))).length H')→R J H):aPh ta σ H R:=by
 refine h _ ⟨n,rfl,by omega,hn,?_⟩
 refine q _ (fun H' i x _ e=>?_) fun H' _=>?_
 ·rw [List.getElem?_map] at e
  have hi:i<n:=by
   cases hr:(List.range n)[i]? with
   |none=>rw [hr] at e;cases e
   |some j=>have:=(List.getElem?_eq_some_iff.mp hr).1;rwa [List.length_range] at this
  rw [List.getElem?_range hi] at e
  cases e
  exact ⟨show i<((n:Int)).toNat from by omega,fun y H2 hy=>hy⟩
 ·rw [List.length_map,List.length_range]
  simp [Itr]
theorem aNk {x:Str} {j:Nat} (h:j≤x.length):(Txt.slice x none (some (j:Int))).cps.toList=x.cps.toList.take j:=by
 have e:=StrLaws.sliceText_to (x:=x) (j:=(j:Int)) ⟨by omega,by rw [Array.length_toList];exact Int.ofNat_le.mpr h⟩
 show (StrLaws.sliceText x none (some (j:Int))).cps.toList=_
 rw [e]
 simp
theorem aIv {x:Str} {j:Nat} (h:j≤x.length):(Txt.slice x (some (j:Int)) none).cps.toList=x.cps.toList.drop j:=by
 have e:=StrLaws.sliceText_from (x:=x) (i:=(j:Int)) ⟨by omega,by rw [Array.length_toList];exact Int.ofNat_le.mpr h⟩
 show (StrLaws.sliceText x (some (j:Int)) none).cps.toList=_
 rw [e]
 simp only [Int.toNat_natCast]
 refine List.take_of_length_le ?_
 rw [List.length_drop]
 omega
def put (x:Str) (a:Nat) (c:Nat):Str:=Txt.slice x none (some (a:Int))++⟨#[c]⟩++Txt.slice x (some (a:Int)) none
theorem aC8 {x:Str} {a c:Nat} (h:a≤x.length):(put x a c).cps.toList=x.cps.toList.take a++c::x.cps.toList.drop a:=by
 show ((Txt.slice x none (some (a:Int))).cps++#[c]++(Txt.slice x (some (a:Int)) none).cps).toList=_
 rw [Array.toList_append,Array.toList_append,aNk h,aIv h]
 simp
theorem aSm {x:Str} {a c d:Nat} (h:a≤x.length) (e:put x a c=put x a d):c=d:=by
 have e1:=congrArg (fun y:Str=>y.cps.toList) e
 simp only [aC8 h] at e1
 have e2:=List.append_cancel_left e1
 exact (List.cons.inj e2).1
theorem aSc {x:Str} {a c:Nat} (h:a≤x.length):(put x a c).length=x.length+1:=by
 have e:=congrArg List.length (aC8 (c:=c) h)
 have l:x.length=x.cps.toList.length:=by rw [Array.length_toList];rfl
 rw [Array.length_toList,List.length_append,List.length_cons,List.length_take,List.length_drop] at e
 show (put x a c).cps.size=_
 omega
theorem aRo {x:Str} {a c d:Nat} (h:a≤x.length) (m:d∈(put x a c).cps):d=c∨d∈x.cps:=by
 have m1:d∈(put x a c).cps.toList:=Array.mem_toList_iff.mpr m
 rw [aC8 h] at m1
 rcases List.mem_append.mp m1 with z|z
 ·exact .inr (Array.mem_toList_iff.mp (List.mem_of_mem_take z))
 ·rcases List.mem_cons.mp z with z|z
  ·exact .inl z
  ·exact .inr (Array.mem_toList_iff.mp (List.mem_of_mem_drop z))
section
variable {X:Cx} {scope:Scope} {N:List Str} {wi:TI} {te:TE} {σ:St} {H:Hp} {Q:VK}
theorem uK {K:PySem.W.Frag} (h:X.K=K:=by rfl):IxR X (aRq K):=by subst h;exact dU
end
section
variable {X:Cx} {scope:Scope} {N:List Str} {wi:TI} {te:TE} {σ:St} {H:Hp} {Q:VK}
end
section
variable {X:Cx} {e:Expr} {es:List Expr} {t:TA} {pos:Pos}
def kI (t:TA):TE:=fun σ H Q=>t σ H fun xs H1=>xs.length≤sizeLine∧∀p H',H1 p=none→Same H1 H'→H' p=some (.tup xs)→Q (.ref p) H'
def aHi (t:TA):TE:=fun σ H Q=>t σ H fun xs H1=>xs.length≤sizeLine∧∀p H',H1 p=none→Same H1 H'→H' p=some (.lst xs)→Q (.ref p) H'
def aOm:TE:=fun _ H Q=>∀p H',H p=none→Same H H'→H' p=some (.dK [])→Q (.ref p) H'
theorem aD {x1} (h:VA X es t):VE X (.Tuple es x1 pos) (kI t):=⟨by
 intro pins s σ H Q I hq
 refine wpAny_Tuple_spliced (thn (h.1 pos pins s σ H _ I hq) fun us s1 ⟨xs,H1,I1,r,z,q⟩=>⟨by rw [←r.length];exact z,?_⟩)
 have hf:H1 s1.heap.objs.size=none:=I1.hok.fresh (Nat.le_refl _)
 refine ⟨.ref s1.heap.objs.size,upd H1 s1.heap.objs.size (.tup xs),I1.laid (t':=s1.toks) (fun b u e=>Heap.get?_push_of_some _ e) (Nat.le_refl _) ?_,rfl,q _ _ hf (cC hf _) aO⟩
 exact ⟨z,us,r,.of (Heap.get?_push_size _ rfl) rfl ⟨_,Heap.get?_push_size _ rfl,rfl,_,rfl⟩⟩⟩
theorem bC (h:VA X es t):VE X (.List es pos) (aHi t):=⟨by
 intro pins s σ H Q I hq
 refine wpAny_List_spliced (thn (h.1 pos pins s σ H _ I hq) fun us s1 ⟨xs,H1,I1,r,z,q⟩=>⟨by rw [←r.length];exact z,?_⟩)
 have hf:H1 s1.heap.objs.size=none:=I1.hok.fresh (Nat.le_refl _)
 refine ⟨.ref s1.heap.objs.size,upd H1 s1.heap.objs.size (.lst xs),I1.laid (t':=s1.toks) (fun b u e=>Heap.get?_push_of_some _ e) (Nat.le_refl _) ?_,rfl,q _ _ hf (cC hf _) aO⟩
 exact ⟨z,us,0,r,Heap.get?_push_size _ rfl⟩⟩
theorem aHf:VE X (.Dict [] [] pos) aOm:=VE.imp aN4 fun σ H Q h p hp=>h p _ hp (cC hp _) aO
theorem OpR.imp {f:Value→Value→Sem Value} {r r':R2} (h:OpR X f r) (k:∀x y H Q,r' x y H Q→r x y H Q):OpR X f r':=fun pins s σ H x y v u Q I rx ry q=>h pins s σ H x y v u Q I rx ry (k _ _ _ _ q)
theorem cV.imp {f:Value} {r r':List V→Hp→VK→Prop} (h:cV X f r) (k:∀xs H Q,r' xs H Q→r xs H Q):cV X f r':=fun pins s σ H xs us Q I rv q=>h pins s σ H xs us Q I rv (k _ _ _ q)
def aWz (K:PySem.W.Frag):R2:=fun x y H Q=>∃a b xs ys,x=.ref a∧y=.ref b∧SqT K H a xs∧SqT K H b ys∧xs.length+ys.length≤sizeLine∧∀r H',Same H H'→SqT K H' r (xs++ys)→Q (.ref r) H'
theorem aQ6:OpR X (binaryOp .Add) (aWz X.K):=OpR.imp (aQh.or aQo) fun x y H Q ⟨a,b,xs,ys,ex,ey,ha,hb,hz,q⟩=>by
 by_cases h:xs=[]
 ·subst h
  exact .inr ⟨a,b,ys,ex,ey,ha,hb,q b H (Same.refl H) hb⟩
 ·refine .inl ⟨a,b,xs,ys,ex,ey,ha,hb,h,hz,fun z=>?_,fun _ p hp=>q p _ (cC hp _) (SqT.of aO)⟩
  subst z
  exact q a H (Same.refl H) (by rw [List.append_nil];exact ha)
def aY2 (K:PySem.W.Frag):V→Option Int→Option Int→Hp→VK→Prop:=fun x lo hi H Q=>∃a xs,x=.ref a∧SqT K H a xs ∧
 ¬ (HT.sIx xs.length 0 lo=0∧HT.sIx xs.length xs.length hi=xs.length)∧∀p H',Same H H'→H' p=some (.tup (pD xs lo hi))→Q (.ref p) H'
theorem aDz:SlR X (aY2 X.K):=fun pins s σ H x v vl vu lo hi sl Q I rx hs pl pu ⟨a,xs,e,ha,hn,q⟩=>
 aUg pins s σ H x v vl vu lo hi sl Q I rx hs pl pu ⟨a,xs,e,ha,hn,fun p hp=>q p _ (cC hp _) aO⟩
def aI0:R2:=fun x y H Q=>∃l b xs zs,x=.ref l∧y=.ref b∧H l=some (.lst xs)∧H b=some (.lst zs)∧xs.length+zs.length≤sizeLine∧∀p H',H p=none→Same H H'→H' p=some (.lst (xs++zs))→Q (.ref p) H'
theorem dB:OpR X (binaryOp .Add) aI0:=OpR.imp aT7 fun x y H Q ⟨l,b,xs,zs,ex,ey,hl,hb,hz,q⟩=>⟨l,b,xs,zs,ex,ey,hl,hb,hz,fun p hp=>q p _ hp (cC hp _) aO⟩
def aXi (K:PySem.W.Frag):R2:=fun x y H Q=>∃l k xs,x=.ref l∧y=.int k∧SqT K H l xs∧xs≠[]∧2≤k∧k<2 ^ 63∧xs.length * k.toNat≤sizeLine ∧
 ∀p H',Same H H'→H' p=some (.tup (List.replicate k.toNat xs).flatten)→Q (.ref p) H'
theorem aQ0:OpR X (binaryOp .Mult) (aXi X.K):=OpR.imp aSf fun x y H Q ⟨l,k,xs,ex,ey,hl,h0,h2,h3,hz,q⟩=>⟨l,k,xs,ex,ey,hl,h0,h2,h3,hz,fun p hp=>q p _ (cC hp _) aO⟩
def aUb (K:PySem.W.Frag):List V→Hp→VK→Prop:=fun xs H Q=>∃p ys,xs=[.ref p]∧(SqL K H p ys∨SqT K H p ys)∧∀l H',H l=none→Same H H'→H' l=some (.lst ys)→Q (.ref l) H'
theorem aIg:cV X (.type "list") (aUb X.K):=cV.imp aDf fun xs H Q ⟨p,ys,e,h,q⟩=>⟨p,ys,e,h,fun l hl=>q l _ hl (cC hl _) aO⟩
def aSh (K:PySem.W.Frag):List V→Hp→VK→Prop:=fun xs H Q=>∃p ys,xs=[.ref p]∧SqL K H p ys∧∀l H',H l=none→Same H H'→H' l=some (.tup ys)→Q (.ref l) H'
theorem cN:cV X (.type "tuple") (aSh X.K):=cV.imp aBk fun xs H Q ⟨p,ys,e,h,q⟩=>⟨p,ys,e,.inl ⟨h,fun l hl=>q l _ hl (cC hl _) aO⟩⟩
theorem jF:MtR X "list.append" aEp:=wK
theorem mZ {H H':Hp} {D:Addr} {o:HO} (f:H D=none) (s:Same H H'):Same H (upd H' D o):=fun b u e=>by rw [bA (bH e f)];exact s _ _ e
end
end L2
namespace PySem
section
variable {prog:Program} {w:World} {A:Around} {E:Value→Shared→Prop} {s:Shared} {T:String} {r d:Addr} {n:Nat} {P:Nat→Value→Prop} {OK:Heap→Prop}
theorem aFt {Q:List Value→Shared→Prop} (Kd:PySem.W.KdlSrc prog w T r d n P OK) (hh:A.handled=none) (hok:OK s.heap)
  (hQ:∀h' tk acc,(∀b o,s.heap.get? b=some o→h'.get? b=some o)→ItemsOf P acc n→Q acc.toList { s with heap:=h',toks:=tk }) (hn:n≤sizeLine) :
  wpAny (model prog w) A (collect (.ref r)) Q E s:=by
 unfold collect
 refine wpAny_bind (wpAny_runValue (codeAny_builtin F.entry_proto_collect ?_))
 rw [Around.under_plainId F.plain_proto_collect _]
 show wpAny _ A.in1 (newList [] >>= fun l=>again (.builtin "list.__iadd__" ⟨[l,.ref r],[]⟩)) _ _ s
 refine wpAny_bind (wpAny_newObj_type ?_)
 refine wpAny_pure ⟨plainId_quiet F.plain_list_iadd _,codeAny_builtin F.entry_list_iadd ?_⟩
 rw [Around.under_plainId F.plain_list_iadd _]
 show wpAny _ A.in1 (Builtin.List.listExtendWith (.ref s.heap.objs.size) (.ref r) (.ref s.heap.objs.size)) _ _ _
 have hS:(s.heap.push { cls:=.type "list",data:=.seq ([]:List Value).toArray }).get? s.heap.objs.size=some { cls:=.type "list",data:=.seq #[] 0 }:=Heap.get?_push_size _ rfl
 have hlt:=Kd.there _ hok
 have fin':∀h' tk acc' c',(∀b o,b≠s.heap.objs.size→(s.heap.push { cls:=.type "list",data:=.seq ([]:List Value).toArray }).get? b=some o→h'.get? b=some o) →
   h'.get? s.heap.objs.size=some { cls:=.type "list",dict:=none,data:=.seq acc' c',slots:=#[] }→ItemsOf P acc' n →
   wpAny (model prog w) A (match Value.ref s.heap.objs.size with
   |Value.ref a=>do
    match (←load a).data with
     |Data.seq xs _=>pure xs.toList
     |_=>unsupported "internal:collect"
   |_=>unsupported "internal:collect") Q E { s with heap:=h',toks:=tk }:=by
  intro h' tk acc' c' kp hS' hacc
  show wpAny _ A (load s.heap.objs.size >>= _) _ _ _
  refine wpAny_bind (wpAny_load hS' ?_)
  refine wpAny_pure ?_
  exact hQ h' tk acc' (fun b o e=>kp b o (Nat.ne_of_lt (Heap.lt_size e)) (Heap.get?_push_of_some _ e)) hacc
 refine wpAny_mono (PySem.W.kdl_extend (A:=A) (R:=fun q s'=>∃h' tk acc' c',q=.ok (.ret (.ref s.heap.objs.size))∧s'={ s with heap:=h',toks:=tk }∧(∀b o,b≠s.heap.objs.size→(s.heap.push { cls:=.type "list",data:=.seq ([]:List Value).toArray }).get? b=some o→h'.get? b=some o) ∧
   h'.get? s.heap.objs.size=some { cls:=.type "list",dict:=none,data:=.seq acc' c',slots:=#[] }∧ItemsOf P acc' n)
  (s:={ s with heap:=s.heap.push { cls:=.type "list",data:=.seq ([]:List Value).toArray } }) Kd hh (Kd.keep _ _ hok fun b _ o e=>Heap.get?_push_of_some _ e) s.heap.objs.size (Nat.ne_of_gt hlt.1) (Nat.ne_of_gt hlt.2) (.ref s.heap.objs.size) 0 hS
   (fun h' tk acc' c' kp hS' hacc=>⟨h',tk,acc',c',rfl,rfl,kp,hS',hacc⟩) hn) (fun fin s' h=>?_) (fun e s' h=>?_)
 ·cases fin with
  |done f=>
   obtain ⟨h',tk,acc',c',e,rfl,kp,hS',hacc⟩:=h
   cases e
   exact fin' h' tk acc' c' kp hS' hacc
  |again c'=>exact ⟨h.1,codeAny_mono h.2 fun q s'' hr=>by
    obtain ⟨h',tk,acc',c',rfl,rfl,kp,hS',hacc⟩:=hr
    exact fin' h' tk acc' c' kp hS' hacc⟩
 ·obtain ⟨_,_,_,_,e,_⟩:=h
  cases e
end
theorem pC {prog:Program} {w:World} (d:Addr) (kvs:List (Str × Value)) (lo:(d == sysModules)=false) (hn:kvs.length≤sizeLine) :
  MeetsIn prog w (Builtin.«tuple.__new__» ⟨[.type "tuple",.ref d],[]⟩)
   (fun A R s=>A.handled=none∧(s.heap.DictOf (strKind prog w) d kvs)∧∀(h':Heap) (tk:Nat) (acc:Array Value),(∀b o,s.heap.get? b=some o→h'.get? b=some o) →
    ItemsOf (fun i v=>∃k x t,kvs[i]?=some (k,x)∧v=.str k t) acc kvs.length→R (.ok (.ret (.ref h'.objs.size))) { s with heap:=h'.push { cls:=.type "tuple",data:=.seq acc },toks:=tk }):=
 .of_wp fun A R s h=>by
  obtain ⟨hh,hm,h⟩:=h
  have hsub:=sub_tuple_self
  have hinit:=init_tuple_lookup
  have hmh:=madeHere_tuple
  have hT:s.TypeIs (.ref d) "dict":=hm.typeIs
  have hh1:A.in1.handled=none:=hh
  obtain ⟨ep,hat⟩:=hm.dictAt
  obtain ⟨o,es,ho,hx⟩:=id hat
  wp_walk using AutoSeq1.wpAny_loadPart' ho,wpAny_typeOf hT,aFt (hn:=hn) (PySem.W.kdl_dict (knd:=strKind prog w) (kvs:=kvs) (ep:=ep) lo) hh1 hat
  intro h' tk acc kp hacc
  show wpAny _ _ (Builtin.Tuple.tupleExact acc.toList.toArray >>= fun v=>ret v) _ _ _
  unfold Builtin.Tuple.tupleExact
  refine wpAny_bind (wpAny_newObj_type ?_ (show acc.toList.toArray.size≤sizeLine by simp only [Array.toArray_toList];rw [hacc.1];exact hn))
  refine wpAny_pure ⟨_,rfl,?_⟩
  have e:acc.toList.toArray=acc:=by simp
  rw [e]
  refine h h' tk acc kp ⟨hacc.1,fun j v hv=>?_⟩
  obtain ⟨k,x,e1,e2⟩:=hacc.2 j v hv
  obtain ⟨t,rfl⟩:=Value.isStrOf_shape (x:=k) (v:=v) e2
  exact ⟨k,x,t,e1,rfl⟩
end PySem
namespace L2
open PySem PySem.Spec PyProof.Rows
def aSa (w:World) (K:PySem.W.Frag) (d:Addr) (kvs:List (Str × Addr)):Prop:=∃o,K.lookup d=some o∧(d == sysModules)=false∧∀P:Program,o.IsDictOf (strKind P w) (kvs.map fun p=>(p.1,Value.ref p.2))
section
variable {X:Cx}
def aYk (w:World) (K:PySem.W.Frag):R2:=fun x y H Q=>∃d kvs k p,x=.ref d∧y=.str k∧aSa w K d kvs∧(kvs.find? fun q=>decide (q.1=k)).map (·.2)=some p∧Q (.ref p) H
theorem aNg (kvs:List (Str × Addr)) (k:Str) {p:Addr} (h:(kvs.find? fun q=>decide (q.1=k)).map (·.2)=some p):valueAt (kvs.map fun q=>(q.1,Value.ref q.2)) k=some (.ref p):=by
 unfold valueAt
 rw [List.find?_map]
 cases e:kvs.find? fun q=>decide (q.1=k) with
 |none=>rw [e] at h;cases h
 |some q=>
  rw [e] at h
  have h:q.2=p:=Option.some.inj h
  have e':kvs.find? ((fun kv:Str × Value=>decide (kv.1=k)) ∘ fun q=>(q.1,Value.ref q.2))=some q:=e
  rw [e',←h]
  rfl
theorem aRj:IxR X (aYk X.w X.K):=by
 intro value slice pins s σ H x y v u Q I rx ry h hs
 obtain ⟨d,kvs,k,p,rfl,rfl,⟨o,hk,lo,hd⟩,hp,q⟩:=h
 cases rx
 obtain ⟨t,rfl⟩:=ry
 have hm:s.heap.DictOf (strKind X.prog X.w) d (kvs.map fun p=>(p.1,Value.ref p.2)):=Heap.dictOf_iff.mpr ⟨o,I.kIn _ _ hk,hd _⟩
 exact tail_any hm.typeIs slot_dict_getitem.lookup (wpAny_getItem_of (strKind_is _ _ _ _) hm.mapOf (aNg kvs k hp) ⟨.ref p,H,I.tok _,rfl,q⟩) hs
def aXe (w:World) (K:PySem.W.Frag):List V→Hp→VK→Prop:=fun xs H Q=>∃d kvs,xs=[.ref d]∧aSa w K d kvs∧kvs.length≤1000∧∀p H',Same H H'→H' p=some (.tup (kvs.map fun q=>V.str q.1))→Q (.ref p) H'
theorem aCr:∀(kvs:List (Str × Value)) (vs:List Value),vs.length=kvs.length→(∀(j:Nat) (v:Value),vs[j]?=some v→∃k x t,kvs[j]?=some (k,x)∧v=.str k t)→Vals (kvs.map fun q=>V.str q.1) vs
 |[],[],_,_=>.nil
 |(k,x)::r,v::vs,hl,h=>by
  obtain ⟨k',x',t,e,rfl⟩:=h 0 v rfl
  cases e
  exact .cons ⟨t,rfl⟩ (aCr r vs (by simpa using hl) fun j u e=>h (j+1) u e)
theorem aM9 (hc:X.calm=true):cV X (.type "tuple") (aXe X.w X.K):=by
 intro pins s σ H xs us Q I r h
 obtain ⟨d,kvs,rfl,⟨o,hk,lo,hd⟩,hl,q⟩:=h
 obtain ⟨u,rfl,ru⟩:=vals1 r
 cases ru
 have hm:s.heap.DictOf (strKind X.prog X.w) d (kvs.map fun p=>(p.1,Value.ref p.2))  :=Heap.dictOf_iff.mpr ⟨o,I.kIn _ _ hk,hd _⟩
 have hn:(kvs.map fun p=>(p.1,Value.ref p.2)).length≤sizeLine:=small (by rw [List.length_map];exact hl)
 refine callType_newIn F.called_tuple (by decide) (F.typeCall_tuple_1 _) (F.newCall_tuple_1 _) (fun obj=>F.args_object_init_2 obj _) F.entry_tuple_new
  (pC d _ lo hn) ⟨I.ok.hd hc,hm,fun h' tk acc kp hacc=>⟨⟨_,Heap.get?_push_size _ rfl,rfl⟩,?_⟩⟩
 have hv:=aCr (kvs.map fun p=>(p.1,Value.ref p.2)) acc.toList (by rw [Array.length_toList];exact hacc.1) fun j v e=>hacc.2 j v (by rw [←Array.getElem?_toList];exact e)
 rw [List.map_map] at hv
 have hv:Vals (kvs.map fun q=>V.str q.1) acc.toList:=hv
 have I1:Inv X pins σ H { s with heap:=h',toks:=tk }:=I.kept (t':=tk) kp
 refine ⟨.ref h'.objs.size,_,I1.laid (t':=tk) (o:=.tup (kvs.map fun q=>V.str q.1)) (fun b ob e=>Heap.get?_push_of_some _ e) (Nat.le_refl _) ?_,rfl,q _ _ (cC (I1.hok.fresh (Nat.le_refl _)) _) aO⟩
 have ea:acc.toList.toArray=acc:=by simp
 refine ⟨small (by rw [List.length_map];exact hl),acc.toList,hv,?_⟩
 rw [ea]
 exact .of (Heap.get?_push_size _ rfl) rfl ⟨_,Heap.get?_push_size _ rfl,rfl,_,rfl⟩
end
section
variable {X:Cx} {pins:List (Addr × Obj)} {σ:St} {H:Hp} {s:Shared}
end
def Ite (K:PySem.W.Frag) (l:Addr) (xs:List V):It:=
 ⟨fun i H=>SqL K H l xs∧i<xs.length,fun i H v H'=>∃T a,H T=none∧v=.ref T∧H'=upd H T (.tup [.int (i:Nat),a])∧xs[i]?=some a,fun i H=>SqL K H l xs∧xs.length≤i⟩
def etn (e it l:Addr) (i:Nat) (h:Heap):Prop:=(∃old,IsEnum h e it (i:Int) old)∧h.IsListIter it l i
theorem aNb {P:Program} {w:World} {K:PySem.W.Frag} {elts:List Expr} {kt:Nat} {pos:Pos} {e it l:Addr} {xs:List V} (hne:e≠it) :
  Turn P w K (.Tuple elts kt pos) (Ite K l xs) [e,it] e (etn e it l) where
 mem:=by simp
 obj:=fun i h st b hb=>by
  obtain ⟨⟨old,e1⟩,o,e2,c2,d2⟩:=st
  simp only [List.mem_cons,List.not_mem_nil,or_false] at hb
  rcases hb with rfl|rfl
  ·exact ⟨_,e1,fun v z=>by cases (show Data.fields _=Data.cell v from z)⟩
  ·exact ⟨_,e2,fun v z=>by rw [d2] at z;cases z⟩
 keep:=fun i h h' st k=>by
  obtain ⟨⟨old,e1⟩,o,e2,r⟩:=st
  exact ⟨⟨old,k e (by simp) _ e1⟩,o,k it (by simp) _ e2,r⟩
 item:=by
  intro X hP hw hK hc i pins s σ H E I hf st hg
  subst hP hw hK
  obtain ⟨⟨old,e1⟩,e2⟩:=st
  obtain ⟨hl,l1⟩:=hg
  obtain ⟨its,rv,pl,hz⟩:=I.list hl
  obtain ⟨x,hx,rx⟩:=rv.get (List.getElem?_eq_getElem l1)
  have fe:=hf e (by simp)
  have fi:=hf it (by simp)
  refine wpAny_pyNext_enum_item e1 e2 pl.isList (by simpa using hx) hne fun h' a1 a2 a3 a4 kp=>?_
  refine ⟨_,rfl,?_⟩
  have fT:H s.heap.objs.size=none:=I.hok.fresh (Nat.le_refl _)
  obtain ⟨oi,e2',_⟩:=id e2
  obtain ⟨oi2,a2',_⟩:=id a2
  have I1:Inv X pins σ (upd H s.heap.objs.size (.tup [.int (i:Nat),xs[i]])) { s with heap:=h' }:=by
   refine I.drawn (ch:=[e,it]) (its:=[.int i s.toks,x]) (fun b hb=>hf b hb) (fun b o hb z=>?_) (Nat.le_refl _) (.cons ⟨_,rfl⟩ (.cons rx .nil)) (small (by simp)) (.of a3 rfl ⟨_,a3,rfl,_,rfl⟩) (fun b hb=>?_)
   ·simp only [List.mem_cons,List.not_mem_nil,or_false,not_or] at hb
    exact kp b o hb.1 hb.2 z
   ·simp only [List.mem_cons,List.not_mem_nil,or_false] at hb
    rcases hb with rfl|rfl
    ·exact ⟨_,a1⟩
    ·exact ⟨_,a2'⟩
  have I1':Inv X pins σ (upd H s.heap.objs.size (.tup [.int (i:Nat),xs[i]])) { s with heap:=h',toks:=s.toks+1 }:=I1.tok _
  have nT:∀b∈[e,it],b≠s.heap.objs.size:=fun b hb=>by
   simp only [List.mem_cons,List.not_mem_nil,or_false] at hb
   rcases hb with rfl|rfl
   ·exact Nat.ne_of_lt (Heap.lt_size e1)
   ·exact Nat.ne_of_lt (Heap.lt_size e2')
  refine wpAny_letOwnedTupleGo_enum (s:={ s with heap:=h',toks:=s.toks+1 }) a1 fun h2 z2 s2=>?_
  obtain ⟨g0,g1,g2,g3,g4,g5⟩:=fe
  have I2:Inv X pins σ (upd H s.heap.objs.size (.tup [.int (i:Nat),xs[i]])) { s with heap:=h2,toks:=s.toks+1 }:=Inv.turned (s:={ s with heap:=h',toks:=s.toks+1 }) I1' (t':=s.toks+1) (it:=e) (fun b o hb z=>(s2.2 b hb).trans z) (by rw [bA (nT e (by simp))];exact g0) g1 g3 g4 g5
  refine ⟨.ref s.heap.objs.size,_,I2,rfl,⟨_,_,fT,rfl,rfl,List.getElem?_eq_getElem l1⟩,⟨⟨x,?_⟩,?_⟩,fun b hb=>by rw [bA (nT b hb)];exact (hf b hb).1⟩
  ·rw [show ((i+1:Nat):Int)=(i:Int)+1 from by omega]
   exact z2
  ·obtain ⟨o,ho,r⟩:=a2
   exact ⟨o,(s2.2 it (Ne.symm hne)).trans ho,r⟩
 done:=by
  intro X hP hw hK hc i pins s σ H E I hf st hg
  subst hP hw hK
  obtain ⟨⟨old,e1⟩,e2⟩:=st
  obtain ⟨hl,hi⟩:=hg
  obtain ⟨its,rv,pl,hz⟩:=I.list hl
  have hlen:=rv.length
  refine wpAny_pyNext_enum_end (I.ok.hd hc) e1 e2 pl.isList (by simp;omega) fun h' kp=>⟨rfl,?_⟩
  refine Inv.aLa (ch:=[it]) I (fun b hb=>hf b (List.mem_cons_of_mem _ hb)) fun b o hb z=>kp b o (by simpa using hb) z
 self:=fun _ _ _ _ _ st h=>by
  obtain ⟨⟨old,e1⟩,_⟩:=st
  exact wpAny_pyIter_enum e1 h
section
variable {X:Cx}
def aS5 (K:PySem.W.Frag) (ta:TA):TI:=fun σ H R=>ta σ H fun vs H1=>∃l xs,vs=[.ref l]∧SqL K H1 l xs∧R (Ite K l xs) H1
theorem aQw {elts:List Expr} {kt:Nat} {tp:Pos} {a:Expr} {ta:TA} {p pos:Pos} (hg:Gl X "enumerate") (hm:X.mg "enumerate"=none) (ha:PA X [a] ta) (hs:starEach [a] X.env=[(false,eval a X.env)]:=by rfl) :
  PI X (.Tuple elts kt tp) (.Call (.Name "enumerate" p) [a] [] pos) (aS5 X.K ta):=by
 intro pins s σ H R I h
 refine Call_ (rD I hg hm aDq (PyProof.Rows.callWith_type1 (thn (ha pos pins s σ H _ I h) fun us s1 ⟨vs,H1,I1,r1,q1⟩=>?_) hs (by rfl)))
 obtain ⟨l,xs,e,hl,q⟩:=q1
 subst e
 obtain ⟨its,rv,pl,hz⟩:=I1.list hl
 obtain ⟨u,rfl,ru⟩:=vals1 r1
 cases ru
 refine call_enumerate_list pl.isList fun h' a1 a2 a3 kp=>?_
 have I2:Inv X pins σ H1 { s1 with heap:=h' }:=I1.kept (t':=s1.toks) kp
 refine wpAny_pyIter_enum (s:={ s1 with heap:=h' }) a1 ⟨_,_,_,_,H1,rfl,I2,aNb (xs:=xs) (l:=l) (Nat.ne_of_gt (Nat.lt_succ_self _)),⟨⟨_,a1⟩,a2⟩,fun b hb=>?_,q⟩
 have hb':s1.heap.objs.size≤b:=by
  simp only [List.mem_cons,List.not_mem_nil,or_false] at hb
  rcases hb with rfl|rfl
  ·exact Nat.le_succ _
  ·exact Nat.le_refl _
 exact I1.aJm hb' (I1.hok.fresh hb')
theorem aP5 {K:PySem.W.Frag} {l:Addr} {xs:List V} {g:TG} {tb:TS} {D:Ends} {σ:St} {H:Hp} (Pv:Nat→St→Hp→Prop) (h0:Pv 0 σ H) (hl:∀i σ H,i≤xs.length→Pv i σ H→SqL K H l xs)
  (hs:∀i σ H a T H',xs[i]?=some a→Pv i σ H→H T=none→H'=upd H T (.tup [.int (i:Nat),a])→g (.ref T) σ H' fun σ2 H2=>tb { D with nx:=Pv (i+1),ct:=Pv (i+1),bk:=D.nx } σ2 H2) (hd:∀σ H,Pv xs.length σ H→D.nx σ H) :
  ∃W:Nat→Nat→St→Hp→Prop,(∃m,W 0 m σ H)∧∀i m σ H,W i m σ H →
   ((Ite K l xs).stop i H∧D.nx σ H)∨((Ite K l xs).go i H∧∃N:St→Hp→Prop,(∀σ' H',N σ' H'→∃m',m'<m∧W (i+1) m' σ' H')∧∀x H',(Ite K l xs).yld i H x H'→g x σ H' fun σ2 H2=>tb { D with nx:=N,ct:=N,bk:=D.nx } σ2 H2):=by
 refine ⟨fun i m σ H=>m=xs.length - i∧i≤xs.length∧Pv i σ H,⟨xs.length,by simp,Nat.zero_le _,h0⟩,?_⟩
 rintro i m σ H ⟨rfl,hi,p⟩
 by_cases hlt:i<xs.length
 ·refine .inr ⟨⟨hl i σ H hi p,hlt⟩,Pv (i+1),fun σ' H' p'=>⟨xs.length - (i+1),by omega,rfl,hlt,p'⟩,fun x H' y=>?_⟩
  obtain ⟨T,a,hT,rfl,e,ha⟩:=y
  exact hs i σ H a T H' ha p hT e
 ·have e:i=xs.length:=by omega
  subst e
  exact .inl ⟨⟨hl _ σ H hi p,Nat.le_refl _⟩,hd σ H p⟩
end
section
variable {X:Cx} {a c e:Expr} {st:Stmt} {body:List Stmt} {tc:TT} {tb:TS} {t:TA} {te:TE} {pos p:Pos}
theorem aF2 (hp:PassesOwn (model X.prog X.w) X.A X.env X.xe) (hc:VT X c tc) (hb:VSs X body tb):VS X (.While c body [] pos) (aNv tc tb):=⟨aO8 hp hc.1 hb.1⟩
theorem aQv {elts:List Expr} {kt:Nat} {tp:Pos} (hg:Gl X "enumerate") (hm:X.mg "enumerate"=none) (ha:VA X [a] t) (hp:gO a=true:=by rfl) :
  VI X (.Tuple elts kt tp) (.Call (.Name "enumerate" p) [a] [] pos) (aS5 X.K t):=⟨aQw hg hm ha.1 (bY (es:=[]) hp)⟩
theorem aQs:MtR X "list.pop" aXd:=aUl
theorem aAa:MtR X "list.extend" aJw:=aMq
theorem aJb {o:Expr} {to:TE} {name:Str} {apos cpos:Pos} {T id:String} {r:V→List V→Hp→VK→Prop} (pa:PlainAttrs T) (slot:Slot T name id) (hty:typeOf (.builtin id)=pure (.type "method_descriptor")) (hm:MtR X id r) (ho:VE X o to)
  (hbase:attributeBase o name X.env (eval o X.env)=eval o X.env:=by rfl) (hline:(apos.endLine == cpos.line)=true:=by rfl):VE X (.Call (.Attribute o name apos) [] [] cpos) (aWx X.K T r to):=⟨aTw pa slot hty hm ho.1 hbase hline⟩
end
section
variable {P:Program} {w:World} {K:PySem.W.Frag} {mg:Str→Option Value} {base:Heap}
theorem Ok.aOv {k:Nat} {x:Str} {ps:List Str} {sp:Sp} {f:Addr} (G:Ok P w K mg base k x ps sp) (m:mg x=some (.ref f)):Held P w K mg base k f ps sp:=by
 obtain ⟨g,m',h⟩:=G.held
 rw [m] at m'
 cases m'
 exact h
end
section
variable {X:Cx} {scope:Scope} {N:List Str} {wi:TI} {te:TE} {σ:St} {H:Hp} {Q:VK}
theorem vO (xs:List V) (Rel:Nat→Hp→V→Prop) (st:∀{i H1 H2 y},Same H1 H2→Rel i H1 y→Rel i H2 y) (su:∀{i H1 D ys zs y},H1 D=some (.lst ys)→Rel i H1 y→Rel i (upd H1 D (.lst zs)) y)
  (σ0:St) (cap:Cap X scope N σ σ0) (hsz:xs.length≤sizeLine)
  (hw:∀R:It→Hp→Prop,(∀J:It,(∀H' i x,Same H H'→xs[i]?=some x→J.go i H'∧∀y H2,J.yld i H' y H2→H2=H'∧y=x)→(∀H',Same H H'→J.stop xs.length H')→R J H)→wi σ H R)
  (he:∀(i:Nat) (x:V),xs[i]?=some x→∀H' R l,Same H H'→(∀y H2,Same H' H2→Rel i H2 y→R y H2)→te ((σ0.set 0 l).set 0 (some x)) H' R) (h0:σ0[0]?=some none)
  (q:∀D H' ys,Same H H'→H' D=some (.lst ys)→ys.length=xs.length→(∀(i:Nat) (y:V),ys[i]?=some y→Rel i H' y)→Q (.ref D) H') :
  jU X scope N wi (cH 0) pM te σ H Q:=by
 refine ⟨σ0,cap,hw _ fun J go stop D hD=>?_⟩
 refine ⟨fun i m σ' H' ys=>i≤xs.length∧m=xs.length - i∧(∃l,σ'=σ0.set 0 l)∧Same H H'∧H' D=some (.lst ys)∧ys.length=i∧∀(j:Nat) (y:V),ys[j]?=some y→Rel j H' y,⟨xs.length,Nat.zero_le _,rfl,⟨none,lF h0⟩,cC hD _,aO,rfl,fun j y e=>by simp at e⟩,?_⟩
 rintro i m σ' H' ys ⟨hi,rfl,⟨l,rfl⟩,sm,hL,hl,hR⟩
 refine ⟨hL,?_⟩
 by_cases hlt:i<xs.length
 ·right
  obtain ⟨g1,g2⟩:=go H' i xs[i] sm (List.getElem?_eq_getElem hlt)
  refine ⟨g1,fun x H2 hy=>?_⟩
  obtain ⟨rfl,rfl⟩:=g2 x H2 hy
  unfold cH pM
  dsimp only
  rw [if_pos rfl]
  refine he i xs[i] (List.getElem?_eq_getElem hlt) _ _ l sm fun y H3 s3 r3=>⟨s3 _ _ hL,by omega,xs.length - (i+1),by omega,hlt,rfl,⟨some xs[i],?_⟩,?_,aO,?_,?_⟩
  ·rw [List.set_set]
  ·intro b o e
   rw [bA (bH e hD)]
   exact s3 _ _ (sm _ _ e)
  ·rw [List.length_append,List.length_singleton,hl]
  ·intro j z ez
   refine su (s3 _ _ hL) ?_
   by_cases hj:j<ys.length
   ·rw [List.getElem?_append_left hj] at ez
    exact st s3 (hR j z ez)
   ·rw [List.getElem?_append_right (by omega)] at ez
    have hj0:j - ys.length=0:=by
     by_cases z0:j - ys.length=0
     ·exact z0
     ·rw [List.getElem?_eq_none (by simp;omega)] at ez;cases ez
    have hj1:j=i:=by omega
    subst hj1
    rw [hj0] at ez
    cases ez
    exact r3
 ·left
  have e:i=xs.length:=by omega
  subst e
  exact ⟨stop _ sm,q D _ ys sm hL hl hR⟩
theorem aKk (xs ys:List V) (hly:ys.length=xs.length) (σ0:St) (cap:Cap X scope N σ σ0) (hsz:xs.length≤sizeLine)
  (hw:∀R:It→Hp→Prop,(∀J:It,(∀H' i x,Same H H'→xs[i]?=some x→J.go i H'∧∀y H2,J.yld i H' y H2→H2=H'∧y=x)→(∀H',Same H H'→J.stop xs.length H')→R J H)→wi σ H R)
  (he:∀(i:Nat) (x y:V),xs[i]?=some x→ys[i]?=some y→∀H' R l,Same H H'→(∀H2,Same H' H2→R y H2)→te ((σ0.set 0 l).set 0 (some x)) H' R) (h0:σ0[0]?=some none)
  (q:∀D H',Same H H'→H' D=some (.lst ys)→Q (.ref D) H') :
  jU X scope N wi (cH 0) pM te σ H Q:=by
 refine vO xs (fun i _ y=>ys[i]?=some y) (fun _ h=>h) (fun _ h=>h) σ0 cap hsz hw (fun i x ex H' R l sm r=>?_) h0 fun D H' zs sm hD hl hR=>?_
 ·have hi:i<ys.length:=by rw [hly];exact (List.getElem?_eq_some_iff.mp ex).1
  exact he i x ys[i] ex (List.getElem?_eq_getElem hi) H' R l sm fun H2 s2=>r _ H2 s2 (List.getElem?_eq_getElem hi)
 ·have e:zs=ys:=by
   refine List.ext_getElem? fun i=>?_
   by_cases hi:i<zs.length
   ·rw [hR i zs[i] (List.getElem?_eq_getElem hi),List.getElem?_eq_getElem hi]
   ·rw [List.getElem?_eq_none (by omega),List.getElem?_eq_none (by omega)]
  subst e
  exact q D H' sm hD
end
section
variable {X:Cx} {tg e o i:Expr} {te td ty:TE} {pos:Pos}
theorem aKy (hu:X.A.units+1<cLine) (ho:VE X o td) (hi:VE X i ty) (hs:aU0 i):VE X (.Subscript o i pos) (aSt td ty):=⟨aQ3 hu ho.1 hi.1 hs⟩
end
end L2
namespace L2
open PySem PySem.Spec PyProof.Rows
theorem rB {X:Cx} {K:PySem.W.Frag} (h:X.K=K:=by rfl):OpR X (compareOp .NotIn) (rIn K true):=by subst h;exact uB
def sel {α:Type} (p:Nat→Bool):Nat→List α→List α
 |_,[]=>[]
 |i,x::r=>if p i then x::sel p (i+1) r else sel p (i+1) r
theorem aA5 {α:Type} (p:Nat→Bool) (x:α):∀(k:Nat) (xs:List α),sel p k (xs++[x])=sel p k xs++(if p (k+xs.length) then [x] else [])
 |k,[]=>by
  show (if p k then x::sel p (k+1) [] else sel p (k+1) [])=[]++(if p (k+0) then [x] else [])
  rw [Nat.add_zero,List.nil_append]
  rfl
 |k,y::r=>by
  show (if p k then y::sel p (k+1) (r++[x]) else sel p (k+1) (r++[x]))=(if p k then y::sel p (k+1) r else sel p (k+1) r)++_
  rw [aA5 p x (k+1) r,List.length_cons,show k+1+r.length=k+(r.length+1) by omega]
  split <;> rfl
theorem uD {α:Type} (p:Nat→Bool):∀(k:Nat) (xs:List α),(sel p k xs).length≤xs.length
 |_,[]=>Nat.le_refl _
 |k,y::r=>by
  have:=uD p (k+1) r
  show (if p k then y::sel p (k+1) r else sel p (k+1) r).length≤r.length+1
  split
  ·rw [List.length_cons];omega
  ·omega
section
variable {X:Cx} {scope:Scope} {N:List Str} {wi:TI} {te:TE} {σ:L2.St} {H:Hp} {Q:VK}
theorem aN0 {tt:TT} (xs:List V) (p:Nat→Bool) (σ0:L2.St) (cap:Cap X scope N σ σ0) (hsz:xs.length≤sizeLine)
  (hw:∀R:It→Hp→Prop,(∀J:It,(∀H' i x,Same H H'→xs[i]?=some x→J.go i H'∧∀y H2,J.yld i H' y H2→H2=H'∧y=x)→(∀H',Same H H'→J.stop xs.length H')→R J H)→wi σ H R)
  (ht:∀(i:Nat) (x:V),xs[i]?=some x→∀H' R l,Same H H'→(∀H2,Same H' H2→R (p i) H2)→tt ((σ0.set 0 l).set 0 (some x)) H' R) (h0:σ0[0]?=some none)
  (q:∀D H',Same H H'→H' D=some (.lst (sel p 0 xs))→Q (.ref D) H') :
  jU X scope N wi (cH 0) tt (fQ 0) σ H Q:=by
 refine ⟨σ0,cap,hw _ fun J go stop D hD=>?_⟩
 refine ⟨fun i m σ' H' ys=>i≤xs.length∧m=xs.length - i∧(∃l,σ'=σ0.set 0 l)∧Same H H'∧H' D=some (.lst ys)∧ys=sel p 0 (xs.take i),⟨xs.length,Nat.zero_le _,rfl,⟨none,lF h0⟩,cC hD _,aO,rfl⟩,?_⟩
 rintro i m σ' H' ys ⟨hi,rfl,⟨l,rfl⟩,sm,hL,rfl⟩
 refine ⟨hL,?_⟩
 by_cases hlt:i<xs.length
 ·right
  obtain ⟨g1,g2⟩:=go H' i xs[i] sm (List.getElem?_eq_getElem hlt)
  refine ⟨g1,fun x H2 hy=>?_⟩
  obtain ⟨rfl,rfl⟩:=g2 x H2 hy
  unfold cH
  dsimp only
  have hj:0<σ0.length:=by
   by_cases z:0<σ0.length
   ·exact z
   ·rw [List.getElem?_eq_none (by omega)] at h0;cases h0
  have tk:sel p 0 (xs.take (i+1))=sel p 0 (xs.take i)++(if p i then [xs[i]] else []):=by
   rw [List.take_add_one,List.getElem?_eq_getElem hlt]
   show sel p 0 (xs.take i++[xs[i]])=_
   rw [aA5,List.length_take,Nat.zero_add,Nat.min_eq_left (Nat.le_of_lt hlt)]
  refine ht i xs[i] (List.getElem?_eq_getElem hlt) _ _ l sm fun H3 s3=>?_
  cases hp:p i with
  |true=>
   rw [if_pos rfl]
   refine ⟨xs[i],by rw [List.set_set,List.getElem?_set_self hj],s3 _ _ hL,?_,xs.length - (i+1),by omega,hlt,rfl,⟨some xs[i],by rw [List.set_set]⟩,?_,aO,?_⟩
   ·have:=uD p 0 (xs.take i)
    rw [List.length_take] at this
    omega
   ·intro b o e
    rw [bA (bH e hD)]
    exact s3 _ _ (sm _ _ e)
   ·rw [tk,hp];rfl
  |false=>
   rw [if_neg (by simp)]
   refine ⟨s3 _ _ hL,xs.length - (i+1),by omega,hlt,rfl,⟨some xs[i],by rw [List.set_set]⟩,sm.trans s3,s3 _ _ hL,?_⟩
   rw [tk,hp]
   simp
 ·left
  have e:i=xs.length:=by omega
  subst e
  refine ⟨stop _ sm,?_⟩
  rw [List.take_length] at hL
  exact q D _ sm hL
end
theorem aQp {X:Cx} {i0:Nat} {x0:Str} {pos' spos:Pos} {elt target iter:Expr} {ifs:List Expr} {scope:Scope} {pos:Pos} {N:List Str} {wi:TI} {g:TG} {tt:TT} {te:TE}
  (hN:X.N.Nodup) (hi0:X.N[i0]?=some x0) (hx0:Loc X.env.scope x0) (C:zQ scope N) (hfr:∀y,(y,NameKind.free)∈scope.names→X.env.kindOf y=some .cell∨X.env.kindOf y=some .free) (hc:X.calm=true)
  (hi:PI X target iter wi)
  (hb:∀cl s H fp,PG (cxC X N scope cl s H fp) target g∧aP0 (cxC X N scope cl s H fp) ifs tt∧PE (cxC X N scope cl s H fp) elt te)
  (hs:∀x,foldedSetIterable iter X.env x=pure x:=by intro _;rfl) (hsw:swapsWith (.ListComp elt [⟨target,iter,ifs,0⟩] scope pos) (some (.Name x0 pos')) spos.line X.env=pure true:=by rfl)
  (hf:X.fn x0=true∨X.env.scope.names.lookup x0=some .local:=by first|exact .inl rfl|exact .inr rfl|assumption) :
  PS X (.Assign [.Name x0 pos'] (.ListComp elt [⟨target,iter,ifs,0⟩] scope pos) spos) (oY (jU X scope N wi g tt te) (cH i0)):=by
 intro pins s σ H Dn I hq
 obtain ⟨σ0,cap,hq⟩:=hq
 obtain ⟨cl,hcl,p1,p2⟩:=aAq (scope:=scope) (env:=X.env) (fun y hy hk=>by
  obtain ⟨n,k⟩:=y
  cases hk
  exact I.ok.has n (hfr n hy))
 rw [exec_Assign_Name_used _ _ _ _ hsw]
 refine wpAny_bind (wpAny_standAt (wpAny_bind ?_))
 show wpAny _ X.A (do let _ ←comprehension (.ListComp elt [⟨target,iter,ifs,0⟩] scope pos) scope X.env _ (newList []) false (eval iter X.env) (some (assign (.Name x0 pos') X.env))) _ _ s
 refine wpAny_bind (wpAny_mono (wpAny_comprehension_free (use:=some (assign (.Name x0 pos') X.env)) (Q:=fun _ s'=>SP X pins Dn .next s') rfl hs hcl C.kind C.names (thn (hi pins s σ H _ I hq) fun xv s1 h1=>thn h1 fun itv s2 h2=>?_))
  (fun _ s' hq=>wpAny_pure (wpAny_pure hq)) fun _ _ e=>e)
 obtain ⟨it,fp,tn,J,H2,rfl,I2,T,st2,f2,q2⟩:=h2
 refine wpAny_newObj_type (wpAny_newFunctionEnv C.cell (by intro y hy;simp at hy) (fun h₁ hns₁ hsb₁=>?_) C.kind)
 dsimp only at hns₁ hsb₁ ⊢
 have hD:H2 s2.heap.objs.size=none:=I2.hok.fresh (Nat.le_refl _)
 have I3:Inv X pins σ (upd H2 s2.heap.objs.size (.lst [])) { s2 with heap:=s2.heap.push { cls:=.type "list",dict:=none,data:=.seq ([]:List Value).toArray } }:=
  I2.laid (t':=s2.toks) (fun b u e=>Heap.get?_push_of_some _ e) (Nat.le_refl _) ⟨Nat.zero_le _,[],0,.nil,Heap.get?_push_size _ rfl⟩
 generalize hs3:({ s2 with heap:=s2.heap.push { cls:=.type "list",dict:=none,data:=.seq ([]:List Value).toArray } }:Shared)=s3 at I3
 have hh3:s2.heap.push { cls:=.type "list",dict:=none,data:=.seq ([]:List Value).toArray }=s3.heap:=by rw [←hs3]
 rw [hh3] at hns₁ hsb₁
 have fl2:∀b∈fp,b<s2.heap.objs.size:=fun b hb=>by
  obtain ⟨o,e,_⟩:=T.obj _ _ st2 b hb
  exact Heap.lt_size e
 have fl3:∀b∈fp,b<s3.heap.objs.size:=fun b hb=>by
  rw [←hh3,Heap.size_push]
  exact Nat.lt_succ_of_lt (fl2 b hb)
 have f3:∀b∈fp,sO X pins (upd H2 s2.heap.objs.size (.lst [])) b:=fun b hb=>by
  obtain ⟨f0,fr⟩:=f2 b hb
  exact ⟨by rw [bA (Nat.ne_of_lt (fl2 b hb))];exact f0,fr⟩
 have keep3:∀b o,s3.heap.get? b=some o→h₁.get? b=some o:=fun b o e=>hsb₁.extBut b o (Nat.ne_of_lt (Heap.lt_size e)) (Heap.get?_push_of_some _ e)
 have I4:=aFs (tk:=s3.toks) I3 C hfr p1 p2 cap f3 fl3 hns₁ keep3
 have st4:tn 0 h₁:=T.keep _ _ _ st2 fun b hb o e=>keep3 b o (by rw [←hh3];exact Heap.get?_push_of_some _ e)
 obtain ⟨W,⟨m0,w0⟩,turn⟩:=q2 s2.heap.objs.size hD
 have fpc:∀{H':Hp},(∀b∈fp,H' b=none)→∀b∈fp,sO (cxC X N scope cl s3 (upd H2 s2.heap.objs.size (.lst [])) fp) [] H' b:=fun {H'} hn b hb=>by
  obtain ⟨e1,e2⟩:=I4.ok.exf b hb
  exact ⟨hn b hb,e1,I4.ok.exfs b hb,.inl hb,e2,fun p hp=>absurd (show p∈([]:List (Addr × Obj)) from hp) (by simp)⟩
 have loop:∀s4:Shared,s4={ s3 with heap:=h₁,toks:=s3.toks } →
   codeAny (model X.prog X.w) X.A (.compLoop (.ListComp elt [⟨target,iter,ifs,0⟩] scope pos) 0 (.ref it) (.ref s2.heap.objs.size) (compEnvC scope cl s3.heap.objs.size X.env))
    (compPost (model X.prog X.w) X.A X.xe (some (assign (.Name x0 pos') X.env)) (fun _ s'=>SP X pins Dn .next s') (.ref s2.heap.objs.size) s3.heap.objs.size) s4:=by
  rintro s4 rfl
  refine aB3 (fun n s'=>∃i σ' H' ys,Inv (cxC X N scope cl s3 (upd H2 s2.heap.objs.size (.lst [])) fp) [] σ' H' s'∧tn i s'.heap∧(∀b∈fp,H' b=none)∧W i n σ' H' ys) ?_ m0 ⟨0,σ0,_,[],I4,st4,fun b hb=>(f3 b hb).1,w0⟩
  rintro n s5 ⟨i,σ5,H5,ys,I5,st5,fr5,w5⟩
  obtain ⟨hacc,w5⟩:=turn i n σ5 H5 ys w5
  have noE:∀{α:Type} {t:Sem α} {Q':α→Shared→Prop} {E':Value→Shared→Prop} {s':Shared},wpAny (model X.prog X.w) X.A t Q' (fun _ _=>False) s'→wpAny (model X.prog X.w) X.A t Q' E' s':=fun h=>wpAny_mono h (fun _ _ q=>q) fun _ _ z=>z.elim
  rcases w5 with ⟨stop,qn⟩|⟨go,step⟩
  ·refine noE (thn (T.done (cxC X N scope cl s3 (upd H2 s2.heap.objs.size (.lst [])) fp) rfl rfl rfl hc i [] s5 σ5 H5 _ I5 (fpc fr5) st5 stop) fun r s6 ⟨hr,I6⟩=>?_)
   subst hr
   obtain ⟨m6,hn6,_⟩:=I6.loc
   have kp:∀b o,b≠s3.heap.objs.size→s6.heap.get? b=some o→s6.heap.get? b=some o:=fun b o hb e=>e
   have ne3:∀b o,s3.heap.get? b=some o→b≠s3.heap.objs.size:=fun b o e=>Nat.ne_of_lt (Heap.lt_size e)
   have un:Un (frs X.stack) fp (upd H2 s2.heap.objs.size (.lst [])) H5 s3.heap s6.heap:=by
    have u:=I6.base
    exact ⟨fun b o e n hb hx=>kp b o (ne3 b o e) (u.keep b o e n hb hx),fun b o e n hb hx=>by
     obtain ⟨sl,e1⟩:=u.slot b o e n hb hx
     exact ⟨sl,kp b _ (ne3 b o e) e1⟩,u.free,fun b o e hx=>by
     obtain ⟨o',e1⟩:=u.there b o e hx
     exact ⟨o',kp b _ (ne3 b o e) e1⟩,u.tups,u.frzs,u.tbls⟩
   have hok:HOk X.prog X.w H5 s6.heap:=fun b u e=>by
    refine (I6.hok b u e).stay (fun c v hc' q=>kp c v ?_ q) (fun _ q=>q) fun _ _ q=>q
    have hfree:H5 s3.heap.objs.size=none:=I6.free
    rintro rfl
    rcases hc' with z|z
    ·rw [z] at hfree;rw [hfree] at e;cases e
    ·rw [hfree] at z;cases z
   have I7:Inv X pins σ H5 s6:=by
    refine I3.call' (s':=s6) I6.os un hok I6.bare fun b hb=>?_
    obtain ⟨f0,f1,f2',f3',f4,f5⟩:=f3 b hb
    exact ⟨f3',f1,f4,f5⟩
   have hfree:H5 s3.heap.objs.size=none:=I6.free
   obtain ⟨g0,g1,g2,g3,g4,g5⟩:=I3.aJm (Nat.le_refl _) hfree
   show wpAny (model X.prog X.w) X.A (assign (.Name x0 pos') X.env (.ref s2.heap.objs.size)) _ _ s6
   refine wpAny_assign_Name (aCb I7 hN hi0 hx0 (v:=.ref s2.heap.objs.size) rfl (fun s8 I8 ⟨a,sb,ha⟩=>?_) hf)
   have nea:s3.heap.objs.size≠a:=by
    rcases ha with z|z
    ·rw [z];exact g1
    ·exact fun e=>g4 x0 a z e.symm
   refine ⟨m6,hn6.sameBut sb nea,fun h' sb'=>?_⟩
   exact ⟨_,H5,Inv.turned I8 (t':=s8.toks) (it:=s3.heap.objs.size) (fun b o hb e=>sb'.extBut b o hb e) g0 g1 g3 g4 g5,qn⟩
  ·refine noE (thn (T.item (cxC X N scope cl s3 (upd H2 s2.heap.objs.size (.lst [])) fp) rfl rfl rfl hc i [] s5 σ5 H5 (fun _ _=>False) I5 (fpc fr5) st5 go) fun r s6 ⟨u,hr,h6⟩=>?_)
   subst hr
   refine noE (thn h6 fun _ s7 ⟨x,H7,I7,r7,y7,st7,fr7⟩=>?_)
   obtain ⟨hg,ht,he⟩:=hb cl s3 (upd H2 s2.heap.objs.size (.lst [])) fp
   have I7':=I7.pinned (fpc fr7) (T.obj _ _ st7)
   have back:∀{σ8:St} {H8:Hp} {s8:Shared},Inv (cxC X N scope cl s3 (upd H2 s2.heap.objs.size (.lst [])) fp) ([]++vR fp s7.heap) σ8 H8 s8→tn (i+1) s8.heap∧∀b∈fp,H8 b=none:=fun {σ8 H8 s8} I8=>
    ⟨T.keep _ _ _ st7 fun b hb o e=>(I8.pin (b,o) (List.mem_append_right _ (List.mem_append_right _ (jH hb e)))).1,fun b hb=>by
     obtain ⟨o,e,d⟩:=T.obj _ _ st7 b hb
     exact (I8.pin (b,o) (List.mem_append_right _ (List.mem_append_right _ (jH hb e)))).2.1⟩
   refine noE (thn (hg _ s7 σ5 H7 x u _ I7' r7 (step x H7 y7)) fun _ s8 ⟨σ8,H8,I8,q8⟩=>?_)
   refine noE (thn (ht _ s8 σ8 H8 _ I8 q8) fun b s9 ⟨H9,I9,q9⟩=>?_)
   cases b with
   |false=>
    rw [if_neg Bool.false_ne_true] at q9 ⊢
    obtain ⟨_,m',hm,w9⟩:=q9
    exact ⟨m',hm,i+1,σ8,H9,ys,I9.lG,(back I9).1,(back I9).2,w9⟩
   |true=>
    rw [if_pos rfl] at q9 ⊢
    refine noE (thn (he _ s9 σ8 H9 _ I9 q9) fun yv s10 ⟨y,H10,I10,r10,hacc10,hlen,m',hm,w10⟩=>?_)
    refine noE (thn (wK _ s10 σ8 H10 (.ref s2.heap.objs.size) [y] (.ref s2.heap.objs.size) [yv] (fun _ H11=>H11=upd H10 s2.heap.objs.size (.lst (ys++[y]))) I10 rfl (.cons r10 .nil) ⟨_,_,_,rfl,rfl,hacc10,hlen,rfl⟩) fun _ s11 ⟨z,H11,I11,_,e11⟩=>?_)
    subst e11
    exact ⟨m',hm,i+1,σ8,_,ys++[y],I11.lG,(back I11).1,(back I11).2,w10⟩
 have fin:=codeAny_compStart_list (loop { s3 with heap:=h₁,toks:=s3.toks } rfl) (T.self _ _ _ _ _ st4 (loop { s3 with heap:=h₁,toks:=s3.toks } rfl))
 subst hs3
 exact fin
theorem uW {X:Cx} {i0:Nat} {x0:Str} {pos' spos:Pos} {elt target iter:Expr} {ifs:List Expr} {scope:Scope} {pos:Pos} {N:List Str} {wi:TI} {g:TG} {tt:TT} {te:TE}
  (hN:X.N.Nodup) (hi0:X.N[i0]?=some x0) (hx0:Loc X.env.scope x0) (C:zQ scope N) (hfr:∀y,(y,NameKind.free)∈scope.names→X.env.kindOf y=some .cell∨X.env.kindOf y=some .free) (hc:X.calm=true)
  (hi:VI X target iter wi)
  (hb:∀cl s H fp,VG (cxC X N scope cl s H fp) target g∧VF (cxC X N scope cl s H fp) ifs tt∧VE (cxC X N scope cl s H fp) elt te)
  (hs:∀x,foldedSetIterable iter X.env x=pure x:=by intro _;rfl) (hsw:swapsWith (.ListComp elt [⟨target,iter,ifs,0⟩] scope pos) (some (.Name x0 pos')) spos.line X.env=pure true:=by rfl)
  (hf:X.fn x0=true∨X.env.scope.names.lookup x0=some .local:=by first|exact .inl rfl|exact .inr rfl|assumption) :
  VS X (.Assign [.Name x0 pos'] (.ListComp elt [⟨target,iter,ifs,0⟩] scope pos) spos) (oY (jU X scope N wi g tt te) (cH i0)):=
 ⟨aQp hN hi0 hx0 C hfr hc hi.1 (fun cl s H fp=>⟨(hb cl s H fp).1.1,(hb cl s H fp).2.1.1,(hb cl s H fp).2.2.1⟩) hs hsw hf⟩
end L2
namespace L2
open PySem PySem.Spec PyProof.Rows
section
variable {te:TE} {H:Hp} {Q:VK}
theorem aI9 (xs:List V) (Rel:Nat→Hp→V→Prop) (st:∀{i H1 H2 y},Same H1 H2→Rel i H1 y→Rel i H2 y) (su:∀{i H1 D ys zs y},H1 D=some (.lst ys)→Rel i H1 y→Rel i (upd H1 D (.lst zs)) y)
  (σ0:St) (hsz:xs.length≤sizeLine)
  (J:It) (go:∀H' i x,Same H H'→xs[i]?=some x→J.go i H'∧∀y H2,J.yld i H' y H2→H2=H'∧y=x) (stop:∀H',Same H H'→J.stop xs.length H')
  (he:∀(i:Nat) (x:V),xs[i]?=some x→∀H' R l,Same H H'→(∀y H2,Same H' H2→Rel i H2 y→R y H2)→te ((σ0.set 0 l).set 0 (some x)) H' R) (h0:σ0[0]?=some none)
  (q:∀D H' ys,Same H H'→H' D=some (.lst ys)→ys.length=xs.length→(∀(i:Nat) (y:V),ys[i]?=some y→Rel i H' y)→Q (.ref D) H') :
  ∀D,H D=none→∃W:Nat→Nat→St→Hp→List V→Prop,(∃m,W 0 m σ0 (upd H D (.lst [])) []) ∧
   ∀i m σ' H' ys,W i m σ' H' ys→H' D=some (.lst ys)∧((J.stop i H'∧Q (.ref D) H')∨(J.go i H'∧∀x H2,J.yld i H' x H2→cH 0 x σ' H2 fun σ3 H3=>pM σ3 H3 fun b H4=>
    if b=true then te σ3 H4 fun y H5=>H5 D=some (.lst ys)∧ys.length<sizeLine∧∃m',m'<m∧W (i+1) m' σ3 (upd H5 D (.lst (ys++[y]))) (ys++[y]) else H4 D=some (.lst ys)∧∃m',m'<m∧W (i+1) m' σ3 H4 ys)):=by
 intro D hD
 refine ⟨fun i m σ' H' ys=>i≤xs.length∧m=xs.length - i∧(∃l,σ'=σ0.set 0 l)∧Same H H'∧H' D=some (.lst ys)∧ys.length=i∧∀(j:Nat) (y:V),ys[j]?=some y→Rel j H' y,⟨xs.length,Nat.zero_le _,rfl,⟨none,lF h0⟩,cC hD _,aO,rfl,fun j y e=>by simp at e⟩,?_⟩
 rintro i m σ' H' ys ⟨hi,rfl,⟨l,rfl⟩,sm,hL,hl,hR⟩
 refine ⟨hL,?_⟩
 by_cases hlt:i<xs.length
 ·right
  obtain ⟨g1,g2⟩:=go H' i xs[i] sm (List.getElem?_eq_getElem hlt)
  refine ⟨g1,fun x H2 hy=>?_⟩
  obtain ⟨rfl,rfl⟩:=g2 x H2 hy
  unfold cH pM
  dsimp only
  rw [if_pos rfl]
  refine he i xs[i] (List.getElem?_eq_getElem hlt) _ _ l sm fun y H3 s3 r3=>⟨s3 _ _ hL,by omega,xs.length - (i+1),by omega,hlt,rfl,⟨some xs[i],?_⟩,?_,aO,?_,?_⟩
  ·rw [List.set_set]
  ·intro b o e
   rw [bA (bH e hD)]
   exact s3 _ _ (sm _ _ e)
  ·rw [List.length_append,List.length_singleton,hl]
  ·intro j z ez
   refine su (s3 _ _ hL) ?_
   by_cases hj:j<ys.length
   ·rw [List.getElem?_append_left hj] at ez
    exact st s3 (hR j z ez)
   ·rw [List.getElem?_append_right (by omega)] at ez
    have hj0:j - ys.length=0:=by
     by_cases z0:j - ys.length=0
     ·exact z0
     ·rw [List.getElem?_eq_none (by simp;omega)] at ez;cases ez
    have hj1:j=i:=by omega
    subst hj1
    rw [hj0] at ez
    cases ez
    exact r3
 ·left
  have e:i=xs.length:=by omega
  subst e
  exact ⟨stop _ sm,q D _ ys sm hL hl hR⟩
end
section
variable {K:PySem.W.Frag}
theorem aUc {a:Addr} {xs:List V} {H:Hp} (hS:∀H',Same H H'→SqL K H' a xs):∀H' i x,Same H H'→xs[i]?=some x→(Itl K a).go i H'∧∀y H2,(Itl K a).yld i H' y H2→H2=H'∧y=x:=fun H' i x s e=>
 ⟨⟨xs,x,hS H' s,e⟩,fun y H2 hy=>by
  obtain ⟨e1,e2⟩:=hy
  have e3:=e2 xs (hS H' s)
  rw [e] at e3
  cases e3
  exact ⟨e1,rfl⟩⟩
theorem aOu {a:Addr} {xs:List V} {H:Hp} (hS:∀H',Same H H'→SqL K H' a xs):∀H',Same H H'→(Itl K a).stop xs.length H':=fun H' s=>⟨xs,hS H' s,Nat.le_refl _⟩
end
section
variable {X:Cx} {K:PySem.W.Frag} {scope:Scope} {N:List Str} {tl te:TE} {σ:L2.St} {H:Hp} {Q:VK}
theorem aLz (Pr:List V→Prop) (Rel:Nat→Hp→V→Prop) (st:∀{i H1 H2 y},Same H1 H2→Rel i H1 y→Rel i H2 y) (su:∀{i H1 D ys zs y},H1 D=some (.lst ys)→Rel i H1 y→Rel i (upd H1 D (.lst zs)) y)
  (σ0:L2.St) (cap:Cap X scope N σ σ0) (h0:σ0[0]?=some none)
  (hw:∀R:VK,(∀D H1 us,Same H H1→H1 D=some (.lst us)→Pr us→R (.ref D) H1)→tl σ H R)
  (hsz:∀us,Pr us→us.length≤sizeLine)
  (he:∀us,Pr us→∀(i:Nat) (x:V),us[i]?=some x→∀H' R l,Same H H'→(∀y H2,Same H' H2→Rel i H2 y→R y H2)→te ((σ0.set 0 l).set 0 (some x)) H' R)
  (q:∀us,Pr us→∀D H' ys,Same H H'→H' D=some (.lst ys)→ys.length=us.length→(∀(i:Nat) (y:V),ys[i]?=some y→Rel i H' y)→Q (.ref D) H') :
  jU X scope N (qW K tl) (cH 0) pM te σ H Q:=
 ⟨σ0,cap,hw _ fun D H1 us s1 g1 p=>⟨D,rfl,⟨us,SqL.of g1⟩,aI9 us Rel st su σ0 (hsz us p) (Itl K D) (aUc fun H' sm=>SqL.of (sm _ _ g1)) (aOu fun H' sm=>SqL.of (sm _ _ g1))
  (fun i x ex H' R l sm r=>he us p i x ex H' R l (s1.trans sm) r) h0 fun D2 H' ys sm=>q us p D2 H' ys (s1.trans sm)⟩⟩
end
theorem SqT.aBf {K:PySem.W.Frag} {H:Hp} {a D:Addr} {xs ys zs:List V} (hD:H D=some (.lst ys)) (h:SqT K H a xs):SqT K (upd H D (.lst zs)) a xs:=by
 rcases h with (h|⟨o,h⟩)|h
 ·exact .inl (.inl (by rw [bA (pP h hD (by intro z;cases z))];exact h))
 ·exact .inl (.inr ⟨o,by rw [bA (pP h hD (by intro z;cases z))];exact h⟩)
 ·exact .inr h
section
variable {X:Cx} {scope:Scope} {N:List Str} {wi:TI} {te:TE} {σ:St} {H:Hp} {Q:VK}
end
section
variable {X:Cx}
def aYp (K:PySem.W.Frag):List V→Hp→VK→Prop:=fun xs H Q=>∃(p:Addr) (bs:List Bool),xs=[.ref p]∧SqL K H p (bs.map V.bl)∧Q (.bl (bs.any id)) H
theorem any_range (bs:List Bool):(List.range bs.length).any (fun i=>bs.getD i false)=bs.any id:=by
 rw [Bool.eq_iff_iff,List.any_eq_true,List.any_eq_true]
 constructor
 ·rintro ⟨i,hi,h⟩
  have hi:=List.mem_range.mp hi
  rw [List.getD_eq_getElem?_getD,List.getElem?_eq_getElem hi] at h
  exact ⟨_,List.getElem_mem hi,h⟩
 ·rintro ⟨b,hb,h⟩
  obtain ⟨i,hi,e⟩:=List.mem_iff_getElem.mp hb
  refine ⟨i,List.mem_range.mpr hi,?_⟩
  rw [List.getD_eq_getElem?_getD,List.getElem?_eq_getElem hi]
  show bs[i]=true
  rw [e]
  exact h
theorem aPm (hc:X.calm=true):cV X (.builtin "any") (aYp X.K):=by
 intro pins s σ H xs us Q I r h
 obtain ⟨p,bs,rfl,hq,q⟩:=h
 obtain ⟨u,rfl,rx⟩:=r.one
 cases rx
 obtain ⟨its,rv,pl,hz⟩:=I.list hq
 have hl:=rv.length
 rw [List.length_map] at hl
 have hne:p≠s.heap.objs.size:=by
  obtain ⟨o,ho,_⟩:=pl.isList
  exact Nat.ne_of_lt (Heap.lt_size ho)
 refine call_any_walk (wpAny_pyIter_list pl.isList ?_)
 refine ⟨s.heap.objs.size,_,_,_,_,_,fun i=>bs.getD i false,rfl,Walks.list (show X.A.in1.handled=none from I.ok.hd hc) _ p hne its.toArray,⟨⟨_,Heap.get?_push_size _ rfl,rfl,rfl⟩,?_⟩,?_,fun h' tk kp=>?_⟩
 ·exact pl.isList.at fun o e=>Heap.get?_push_of_some _ e
 ·intro i v s' Q' E' hv hq'
  have hv':its[i]?=some v:=by simpa using hv
  have hi:i<bs.length:=by rw [hl];exact (List.getElem?_eq_some_iff.mp hv').1
  obtain ⟨u,hu,ru⟩:=rv.get (i:=i) (x:=.bl bs[i]) (by rw [List.getElem?_map,List.getElem?_eq_getElem hi];rfl)
  rw [hv'] at hu
  cases hu
  cases ru
  have e:bs.getD i false=bs[i]:=by rw [List.getD_eq_getElem?_getD,List.getElem?_eq_getElem hi];rfl
  replace hq':Q' (bs.getD i false) s':=hq'
  rw [e] at hq'
  exact wpAny_truthy_bool hq'
 ·have e:(List.range its.toArray.size).any (fun i=>bs.getD i false)=bs.any id:=by
   rw [List.size_toArray,←hl];exact any_range bs
  rw [e]
  refine ⟨.bl (bs.any id),H,?_,rfl,q⟩
  exact I.kept fun b o eo=>kp b o (by
   intro z
   have:b=s.heap.objs.size:=by simpa using z
   rw [this] at eo
   exact absurd (Heap.lt_size eo) (Nat.lt_irrefl _)) (Heap.get?_push_of_some _ eo)
def aV8:List V→Hp→VK→Prop:=fun xs H Q=>∃z:Str,xs=[.str z]∧z.length≤1000∧∀l H',H l=none→Same H H'→H' l=some (.lst ((List.range z.cps.size).map fun i=>V.str (sgn z i)))→Q (.ref l) H'
theorem aAw (z:Str):∀(n k:Nat) (vs:List Value),vs.length=n→(∀(j:Nat) (v:Value),vs[j]?=some v→∃t,v=.str (sgn z (k+j)) t)→Vals ((List.range' k n).map fun i=>V.str (sgn z i)) vs
 |0,k,[],_,_=>.nil
 |n+1,k,v::vs,hl,h=>by
  obtain ⟨t,rfl⟩:=h 0 v rfl
  rw [List.range'_succ,List.map_cons]
  refine .cons ⟨t,rfl⟩ (aAw z n (k+1) vs (by simpa using hl) fun j u e=>?_)
  obtain ⟨t',e'⟩:=h (j+1) u e
  exact ⟨t',by rw [e',show k+(j+1)=k+1+j by omega]⟩
theorem aHs (hc:X.calm=true):cV X (.type "list") aV8:=by
 intro pins s σ H xs us Q I r h
 obtain ⟨z,rfl,hl,q⟩:=h
 obtain ⟨u,rfl,t,rfl⟩:=vals1 r
 refine call_list_str (I.ok.hd hc) z t (fun h' tk acc' c' kp hS hacc=>?_) (small hl)
 have hv:=aAw z z.cps.size 0 acc'.toList (by rw [Array.length_toList];exact hacc.1) fun j v e=>by
  have hj:=hacc.2 j v (by rw [←Array.getElem?_toList];exact e)
  obtain ⟨c,t',e1,e2⟩:=hj
  refine ⟨t',?_⟩
  rw [e2]
  unfold sgn
  rw [Nat.zero_add,Array.getD_eq_getD_getElem?,e1]
  rfl
 rw [←List.range_eq_range'] at hv
 have ea:acc'.toList.toArray=acc':=by simp
 have hf:H s.heap.objs.size=none:=I.hok.fresh (Nat.le_refl _)
 refine ⟨.ref s.heap.objs.size,_,I.laid (t':=tk) (o:=.lst ((List.range z.cps.size).map fun i=>V.str (sgn z i))) kp (Nat.le_refl _) ?_,rfl,q _ _ hf (cC hf _) aO⟩
 refine ⟨by rw [List.length_map,List.length_range];exact small hl,acc'.toList,c',hv,?_⟩
 rw [ea]
 exact hS
end
theorem aIp {X:Cx} {K:PySem.W.Frag} (h:X.K=K:=by rfl):OpR X (compareOp .In) (rIn K false):=by subst h;exact wF
structure aQx (E:Hp→Hp→Prop) (H:Hp):Prop where
 new:∀D o,H D=none→E H (upd H D o)
 trans:∀{H1 H2},E H H1→E H1 H2→E H H2
 upd:∀D o H',H D=none→E H H'→E H (upd H' D o)
 keep:∀D H1 H2 xs,H D=none→E H H1→H1 D=some (.lst xs)→E H1 H2→H2 D=some (.lst xs)
theorem uL (H:Hp):aQx Same H:=⟨fun D o h=>cC h o,fun a b=>a.trans b,fun D o H' h s=>mZ h s,fun D H1 H2 xs _ _ h s=>s _ _ h⟩
def aKl (J:It) (H1:Hp) (σ0:L2.St) (g:TG) (tt:TT) (te:TE) (Q:VK):Prop:=∀D,H1 D=none→∃W:Nat→Nat→L2.St→Hp→List V→Prop,(∃m,W 0 m σ0 (L2.upd H1 D (.lst [])) []) ∧
 ∀i m σ' H' ys,W i m σ' H' ys→H' D=some (.lst ys)∧((J.stop i H'∧Q (.ref D) H')∨(J.go i H'∧∀x H2,J.yld i H' x H2→g x σ' H2 fun σ3 H3=>tt σ3 H3 fun b H4=>
  if b=true then te σ3 H4 fun y H5=>H5 D=some (.lst ys)∧ys.length<sizeLine∧∃m',m'<m∧W (i+1) m' σ3 (L2.upd H5 D (.lst (ys++[y]))) (ys++[y]) else H4 D=some (.lst ys)∧∃m',m'<m∧W (i+1) m' σ3 H4 ys))
section
variable {X:Cx} {K:PySem.W.Frag} {scope:Scope} {N:List Str} {tl te:TE} {tt:TT} {g:TG} {σ:L2.St} {H:Hp} {Q:VK}
theorem aAr (σ0:L2.St) (cap:Cap X scope N σ σ0) (h:tl σ H fun v H1=>∃a,v=.ref a∧(∃xs,SqL K H1 a xs)∧aKl (Itl K a) H1 σ0 g tt te Q):jU X scope N (qW K tl) g tt te σ H Q:=⟨σ0,cap,h⟩
theorem uP (σ0:L2.St) (cap:Cap X scope N σ σ0) (h:tl σ H fun v H1=>∃a,v=.ref a∧(∃xs,SqT K H1 a xs)∧aKl (Itt K a) H1 σ0 g tt te Q):jU X scope N (aIl K tl) g tt te σ H Q:=⟨σ0,cap,h⟩
theorem aD5 {a:Addr} {xs:List V} {E:Hp→Hp→Prop} (hS:∀H',E H H'→SqT K H' a xs):∀H' i x,E H H'→xs[i]?=some x→(Itt K a).go i H'∧∀y H2,(Itt K a).yld i H' y H2→H2=H'∧y=x:=fun H' i x s e=>
 ⟨⟨xs,x,hS H' s,e⟩,fun y H2 hy=>by
  obtain ⟨e1,e2⟩:=hy
  have e3:=e2 xs (hS H' s)
  rw [e] at e3
  cases e3
  exact ⟨e1,rfl⟩⟩
theorem sY {a:Addr} {xs:List V} {E:Hp→Hp→Prop} (hS:∀H',E H H'→SqT K H' a xs):∀H',E H H'→(Itt K a).stop xs.length H':=fun H' s=>⟨xs,hS H' s,Nat.le_refl _⟩
theorem aDd {a:Addr} {xs:List V} {E:Hp→Hp→Prop} (hS:∀H',E H H'→SqL K H' a xs):∀H' i x,E H H'→xs[i]?=some x→(Itl K a).go i H'∧∀y H2,(Itl K a).yld i H' y H2→H2=H'∧y=x:=fun H' i x s e=>
 ⟨⟨xs,x,hS H' s,e⟩,fun y H2 hy=>by
  obtain ⟨e1,e2⟩:=hy
  have e3:=e2 xs (hS H' s)
  rw [e] at e3
  cases e3
  exact ⟨e1,rfl⟩⟩
theorem wQ {a:Addr} {xs:List V} {E:Hp→Hp→Prop} (hS:∀H',E H H'→SqL K H' a xs):∀H',E H H'→(Itl K a).stop xs.length H':=fun H' s=>⟨xs,hS H' s,Nat.le_refl _⟩
inductive jY (R:Nat→V→Prop):List Nat→List V→Prop
 |nil:jY R [] []
 |cons {i y is ys}:R i y→jY R is ys→jY R (i::is) (y::ys)
theorem jY.snoc {R:Nat→V→Prop} {is:List Nat} {ys:List V} {i:Nat} {y:V} (h:jY R is ys) (r:R i y):jY R (is++[i]) (ys++[y]):=by
 induction h with
 |nil=>exact .cons r .nil
 |cons r' _ ih=>exact .cons r' ih
theorem jY.imp {R S:Nat→V→Prop} {is:List Nat} {ys:List V} (h:jY R is ys) (k:∀i y,R i y→S i y):jY S is ys:=by
 induction h with
 |nil=>exact .nil
 |cons r _ ih=>exact .cons (k _ _ r) ih
theorem jY.len {R:Nat→V→Prop} {is:List Nat} {ys:List V} (h:jY R is ys):is.length=ys.length:=by
 induction h with
 |nil=>rfl
 |cons _ _ ih=>rw [List.length_cons,List.length_cons,ih]
theorem aCa {σ0:L2.St} (E:Hp→Hp→Prop) (eo:aQx E H) (xs:List V) (p:Nat→Bool) (Rel:Nat→Hp→V→Prop)
  (st:∀{i H1 H2 y},E H H1→E H1 H2→Rel i H1 y→Rel i H2 y) (su:∀{i H1 D ys zs y},H D=none→E H H1→H1 D=some (.lst ys)→Rel i H1 y→Rel i (L2.upd H1 D (.lst zs)) y)
  (At:Nat→L2.St→Prop) (Ps:L2.St→Prop) (h0:Ps σ0) (hsz:xs.length≤sizeLine)
  (J:It) (go:∀H' i x,E H H'→xs[i]?=some x→J.go i H'∧∀y H2,J.yld i H' y H2→H2=H'∧y=x) (stop:∀H',E H H'→J.stop xs.length H')
  (hg:∀(i:Nat) (x:V) σ' H' Q',xs[i]?=some x→Ps σ'→E H H'→(∀σ2,Ps σ2→At i σ2→Q' σ2 H')→g x σ' H' Q')
  (ht:∀(i:Nat) (x:V) σ2,xs[i]?=some x→At i σ2→∀H' R,E H H'→(∀H2,E H' H2→R (p i) H2)→tt σ2 H' R)
  (he:∀(i:Nat) (x:V) σ2,xs[i]?=some x→At i σ2→p i=true→∀H' R,E H H'→(∀y H2,E H' H2→Rel i H2 y→R y H2)→te σ2 H' R)
  (q:∀D H' ys,E H H'→H D=none→H' D=some (.lst ys)→jY (fun i y=>Rel i H' y) (sel p 0 (List.range xs.length)) ys→Q (.ref D) H'):aKl J H σ0 g tt te Q:=by
 intro D hD
 refine ⟨fun i m σ' H' ys=>i≤xs.length∧m=xs.length - i∧Ps σ'∧E H H'∧H' D=some (.lst ys)∧jY (fun i y=>Rel i H' y) (sel p 0 (List.range i)) ys,⟨xs.length,Nat.zero_le _,rfl,h0,eo.new _ _ hD,aO,.nil⟩,?_⟩
 rintro i m σ' H' ys ⟨hi,rfl,hps,sm,hL,hR⟩
 refine ⟨hL,?_⟩
 by_cases hlt:i<xs.length
 ·right
  have hx:=List.getElem?_eq_getElem hlt
  obtain ⟨g1,g2⟩:=go H' i xs[i] sm hx
  refine ⟨g1,fun x H2 hy=>?_⟩
  obtain ⟨rfl,rfl⟩:=g2 x H2 hy
  have tk:sel p 0 (List.range (i+1))=sel p 0 (List.range i)++(if p i then [i] else []):=by
   rw [List.range_succ,aA5,List.length_range,Nat.zero_add]
  have lR:=hR.len
  have lS:=uD p 0 (List.range i)
  rw [List.length_range] at lS
  refine hg i xs[i] σ' _ _ hx hps sm fun σ2 hp2 hat=>?_
  refine ht i xs[i] σ2 hx hat _ _ sm fun H3 s3=>?_
  have sm3:=eo.trans sm s3
  have hL3:=eo.keep D _ _ _ hD sm hL s3
  cases hp:p i with
  |true=>
   rw [if_pos rfl]
   refine he i xs[i] σ2 hx hat hp _ _ sm3 fun y H4 s4 r4=>?_
   have sm4:=eo.trans sm3 s4
   have hL4:=eo.keep D _ _ _ hD sm3 hL3 s4
   refine ⟨hL4,by omega,xs.length - (i+1),by omega,hlt,rfl,hp2,eo.upd D _ _ hD sm4,aO,?_⟩
   rw [tk,hp]
   exact jY.snoc (hR.imp fun j z r=>su hD sm4 hL4 (st sm3 s4 (st sm s3 r))) (su hD sm4 hL4 r4)
  |false=>
   rw [if_neg (by simp)]
   refine ⟨hL3,xs.length - (i+1),by omega,hlt,rfl,hp2,sm3,hL3,?_⟩
   rw [tk,hp]
   simp only [Bool.false_eq_true,if_false,List.append_nil]
   exact hR.imp fun j z r=>st sm s3 r
 ·left
  have e:i=xs.length:=by omega
  subst e
  exact ⟨stop _ sm,q D _ ys sm hD hL hR⟩
theorem aXt {σ0:L2.St} (E:Hp→Hp→Prop) (eo:aQx E H) (xs:List V) (Rel:Nat→Hp→V→Prop)
  (st:∀{i H1 H2 y},E H H1→E H1 H2→Rel i H1 y→Rel i H2 y) (su:∀{i H1 D ys zs y},H D=none→E H H1→H1 D=some (.lst ys)→Rel i H1 y→Rel i (L2.upd H1 D (.lst zs)) y)
  (At:Nat→L2.St→Prop) (Ps:L2.St→Prop) (h0:Ps σ0) (hsz:xs.length≤sizeLine)
  (J:It) (go:∀H' i x,E H H'→xs[i]?=some x→J.go i H'∧∀y H2,J.yld i H' y H2→H2=H'∧y=x) (stop:∀H',E H H'→J.stop xs.length H')
  (hg:∀(i:Nat) (x:V) σ' H' Q',xs[i]?=some x→Ps σ'→E H H'→(∀σ2,Ps σ2→At i σ2→Q' σ2 H')→g x σ' H' Q')
  (ht:∀(i:Nat) (x:V) σ2,xs[i]?=some x→At i σ2→∀H' R,E H H'→(∀b H2,E H' H2→R b H2)→tt σ2 H' R)
  (he:∀(i:Nat) (x:V) σ2,xs[i]?=some x→At i σ2→∀H' R,E H H'→(∀y H2,E H' H2→Rel i H2 y→R y H2)→te σ2 H' R)
  (q:∀D H' ys,E H H'→H D=none→H' D=some (.lst ys)→(∃is:List Nat,is.Sublist (List.range xs.length)∧jY (fun i y=>Rel i H' y) is ys)→Q (.ref D) H'):aKl J H σ0 g tt te Q:=by
 intro D hD
 refine ⟨fun i m σ' H' ys=>i≤xs.length∧m=xs.length - i∧Ps σ'∧E H H'∧H' D=some (.lst ys)∧∃is:List Nat,is.Sublist (List.range i)∧jY (fun i y=>Rel i H' y) is ys,⟨xs.length,Nat.zero_le _,rfl,h0,eo.new _ _ hD,aO,[],List.nil_sublist _,.nil⟩,?_⟩
 rintro i m σ' H' ys ⟨hi,rfl,hps,sm,hL,is,hsub,hR⟩
 refine ⟨hL,?_⟩
 by_cases hlt:i<xs.length
 ·right
  have hx:=List.getElem?_eq_getElem hlt
  obtain ⟨g1,g2⟩:=go H' i xs[i] sm hx
  refine ⟨g1,fun x H2 hy=>?_⟩
  obtain ⟨rfl,rfl⟩:=g2 x H2 hy
  have lR:=hR.len
  have lS:=hsub.length_le
  rw [List.length_range] at lS
  refine hg i xs[i] σ' _ _ hx hps sm fun σ2 hp2 hat=>?_
  refine ht i xs[i] σ2 hx hat _ _ sm fun bb H3 s3=>?_
  have sm3:=eo.trans sm s3
  have hL3:=eo.keep D _ _ _ hD sm hL s3
  cases bb with
  |true=>
   rw [if_pos rfl]
   refine he i xs[i] σ2 hx hat _ _ sm3 fun y H4 s4 r4=>?_
   have sm4:=eo.trans sm3 s4
   have hL4:=eo.keep D _ _ _ hD sm3 hL3 s4
   refine ⟨hL4,by omega,xs.length - (i+1),by omega,hlt,rfl,hp2,eo.upd D _ _ hD sm4,aO,is++[i],by rw [List.range_succ];exact hsub.append (List.Sublist.refl _),?_⟩
   exact jY.snoc (hR.imp fun j z r=>su hD sm4 hL4 (st sm3 s4 (st sm s3 r))) (su hD sm4 hL4 r4)
  |false=>
   rw [if_neg (by simp)]
   refine ⟨hL3,xs.length - (i+1),by omega,hlt,rfl,hp2,sm3,hL3,is,by rw [List.range_succ];exact hsub.trans (List.sublist_append_left _ _),?_⟩
   exact hR.imp fun j z r=>st sm s3 r
 ·left
  have e:i=xs.length:=by omega
  subst e
  exact ⟨stop _ sm,q D _ ys sm hD hL ⟨is,hsub,hR⟩⟩
end
def At1 (σ0:L2.St) (v:V) (σ:L2.St):Prop:=∃l,σ=(σ0.set 0 l).set 0 (some v)
def Ps1 (σ0:L2.St) (σ:L2.St):Prop:=∃l,σ=σ0.set 0 l
def At2 (σ0:L2.St) (a b:V) (σ:L2.St):Prop:=σ=(σ0.set 0 (some a)).set 1 (some b)
def Ps2 (σ0:L2.St) (σ:L2.St):Prop:=∃l m,σ=(σ0.set 0 l).set 1 m
theorem hg1 {σ0:L2.St} {i:Nat} {x:V} {σ':L2.St} {H':Hp} {Q':L2.St→Hp→Prop} (h:Ps1 σ0 σ') (q:∀σ2,Ps1 σ0 σ2→At1 σ0 x σ2→Q' σ2 H'):cH 0 x σ' H' Q':=by
 obtain ⟨l,rfl⟩:=h
 exact q _ ⟨some x,by rw [List.set_set]⟩ ⟨l,rfl⟩
theorem hg2 {K:PySem.W.Frag} {σ0:L2.St} {p:Addr} {a b:V} {σ':L2.St} {H':Hp} {Q':L2.St→Hp→Prop} (hp:SqT K H' p [a,b]) (h:Ps2 σ0 σ') (q:∀σ2,Ps2 σ0 σ2→At2 σ0 a b σ2→Q' σ2 H'):aJt K 2 (qT (cH 0) (qT (cH 1) aM8)) (.ref p) σ' H' Q':=by
 obtain ⟨l,m,rfl⟩:=h
 have e:(((σ0.set 0 l).set 1 m).set 0 (some a)).set 1 (some b)=(σ0.set 0 (some a)).set 1 (some b):=by
  rw [List.set_comm _ _ (show (1:Nat)≠0 by decide),List.set_set,List.set_set]
 refine ⟨p,_,rfl,hp,rfl,_,_,rfl,_,_,rfl,rfl,?_⟩
 show Q' ((((σ0.set 0 l).set 1 m).set 0 (some a)).set 1 (some b)) H'
 rw [e]
 exact q _ ⟨some a,some b,rfl⟩ rfl
theorem yM (xs:List V) (n:Nat):pD xs none (some (n:Int))=xs.take n:=by
 unfold pD
 rw [HT.zK,HT.yH,List.drop_zero,Nat.sub_zero]
 by_cases h:n≤xs.length
 ·rw [Nat.min_eq_left h]
 ·rw [Nat.min_eq_right (by omega),List.take_length,List.take_of_length_le (by omega)]
theorem aCk (xs:List V) (n:Nat):pD xs (some (n:Int)) none=xs.drop n:=by
 unfold pD
 rw [HT.zK,HT.yH]
 by_cases h:n≤xs.length
 ·rw [Nat.min_eq_left h]
  exact List.take_of_length_le (by rw [List.length_drop];omega)
 ·rw [Nat.min_eq_right (by omega),List.drop_length,List.drop_of_length_le (by omega),List.take_nil]
def aWw (K:PySem.W.Frag):V→Option Int→Option Int→Hp→VK→Prop:=fun x lo hi H Q=>∃a xs,x=.ref a∧SqL K H a xs∧∀p H',H p=none→Same H H'→H' p=some (.lst (pD xs lo hi))→Q (.ref p) H'
theorem qC {X:Cx}:SlR X (aWw X.K):=fun pins s σ H x v vl vu lo hi sl Q I rx hs pl pu ⟨a,xs,e,ha,q⟩=>
 aQg pins s σ H x v vl vu lo hi sl Q I rx hs pl pu ⟨a,xs,e,ha,fun p hp=>q p _ hp (cC hp _) aO⟩
end L2
namespace L2
open PySem PySem.Spec PyProof.Rows
inductive Al2 {α β:Type} (R:α→β→Prop):List α→List β→Prop
 |nil:Al2 R [] []
 |cons {a b as bs}:R a b→Al2 R as bs→Al2 R (a::as) (b::bs)
theorem Al2.len {α β:Type} {R:α→β→Prop} {as:List α} {bs:List β} (h:Al2 R as bs):as.length=bs.length:=by
 induction h with
 |nil=>rfl
 |cons _ _ ih=>rw [List.length_cons,List.length_cons,ih]
theorem Al2.at {α β:Type} {R:α→β→Prop} {as:List α} {bs:List β} (h:Al2 R as bs):∀{j:Nat} {a:α},as[j]?=some a→∃b,bs[j]?=some b∧R a b:=by
 induction h with
 |nil=>intro j a e;simp at e
 |cons r _ ih=>
  intro j a e
  cases j with
  |zero=>cases e;exact ⟨_,rfl,r⟩
  |succ j=>exact ih (by simpa using e)
theorem aMy {A:Around} {s:Shared} {x:V} {v u:Value} (h:kJ x=true) (rv:RelV x v) (ru:RelV x u):SeqAt.EqAt A s v u true:=by
 cases x with
 |non=>cases rv;cases ru;exact SeqAt.EqAt.same _
 |bl b=>cases rv;cases ru;exact SeqAt.EqAt.same _
 |int i=>
  obtain ⟨t,rfl⟩:=rv
  obtain ⟨t',rfl⟩:=ru
  have z:=SeqAt.EqAt.int_int (A:=A) (s:=s) i t i t'
  simpa using z
 |str y=>
  obtain ⟨t,rfl⟩:=rv
  obtain ⟨t',rfl⟩:=ru
  have z:=SeqAt.EqAt.str_str (A:=A) (s:=s) y t y t'
  simpa using z
 |_=>cases h
section
variable {X:Cx} {pins:List (Addr × Obj)} {σ:L2.St} {H:Hp} {s:Shared}
theorem aAi (n:Nat):(List.range n).all (fun _=>true)=true:=by rw [List.all_eq_true];intro _ _;rfl
end
section
variable {X:Cx}
def Fl2:List V→List V→Prop:=Al2 fun x y=>kJ x=true∧x=y
theorem Fl2.refl:∀{xs:List V},(∀x∈xs,kJ x=true)→Fl2 xs xs
 |[],_=>.nil
 |x::xs,h=>.cons ⟨h x (.head _),rfl⟩ (Fl2.refl fun y hy=>h y (.tail _ hy))
theorem aOe {A:Around} {s:Shared} {xs ys:List V} {its jts:List Value} (rv:Vals xs its) (rw':Vals ys jts) (h:Fl2 xs ys):∀(j:Nat) (h1:j<its.toArray.size) (h2:j<jts.toArray.size),SeqAt.EqAt A s its.toArray[j] jts.toArray[j] ((fun _=>true) j):=fun j h1 h2=>by
 have e1:=rv.length
 have hj1:j<xs.length:=by rw [List.size_toArray] at h1;omega
 obtain ⟨y,hy,d1,d2⟩:=h.at (List.getElem?_eq_getElem hj1)
 obtain ⟨u1,hu1,r1⟩:=rv.get (List.getElem?_eq_getElem hj1)
 obtain ⟨u2,hu2,r2⟩:=rw'.get hy
 have g1:its.toArray[j]=u1:=by
  rw [List.getElem_toArray]
  exact (List.getElem?_eq_some_iff.mp hu1).2
 have g2:jts.toArray[j]=u2:=by
  rw [List.getElem_toArray]
  exact (List.getElem?_eq_some_iff.mp hu2).2
 rw [g1,g2]
 rw [d2] at r1 d1
 exact aMy d1 r1 r2
def aYt (K:PySem.W.Frag):R2:=fun x y H Q=>∃a b xs ys,x=.ref a∧y=.ref b∧SqL K H a xs∧SqL K H b ys∧Fl2 xs ys∧Q (.bl true) H
theorem aV4 (hu:X.A.units<cLine):OpR X (compareOp .Eq) (aYt X.K):=by
 intro pins s σ H x y v u Q I rx ry h
 obtain ⟨a,b,xs,ys,rfl,rfl,ha,hb,h,q⟩:=h
 cases rx
 cases ry
 obtain ⟨its,r1,pl,hz⟩:=I.list ha
 obtain ⟨jts,r2,pm,hw⟩:=I.list hb
 refine SeqAt.RcAt.lists (e:=fun _=>true) pl.isList pm.isList (by rw [List.size_toArray,List.size_toArray];have:=r1.length;have:=r2.length;have:=h.len;omega) hu (aOe r1 r2 h) _ _ _ _ ?_
 rw [aAi]
 exact ⟨.bl _,H,I,rfl,q⟩
end
section
variable {X:Cx} {K:PySem.W.Frag} {scope:Scope} {N:List Str} {tl te:TE} {g:TG} {σ:St} {H:Hp} {Q:VK}
end
inductive Tg where
 |non
 |int (i:Int)
 |bl (b:Bool)
 |str (x:Str)
 |tup (ts:List Tg)
 |lst (ts:List Tg)
 |dct
mutual
inductive bM (K:PySem.W.Frag) (H:Hp):V→Tg→Prop
 |non:bM K H .non .non
 |int {i}:bM K H (.int i) (.int i)
 |bl {b}:bM K H (.bl b) (.bl b)
 |str {x:Str}:x.length≤1000→bM K H (.str x) (.str x)
 |tup {a vs ts}:SqT K H a vs→vs.length≤1000→cG K H vs ts→bM K H (.ref a) (.tup ts)
 |lst {a vs ts}:H a=some (.lst vs)→vs.length≤1000→cG K H vs ts→(∀i,vs≠[.int i])→bM K H (.ref a) (.lst ts)
 |dct {a}:H a=some (.dK [])→bM K H (.ref a) .dct
inductive cG (K:PySem.W.Frag) (H:Hp):List V→List Tg→Prop
 |nil:cG K H [] []
 |cons {v t vs ts}:bM K H v t→cG K H vs ts→cG K H (v::vs) (t::ts)
end
mutual
theorem bM.same {K:PySem.W.Frag} {H H':Hp} (e:Same H H'):∀{v:V} {t:Tg},bM K H v t→bM K H' v t
 |_,_,.non=>.non
 |_,_,.int=>.int
 |_,_,.bl=>.bl
 |_,_,.str h=>.str h
 |_,_,.tup g l h=>.tup (e.bB g) l (cG.same e h)
 |_,_,.lst g l h n=>.lst (e _ _ g) l (cG.same e h) n
 |_,_,.dct g=>.dct (e _ _ g)
theorem cG.same {K:PySem.W.Frag} {H H':Hp} (e:Same H H'):∀{vs:List V} {ts:List Tg},cG K H vs ts→cG K H' vs ts
 |_,_,.nil=>.nil
 |_,_,.cons h t=>.cons (bM.same e h) (cG.same e t)
end
theorem cG.len {K:PySem.W.Frag} {H:Hp}:∀{vs:List V} {ts:List Tg},cG K H vs ts→vs.length=ts.length
 |_,_,.nil=>rfl
 |_,_,.cons _ t=>by rw [List.length_cons,List.length_cons,cG.len t]
theorem cG.at {K:PySem.W.Frag} {H:Hp}:∀{vs:List V} {ts:List Tg},cG K H vs ts→∀{i:Nat} {v:V},vs[i]?=some v→∃t,ts[i]?=some t∧bM K H v t
 |_,_,.cons h t,0,v,e=>by cases e;exact ⟨_,rfl,h⟩
 |_,_,.cons h t,i+1,v,e=>by
  obtain ⟨t',h1,h2⟩:=cG.at t (i:=i) (v:=v) (by simpa using e)
  exact ⟨t',by simpa using h1,h2⟩
end L2
namespace PySem
end PySem
namespace My
open PySem PySem.Spec PyProof.Rows L2
def top (i:Nat):Stmt:=PySem.Challenge.pw_shardask_k04_questions_checked.main.body.getD i (.Pass ⟨0,0,0,0⟩)
abbrev sE:Stmt:=top 15
abbrev wL:Stmt:=top 16
abbrev pL:Stmt:=top 17
abbrev jO:Stmt:=top 18
abbrev uZ:Stmt:=top 19
abbrev zR:Stmt:=top 20
abbrev vP:Stmt:=top 21
abbrev rQ:Stmt:=top 22
abbrev aCd:Stmt:=top 23
abbrev rN:Stmt:=top 35
abbrev wM:Stmt:=top 36
abbrev vZ:Stmt:=top 37
abbrev zF:Stmt:=top 38
abbrev aAb:Stmt:=top 39
abbrev wI:Stmt:=top 40
abbrev pI:Stmt:=top 41
abbrev pA:Stmt:=top 42
abbrev iV:Stmt:=top 43
abbrev pR:Stmt:=top 44
abbrev rY:Stmt:=top 45
abbrev sV:Stmt:=top 46
abbrev iR:Stmt:=top 47
abbrev rF:Stmt:=top 49
abbrev lN:Stmt:=top 50
abbrev rZ:Stmt:=top 51
abbrev vN:Stmt:=top 52
abbrev aCs:Stmt:=top 53
abbrev lV:Stmt:=top 54
abbrev qY:Stmt:=top 55
abbrev uY:Stmt:=top 56
abbrev uG:Stmt:=top 57
abbrev uE:Stmt:=top 58
abbrev xG:Stmt:=top 59
abbrev uF:Stmt:=top 60
abbrev wY:Stmt:=top 61
abbrev aAk:Stmt:=top 62
abbrev uC:Stmt:=top 63
abbrev tQ:Stmt:=top 64
abbrev wU:Stmt:=top 65
abbrev mL:Stmt:=top 66
abbrev wC:Stmt:=top 67
abbrev pU:Stmt:=top 69
abbrev pZ:Stmt:=top 70
abbrev nP:Stmt:=top 71
abbrev lB:Stmt:=top 72
abbrev nZ:Stmt:=top 73
abbrev nM:Stmt:=top 74
abbrev pF:Stmt:=top 75
abbrev kZ:Stmt:=top 76
abbrev lX:Stmt:=top 77
abbrev pG:Stmt:=top 78
abbrev lC:Stmt:=top 79
abbrev mD:Stmt:=top 80
abbrev iY:Stmt:=top 81
abbrev jT:Stmt:=top 82
abbrev fK:Stmt:=top 83
abbrev pW:Stmt:=top 84
abbrev oF:Stmt:=top 85
abbrev eG:Stmt:=top 86
abbrev pH:Stmt:=top 87
abbrev lJ:Stmt:=top 88
abbrev pB:Stmt:=top 89
abbrev sU:Stmt:=top 90
abbrev aLg:Stmt:=top 91
abbrev mJ:Stmt:=inClass (top 1) 0
inductive Cls where
 |ques|tab|col|kind|twice|wide|plan|words
 deriving DecidableEq
def Cls.nm:Cls→Str
 |.ques=>"NoQuestion"
 |.tab=>"NoTable"
 |.col=>"NoColumn"
 |.kind=>"NoKind"
 |.twice=>"Twice"
 |.wide=>"TooWide"
 |.plan=>"NoPlan"
 |.words=>"NoWords"
structure Txt (w:World) (K:PySem.W.Frag) (mg:Str→Option Value):Prop where
 uM:mg "ValueError"=none
 aP6:mg "all"=none
 aXp:mg "any"=none
 aUa:mg "bool"=none
 aUf:mg "dict"=none
 aE0:mg "enumerate"=none
 aG3:mg "int"=none
 cF:mg "isinstance"=none
 eY:mg "len"=none
 aPp:mg "list"=none
 aXh:mg "min"=none
 gY:mg "range"=none
 aY6:mg "set"=none
 aN6:mg "sorted"=none
 aS2:mg "str"=none
 cU:mg "tuple"=none
 aWk:mg "zip"=none
 jE:∃a,mg "QUESTION_WORDS"=some (.ref a)∧∀H,SqT K H a [.str "and",.str "by",.str "count",.str "down",.str "first",.str "group",.str "join",.str "keep",.str "least",.str "most",.str "named",.str "on",.str "sum",.str "table",.str "up",.str "where",.str "with"]
 aLp:∃u,mg "LETTERS"=some u∧RelV (.str "abcdefghijklmnopqrstuvwxyz") u
 yR:∃u,mg "MOST_LETTERS"=some u∧RelV (.int 8) u
 aOz:∃u,mg "MOST_COLUMNS"=some u∧RelV (.int 8) u
 aEm:∃a,mg "SIGNS"=some (.ref a)∧∀H,SqT K H a [.str "=",.str "<",.str ">",.str "!"]
 qD:∃a,mg "SUM_WORDS"=some (.ref a)∧∀H,SqT K H a [.str "count",.str "sum",.str "least",.str "most"]
 aJj:∃a,mg "WAYS"=some (.ref a)∧∀H,SqT K H a [.str "up",.str "down"]
 aDw:∃u,mg "MOST_TESTS"=some u∧RelV (.int 3) u
 vG:∃u,mg "MOST_NAMES"=some u∧RelV (.int 8) u
 aDh:∃u,mg "MOST_PAIRS"=some u∧RelV (.int 3) u
 aFv:∃u,mg "MOST_SUMS"=some u∧RelV (.int 4) u
 aFe:∃u,mg "MOST_KEYS"=some u∧RelV (.int 3) u
 aFh:∃u,mg "MOST_ROWS"=some u∧RelV (.int 60) u
 aFj:∃u,mg "MOST_SIZE"=some u∧RelV (.int 20) u
 yN:∃d t0 t1 t2 t3 t4 t5 t6:Addr,mg "FORMS"=some (.ref d)∧aSa w K d [("table",t0),("where",t1),("keep",t2),("named",t3),("join",t4),("group",t5),("first",t6)]∧(∃f0:Addr,(∀H,SqT K H t0 [.ref f0])∧mg "is_name"=some (.ref f0))∧(∃f0 f1:Addr,(∀H,SqT K H t1 [.ref f0,.ref f1])∧mg "may_be_question"=some (.ref f0)∧mg "are_tests"=some (.ref f1))∧(∃f0 f1:Addr,(∀H,SqT K H t2 [.ref f0,.ref f1])∧mg "may_be_question"=some (.ref f0)∧mg "are_names"=some (.ref f1))∧(∃f0 f1:Addr,(∀H,SqT K H t3 [.ref f0,.ref f1])∧mg "may_be_question"=some (.ref f0)∧mg "are_names"=some (.ref f1))∧(∃f0 f1 f2:Addr,(∀H,SqT K H t4 [.ref f0,.ref f1,.ref f2])∧mg "may_be_question"=some (.ref f0)∧mg "may_be_question"=some (.ref f1)∧mg "are_pairs"=some (.ref f2))∧(∃f0 f1 f2:Addr,(∀H,SqT K H t5 [.ref f0,.ref f1,.ref f2])∧mg "may_be_question"=some (.ref f0)∧mg "are_group_names"=some (.ref f1)∧mg "are_sums"=some (.ref f2))∧(∃f0 f1 f2:Addr,(∀H,SqT K H t6 [.ref f0,.ref f1,.ref f2])∧mg "may_be_question"=some (.ref f0)∧mg "are_keys"=some (.ref f1)∧mg "is_many"=some (.ref f2))
 lE:∃f o,(∃u,mg "is_name"=some u∧RelV (.ref f) u)∧K.lookup f=some o∧o.cls=.type "function"
 aCh:∃f o,(∃u,mg "is_test"=some u∧RelV (.ref f) u)∧K.lookup f=some o∧o.cls=.type "function"
 aCg:∃f o,(∃u,mg "is_pair"=some u∧RelV (.ref f) u)∧K.lookup f=some o∧o.cls=.type "function"
 aFo:∃f o,(∃u,mg "is_sum"=some u∧RelV (.ref f) u)∧K.lookup f=some o∧o.cls=.type "function"
 aGc:∃f o,(∃u,mg "is_key"=some u∧RelV (.ref f) u)∧K.lookup f=some o∧o.cls=.type "function"
 aIi:Dn K mg "is_whole" sE ["thing"]
 aLv:Dn K mg "is_word" wL ["thing"]
 aG9:Dn K mg "is_one_of" pL ["thing","texts"]
 aBl:Dn K mg "is_tuple_of" jO ["thing","least","most","is_part"]
 aR7:Dn K mg "are_unlike" uZ ["names"]
 aVr:Dn K mg "names_of" zR ["head"]
 aL1:Dn K mg "is_name" vP ["thing"]
 aH1:Dn K mg "is_value" rQ ["thing"]
 aWb:Dn K mg "kind_of" aCd ["value"]
 aHo:Dn K mg "is_other" rN ["thing"]
 aMc:Dn K mg "is_test" wM ["thing"]
 aMk:Dn K mg "is_pair" vZ ["thing"]
 aP1:Dn K mg "is_sum" zF ["thing"]
 aPz:Dn K mg "is_key" aAb ["thing"]
 aMh:Dn K mg "is_many" wI ["thing"]
 aF0:Dn K mg "are_tests" pI ["thing"]
 aE5:Dn K mg "are_names" pA ["thing"]
 tZ:Dn K mg "are_group_names" iV ["thing"]
 aF1:Dn K mg "are_pairs" pR ["thing"]
 aI6:Dn K mg "are_sums" rY ["thing"]
 aI5:Dn K mg "are_keys" sV ["thing"]
 uN:Dn K mg "may_be_question" iR ["thing"]
 aHn:Dn K mg "has_form" rF ["thing"]
 yZ:Dn K mg "questions_in" lN ["question"]
 aJc:Dn K mg "own_size" rZ ["question"]
 aMt:Dn K mg "checked" vN ["thing"]
 aWc:Dn K mg "kind_in" aCs ["head","name"]
 aJ8:Dn K mg "need_like_kinds" lV ["kinds","others"]
 aQd:Dn K mg "need_unlike" qY ["names"]
 aRh:Dn K mg "table_head" uY ["heads","name"]
 aR9:Dn K mg "other_kind" uG ["head","other"]
 aRa:Dn K mg "where_head" uE ["head","tests"]
 aS1:Dn K mg "keep_head" xG ["head","names"]
 aQe:Dn K mg "named_head" uF ["head","names"]
 aSw:Dn K mg "join_head" wY ["head","other","pairs"]
 aV7:Dn K mg "sum_kind" aAk ["head","part"]
 aSe:Dn K mg "group_head" uC ["head","names","sums"]
 aR8:Dn K mg "first_head" tQ ["head","keys"]
 aS0:Dn K mg "head_here" wU ["heads","question","inner"]
 aBb:Dn K mg "head_within" mL ["heads","question"]
 aL5:Dn K mg "head_of" wC ["heads","question"]
 aEw:Dn K mg "_law_seed" pU ["_law_script"]
 aEz:Dn K mg "_law_next" pZ ["_law_state","_law_many"]
 aCy:Dn K mg "_law_words" nP []
 aC1:Dn K mg "_law_names" lB ["_law_state","_law_many"]
 aCx:Dn K mg "_law_great" nZ ["_law_state"]
 aDi:Dn K mg "_law_value" nM ["_law_state","_law_kind"]
 aE9:Dn K mg "_law_head" pF ["_law_state","_law_names_here"]
 aD2:Dn K mg "_law_tests" kZ ["_law_state","_law_head_here"]
 aG4:Dn K mg "_law_some" lX ["_law_state","_law_head_here","_law_least"]
 aF7:Dn K mg "_law_sums" pG ["_law_state","_law_head_here","_law_fresh_here"]
 aDj:Dn K mg "_law_group" lC ["_law_state","_law_question_here","_law_head_here","_law_names_here"]
 aGh:Dn K mg "_law_keys" mD ["_law_state","_law_head_here"]
 aD8:Dn K mg "_law_fresh" iY ["_law_question_here","_law_head_here","_law_own","_law_names_here"]
 aGl:Dn K mg "_law_join" jT ["_law_state","_law_question_here","_law_head_here","_law_other","_law_other_head","_law_names_here"]
 oV:Dn K mg "_law_question" fK ["_law_state","_law_heads_here","_law_names_here","_law_deep"]
 wZ:Dn K mg "_law_size" pW ["_law_question_here"]
 aDv:Dn K mg "_law_heads" oF ["_law_state","_law_names_here"]
 aJf:Dn K mg "_law_bad" eG ["_law_q","_law_c"]
 aEv:Dn K mg "_law_none" pH ["_law_q","_law_c"]
 aAh:Dn K mg "_law_refused" lJ ["_law_heads_here","_law_thing","_law_way"]
 aG7:Dn K mg "_law_step" pB ["_law_state","_law_q","_law_c"]
 aIb:Dn K mg "_law_row" sU ["_law_state","_law_c"]
 aW8:Dn K mg "law" aLg ["_law_script"]
 aXv:∃(S:Addr) (ad:Cls→Addr),mg "ShardError"=some (.ref S)∧XS K S∧(∀c,ExT K mg mJ c.nm "ShardError.__init__" (ad c) S)∧(∀c d,PySem.W.mroIn K (ad c) (.ref (ad d))=some (decide (c=d)))∧∀c,PySem.W.mroIn K (ad c) (.type "ValueError")=some true
theorem aK7:aW ["self","act"] ["self","act"] (aK mJ):=by trivial
abbrev abc:Str:="abcdefghijklmnopqrstuvwxyz"
abbrev words:List V:=[.str "and",.str "by",.str "count",.str "down",.str "first",.str "group",.str "join",.str "keep",.str "least",.str "most",.str "named",.str "on",.str "sum",.str "table",.str "up",.str "where",.str "with"]
def Th (K:PySem.W.Frag) (H:Hp) (v:V):Prop:=(∃x,v=.str x∧x.length≤1000)∨(∃i,v=.int i)∨(∃b,v=.bl b)∨∃k,Rk K H v k
theorem Th.same {K:PySem.W.Frag} {H H':Hp} {v:V} (e:Same H H') (h:Th K H v):Th K H' v:=by
 rcases h with h|h|h|⟨k,h⟩
 ·exact .inl h
 ·exact .inr (.inl h)
 ·exact .inr (.inr (.inl h))
 ·exact .inr (.inr (.inr ⟨k,h.same e⟩))
def aQu:V→String→Bool
 |.int _,T=>T == "int"
 |.str _,T=>T == "str"
 |.bl _,T=>T == "int" || T == "bool"
 |_,_=>false
def isS:V→Bool
 |.str _=>true
 |_=>false
def whole:V→Bool
 |.int _=>true
 |_=>false
theorem tD {K:PySem.W.Frag} {H:Hp} {v:V} {T:String} {Q:VK} (hv:Th K H v) (hT:T = "int"∨T = "bool"∨T = "str") (q:Q (.bl (aQu v T)) H):aWi [v,.ty T] H Q∨aS8 K [v,.ty T] H Q:=by
 rcases hv with ⟨x,rfl,_⟩|⟨i,rfl⟩|⟨b,rfl⟩|⟨k,h⟩
 ·refine .inl ⟨_,_,_,rfl,?_,q⟩
  rcases hT with rfl|rfl|rfl <;> simp [aJs,aQu]
 ·refine .inl ⟨_,_,_,rfl,?_,q⟩
  rcases hT with rfl|rfl|rfl <;> simp [aJs,aQu]
 ·refine .inl ⟨_,_,_,rfl,?_,q⟩
  rcases hT with rfl|rfl|rfl <;> simp [aJs,aQu]
 ·refine .inr ⟨_,_,_,rfl,h,hT,?_⟩
  cases h <;> exact q
def inA (y:Str):Bool:=!(Builtin.Str.occurrences abc y 0 abc.length 1).isEmpty
def allIn (x:Str):Bool:=((List.range x.cps.size).map fun i=>inA (sgn x i)).all id
def oZ (l:Nat):V→Bool
 |.str x=>decide (l≤x.length) && (decide (x.length≤8) && allIn x)
 |_=>false
def nameB (v:V):Bool:=oZ 1 v && !inV v words
def aD6 (v:V):Bool:=whole v || oZ 0 v
def zM (K:PySem.W.Frag):Sp:=fun vs H Q _=>∃v,vs=[v]∧Th K H v∧Q (.bl (whole v)) H
def yV (K:PySem.W.Frag) (f:V→Bool):Sp:=fun vs H Q _=>∃v,vs=[v]∧Th K H v∧∀H',Same H H'→Q (.bl (f v)) H'
def aDs (K:PySem.W.Frag):Sp:=fun vs H Q _=>∃(a:Addr) (ns:List Int),vs=[.ref a]∧SqL K H a (ns.map V.int)∧ns.length≤63∧∀H',Q (.bl true) H'
theorem aM6 {K:PySem.W.Frag} {H:Hp} {a:Addr} {ns:List Int} (h:ns.length≤63) (hS:SqL K H a (ns.map V.int)):aDs K [.ref a] H (fun v _=>v=.bl true) fun _ _ _=>False:=
 ⟨a,ns,rfl,hS,h,fun _=>rfl⟩
theorem aFl:aW ["thing"] ["thing"] (aK sE):=by trivial
theorem aIt:aW ["thing"] ["thing"] (aK wL):=by trivial
theorem aC0:aW ["thing","texts"] ["thing","texts"] (aK pL):=by trivial
theorem aAg:aW ["thing","least","most","is_part"] ["thing","least","most","is_part"] (aK jO):=by trivial
theorem aIw:aW ["thing"] ["thing"] (aK vP):=by trivial
theorem aGz:aW ["thing"] ["thing"] (aK rQ):=by trivial
theorem aGu:aW ["thing"] ["thing"] (aK rN):=by trivial
theorem aHy:aW ["thing"] ["thing"] (aK wM):=by trivial
theorem aJn:aW ["thing"] ["thing"] (aK vZ):=by trivial
theorem aM3:aW ["thing"] ["thing"] (aK zF):=by trivial
theorem aNa:aW ["thing"] ["thing"] (aK aAb):=by trivial
theorem aHw:aW ["thing"] ["thing"] (aK wI):=by trivial
theorem aEf:aW ["thing"] ["thing"] (aK pI):=by trivial
theorem aEe:aW ["thing"] ["thing"] (aK pA):=by trivial
theorem rM:aW ["thing"] ["thing"] (aK iV):=by trivial
theorem aDe:aW ["thing"] ["thing"] (aK pR):=by trivial
theorem aGg:aW ["thing"] ["thing"] (aK rY):=by trivial
theorem aHj:aW ["thing"] ["thing"] (aK sV):=by trivial
theorem sJ:aW ["thing"] ["thing"] (aK iR):=by trivial
theorem xM:aW ["thing","form"] ["thing"] (aK rF):=by trivial
theorem xT:aW ["question"] ["question"] (aK lN):=by trivial
theorem aFu:aW ["question"] ["question"] (aK rZ):=by trivial
theorem lK:aW ["thing","size","waiting","part"] ["thing"] (aK vN):=by trivial
theorem zT:aW ["heads","question","inner","head"] ["heads","question"] (aK mL):=by trivial
theorem aJa:aW ["heads","question"] ["heads","question"] (aK wC):=by trivial
theorem iK:aW ["_law_script","_law_seed_here","_law_k","_law_cell"] ["_law_script"] (aK pU):=by trivial
theorem aC5:aW ["_law_state","_law_many"] ["_law_state","_law_many"] (aK pZ):=by trivial
theorem qZ:aW ["_law_words_here"] [] (aK nP):=by trivial
theorem cR:aW ["_law_state","_law_many","_law_small","_law_odd","_law_base","_law_k","_law_at","_law_names_here"] ["_law_state","_law_many"] (aK lB):=by trivial
theorem jM:aW ["_law_state","_law_number","_law_k"] ["_law_state"] (aK nZ):=by trivial
theorem gR:aW ["_law_state","_law_kind","_law_way","_law_word","_law_k"] ["_law_state","_law_kind"] (aK nM):=by trivial
theorem iU:aW ["_law_state","_law_names_here","_law_start","_law_head_here","_law_k","_law_kind"] ["_law_state","_law_names_here"] (aK pF):=by trivial
theorem dJ:aW ["_law_state","_law_head_here","_law_tests_here","_law_k","_law_name","_law_kind","_law_other","_law_alike"] ["_law_state","_law_head_here"] (aK kZ):=by trivial
theorem oH:aW ["_law_state","_law_head_here","_law_least","_law_some_here"] ["_law_state","_law_head_here","_law_least"] (aK lX):=by trivial
theorem dZ:aW ["_law_state","_law_head_here","_law_fresh_here","_law_sums_here","_law_k","_law_name","_law_kind","_law_many","_law_word"] ["_law_state","_law_head_here","_law_fresh_here"] (aK pG):=by trivial
theorem cT:aW ["_law_state","_law_question_here","_law_head_here","_law_names_here","_law_got","_law_some_here","_law_fresh_here","_law_sums_here","_law_word","_law_name","_law_new","_law_kind"] ["_law_state","_law_question_here","_law_head_here","_law_names_here"] (aK lC):=by trivial
theorem vH:aW ["_law_state","_law_head_here","_law_some_here"] ["_law_state","_law_head_here"] (aK mD):=by trivial
theorem fM:aW ["_law_question_here","_law_head_here","_law_own","_law_names_here","_law_used","_law_fresh_here","_law_got"] ["_law_question_here","_law_head_here","_law_own","_law_names_here"] (aK iY):=by trivial
theorem dY:aW ["_law_state","_law_question_here","_law_head_here","_law_other","_law_other_head","_law_names_here","_law_pairs","_law_c","_law_kind","_law_pair","_law_left"] ["_law_state","_law_question_here","_law_head_here","_law_other","_law_other_head","_law_names_here"] (aK jT):=by trivial
theorem bW:aW ["_law_state","_law_heads_here","_law_names_here","_law_deep","_law_name","_law_way","_law_question_here","_law_head_here","_law_some_here","_law_turn","_law_fresh_here","_law_got","_law_other","_law_other_head"] ["_law_state","_law_heads_here","_law_names_here","_law_deep"] (aK fK):=by trivial
theorem uT:aW ["_law_question_here"] ["_law_question_here"] (aK pW):=by trivial
theorem mR:aW ["_law_state","_law_names_here","_law_heads_here","_law_k"] ["_law_state","_law_names_here"] (aK oF):=by trivial
theorem cA:aW ["_law_q","_law_c","_law_test","_law_tests_here","_law_names_here","_law_pairs","_law_sums_here","_law_found","_law_keys_here"] ["_law_q","_law_c"] (aK eG):=by trivial
theorem kW:aW ["_law_q","_law_c","_law_found"] ["_law_q","_law_c"] (aK pH):=by trivial
theorem fJ:aW ["_law_heads_here","_law_thing","_law_way","_law_kinds","e","_law_other"] ["_law_heads_here","_law_thing","_law_way"] (aK lJ):=by trivial
theorem tM:aW ["_law_state","_law_q","_law_c","_law_way"] ["_law_state","_law_q","_law_c"] (aK pB):=by trivial
theorem mG:aW ["_law_state","_law_c","_law_question_here","_law_most"] ["_law_state","_law_c"] (aK sU):=by trivial
theorem iQ:aW ["_law_script","_law_state","_law_names_here","_law_heads_here","_law_question_here","_law_head_here","_law_c","_law_bad_here","_law_thing","_law_far","_law_k","_law_row_here"] ["_law_script"] (aK aLg):=by trivial
section
variable {P:Program} {w:World} {K:PySem.W.Frag} {mg:Str→Option Value} {base:Heap}
theorem aHa (T:Txt w K mg):Ok P w K mg base 1 "is_whole" ["thing"] (zM K):=by
 refine Ok.ofV T.aIi aFl (fun vs H Q E h=>?_) (fun f cdv A outer s H vs Q E hr h=>?_)
 ·obtain ⟨v,rfl,_⟩:=h;rfl
 obtain ⟨v,rfl,hv,q⟩:=h
 refine ⟨_,(aL (aR (lM (aY (uR.or qN) (by rfl) T.cF bZ (aB (vv 0) (aB (iC (v:=.ty "int") (by rfl) T.aG3 aAj rfl) aA))) (mU (aVw (aY (uR.or qN) (by rfl) T.cF bZ (aB (vv 0) (aB (iC (v:=.ty "bool") (by rfl) T.aUa aRm rfl) aA)))))))),?_⟩
 refine ⟨_,rfl,tD hv (.inl rfl) ⟨_,rfl,?_⟩⟩
 rcases id hv with ⟨x,rfl,_⟩|⟨i,rfl⟩|⟨b,rfl⟩|⟨k,h⟩
 ·exact cI q
 ·exact cY ⟨_,rfl,tD hv (.inr (.inl rfl)) ⟨_,rfl,q⟩⟩
 ·exact cY ⟨_,rfl,tD hv (.inr (.inl rfl)) ⟨_,rfl,q⟩⟩
 ·cases h <;> exact cI q
theorem aOj (x:Str):(((List.range x.cps.size).map fun i=>V.str (sgn x i)).map fun v=>match v with|.str y=>V.bl (inA y)|_=>.bl false)=(((List.range x.cps.size).map fun i=>inA (sgn x i)).map V.bl):=by
 rw [List.map_map,List.map_map]
 rfl
theorem aIc (T:Txt w K mg):Ok P w K mg base 1 "is_word" ["thing"] (yV K (oZ 0)):=by
 refine Ok.ofV T.aLv aIt (fun vs H Q E h=>?_) (fun f cdv A outer s H vs Q E hr h=>?_)
 ·obtain ⟨v,rfl,_⟩:=h;rfl
 obtain ⟨v,rfl,hv,q⟩:=h
 refine ⟨_,(aF (cP (VW.pt (oU (fZ (fP (aY (uR.or qN) (by rfl) T.cF bZ (aB (vv 0) (aB (iC (v:=.ty "str") (by rfl) T.aS2 aOt rfl) aA))))) (lH (bF aNt (aY tX (by rfl) T.eY cZ (aB (vv 0) aA)) (dO (by rfl) T.yR) (bL _))))) (aL (aR iZ)) bK) (aL (aR (aY (aAn rfl) (by rfl) T.aP6 aIu (aB (dC (N:=["sign"]) (by trivial) (mV (by decide +kernel)) rfl (aTm (vv 0)) (fun cl s' H' fp=>⟨(aV (i:=0) (show (["sign"]:List Str).Nodup from by decide +kernel) rfl (Or.inl rfl)),fH,(gJ aMx (vv 0) (dO (by rfl) T.aLp) (by with_unfolding_all rfl))⟩)) aA))))),?_⟩
 refine ⟨_,rfl,tD hv (.inr (.inr rfl)) ⟨_,rfl,?_⟩⟩
 have no:isS v=false→Q (.bl false) H:=fun e=>by
  have z:oZ 0 v=false:=by cases v <;> first|rfl|cases e
  rw [←z];exact q H (Same.refl H)
 rcases id hv with ⟨x,rfl,hx⟩|⟨i,rfl⟩|⟨b,rfl⟩|⟨k,h⟩
 ·refine cI ⟨_,rfl,_,rfl,small hx,_,_,rfl,rfl,_,rfl,?_⟩
  refine mK (fun c=>?_) (fun c=>?_)
  ·have c':(8:Int)<x.length:=of_decide_eq_true c
   have z:oZ 0 (.str x)=false:=by
    show (decide (0≤x.length) && (decide (x.length≤8) && allIn x))=false
    rw [decide_eq_false (p:=x.length≤8) (by omega)]
    simp
   rw [←z];exact q H (Same.refl H)
  ·have c':¬ (8:Int)<x.length:=of_decide_eq_false (Bool.eq_false_iff.mpr c)
   dsimp only [aGx,aMm,tCB,bQ]
   refine aLo ((List.range x.cps.size).map fun i=>V.str (sgn x i)) (fun v=>match v with|.str y=>V.bl (inA y)|_=>.bl false) [none] aMp ?_
    (fun R r=>aTe (z:=x) (fun R' r'=>⟨_,rfl,r'⟩) R r) (fun v hv' H' R l sm r=>?_) rfl fun D hD=>?_
   ·rw [List.length_map,List.length_range];exact small hx
   ·obtain ⟨i,_,rfl⟩:=List.mem_map.mp hv'
    exact ⟨_,rfl,_,_,rfl,rfl,r⟩
   ·refine ⟨D,(List.range x.cps.size).map fun i=>inA (sgn x i),rfl,SqL.of (by rw [aO,aOj]),?_⟩
    have z:oZ 0 (.str x)=allIn x:=by
     show (decide (0≤x.length) && (decide (x.length≤8) && allIn x))=allIn x
     rw [decide_eq_true (p:=x.length≤8) (by omega)]
     simp
    show Q (.bl (allIn x)) _
    rw [←z]
    exact q _ (cC hD _)
 ·exact cY (no rfl)
 ·exact cY (no rfl)
 ·cases h <;> exact cY (no rfl)
theorem yI {v:V} {l:Nat} (h:oZ l v=true):∃x,v=.str x∧l≤x.length∧x.length≤8∧allIn x=true:=by
 cases v with
 |str x=>
  have h:(decide (l≤x.length) && (decide (x.length≤8) && allIn x))=true:=h
  rw [Bool.and_eq_true,Bool.and_eq_true] at h
  exact ⟨x,rfl,of_decide_eq_true h.1,of_decide_eq_true h.2.1,h.2.2⟩
 |_=>cases h
theorem aB0 {x:Str}:x=("":Str)↔x.length=0:=by
 constructor
 ·rintro rfl;decide +kernel
 ·intro h
  obtain ⟨cps⟩:=x
  have h:cps.size=0:=h
  rw [Array.size_eq_zero_iff] at h
  subst h
  decide +kernel
theorem zU:words.all kJ=true:=rfl
theorem aIo (T:Txt w K mg) (vU:Ok P w K mg base 1 "is_word" ["thing"] (yV K (oZ 0))):Ok P w K mg base 2 "is_name" ["thing"] (yV K nameB):=by
 refine Ok.ofV T.aL1 aIw (fun vs H Q E h=>?_) (fun f cdv A outer s H vs Q E hr h=>?_)
 ·obtain ⟨v,rfl,_⟩:=h;rfl
 obtain ⟨v,rfl,hv,q⟩:=h
 obtain ⟨qa,mq,hqa⟩:=T.jE
 have jE:∃u,mg "QUESTION_WORDS"=some u∧RelV (.ref qa) u:=⟨_,mq,rfl⟩
 refine ⟨_,(aL (aR (lM (aU (vU.mono (by decide)) hr (by rfl) (aB (vv 0) aA)) (lM (gJ aAo (vv 0) aJ (bL _)) (mU (gJ uB (vv 0) (dO (by rfl) jE) (by with_unfolding_all rfl))))))),?_⟩
 refine ⟨_,rfl,_,rfl,hv,fun H1 s1=>⟨_,rfl,?_⟩⟩
 refine mK (fun c=>?_) (fun c=>?_)
 ·obtain ⟨x,rfl,_,h8,ha⟩:=yI c
  refine ⟨_,rfl,rfl,_,rfl,?_⟩
  by_cases e:x.length=0
  ·have ex:=aB0.mpr e
   subst ex
   refine cI ?_
   have z:nameB (.str "")=false:=by decide +kernel
   rw [←z];exact q H1 s1
  ·have ne:¬ (V.str x=V.str ""):=fun z=>e (aB0.mp (V.str.inj z))
   have e2:(!decide (V.str x=V.str ""))=true:=by rw [decide_eq_false ne];rfl
   rw [e2]
   refine cY ⟨_,rfl,qa,words,rfl,.inr (hqa _),rfl,zU,?_⟩
   have z:nameB (.str x)=!inV (.str x) words:=by
    show ((decide (1≤x.length) && (decide (x.length≤8) && allIn x)) && !inV (.str x) words)=!inV (.str x) words
    rw [decide_eq_true (p:=1≤x.length) (by omega),decide_eq_true h8,ha]
    rfl
   show Q (.bl (!inV (.str x) words)) H1
   rw [←z];exact q H1 s1
 ·have z:nameB v=false:=by
   show (oZ 1 v && !inV v words)=false
   cases hv1:oZ 1 v with
   |false=>rfl
   |true=>
    obtain ⟨x,rfl,h1,h8,ha⟩:=yI hv1
    refine absurd ?_ c
    show (decide (0≤x.length) && (decide (x.length≤8) && allIn x))=true
    rw [decide_eq_true h8,ha,decide_eq_true (Nat.zero_le _)]
    rfl
  rw [←z];exact q H1 s1
theorem aFy (T:Txt w K mg) (rC:Ok P w K mg base 1 "is_whole" ["thing"] (zM K)) (vU:Ok P w K mg base 1 "is_word" ["thing"] (yV K (oZ 0))) :
  Ok P w K mg base 2 "is_value" ["thing"] (yV K aD6):=by
 refine Ok.ofV T.aH1 aGz (fun vs H Q E h=>?_) (fun f cdv A outer s H vs Q E hr h=>?_)
 ·obtain ⟨v,rfl,_⟩:=h;rfl
 obtain ⟨v,rfl,hv,q⟩:=h
 refine ⟨_,(aL (aR (aXk (aU (rC.mono (by decide)) hr (by rfl) (aB (vv 0) aA)) (mU (aU (vU.mono (by decide)) hr (by rfl) (aB (vv 0) aA)))))),?_⟩
 refine ⟨_,rfl,_,rfl,hv,_,rfl,?_⟩
 cases hw:whole v with
 |true=>
  refine cY ?_
  have z:aD6 v=true:=by show (whole v || oZ 0 v)=true;rw [hw];rfl
  rw [←z];exact q H (Same.refl H)
 |false=>
  refine cI ⟨_,rfl,_,rfl,hv,fun H1 s1=>?_⟩
  have z:aD6 v=oZ 0 v:=by show (whole v || oZ 0 v)=oZ 0 v;rw [hw];rfl
  rw [←z];exact q H1 s1
theorem at0 (x:V) (r:List V):atI (x::r) 0=some x:=by
 unfold atI ixN
 simp
theorem at1 (x y:V) (r:List V):atI (x::y::r) 1=some y:=by
 unfold atI ixN
 simp only [List.length_cons]
 rw [if_pos (by omega),if_pos (by omega)]
 rfl
def gP (R:Hp→V→Bool→Prop):Sp:=fun vs H Q _=>∃v b,vs=[v]∧R H v b∧∀H',Same H H'→Q (.bl b) H'
def vW (K:PySem.W.Frag):Sp:=fun vs H Q _=>∃v a xs,vs=[v,.ref a]∧Th K H v∧SqT K H a xs∧xs.all kJ=true∧Q (.bl (isS v && inV v xs)) H
theorem aCv (T:Txt w K mg):Ok P w K mg base 1 "is_one_of" ["thing","texts"] (vW K):=by
 refine Ok.ofV T.aG9 aC0 (fun vs H Q E h=>?_) (fun f cdv A outer s H vs Q E hr h=>?_)
 ·obtain ⟨v,a,xs,rfl,_⟩:=h;rfl
 obtain ⟨v,a,xs,rfl,hv,ha,hf,q⟩:=h
 refine ⟨_,(aL (aR (lM (aY (uR.or qN) (by rfl) T.cF bZ (aB (vv 0) (aB (iC (v:=.ty "str") (by rfl) T.aS2 aOt rfl) aA))) (mU (gJ wF (vv 0) (vv 1) (by with_unfolding_all rfl)))))),?_⟩
 refine ⟨_,rfl,tD hv (.inr (.inr rfl)) ⟨_,rfl,?_⟩⟩
 rcases id hv with ⟨x,rfl,_⟩|⟨i,rfl⟩|⟨b,rfl⟩|⟨k,h⟩
 ·exact cY ⟨_,rfl,_,rfl,a,xs,rfl,.inr ha,rfl,hf,q⟩
 ·exact cI q
 ·exact cI q
 ·cases h <;> exact cI q
theorem at2 (x y z:V) (r:List V):atI (x::y::z::r) 2=some z:=by
 unfold atI ixN
 simp only [List.length_cons]
 rw [if_pos (by omega),if_pos (by omega)]
 rfl
theorem aVe {K:PySem.W.Frag} {H:Hp} {x:Str} (h:x.length≤8):Th K H (.str x):=.inl ⟨x,rfl,by omega⟩
def Nm (x:Str):Prop:=nameB (.str x)=true
theorem iW {x:Str} (h:nameB (.str x)=true):x.length≤8:=by
 have h:(oZ 1 (.str x) && !inV (.str x) words)=true:=h
 rw [Bool.and_eq_true] at h
 obtain ⟨y,e,_,h8,_⟩:=yI h.1
 cases e
 exact h8
abbrev signs:List V:=[.str "=",.str "<",.str ">",.str "!"]
abbrev gQ:List V:=[.str "count",.str "sum",.str "least",.str "most"]
abbrev xN:List V:=[.str "up",.str "down"]
inductive Oth where
 |val (x:V)
 |col (d:Str)
structure Tst where
 c:Str
 sg:Str
 o:Oth
structure Sm where
 wd:Str
 c:Option Str
 new:Str
def IsO (K:PySem.W.Frag) (H:Hp) (v:V):Oth→Prop
 |.val x=>∃a,v=.ref a∧SqT K H a [.str "value",x]∧Th K H x∧aD6 x=true
 |.col d=>∃a,v=.ref a∧SqT K H a [.str "column",.str d]∧Nm d
def aWd (x:Str):Prop:=x = "="∨x = "<"∨x = ">"∨x = "!"
def IsT (K:PySem.W.Frag) (H:Hp) (v:V) (t:Tst):Prop:=∃a w,v=.ref a∧SqT K H a [.str t.c,.str t.sg,w]∧Nm t.c∧aWd t.sg∧IsO K H w t.o
def aAd (K:PySem.W.Frag) (H:Hp) (v:V) (p:Str × Str):Prop:=∃a,v=.ref a∧SqT K H a [.str p.1,.str p.2]∧Nm p.1∧Nm p.2
def xR (K:PySem.W.Frag) (H:Hp) (v:V) (p:Str × Str):Prop:=∃a,v=.ref a∧SqT K H a [.str p.1,.str p.2]∧Nm p.1∧(p.2 = "up"∨p.2 = "down")
def aWn (x:Str):Prop:=x = "sum"∨x = "least"∨x = "most"
def wG (K:PySem.W.Frag) (H:Hp) (v:V) (s:Sm):Prop:=∃a,v=.ref a∧Nm s.new∧((s.wd = "count"∧s.c=none∧SqT K H a [.str "count",.non,.str s.new])∨(∃c,s.c=some c∧Nm c∧aWn s.wd∧SqT K H a [.str s.wd,.str c,.str s.new]))
def IsN (v:V) (x:Str):Prop:=v=.str x∧Nm x
inductive cL {α β:Type} (R:α→β→Prop):List α→List β→Prop
 |nil:cL R [] []
 |cons {a b as bs}:R a b→cL R as bs→cL R (a::as) (b::bs)
theorem cL.len {α β:Type} {R:α→β→Prop} {as:List α} {bs:List β} (h:cL R as bs):as.length=bs.length:=by
 induction h with
 |nil=>rfl
 |cons _ _ ih=>rw [List.length_cons,List.length_cons,ih]
theorem cL.imp {α β:Type} {R S:α→β→Prop} {as:List α} {bs:List β} (h:cL R as bs) (k:∀a b,R a b→S a b):cL S as bs:=by
 induction h with
 |nil=>exact .nil
 |cons r _ ih=>exact .cons (k _ _ r) ih
theorem cL.mem {α β:Type} {R:α→β→Prop} {as:List α} {bs:List β} (h:cL R as bs) {a:α} (m:a∈as):∃b,b∈bs∧R a b:=by
 induction h with
 |nil=>cases m
 |cons r _ ih=>
  rcases List.mem_cons.mp m with rfl|m
  ·exact ⟨_,List.mem_cons_self ..,r⟩
  ·obtain ⟨b,hb,q⟩:=ih m
   exact ⟨b,List.mem_cons_of_mem _ hb,q⟩
theorem cL.app {α β:Type} {R:α→β→Prop} {as cs:List α} {bs ds:List β} (h:cL R as bs) (k:cL R cs ds):cL R (as++cs) (bs++ds):=by
 induction h with
 |nil=>exact k
 |cons r _ ih=>exact .cons r ih
def aG0 {α:Type} (K:PySem.W.Frag) (H:Hp) (R:V→α→Prop) (v:V) (xs:List α):Prop:=∃a vs,v=.ref a∧SqT K H a vs∧cL R vs xs
theorem aG0.same {α:Type} {K:PySem.W.Frag} {H H':Hp} {R S:V→α→Prop} {v:V} {xs:List α} (e:Same H H') (k:∀a b,R a b→S a b) (h:aG0 K H R v xs):aG0 K H' S v xs:=by
 obtain ⟨a,vs,rfl,ha,hr⟩:=h
 exact ⟨a,vs,rfl,e.bB ha,hr.imp k⟩
theorem IsO.same {K:PySem.W.Frag} {H H':Hp} {v:V} {o:Oth} (e:Same H H') (h:IsO K H v o):IsO K H' v o:=by
 cases o with
 |val x=>obtain ⟨a,rfl,ha,hx,hv⟩:=h;exact ⟨a,rfl,e.bB ha,hx.same e,hv⟩
 |col d=>obtain ⟨a,rfl,ha,hd⟩:=h;exact ⟨a,rfl,e.bB ha,hd⟩
theorem IsT.same {K:PySem.W.Frag} {H H':Hp} {v:V} {t:Tst} (e:Same H H') (h:IsT K H v t):IsT K H' v t:=by
 obtain ⟨a,w,rfl,ha,h1,h2,h3⟩:=h
 exact ⟨a,w,rfl,e.bB ha,h1,h2,h3.same e⟩
theorem aAd.same {K:PySem.W.Frag} {H H':Hp} {v:V} {t:Str × Str} (e:Same H H') (h:aAd K H v t):aAd K H' v t:=by
 obtain ⟨a,rfl,ha,h1⟩:=h
 exact ⟨a,rfl,e.bB ha,h1⟩
theorem xR.same {K:PySem.W.Frag} {H H':Hp} {v:V} {t:Str × Str} (e:Same H H') (h:xR K H v t):xR K H' v t:=by
 obtain ⟨a,rfl,ha,h1⟩:=h
 exact ⟨a,rfl,e.bB ha,h1⟩
theorem wG.same {K:PySem.W.Frag} {H H':Hp} {v:V} {t:Sm} (e:Same H H') (h:wG K H v t):wG K H' v t:=by
 obtain ⟨a,rfl,hn,h1⟩:=h
 refine ⟨a,rfl,hn,?_⟩
 rcases h1 with ⟨x,y,z⟩|⟨c,x,y,z,u⟩
 ·exact .inl ⟨x,y,e.bB z⟩
 ·exact .inr ⟨c,x,y,z,e.bB u⟩
def aAv (_:PySem.W.Frag) (_:Hp) (v:V) (x:Str):Prop:=IsN v x
def oX {α:Type} (S:PySem.W.Frag→Hp→V→α→Prop) (lo hi:Nat):PySem.W.Frag→Hp→V→List α→Prop:=fun K H v xs=>aG0 K H (S K H) v xs∧lo≤xs.length∧xs.length≤hi
theorem aXr {x:Str} (h:aWd x):(isS (.str x) && inV (.str x) signs)=true∧x.length≤8:=by
 rcases h with rfl|rfl|rfl|rfl <;> exact ⟨by decide +kernel,by decide +kernel⟩
theorem rP (T:Txt w K mg):Ok P w K mg base 1 "may_be_question" ["thing"] (fun vs H Q _=>∃v,vs=[v]∧Q (.bl true) H):=by
 refine Ok.ofV T.uN sJ (fun vs H Q E h=>?_) (fun f cdv A outer s H vs Q E hr h=>?_)
 ·obtain ⟨v,rfl,_⟩:=h;rfl
 obtain ⟨v,rfl,q⟩:=h
 exact ⟨_,(aL (aR iZ)),q⟩
def isTup:Tg→Bool
 |.tup _=>true
 |_=>false
theorem aAf {H:Hp} {v:V} {t:Tg} (h:bM K H v t):Tk K H v (isTup t):=by
 cases h with
 |non=>exact .non
 |int=>exact .int
 |bl=>exact .bl
 |str _=>exact .str
 |tup g _ _=>exact .tup g
 |lst g _ _ _=>exact .lst (SqL.of g)
 |dct g=>exact .dct g
theorem lU {H:Hp} {v:V} {t:Tg} (h:bM K H v t):Th K H v:=by
 cases h with
 |non=>exact .inr (.inr (.inr ⟨_,.non⟩))
 |int=>exact .inr (.inl ⟨_,rfl⟩)
 |bl=>exact .inr (.inr (.inl ⟨_,rfl⟩))
 |str h=>exact .inl ⟨_,rfl,h⟩
 |tup g _ _=>exact .inr (.inr (.inr ⟨_,.tup g⟩))
 |lst g _ _ _=>exact .inr (.inr (.inr ⟨_,.lst (SqL.of g)⟩))
 |dct g=>exact .inr (.inr (.inr ⟨_,.dct g⟩))
def flat:Tg→V
 |.int i=>.int i
 |.bl b=>.bl b
 |.str x=>.str x
 |_=>.non
def aP (t:Tg):Bool:=nameB (flat t)
def aPc (t:Tg):Bool:=aD6 (flat t)
def eO (t:Tg) (xs:List V):Bool:=isS (flat t) && inV (flat t) xs
theorem qI {H:Hp} {v:V} {t:Tg} (h:bM K H v t):nameB v=aP t:=by cases h <;> rfl
theorem aVx {H:Hp} {v:V} {t:Tg} (h:bM K H v t):aD6 v=aPc t:=by cases h <;> rfl
theorem vQ {H:Hp} {v:V} {t:Tg} {xs:List V} (h:bM K H v t):(isS v && inV v xs)=eO t xs:=by cases h <;> rfl
def TgR (K:PySem.W.Frag) (f:Tg→Bool):Hp→V→Bool→Prop:=fun H v b=>∃t,bM K H v t∧b=f t
def jX:Tg→Bool
 |.tup [a,b]=>if eO a [.str "value"] then aPc b else (eO a [.str "column"] && aP b)
 |_=>false
theorem aXf {H:Hp} {vs:List V} {ts:List Tg} (h:cG K H vs ts) (l:vs.length=2):∃v u a b,vs=[v,u]∧ts=[a,b]∧bM K H v a∧bM K H u b:=by
 match vs,h,l with
 |[v,u],.cons h1 (.cons h2 .nil),_=>exact ⟨v,u,_,_,rfl,rfl,h1,h2⟩
theorem aL6 {t:Tg} (h:isTup t=false):jX t=false:=by
 cases t with
 |tup ts=>cases h
 |_=>rfl
theorem aIs {ts:List Tg} (h:ts.length≠2):jX (.tup ts)=false:=by
 match ts,h with
 |[],_=>rfl
 |[_],_=>rfl
 |[_,_],h=>exact absurd rfl h
 |_::_::_::_,_=>rfl
theorem aCu (T:Txt w K mg) (dM:Ok P w K mg base 1 "is_one_of" ["thing","texts"] (vW K)) (aIa:Ok P w K mg base 2 "is_value" ["thing"] (yV K aD6)) (dD:Ok P w K mg base 2 "is_name" ["thing"] (yV K nameB)) :
  Ok P w K mg base 3 "is_other" ["thing"] (gP (TgR K jX)):=by
 refine Ok.ofV T.aHo aGu (fun vs H Q E h=>?_) (fun f cdv A outer s H vs Q E hr h=>?_)
 ·obtain ⟨v,b,rfl,_⟩:=h;rfl
 obtain ⟨v,b,rfl,⟨t,ht,rfl⟩,q⟩:=h
 refine ⟨_,(aF (cP (VW.pt (oU (fZ (fP (aY jG (by rfl) T.cF bZ (aB (vv 0) (aB (iC (v:=.ty "tuple") (by rfl) T.cU cJ rfl) aA))))) (lH (bF aAo (aY bD (by rfl) T.eY cZ (aB (vv 0) aA)) aG (bL _))))) (aL (aR iZ)) bK) (aF (cP (fP (aU (dM.mono (by decide)) hr (by rfl) (aB (bV cM (vv 0) aG (fun _ _=>rfl)) (aB (aD (aB aJ aA)) aA)))) (aL (aR (aU (aIa.mono (by decide)) hr (by rfl) (aB (bV cM (vv 0) aG (fun _ _=>rfl)) aA)))) bK) (aL (aR (lM (aU (dM.mono (by decide)) hr (by rfl) (aB (bV cM (vv 0) aG (fun _ _=>rfl)) (aB (aD (aB aJ aA)) aA))) (mU (aU (dD.mono (by decide)) hr (by rfl) (aB (bV cM (vv 0) aG (fun _ _=>rfl)) aA)))))))),?_⟩
 refine ⟨_,rfl,_,_,rfl,aAf ht,_,rfl,?_⟩
 cases e:isTup t with
 |false=>
  rw [aL6 e] at q
  exact cY (q H (Same.refl H))
 |true=>
  cases ht with
  |tup ha hl hts=>
   rename_i a vs ts
   refine cI ⟨_,rfl,_,_,rfl,.inr ha,rfl,_,rfl,?_⟩
   have ll:=hts.len
   by_cases l2:vs.length=2
   ·obtain ⟨v,u,ta,tb,rfl,rfl,h1,h2⟩:=aXf hts l2
    refine cI ?_
    refine ⟨_,rfl,a,_,0,_,rfl,rfl,ha,at0 _ _,(by show 1≤sizeLine;decide),fun p1 H1 _ s1 g1=>⟨_,p1,_,rfl,lU (h1.same s1),SqT.of g1,rfl,_,rfl,?_⟩⟩
    rw [vQ h1]
    rw [show jX (.tup [ta,tb])=if eO ta [.str "value"] then aPc tb else (eO ta [.str "column"] && aP tb) from rfl] at q
    cases e1:eO ta [.str "value"] with
    |true=>
     rw [e1,if_pos rfl] at q
     refine cY ⟨_,rfl,a,_,1,_,rfl,rfl,s1.bB ha,at1 _ _ _,u,rfl,lU (h2.same s1),fun H2 s2=>?_⟩
     rw [aVx h2]
     exact q H2 (s1.trans s2)
    |false=>
     rw [e1,if_neg (by decide)] at q
     refine cI ⟨_,rfl,a,_,0,_,rfl,rfl,s1.bB ha,at0 _ _,(by show 1≤sizeLine;decide),fun p2 H2 _ s2 g2=>⟨_,p2,_,rfl,lU (h1.same (s1.trans s2)),SqT.of g2,rfl,_,rfl,?_⟩⟩
     rw [vQ h1]
     cases e2:eO ta [.str "column"] with
     |true=>
      rw [e2,Bool.true_and] at q
      refine cY ⟨_,rfl,a,_,1,_,rfl,rfl,s2.bB (s1.bB ha),at1 _ _ _,u,rfl,lU (h2.same (s1.trans s2)),fun H3 s3=>?_⟩
      rw [qI h2]
      exact q H3 (s1.trans (s2.trans s3))
     |false=>
      rw [e2,Bool.false_and] at q
      exact cI (q H2 (s1.trans s2))
   ·rw [aIs (by omega)] at q
    rw [decide_eq_false (by intro z;injection z with z;omega)]
    exact cY (q H (Same.refl H))
  |_=>cases e
def gM:Tg→Bool
 |.tup [a,b,c]=>aP a && (eO b signs && jX c)
 |_=>false
theorem aWs {H:Hp} {vs:List V} {ts:List Tg} (h:cG K H vs ts) (l:vs.length=3):∃v u x a b c,vs=[v,u,x]∧ts=[a,b,c]∧bM K H v a∧bM K H u b∧bM K H x c:=by
 match vs,h,l with
 |[v,u,x],.cons h1 (.cons h2 (.cons h3 .nil)),_=>exact ⟨v,u,x,_,_,_,rfl,rfl,h1,h2,h3⟩
theorem aOb {t:Tg} (h:isTup t=false):gM t=false:=by
 cases t with
 |tup ts=>cases h
 |_=>rfl
theorem aM0 {ts:List Tg} (h:ts.length≠3):gM (.tup ts)=false:=by
 match ts,h with
 |[],_=>rfl
 |[_],_=>rfl
 |[_,_],_=>rfl
 |[_,_,_],h=>exact absurd rfl h
 |_::_::_::_::_,_=>rfl
theorem aGb (T:Txt w K mg) (dM:Ok P w K mg base 1 "is_one_of" ["thing","texts"] (vW K)) (dD:Ok P w K mg base 2 "is_name" ["thing"] (yV K nameB)) (aJh:Ok P w K mg base 3 "is_other" ["thing"] (gP (TgR K jX))) :
  Ok P w K mg base 4 "is_test" ["thing"] (gP (TgR K gM)):=by
 refine Ok.ofV T.aMc aHy (fun vs H Q E h=>?_) (fun f cdv A outer s H vs Q E hr h=>?_)
 ·obtain ⟨v,b,rfl,_⟩:=h;rfl
 obtain ⟨v,b,rfl,⟨t,ht,rfl⟩,q⟩:=h
 obtain ⟨ka,mk,hka⟩:=T.aEm
 have aEm:∃u,mg "SIGNS"=some u∧RelV (.ref ka) u:=⟨_,mk,rfl⟩
 refine ⟨_,(aF (cP (VW.pt (oU (fZ (fP (aY jG (by rfl) T.cF bZ (aB (vv 0) (aB (iC (v:=.ty "tuple") (by rfl) T.cU cJ rfl) aA))))) (lH (bF aAo (aY bD (by rfl) T.eY cZ (aB (vv 0) aA)) aG (bL _))))) (aL (aR iZ)) bK) (aL (aR (lM (aU (dD.mono (by decide)) hr (by rfl) (aB (bV cM (vv 0) aG (fun _ _=>rfl)) aA)) (lM (aU (dM.mono (by decide)) hr (by rfl) (aB (bV cM (vv 0) aG (fun _ _=>rfl)) (aB (dO (by rfl) aEm) aA))) (mU (aU (aJh.mono (by decide)) hr (by rfl) (aB (bV cM (vv 0) aG (fun _ _=>rfl)) aA)))))))),?_⟩
 refine ⟨_,rfl,_,_,rfl,aAf ht,_,rfl,?_⟩
 cases e:isTup t with
 |false=>
  rw [aOb e] at q
  exact cY (q H (Same.refl H))
 |true=>
  cases ht with
  |tup ha hl hts=>
   rename_i a vs ts
   refine cI ⟨_,rfl,_,_,rfl,.inr ha,rfl,_,rfl,?_⟩
   have ll:=hts.len
   by_cases l2:vs.length=3
   ·obtain ⟨v,u,x,ta,tb,tc,rfl,rfl,h1,h2,h3⟩:=aWs hts l2
    refine cI ?_
    rw [show gM (.tup [ta,tb,tc])=(aP ta && (eO tb signs && jX tc)) from rfl] at q
    refine ⟨_,rfl,a,_,0,_,rfl,rfl,ha,at0 _ _,v,rfl,lU h1,fun H1 s1=>⟨_,rfl,?_⟩⟩
    rw [qI h1]
    cases e1:aP ta with
    |false=>
     rw [e1,Bool.false_and] at q
     exact cI (q H1 s1)
    |true=>
     rw [e1,Bool.true_and] at q
     refine cY ⟨_,rfl,a,_,1,_,rfl,rfl,s1.bB ha,at1 _ _ _,u,ka,signs,rfl,lU (h2.same s1),hka _,rfl,_,rfl,?_⟩
     rw [vQ h2]
     cases e2:eO tb signs with
     |false=>
      rw [e2,Bool.false_and] at q
      exact cI (q H1 s1)
     |true=>
      rw [e2,Bool.true_and] at q
      exact cY ⟨_,rfl,a,_,2,_,rfl,rfl,s1.bB ha,at2 _ _ _ _,x,_,rfl,⟨tc,h3.same s1,rfl⟩,fun H2 s2=>q H2 (s1.trans s2)⟩
   ·rw [aM0 (by omega)] at q
    rw [decide_eq_false (by intro z;injection z with z;omega)]
    exact cY (q H (Same.refl H))
  |_=>cases e
def mX:Tg→Bool
 |.tup [a,b]=>aP a && eO b xN
 |_=>false
theorem aSo {t:Tg} (h:isTup t=false):mX t=false:=by
 cases t with
 |tup ts=>cases h
 |_=>rfl
theorem aP3 {ts:List Tg} (h:ts.length≠2):mX (.tup ts)=false:=by
 match ts,h with
 |[],_=>rfl
 |[_],_=>rfl
 |[_,_],h=>exact absurd rfl h
 |_::_::_::_,_=>rfl
theorem aIe (T:Txt w K mg) (dM:Ok P w K mg base 1 "is_one_of" ["thing","texts"] (vW K)) (dD:Ok P w K mg base 2 "is_name" ["thing"] (yV K nameB)):Ok P w K mg base 3 "is_key" ["thing"] (gP (TgR K mX)):=by
 refine Ok.ofV T.aPz aNa (fun vs H Q E h=>?_) (fun f cdv A outer s H vs Q E hr h=>?_)
 ·obtain ⟨v,b,rfl,_⟩:=h;rfl
 obtain ⟨v,b,rfl,⟨t,ht,rfl⟩,q⟩:=h
 obtain ⟨ka,mk,hka⟩:=T.aJj
 have aJj:∃u,mg "WAYS"=some u∧RelV (.ref ka) u:=⟨_,mk,rfl⟩
 refine ⟨_,(aF (cP (VW.pt (oU (fZ (fP (aY jG (by rfl) T.cF bZ (aB (vv 0) (aB (iC (v:=.ty "tuple") (by rfl) T.cU cJ rfl) aA))))) (lH (bF aAo (aY bD (by rfl) T.eY cZ (aB (vv 0) aA)) aG (bL _))))) (aL (aR iZ)) bK) (aL (aR (lM (aU (dD.mono (by decide)) hr (by rfl) (aB (bV cM (vv 0) aG (fun _ _=>rfl)) aA)) (mU (aU (dM.mono (by decide)) hr (by rfl) (aB (bV cM (vv 0) aG (fun _ _=>rfl)) (aB (dO (by rfl) aJj) aA)))))))),?_⟩
 refine ⟨_,rfl,_,_,rfl,aAf ht,_,rfl,?_⟩
 cases e:isTup t with
 |false=>
  rw [aSo e] at q
  exact cY (q H (Same.refl H))
 |true=>
  cases ht with
  |tup ha hl hts=>
   rename_i a vs ts
   refine cI ⟨_,rfl,_,_,rfl,.inr ha,rfl,_,rfl,?_⟩
   have ll:=hts.len
   by_cases l2:vs.length=2
   ·obtain ⟨v,u,ta,tb,rfl,rfl,h1,h2⟩:=aXf hts l2
    refine cI ?_
    rw [show mX (.tup [ta,tb])=(aP ta && eO tb xN) from rfl] at q
    refine ⟨_,rfl,a,_,0,_,rfl,rfl,ha,at0 _ _,v,rfl,lU h1,fun H1 s1=>⟨_,rfl,?_⟩⟩
    rw [qI h1]
    cases e1:aP ta with
    |false=>
     rw [e1,Bool.false_and] at q
     exact cI (q H1 s1)
    |true=>
     rw [e1,Bool.true_and] at q
     refine cY ⟨_,rfl,a,_,1,_,rfl,rfl,s1.bB ha,at1 _ _ _,u,ka,xN,rfl,lU (h2.same s1),hka _,rfl,?_⟩
     rw [vQ h2]
     exact q H1 s1
   ·rw [aP3 (by omega)] at q
    rw [decide_eq_false (by intro z;injection z with z;omega)]
    exact cY (q H (Same.refl H))
  |_=>cases e
def oW:Tg→Bool
 |.int i=>decide (0≤i) && decide (i≤60)
 |_=>false
theorem aNx {H:Hp} {v:V} {t:Tg} (h:bM K H v t):whole v=whole (flat t):=by cases h <;> rfl
theorem aEy (T:Txt w K mg) (rC:Ok P w K mg base 1 "is_whole" ["thing"] (zM K)):Ok P w K mg base 2 "is_many" ["thing"] (gP (TgR K oW)):=by
 refine Ok.ofV T.aMh aHw (fun vs H Q E h=>?_) (fun f cdv A outer s H vs Q E hr h=>?_)
 ·obtain ⟨v,b,rfl,_⟩:=h;rfl
 obtain ⟨v,b,rfl,⟨t,ht,rfl⟩,q⟩:=h
 refine ⟨_,(aL (aR (lM (aU (rC.mono (by decide)) hr (by rfl) (aB (vv 0) aA)) (mU (aNi aKu aKu aG (vv 0) (dO (by rfl) T.aFh)))))),?_⟩
 refine ⟨_,rfl,_,rfl,lU ht,_,rfl,?_⟩
 rw [aNx ht]
 cases ht with
 |int=>
  rename_i i
  refine cY ⟨_,rfl,_,_,rfl,rfl,_,rfl,?_⟩
  rw [show oW (.int i)=(decide (0≤i) && decide (i≤60)) from rfl] at q
  cases e1:decide ((0:Int)≤i) with
  |false=>
   rw [e1,Bool.false_and] at q
   exact cI (q H (Same.refl H))
  |true=>
   rw [e1,Bool.true_and] at q
   exact cY ⟨_,_,rfl,rfl,q H (Same.refl H)⟩
 |_=>exact cI (q H (Same.refl H))
def bN (f:Tg→Bool) (lo hi:Nat):Tg→Bool
 |.tup ts=>decide (lo≤ts.length) && (decide (ts.length≤hi) && ts.all f)
 |_=>false
theorem aRd {f:Tg→Bool} {lo hi:Nat} {t:Tg} (h:isTup t=false):bN f lo hi t=false:=by
 cases t with
 |tup ts=>cases h
 |_=>rfl
def lQ (P:Program) (w:World) (K:PySem.W.Frag) (mg:Str→Option Value) (base:Heap) (k:Nat):Sp:=fun vs H Q _=>∃(v:V) (lo hi:Nat) (g:Addr) (ps:List Str) (f:Tg→Bool) (t:Tg),vs=[v,.int (lo:Nat),.int (hi:Nat),.ref g]∧hi≤1000∧Held P w K mg base k g ps (gP (TgR K f))∧bM K H v t∧∀H',Same H H'→Q (.bl (bN f lo hi t)) H'
theorem dF {k:Nat} (T:Txt w K mg):Ok P w K mg base (k+1) "is_tuple_of" ["thing","least","most","is_part"] (lQ P w K mg base k):=by
 refine Ok.ofV T.aBl aAg (fun vs H Q E h=>?_) (fun f cdv A outer s H vs Q E hr h=>?_)
 ·obtain ⟨v,lo,hi,g,ps,f,t,rfl,_⟩:=h;rfl
 obtain ⟨v,lo,hi,g,ps,f,t,rfl,h1000,hg,ht,q⟩:=h
 refine ⟨_,(aF (cP (VW.pt (oU (fZ (fP (aY jG (by rfl) T.cF bZ (aB (vv 0) (aB (iC (v:=.ty "tuple") (by rfl) T.cU cJ rfl) aA))))) (lH (fZ (aPn aKu aKu (vv 1) (aY bD (by rfl) T.eY cZ (aB (vv 0) aA)) (vv 2)))))) (aL (aR iZ)) bK) (aL (aR (aY (aAn rfl) (by rfl) T.aP6 aIu (aB (dC (N:=["part","is_part"]) (by trivial) (fC (aK jO) rfl (by decide +kernel)) rfl (mO (vv 0)) (fun cl s' H' fp=>⟨(aV (i:=0) (show (["part","is_part"]:List Str).Nodup from by decide +kernel) rfl (Or.inl rfl)),fH,(aFb (P:=P) (w:=w) (K:=K) (mg:=mg) (base:=base) hr (vv 1) (aB (vv 0) aA))⟩)) aA))))),?_⟩
 refine ⟨_,rfl,_,_,rfl,aAf ht,_,rfl,?_⟩
 cases e:isTup t with
 |false=>
  rw [aRd e] at q
  exact cY (q H (Same.refl H))
 |true=>
  cases ht with
  |tup ha hl hts=>
   rename_i a vs ts
   have ll:=hts.len
   rw [show bN f lo hi (.tup ts)=(decide (lo≤ts.length) && (decide (ts.length≤hi) && ts.all f)) from rfl] at q
   refine cI ⟨_,rfl,_,rfl,_,_,rfl,.inr ha,_,_,rfl,rfl,_,rfl,?_⟩
   by_cases c1:lo≤ts.length
   ·rw [decide_eq_true c1,Bool.true_and] at q
    have e1:decide ((lo:Int)≤(vs.length:Int))=true:=decide_eq_true (by omega)
    rw [e1]
    refine cY ⟨_,rfl,_,_,rfl,rfl,_,rfl,?_⟩
    by_cases c2:ts.length≤hi
    ·rw [decide_eq_true c2,Bool.true_and] at q
     have e2:decide ((vs.length:Int)≤(hi:Int))=true:=decide_eq_true (by omega)
     rw [e2]
     refine cI ?_
     dsimp only [aGx,aMm,tCB,bQ]
     refine aKk vs (ts.map fun t=>.bl (f t)) (by rw [List.length_map,ll]) [none,some (.ref g)] ?_ (small (by omega)) (fun R r=>aI3 ha (fun R' r'=>⟨_,rfl,r'⟩) R r) (fun i x y ex ey H' R l sm r=>?_) rfl fun D H' sm hD=>?_
     ·exact iD 3 (by decide +kernel) rfl rfl (by trivial)
     ·obtain ⟨t,h1,h2⟩:=hts.at ex
      rw [List.getElem?_map,h1] at ey
      cases ey
      exact ⟨_,rfl,g,ps,_,rfl,hg,_,rfl,x,f t,rfl,⟨t,h2.same sm,rfl⟩,r⟩
     ·refine ⟨D,ts.map f,rfl,SqL.of (by rw [hD,List.map_map];rfl),?_⟩
      rw [List.all_map]
      exact q H' sm
    ·rw [decide_eq_false c2,Bool.false_and] at q
     have e2:decide ((vs.length:Int)≤(hi:Int))=false:=decide_eq_false (by omega)
     rw [e2]
     exact cY (q H (Same.refl H))
   ·rw [decide_eq_false c1,Bool.false_and] at q
    have e1:decide ((lo:Int)≤(vs.length:Int))=false:=decide_eq_false (by omega)
    rw [e1]
    exact cI ⟨_,rfl,cY (q H (Same.refl H))⟩
  |_=>cases e
theorem aVv {k:Nat} {x:Str} {ps:List Str} {sp sp':Sp} (G:Ok P w K mg base k x ps sp) (h:∀vs H Q E,sp' vs H Q E→sp vs H Q E):Ok P w K mg base k x ps sp':=
 let ⟨f,fd,h1,h2,h3,h4⟩:=G;⟨f,fd,h1,h2,h3,h4.imp h⟩
theorem aUw (G:Ok P w K mg base 2 "is_name" ["thing"] (yV K nameB)):Ok P w K mg base 2 "is_name" ["thing"] (gP (TgR K aP)):=aVv G fun vs H Q E ⟨v,b,e,⟨t,h,eb⟩,q⟩=>⟨v,e,lU h,fun H' s=>by rw [qI h,←eb];exact q H' s⟩
theorem aE3 (T:Txt w K mg) (dD:Ok P w K mg base 2 "is_name" ["thing"] (gP (TgR K aP))) (cD:Ok P w K mg base 3 "is_tuple_of" ["thing","least","most","is_part"] (lQ P w K mg base 2)):Ok P w K mg base 4 "is_pair" ["thing"] (gP (TgR K (bN aP 2 2))):=by
 refine Ok.ofV T.aMk aJn (fun vs H Q E h=>?_) (fun f cdv A outer s H vs Q E hr h=>?_)
 ·obtain ⟨v,b,rfl,_⟩:=h;rfl
 obtain ⟨v,b,rfl,⟨t,ht,rfl⟩,q⟩:=h
 obtain ⟨fa,mf,hf⟩:=dD.held
 have lE:∃u,mg "is_name"=some u∧RelV (.ref fa) u:=⟨_,mf,rfl⟩
 refine ⟨_,(aL (aR (aU (cD.mono (by decide)) hr (by rfl) (aB (vv 0) (aB aG (aB aG (aB (dO (by rfl) lE) aA))))))),?_⟩
 exact ⟨_,rfl,v,2,2,fa,_,aP,t,rfl,by decide,hf,ht,fun H1 s1=>q H1 s1⟩
theorem aBq (T:Txt w K mg) (aMa:Ok P w K mg base 4 "is_test" ["thing"] (gP (TgR K gM))) (cD:Ok P w K mg base 5 "is_tuple_of" ["thing","least","most","is_part"] (lQ P w K mg base 4)):Ok P w K mg base 6 "are_tests" ["thing"] (gP (TgR K (bN gM 1 3))):=by
 refine Ok.ofV T.aF0 aEf (fun vs H Q E h=>?_) (fun f cdv A outer s H vs Q E hr h=>?_)
 ·obtain ⟨v,b,rfl,_⟩:=h;rfl
 obtain ⟨v,b,rfl,⟨t,ht,rfl⟩,q⟩:=h
 obtain ⟨fa,mf,hf⟩:=aMa.held
 have aCh:∃u,mg "is_test"=some u∧RelV (.ref fa) u:=⟨_,mf,rfl⟩
 refine ⟨_,(aL (aR (aU (cD.mono (by decide)) hr (by rfl) (aB (vv 0) (aB aG (aB (dO (by rfl) T.aDw) (aB (dO (by rfl) aCh) aA))))))),?_⟩
 exact ⟨_,rfl,v,1,3,fa,_,gM,t,rfl,by decide,hf,ht,fun H1 s1=>q H1 s1⟩
theorem aBd (T:Txt w K mg) (dD:Ok P w K mg base 2 "is_name" ["thing"] (gP (TgR K aP))) (cD:Ok P w K mg base 3 "is_tuple_of" ["thing","least","most","is_part"] (lQ P w K mg base 2)):Ok P w K mg base 4 "are_names" ["thing"] (gP (TgR K (bN aP 1 8))):=by
 refine Ok.ofV T.aE5 aEe (fun vs H Q E h=>?_) (fun f cdv A outer s H vs Q E hr h=>?_)
 ·obtain ⟨v,b,rfl,_⟩:=h;rfl
 obtain ⟨v,b,rfl,⟨t,ht,rfl⟩,q⟩:=h
 obtain ⟨fa,mf,hf⟩:=dD.held
 have lE:∃u,mg "is_name"=some u∧RelV (.ref fa) u:=⟨_,mf,rfl⟩
 refine ⟨_,(aL (aR (aU (cD.mono (by decide)) hr (by rfl) (aB (vv 0) (aB aG (aB (dO (by rfl) T.vG) (aB (dO (by rfl) lE) aA))))))),?_⟩
 exact ⟨_,rfl,v,1,8,fa,_,aP,t,rfl,by decide,hf,ht,fun H1 s1=>q H1 s1⟩
theorem qR (T:Txt w K mg) (dD:Ok P w K mg base 2 "is_name" ["thing"] (gP (TgR K aP))) (cD:Ok P w K mg base 3 "is_tuple_of" ["thing","least","most","is_part"] (lQ P w K mg base 2)):Ok P w K mg base 4 "are_group_names" ["thing"] (gP (TgR K (bN aP 0 8))):=by
 refine Ok.ofV T.tZ rM (fun vs H Q E h=>?_) (fun f cdv A outer s H vs Q E hr h=>?_)
 ·obtain ⟨v,b,rfl,_⟩:=h;rfl
 obtain ⟨v,b,rfl,⟨t,ht,rfl⟩,q⟩:=h
 obtain ⟨fa,mf,hf⟩:=dD.held
 have lE:∃u,mg "is_name"=some u∧RelV (.ref fa) u:=⟨_,mf,rfl⟩
 refine ⟨_,(aL (aR (aU (cD.mono (by decide)) hr (by rfl) (aB (vv 0) (aB aG (aB (dO (by rfl) T.vG) (aB (dO (by rfl) lE) aA))))))),?_⟩
 exact ⟨_,rfl,v,0,8,fa,_,aP,t,rfl,by decide,hf,ht,fun H1 s1=>q H1 s1⟩
theorem aBm (T:Txt w K mg) (aM2:Ok P w K mg base 4 "is_pair" ["thing"] (gP (TgR K (bN aP 2 2)))) (cD:Ok P w K mg base 5 "is_tuple_of" ["thing","least","most","is_part"] (lQ P w K mg base 4)):Ok P w K mg base 6 "are_pairs" ["thing"] (gP (TgR K (bN (bN aP 2 2) 1 3))):=by
 refine Ok.ofV T.aF1 aDe (fun vs H Q E h=>?_) (fun f cdv A outer s H vs Q E hr h=>?_)
 ·obtain ⟨v,b,rfl,_⟩:=h;rfl
 obtain ⟨v,b,rfl,⟨t,ht,rfl⟩,q⟩:=h
 obtain ⟨fa,mf,hf⟩:=aM2.held
 have aCg:∃u,mg "is_pair"=some u∧RelV (.ref fa) u:=⟨_,mf,rfl⟩
 refine ⟨_,(aL (aR (aU (cD.mono (by decide)) hr (by rfl) (aB (vv 0) (aB aG (aB (dO (by rfl) T.aDh) (aB (dO (by rfl) aCg) aA))))))),?_⟩
 exact ⟨_,rfl,v,1,3,fa,_,(bN aP 2 2),t,rfl,by decide,hf,ht,fun H1 s1=>q H1 s1⟩
theorem aDy (T:Txt w K mg) (aO3:Ok P w K mg base 3 "is_key" ["thing"] (gP (TgR K mX))) (cD:Ok P w K mg base 4 "is_tuple_of" ["thing","least","most","is_part"] (lQ P w K mg base 3)):Ok P w K mg base 5 "are_keys" ["thing"] (gP (TgR K (bN mX 0 3))):=by
 refine Ok.ofV T.aI5 aHj (fun vs H Q E h=>?_) (fun f cdv A outer s H vs Q E hr h=>?_)
 ·obtain ⟨v,b,rfl,_⟩:=h;rfl
 obtain ⟨v,b,rfl,⟨t,ht,rfl⟩,q⟩:=h
 obtain ⟨fa,mf,hf⟩:=aO3.held
 have aGc:∃u,mg "is_key"=some u∧RelV (.ref fa) u:=⟨_,mf,rfl⟩
 refine ⟨_,(aL (aR (aU (cD.mono (by decide)) hr (by rfl) (aB (vv 0) (aB aG (aB (dO (by rfl) T.aFe) (aB (dO (by rfl) aGc) aA))))))),?_⟩
 exact ⟨_,rfl,v,0,3,fa,_,mX,t,rfl,by decide,hf,ht,fun H1 s1=>q H1 s1⟩
def aB7:Tg→Bool
 |.non=>true
 |_=>false
theorem aVf {H:Hp} {v:V} {t:Tg} (h:bM K H v t):decide (v=.non)=aB7 t:=by cases h <;> rfl
def aBw:Tg→Bool
 |.str x=>decide (V.str x=V.str "count")
 |_=>false
def nQ:Tg→Bool
 |.tup [a,b,c]=>eO a gQ && (aP c && (if aBw a then aB7 b else aP b))
 |_=>false
theorem aRy {t:Tg} (h:isTup t=false):nQ t=false:=by
 cases t with
 |tup ts=>cases h
 |_=>rfl
theorem aPe {ts:List Tg} (h:ts.length≠3):nQ (.tup ts)=false:=by
 match ts,h with
 |[],_=>rfl
 |[_],_=>rfl
 |[_,_],_=>rfl
 |[_,_,_],h=>exact absurd rfl h
 |_::_::_::_::_,_=>rfl
theorem aJ9 {H:Hp} {v:V} {t:Tg} {xs:List V} (h:bM K H v t) (o:eO t xs=true):∃x,v=.str x∧t=.str x:=by
 cases h with
 |str _=>exact ⟨_,rfl,rfl⟩
 |_=>cases o
theorem aHp (T:Txt w K mg) (dM:Ok P w K mg base 1 "is_one_of" ["thing","texts"] (vW K)) (dD:Ok P w K mg base 2 "is_name" ["thing"] (yV K nameB)):Ok P w K mg base 3 "is_sum" ["thing"] (gP (TgR K nQ)):=by
 refine Ok.ofV T.aP1 aM3 (fun vs H Q E h=>?_) (fun f cdv A outer s H vs Q E hr h=>?_)
 ·obtain ⟨v,b,rfl,_⟩:=h;rfl
 obtain ⟨v,b,rfl,⟨t,ht,rfl⟩,q⟩:=h
 obtain ⟨ka,mk,hka⟩:=T.qD
 have qD:∃u,mg "SUM_WORDS"=some u∧RelV (.ref ka) u:=⟨_,mk,rfl⟩
 refine ⟨_,(aF (cP (VW.pt (oU (fZ (fP (aY jG (by rfl) T.cF bZ (aB (vv 0) (aB (iC (v:=.ty "tuple") (by rfl) T.cU cJ rfl) aA))))) (lH (bF aAo (aY bD (by rfl) T.eY cZ (aB (vv 0) aA)) aG (bL _))))) (aL (aR iZ)) bK) (aF (cP (VW.pt (oU (fZ (fP (aU (dM.mono (by decide)) hr (by rfl) (aB (bV cM (vv 0) aG (fun _ _=>rfl)) (aB (dO (by rfl) qD) aA))))) (lH (fZ (fP (aU (dD.mono (by decide)) hr (by rfl) (aB (bV cM (vv 0) aG (fun _ _=>rfl)) aA))))))) (aL (aR iZ)) bK) (aL (aR (aAl (bF dG (bV cM (vv 0) aG (fun _ _=>rfl)) aJ (bL _)) (gJ aUj (bV cM (vv 0) aG (fun _ _=>rfl)) gA (bL _)) (aU (dD.mono (by decide)) hr (by rfl) (aB (bV cM (vv 0) aG (fun _ _=>rfl)) aA))))))),?_⟩
 refine ⟨_,rfl,_,_,rfl,aAf ht,_,rfl,?_⟩
 cases e:isTup t with
 |false=>
  rw [aRy e] at q
  exact cY (q H (Same.refl H))
 |true=>
  cases ht with
  |tup ha hl hts=>
   rename_i a vs ts
   refine cI ⟨_,rfl,_,_,rfl,.inr ha,rfl,_,rfl,?_⟩
   have ll:=hts.len
   by_cases l2:vs.length=3
   ·obtain ⟨v,u,x,ta,tb,tc,rfl,rfl,h1,h2,h3⟩:=aWs hts l2
    refine cI ?_
    rw [show nQ (.tup [ta,tb,tc])=(eO ta gQ && (aP tc && (if aBw ta then aB7 tb else aP tb))) from rfl] at q
    refine ⟨_,rfl,a,_,0,_,rfl,rfl,ha,at0 _ _,v,ka,gQ,rfl,lU h1,hka _,rfl,_,rfl,?_⟩
    rw [vQ h1]
    cases e1:eO ta gQ with
    |false=>
     rw [e1,Bool.false_and] at q
     exact cY (q H (Same.refl H))
    |true=>
     rw [e1,Bool.true_and] at q
     obtain ⟨wd,rfl,rfl⟩:=aJ9 h1 e1
     refine cI ⟨_,rfl,a,_,2,_,rfl,rfl,ha,at2 _ _ _ _,x,rfl,lU h3,fun H1 s1=>⟨_,rfl,?_⟩⟩
     rw [qI h3]
     cases e2:aP tc with
     |false=>
      rw [e2,Bool.false_and] at q
      exact cY (q H1 s1)
     |true=>
      rw [e2,Bool.true_and] at q
      refine cI ⟨_,rfl,a,_,0,_,rfl,rfl,s1.bB ha,at0 _ _,rfl,_,rfl,?_⟩
      cases e3:decide (V.str wd=V.str "count") with
      |true=>
       rw [show aBw (.str wd)=true from e3,if_pos rfl] at q
       refine cY ⟨_,rfl,a,_,1,_,rfl,rfl,s1.bB ha,at1 _ _ _,rfl,?_⟩
       rw [aVf h2]
       exact q H1 s1
      |false=>
       rw [show aBw (.str wd)=false from e3,if_neg (by decide)] at q
       refine cI ⟨_,rfl,a,_,1,_,rfl,rfl,s1.bB ha,at1 _ _ _,u,rfl,lU (h2.same s1),fun H2 s2=>?_⟩
       rw [qI h2]
       exact q H2 (s1.trans s2)
   ·rw [aPe (by omega)] at q
    rw [decide_eq_false (by intro z;injection z with z;omega)]
    exact cY (q H (Same.refl H))
  |_=>cases e
theorem aEq (T:Txt w K mg) (aN2:Ok P w K mg base 3 "is_sum" ["thing"] (gP (TgR K nQ))) (cD:Ok P w K mg base 4 "is_tuple_of" ["thing","least","most","is_part"] (lQ P w K mg base 3)):Ok P w K mg base 5 "are_sums" ["thing"] (gP (TgR K (bN nQ 0 4))):=by
 refine Ok.ofV T.aI6 aGg (fun vs H Q E h=>?_) (fun f cdv A outer s H vs Q E hr h=>?_)
 ·obtain ⟨v,b,rfl,_⟩:=h;rfl
 obtain ⟨v,b,rfl,⟨t,ht,rfl⟩,q⟩:=h
 obtain ⟨fa,mf,hf⟩:=aN2.held
 have aFo:∃u,mg "is_sum"=some u∧RelV (.ref fa) u:=⟨_,mf,rfl⟩
 refine ⟨_,(aL (aR (aU (cD.mono (by decide)) hr (by rfl) (aB (vv 0) (aB aG (aB (dO (by rfl) T.aFv) (aB (dO (by rfl) aFo) aA))))))),?_⟩
 exact ⟨_,rfl,v,0,4,fa,_,nQ,t,rfl,by decide,hf,ht,fun H1 s1=>q H1 s1⟩
def eU (_:Tg):Bool:=true
def aDp:List (Str × List (Tg→Bool)):=[("table",[aP]),("where",[eU,bN gM 1 3]),("keep",[eU,bN aP 1 8]),("named",[eU,bN aP 1 8]),("join",[eU,eU,bN (bN aP 2 2) 1 3]),("group",[eU,bN aP 0 8,bN nQ 0 4]),("first",[eU,bN mX 0 3,oW])]
def cW (k:Str):Option (List (Tg→Bool)):=(aDp.find? fun z=>decide (z.1=k)).map (·.2)
def eX:Tg→Bool
 |.tup (.str k::ts)=>match cW k with
  |some fs=>decide (ts.length=fs.length) && (List.zipWith (fun (f:Tg→Bool) t=>f t) fs ts).all id
  |none=>false
 |_=>false
theorem tV {n:Str} {ss:List Str}:inV (.str n) (ss.map V.str)=decide (n∈ss):=by
 unfold inV
 rw [List.any_map]
 rw [Bool.eq_iff_iff,List.any_eq_true,decide_eq_true_iff]
 constructor
 ·rintro ⟨x,hx,e⟩
  have e:decide (x=n)=true:=e
  rw [←of_decide_eq_true e];exact hx
 ·intro h
  exact ⟨n,h,decide_eq_true rfl⟩
def aPx (P:Program) (w:World) (K:PySem.W.Frag) (mg:Str→Option Value) (base:Heap) (u:V) (f:Tg→Bool):Prop:=∃fa ps sp,u=.ref fa∧Held P w K mg base 6 fa ps sp∧∀H v t,bM K H v t→∀Q:VK,(∀H2,Same H H2→Q (.bl (f t)) H2)→sp [v] H Q E0
theorem tK {k:Nat} {x:Str} {ps:List Str} {fa:Addr} {f:Tg→Bool} (G:Ok P w K mg base k x ps (gP (TgR K f))) (hk:k≤6) (m:mg x=some (.ref fa)):aPx P w K mg base (.ref fa) f:=
 ⟨fa,_,_,rfl,(G.aOv m).mono hk,fun H v t ht Q q=>⟨v,f t,rfl,⟨t,ht,rfl⟩,q⟩⟩
theorem aAu {fa:Addr} (G:Ok P w K mg base 1 "may_be_question" ["thing"] (fun vs H Q _=>∃v,vs=[v]∧Q (.bl true) H)) (m:mg "may_be_question"=some (.ref fa)):aPx P w K mg base (.ref fa) eU:=
 ⟨fa,_,_,rfl,(G.aOv m).mono (by decide),fun H v t ht Q q=>⟨v,rfl,q H (Same.refl H)⟩⟩
structure aIr (P:Program) (w:World) (K:PySem.W.Frag) (mg:Str→Option Value) (base:Heap):Prop where
 name:Ok P w K mg base 2 "is_name" ["thing"] (gP (TgR K aP))
 any:Ok P w K mg base 1 "may_be_question" ["thing"] (fun vs H Q _=>∃v,vs=[v]∧Q (.bl true) H)
 tests:Ok P w K mg base 6 "are_tests" ["thing"] (gP (TgR K (bN gM 1 3)))
 names:Ok P w K mg base 4 "are_names" ["thing"] (gP (TgR K (bN aP 1 8)))
 gnames:Ok P w K mg base 4 "are_group_names" ["thing"] (gP (TgR K (bN aP 0 8)))
 pairs:Ok P w K mg base 6 "are_pairs" ["thing"] (gP (TgR K (bN (bN aP 2 2) 1 3)))
 sums:Ok P w K mg base 5 "are_sums" ["thing"] (gP (TgR K (bN nQ 0 4)))
 keys:Ok P w K mg base 5 "are_keys" ["thing"] (gP (TgR K (bN mX 0 3)))
 many:Ok P w K mg base 2 "is_many" ["thing"] (gP (TgR K oW))
abbrev forms:List Str:=["table","where","keep","named","join","group","first"]
theorem oN {k:Str} {fs:List (Tg→Bool)} (h:cW k=some fs):k∈forms:=by
 unfold cW at h
 cases e:aDp.find? fun z=>decide (z.1=k) with
 |none=>rw [e] at h;cases h
 |some z=>
  have h1:=List.find?_some e
  have h2:=List.mem_of_find?_eq_some e
  have h3:z.1=k:=of_decide_eq_true h1
  subst h3
  have:z.1∈aDp.map (·.1):=List.mem_map_of_mem h2
  exact this
theorem aQ9 {k:Str} (h:cW k=none):k∉forms:=by
 intro m
 unfold cW at h
 rw [Option.map_eq_none_iff,List.find?_eq_none] at h
 have m:k∈aDp.map (·.1):=m
 obtain ⟨z,hz,e⟩:=List.mem_map.mp m
 exact h z hz (decide_eq_true e)
theorem aNm (T:Txt w K mg) (F:aIr P w K mg base):∃d kvs,mg "FORMS"=some (.ref d)∧aSa w K d kvs∧kvs.length≤1000∧(kvs.map fun q=>V.str q.1)=forms.map V.str ∧
  ∀k fs,cW k=some fs→∃t us,(kvs.find? fun z=>decide (z.1=k)).map (·.2)=some t∧(∀H,SqT K H t us)∧us.length≤8∧cL (aPx P w K mg base) us fs:=by
 obtain ⟨d,t0,t1,t2,t3,t4,t5,t6,md,hd,⟨f00,h0,m00⟩,⟨f10,f11,h1,m10,m11⟩,⟨f20,f21,h2,m20,m21⟩,⟨f30,f31,h3,m30,m31⟩,⟨f40,f41,f42,h4,m40,m41,m42⟩,⟨f50,f51,f52,h5,m50,m51,m52⟩,⟨f60,f61,f62,h6,m60,m61,m62⟩⟩:=T.yN
 refine ⟨d,_,md,hd,(by show 7≤1000;decide),rfl,fun k fs hk=>?_⟩
 have hm:=oN hk
 simp only [forms,List.mem_cons,List.not_mem_nil,or_false] at hm
 rcases hm with rfl|rfl|rfl|rfl|rfl|rfl|rfl
 ·cases (show cW "table"=some [aP] from rfl) ▸ hk
  exact ⟨t0,_,rfl,h0,(by show 1≤8;decide),.cons (tK F.name (by decide) m00) .nil⟩
 ·cases (show cW "where"=some [eU,bN gM 1 3] from rfl) ▸ hk
  exact ⟨t1,_,rfl,h1,(by show 2≤8;decide),.cons (aAu F.any m10) (.cons (tK F.tests (by decide) m11) .nil)⟩
 ·cases (show cW "keep"=some [eU,bN aP 1 8] from rfl) ▸ hk
  exact ⟨t2,_,rfl,h2,(by show 2≤8;decide),.cons (aAu F.any m20) (.cons (tK F.names (by decide) m21) .nil)⟩
 ·cases (show cW "named"=some [eU,bN aP 1 8] from rfl) ▸ hk
  exact ⟨t3,_,rfl,h3,(by show 2≤8;decide),.cons (aAu F.any m30) (.cons (tK F.names (by decide) m31) .nil)⟩
 ·cases (show cW "join"=some [eU,eU,bN (bN aP 2 2) 1 3] from rfl) ▸ hk
  exact ⟨t4,_,rfl,h4,(by show 3≤8;decide),.cons (aAu F.any m40) (.cons (aAu F.any m41) (.cons (tK F.pairs (by decide) m42) .nil))⟩
 ·cases (show cW "group"=some [eU,bN aP 0 8,bN nQ 0 4] from rfl) ▸ hk
  exact ⟨t5,_,rfl,h5,(by show 3≤8;decide),.cons (aAu F.any m50) (.cons (tK F.gnames (by decide) m51) (.cons (tK F.sums (by decide) m52) .nil))⟩
 ·cases (show cW "first"=some [eU,bN mX 0 3,oW] from rfl) ▸ hk
  exact ⟨t6,_,rfl,h6,(by show 3≤8;decide),.cons (aAu F.any m60) (.cons (tK F.keys (by decide) m61) (.cons (tK F.many (by decide) m62) .nil))⟩
theorem aFi {α β:Type} {R:α→β→Prop}:∀{as:List α} {bs:List β},cL R as bs→∀{i:Nat} {a:α} {b:β},as[i]?=some a→bs[i]?=some b→R a b
 |_,_,.cons r t,0,_,_,h1,h2=>by cases h1;cases h2;exact r
 |_,_,.cons r t,i+1,a,b,h1,h2=>aFi t (i:=i) (by simpa using h1) (by simpa using h2)
theorem aYw (x:V) (xs:List V):pD (x::xs) (some 1) none=xs:=by
 unfold pD
 have e:HT.sIx (x::xs).length 0 (some 1)=1:=by
  rw [show (1:Int)=((1:Nat):Int) from rfl,HT.yH,List.length_cons]
  omega
 rw [e,HT.zK,List.length_cons]
 simp
theorem nw1 (x:V) (xs:List V):¬ (HT.sIx (x::xs).length 0 (some 1)=0∧HT.sIx (x::xs).length (x::xs).length none=(x::xs).length):=by
 rw [show (1:Int)=((1:Nat):Int) from rfl,HT.yH,List.length_cons]
 omega
section
variable {X:Cx} {scope:Scope} {N:List Str} {wi:TI} {te:TE} {σ:L2.St} {H:Hp} {Q:VK}
theorem aLu {tl:TA} (xs ys zs:List V) (σ0:L2.St) (cap:Cap X scope N σ σ0) (hsz:xs.length≤sizeLine) (hl:xs.length=ys.length) (hz:zs.length=xs.length)
  (hw:∀R:List V→Hp→Prop,(∀t u H1,Same H H1→SqT K H1 t xs→SqT K H1 u ys→R [.ref t,.ref u] H1)→tl σ H R)
  (he:∀(i:Nat) (x y z:V),xs[i]?=some x→ys[i]?=some y→zs[i]?=some z→∀H' R l1 l2,Same H H'→(∀H2,Same H' H2→R z H2)→te ((((σ0.set 0 l1).set 1 l2).set 0 (some x)).set 1 (some y)) H' R) (h0:σ0[0]?=some none) (h1:σ0[1]?=some none)
  (q:∀D H',Same H H'→H' D=some (.lst zs)→Q (.ref D) H') :
  jU X scope N (aPg K tl) (aJt K 2 (qT (cH 0) (qT (cH 1) aM8))) pM te σ H Q:=by
 refine ⟨σ0,cap,hw _ fun t u H1 s1 ht hu=>⟨t,u,xs,ys,rfl,ht,hu,fun D hD=>?_⟩⟩
 refine ⟨fun i m σ' H' us=>i≤xs.length∧m=xs.length - i∧(∃l1 l2,σ'=(σ0.set 0 l1).set 1 l2)∧Same H1 H'∧H' D=some (.lst us)∧us=zs.take i,⟨xs.length,Nat.zero_le _,rfl,⟨none,none,?_⟩,cC hD _,aO,rfl⟩,?_⟩
 ·rw [←lF h0];exact lF h1
 rintro i m σ' H' us ⟨hi,rfl,⟨l1,l2,rfl⟩,sm,hL,rfl⟩
 refine ⟨hL,?_⟩
 by_cases hlt:i<xs.length
 ·right
  refine ⟨⟨sm.bB ht,sm.bB hu,hlt,by omega⟩,fun v H2 hy=>?_⟩
  obtain ⟨T,a,b,hT,rfl,rfl,ha,hb⟩:=hy
  have s2:Same H' (upd H' T (.tup [a,b])):=cC hT _
  refine ⟨T,[a,b],rfl,.inl (.inl aO),rfl,a,[b],rfl,b,[],rfl,rfl,?_⟩
  unfold pM
  dsimp only
  rw [if_pos rfl]
  have hzi:i<zs.length:=by omega
  refine he i a b zs[i] ha hb (List.getElem?_eq_getElem hzi) _ _ l1 l2 (fun b o e=>s2 _ _ (sm _ _ (s1 _ _ e))) fun H3 s3=>⟨s3 _ _ (s2 _ _ hL),?_,xs.length - (i+1),by omega,hlt,rfl,⟨some a,some b,?_⟩,?_,aO,?_⟩
  ·rw [List.length_take];omega
  ·rw [List.set_comm _ _ (show (1:Nat)≠0 by decide),List.set_set,List.set_set]
  ·intro c o e
   rw [bA (bH e hD)]
   exact s3 _ _ (s2 _ _ (sm _ _ e))
  ·rw [List.take_add_one,List.getElem?_eq_getElem hzi]
   rfl
 ·left
  have e:i=xs.length:=by omega
  subst e
  refine ⟨⟨sm.bB ht,Nat.le_refl _⟩,?_⟩
  rw [List.take_of_length_le (by omega)] at hL
  exact q D _ (s1.trans sm) hL
end
theorem aPr {t:Tg} (h:isTup t=false):eX t=false:=by
 cases t with
 |tup ts=>cases h
 |_=>rfl
theorem aMj {t:Tg} {ts:List Tg} (h:eO t (forms.map V.str)=false):eX (.tup (t::ts))=false:=by
 cases t with
 |str k=>
  have h:inV (.str k) (forms.map V.str)=false:=h
  rw [tV] at h
  show (match cW k with|some fs=>decide (ts.length=fs.length) && (List.zipWith (fun (f:Tg→Bool) t=>f t) fs ts).all id|none=>false)=false
  cases e:cW k with
  |none=>rfl
  |some fs=>exact absurd (oN e) (of_decide_eq_false h)
 |_=>rfl
theorem aH0:(forms.map V.str).all kJ=true:=rfl
theorem aP4 {H:Hp} {vs:List V} {ts:List Tg} (h:cG K H vs ts) (n:vs.length≠0):∃v us t rs,vs=v::us∧ts=t::rs∧bM K H v t∧cG K H us rs:=by
 cases h with
 |nil=>exact absurd rfl n
 |cons a b=>exact ⟨_,_,_,_,rfl,rfl,a,b⟩
theorem aCw (T:Txt w K mg) (F:aIr P w K mg base) (dM:Ok P w K mg base 1 "is_one_of" ["thing","texts"] (vW K)):Ok P w K mg base 7 "has_form" ["thing"] (gP (TgR K eX)):=by
 refine Ok.ofV T.aHn xM (fun vs H Q E h=>?_) (fun f cdv A outer s H vs Q E hr h=>?_)
 ·obtain ⟨v,b,rfl,_⟩:=h;rfl
 obtain ⟨v,b,rfl,⟨t,ht,rfl⟩,q⟩:=h
 obtain ⟨d,kvs,md,hd,hl,hkeys,hat⟩:=aNm T F
 have yN:∃u,mg "FORMS"=some u∧RelV (.ref d) u:=⟨_,md,rfl⟩
 refine ⟨_,(aF (cP (VW.pt (oU (fZ (fP (aY jG (by rfl) T.cF bZ (aB (vv 0) (aB (iC (v:=.ty "tuple") (by rfl) T.cU cJ rfl) aA))))) (oU (bF dG (aY bD (by rfl) T.eY cZ (aB (vv 0) aA)) aG (bL _)) (lH (fZ (fP (aU (dM.mono (by decide)) hr (by rfl) (aB (bV cM (vv 0) aG (fun _ _=>rfl)) (aB (cB (aM9 rfl) (by rfl) T.cU cJ (aB (dO (by rfl) yN) aA)) aA))))))))) (aL (aR iZ)) bK) (aF (aQ (i:=1) xM.nd rfl (by trivial) (bV aRj (dO (by rfl) yN) (bV cM (vv 0) aG (fun _ _=>rfl)) (fun _ _=>rfl))) (aF (cP (bF aAo (aY bD (by rfl) T.eY cZ (aB (vv 0) aA)) (bG cX (aY bD (by rfl) T.eY cZ (aB (vv 1) aA)) aG) (bL _)) (aL (aR iZ)) bK) (aL (aR (aY (aAn rfl) (by rfl) T.aP6 aIu (aB (dC (N:=["is_part","part"]) (by trivial) (mV (by decide +kernel)) rfl (aQm (by rfl) T.aWk (aB (vv 1) (aB (gB aDz (vv 0) (gG aG) lD) aA))) (fun cl s' H' fp=>⟨(mF (K:=K) (n:=2) rfl (bJ (aV (i:=0) (show (["is_part","part"]:List Str).Nodup from by decide +kernel) rfl (Or.inl rfl)) (bJ (aV (i:=1) (show (["is_part","part"]:List Str).Nodup from by decide +kernel) rfl (Or.inl rfl)) dX))),fH,(aFb (P:=P) (w:=w) (K:=K) (mg:=mg) (base:=base) hr (vv 0) (aB (vv 1) aA))⟩)) aA))))))),?_⟩
 refine ⟨_,rfl,_,_,rfl,aAf ht,_,rfl,?_⟩
 cases e:isTup t with
 |false=>
  rw [aPr e] at q
  exact cY (q H (Same.refl H))
 |true=>
  cases ht with
  |tup ha hlen hts=>
   rename_i a vs ts
   refine cI ⟨_,rfl,_,_,rfl,.inr ha,rfl,_,rfl,?_⟩
   have ll:=hts.len
   by_cases l0:vs.length=0
   ·have:vs=[]:=List.length_eq_zero_iff.mp l0
    subst this
    cases hts
    exact cY (q H (Same.refl H))
   ·obtain ⟨v,us,tk,rs,rfl,rfl,h1,h2⟩:=aP4 hts l0
    rw [decide_eq_false (by intro z;injection z with z;omega)]
    refine cI ⟨_,rfl,a,_,0,_,rfl,rfl,ha,at0 _ _,d,kvs,rfl,hd,hl,fun p1 H1 s1 g1=>?_⟩
    rw [hkeys] at g1
    refine ⟨v,p1,_,rfl,lU (h1.same s1),SqT.of g1,aH0,_,rfl,?_⟩
    rw [vQ h1]
    cases e1:eO tk (forms.map V.str) with
    |false=>
     rw [aMj e1] at q
     exact cY (q H1 s1)
    |true=>
     obtain ⟨k,rfl,rfl⟩:=aJ9 h1 e1
     have e1':inV (.str k) (forms.map V.str)=true:=e1
     rw [tV] at e1'
     cases ek:cW k with
     |none=>exact absurd (of_decide_eq_true e1') (aQ9 ek)
     |some fs=>
      obtain ⟨t,ws,hf,htt,hw8,hp⟩:=hat k fs ek
      have lw:=hp.len
      have l2:=h2.len
      rw [show eX (.tup (.str k::rs))=(match cW k with|some fs=>decide (rs.length=fs.length) && (List.zipWith (fun (f:Tg→Bool) t=>f t) fs rs).all id|none=>false) from rfl,ek] at q
      dsimp only at q
      refine cI ⟨_,rfl,a,_,0,_,rfl,rfl,s1.bB ha,at0 _ _,d,kvs,k,t,rfl,rfl,hd,hf,?_⟩
      refine ⟨_,rfl,_,_,rfl,.inr (s1.bB ha),_,rfl,_,_,rfl,.inr (htt _),_,_,rfl,rfl,rfl,_,rfl,?_⟩
      by_cases lr:rs.length=fs.length
      ·have e2:(!decide (V.int (((V.str k::us).length:Nat):Int)=V.int ((ws.length:Nat)+1:Int)))=false:=by rw [List.length_cons,lw,l2,lr];simp
       rw [e2]
       rw [decide_eq_true lr,Bool.true_and] at q
       refine cI ?_
       dsimp only [aGx,aMm,tCB,bQ]
       refine aLu ws us ((List.zipWith (fun (f:Tg→Bool) t=>f t) fs rs).map V.bl) [none,none] mW (small (by omega)) (by omega) (by rw [List.length_map,List.length_zipWith];omega) (fun R r=>⟨_,rfl,_,rfl,_,rfl,a,_,rfl,s1.bB ha,nw1 _ _,fun p2 H2 s2 g2=>?_⟩) (fun i fv x z ef ex ez H' R l1 l2 sm r=>?_) rfl rfl fun D H' sm hD=>?_
       ·rw [aYw] at g2
        exact r t p2 H2 s2 (htt _) (SqT.of g2)
       ·obtain ⟨tx,e3,h3⟩:=h2.at ex
        have hi:i<fs.length:=by have:=(List.getElem?_eq_some_iff.mp e3).1;omega
        obtain ⟨fa,ps,sp,rfl,hh,hc⟩:=aFi hp ef (List.getElem?_eq_getElem hi)
        rw [List.getElem?_map,List.getElem?_zipWith,e3,List.getElem?_eq_getElem hi] at ez
        cases ez
        exact ⟨_,rfl,fa,ps,sp,rfl,hh,_,rfl,hc H' x tx (h3.same (s1.trans sm)) R fun H2 s2=>r H2 s2⟩
       ·refine ⟨D,List.zipWith (fun (f:Tg→Bool) t=>f t) fs rs,rfl,SqL.of hD,?_⟩
        exact q H' (s1.trans sm)
      ·have e2:(!decide (V.int (((V.str k::us).length:Nat):Int)=V.int ((ws.length:Nat)+1:Int)))=true:=by
        rw [decide_eq_false (by intro z;injection z with z;rw [List.length_cons] at z;omega)];rfl
       rw [e2]
       rw [decide_eq_false lr,Bool.false_and] at q
       exact cY (q H1 s1)
  |_=>cases e
def Rf (mg:Str→Option Value) (c:Cls) (H:Hp) (E:XK):Prop:=∀C e H',mg c.nm=some (.ref C)→Same H H'→E (.ref C) (some e) H'
theorem aFr {st:Stmt} {y x:Str} {C S:Addr} {c:Cls} {H H1:Hp} {E:XK} {D:Ends} {σ:L2.St} (hx:ExT K mg st x y C S) (hc:c.nm=x) (s:Same H H1) (h:Rf mg c H E):aHz C E (bQ (tC V.non) jB) D σ H1:=
 ⟨rfl,fun a dx n1 n2 ne=>h _ a _ (by rw [hc];exact hx.mg) (s.trans (cC n2 _))⟩
theorem hinit (T:Txt w K mg) (fI:Addr):∀(X:Cx),X.N=(["self","act"]:List Str)→X.env.scope=aK mJ→X.mg=mg→VSs X (fX mJ) (qF (aGa (tVI X.K fI (bQ (fQ 0) (bQ (fQ 1) jB)))) (aNe X.K fI (fQ 0) (fQ 1))):=by
 intro X hN hs hm
 have v0:∀{pos:Pos},VE X (.Name "self" pos) (fQ 0):=fun {pos}=>vv 0 (by rw [hN];rfl) (by left;rw [hs];rfl)
 have v1:∀{pos:Pos},VE X (.Name "act" pos) (fQ 1):=fun {pos}=>vv 1 (by rw [hN];rfl) (by left;rw [hs];rfl)
 have g:Gl X "ValueError":=by
  show X.env.scope.names.lookup _=_
  rw [hs];rfl
 exact aF ⟨aKw (aOx (fI:=fI) g (by rw [hm];exact T.uM) (aUk v0.1 (aUk v1.1 aN8)))⟩ (aL ⟨aVj v0.1 v1.1⟩)
theorem aMf {α β:Type} {R:α→β→Prop} {as:List α} {bs:List β} (h:cL R as bs) (ne:as≠[]):∃as' a bs' b,as=as'++[a]∧bs=bs'++[b]∧cL R as' bs'∧R a b:=by
 induction h with
 |nil=>exact absurd rfl ne
 |@cons a b as bs r t ih=>
  cases t with
  |nil=>exact ⟨[],a,[],b,rfl,rfl,.nil,r⟩
  |cons r' t'=>
   obtain ⟨as',x,bs',y,e1,e2,h1,h2⟩:=ih (by simp)
   exact ⟨a::as',x,b::bs',y,by rw [e1];rfl,by rw [e2];rfl,.cons r h1,h2⟩
def jD:Tg→List Tg
 |.tup (.str k::ts)=>if k = "table" then [] else if k = "join" then ts.take 2 else ts.take 1
 |_=>[]
def aX1:Tg→Nat
 |.tup ts=>ts.length
 |_=>1
def jZ:Tg→Nat
 |.tup (.str k::ts)=>if k = "where" then aX1 (ts.getD 1 .non) else 1
 |_=>1
inductive Fm:Tg→Prop
 |table {n}:Fm (.tup [.str "table",n])
 |whr {q ts}:1≤ts.length→ts.length≤3→Fm (.tup [.str "where",q,.tup ts])
 |join {q r x}:Fm (.tup [.str "join",q,r,x])
 |two {k:Str} {q x}:k≠"table"→k≠"where"→k≠"join"→Fm (.tup [.str k,q,x])
 |three {k:Str} {q x y}:k≠"table"→k≠"where"→k≠"join"→Fm (.tup [.str k,q,x,y])
theorem aYi {α:Type} {l:List α} (h:l.length=1):∃a,l=[a]:=by
 match l,h with
 |[a],_=>exact ⟨a,rfl⟩
theorem aUn {α:Type} {l:List α} (h:l.length=2):∃a b,l=[a,b]:=by
 match l,h with
 |[a,b],_=>exact ⟨a,b,rfl⟩
theorem aTr {α:Type} {l:List α} (h:l.length=3):∃a b c,l=[a,b,c]:=by
 match l,h with
 |[a,b,c],_=>exact ⟨a,b,c,rfl⟩
theorem aQc {f:Tg→Bool} {lo hi:Nat} {t:Tg} (h:bN f lo hi t=true):∃ts,t=.tup ts∧lo≤ts.length∧ts.length≤hi∧ts.all f=true:=by
 cases t with
 |tup ts=>
  have h:(decide (lo≤ts.length) && (decide (ts.length≤hi) && ts.all f))=true:=h
  rw [Bool.and_eq_true,Bool.and_eq_true] at h
  exact ⟨ts,rfl,of_decide_eq_true h.1,of_decide_eq_true h.2.1,h.2.2⟩
 |_=>cases h
theorem aOw {t:Tg} (h:eX t=true):∃k rs fs,t=.tup (.str k::rs)∧cW k=some fs∧rs.length=fs.length∧(List.zipWith (fun (f:Tg→Bool) t=>f t) fs rs).all id=true:=by
 cases t with
 |tup ts=>
  match ts with
  |[]=>cases h
  |a::rs=>
   cases a with
   |str k=>
    have h:(match cW k with|some fs=>decide (rs.length=fs.length) && (List.zipWith (fun (f:Tg→Bool) t=>f t) fs rs).all id|none=>false)=true:=h
    cases e:cW k with
    |none=>rw [e] at h;cases h
    |some fs=>
     rw [e] at h
     dsimp only at h
     rw [Bool.and_eq_true] at h
     exact ⟨k,rs,fs,rfl,e,of_decide_eq_true h.1,h.2⟩
   |_=>cases h
 |_=>cases h
theorem qL {t:Tg} (h:eX t=true):Fm t:=by
 obtain ⟨k,rs,fs,rfl,hk,hl,ha⟩:=aOw h
 have hm:=oN hk
 simp only [forms,List.mem_cons,List.not_mem_nil,or_false] at hm
 rcases hm with rfl|rfl|rfl|rfl|rfl|rfl|rfl
 ·cases (show cW "table"=some [aP] from rfl) ▸ hk
  obtain ⟨a,rfl⟩:=aYi hl
  exact .table
 ·cases (show cW "where"=some [eU,bN gM 1 3] from rfl) ▸ hk
  obtain ⟨a,b,rfl⟩:=aUn hl
  have ha:(eU a && (bN gM 1 3 b && true))=true:=ha
  rw [Bool.and_eq_true,Bool.and_true] at ha
  obtain ⟨ts,rfl,h1,h2,_⟩:=aQc ha.2
  exact .whr h1 h2
 ·cases (show cW "keep"=some [eU,bN aP 1 8] from rfl) ▸ hk
  obtain ⟨a,b,rfl⟩:=aUn hl
  exact .two (by decide +kernel) (by decide +kernel) (by decide +kernel)
 ·cases (show cW "named"=some [eU,bN aP 1 8] from rfl) ▸ hk
  obtain ⟨a,b,rfl⟩:=aUn hl
  exact .two (by decide +kernel) (by decide +kernel) (by decide +kernel)
 ·cases (show cW "join"=some [eU,eU,bN (bN aP 2 2) 1 3] from rfl) ▸ hk
  obtain ⟨a,b,c,rfl⟩:=aTr hl
  exact .join
 ·cases (show cW "group"=some [eU,bN aP 0 8,bN nQ 0 4] from rfl) ▸ hk
  obtain ⟨a,b,c,rfl⟩:=aTr hl
  exact .three (by decide +kernel) (by decide +kernel) (by decide +kernel)
 ·cases (show cW "first"=some [eU,bN mX 0 3,oW] from rfl) ▸ hk
  obtain ⟨a,b,c,rfl⟩:=aTr hl
  exact .three (by decide +kernel) (by decide +kernel) (by decide +kernel)
theorem Fm.own {t:Tg} (h:Fm t):1≤jZ t∧(jD t).length≤2:=by
 cases h with
 |table=>exact ⟨by show 1≤1;decide,Nat.zero_le _⟩
 |whr h1 h2=>exact ⟨h1,by show 1≤2;decide⟩
 |join=>exact ⟨by show 1≤1;decide,by show 2≤2;decide⟩
 |two a b c=>
  unfold jZ jD
  dsimp only
  rw [if_neg b,if_neg a,if_neg c]
  exact ⟨Nat.le_refl _,by show 1≤2;decide⟩
 |three a b c=>
  unfold jZ jD
  dsimp only
  rw [if_neg b,if_neg a,if_neg c]
  exact ⟨Nat.le_refl _,by show 1≤2;decide⟩
theorem yO {H:Hp} {vs:List V} {a b:Tg} (h:cG K H vs [a,b]):∃v u,vs=[v,u]∧bM K H v a∧bM K H u b:=by
 cases h with
 |cons h1 h=>cases h with
  |cons h2 h=>cases h;exact ⟨_,_,rfl,h1,h2⟩
theorem jJ {H:Hp} {vs:List V} {a b c:Tg} (h:cG K H vs [a,b,c]):∃v u x,vs=[v,u,x]∧bM K H v a∧bM K H u b∧bM K H x c:=by
 cases h with
 |cons h1 h=>
  obtain ⟨v,u,rfl,h2,h3⟩:=yO h
  exact ⟨_,_,_,rfl,h1,h2,h3⟩
theorem nG {H:Hp} {vs:List V} {a b c d:Tg} (h:cG K H vs [a,b,c,d]):∃v u x y,vs=[v,u,x,y]∧bM K H v a∧bM K H u b∧bM K H x c∧bM K H y d:=by
 cases h with
 |cons h1 h=>
  obtain ⟨v,u,x,rfl,h2,h3,h4⟩:=jJ h
  exact ⟨_,_,_,_,rfl,h1,h2,h3,h4⟩
theorem iG {H:Hp} {v:V} {x:Str} (h:bM K H v (.str x)):v=.str x:=by cases h;rfl
theorem fG {H:Hp} {v:V} {ts:List Tg} (h:bM K H v (.tup ts)):∃a vs,v=.ref a∧SqT K H a vs∧vs.length≤1000∧cG K H vs ts:=by
 cases h with
 |tup a b c=>exact ⟨_,_,rfl,a,b,c⟩
def aO1 (K:PySem.W.Frag):Sp:=fun vs H Q _=>∃v t H0,vs=[v]∧Same H0 H∧bM K H0 v t∧eX t=true∧∀D H' us,H D=none→Same H H'→H' D=some (.lst us)→cG K H0 us (jD t)→Q (.ref D) H'
theorem wO (T:Txt w K mg):Ok P w K mg base 1 "questions_in" ["question"] (aO1 K):=by
 refine Ok.ofV T.yZ xT (fun vs H Q E h=>?_) (fun f cdv A outer s H vs Q E hr h=>?_)
 ·obtain ⟨v,q,H0,rfl,_⟩:=h;rfl
 obtain ⟨v,t,H0,rfl,e,ht,hf,q⟩:=h
 refine ⟨_,(aF (cP (bF dG (bV cM (vv 0) aG (fun _ _=>rfl)) aJ (bL _)) (aL (aR (bC aA))) bK) (aL (aR (aAl (bF dG (bV cM (vv 0) aG (fun _ _=>rfl)) aJ (bL _)) (cB aIg (by rfl) T.aPp aK8 (aB (gB aDz (vv 0) (gG aG) (gG aG)) aA)) (bC (aB (bV cM (vv 0) aG (fun _ _=>rfl)) aA)))))),?_⟩
 have fm:=qL hf
 clear hf
 cases fm with
 |table=>
  obtain ⟨p,vs,rfl,a,_,hs⟩:=fG ht
  obtain ⟨v1,v2,rfl,h1,h2⟩:=yO hs
  cases iG h1
  exact ⟨_,rfl,_,_,0,_,rfl,rfl,(e.bB a),at0 _ _,rfl,_,rfl,cY ⟨(by show 0≤sizeLine;decide),fun D H' f s' g=>q D H' _ f s' g .nil⟩⟩
 |whr _ _=>
  obtain ⟨p,vs,rfl,a,_,hs⟩:=fG ht
  obtain ⟨v1,v2,v3,rfl,h1,h2,h3⟩:=jJ hs
  cases iG h1
  exact ⟨_,rfl,_,_,0,_,rfl,rfl,(e.bB a),at0 _ _,rfl,_,rfl,cI ⟨_,rfl,_,_,0,_,rfl,rfl,(e.bB a),at0 _ _,rfl,_,rfl,cI ⟨_,rfl,_,_,1,_,rfl,rfl,(e.bB a),at1 _ _ _,(by show 1≤sizeLine;decide),fun D H' f s' g=>q D H' _ f s' g (.cons h2 .nil)⟩⟩⟩
 |join=>
  obtain ⟨p,vs,rfl,a,_,hs⟩:=fG ht
  obtain ⟨v1,v2,v3,v4,rfl,h1,h2,h3,h4⟩:=nG hs
  cases iG h1
  refine ⟨_,rfl,_,_,0,_,rfl,rfl,(e.bB a),at0 _ _,rfl,_,rfl,cI ⟨_,rfl,_,_,0,_,rfl,rfl,(e.bB a),at0 _ _,rfl,_,rfl,cY ⟨_,rfl,_,rfl,_,rfl,_,_,rfl,(e.bB a),(by show ¬ (HT.sIx 4 0 (some 1)=0∧HT.sIx 4 4 (some 3)=4);decide),fun p H1 s1 g1=>⟨p,_,rfl,.inr (SqT.of g1),fun D H' f s' g=>q D H' _ (s1.free f) (s1.trans s') g (.cons h2 (.cons h3 .nil))⟩⟩⟩⟩
 |@two k tq tx n1 n2 n3=>
  obtain ⟨p,vs,rfl,a,_,hs⟩:=fG ht
  obtain ⟨v1,v2,v3,rfl,h1,h2,h3⟩:=jJ hs
  cases iG h1
  have ek:jD (.tup [.str k,tq,tx])=[tq]:=by unfold jD;dsimp only;rw [if_neg n1,if_neg n3];rfl
  rw [ek] at q
  refine ⟨_,rfl,_,_,0,_,rfl,rfl,(e.bB a),at0 _ _,rfl,_,rfl,?_⟩
  rw [decide_eq_false (by intro z;exact n1 (V.str.inj z))]
  refine cI ⟨_,rfl,_,_,0,_,rfl,rfl,(e.bB a),at0 _ _,rfl,_,rfl,?_⟩
  rw [decide_eq_false (by intro z;exact n3 (V.str.inj z))]
  exact cI ⟨_,rfl,_,_,1,_,rfl,rfl,(e.bB a),at1 _ _ _,(by show 1≤sizeLine;decide),fun D H' f s' g=>q D H' _ f s' g (.cons h2 .nil)⟩
 |@three k tq tx ty n1 n2 n3=>
  obtain ⟨p,vs,rfl,a,_,hs⟩:=fG ht
  obtain ⟨v1,v2,v3,v4,rfl,h1,h2,h3,h4⟩:=nG hs
  cases iG h1
  have ek:jD (.tup [.str k,tq,tx,ty])=[tq]:=by unfold jD;dsimp only;rw [if_neg n1,if_neg n3];rfl
  rw [ek] at q
  refine ⟨_,rfl,_,_,0,_,rfl,rfl,(e.bB a),at0 _ _,rfl,_,rfl,?_⟩
  rw [decide_eq_false (by intro z;exact n1 (V.str.inj z))]
  refine cI ⟨_,rfl,_,_,0,_,rfl,rfl,(e.bB a),at0 _ _,rfl,_,rfl,?_⟩
  rw [decide_eq_false (by intro z;exact n3 (V.str.inj z))]
  exact cI ⟨_,rfl,_,_,1,_,rfl,rfl,(e.bB a),at1 _ _ _,(by show 1≤sizeLine;decide),fun D H' f s' g=>q D H' _ f s' g (.cons h2 .nil)⟩
def aK2 (K:PySem.W.Frag):Sp:=fun vs H Q _=>∃v t,vs=[v]∧bM K H v t∧eX t=true∧Q (.int (jZ t:Nat)) H
theorem aDm (T:Txt w K mg):Ok P w K mg base 1 "own_size" ["question"] (aK2 K):=by
 refine Ok.ofV T.aJc aFu (fun vs H Q E h=>?_) (fun f cdv A outer s H vs Q E hr h=>?_)
 ·obtain ⟨v,q,rfl,_⟩:=h;rfl
 obtain ⟨v,t,rfl,ht,hf,q⟩:=h
 refine ⟨_,(aL (aR (aAl (bF dG (bV cM (vv 0) aG (fun _ _=>rfl)) aJ (bL _)) (aY bD (by rfl) T.eY cZ (aB (bV cM (vv 0) aG (fun _ _=>rfl)) aA)) aG))),?_⟩
 have fm:=qL hf
 clear hf
 cases fm with
 |whr _ _=>
  obtain ⟨p,vs,rfl,a,_,hs⟩:=fG ht
  obtain ⟨v1,v2,v3,rfl,h1,h2,h3⟩:=jJ hs
  cases iG h1
  obtain ⟨p3,us,rfl,a3,_,hus⟩:=fG h3
  refine ⟨_,rfl,_,_,0,_,rfl,rfl,a,at0 _ _,rfl,_,rfl,cY ⟨_,rfl,_,_,2,_,rfl,rfl,a,at2 _ _ _ _,_,_,rfl,.inr a3,?_⟩⟩
  rw [hus.len]
  exact q
 |table=>
  obtain ⟨p,vs,rfl,a,_,hs⟩:=fG ht
  obtain ⟨v1,v2,rfl,h1,h2⟩:=yO hs
  cases iG h1
  exact ⟨_,rfl,_,_,0,_,rfl,rfl,a,at0 _ _,rfl,_,rfl,cI q⟩
 |join=>
  obtain ⟨p,vs,rfl,a,_,hs⟩:=fG ht
  obtain ⟨v1,v2,v3,v4,rfl,h1,h2,h3,h4⟩:=nG hs
  cases iG h1
  exact ⟨_,rfl,_,_,0,_,rfl,rfl,a,at0 _ _,rfl,_,rfl,cI q⟩
 |@two k tq tx n1 n2 n3=>
  obtain ⟨p,vs,rfl,a,_,hs⟩:=fG ht
  obtain ⟨v1,v2,v3,rfl,h1,h2,h3⟩:=jJ hs
  cases iG h1
  have eo:jZ (.tup [.str k,tq,tx])=1:=by unfold jZ;dsimp only;rw [if_neg n2]
  rw [eo] at q
  refine ⟨_,rfl,_,_,0,_,rfl,rfl,a,at0 _ _,rfl,_,rfl,?_⟩
  rw [decide_eq_false (by intro z;exact n2 (V.str.inj z))]
  exact cI q
 |@three k tq tx ty n1 n2 n3=>
  obtain ⟨p,vs,rfl,a,_,hs⟩:=fG ht
  obtain ⟨v1,v2,v3,v4,rfl,h1,h2,h3,h4⟩:=nG hs
  cases iG h1
  have eo:jZ (.tup [.str k,tq,tx,ty])=1:=by unfold jZ;dsimp only;rw [if_neg n2]
  rw [eo] at q
  refine ⟨_,rfl,_,_,0,_,rfl,rfl,a,at0 _ _,rfl,_,rfl,?_⟩
  rw [decide_eq_false (by intro z;exact n2 (V.str.inj z))]
  exact cI q
mutual
inductive SzT:Tg→Nat→Prop
 |mk {t m}:eX t=true→mQ (jD t) m→SzT t (jZ t+m)
inductive mQ:List Tg→Nat→Prop
 |nil:mQ [] 0
 |cons {t n ts m}:SzT t n→mQ ts m→mQ (t::ts) (n+m)
end
theorem oA {t:Tg} {n:Nat} (h:SzT t n):eX t=true∧∃m,mQ (jD t) m∧n=jZ t+m:=by
 cases h with
 |mk a b=>exact ⟨a,_,b,rfl⟩
theorem pN {t:Tg} {ts:List Tg} {n:Nat} (h:mQ (t::ts) n):∃a b,SzT t a∧mQ ts b∧n=a+b:=by
 cases h with
 |cons x y=>exact ⟨_,_,x,y,rfl⟩
theorem oG {bs:List Tg}:∀{as:List Tg} {n:Nat},mQ (as++bs) n↔∃a b,mQ as a∧mQ bs b∧n=a+b
 |[],n=>⟨fun h=>⟨0,n,.nil,h,by omega⟩,fun ⟨a,b,h1,h2,e⟩=>by cases h1;rw [Nat.zero_add] at e;subst e;exact h2⟩
 |x::as,n=>by
  constructor
  ·intro h
   obtain ⟨a,b,h1,h2,rfl⟩:=pN (ts:=as++bs) h
   obtain ⟨c,d,h3,h4,rfl⟩:=oG.mp h2
   exact ⟨a+c,d,.cons h1 h3,h4,by omega⟩
  ·rintro ⟨a,b,h1,h2,rfl⟩
   obtain ⟨c,d,h3,h4,rfl⟩:=pN h1
   rw [show c+d+b=c+(d+b) by omega]
   exact .cons h3 (oG.mpr ⟨d,b,h4,h2,rfl⟩)
theorem eQ {t:Tg} {n:Nat}:mQ [t] n↔SzT t n:=
 ⟨fun h=>by
  obtain ⟨a,b,h1,h2,rfl⟩:=pN h
  cases h2
  exact h1,fun h=>by rw [show n=n+0 from rfl];exact .cons h .nil⟩
theorem aAp {ts:List Tg} {p:Tg} {n:Nat} (hf:eX p=true):mQ (ts++[p]) n↔∃m,mQ (ts++jD p) m∧n=jZ p+m:=by
 constructor
 ·intro h
  obtain ⟨a,b,h1,h2,rfl⟩:=oG.mp h
  obtain ⟨_,m,h3,rfl⟩:=oA (eQ.mp h2)
  exact ⟨a+m,oG.mpr ⟨a,m,h1,h3,rfl⟩,by omega⟩
 ·rintro ⟨m,h,rfl⟩
  obtain ⟨a,b,h1,h2,rfl⟩:=oG.mp h
  exact oG.mpr ⟨a,jZ p+b,h1,eQ.mpr (.mk hf h2),by omega⟩
theorem jP {H:Hp}:∀{vs:List V} {ts:List Tg},cG K H vs ts→cL (bM K H) vs ts
 |_,_,.nil=>.nil
 |_,_,.cons a b=>.cons a (jP b)
theorem vB {H:Hp}:∀{vs:List V} {ts:List Tg},cL (bM K H) vs ts→cG K H vs ts
 |_,_,.nil=>.nil
 |_,_,.cons a b=>.cons a (vB b)
def Right (t:Tg):Prop:=∃n,SzT t n∧n≤20
def tE (K:PySem.W.Frag) (mg:Str→Option Value):Sp:=fun vs H Q E=>∃v t,vs=[v]∧bM K H v t∧(Right t→∀H',Same H H'→Q v H')∧(¬ Right t→Rf mg .ques H E)
theorem aHh (T:Txt w K mg) (aHq:Ok P w K mg base 7 "has_form" ["thing"] (gP (TgR K eX))) (zV:Ok P w K mg base 1 "questions_in" ["question"] (aO1 K)) (aI7:Ok P w K mg base 1 "own_size" ["question"] (aK2 K)):OkX P w K mg base 8 "checked" ["thing"] (tE K mg):=by
 refine OkX.ofV T.aMt lK (fun vs H Q E h=>?_) (fun f cdv A outer s H vs Q E hr h=>?_)
 ·obtain ⟨v,q,rfl,_⟩:=h;rfl
 obtain ⟨v,t0,rfl,ht,q,qx⟩:=h
 obtain ⟨S,ad,mS,hS,hex,_⟩:=T.aXv
 have hx_NoQuestion:ExT K mg mJ "NoQuestion" "ShardError.__init__" (ad .ques) S:=hex .ques
 refine ⟨_,(aF (aQ (i:=1) lK.nd rfl (by trivial) aG) (aF (aQ (i:=2) lK.nd rfl (by trivial) (bC (aB (vv 0) aA))) (aF (aF2 PassesOwn.leaving (aNc (vv 2)) (aF (aQ (i:=3) lK.nd rfl (by trivial) (aJb PySem.F.plainAttrs_list PySem.F.slot_list_pop PySem.F.type_list_pop aQs (vv 2))) (aF (cP (fZ (fP (aU (aHq.mono (by decide)) hr (by rfl) (aB (vv 3) aA)))) (aL (aFd hx_NoQuestion (fun fI fd F=>aK4 (k:=0) F aK7 (hinit T fI)) (hr.mono (by first|decide|omega)) aBy rfl (by rfl) (aB gA aA))) bK) (aF (aQ (i:=1) lK.nd rfl (by trivial) (bG cX (vv 1) (aU (aI7.mono (by decide)) hr (by rfl) (aB (vv 3) aA)))) (aF (cP (bF aNt (vv 1) (dO (by rfl) T.aFj) (bL _)) (aL (aFd hx_NoQuestion (fun fI fd F=>aK4 (k:=0) F aK7 (hinit T fI)) (hr.mono (by first|decide|omega)) aBy rfl (by rfl) (aB gA aA))) bK) (aL (iB (wW PySem.F.plainAttrs_list PySem.F.slot_list_extend PySem.F.type_list_extend aAa (vv 2) (aB (aU (zV.mono (by decide)) hr (by rfl) (aB (vv 3) aA)) aA))))))))) (aL (aR (vv 0)))))),?_⟩
 refine ⟨_,rfl,(by show 1≤sizeLine;decide),fun W H1 fW s1 g1=>?_⟩
 refine ⟨fun m σ H'=>∃sz us ts l,σ=[some v,some (.int (sz:Nat)),some (.ref W),l]∧Same H H'∧H' W=some (.lst us)∧cL (bM K H) us ts∧sz≤20∧us.length≤1+sz∧((∃n,mQ ts n∧sz+n≤20)↔Right t0)∧m=20 - sz,⟨_,0,_,[t0],_,rfl,s1,g1,.cons ht .nil,by decide,by simp,⟨fun ⟨n,h1,h2⟩=>⟨n,eQ.mp h1,by omega⟩,fun ⟨n,h1,h2⟩=>⟨n,eQ.mpr h1,by omega⟩⟩,rfl⟩,?_⟩
 rintro m σ H' ⟨sz,us,ts,l,rfl,sm,eW,hu,h20,hul,hiff,rfl⟩
 by_cases hne:us=[]
 ·subst hne
  cases hu
  refine ⟨_,rfl,false,.inl ⟨[],SqL.of eW,rfl⟩,?_⟩
  refine cI ?_
  exact ⟨_,rfl,q (hiff.mp ⟨0,.nil,by omega⟩) H' sm⟩
 ·obtain ⟨us',u,ts',p,rfl,rfl,hu',hp⟩:=aMf hu hne
  refine ⟨_,rfl,true,.inl ⟨_,SqL.of eW,by cases us' <;> rfl⟩,?_⟩
  refine cY ?_
  refine ⟨fun σ' H''=>∃m',m'<20 - sz∧∃sz us ts l,σ'=[some v,some (.int (sz:Nat)),some (.ref W),l]∧Same H H''∧H'' W=some (.lst us)∧cL (bM K H) us ts∧sz≤20∧us.length≤1+sz∧((∃n,mQ ts n∧sz+n≤20)↔Right t0)∧m'=20 - sz,fun σ' H'' h=>h,?_⟩
  refine ⟨_,rfl,.inl ⟨rfl,_,SqL.of eW⟩,W,_,u,rfl,rfl,eW,?_,?_⟩
  ·rw [List.length_append,List.length_singleton,Nat.add_sub_cancel,List.getElem?_append_right (Nat.le_refl _),Nat.sub_self]
   rfl
  rw [List.dropLast_concat]
  have sx:Same H (upd H' W (.lst us')):=mZ fW sm
  have ex:upd H' W (.lst us') W=some (.lst us'):=aO
  generalize upd H' W (.lst us')=Hx at sx ex
  refine ⟨_,rfl,u,eX p,rfl,⟨p,hp.same sx,rfl⟩,fun H2 s2=>⟨_,rfl,?_⟩⟩
  cases hf:eX p with
  |false=>
   have nr:¬ Right t0:=fun z=>by
    obtain ⟨n,h1,_⟩:=hiff.mpr z
    obtain ⟨a,b,_,h2,_⟩:=oG.mp h1
    have:=(oA (eQ.mp h2)).1
    rw [hf] at this
    cases this
   exact cY (aFr hx_NoQuestion rfl (sx.trans s2) (qx nr))
  |true=>
   have hop:=(qL hf).own
   refine cI ?_
   refine ⟨_,rfl,_,rfl,u,p,rfl,hp.same (sx.trans s2),hf,_,_,rfl,rfl,?_⟩
   refine ⟨_,rfl,_,_,rfl,rfl,_,rfl,?_⟩
   by_cases c20:sz+jZ p≤20
   ·have e20:decide ((20:Int)<(sz:Int)+(jZ p:Int))=false:=decide_eq_false (by omega)
    rw [e20]
    refine cI ?_
    refine ⟨_,rfl,.inl ⟨rfl,_,SqL.of (s2 _ _ ex)⟩,?_⟩
    refine ⟨_,rfl,u,p,H,rfl,sx.trans s2,hp,hf,fun D H3 ws fD s3 gD hw=>?_⟩
    have lw:=hw.len
    rw [List.length_append,List.length_singleton] at hul
    refine ⟨W,D,_,_,rfl,rfl,s3 _ _ (s2 _ _ ex),gD,small (by omega),?_⟩
    refine ⟨_,?_,sz+jZ p,us'++ws,ts'++jD p,some u,?_,mZ fW (sx.trans (s2.trans s3)),aO,hu'.app (jP hw),c20,by rw [List.length_append];omega,?_,rfl⟩
    ·omega
    ·rw [show ((sz+jZ p:Nat):Int)=(sz:Int)+(jZ p:Int) from by omega];rfl
    ·rw [←hiff]
     constructor
     ·rintro ⟨n,h1,h2⟩
      exact ⟨jZ p+n,(aAp hf).mpr ⟨n,h1,rfl⟩,by omega⟩
     ·rintro ⟨n,h1,h2⟩
      obtain ⟨m,h3,rfl⟩:=(aAp hf).mp h1
      exact ⟨m,h3,by omega⟩
   ·have e20:decide ((20:Int)<(sz:Int)+(jZ p:Int))=true:=decide_eq_true (by omega)
    rw [e20]
    have nr:¬ Right t0:=fun z=>by
     obtain ⟨n,h1,h2⟩:=hiff.mpr z
     obtain ⟨m,_,rfl⟩:=(aAp hf).mp h1
     omega
    exact cY (aFr hx_NoQuestion rfl (sx.trans s2) (qx nr))
inductive Qn where
 |table (T:Str)
 |whr (q:Qn) (ts:List Tst)
 |keep (q:Qn) (ns:List Str)
 |nmd (q:Qn) (ns:List Str)
 |join (q r:Qn) (ps:List (Str × Str))
 |group (q:Qn) (ns:List Str) (ss:List Sm)
 |first (q:Qn) (ks:List (Str × Str)) (m:Nat)
inductive IsQ (K:PySem.W.Frag) (H:Hp):V→Qn→Prop
 |table {a T}:SqT K H a [.str "table",.str T]→Nm T→IsQ K H (.ref a) (.table T)
 |whr {a v q w ts}:SqT K H a [.str "where",v,w]→IsQ K H v q→oX IsT 1 3 K H w ts→IsQ K H (.ref a) (.whr q ts)
 |keep {a v q w ns}:SqT K H a [.str "keep",v,w]→IsQ K H v q→oX aAv 1 8 K H w ns→IsQ K H (.ref a) (.keep q ns)
 |nmd {a v q w ns}:SqT K H a [.str "named",v,w]→IsQ K H v q→oX aAv 1 8 K H w ns→IsQ K H (.ref a) (.nmd q ns)
 |join {a v q u r w ps}:SqT K H a [.str "join",v,u,w]→IsQ K H v q→IsQ K H u r→oX aAd 1 3 K H w ps→IsQ K H (.ref a) (.join q r ps)
 |group {a v q w ns u ss}:SqT K H a [.str "group",v,w,u]→IsQ K H v q→oX aAv 0 8 K H w ns→oX wG 0 4 K H u ss→IsQ K H (.ref a) (.group q ns ss)
 |first {a v q w ks m}:SqT K H a [.str "first",v,w,.int (m:Nat)]→IsQ K H v q→oX xR 0 3 K H w ks→m≤60→IsQ K H (.ref a) (.first q ks m)
theorem oX.same {α:Type} {S:PySem.W.Frag→Hp→V→α→Prop} {lo hi:Nat} {K:PySem.W.Frag} {H H':Hp} {v:V} {xs:List α} (e:Same H H') (k:∀{v t},S K H v t→S K H' v t) (h:oX S lo hi K H v xs):oX S lo hi K H' v xs:=
 ⟨h.1.same e fun _ _=>k,h.2⟩
theorem IsQ.same {K:PySem.W.Frag} {H H':Hp} {v:V} {q:Qn} (e:Same H H') (h:IsQ K H v q):IsQ K H' v q:=by
 induction h with
 |table a b=>exact .table (e.bB a) b
 |whr a _ c ih=>exact .whr (e.bB a) ih (c.same e fun h=>h.same e)
 |keep a _ c ih=>exact .keep (e.bB a) ih (c.same e fun h=>h)
 |nmd a _ c ih=>exact .nmd (e.bB a) ih (c.same e fun h=>h)
 |join a _ _ c ih1 ih2=>exact .join (e.bB a) ih1 ih2 (c.same e fun h=>h.same e)
 |group a _ c d ih=>exact .group (e.bB a) ih (c.same e fun h=>h) (d.same e fun h=>h.same e)
 |first a _ c d ih=>exact .first (e.bB a) ih (c.same e fun h=>h.same e) d
def kids:Qn→List Qn
 |.table _=>[]
 |.whr q _=>[q]
 |.keep q _=>[q]
 |.nmd q _=>[q]
 |.join q r _=>[q,r]
 |.group q _ _=>[q]
 |.first q _ _=>[q]
def size:Qn→Nat
 |.table _=>1
 |.whr q ts=>size q+ts.length
 |.keep q _=>size q+1
 |.nmd q _=>size q+1
 |.join q r _=>size q+size r+1
 |.group q _ _=>size q+1
 |.first q _ _=>size q+1
abbrev Hdr:=List (Str × Str)
def IsC (K:PySem.W.Frag) (H:Hp) (v:V) (c:Str × Str):Prop:=∃p,v=.ref p∧SqT K H p [.str c.1,.str c.2]
theorem IsC.same {K:PySem.W.Frag} {H H':Hp} {v:V} {c:Str × Str} (e:Same H H') (h:IsC K H v c):IsC K H' v c:=by
 obtain ⟨p,rfl,hp⟩:=h
 exact ⟨p,rfl,e.bB hp⟩
def jV (K:PySem.W.Frag) (H:Hp) (v:V) (hd:Hdr):Prop:=aG0 K H (IsC K H) v hd
theorem jV.same {K:PySem.W.Frag} {H H':Hp} {v:V} {hd:Hdr} (e:Same H H') (h:jV K H v hd):jV K H' v hd:=aG0.same e (fun _ _ q=>q.same e) h
def look (hd:Hdr) (n:Str):Option Str:=(hd.find? fun c=>decide (c.1=n)).map (·.2)
theorem gK {α β:Type} {R:α→β→Prop}:∀{as:List α} {bs:List β},cL R as bs→∀{i:Nat} {a:α},as[i]?=some a→∃b,bs[i]?=some b∧R a b
 |_,_,.cons r t,0,_,h1=>by cases h1;exact ⟨_,rfl,r⟩
 |_,_,.cons r t,i+1,a,h1=>by
  obtain ⟨b,e,q⟩:=gK t (i:=i) (a:=a) (by simpa using h1)
  exact ⟨b,by simpa using e,q⟩
theorem aJ0 {α β:Type} {R:α→β→Prop}:∀{as:List α} {bs:List β},as.length=bs.length→(∀(i:Nat) (a:α) (b:β),as[i]?=some a→bs[i]?=some b→R a b)→cL R as bs
 |[],[],_,_=>.nil
 |a::as,b::bs,hl,h=>.cons (h 0 a b rfl rfl) (aJ0 (by simpa using hl) fun i x y h1 h2=>h (i+1) x y (by simpa using h1) (by simpa using h2))
def kindS (v:V):Str:=if whole v then "number" else "word"
def aU9 (hd:Hdr):Oth→Option Str
 |.val x=>some (kindS x)
 |.col d=>look hd d
def aHx (hd:Hdr) (t:Tst):Prop:=∃k,look hd t.c=some k∧aU9 hd t.o=some k
theorem aHt {α:Type} {f:α→V} {xs:List α} {i:Nat} {y:V} (h:(xs.map f)[i]?=some y):∃x,xs[i]?=some x∧y=f x:=by
 rw [List.getElem?_map] at h
 cases e:xs[i]? with
 |none=>rw [e] at h;cases h
 |some x=>rw [e] at h;cases h;exact ⟨x,rfl,rfl⟩
def Looks (hd:Hdr) (ns ks:List Str):Prop:=cL (fun n k=>look hd n=some k) ns ks
def jK (K:PySem.W.Frag) (cs:Hdr):Nat→Hp→V→Prop:=fun i H y=>∃c p,cs[i]?=some c∧y=.ref p∧H p=some (.tup [.str c.1,.str c.2])
theorem jK.st {cs:Hdr} {i:Nat} {H1 H2:Hp} {y:V} (e:Same H1 H2) (h:jK K cs i H1 y):jK K cs i H2 y:=by
 obtain ⟨c,p,h1,h2,h3⟩:=h
 exact ⟨c,p,h1,h2,e _ _ h3⟩
theorem jK.su {cs:Hdr} {i:Nat} {H1:Hp} {D:Addr} {ys zs:List V} {y:V} (hD:H1 D=some (.lst ys)) (h:jK K cs i H1 y):jK K cs i (upd H1 D (.lst zs)) y:=by
 obtain ⟨c,p,h1,h2,h3⟩:=h
 exact ⟨c,p,h1,h2,by rw [bA (pP h3 hD (by intro z;cases z))];exact h3⟩
theorem aJx {cs:Hdr} {H:Hp} {a:Addr} {ys:List V} (ha:SqT K H a ys) (hl:ys.length=cs.length) (h:∀(i:Nat) (y:V),ys[i]?=some y→jK K cs i H y):jV K H (.ref a) cs:=by
 refine ⟨a,ys,rfl,ha,aJ0 hl fun i y c e1 e2=>?_⟩
 obtain ⟨c',p,h1,h2,h3⟩:=h i y e1
 rw [e2] at h1
 cases h1
 exact ⟨p,h2,SqT.of h3⟩
theorem zL {ss:List Str}:(ss.map V.str).all kJ=true:=by
 rw [List.all_eq_true]
 intro v hv
 obtain ⟨z,_,rfl⟩:=List.mem_map.mp hv
 rfl
theorem sS {α:Type} {p:Nat→Bool} {p':α→Bool}:∀{k:Nat} {xs:List α},(∀(i:Nat) (x:α),xs[i]?=some x→p (k+i)=p' x)→sel p k xs=xs.filter p'
 |_,[],_=>rfl
 |k,x::r,h=>by
  have h0:=h 0 x rfl
  rw [Nat.add_zero] at h0
  show (if p k then x::sel p (k+1) r else sel p (k+1) r)=_
  rw [List.filter_cons,h0,sS (k:=k+1) (xs:=r) fun i y e=>by rw [show k+1+i=k+(i+1) by omega];exact h (i+1) y (by simpa using e)]
theorem aPj {α β:Type} {R:α→β→Prop} {p:Nat→Bool} {as:List α} {bs:List β} (h:cL R as bs):∀k,cL R (sel p k as) (sel p k bs):=by
 induction h with
 |nil=>exact fun _=>.nil
 |@cons a b as bs r _ ih=>
  intro k
  show cL R (if p k then a::sel p (k+1) as else sel p (k+1) as) (if p k then b::sel p (k+1) bs else sel p (k+1) bs)
  split
  ·exact .cons r (ih _)
  ·exact ih _
def smK (hd:Hdr) (s:Sm):Option Str:=match s.c with
 |none=>some "number"
 |some c=>look hd c
def aCz (hd:Hdr) (ss:List Sm) (js:List Str):Prop:=cL (fun s j=>smK hd s=some j∧(s.wd = "sum"→j≠"word")) ss js
def Good (hd:Hdr):Prop:=(hd.map (·.1)).Nodup∧1≤hd.length∧hd.length≤8
inductive HH (hs:Str→Option Hdr):Qn→List Hdr→Hdr→Prop
 |table {T hd}:hs T=some hd→HH hs (.table T) [] hd
 |whr {q ts hd}:(∀t∈ts,aHx hd t)→HH hs (.whr q ts) [hd] hd
 |keep {q ns hd ks}:Looks hd ns ks→HH hs (.keep q ns) [hd] (ns.zip ks)
 |nmd {q ns hd}:ns.length=hd.length→HH hs (.nmd q ns) [hd] (List.zipWith (fun n c=>(n,c.2)) ns hd)
 |join {q r ps hd ho ks}:cL (fun p k=>look hd p.1=some k∧look ho p.2=some k) ps ks→(ps.map (·.1)).Nodup→(ps.map (·.2)).Nodup→HH hs (.join q r ps) [hd,ho] (hd++ho.filter fun c=>!decide (c.1∈ps.map (·.2)))
 |group {q ns ss hd ks js}:Looks hd ns ks→aCz hd ss js→HH hs (.group q ns ss) [hd] (ns.zip ks++(ss.map Sm.new).zip js)
 |first {q ps m hd ks}:Looks hd (ps.map (·.1)) ks→(ps.map (·.1)).Nodup→HH hs (.first q ps m) [hd] hd
inductive HQ (hs:Str→Option Hdr):Qn→Hdr→Prop
 |mk0 {q hd}:kids q=[]→HH hs q [] hd→Good hd→HQ hs q hd
 |mk1 {q k h1 hd}:kids q=[k]→HQ hs k h1→HH hs q [h1] hd→Good hd→HQ hs q hd
 |mk2 {q k l h1 h2 hd}:kids q=[k,l]→HQ hs k h1→HQ hs l h2→HH hs q [h1,h2] hd→Good hd→HQ hs q hd
theorem aV3 {H:Hp} {v:V} {x:Str} (h:IsN v x):∃t,bM K H v t∧aP t=true:=by
 obtain ⟨rfl,n⟩:=h
 exact ⟨.str x,.str (by have:=iW n;omega),n⟩
theorem vA {H:Hp} {x:Str} (n:Nm x):bM K H (.str x) (.str x):=.str (by have:=iW n;omega)
theorem aXz {H:Hp} {v:V} {o:Oth} (h:IsO K H v o):∃t,bM K H v t∧jX t=true:=by
 cases o with
 |val x=>
  obtain ⟨a,rfl,ha,hx,hv⟩:=h
  rcases hx with ⟨y,rfl,hl⟩|⟨i,rfl⟩|⟨b,rfl⟩|⟨k,hk⟩
  ·exact ⟨.tup [.str "value",.str y],.tup ha (by show 2≤1000;decide) (.cons (.str (by decide +kernel)) (.cons (.str hl) .nil)),hv⟩
  ·exact ⟨.tup [.str "value",.int i],.tup ha (by show 2≤1000;decide) (.cons (.str (by decide +kernel)) (.cons .int .nil)),hv⟩
  ·cases hv
  ·cases hk <;> cases hv
 |col d=>
  obtain ⟨a,rfl,ha,hd⟩:=h
  exact ⟨.tup [.str "column",.str d],.tup ha (by show 2≤1000;decide) (.cons (.str (by decide +kernel)) (.cons (vA hd) .nil)),hd⟩
theorem aY4 {H:Hp} {v:V} {o:Tst} (h:IsT K H v o):∃t,bM K H v t∧gM t=true:=by
 obtain ⟨a,w,rfl,ha,h1,h2,h3⟩:=h
 obtain ⟨t,ht,hv⟩:=aXz h3
 have hs:=aXr h2
 refine ⟨.tup [.str o.c,.str o.sg,t],.tup ha (by show 3≤1000;decide) (.cons (vA h1) (.cons (.str (by omega)) (.cons ht .nil))),?_⟩
 show (aP (.str o.c) && (eO (.str o.sg) signs && jX t))=true
 rw [hv,show aP (.str o.c)=true from h1,show eO (.str o.sg) signs=true from hs.1]
 rfl
theorem aWy {H:Hp} {v:V} {p:Str × Str} (h:aAd K H v p):∃t,bM K H v t∧bN aP 2 2 t=true:=by
 obtain ⟨a,rfl,ha,h1,h2⟩:=h
 refine ⟨.tup [.str p.1,.str p.2],.tup ha (by show 2≤1000;decide) (.cons (vA h1) (.cons (vA h2) .nil)),?_⟩
 show (aP (.str p.1) && (aP (.str p.2) && true))=true
 rw [show aP (.str p.1)=true from h1,show aP (.str p.2)=true from h2]
 rfl
theorem aXg {H:Hp} {v:V} {p:Str × Str} (h:xR K H v p):∃t,bM K H v t∧mX t=true:=by
 obtain ⟨a,rfl,ha,h1,h2⟩:=h
 have hw:eO (.str p.2) xN=true∧p.2.length≤1000:=by
  rcases h2 with e|e <;> rw [e] <;> exact ⟨by decide +kernel,by decide +kernel⟩
 refine ⟨.tup [.str p.1,.str p.2],.tup ha (by show 2≤1000;decide) (.cons (vA h1) (.cons (.str hw.2) .nil)),?_⟩
 show (aP (.str p.1) && eO (.str p.2) xN)=true
 rw [show aP (.str p.1)=true from h1,hw.1]
 rfl
theorem aWr {H:Hp} {v:V} {p:Sm} (h:wG K H v p):∃t,bM K H v t∧nQ t=true:=by
 obtain ⟨a,rfl,hn,h⟩:=h
 rcases h with ⟨_,_,ha⟩|⟨c,_,hc,hw,ha⟩
 ·refine ⟨.tup [.str "count",.non,.str p.new],.tup ha (by show 3≤1000;decide) (.cons (.str (by decide +kernel)) (.cons .non (.cons (vA hn) .nil))),?_⟩
  show (eO (.str "count") gQ && (aP (.str p.new) && (if aBw (.str "count") then aB7 .non else aP .non)))=true
  rw [show aP (.str p.new)=true from hn,show eO (.str "count") gQ=true by decide +kernel,show aBw (.str "count")=true by decide +kernel]
  rfl
 ·have hw':eO (.str p.wd) gQ=true∧p.wd.length≤1000∧aBw (.str p.wd)=false:=by
   rcases hw with e|e|e <;> rw [e] <;> exact ⟨by decide +kernel,by decide +kernel,by decide +kernel⟩
  refine ⟨.tup [.str p.wd,.str c,.str p.new],.tup ha (by show 3≤1000;decide) (.cons (.str hw'.2.1) (.cons (vA hc) (.cons (vA hn) .nil))),?_⟩
  show (eO (.str p.wd) gQ && (aP (.str p.new) && (if aBw (.str p.wd) then aB7 (.str c) else aP (.str c))))=true
  rw [show aP (.str p.new)=true from hn,hw'.1,hw'.2.2,show aP (.str c)=true from hc]
  rfl
theorem aTh {α:Type} {S:V→α→Prop} {f:Tg→Bool} {H:Hp} {vs:List V} {xs:List α} (k:∀v x,S v x→∃t,bM K H v t∧f t=true) (h:cL S vs xs):∃ts,cG K H vs ts∧ts.length=xs.length∧ts.all f=true:=by
 induction h with
 |nil=>exact ⟨[],.nil,rfl,rfl⟩
 |cons r _ ih=>
  obtain ⟨t,h1,h2⟩:=k _ _ r
  obtain ⟨ts,h3,h4,h5⟩:=ih
  exact ⟨t::ts,.cons h1 h3,by rw [List.length_cons,List.length_cons,h4],by rw [List.all_cons,h2,h5];rfl⟩
theorem oJ {α:Type} {S:PySem.W.Frag→Hp→V→α→Prop} {f:Tg→Bool} {lo hi:Nat} {H:Hp} {v:V} {xs:List α} (k:∀v x,S K H v x→∃t,bM K H v t∧f t=true) (hh:hi≤1000) (h:oX S lo hi K H v xs):∃ts,bM K H v (.tup ts)∧ts.length=xs.length∧bN f lo hi (.tup ts)=true:=by
 obtain ⟨⟨a,vs,rfl,ha,hv⟩,h1,h2⟩:=h
 obtain ⟨ts,h3,h4,h5⟩:=aTh k hv
 refine ⟨ts,.tup ha (by have:=hv.len;omega) h3,h4,?_⟩
 show (decide (lo≤ts.length) && (decide (ts.length≤hi) && ts.all f))=true
 rw [h5,decide_eq_true (show lo≤ts.length by omega),decide_eq_true (show ts.length≤hi by omega)]
 rfl
theorem aAe {k:Str} {f g:Tg→Bool} {a b:Tg} (hk:cW k=some [f,g]) (h1:f a=true) (h2:g b=true):eX (.tup [.str k,a,b])=true:=by
 show (match cW k with|some fs=>decide (([a,b]:List Tg).length=fs.length) && (List.zipWith (fun (f:Tg→Bool) t=>f t) fs [a,b]).all id|none=>false)=true
 rw [hk]
 show (f a && (g b && true))=true
 rw [h1,h2]
 rfl
theorem rJ {k:Str} {f g h:Tg→Bool} {a b c:Tg} (hk:cW k=some [f,g,h]) (h1:f a=true) (h2:g b=true) (h3:h c=true):eX (.tup [.str k,a,b,c])=true:=by
 show (match cW k with|some fs=>decide (([a,b,c]:List Tg).length=fs.length) && (List.zipWith (fun (f:Tg→Bool) t=>f t) fs [a,b,c]).all id|none=>false)=true
 rw [hk]
 show (f a && (g b && (h c && true)))=true
 rw [h1,h2,h3]
 rfl
theorem aH9 {x:Str} (h:Nm x):eX (.tup [.str "table",.str x])=true:=by
 show (aP (.str x) && true)=true
 rw [show aP (.str x)=true from h]
 rfl
theorem uV {x:Str} (h:Nm x):SzT (.tup [.str "table",.str x]) 1:=SzT.mk (t:=.tup [.str "table",.str x]) (aH9 h) (m:=0) .nil
theorem aE2 {q:Tg} {ts:List Tg} {n:Nat} (hq:SzT q n) (h:bN gM 1 3 (.tup ts)=true):SzT (.tup [.str "where",q,.tup ts]) (ts.length+n):=
 SzT.mk (t:=.tup [.str "where",q,.tup ts]) (aAe (f:=eU) (g:=bN gM 1 3) rfl rfl h) (eQ.mpr hq)
theorem aJ6 {q x:Tg} {n:Nat} (hq:SzT q n) (h:bN aP 1 8 x=true):SzT (.tup [.str "keep",q,x]) (1+n):=
 SzT.mk (t:=.tup [.str "keep",q,x]) (aAe (f:=eU) (g:=bN aP 1 8) rfl rfl h) (eQ.mpr hq)
theorem aFq {q x:Tg} {n:Nat} (hq:SzT q n) (h:bN aP 1 8 x=true):SzT (.tup [.str "named",q,x]) (1+n):=
 SzT.mk (t:=.tup [.str "named",q,x]) (aAe (f:=eU) (g:=bN aP 1 8) rfl rfl h) (eQ.mpr hq)
theorem aC9 {q r x:Tg} {n m:Nat} (hq:SzT q n) (hr:SzT r m) (h:bN (bN aP 2 2) 1 3 x=true):SzT (.tup [.str "join",q,r,x]) (1+(n+m)):=
 SzT.mk (t:=.tup [.str "join",q,r,x]) (rJ (f:=eU) (g:=eU) (h:=bN (bN aP 2 2) 1 3) rfl rfl rfl h) (.cons hq (eQ.mpr hr))
theorem aGt {q x y:Tg} {n:Nat} (hq:SzT q n) (h:bN aP 0 8 x=true) (h':bN nQ 0 4 y=true):SzT (.tup [.str "group",q,x,y]) (1+n):=
 SzT.mk (t:=.tup [.str "group",q,x,y]) (rJ (f:=eU) (g:=bN aP 0 8) (h:=bN nQ 0 4) rfl rfl h h') (eQ.mpr hq)
theorem aGs {q x y:Tg} {n:Nat} (hq:SzT q n) (h:bN mX 0 3 x=true) (h':oW y=true):SzT (.tup [.str "first",q,x,y]) (1+n):=
 SzT.mk (t:=.tup [.str "first",q,x,y]) (rJ (f:=eU) (g:=bN mX 0 3) (h:=oW) rfl rfl h h') (eQ.mpr hq)
theorem aX5 {H:Hp} {v:V} {q:Qn} (h:IsQ K H v q):∃t,bM K H v t∧SzT t (size q):=by
 induction h with
 |table a b=>exact ⟨_,.tup a (by show 2≤1000;decide) (.cons (.str (by decide +kernel)) (.cons (vA b) .nil)),uV b⟩
 |@whr a v q w ts ha _ c ih=>
  obtain ⟨t,h1,h2⟩:=ih
  obtain ⟨us,h3,h4,h5⟩:=oJ (fun _ _=>aY4) (by decide) c
  refine ⟨_,.tup ha (by show 3≤1000;decide) (.cons (.str (by decide +kernel)) (.cons h1 (.cons h3 .nil))),?_⟩
  rw [show size (.whr q ts)=us.length+size q by rw [h4];simp only [size];omega]
  exact aE2 h2 h5
 |@keep a v q w ns ha _ c ih=>
  obtain ⟨t,h1,h2⟩:=ih
  obtain ⟨us,h3,h4,h5⟩:=oJ (S:=aAv) (f:=aP) (fun _ _=>aV3) (by decide) c
  refine ⟨_,.tup ha (by show 3≤1000;decide) (.cons (.str (by decide +kernel)) (.cons h1 (.cons h3 .nil))),?_⟩
  rw [show size (.keep q ns)=1+size q by simp only [size];omega]
  exact aJ6 h2 h5
 |@nmd a v q w ns ha _ c ih=>
  obtain ⟨t,h1,h2⟩:=ih
  obtain ⟨us,h3,h4,h5⟩:=oJ (S:=aAv) (f:=aP) (fun _ _=>aV3) (by decide) c
  refine ⟨_,.tup ha (by show 3≤1000;decide) (.cons (.str (by decide +kernel)) (.cons h1 (.cons h3 .nil))),?_⟩
  rw [show size (.nmd q ns)=1+size q by simp only [size];omega]
  exact aFq h2 h5
 |@join a v q u r w ps ha _ _ c ih1 ih2=>
  obtain ⟨t,h1,h2⟩:=ih1
  obtain ⟨t',h1',h2'⟩:=ih2
  obtain ⟨us,h3,h4,h5⟩:=oJ (S:=aAd) (f:=bN aP 2 2) (fun _ _=>aWy) (by decide) c
  refine ⟨_,.tup ha (by show 4≤1000;decide) (.cons (.str (by decide +kernel)) (.cons h1 (.cons h1' (.cons h3 .nil)))),?_⟩
  rw [show size (.join q r ps)=1+(size q+size r) by simp only [size];omega]
  exact aC9 h2 h2' h5
 |@group a v q w ns u ss ha _ c d ih=>
  obtain ⟨t,h1,h2⟩:=ih
  obtain ⟨us,h3,h4,h5⟩:=oJ (S:=aAv) (f:=aP) (fun _ _=>aV3) (by decide) c
  obtain ⟨us',h3',h4',h5'⟩:=oJ (S:=wG) (f:=nQ) (fun _ _=>aWr) (by decide) d
  refine ⟨_,.tup ha (by show 4≤1000;decide) (.cons (.str (by decide +kernel)) (.cons h1 (.cons h3 (.cons h3' .nil)))),?_⟩
  rw [show size (.group q ns ss)=1+size q by simp only [size];omega]
  exact aGt h2 h5 h5'
 |@first a v q w ks m ha _ c d ih=>
  obtain ⟨t,h1,h2⟩:=ih
  obtain ⟨us,h3,h4,h5⟩:=oJ (S:=xR) (f:=mX) (fun _ _=>aXg) (by decide) c
  refine ⟨_,.tup ha (by show 4≤1000;decide) (.cons (.str (by decide +kernel)) (.cons h1 (.cons h3 (.cons .int .nil)))),?_⟩
  rw [show size (.first q ks m)=1+size q by simp only [size];omega]
  refine aGs h2 h5 ?_
  show (decide ((0:Int)≤(m:Int)) && decide ((m:Int)≤60))=true
  rw [decide_eq_true (by omega),decide_eq_true (by omega)]
  rfl
theorem aA2 (T:Txt w K mg):OkX P w K mg base 9 "head_within" ["heads","question"] (fun _ _ _ _=>False):=
 OkX.ofV T.aBb zT (fun vs H Q E h=>h.elim) (fun f cdv A outer s H vs Q E hr h=>h.elim)
def aOh (K:PySem.W.Frag) (mg:Str→Option Value):Sp:=fun vs H Q E=>∃d v t,vs=[.ref d,v]∧bM K H v t∧¬ Right t∧Rf mg .ques H E
theorem aE4 (T:Txt w K mg) (GX_head_within:OkX P w K mg base 9 "head_within" ["heads","question"] (fun _ _ _ _=>False)) (GX_checked:OkX P w K mg base 8 "checked" ["thing"] (tE K mg)):OkX P w K mg base 10 "head_of" ["heads","question"] (aOh K mg):=by
 refine OkX.ofV T.aL5 aJa (fun vs H Q E h=>?_) (fun f cdv A outer s H vs Q E hr h=>?_)
 ·obtain ⟨d,v,t,rfl,_⟩:=h;rfl
 obtain ⟨d,v,t,rfl,ht,hn,q⟩:=h
 refine ⟨_,(aL (aR (aG5 (GX_head_within.mono (by decide)) hr aNr (by rfl) (aB (vv 0) (aB (aG5 (GX_checked.mono (by decide)) hr aNr (by rfl) (aB (vv 1) aA)) aA))))),?_⟩
 exact ⟨_,rfl,_,rfl,v,t,rfl,ht,fun z=>absurd z hn,fun _=>q⟩
end
end My
namespace HT
open PySem PySem.Spec PyProof.Rows L2
section
variable {prog:Program} {w:World} {A:Around} {E:Value→Shared→Prop} {s:Shared}
theorem qQ {t sl:Addr} {items:Array Value} {vl vu:Value} {lo hi:Option Int} {Q:Value→Shared→Prop} (ht:IsTup s.heap t items) (hs:s.heap.IsSliceOf sl vl vu .none) (pl:IsPart vl lo) (pu:IsPart vu hi)
  (hw:sIx items.size 0 lo=0∧sIx items.size items.size hi=items.size) (h:Q (.ref t) s):wpAny (model prog w) A (getItem (.ref t) (.ref sl)) Q E s:=by
 obtain ⟨os,hos,hcs,hds⟩:=id hs
 have hTs:s.TypeIs (.ref sl) "slice":=⟨os,hos,hcs⟩
 obtain ⟨⟨cls,dd,data,slt⟩,ho,hc,n,hd⟩:=id ht
 simp only at hc hd
 subst hc hd
 unfold getItem
 try with_reducible refine wpAny_holding ?_
 first|refine wpAny_bind (wpAny_pure ?_)|skip
 refine wpAny_bind (wpAny_sequenceKey ht.typeIs (by decide) ?_)
 refine wpAny_bind (wpAny_callSpecial?_slot (name:=Str.ofString "__getitem__") ht.typeIs PyProof.Rows.slot_tuple_getitem
  (wpAny_call_entry PyProof.Rows.slot_tuple_getitem ht.typeIs entry_tuple_getitem ?_ (args_tuple_getitem _ _)))
 show wpAny _ _ (Builtin.Tuple.tupleItemsOf (.ref t) >>= _) _ _ s
 refine wpAny_bind (tupleItemsOf_ ht ?_)
 refine wpAny_bind (wpAny_typeOf hTs ?_)
 rw [if_pos (by decide)]
 refine wpAny_bind (mY hs pl pu ?_)
 have hyes:((((sIx items.size 0 lo:Nat):Int) == 0 && (1:Int) == 1 && (sIx items.size items.size hi - sIx items.size 0 lo) == items.size)=true):=by
  rw [hw.1,hw.2]
  simp
 show wpAny _ _ (if (((sIx items.size 0 lo:Nat):Int) == 0 && (1:Int) == 1 && (sIx items.size items.size hi - sIx items.size 0 lo) == items.size)=true then _ else _) _ _ s
 rw [if_pos hyes]
 obtain ⟨hp,g,d,tk,os'⟩:=s
 wp_walk using AutoSeq1.wpAny_loadPart' ho
 exact ⟨_,rfl,wpAny_pure h⟩
end
end HT
namespace L2
open PySem PySem.Spec PyProof.Rows
def aYg (K:PySem.W.Frag):V→Option Int→Option Int→Hp→VK→Prop:=fun x lo hi H Q=>∃a xs,x=.ref a∧SqT K H a xs∧∀p H',Same H H'→SqT K H' p (pD xs lo hi)→Q (.ref p) H'
theorem aQ5 {X:Cx}:SlR X (aYg X.K):=by
 intro pins s σ H x v vl vu lo hi sl Q I rx hs pl pu h
 obtain ⟨a,xs,rfl,hx,q⟩:=h
 by_cases hw:HT.sIx xs.length 0 lo=0∧HT.sIx xs.length xs.length hi=xs.length
 ·cases rx
  obtain ⟨its,r,ht,hz⟩:=I.tuple hx
  have hlen:its.toArray.size=xs.length:=by rw [List.size_toArray];exact r.length.symm
  refine ⟨"tuple",_,PyProof.Rows.slot_tuple_getitem.lookup,ht.typeIs,?_⟩
  refine HT.qQ ht hs pl pu (by rw [hlen];exact hw) ⟨.ref a,H,I,rfl,q a H (Same.refl H) ?_⟩
  have e:pD xs lo hi=xs:=by
   unfold pD
   rw [hw.1,hw.2,List.drop_zero,Nat.sub_zero,List.take_length]
  rw [e]
  exact hx
 ·exact aDz pins s σ H _ v vl vu lo hi sl Q I rx hs pl pu ⟨a,xs,rfl,hx,hw,fun p H' s' g'=>q p H' s' (SqT.of g')⟩
def aYf (K:PySem.W.Frag):R2:=fun x y H Q=>∃(a b:Addr) (xs:List V),x=.ref a∧y=.ref b∧SqL K H a xs∧SqL K H b []∧Q (.bl xs.isEmpty) H
theorem aU5 {X:Cx} (hu:X.A.units<cLine):OpR X (compareOp .Eq) (aYf X.K):=by
 intro pins s σ H x y v u Q I rx ry h
 obtain ⟨a,b,xs,rfl,rfl,ha,hb,q⟩:=h
 cases rx
 cases ry
 obtain ⟨its,rv,pl,hz⟩:=I.list ha
 obtain ⟨jts,rw',pm,hw⟩:=I.list hb
 have e1:=rv.length
 have e2:=rw'.length
 have ej:jts=[]:=List.length_eq_zero_iff.mp e2.symm
 subst ej
 cases xs with
 |nil=>
  have ei:its=[]:=List.length_eq_zero_iff.mp e1.symm
  subst ei
  refine SeqAt.RcAt.lists (e:=fun _=>true) pl.isList pm.isList rfl hu (fun j h1 h2=>by simp at h1) _ _ _ _ ?_
  exact ⟨.bl true,H,I,rfl,q⟩
 |cons y ys=>
  refine SeqAt.RcAt.lists_lengths pl.isList pm.isList ?_ hu _ _ _ _ ?_
  ·rw [List.length_cons] at e1
   simp only [List.size_toArray,List.length_nil]
   rw [←e1]
   simp
  ·exact ⟨.bl false,H,I,rfl,q⟩
section
variable {X:Cx}
end
inductive PH (P:Program) (w:World):List DictEntry→List (Str × Value)→Prop
 |nil:PH P w [] []
 |cons {e:DictEntry} {kv:Str × Value} {es:List DictEntry} {kvs:List (Str × Value)}:(strKind P w).is kv.1 e.key=true→e.hash=(strKind P w).hash kv.1→e.val=kv.2→PH P w es kvs→PH P w (e::es) (kv::kvs)
theorem PH.keys {P:Program} {w:World} {es:List DictEntry} {kvs:List (Str × Value)} (h:PH P w es kvs):∀e∈es,∃k,(strKind P w).is k e.key=true∧e.hash=(strKind P w).hash k:=by
 induction h with
 |nil=>intro e he;cases he
 |cons a b c _ ih=>
  intro e he
  rcases List.mem_cons.mp he with rfl|he
  ·exact ⟨_,a,b⟩
  ·exact ih e he
theorem PH.pairs {P:Program} {w:World} {es:List DictEntry} {kvs:List (Str × Value)} (h:PH P w es kvs):Pairs (strKind P w) es kvs:=by
 induction h with
 |nil=>exact .nil
 |cons a b c _ ih=>exact .cons a c ih
theorem aLy {P:Program} {w:World} {o:Obj} {es:Array DictEntry} {ep:Nat} {kvs:List (Str × Value)} (hx:o.ExactDict) (hd:o.data=.dict es ep) (h:PH P w es.toList kvs) (nd:(kvs.map (·.1)).Nodup):o.IsDictOf (strKind P w) kvs:=
 ⟨es,ep,hx,hd,fun e he=>h.keys e (Array.mem_toList_iff.mpr he),h.pairs,nd⟩
end L2
namespace PySem
theorem xP:typeLookup (.type "tuple") "keys"=pure none:=am_miss_of_fast (by decide +kernel)
section
variable {prog:Program} {w:World} {A:Around} {E:Value→Shared→Prop} {s:Shared}
theorem aEo {a:Addr} {o:Obj} {xs:Array Value} {k:Nat} {Q:Option Value→Shared→Prop} (hx:s.heap.get? a=some o) (hc:o.cls=.type "tuple") (hdat:o.data=.seq xs k) (hd:o.dict=none) (hA:A.handled=none)
  (h:∀h' tk,(∀b u,s.heap.get? b=some u→h'.get? b=some u)→Q none { s with heap:=h',toks:=tk }):wpAny (model prog w) A (getAttr? (.ref a) "keys") Q E s:=by
 obtain ⟨c,dct,dat,sl⟩:=o
 simp only at hc hdat hd
 subst hc hdat hd
 obtain ⟨hp,g,d,tk,os⟩:=s
 have hT:∀tk',(⟨hp,g,d,tk',os⟩:Shared).TypeIs (.ref a) "tuple":=fun _=>⟨_,hx,rfl⟩
 have f1:=sub_AttributeError
 have f3:=F.slot_tuple_getattribute.lookup
 have f4:=F.slot_tuple_getattribute.bind (.ref a)
 have f5:=am_tuple_getattr_none
 unfold getAttr? getAttrBy? getAttrBy
 repeat (any_goals (first|assumption|exact hT _|((with_reducible show wpAny _ _ (call (Value.builtin "tuple.__getattribute__") _ _) _ _ _);refine call_meets F.slot_tuple_getattribute (hT _) am_entry_tuple_getattribute (F.args_tuple_getattribute_2 _ _) (meets_getattribute_miss_tuple a xs k sl "keys" _ xP (by decide +kernel) (by size_fits)) ⟨hx,hA,fun h' tk' e hx'=>?_⟩)|wp_step))
 obtain ⟨t',u',he⟩:=hx'.there
 show wpAny _ _ (getattributeRaised _ _ _ _ _ _ _) _ _ _
 unfold getattributeRaised
 repeat (any_goals (first|assumption|wp_step))
 exact h _ _ hx'.keeps
end
end PySem
namespace PySem
theorem iM:entryFor table "dict.update.loop"=some Builtin.«dict.update.loop»:=entryFor_of_tree (by kernel_rfl)
theorem dI:plainId "dict.update.loop"=true:=by decide +kernel
section
variable {prog:Program} {w:World} {κ:Type} [DecidableEq κ] {knd:KeyKind prog w κ}
def sI (knd:KeyKind prog w κ) (h:Heap) (v:Value) (kv:κ × Value):Prop:=∃p key,v=.ref p∧PyProof.Rows.IsTup h p #[key,kv.2]∧knd.is kv.1 key=true
theorem sI.at {h h':Heap} {v:Value} {kv:κ × Value} (x:sI knd h v kv) (k:∀p,v=.ref p→∀o,h.get? p=some o→h'.get? p=some o):sI knd h' v kv:=by
 obtain ⟨p,key,rfl,⟨o,ho,r⟩,hk⟩:=x
 exact ⟨p,key,rfl,⟨o,k p rfl o ho,r⟩,hk⟩
theorem xX {A:Around} {R:Result→Shared→Prop} {I:Addr} {fp wr:List Addr} {n:Nat} {P:Nat→Value→Prop} {St:Nat→Heap→Prop} (W:Walks prog w A.in1 I fp wr n P St) (D:Addr) (hD:D∉fp)
  (kvs:List (κ × Value)) (hlen:kvs.length=n) (hb:n≤1000) (hP:∀i v,P i v→∀p,v=.ref p→p∉D::wr) :
  ∀(k i:Nat) (s:Shared) (t:Tok),i+k=n→St i s.heap→s.heap.DictOf knd D (merged [] (kvs.take i))→(∀j v kv,P j v→kvs[j]?=some kv→sI knd s.heap v kv) →
   (∀h' tk,(∀b o,b∉D::wr→s.heap.get? b=some o→h'.get? b=some o)→h'.DictOf knd D (merged [] kvs)→R (.ok (.ret .none)) { s with heap:=h',toks:=tk }) →
   codeAny (model prog w) A (.builtin "dict.update.loop" ⟨[.ref D,.ref I,.int (i:Nat) t,.none],[]⟩) R s:=by
 have hDw:D∉wr:=fun q=>hD (W.sub _ q)
 intro k
 induction k with
 |zero=>
  intro i s t hi st hd hp q
  obtain rfl:i=n:=by omega
  refine codeAny_builtin iM ?_
  rw [Around.under_plainId dI _]
  show wpAny _ A.in1 (pyNext (.ref I) >>= _) _ _ _
  refine wpAny_bind (W.done s _ _ st fun h' tk kp=>?_)
  show wpAny _ _ (Builtin.Dict.addKeywords D [] >>= _) _ _ _
  refine wpAny_bind (wpAny_pure (wpAny_pure (q h' tk (fun b o nb e=>kp b o (fun z=>nb (List.mem_cons_of_mem _ z)) e) ?_)))
  rw [List.take_of_length_le (Nat.le_of_eq hlen)] at hd
  exact hd.at fun o e=>kp D o hDw e
 |succ k ih=>
  intro i s t hi st hd hp q
  refine codeAny_builtin iM ?_
  rw [Around.under_plainId dI _]
  show wpAny _ A.in1 (pyNext (.ref I) >>= _) _ _ _
  refine wpAny_bind (W.item i s _ _ (by omega) st fun v h1 tk1 hv st1 kp1=>?_)
  have hlt:i<kvs.length:=by omega
  have hkv:=List.getElem?_eq_getElem hlt
  have hd1:h1.DictOf knd D (merged [] (kvs.take i)):=hd.at fun o e=>kp1 D o hDw e
  have hp1:∀j v kv,P j v→kvs[j]?=some kv→sI knd h1 v kv:=fun j v kv pj e=>(hp j v kv pj e).at fun p ev o eo=>kp1 p o (fun z=>hP j v pj p ev (List.mem_cons_of_mem _ z)) eo
  obtain ⟨p,key,rfl,⟨⟨oc,od,ox,osl⟩,ho,hc,m,hx⟩,hk⟩:=hp1 i v _ hv hkv
  simp only at hc hx
  subst hc hx
  have hml:(merged [] (kvs.take i)).length≤i:=by
   have:=merged_length_le [] (kvs.take i)
   rw [List.length_take] at this
   simp only [List.length_nil] at this
   omega
  obtain ⟨hp0,g,d,tk,os⟩:=s
  have hT:(⟨h1,g,d,tk1,os⟩:Shared).TypeIs (.ref p) "tuple":=⟨_,ho,rfl⟩
  have hpi:∀(Q:List Value→Shared→Prop) (E:Value→Shared→Prop),Q [key,kvs[i].2] ⟨h1,g,d,tk1,os⟩→wpAny (model prog w) A.in1 (Builtin.Dict.pairItems (.ref p)) Q E ⟨h1,g,d,tk1,os⟩:=by
   intro Q E h
   unfold Builtin.Dict.pairItems
   wp_walk
   exact h
  show wpAny _ A.in1 (holding [.ref p] _ >>= _) _ _ ⟨h1,g,d,tk1,os⟩
  refine wpAny_bind (wpAny_holding (wpAny_bind (wpAny_tryCatch (hpi _ _ ?_))))
  show wpAny _ A.in1 (holding [key,kvs[i].2] (dictSet D key kvs[i].2)) _ _ ⟨h1,g,d,tk1,os⟩
  refine wpAny_holding (wpAny_dictSet_pairs (s:=⟨h1,g,d,tk1,os⟩) hk hd1 (fun h2 hd2 sb2=>?_) (Nat.le_trans hml (Nat.le_trans (by omega) (show 1000≤sizeLine by decide))))
  have e1:merged [] (kvs.take (i+1))=stored (merged [] (kvs.take i)) kvs[i].1 kvs[i].2:=merged_take_succ [] kvs i _ hkv
  rw [←e1] at hd2
  refine wpAny_pure ⟨plainId_quiet dI _,?_⟩
  have kp2:∀b o,b∉D::wr→hp0.get? b=some o→h2.get? b=some o:=fun b o nb e=>by
   rw [sb2.2 b (fun z=>nb (by rw [z];exact List.mem_cons_self))]
   exact kp1 b o (fun z=>nb (List.mem_cons_of_mem _ z)) e
  refine ih (i+1) _ _ (by omega) (W.frame _ _ _ st1 fun b hb o e=>?_) hd2 (fun j v kv pj e=>(hp1 j v kv pj e).at fun p' ev o eo=>?_) fun h' tk' kp hd'=>q h' tk' (fun b o nb e=>kp b o nb (kp2 b o nb e)) hd'
  ·rw [sb2.2 b (fun z=>hD (by rw [←z];exact hb))]
   exact e
  ·rw [sb2.2 p' (fun z=>hP j v pj p' ev (by rw [z];exact List.mem_cons_self))]
   exact eo
end
end PySem
namespace PySem
section
variable {prog:Program} {w:World} {κ:Type} [DecidableEq κ] {knd:KeyKind prog w κ} {A:Around} {E:Value→Shared→Prop} {s:Shared}
theorem xU {t:Addr} {its:Array Value} {kvs:List (κ × Value)} {Q:Value→Shared→Prop} (hh:A.handled=none) (ht:PyProof.Rows.IsTup s.heap t its) (hd:∀o,s.heap.get? t=some o→o.dict=none) (hlen:kvs.length=its.size) (hb:its.size≤1000)
  (hp:∀(j:Nat) (v:Value) (kv:κ × Value),its[j]?=some v→kvs[j]?=some kv→sI knd s.heap v kv)
  (q:∀h' tk,h'.DictOf knd s.heap.objs.size (merged [] kvs)→(∀b o,s.heap.get? b=some o→h'.get? b=some o)→Q (.ref s.heap.objs.size) { s with heap:=h',toks:=tk }) :
  wpAny (model prog w) A (call (.type "dict") [.ref t]) Q E s:=by
 refine callType_codes (Q₁:=fun obj s₁=>obj=.ref s.heap.objs.size∧s₁={ s with heap:=s.heap.push { cls:=.type "dict",data:=.dict #[] } }) F.kt_called_dict (F.kt_typeCall_dict_1 _) F.entry_dict_init (kt_code_dict_new _ ⟨rfl,rfl⟩) ?_
 rintro obj s₁ ⟨rfl,rfl⟩
 have hnew:(s.heap.push { cls:=.type "dict",data:=.dict #[] }).DictOf knd s.heap.objs.size []:=Heap.DictOf.new s.heap
 obtain ⟨o,ho,hc,n,hx⟩:=id ht
 have hod:=hd o ho
 have ho1:(s.heap.push { cls:=.type "dict",data:=.dict #[] }).get? t=some o:=Heap.get?_push_of_some _ ho
 have hT:Shared.TypeIs { s with heap:=s.heap.push { cls:=.type "dict",data:=.dict #[] } } (.ref t) "tuple":=⟨o,ho1,hc⟩
 have hlt:t<s.heap.objs.size:=Heap.lt_size ho
 refine ⟨hnew.typeIs,F.args_dict_init_2 _ _,?_⟩
 unfold Builtin.«dict.__init__»
 refine wpAny_bind ?_
 unfold Builtin.Dict.selfAndRest
 refine wpAny_bind (wpAny_notOrdered_dict hnew.typeIs ?_)
 show wpAny _ _ (pure (s.heap.objs.size,[Value.ref t])) _ _ _
 refine wpAny_pure ?_
 show wpAny _ _ (Builtin.Dict.updateFrom "dict.__init__" s.heap.objs.size (.ref t) [] .none) _ _ _
 unfold Builtin.Dict.updateFrom
 refine wpAny_bind (wpAny_typeOf hT ?_)
 rw [if_pos (by decide)]
 refine wpAny_bind (aEo ho1 hc hx hod (by first|exact hh|simp [hh]) fun h2 tk2 kp2=>?_)
 rw [if_pos (show (none:Option Value).isNone=true from rfl)]
 have ho2:h2.get? t=some o:=kp2 _ _ ho1
 have ht2:h2.IsTuple t its:=⟨o,ho2,hc,n,hx⟩
 refine wpAny_bind (wpAny_rule (wpAny_bind (wpAny_pyIter_tuple ht2 ?_)))
 have hs1:(s.heap.push { cls:=.type "dict",data:=.dict #[] }).objs.size=s.heap.objs.size+1:=Heap.size_push ..
 have hs2:s.heap.objs.size<h2.objs.size:=by
  obtain ⟨od,_,_,hg,_⟩:=id hnew
  exact Heap.lt_size (kp2 _ _ hg)
 refine wpAny_pure ⟨plainId_quiet dI _,?_⟩
 have hne:t≠h2.objs.size:=Nat.ne_of_lt (Nat.lt_trans hlt hs2)
 refine xX (knd:=knd) (Walks.tuple (by first|exact hh|simp [hh]) _ t hne its) s.heap.objs.size ?_ kvs hlen hb ?_ its.size 0 _ _ (by omega) ⟨⟨_,Heap.get?_push_size _ rfl,rfl,rfl⟩,ht2.push _⟩ ?_ ?_ fun h' tk kp hd'=>?_
 ·simp only [List.mem_cons,List.not_mem_nil,or_false,not_or]
  exact ⟨Nat.ne_of_lt hs2,Nat.ne_of_gt hlt⟩
 ·intro j v e p ev
  have hj:j<kvs.length:=by
   rw [hlen]
   exact (Array.getElem?_eq_some_iff.mp e).1
  obtain ⟨p',key,ev',⟨o',ho',_⟩,_⟩:=hp j v _ e (List.getElem?_eq_getElem hj)
  rw [ev] at ev'
  cases ev'
  have:=Heap.lt_size ho'
  simp only [List.mem_cons,List.not_mem_nil,or_false,not_or]
  exact ⟨Nat.ne_of_lt this,Nat.ne_of_lt (Nat.lt_trans this hs2)⟩
 ·exact (hnew.at fun o e=>kp2 _ _ e).at fun o e=>Heap.get?_push_of_some _ e
 ·intro j v kv e ek
  exact (hp j v kv e ek).at fun p _ o eo=>Heap.get?_push_of_some _ (kp2 _ _ (Heap.get?_push_of_some _ eo))
 ·refine ⟨rfl,q h' tk hd' fun b o e=>kp b o ?_ (Heap.get?_push_of_some _ (kp2 _ _ (Heap.get?_push_of_some _ e)))⟩
  have:=Heap.lt_size e
  simp only [List.mem_cons,List.not_mem_nil,or_false,not_or]
  exact ⟨Nat.ne_of_lt this,Nat.ne_of_lt (Nat.lt_trans this hs2)⟩
end
end PySem
namespace PySem
open PySem.Calls PyProof.Rows
section
variable {prog:Program} {w:World} {κ:Type} [DecidableEq κ] {knd:PySem.KeyKind prog w κ} {A:Around} {E:Value→Shared→Prop} {s:Shared}
theorem aKs (nm:κ→Str):∀(kvs:List (κ × Value)) (vs:List Value),vs.length=kvs.length→(∀(j:Nat) (v:Value),vs[j]?=some v→∃kv t,kvs[j]?=some kv∧v=.str (nm kv.1) t)→StrsAre vs (kvs.map fun kv=>nm kv.1)
 |[],[],_,_=>.nil
 |kv::kvs,v::vs,hl,h=>by
  obtain ⟨kv',t,e,rfl⟩:=h 0 v rfl
  cases e
  exact .cons _ t (aKs nm kvs vs (by simpa using hl) fun j v e=>h (j+1) v (by simpa using e))
theorem vV {d:Addr} {kvs:List (κ × Value)} {Q:Value→Shared→Prop} (nm:κ→Str) (hh:A.handled=none) (lo:(d == sysModules)=false) (hm:s.heap.DictOf knd d kvs) (htx:∀k v,knd.is k v=true→(∃x,(k,x)∈kvs)→∃t,v=Value.str (nm k) t) (h64:kvs.length<64)
  (q:∀(h1 h':Heap) (tk:Nat) (B:Addr) (vs:List Value) (ss:List Str) (e:Nat),StrsAre vs ss→ss.Perm (kvs.map fun kv=>nm kv.1)→h'.get? B=some (seqObj "list" vs.toArray e)→(∀b o,s.heap.get? b=some o→h1.get? b=some o)→(∀b o,h1.get? b=some o→h'.get? b=some o)→h1.objs.size≤B→Q (.ref B) { s with heap:=h',toks:=tk }) :
  wpAny (model prog w) A (call (.builtin "sorted") [.ref d]) Q E s:=by
 obtain ⟨ep,hat⟩:=hm.dictAt
 refine call_function_entry kind_sorted plain_sorted entry_sorted (args_sorted1 _) ?_
 unfold Builtin.«sorted»
 refine wpAny_bind (m:=checkCount "sorted" 1 1 _) (wpAny_pure ?_)
 refine wpAny_bind (PySem.W.kdu_collect (A:=A.in1) (PySem.W.kdl_dict (knd:=knd) (kvs:=kvs) (ep:=ep) lo) hh hat (by rw [sizeLine_eq];omega) fun h' tk acc hk hacc=>?_)
 have hl:acc.toList.length=kvs.length:=by rw [Array.length_toList];exact hacc.1
 have hS:StrsAre acc.toList (kvs.map fun kv=>nm kv.1):=aKs nm kvs _ hl fun j v e=>by
  obtain ⟨k,x,hx,hi⟩:=hacc.2 j v (by rw [←Array.getElem?_toList];exact e)
  obtain ⟨t,rfl⟩:=htx k v hi ⟨x,List.mem_of_getElem? hx⟩
  exact ⟨(k,x),t,hx,rfl⟩
 refine wpAny_bind (wpAny_newList ?_ (by rw [sizeLine_eq];omega))
 have hoL:(h'.push (seqObj "list" acc.toList.toArray 0)).get? h'.objs.size=some (seqObj "list" acc.toList.toArray 0):=Heap.get?_push_size _ rfl
 refine wpAny_bind (wpAny_holding (wpAny_call_entry slot_list_sort ⟨_,hoL,rfl⟩ entry_list_sort (list_sort_treeK strKind_oneLt hoL hS.keysOf (fun v₁ v₂ rest e=>keyKind_strs (by rw [←e];exact hS)) (by rw [hl];exact h64) fun st' a1 a2=>⟨_,rfl,?_⟩) (args_list_sort _)))
 obtain ⟨ss',b1,b2,b3⟩:=sorted_out_str hS a1 a2
 obtain ⟨e,he⟩:=sortedHeap_at (out:=(arrOf st').map (·.2)) hoL
 refine wpAny_pure ⟨_,rfl,q h' _ tk h'.objs.size ((arrOf st').map (·.2)).toList ss' e b1 b2 (by rw [Array.toArray_toList];exact he) hk (fun b o hb=>?_) (Nat.le_refl _)⟩
 have hlt:=Heap.lt_size hb
 show (sortedHeap (h'.push (seqObj "list" acc.toList.toArray 0)) h'.objs.size acc.toList ((arrOf st').map (·.2))).get? b=some o
 rw [sortedHeap_old (Nat.ne_of_lt hlt) (by rw [size_push'];exact Nat.lt_succ_of_lt hlt)]
 exact Heap.get?_push_of_some _ hb
end
end PySem
namespace L2
open PySem PySem.Spec PyProof.Rows
section
variable {X:Cx}
abbrev aNl (K:PySem.W.Frag) (H:Hp):List V→List (Key × V)→Prop:=Paired fun u kv=>∃p,u=.ref p∧SqT K H p [kV kv.1,kv.2]
theorem aUh {pins:List (Addr × Obj)} {σ:L2.St} {H:Hp} {s:Shared} (I:Inv X pins σ H s) {us:List V} {kvs:List (Key × V)} (h:aNl X.K H us kvs):∀{its:List Value},Vals us its →
  ∃vs:List (Key × Value),KV kvs vs∧vs.length=its.length∧∀(j:Nat) (v:Value) (kv:Key × Value),its[j]?=some v→vs[j]?=some kv→sI (dR X.prog X.w) s.heap v kv:=by
 induction h with
 |nil=>
  intro its hv
  cases hv
  exact ⟨[],.nil,rfl,fun j v kv e _=>by simp at e⟩
 |@cons u kv us kvs r t ih=>
  intro its hv
  cases hv with
  |cons q z=>
   obtain ⟨p,rfl,hp⟩:=r
   cases q
   obtain ⟨ks,rv,pl,hz⟩:=I.tuple hp
   obtain ⟨vs,h1,h2,h3⟩:=ih z
   obtain ⟨key,val,rfl,rk,rx⟩:=vals2 rv
   refine ⟨(kv.1,val)::vs,.cons ⟨rfl,rx⟩ h1,by rw [List.length_cons,List.length_cons,h2],fun j v kv' e e'=>?_⟩
   cases j with
   |zero=>
    cases e
    cases e'
    exact ⟨p,key,rfl,pl,aKo rk⟩
   |succ j=>exact h3 j v kv' (by simpa using e) (by simpa using e')
def aTl (K:PySem.W.Frag):List V→Hp→VK→Prop:=fun xs H Q=>∃t us kvs,xs=[.ref t]∧SqT K H t us∧aNl K H us kvs∧us.length≤1000∧∀p H',H p=none→Same H H'→H' p=some (.dK (oM [] kvs))→Q (.ref p) H'
theorem aJd (hc:X.calm=true):cV X (.type "dict") (aTl X.K):=by
 intro pins s σ H xs us Q I r h
 obtain ⟨t,us,kvs,rfl,ht,hp,hl,q⟩:=h
 obtain ⟨u,rfl,ru⟩:=vals1 r
 cases ru
 obtain ⟨its,rv,⟨tp,nd⟩,hz⟩:=I.aYj ht
 have e1:=rv.length
 obtain ⟨vs,h1,h2,h3⟩:=aUh I hp rv
 have lk:=KV.length h1
 refine xU (knd:=dR X.prog X.w) (kvs:=vs) (I.ok.hd hc) tp nd (by rw [List.size_toArray];exact h2) (by rw [List.size_toArray];omega) (fun j v kv e e'=>h3 j v kv (by simpa using e) e') fun h' tk hd kp=>?_
 have hf:H s.heap.objs.size=none:=I.hok.fresh (Nat.le_refl _)
 refine ⟨.ref s.heap.objs.size,_,I.laid (t':=tk) (o:=.dK (oM [] kvs)) kp (Nat.le_refl _) ?_,rfl,q _ _ hf (cC hf _) aO⟩
 have lm:=qU kvs []
 simp only [List.length_nil] at lm
 exact ⟨small (by omega),beq_eq_false_iff_ne.mpr (Ne.symm (Nat.ne_of_lt I.big)),_,KV.merge h1 .nil,hd⟩
theorem aAx:∀(kvs acc:List (Key × V)),((acc++kvs).map (·.1)).Nodup→oM acc kvs=acc++kvs
 |[],acc,_=>by simp [oM]
 |kv::r,acc,h=>by
  have hn:nC acc kv.1=none:=by
   cases e:nC acc kv.1 with
   |none=>rfl
   |some v=>
    exfalso
    have:=aKe e
    rw [List.map_append,List.nodup_append] at h
    exact h.2.2 _ this _ (by rw [List.map_cons];exact List.mem_cons_self ..) rfl
  show oM (putK acc kv.1 kv.2) r=_
  rw [aGe _ hn,aAx r _ (by rw [List.append_assoc];exact h),List.append_assoc]
  rfl
theorem aMr {kvs:List (Key × V)} (h:(kvs.map (·.1)).Nodup):oM [] kvs=kvs:=aAx kvs [] h
def aUr:List V→Hp→VK→Prop:=fun xs H Q=>∃(d:Addr) (kvs:List (Key × V)) (ns:List Str),xs=[.ref d]∧H d=some (.dK kvs)∧kvs.map (·.1)=(ns.map fun n=>(Sum.inr n:Key))∧kvs.length<64∧∀(p:Addr) (H':Hp) (ss:List Str),H p=none→Same H H'→ss.Perm ns→H' p=some (.lst (ss.map V.str))→Q (.ref p) H'
theorem aCf:∀{vs:List Value} {ss:List Str},StrsAre vs ss→Vals (ss.map V.str) vs
 |_,_,.nil=>.nil
 |_,_,.cons x t h=>.cons ⟨t,rfl⟩ (aCf h)
theorem aHv (hc:X.calm=true):cV X (.builtin "sorted") aUr:=by
 intro pins s σ H xs us Q I r h
 obtain ⟨d,kvs,ns,rfl,hd,hk,h64,q⟩:=h
 obtain ⟨u,rfl,ru⟩:=vals1 r
 cases ru
 obtain ⟨z,hm,vs,rel,dd⟩:=aS4 I.hok hd
 have lk:=KV.length rel
 have ek:=KV.keys rel
 let nm:Key→Str:=fun k=>match k with|.inr n=>n|.inl _=>⟨#[]⟩
 have enm:(vs.map fun kv=>nm kv.1)=ns:=by
  have:(vs.map fun kv=>nm kv.1)=(vs.map (·.1)).map nm:=by rw [List.map_map];rfl
  rw [this,←ek,hk,List.map_map]
  exact List.map_id _
 refine vV (knd:=dR X.prog X.w) nm (I.ok.hd hc) hm dd (fun k v hi hx=>?_) (by omega) fun h1 h' tk B vs' ss e hS hp hB kp1 kp2 hle=>?_
 ·obtain ⟨x,hx⟩:=hx
  have hkm:k∈kvs.map (·.1):=by rw [ek];exact List.mem_map.mpr ⟨_,hx,rfl⟩
  rw [hk] at hkm
  obtain ⟨n,_,rfl⟩:=List.mem_map.mp hkm
  cases v with
  |str x t=>
   have e:x=n:=by simpa [dR,aA7,Value.isStrOf] using hi
   exact ⟨t,by rw [e]⟩
  |_=>exact absurd (show false=true from hi) Bool.false_ne_true
 ·rw [enm] at hp
  have I1:Inv X pins σ H { s with heap:=h1,toks:=tk }:=I.kept (t':=tk) kp1
  have hf:H B=none:=I1.hok.fresh hle
  refine ⟨.ref B,_,I1.laid (t':=tk) (o:=.lst (ss.map V.str)) kp2 hle ?_,rfl,q B _ ss hf (cC hf _) hp aO⟩
  have hv:=aCf hS
  have l1:=hp.length_eq
  have l2:ns.length=kvs.length:=by have:=congrArg List.length hk;simpa using this.symm
  exact ⟨small (by rw [List.length_map];omega),vs',e,hv,hB⟩
end
section
variable {X:Cx} {e st:Expr} {te ts:TE} {pos p2:Pos}
end
section
variable {X:Cx} {o i value:Expr} {td ty tv:TE} {pos pos':Pos}
theorem aR0 (hu:X.A.units+1<cLine) (ho:VE X o td) (hi:VE X i ty) (hv:VE X value tv) (hs:swapsWith value (some (.Subscript o i pos')) pos.line X.env=pure false:=by rfl):VS X (.Assign [.Subscript o i pos'] value pos) (aTa td ty tv):=⟨aQn hu ho.1 hi.1 hv.1 hs⟩
theorem SqT.aY5 {K:PySem.W.Frag} {H:Hp} {a D:Addr} {xs:List V} {kvs:List (Key × V)} {u:HO} (hD:H D=some (.dK kvs)) (h:SqT K H a xs):SqT K (upd H D u) a xs:=by
 rcases h with (h|⟨o,h⟩)|h
 ·exact .inl (.inl (by rw [bA (pP h hD (by intro z;cases z))];exact h))
 ·exact .inl (.inr ⟨o,by rw [bA (pP h hD (by intro z;cases z))];exact h⟩)
 ·exact .inr h
end
theorem aT9 {X:Cx} {pos:Pos} {o i:Expr} {to ti:TE} {t:aR3} (ho:VE X o to) (hi:VE X i ti) (hs:aT2 X t)
  (ha:∀v,assign (.Subscript o i pos) X.env v=(do
   let ov ←holding [v] (eval o X.env)
   let iv ←holding [v,ov] (eval i X.env)
   standAt pos
   holding [v,ov,iv] (setItem ov iv v)
   release [v,ov,iv] []):=by intro _;rfl):VG X (.Subscript o i pos) (aXn to ti t):=⟨aTs ho.1 hi.1 hs ha⟩
theorem xF {X:Cx}:MtR X "list.reverse" aGr:=aJq
abbrev M61:Int:=2305843009213693951
def gW (H:Hp) (a:Addr):Prop:=∃s:Int,H a=some (.lst [.int s])∧0≤s∧s<M61
structure Fx (a:Addr) (H H':Hp):Prop where
 same:∀b o,b≠a→H b=some o→H' b=some o
 st:gW H' a
theorem Fx.trans {a:Addr} {H H1 H2:Hp} (f:Fx a H H1) (g:Fx a H1 H2):Fx a H H2:=⟨fun b o n e=>g.same b o n (f.same b o n e),g.st⟩
theorem gW.same {a:Addr} {H H':Hp} (h:gW H a) (e:Same H H'):gW H' a:=by
 obtain ⟨s,h1,h2⟩:=h
 exact ⟨s,e _ _ h1,h2⟩
theorem Fx.of {a:Addr} {H H':Hp} (h:gW H a) (e:Same H H'):Fx a H H':=⟨fun b o _ q=>e b o q,h.same e⟩
theorem Fx.refl {a:Addr} {H:Hp} (h:gW H a):Fx a H H:=.of h (Same.refl H)
theorem Fx.sm {a:Addr} {H H1 H2:Hp} (f:Fx a H H1) (e:Same H1 H2):Fx a H H2:=f.trans (.of f.st e)
theorem gW.ne {a p:Addr} {H:Hp} (h:gW H a) (f:H p=none):p≠a:=by
 obtain ⟨s,h1,_⟩:=h
 exact (bH h1 f).symm
theorem Fx.bB {K:PySem.W.Frag} {a p:Addr} {H H':Hp} {xs:List V} (f:Fx a H H') (h:gW H a) (e:SqT K H p xs):SqT K H' p xs:=by
 obtain ⟨s,h1,_⟩:=h
 rcases e with (e|⟨o,e⟩)|e
 ·exact .inl (.inl (f.same p _ (pP e h1 (by intro z;cases z)) e))
 ·exact .inl (.inr ⟨o,f.same p _ (pP e h1 (by intro z;cases z)) e⟩)
 ·exact .inr e
theorem Fx.upd {a D:Addr} {H H':Hp} {o:HO} (f:Fx a H H') (hD:H D=none) (ne:D≠a):Fx a H (L2.upd H' D o):=⟨fun b u n e=>by rw [bA (bH e hD)];exact f.same b u n e,by
 obtain ⟨s,h1,h2⟩:=f.st
 exact ⟨s,by rw [bA ne.symm];exact h1,h2⟩⟩
theorem Fx.free {a p:Addr} {H H':Hp} (f:Fx a H H') (h:H' p=none):H p=none:=by
 cases e:H p with
 |none=>rfl
 |some o=>
  by_cases z:p=a
  ·subst z
   obtain ⟨s,hs,_⟩:=f.st
   rw [hs] at h;cases h
  ·rw [f.same p o z e] at h;cases h
theorem aS9 {a:Addr} {H:Hp} (h:gW H a):aQx (Fx a) H:=⟨fun D o hD=>.of h (cC hD o),fun a b=>a.trans b,fun D o H' hD f=>f.upd hD (h.ne hD),fun D H1 H2 xs hD _ e f=>f.same _ _ (h.ne hD) e⟩
end L2
namespace My
open PySem PySem.Spec PyProof.Rows L2
section
variable {P:Program} {w:World} {K:PySem.W.Frag} {mg:Str→Option Value} {base:Heap}
theorem aK6 {z:Str} {j:Int} (h0:0≤j) (h1:j<z.length):∃c,z.cps[j.toNat]?=some c:=
 ⟨_,Array.getElem?_eq_getElem (by show j.toNat<z.length;omega)⟩
theorem aDu (x y:Str):(x++y).length=x.length+y.length:=by
 show (x.cps++y.cps).size=_
 rw [Array.size_append]
 rfl
theorem at_of {xs:List V} {j:Int} (h0:0≤j) (h1:j<xs.length):∃v,atI xs j=some v∧v∈xs:=by
 have hj:j.toNat<xs.length:=by omega
 refine ⟨xs[j.toNat],?_,List.getElem_mem hj⟩
 have e2:atI xs ((j.toNat:Nat):Int)=some xs[j.toNat]:=dH (List.getElem?_eq_getElem hj)
 rw [show ((j.toNat:Nat):Int)=j by omega] at e2
 exact e2
def Lets (x:Str):Prop:=∀c∈x.cps,97≤c∧c≤122
theorem aQi:∀k:_root_.Fin 26,inA ⟨#[97+k.val]⟩=true:=by decide +kernel
theorem aWa {c:Nat} (h1:97≤c) (h2:c≤122):inA ⟨#[c]⟩=true:=by
 have:=aQi ⟨c - 97,by omega⟩
 simp only at this
 rw [show 97+(c - 97)=c by omega] at this
 exact this
theorem allIn_of {x:Str} (h:Lets x):allIn x=true:=by
 unfold allIn
 rw [List.all_eq_true]
 intro b hb
 obtain ⟨i,hi,rfl⟩:=List.mem_map.mp hb
 have hi':i<x.cps.size:=List.mem_range.mp hi
 have e:x.cps.getD i 0=x.cps[i]:=by rw [Array.getD_eq_getD_getElem?,Array.getElem?_eq_getElem hi'];rfl
 obtain ⟨h1,h2⟩:=h _ (Array.getElem_mem hi')
 show inA (sgn x i)=true
 unfold sgn
 rw [e]
 exact aWa h1 h2
theorem Lets.add {x y:Str} (hx:Lets x) (hy:Lets y):Lets (x++y):=fun c hc=>by
 have hc:c∈x.cps++y.cps:=hc
 rcases Array.mem_append.mp hc with h|h
 ·exact hx c h
 ·exact hy c h
theorem Lets.one {z:Str} {i c:Nat} (hz:Lets z) (h:z.cps[i]?=some c):Lets ⟨#[c]⟩:=fun d hd=>by
 have hd:d∈#[c]:=hd
 have e:d=c:=by simpa using hd
 subst e
 exact hz _ (Array.mem_of_getElem? h)
theorem aGd:Lets abc:=by
 have h:(abc.cps.all fun c=>decide (97≤c) && decide (c≤122))=true:=by decide +kernel
 intro c hc
 have:=(Array.all_eq_true_iff_forall_mem.mp h) c hc
 rw [Bool.and_eq_true] at this
 exact ⟨of_decide_eq_true this.1,of_decide_eq_true this.2⟩
inductive yS:Str→V→Prop
 |num {i}:yS "number" (.int i)
 |wrd {x}:Lets x→x.length≤8→yS "word" (.str x)
def aKg (K:PySem.W.Frag):Sp:=fun vs H Q _=>∃(a:Addr) (ns:List Int),vs=[.ref a]∧SqL K H a (ns.map V.int)∧ns.length≤63∧∀c H',Same H H'→0≤c→c<M61→Q (.int c) H'
theorem aEd (T:Txt w K mg):Ok P w K mg base 1 "_law_seed" ["_law_script"] (aKg K):=by
 refine Ok.ofV T.aEw iK (fun vs H Q E h=>?_) (fun f cdv A outer s H vs Q E hr h=>?_)
 ·obtain ⟨a,ns,rfl,_⟩:=h;rfl
 obtain ⟨a,ns,rfl,ha,h63,q⟩:=h
 refine ⟨_,(aF (aQ (i:=1) iK.nd rfl (by trivial) aG) (aF (jL PassesOwn.never rfl (aQv (by rfl) T.aE0 (aB (vv 0) aA)) (mH rfl (bJ (aV (i:=2) iK.nd rfl (by trivial)) (bJ (aV (i:=3) iK.nd rfl (by trivial)) dX))) (aL (aQ (i:=1) iK.nd rfl (by trivial) (bG rO (bG cX (bG cX (bG cX (bG yX (vv 1) aG) (bG rO (vv 3) (bG aJo aG aG))) (bG yX aG (vv 2))) aG) aG)))) (aL (aR (vv 1))))),?_⟩
 refine ⟨_,rfl,a,ns.map V.int,rfl,ha,aP5 (fun i σ H'=>Same H H'∧∃(c:Int) (l2 l3:Option V),0≤c∧c<M61∧σ=[some (.ref a),some (.int c),l2,l3]) ⟨Same.refl H,7,_,_,by decide,by decide,rfl⟩ (fun i σ H' _ ⟨e,_⟩=>e.seq ha) ?_ ?_⟩
 ·rintro i σ H' x Tp H'' ex ⟨sm,c,l2,l3,c0,c1,rfl⟩ hT rfl
  obtain ⟨z,hz,rfl⟩:=aHt ex
  refine ⟨Tp,_,rfl,SqT.of aO,rfl,_,_,rfl,_,_,rfl,rfl,?_⟩
  refine ⟨_,rfl,_,_,rfl,rfl,.inr ⟨by decide,by decide⟩,_,rfl,_,_,rfl,rfl,⟨by decide,by decide,by decide⟩,_,_,rfl,rfl,(by show (0:Int)<10 ^ 30;decide),_,_,rfl,rfl,_,rfl,_,_,rfl,rfl,.inl ⟨by decide,by decide⟩,_,_,rfl,rfl,_,_,rfl,rfl,_,_,rfl,rfl,(by show (0:Int)<2305843009213693951;decide),?_⟩
  exact ⟨sm.trans (cC hT _),_,_,_,Int.emod_nonneg _ (by decide),Int.emod_lt_of_pos _ (by decide),rfl⟩
 ·rintro σ H' ⟨sm,c,l2,l3,c0,c1,rfl⟩
  exact ⟨_,rfl,q c H' sm c0 c1⟩
def eE:Sp:=fun vs H Q _=>∃(a:Addr) (m:Int),vs=[.ref a,.int m]∧gW H a∧0<m∧∀c H',Fx a H H'→0≤c→c<m→Q (.int c) H'
theorem aEb (T:Txt w K mg):Ok P w K mg base 1 "_law_next" ["_law_state","_law_many"] eE:=by
 refine Ok.ofV T.aEz aC5 (fun vs H Q E h=>?_) (fun f cdv A outer s H vs Q E hr h=>?_)
 ·obtain ⟨a,m,rfl,_⟩:=h;rfl
 obtain ⟨a,m,rfl,⟨st,hs,s0,s1⟩,hm,q⟩:=h
 refine ⟨_,(aF (rR (bG rO (bG cX (bG yX (bV dU (vv 0) aG (fun _ _=>rfl)) aG) aG) aG) (aT9 (vv 0) aG set_list)) (aL (aR (bG rO (bG aQ4 (bV dU (vv 0) aG (fun _ _=>rfl)) aG) (vv 1))))),?_⟩
 refine ⟨_,rfl,a,_,0,_,rfl,rfl,SqL.of hs,at0 _ _,_,_,rfl,rfl,.inr ⟨by decide,by decide⟩,_,_,rfl,rfl,_,_,rfl,rfl,(by show (0:Int)<2305843009213693951;decide),?_⟩
 refine ⟨_,rfl,a,_,0,0,rfl,rfl,hs,rfl,?_⟩
 refine ⟨_,rfl,a,[.int ((st * 1181783497276652981+12345678910987) % 2305843009213693951)],0,_,rfl,rfl,SqL.of aO,at0 _ _,_,_,rfl,rfl,⟨by decide,by decide⟩,_,rfl,_,_,rfl,rfl,hm,?_⟩
 exact q _ _ ⟨fun b o n h=>by rw [bA n];exact h,(st * 1181783497276652981+12345678910987) % 2305843009213693951,aO,Int.emod_nonneg _ (by decide),Int.emod_lt_of_pos _ (by decide)⟩ (Int.emod_nonneg _ (by omega)) (Int.emod_lt_of_pos _ hm)
def aGn:Sp:=fun vs H Q _=>∃a:Addr,vs=[.ref a]∧gW H a∧∀i H',Fx a H H'→Q (.int i) H'
theorem aBr (T:Txt w K mg) (aN:Ok P w K mg base 1 "_law_next" ["_law_state","_law_many"] eE):Ok P w K mg base 2 "_law_great" ["_law_state"] aGn:=by
 refine Ok.ofV T.aCx jM (fun vs H Q E h=>?_) (fun f cdv A outer s H vs Q E hr h=>?_)
 ·obtain ⟨a,rfl,_⟩:=h;rfl
 obtain ⟨a,rfl,hs,q⟩:=h
 refine ⟨_,(aF (aQ (i:=1) jM.nd rfl (by trivial) aG) (aF (jL PassesOwn.never rfl (dW (by rfl) T.gY (aB aG aA)) (aV (i:=2) jM.nd rfl (by trivial)) (aL (aQ (i:=1) jM.nd rfl (by trivial) (bG cX (bG yX (vv 1) (bG aJo aG aG)) (aU (aN.mono (by decide)) hr (by rfl) (aB (vv 0) (aB (bG aJo aG aG) aA))))))) (aL (aR (bV dU (bC (aB (vv 1) (aB (bG zP aG (vv 1)) aA))) (aU (aN.mono (by decide)) hr (by rfl) (aB (vv 0) (aB aG aA))) (fun _ _=>rfl)))))),?_⟩
 refine ⟨_,rfl,by decide,by decide,gC (n:=4) (fun i σ H'=>Fx a H H'∧∃(c:Int) (l2:Option V),σ=[some (.ref a),some (.int c),l2]) ⟨.refl hs,0,_,rfl⟩ ?_ ?_⟩
 ·rintro i σ H' hi ⟨fx,c,l2,rfl⟩
  refine ⟨_,rfl,_,_,rfl,rfl,⟨by decide,by decide,by decide⟩,_,_,rfl,rfl,.inr ⟨by decide,by decide⟩,_,rfl,_,_,rfl,rfl,⟨by decide,by decide,by decide⟩,a,_,rfl,fx.st,(by show (0:Int)<10 ^ 15;decide),fun d H1 f1 _ _=>?_⟩
  exact ⟨_,_,rfl,rfl,fx.trans f1,_,_,rfl⟩
 ·rintro σ H' ⟨fx,c,l2,rfl⟩
  refine ⟨_,rfl,_,rfl,_,_,rfl,rfl,(by show 2≤sizeLine;decide),fun p H1 fp s1 g1=>?_⟩
  refine ⟨_,rfl,a,2,rfl,fx.st.same s1,by decide,fun d H2 f2 d0 d1=>?_⟩
  obtain ⟨v,hv,mv⟩:=at_of (xs:=[.int c,.int (0 - c)]) d0 (by show d<2;omega)
  refine ⟨p,_,_,v,rfl,rfl,SqL.of (f2.same _ _ (fx.st.ne fp) g1),hv,?_⟩
  simp only [List.mem_cons,List.not_mem_nil,or_false] at mv
  rcases mv with rfl|rfl
  ·exact q _ _ ((fx.sm s1).trans f2)
  ·exact q _ _ ((fx.sm s1).trans f2)
abbrev aH8:List V:=[.str "",.str "a",.str "b",.str "ab"]
def xV (k:Str):Prop:=k = "number"∨k = "word"
def aKc:Sp:=fun vs H Q _=>∃(a:Addr) (kd:Str),vs=[.ref a,.str kd]∧gW H a∧xV kd∧∀v H',Fx a H H'→yS kd v→Q v H'
theorem aH7 {v:V} (h:v∈aH8):yS "word" v:=by
 simp only [aH8,List.mem_cons,List.not_mem_nil,or_false] at h
 have le:∀x:Str,(x.cps.all fun c=>decide (97≤c) && decide (c≤122))=true→Lets x:=fun x hx c hc=>by
  have:=(Array.all_eq_true_iff_forall_mem.mp hx) c hc
  rw [Bool.and_eq_true] at this
  exact ⟨of_decide_eq_true this.1,of_decide_eq_true this.2⟩
 rcases h with rfl|rfl|rfl|rfl
 ·exact .wrd (le _ (by decide +kernel)) (by decide +kernel)
 ·exact .wrd (le _ (by decide +kernel)) (by decide +kernel)
 ·exact .wrd (le _ (by decide +kernel)) (by decide +kernel)
 ·exact .wrd (le _ (by decide +kernel)) (by decide +kernel)
theorem aBs (T:Txt w K mg) (aN:Ok P w K mg base 1 "_law_next" ["_law_state","_law_many"] eE) (aEi:Ok P w K mg base 2 "_law_great" ["_law_state"] aGn):Ok P w K mg base 3 "_law_value" ["_law_state","_law_kind"] aKc:=by
 refine Ok.ofV T.aDi gR (fun vs H Q E h=>?_) (fun f cdv A outer s H vs Q E hr h=>?_)
 ·obtain ⟨a,kd,rfl,_⟩:=h;rfl
 obtain ⟨a,kd,rfl,hs,hk,q⟩:=h
 refine ⟨_,(aF (aQ (i:=2) gR.nd rfl (by trivial) (aU (aN.mono (by decide)) hr (by rfl) (aB (vv 0) (aB aG aA)))) (aF (cP (bF dG (vv 1) aJ (bL _)) (aL (aR (bV dU (bC (aB (bG zP (aU (aN.mono (by decide)) hr (by rfl) (aB (vv 0) (aB aG aA))) aG) (aB (aU (aEi.mono (by decide)) hr (by rfl) (aB (vv 0) aA)) aA))) (cB qK (by rfl) T.aG3 aAj (aB (gJ dG (vv 2) aG (bL _)) aA)) (fun _ _=>rfl)))) bK) (aF (cP (bF aOf (vv 2) aG (bL _)) (aL (aR (bV dU (bC (aB aJ (aB aJ (aB aJ (aB aJ aA))))) (bG rO (vv 2) aG) (fun _ _=>rfl)))) bK) (aF (aQ (i:=3) gR.nd rfl (by trivial) aJ) (aF (jL PassesOwn.never rfl (dW (by rfl) T.gY (aB (aU (aN.mono (by decide)) hr (by rfl) (aB (vv 0) (aB aG aA))) aA)) (aV (i:=4) gR.nd rfl (by trivial)) (aL (aQ (i:=3) gR.nd rfl (by trivial) (bG nU (vv 3) (lW aJ (aU (aN.mono (by decide)) hr (by rfl) (aB (vv 0) (aB aG aA))) (fun _ _=>rfl)))))) (aL (aR (vv 3)))))))),?_⟩
 refine ⟨_,rfl,a,10,rfl,hs,by decide,fun way H1 f1 w0 w1=>?_⟩
 rcases hk with rfl|rfl
 ·refine ⟨_,rfl,rfl,_,rfl,cY ?_⟩
  refine ⟨_,rfl,a,4,rfl,f1.st,by decide,fun d H2 f2 d0 d1=>?_⟩
  refine ⟨_,_,rfl,rfl,_,rfl,a,rfl,f2.st,fun g H3 f3=>?_⟩
  refine ⟨(by show 2≤sizeLine;decide),fun p H4 _ s4 g4=>?_⟩
  have fx:=(f1.trans (f2.trans f3)).sm s4
  refine ⟨_,rfl,rfl,.inr ⟨_,rfl,?_⟩⟩
  by_cases e:way=9
  ·rw [decide_eq_true (congrArg V.int e)]
   exact ⟨p,_,_,_,rfl,rfl,SqL.of g4,dH (j:=1) rfl,q _ _ fx .num⟩
  ·rw [decide_eq_false (by intro z;exact e (V.int.inj z))]
   exact ⟨p,_,_,_,rfl,rfl,SqL.of g4,dH (j:=0) rfl,q _ _ fx .num⟩
 ·refine ⟨_,rfl,rfl,_,rfl,cI ?_⟩
  refine ⟨_,rfl,_,_,rfl,rfl,_,rfl,mK (fun _=>?_) (fun _=>?_)⟩
  ·refine ⟨(by show 4≤sizeLine;decide),fun p H4 _ s4 g4=>?_⟩
   obtain ⟨v,hv,mv⟩:=at_of (xs:=aH8) (j:=way % 4) (by omega) (by show way % 4<4;omega)
   exact ⟨_,rfl,_,_,rfl,rfl,(by show (0:Int)<4;decide),p,_,_,v,rfl,rfl,SqL.of g4,hv,q _ _ (f1.sm s4) (aH7 mv)⟩
  ·refine ⟨_,rfl,a,9,rfl,f1.st,by decide,fun n H2 f2 n0 n1=>?_⟩
   refine ⟨_,rfl,by omega,by omega,gC (n:=n.toNat) (fun i σ H'=>Fx a H H'∧∃(x:Str) (l4:Option V),σ=[some (.ref a),some (.str "word"),some (.int way),some (.str x),l4]∧x.length≤i∧Lets x) ⟨f1.trans f2,_,_,rfl,by decide +kernel,fun d hd=>by simp [show (("":Str).cps)=#[] from rfl] at hd⟩ ?_ ?_⟩
   ·rintro i σ H' hi ⟨fx,x,l4,rfl,hl,hx⟩
    have al:abc.length=26:=by decide +kernel
    refine ⟨_,rfl,_,rfl,a,26,rfl,fx.st,by decide,fun d H3 f3 d0 d1=>?_⟩
    obtain ⟨ch,hch⟩:=aK6 (z:=abc) d0 (by rw [al];exact d1)
    refine ⟨_,_,_,rfl,rfl,d0,(by omega),(by rw [al];exact d1),hch,_,_,rfl,rfl,?_,fx.trans f3,_,_,rfl,?_,hx.add (aGd.one hch)⟩
    ·show x.length+1≤sizeLine
     exact small (by omega)
    ·rw [aDu]
     show x.length+1≤i+1
     omega
   ·rintro σ H' ⟨fx,x,l4,rfl,hl,hx⟩
    exact ⟨_,rfl,q _ _ fx (.wrd hx (by omega))⟩
def aCo:Sp:=fun vs H Q _=>vs=[]∧∀p H',H p=none→Same H H'→H' p=some (.lst words)→Q (.ref p) H'
theorem aBh (T:Txt w K mg):Ok P w K mg base 1 "_law_words" [] aCo:=by
 refine Ok.ofV T.aCy qZ (fun vs H Q E h=>?_) (fun f cdv A outer s H vs Q E hr h=>?_)
 ·obtain ⟨rfl,_⟩:=h;rfl
 obtain ⟨rfl,q⟩:=h
 refine ⟨_,(aF (aQ (i:=0) qZ.nd rfl (by trivial) (bC (aB aJ (aB aJ (aB aJ (aB aJ (aB aJ (aB aJ (aB aJ (aB aJ (aB aJ aA))))))))))) (aL (aR (bG dB (vv 0) (bC (aB aJ (aB aJ (aB aJ (aB aJ (aB aJ (aB aJ (aB aJ (aB aJ aA))))))))))))),?_⟩
 refine ⟨(by show 9≤sizeLine;decide),fun p1 H1 _ s1 g1=>?_⟩
 refine ⟨_,rfl,(by show 8≤sizeLine;decide),fun p2 H2 _ s2 g2=>?_⟩
 exact ⟨p1,p2,_,_,rfl,rfl,s2 _ _ g1,g2,(by show 9+8≤sizeLine;decide),fun p H3 f3 s3 g3=>q p H3 ((s1.trans s2).free f3) (s1.trans (s2.trans s3)) g3⟩
def jR (ns:List Str):Prop:=ns.length=17∧(∀n∈ns,Nm n)∧ns.Nodup
theorem jR.rev {ns:List Str} (h:jR ns):jR ns.reverse:=⟨by rw [List.length_reverse];exact h.1,fun n hn=>h.2.1 n (List.mem_reverse.mp hn),List.pairwise_reverse.mpr (h.2.2.imp fun q=>Ne.symm q)⟩
theorem aT1:∀j:_root_.Fin 26,abc.cps[j.val]?=some (97+j.val):=by decide +kernel
theorem aSi {j:Nat} (h:j<26):abc.cps[j]?=some (97+j):=aT1 ⟨j,h⟩
def sgl (o:Nat):List Str:=(List.range 17).map fun k=>⟨#[97+(o+k)]⟩
theorem aJy:∀o:_root_.Fin 10,((sgl o.val).all fun n=>nameB (.str n))=true∧(Txt.slice abc (some (o.val:Int)) (some ((o.val:Int)+17))).cps.size=17∧((List.range 17).all fun i=>decide (sgn (Txt.slice abc (some (o.val:Int)) (some ((o.val:Int)+17))) i=⟨#[97+(o.val+i)]⟩))=true:=by decide +kernel
theorem aN9 {a b:Nat} (h:(⟨#[a]⟩:Str)=⟨#[b]⟩):a=b:=by
 have:=congrArg (fun x:Str=>x.cps.toList) h
 simpa using this
theorem aP8 {o:Nat} (h:o<10):jR (sgl o):=by
 refine ⟨by simp [sgl],fun n hn=>?_,?_⟩
 ·have:=(aJy ⟨o,h⟩).1
  rw [List.all_eq_true] at this
  exact this n hn
 ·refine List.pairwise_map.mpr (List.Pairwise.imp_of_mem ?_ List.nodup_range)
  intro k l _ _ ne e
  have:=aN9 e
  exact ne (by omega)
theorem aQt {o:Nat} (h:o<10):((List.range (Txt.slice abc (some (o:Int)) (some ((o:Int)+17))).cps.size).map fun i=>V.str (sgn (Txt.slice abc (some (o:Int)) (some ((o:Int)+17))) i))=(sgl o).map V.str:=by
 obtain ⟨_,h2,h3⟩:=aJy ⟨o,h⟩
 have h2:(Txt.slice abc (some (o:Int)) (some ((o:Int)+17))).cps.size=17:=h2
 rw [h2]
 unfold sgl
 rw [List.map_map]
 refine List.map_congr_left fun i hi=>?_
 rw [List.all_eq_true] at h3
 have:=of_decide_eq_true (h3 i hi)
 show V.str _=V.str _
 exact congrArg V.str this
def stm (b:Str) (a o:Nat):Nat→List Str:=fun i=>(List.range i).map fun k=>put b a (97+(o+k))
theorem aVq {b:Str} {a o:Nat} (hb:Lets b) (hl:b.length≤7) (ha:a≤b.length) (ho:o<10) (hw:∀w∈words,inV w ((stm b a o 17).map V.str)=false):jR (stm b a o 17):=by
 refine ⟨by simp [stm],fun n hn=>?_,?_⟩
 ·obtain ⟨k,hk,rfl⟩:=List.mem_map.mp hn
  have hk:=List.mem_range.mp hk
  have hin:inV (.str (put b a (97+(o+k)))) words=false:=by
   cases e:inV (.str (put b a (97+(o+k)))) words with
   |false=>rfl
   |true=>
    exfalso
    unfold inV at e
    rw [List.any_eq_true] at e
    obtain ⟨v,hv,ev⟩:=e
    have hvs:∃z:Str,v=.str z:=by
     simp only [words,List.mem_cons,List.not_mem_nil,or_false] at hv
     rcases hv with rfl|rfl|rfl|rfl|rfl|rfl|rfl|rfl|rfl|rfl|rfl|rfl|rfl|rfl|rfl|rfl|rfl <;> exact ⟨_,rfl⟩
    obtain ⟨z,rfl⟩:=hvs
    have e2:(z == put b a (97+(o+k)))=true:=ev
    have e3:z=put b a (97+(o+k)):=by simpa using e2
    have:=hw _ hv
    rw [tV,decide_eq_false_iff_not] at this
    exact this (by rw [e3];exact hn)
  show ((decide (1≤(put b a (97+(o+k))).length) && (decide ((put b a (97+(o+k))).length≤8) && allIn (put b a (97+(o+k))))) && !inV (.str (put b a (97+(o+k)))) words)=true
  have hL:Lets (put b a (97+(o+k))):=fun c hc=>by
   rcases aRo ha hc with rfl|z
   ·omega
   ·exact hb c z
  rw [aSc ha,decide_eq_true (p:=1≤b.length+1) (by omega),decide_eq_true (p:=b.length+1≤8) (by omega),allIn_of hL,hin]
  rfl
 ·refine List.pairwise_map.mpr (List.Pairwise.imp_of_mem ?_ List.nodup_range)
  intro k l _ _ ne e
  have:=aSm ha e
  exact ne (by omega)
def aOq:Sp:=fun vs H Q _=>∃a:Addr,vs=[.ref a,.int 17]∧gW H a∧∀p H' ns,Fx a H H'→H p=none→H' p=some (.lst (ns.map V.str))→jR ns→Q (.ref p) H'
theorem aBc (T:Txt w K mg) (aN:Ok P w K mg base 1 "_law_next" ["_law_state","_law_many"] eE) (aDt:Ok P w K mg base 1 "_law_words" [] aCo):Ok P w K mg base 2 "_law_names" ["_law_state","_law_many"] aOq:=by
 refine Ok.ofV T.aC1 cR (fun vs H Q E h=>?_) (fun f cdv A outer s H vs Q E hr h=>?_)
 ·obtain ⟨a,rfl,_⟩:=h;rfl
 obtain ⟨a,rfl,hs,q⟩:=h
 refine ⟨_,(aF (aQ (i:=2) cR.nd rfl (by trivial) aJ) (aF (aQ (i:=3) cR.nd rfl (by trivial) (aU (aN.mono (by decide)) hr (by rfl) (aB (vv 0) (aB (bG zP aG (vv 1)) aA)))) (aF (aQ (i:=4) cR.nd rfl (by trivial) aJ) (aF (jL PassesOwn.never rfl (dW (by rfl) T.gY (aB (aU (aN.mono (by decide)) hr (by rfl) (aB (vv 0) (aB aG aA))) aA)) (aV (i:=5) cR.nd rfl (by trivial)) (aL (aQ (i:=4) cR.nd rfl (by trivial) (bG nU (vv 4) (lW (vv 2) (aU (aN.mono (by decide)) hr (by rfl) (aB (vv 0) (aB aG aA))) (fun _ _=>rfl)))))) (aF (aQ (i:=6) cR.nd rfl (by trivial) (aU (aN.mono (by decide)) hr (by rfl) (aB (vv 0) (aB (bG cX (aY tX (by rfl) T.eY cZ (aB (vv 4) aA)) aG) aA)))) (aF (aQ (i:=7) cR.nd rfl (by trivial) (bC aA)) (aF (jL PassesOwn.never rfl (dW (by rfl) T.gY (aB (vv 1) aA)) (aV (i:=5) cR.nd rfl (by trivial)) (aL (iB (wW PySem.F.plainAttrs_list PySem.F.slot_list_append PySem.F.type_list_append jF (vv 7) (aB (bG nU (bG nU (gB aEc (vv 4) lD (gG (vv 6))) (lW (vv 2) (bG cX (vv 3) (vv 5)) (fun _ _=>rfl))) (gB aEc (vv 4) (gG (vv 6)) lD)) aA))))) (aF (cP (fP (aY (aPm rfl) (by rfl) T.aXp aVb (aB (dC (N:=["_law_word","_law_names_here"]) (by trivial) (fC (aK lB) rfl (by decide +kernel)) rfl (gH (aV9 (aDt.mono (by decide)) hr (by rfl))) (fun cl s' H' fp=>⟨(aV (i:=0) (show (["_law_word","_law_names_here"]:List Str).Nodup from by decide +kernel) rfl (Or.inl rfl)),fH,(gJ (aIp (K:=K)) (vv 0) (vv 1) (by with_unfolding_all rfl))⟩)) aA))) (aL (aQ (i:=7) cR.nd rfl (by trivial) (cB (aHs rfl) (by rfl) T.aPp aK8 (aB (gB aEc (vv 2) (gG (vv 3)) (gG (bG cX (vv 3) (vv 1)))) aA)))) bK) (aF (cP (bF dG (aU (aN.mono (by decide)) hr (by rfl) (aB (vv 0) (aB aG aA))) aG (bL _)) (aL (iB (aJb PySem.F.plainAttrs_list PySem.F.slot_list_reverse PySem.F.type_list_reverse xF (vv 7)))) bK) (aL (aR (vv 7)))))))))))),?_⟩
 have al:abc.length=26:=by decide +kernel
 refine ⟨_,rfl,_,rfl,_,_,rfl,rfl,a,10,rfl,hs,by decide,fun od H1 f1 o0 o1=>?_⟩
 obtain ⟨o,rfl⟩:∃o:Nat,od=o:=⟨od.toNat,by omega⟩
 have ho:o<10:=by omega
 refine ⟨_,rfl,a,8,rfl,f1.st,by decide,fun n H2 f2 n0 n1=>?_⟩
 refine ⟨_,rfl,by omega,by omega,gC (n:=n.toNat) (fun i σ H'=>Fx a H H'∧∃(x:Str) (l5:Option V),σ=[some (.ref a),some (.int 17),some (.str abc),some (.int (o:Nat)),some (.str x),l5,none,none]∧x.length≤i∧Lets x) ⟨f1.trans f2,_,_,rfl,by decide +kernel,fun d hd=>by simp [show (("":Str).cps)=#[] from rfl] at hd⟩ ?_ ?_⟩
 ·rintro i σ H' hi ⟨fx,x,l5,rfl,hl,hx⟩
  refine ⟨_,rfl,_,rfl,_,rfl,a,26,rfl,fx.st,by decide,fun d H3 f3 d0 d1=>?_⟩
  obtain ⟨ch,hch⟩:=aK6 (z:=abc) d0 (by rw [al];exact d1)
  refine ⟨_,_,_,rfl,rfl,d0,(by omega),(by rw [al];exact d1),hch,_,_,rfl,rfl,?_,fx.trans f3,_,_,rfl,?_,hx.add (aGd.one hch)⟩
  ·show x.length+1≤sizeLine
   exact small (by omega)
  ·rw [aDu]
   show x.length+1≤i+1
   omega
 rintro σ H3 ⟨f3,b,l5,rfl,hl,hb⟩
 have hb7:b.length≤7:=by omega
 refine ⟨_,rfl,_,rfl,_,rfl,small (by omega),_,_,rfl,rfl,a,_,rfl,f3.st,(by show (0:Int)<(b.length:Int)+1;omega),fun ai H4 f4 a0 a1=>?_⟩
 obtain ⟨at',rfl⟩:∃at':Nat,ai=at':=⟨ai.toNat,by omega⟩
 have ha:at'≤b.length:=by
  have:(at':Int)<(b.length:Int)+1:=a1
  omega
 have fx4:=f3.trans f4
 refine ⟨(by show 0≤sizeLine;decide),fun p H5 fp s5 g5=>?_⟩
 have fp0:H p=none:=fx4.free fp
 have npa:p≠a:=hs.ne fp0
 refine ⟨_,rfl,_,rfl,by decide,by decide,gC (n:=17) (fun i σ H'=>Fx a H H'∧H' p=some (.lst ((stm b at' o i).map V.str))∧∃l5,σ=[some (.ref a),some (.int 17),some (.str abc),some (.int (o:Nat)),some (.str b),l5,some (.int (at':Nat)),some (.ref p)]) ⟨fx4.sm s5,g5,_,rfl⟩ ?_ ?_⟩
 ·rintro i σ H' hi ⟨fx,gp,l5,rfl⟩
  have s1:=Txt.slice_le b none (some ((at':Nat):Int))
  have s2:=Txt.slice_le b (some ((at':Nat):Int)) none
  have ej:((o:Int)+(0+(i:Int))).toNat=o+i:=by omega
  have hch:abc.cps[((o:Int)+(0+(i:Int))).toNat]?=some (97+(o+i)):=by rw [ej];exact aSi (by omega)
  refine ⟨_,rfl,.inl ⟨rfl,_,SqL.of gp⟩,_,rfl,_,rfl,_,rfl,_,rfl,small (by omega),_,rfl,_,rfl,_,rfl,_,_,rfl,rfl,_,_,_,rfl,rfl,(by show 0≤(o:Int)+(0+(i:Int));omega),(by show (o:Int)+(0+(i:Int))<2 ^ 63;omega),(by rw [al];show (o:Int)+(0+(i:Int))<26;omega),hch,_,_,rfl,rfl,?_,_,rfl,_,rfl,_,rfl,_,rfl,small (by omega),_,_,rfl,rfl,?_,?_⟩
  ·show (Txt.slice b none (some ((at':Nat):Int))).length+1≤sizeLine
   exact small (by omega)
  ·rw [aDu]
   show (Txt.slice b none (some ((at':Nat):Int))).length+1+_≤sizeLine
   exact small (by omega)
  refine ⟨p,_,_,rfl,rfl,gp,?_,fx.upd fp0 npa,?_,_,rfl⟩
  ·rw [List.length_map]
   exact fL (by simp [stm];omega)
  ·rw [aO]
   unfold stm
   rw [List.range_succ,List.map_append,List.map_append]
   rfl
 rintro σ H6 ⟨f6,g6,l5',rfl⟩
 dsimp only [qF,aT0,tB,tCB,bQ]
 refine aLz (K:=K) (fun us=>us=words) (fun i _ y=>∃w',words[i]?=some w'∧y=.bl (inV w' ((stm b at' o 17).map V.str))) (fun _ h=>h) (fun _ h=>h) [none,some (.ref p)] ?_ rfl (fun R r=>⟨rfl,fun W H7 _ s7 g7=>r W H7 _ s7 g7 rfl⟩) (fun us e=>by subst e;exact small (by decide)) (fun us e i x ex H' R l sm r=>?_) fun us e D H7 ys s7 g7 hly hR=>?_
 ·exact iD 7 (by decide +kernel) rfl rfl (by trivial)
 ·subst e
  have fl:kJ x=true:=by
   have:=zU
   rw [List.all_eq_true] at this
   exact this x (List.mem_of_getElem? ex)
  exact ⟨_,rfl,_,rfl,p,_,rfl,.inl (SqL.of (sm _ _ g6)),fl,zL,r _ _ (Same.refl _) ⟨x,ex,rfl⟩⟩
 subst e
 have ey:ys=(words.map fun w'=>inV w' ((stm b at' o 17).map V.str)).map V.bl:=by
  rw [List.map_map]
  refine List.ext_getElem? fun i=>?_
  by_cases hi:i<ys.length
  ·obtain ⟨w',h1,h2⟩:=hR i ys[i] (List.getElem?_eq_getElem hi)
   rw [List.getElem?_eq_getElem hi,List.getElem?_map,h1,h2]
   rfl
  ·rw [List.getElem?_eq_none (by omega),List.getElem?_eq_none (by rw [List.length_map];omega)]
 rw [ey] at g7
 refine ⟨D,_,rfl,SqL.of g7,_,rfl,?_⟩
 have f7:=f6.sm s7
 refine mK (fun c=>?_) (fun c=>?_)
 ·refine ⟨_,rfl,_,rfl,_,rfl,_,rfl,_,rfl,_,_,rfl,rfl,_,rfl,abc,rfl,small (by rw [al];decide),?_⟩
  refine ⟨_,rfl,?_,fun p2 H8 fp2 s8 g8=>?_⟩
  ·have:=Txt.slice_le abc (some (o:Int)) (some ((o:Int)+17))
   rw [al] at this
   exact Nat.le_trans this (by decide)
  have g8':H8 p2=some (.lst ((sgl o).map V.str)):=by rw [g8];exact congrArg (fun z=>some (HO.lst z)) (aQt ho)
  have f8:=f7.sm s8
  have fp20:H p2=none:=f7.free fp2
  refine ⟨_,rfl,a,2,rfl,f8.st,by decide,fun d H9 f9 d0 d1=>?_⟩
  have g9:=f9.same _ _ (hs.ne fp20) g8'
  refine ⟨rfl,_,rfl,mK (fun _=>?_) (fun _=>?_)⟩
  ·refine ⟨_,rfl,.inl ⟨rfl,_,SqL.of g9⟩,p2,_,rfl,rfl,g9,?_⟩
   refine ⟨_,rfl,q p2 _ (sgl o).reverse ((f8.trans f9).upd fp20 (hs.ne fp20)) fp20 ?_ (aP8 ho).rev⟩
   rw [aO,List.map_reverse]
  ·exact ⟨_,rfl,q p2 _ (sgl o) (f8.trans f9) fp20 g9 (aP8 ho)⟩
 ·have hw:∀w'∈words,inV w' ((stm b at' o 17).map V.str)=false:=fun w' hw'=>by
   cases e:inV w' ((stm b at' o 17).map V.str) with
   |false=>rfl
   |true=>
    exfalso
    apply c
    rw [List.any_eq_true]
    exact ⟨true,List.mem_map.mpr ⟨w',hw',e⟩,rfl⟩
  have hn:=aVq hb hb7 ha ho hw
  refine ⟨_,rfl,a,2,rfl,f7.st,by decide,fun d H9 f9 d0 d1=>?_⟩
  have g9:=f9.same _ _ npa (s7 _ _ g6)
  refine ⟨rfl,_,rfl,mK (fun _=>?_) (fun _=>?_)⟩
  ·refine ⟨_,rfl,.inl ⟨rfl,_,SqL.of g9⟩,p,_,rfl,rfl,g9,?_⟩
   refine ⟨_,rfl,q p _ (stm b at' o 17).reverse ((f7.trans f9).upd fp0 npa) fp0 ?_ hn.rev⟩
   rw [aO,List.map_reverse]
  ·exact ⟨_,rfl,q p _ (stm b at' o 17) (f7.trans f9) fp0 g9 hn⟩
def rE (hd:Hdr):Prop:=Good hd∧∀c∈hd,Nm c.1∧xV c.2
def aHc (K:PySem.W.Frag):Sp:=fun vs H Q _=>∃(a N:Addr) (ns:List Str),vs=[.ref a,.ref N]∧gW H a∧H N=some (.lst (ns.map V.str))∧N≠a∧jR ns∧∀v H' hd,Fx a H H'→jV K H' v hd→rE hd→hd.length≤7→Q v H'
theorem aH3 {α:Type} {l:List α} (h:l.Nodup) {i j:Nat} {x:α} (h1:l[i]?=some x) (h2:l[j]?=some x):i=j:=by
 have hp:=List.pairwise_iff_getElem.mp h
 obtain ⟨hi,e1⟩:=List.getElem?_eq_some_iff.mp h1
 obtain ⟨hj,e2⟩:=List.getElem?_eq_some_iff.mp h2
 rcases Nat.lt_trichotomy i j with q|q|q
 ·exact absurd (e1.trans e2.symm) (hp i j hi hj q)
 ·exact q
 ·exact absurd (e2.trans e1.symm) (hp j i hj hi q)
theorem aW7 {α:Type} {l:List α} (h:∀(i j:Nat) (x:α),l[i]?=some x→l[j]?=some x→i=j):l.Nodup:=by
 refine List.pairwise_iff_getElem.mpr fun i j hi hj hij e=>?_
 have:=h i j l[i] (List.getElem?_eq_getElem hi) (by rw [List.getElem?_eq_getElem hj,e])
 omega
theorem aOa {ns:List Str} (hn:jR ns) {st:Nat} {hd:Hdr} (hl:hd.length≤8) (h:∀(j:Nat) (c:Str × Str),hd[j]?=some c→ns[3+(st+j) % 8]?=some c.1):(hd.map (·.1)).Nodup:=by
 refine aW7 fun i j x h1 h2=>?_
 have g:∀k,(hd.map (·.1))[k]?=some x→k<hd.length∧ns[3+(st+k) % 8]?=some x:=fun k hk=>by
  rw [List.getElem?_map] at hk
  cases e:hd[k]? with
  |none=>rw [e] at hk;cases hk
  |some c=>
   rw [e] at hk
   cases hk
   exact ⟨(List.getElem?_eq_some_iff.mp e).1,h k c e⟩
 obtain ⟨l1,g1⟩:=g i h1
 obtain ⟨l2,g2⟩:=g j h2
 have:=aH3 hn.2.2 g1 g2
 omega
theorem aDr (T:Txt w K mg) (aN:Ok P w K mg base 1 "_law_next" ["_law_state","_law_many"] eE):Ok P w K mg base 2 "_law_head" ["_law_state","_law_names_here"] (aHc K):=by
 refine Ok.ofV T.aE9 iU (fun vs H Q E h=>?_) (fun f cdv A outer s H vs Q E hr h=>?_)
 ·obtain ⟨a,N,ns,rfl,_⟩:=h;rfl
 obtain ⟨a,N,ns,rfl,hs,hN,nN,hn,q⟩:=h
 refine ⟨_,(aF (aQ (i:=2) iU.nd rfl (by trivial) (aU (aN.mono (by decide)) hr (by rfl) (aB (vv 0) (aB aG aA)))) (aF (aQ (i:=3) iU.nd rfl (by trivial) (bC aA)) (aF (jL PassesOwn.never rfl (dW (by rfl) T.gY (aB (bG cX aG (bG yX (aU (aN.mono (by decide)) hr (by rfl) (aB (vv 0) (aB aG aA))) (bG cX aG (cB qK (by rfl) T.aG3 aAj (aB (gJ dG (aU (aN.mono (by decide)) hr (by rfl) (aB (vv 0) (aB aG aA))) aG (bL _)) aA))))) aA)) (aV (i:=4) iU.nd rfl (by trivial)) (aF (aQ (i:=5) iU.nd rfl (by trivial) (bV dU (bC (aB aJ (aB aJ (aB aJ aA)))) (aU (aN.mono (by decide)) hr (by rfl) (aB (vv 0) (aB aG aA))) (fun _ _=>rfl))) (aL (iB (wW PySem.F.plainAttrs_list PySem.F.slot_list_append PySem.F.type_list_append jF (vv 3) (aB (aD (aB (bV dU (vv 1) (bG cX aG (bG rO (bG cX (vv 2) (vv 4)) aG)) (fun _ _=>rfl)) (aB (vv 5) aA))) aA)))))) (aL (aR (cB cN (by rfl) T.cU cJ (aB (vv 3) aA))))))),?_⟩
 have l17:=hn.1
 refine ⟨_,rfl,a,8,rfl,hs,by decide,fun st0 H1 f1 st00 st01=>?_⟩
 obtain ⟨st,rfl⟩:∃st:Nat,st0=st:=⟨st0.toNat,by omega⟩
 refine ⟨(by show 0≤sizeLine;decide),fun p H2 fp s2 g2=>?_⟩
 have f2:=f1.sm s2
 have fp0:H p=none:=f1.free fp
 have npa:p≠a:=hs.ne fp0
 refine ⟨_,rfl,a,4,rfl,f2.st,by decide,fun m H3 f3 m0 m1=>?_⟩
 refine ⟨_,rfl,a,8,rfl,f3.st,by decide,fun e H4 f4 e0 e1=>?_⟩
 have f4':=f2.trans (f3.trans f4)
 have g4:=f4.same _ _ npa (f3.same _ _ npa g2)
 refine ⟨rfl,.inr ⟨_,rfl,?_⟩⟩
 have bnd:∃z:Nat,1+m * (1+(if decide (V.int e=V.int 0) then 1 else 0))=(z:Int)∧1≤z∧z≤7:=by
  cases decide (V.int e=V.int 0)
  ·exact ⟨(1+m).toNat,by simp;omega,by omega,by omega⟩
  ·exact ⟨(1+m * 2).toNat,by simp;omega,by omega,by omega⟩
 obtain ⟨z,ez,z1,z7⟩:=bnd
 refine ⟨_,_,rfl,rfl,_,_,rfl,rfl,.inl ⟨by omega,by omega⟩,_,_,rfl,rfl,?_⟩
 refine ⟨(z:Int),?_,by omega,by omega,?_⟩
 ·show [V.int (1+m * (1+(if decide (V.int e=V.int 0) then 1 else 0)))]=_
  rw [ez]
 rw [Int.toNat_natCast]
 refine gC (n:=z) (fun i σ H'=>Fx a H H'∧∃(us:List V) (hd:Hdr) (l4 l5:Option V),H' p=some (.lst us)∧hd.length=i∧cL (IsC K H') us hd∧(∀(j:Nat) (c:Str × Str),hd[j]?=some c→ns[3+(st+j) % 8]?=some c.1∧xV c.2)∧σ=[some (.ref a),some (.ref N),some (.int (st:Nat)),some (.ref p),l4,l5]) ⟨f4',[],[],_,_,g4,rfl,.nil,fun j c h=>by simp at h,rfl⟩ ?_ ?_
 ·rintro i σ H' hi ⟨fx,us,hd,l4,l5,gp,hl,hu,hc,rfl⟩
  have lu:=hu.len
  refine ⟨(by show 3≤sizeLine;decide),fun p1 H5 fp1 s5 g5=>?_⟩
  refine ⟨_,rfl,a,3,rfl,fx.st.same s5,by decide,fun d H6 f6 d0 d1=>?_⟩
  obtain ⟨kv,hkv,mkv⟩:=at_of (xs:=[.str "number",.str "number",.str "word"]) d0 (by show d<3;omega)
  obtain ⟨kd,rfl,hkd⟩:∃kd:Str,kv=.str kd∧xV kd:=by
   simp only [List.mem_cons,List.not_mem_nil,or_false] at mkv
   rcases mkv with rfl|rfl|rfl
   ·exact ⟨_,rfl,.inl rfl⟩
   ·exact ⟨_,rfl,.inl rfl⟩
   ·exact ⟨_,rfl,.inr rfl⟩
  have f6':=(fx.sm s5).trans f6
  refine ⟨p1,_,_,_,rfl,rfl,SqL.of (f6.same _ _ (fx.st.ne fp1) g5),hkv,?_⟩
  have gp6:=f6.same _ _ npa (s5 _ _ gp)
  have hN6:=f6'.same _ _ nN hN
  have hu6:cL (IsC K H6) us hd:=hu.imp fun _ _ ⟨p',ep,hp⟩=>⟨p',ep,f6.bB (fx.st.same s5) (s5.bB hp)⟩
  have hix:3+(st+i) % 8<ns.length:=by omega
  refine ⟨_,rfl,.inl ⟨rfl,_,SqL.of gp6⟩,?_⟩
  refine ⟨_,rfl,_,rfl,_,rfl,_,_,rfl,rfl,_,_,rfl,rfl,(by show (0:Int)<8;decide),_,_,rfl,rfl,N,_,_,.str ns[3+(st+i) % 8],rfl,rfl,SqL.of hN6,?_,_,rfl,(by show 2≤sizeLine;decide),fun t H7 ft s7 g7=>?_⟩
  ·have e8:(3:Int)+((st:Int)+(0+(i:Int))) % 8=((3+(st+i) % 8:Nat):Int):=by omega
   show atI (ns.map V.str) ((3:Int)+((st:Int)+(0+(i:Int))) % 8)=_
   rw [e8]
   exact dH (by rw [List.getElem?_map,List.getElem?_eq_getElem hix];rfl)
  refine ⟨p,_,_,rfl,rfl,s7 _ _ gp6,fL (by omega),?_⟩
  have ntp:t≠p:=(bH gp6 ft).symm
  refine ⟨(f6'.sm s7).upd fp0 npa,us++[.ref t],hd++[(ns[3+(st+i) % 8],kd)],_,_,aO,by rw [List.length_append,hl];rfl,?_,fun j c h=>?_,rfl⟩
  ·refine (hu6.imp fun _ _ ⟨p',ep,hp⟩=>⟨p',ep,(s7.bB hp).aBf (s7 _ _ gp6)⟩).app (.cons ⟨t,rfl,SqT.of (by rw [bA ntp];exact g7)⟩ .nil)
  ·by_cases hj:j<hd.length
   ·rw [List.getElem?_append_left hj] at h
    exact hc j c h
   ·rw [List.getElem?_append_right (by omega)] at h
    have hj0:j - hd.length=0:=by
     by_cases z0:j - hd.length=0
     ·exact z0
     ·rw [List.getElem?_eq_none (by simp;omega)] at h;cases h
    rw [hj0] at h
    cases h
    have:j=i:=by omega
    subst this
    exact ⟨List.getElem?_eq_getElem hix,hkd⟩
 ·rintro σ H' ⟨fx,us,hd,l4,l5,gp,hl,hu,hc,rfl⟩
  refine ⟨_,rfl,p,us,rfl,SqL.of gp,fun t H5 _ s5 g5=>q _ _ hd (fx.sm s5) ⟨t,us,rfl,SqT.of g5,hu.imp fun _ _ h=>h.same s5⟩ ⟨⟨aOa hn (by omega) fun j c h=>(hc j c h).1,by omega,by omega⟩,fun c hcm=>?_⟩ (by omega)⟩
  obtain ⟨j,hj,e⟩:=List.getElem_of_mem hcm
  have h2:=hc j c (by rw [List.getElem?_eq_getElem hj,e])
  exact ⟨hn.2.1 _ (List.mem_of_getElem? h2.1),h2.2⟩
def TK (K:PySem.W.Frag) (H H':Hp):Prop:=∀p xs,SqT K H p xs→SqT K H' p xs
theorem _root_.L2.Fx.tk {K:PySem.W.Frag} {a:Addr} {H H':Hp} (f:Fx a H H') (h:gW H a):TK K H H':=fun _ _ e=>f.bB h e
theorem IsC.tk {K:PySem.W.Frag} {H H':Hp} {v:V} {c:Str × Str} (e:TK K H H') (h:IsC K H v c):IsC K H' v c:=by
 obtain ⟨p,rfl,hp⟩:=h
 exact ⟨p,rfl,e _ _ hp⟩
theorem aKm {α:Type} {K:PySem.W.Frag} {H H':Hp} {R S:V→α→Prop} {v:V} {xs:List α} (e:TK K H H') (k:∀a b,R a b→S a b) (h:aG0 K H R v xs):aG0 K H' S v xs:=by
 obtain ⟨a,vs,rfl,ha,hr⟩:=h
 exact ⟨a,vs,rfl,e _ _ ha,hr.imp k⟩
theorem jV.tk {K:PySem.W.Frag} {H H':Hp} {v:V} {hd:Hdr} (e:TK K H H') (h:jV K H v hd):jV K H' v hd:=aKm e (fun _ _ q=>q.tk e) h
theorem aOd {K:PySem.W.Frag} {H:Hp} {x:V} (h:aD6 x=true):Th K H x:=by
 cases x with
 |int i=>exact .inr (.inl ⟨i,rfl⟩)
 |str z=>
  have h:(false || oZ 0 (.str z))=true:=h
  rw [Bool.false_or] at h
  obtain ⟨y,e,_,h8,_⟩:=yI h
  cases e
  exact aVe h8
 |_=>cases h
theorem IsO.tk {K:PySem.W.Frag} {H H':Hp} {v:V} {o:Oth} (e:TK K H H') (h:IsO K H v o):IsO K H' v o:=by
 cases o with
 |val x=>obtain ⟨a,rfl,ha,hx,hv⟩:=h;exact ⟨a,rfl,e _ _ ha,aOd hv,hv⟩
 |col d=>obtain ⟨a,rfl,ha,hd⟩:=h;exact ⟨a,rfl,e _ _ ha,hd⟩
theorem IsT.tk {K:PySem.W.Frag} {H H':Hp} {v:V} {t:Tst} (e:TK K H H') (h:IsT K H v t):IsT K H' v t:=by
 obtain ⟨a,w,rfl,ha,h1,h2,h3⟩:=h
 exact ⟨a,w,rfl,e _ _ ha,h1,h2,h3.tk e⟩
theorem aAd.tk {K:PySem.W.Frag} {H H':Hp} {v:V} {t:Str × Str} (e:TK K H H') (h:aAd K H v t):aAd K H' v t:=by
 obtain ⟨a,rfl,ha,h1⟩:=h
 exact ⟨a,rfl,e _ _ ha,h1⟩
theorem xR.tk {K:PySem.W.Frag} {H H':Hp} {v:V} {t:Str × Str} (e:TK K H H') (h:xR K H v t):xR K H' v t:=by
 obtain ⟨a,rfl,ha,h1⟩:=h
 exact ⟨a,rfl,e _ _ ha,h1⟩
theorem wG.tk {K:PySem.W.Frag} {H H':Hp} {v:V} {t:Sm} (e:TK K H H') (h:wG K H v t):wG K H' v t:=by
 obtain ⟨a,rfl,hn,h1⟩:=h
 refine ⟨a,rfl,hn,?_⟩
 rcases h1 with ⟨x,y,z⟩|⟨c,x,y,z,u⟩
 ·exact .inl ⟨x,y,e _ _ z⟩
 ·exact .inr ⟨c,x,y,z,e _ _ u⟩
theorem oX.tk {α:Type} {S:PySem.W.Frag→Hp→V→α→Prop} {lo hi:Nat} {K:PySem.W.Frag} {H H':Hp} {v:V} {xs:List α} (e:TK K H H') (k:∀{v t},S K H v t→S K H' v t) (h:oX S lo hi K H v xs):oX S lo hi K H' v xs:=
 ⟨aKm e (fun _ _=>k) h.1,h.2⟩
theorem IsQ.tk {K:PySem.W.Frag} {H H':Hp} {v:V} {q:Qn} (e:TK K H H') (h:IsQ K H v q):IsQ K H' v q:=by
 induction h with
 |table a b=>exact .table (e _ _ a) b
 |whr a _ c ih=>exact .whr (e _ _ a) ih (c.tk e fun h=>h.tk e)
 |keep a _ c ih=>exact .keep (e _ _ a) ih (c.tk e fun h=>h)
 |nmd a _ c ih=>exact .nmd (e _ _ a) ih (c.tk e fun h=>h)
 |join a _ _ c ih1 ih2=>exact .join (e _ _ a) ih1 ih2 (c.tk e fun h=>h.tk e)
 |group a _ c d ih=>exact .group (e _ _ a) ih (c.tk e fun h=>h) (d.tk e fun h=>h.tk e)
 |first a _ c d ih=>exact .first (e _ _ a) ih (c.tk e fun h=>h.tk e) d
theorem nA {hd:Hdr} (nd:(hd.map (·.1)).Nodup) {c:Str × Str} (h:c∈hd):look hd c.1=some c.2:=by
 induction hd with
 |nil=>cases h
 |cons x r ih=>
  rw [List.map_cons,List.nodup_cons] at nd
  unfold look
  rw [List.find?_cons]
  rcases List.mem_cons.mp h with rfl|h
  ·rw [decide_eq_true rfl];rfl
  ·have ne:¬ x.1=c.1:=fun z=>nd.1 (by rw [z];exact List.mem_map.mpr ⟨c,h,rfl⟩)
   rw [decide_eq_false ne]
   exact ih nd.2 h
theorem aH5 {k:Str} {x:V} (h:yS k x):aD6 x=true∧kindS x=k:=by
 cases h with
 |num=>exact ⟨rfl,rfl⟩
 |@wrd y hx hl=>
  refine ⟨?_,rfl⟩
  show (false || (decide (0≤y.length) && (decide (y.length≤8) && allIn y)))=true
  rw [decide_eq_true (Nat.zero_le _),decide_eq_true hl,allIn_of hx]
  rfl
def kp (hd:Hdr) (k:Str) (i:Nat):Bool:=match hd[i]? with
 |some c=>decide (c.2=k)
 |none=>false
abbrev sgs:Str:="=<>!"
theorem aS7:∀j:_root_.Fin 4,∃c,sgs.cps[j.val]?=some c∧((⟨#[c]⟩:Str) = "="∨(⟨#[c]⟩:Str) = "<"∨(⟨#[c]⟩:Str) = ">"∨(⟨#[c]⟩:Str) = "!"):=by
 intro j
 match j with
 |⟨0,_⟩=>exact ⟨61,(by show sgs.cps[0]?=some 61;decide +kernel),.inl (by decide +kernel)⟩
 |⟨1,_⟩=>exact ⟨60,(by show sgs.cps[1]?=some 60;decide +kernel),.inr (.inl (by decide +kernel))⟩
 |⟨2,_⟩=>exact ⟨62,(by show sgs.cps[2]?=some 62;decide +kernel),.inr (.inr (.inl (by decide +kernel)))⟩
 |⟨3,_⟩=>exact ⟨33,(by show sgs.cps[3]?=some 33;decide +kernel),.inr (.inr (.inr (by decide +kernel)))⟩
 |⟨n+4,h⟩=>exact absurd h (by omega)
def aCp (K:PySem.W.Frag):Sp:=fun vs H Q _=>∃(a:Addr) (vh:V) (hd:Hdr),vs=[.ref a,vh]∧gW H a∧jV K H vh hd∧rE hd∧∀v H' ts,Fx a H H'→oX IsT 1 2 K H' v ts→(∀t∈ts,aHx hd t)→Q v H'
theorem aPq {R:Nat→V→Prop} {is:List Nat} {ys:List V} (h:jY R is ys):∀y∈ys,∃i∈is,R i y:=by
 induction h with
 |nil=>intro y hy;cases hy
 |cons r _ ih=>
  intro z hz
  rcases List.mem_cons.mp hz with rfl|hz
  ·exact ⟨_,List.mem_cons_self ..,r⟩
  ·obtain ⟨i,hi,q⟩:=ih z hz
   exact ⟨i,List.mem_cons_of_mem _ hi,q⟩
theorem aC4 {p:Nat→Bool}:∀{k n:Nat} {i:Nat},i∈sel p k (List.range' k n)→p i=true∧k≤i∧i<k+n
 |k,0,i,h=>by cases h
 |k,n+1,i,h=>by
  rw [List.range'_succ] at h
  have h:i∈(if p k then k::sel p (k+1) (List.range' (k+1) n) else sel p (k+1) (List.range' (k+1) n)):=h
  split at h
  ·rcases List.mem_cons.mp h with rfl|h
   ·exact ⟨by assumption,by omega,by omega⟩
   ·obtain ⟨a,b,c⟩:=aC4 h;exact ⟨a,by omega,by omega⟩
  ·obtain ⟨a,b,c⟩:=aC4 h;exact ⟨a,by omega,by omega⟩
theorem aJu {p:Nat→Bool}:∀{k n:Nat} {i:Nat},p i=true→k≤i→i<k+n→i∈sel p k (List.range' k n)
 |k,0,i,_,_,_=>by omega
 |k,n+1,i,h,h1,h2=>by
  rw [List.range'_succ]
  show i∈(if p k then k::sel p (k+1) (List.range' (k+1) n) else sel p (k+1) (List.range' (k+1) n))
  by_cases e:i=k
  ·subst e
   rw [if_pos h]
   exact List.mem_cons_self ..
  ·have:=aJu (k:=k+1) (n:=n) h (by omega) (by omega)
   split
   ·exact List.mem_cons_of_mem _ this
   ·exact this
theorem aBv (T:Txt w K mg) (aN:Ok P w K mg base 1 "_law_next" ["_law_state","_law_many"] eE) (aD7:Ok P w K mg base 3 "_law_value" ["_law_state","_law_kind"] aKc):Ok P w K mg base 4 "_law_tests" ["_law_state","_law_head_here"] (aCp K):=by
 refine Ok.ofV T.aD2 dJ (fun vs H Q E h=>?_) (fun f cdv A outer s H vs Q E hr h=>?_)
 ·obtain ⟨a,vh,hd,rfl,_⟩:=h;rfl
 obtain ⟨a,vh,hd,rfl,hs,⟨b,us,rfl,hb,hu⟩,⟨⟨nd,l1,l8⟩,hc⟩,q⟩:=h
 refine ⟨_,(aF (aQ (i:=2) dJ.nd rfl (by trivial) (bC aA)) (aF (jL PassesOwn.never rfl (dW (by rfl) T.gY (aB (bG cX aG (aU (aN.mono (by decide)) hr (by rfl) (aB (vv 0) (aB aG aA)))) aA)) (aV (i:=3) dJ.nd rfl (by trivial)) (aF (rR (bV cM (vv 1) (aU (aN.mono (by decide)) hr (by rfl) (aB (vv 0) (aB (aY bD (by rfl) T.eY cZ (aB (vv 1) aA)) aA))) (fun _ _=>rfl)) (mH rfl (bJ (aV (i:=4) dJ.nd rfl (by trivial)) (bJ (aV (i:=5) dJ.nd rfl (by trivial)) dX)))) (aF (aQ (i:=6) dJ.nd rfl (by trivial) (aD (aB aJ (aB (aU (aD7.mono (by decide)) hr (by rfl) (aB (vv 0) (aB (vv 5) aA))) aA)))) (aF (uW (i0:=7) dJ.nd rfl (by trivial) (N:=["_law_column","_law_sort","_law_kind"]) (by trivial) (fC (aK kZ) rfl (by decide +kernel)) rfl (mO (vv 1)) (fun cl s' H' fp=>⟨(mF (K:=K) (n:=2) rfl (bJ (aV (i:=0) (show (["_law_column","_law_sort","_law_kind"]:List Str).Nodup from by decide +kernel) rfl (Or.inl rfl)) (bJ (aV (i:=1) (show (["_law_column","_law_sort","_law_kind"]:List Str).Nodup from by decide +kernel) rfl (Or.inl rfl)) dX))),(wA (bF dG (vv 1) (vv 2) (bL _))),(vv 0)⟩)) (aF (cP (bF dG (aU (aN.mono (by decide)) hr (by rfl) (aB (vv 0) (aB aG aA))) aG (bL _)) (aL (aQ (i:=6) dJ.nd rfl (by trivial) (aD (aB aJ (aB (bV dU (vv 7) (aU (aN.mono (by decide)) hr (by rfl) (aB (vv 0) (aB (aY bD (by rfl) T.eY cZ (aB (vv 7) aA)) aA))) (fun _ _=>rfl)) aA))))) bK) (aL (iB (wW PySem.F.plainAttrs_list PySem.F.slot_list_append PySem.F.type_list_append jF (vv 2) (aB (aD (aB (vv 4) (aB (lW aJ (aU (aN.mono (by decide)) hr (by rfl) (aB (vv 0) (aB aG aA))) (fun _ _=>rfl)) (aB (vv 6) aA)))) aA))))))))) (aL (aR (cB cN (by rfl) T.cU cJ (aB (vv 2) aA)))))),?_⟩
 have lu:=hu.len
 refine ⟨(by show 0≤sizeLine;decide),fun p H1 fp s1 g1=>?_⟩
 have f1:=Fx.of hs s1
 have npa:p≠a:=hs.ne fp
 refine ⟨_,rfl,a,2,rfl,f1.st,by decide,fun m H2 f2 m0 m1=>?_⟩
 have f2':=f1.trans f2
 have g2:=f2.same _ _ npa g1
 refine ⟨_,_,rfl,rfl,_,rfl,(by show -(2 ^ 62)≤1+m;omega),(by show 1+m<2 ^ 62;omega),?_⟩
 refine gC (n:=(1+m).toNat) (fun i σ H'=>Fx a H H'∧∃(ws:List V) (ts:List Tst) (l3 l4 l5 l6 l7:Option V),H' p=some (.lst ws)∧ts.length=i∧cL (IsT K H') ws ts∧(∀t∈ts,aHx hd t)∧σ=[some (.ref a),some (.ref b),some (.ref p),l3,l4,l5,l6,l7]) ⟨f2',[],[],_,_,_,_,_,g2,rfl,.nil,(fun t h=>by cases h),rfl⟩ ?_ ?_
 ·rintro i σ H' hi ⟨fx,ws,ts,l3,l4,l5,l6,l7,gp,hl,hw,hts,rfl⟩
  have lw:=hw.len
  have tk0:TK K H H':=fx.tk hs
  refine ⟨_,rfl,_,rfl,_,rfl,_,_,rfl,.inr (tk0 _ _ hb),a,_,rfl,fx.st,(by show (0:Int)<(us.length:Int);omega),fun d H3 f3 d0 d1=>?_⟩
  obtain ⟨u,hat,hmem⟩:=at_of (xs:=us) d0 d1
  obtain ⟨c,hcm,pc,rfl,hpc⟩:=hu.mem hmem
  obtain ⟨hcn,hck⟩:=hc c hcm
  have fl3:=f3
  have fx3:=fx.trans f3
  have tk3:TK K H H3:=fx3.tk hs
  refine ⟨b,_,_,_,rfl,rfl,tk3 _ _ hb,hat,pc,_,rfl,tk3 _ _ hpc,rfl,_,_,rfl,_,_,rfl,rfl,?_⟩
  refine ⟨_,rfl,_,rfl,a,c.2,rfl,fx3.st,hck,fun v H4 f4 hv=>?_⟩
  refine ⟨(by show 2≤sizeLine;decide),fun t1 H5 ft1 s5 g5=>?_⟩
  have fl5:=(f3.trans f4).sm s5
  have fx5:=(fx3.trans f4).sm s5
  have tk5:TK K H H5:=fx5.tk hs
  have hO1:IsO K H5 (.ref t1) (.val v):=⟨t1,rfl,SqT.of g5,aOd (aH5 hv).1,(aH5 hv).1⟩
  have hT1:aU9 hd (.val v)=some c.2:=by
   show some (kindS v)=some c.2
   rw [(aH5 hv).2]
  have gp5:=s5 _ _ (f4.same _ _ npa (f3.same _ _ npa gp))
  dsimp only [qF,oY,cH]
  refine uP [none,none,some (.str c.2)] ?_ ⟨_,rfl,b,rfl,⟨_,tk5 _ _ hb⟩,aCa Same (uL H5) us (kp hd c.2) (fun i _ y=>∃c',hd[i]?=some c'∧y=.str c'.1) (fun _ _ h=>h) (fun _ _ _ h=>h) (fun i σ=>∃c',hd[i]?=some c'∧At2 [none,none,some (.str c.2)] (.str c'.1) (.str c'.2) σ) (Ps2 [none,none,some (.str c.2)]) ⟨none,none,rfl⟩ (small (by omega)) _ (aD5 fun H' s'=>s'.bB (tk5 _ _ hb)) (sY fun H' s'=>s'.bB (tk5 _ _ hb)) (fun i x σ' H' Q' ex hps s' qq=>?_) (fun i x σ2 ex hA H' R s' r=>?_) (fun i x σ2 ex hA hp H' R s' r=>?_) fun D H6 ys s6 fD g6 hys=>?_⟩
  ·refine ⟨rfl,fun i y v h1 h2=>?_⟩
   match i,h1,h2 with
   |0,_,h2=>cases h2
   |1,_,h2=>cases h2
   |2,h1,h2=>cases h1;cases h2;exact ⟨by decide +kernel,5,rfl,rfl,by trivial⟩
   |i+3,h1,_=>cases h1
  ·obtain ⟨c',hc',p',rfl,hp'⟩:=gK hu ex
   exact hg2 (s'.bB (tk5 _ _ hp')) hps fun σ2 h1 h2=>qq σ2 h1 ⟨c',hc',h2⟩
  ·obtain ⟨c',hc',rfl⟩:=hA
   refine ⟨_,rfl,_,rfl,rfl,_,rfl,?_⟩
   have e:kp hd c.2 i=decide (V.str c'.2=V.str c.2):=by
    unfold kp
    rw [hc']
    exact decide_eq_decide.mpr ⟨fun z=>congrArg V.str z,fun z=>V.str.inj z⟩
   rw [←e]
   exact r H' (Same.refl H')
  ·obtain ⟨c',hc',rfl⟩:=hA
   exact ⟨_,rfl,r _ _ (Same.refl H') ⟨c',hc',rfl⟩⟩
  have fl6:=fl5.sm s6
  have fx6:=fx5.sm s6
  have tk6:TK K H H6:=fx6.tk hs
  have nDa:D≠a:=fx5.st.ne fD
  obtain ⟨j0,hj0,ej0⟩:=List.getElem_of_mem hcm
  have hne:0<ys.length:=by
   have hin:j0∈sel (kp hd c.2) 0 (List.range us.length):=by
    rw [List.range_eq_range']
    refine aJu ?_ (Nat.zero_le _) (by omega)
    unfold kp
    rw [List.getElem?_eq_getElem hj0,ej0]
    exact decide_eq_true rfl
   rw [←hys.len]
   exact List.length_pos_of_mem hin
  have hyk:∀y∈ys,∃c'∈hd,y=.str c'.1∧c'.2=c.2:=fun y hy=>by
   obtain ⟨i,hi,c',hc',rfl⟩:=aPq hys y hy
   rw [List.range_eq_range'] at hi
   have hp:=(aC4 hi).1
   unfold kp at hp
   rw [hc'] at hp
   exact ⟨c',List.mem_of_getElem? hc',rfl,of_decide_eq_true hp⟩
  have lys:ys.length≤8:=by
   have:=uD (kp hd c.2) 0 (List.range us.length)
   rw [List.length_range,hys.len] at this
   omega
  have lcc:look hd c.1=some c.2:=nA nd hcm
  refine ⟨_,rfl,a,3,rfl,fx6.st,by decide,fun d3 H7 f7 _ _=>⟨rfl,_,rfl,?_⟩⟩
  have fl7:=fl6.trans f7
  have fx7:=fx6.trans f7
  have gp7:=f7.same _ _ npa (s6 _ _ gp5)
  have gD7:=f7.same _ _ nDa g6
  refine mK (fun _=>?_) (fun _=>?_)
  ·refine ⟨_,rfl,_,rfl,_,rfl,D,_,rfl,.inl (SqL.of gD7),a,_,rfl,fx7.st,(by show (0:Int)<(ys.length:Int);omega),fun d8 H8 f8 d80 d81=>?_⟩
   obtain ⟨y,hy,my⟩:=at_of (xs:=ys) d80 d81
   obtain ⟨c',hcm',rfl,hck'⟩:=hyk y my
   refine ⟨D,_,_,_,rfl,rfl,SqL.of (f8.same _ _ nDa gD7),hy,(by show 2≤sizeLine;decide),fun t2 H9 ft2 s9 g9=>?_⟩
   have fl9:=(fl7.trans f8).sm s9
   have fx9:=(fx7.trans f8).sm s9
   have hO2:IsO K H9 (.ref t2) (.col c'.1):=⟨t2,rfl,SqT.of g9,(hc c' hcm').1⟩
   have hT2:aU9 hd (.col c'.1)=some c.2:=by
    show look hd c'.1=some c.2
    rw [nA nd hcm',hck']
   have gp9:=s9 _ _ (f8.same _ _ npa gp7)
   refine ⟨_,rfl,.inl ⟨rfl,_,SqL.of gp9⟩,_,rfl,_,rfl,a,4,rfl,fl9.st,by decide,fun dz Hz fz dz0 dz1=>?_⟩
   obtain ⟨ch,hch,hsg⟩:=aS7 ⟨dz.toNat,by omega⟩
   have sl:sgs.length=4:=by decide +kernel
   refine ⟨_,_,_,rfl,rfl,dz0,(by omega),(by rw [sl];exact dz1),hch,_,rfl,(by show 3≤sizeLine;decide),fun tz Hy ftz sy gy=>?_⟩
   have flz:=(fl9.trans fz).sm sy
   have gpy:=sy _ _ (fz.same _ _ npa gp9)
   have ntp:tz≠p:=(bH (fz.same _ _ npa gp9) ftz).symm
   have tku:∀zs,TK K Hy (upd Hy p (.lst zs)):=fun zs _ _ e=>e.aBf gpy
   have hOy:=(hO2.tk (fun _ _ e=>sy.bB (fz.bB fl9.st e))).tk (tku (ws++[.ref tz]))
   refine ⟨p,_,_,rfl,rfl,gpy,fL (by omega),?_⟩
   refine ⟨(fx.trans flz).upd fp npa,ws++[.ref tz],ts++[⟨c.1,⟨#[ch]⟩,(.col c'.1)⟩],_,_,_,_,_,aO,by rw [List.length_append,hl];rfl,(hw.imp fun _ _ h=>(h.tk (flz.tk fx.st)).tk (tku _)).app (.cons (b:=(⟨c.1,⟨#[ch]⟩,.col c'.1⟩:Tst)) ⟨tz,_,rfl,SqT.of (by rw [bA ntp];exact gy),hcn,hsg,hOy⟩ .nil),fun t ht=>?_,rfl⟩
   rcases List.mem_append.mp ht with ht|ht
   ·exact hts t ht
   ·rw [List.mem_singleton.mp ht]
    exact ⟨c.2,lcc,hT2⟩
  ·have hO3:IsO K H7 (.ref t1) (.val v):=hO1.tk fun _ _ e=>f7.bB fx6.st (s6.bB e)
   refine ⟨_,rfl,.inl ⟨rfl,_,SqL.of gp7⟩,_,rfl,_,rfl,a,4,rfl,fl7.st,by decide,fun dz Hz fz dz0 dz1=>?_⟩
   obtain ⟨ch,hch,hsg⟩:=aS7 ⟨dz.toNat,by omega⟩
   have sl:sgs.length=4:=by decide +kernel
   refine ⟨_,_,_,rfl,rfl,dz0,(by omega),(by rw [sl];exact dz1),hch,_,rfl,(by show 3≤sizeLine;decide),fun tz Hy ftz sy gy=>?_⟩
   have flz:=(fl7.trans fz).sm sy
   have gpy:=sy _ _ (fz.same _ _ npa gp7)
   have ntp:tz≠p:=(bH (fz.same _ _ npa gp7) ftz).symm
   have tku:∀zs,TK K Hy (upd Hy p (.lst zs)):=fun zs _ _ e=>e.aBf gpy
   have hOy:=(hO3.tk (fun _ _ e=>sy.bB (fz.bB fl7.st e))).tk (tku (ws++[.ref tz]))
   refine ⟨p,_,_,rfl,rfl,gpy,fL (by omega),?_⟩
   refine ⟨(fx.trans flz).upd fp npa,ws++[.ref tz],ts++[⟨c.1,⟨#[ch]⟩,(.val v)⟩],_,_,_,_,_,aO,by rw [List.length_append,hl];rfl,(hw.imp fun _ _ h=>(h.tk (flz.tk fx.st)).tk (tku _)).app (.cons (b:=(⟨c.1,⟨#[ch]⟩,.val v⟩:Tst)) ⟨tz,_,rfl,SqT.of (by rw [bA ntp];exact gy),hcn,hsg,hOy⟩ .nil),fun t ht=>?_,rfl⟩
   rcases List.mem_append.mp ht with ht|ht
   ·exact hts t ht
   ·rw [List.mem_singleton.mp ht]
    exact ⟨c.2,lcc,hT1⟩
 ·rintro σ H' ⟨fx,ws,ts,l3,l4,l5,l6,l7,gp,hl,hw,hts,rfl⟩
  exact ⟨_,rfl,p,ws,rfl,SqL.of gp,fun t H5 _ s5 g5=>q _ _ ts (fx.sm s5) ⟨⟨t,ws,rfl,SqT.of g5,hw.imp fun _ _ h=>h.same s5⟩,by omega,by omega⟩ hts⟩
theorem aOp {α:Type} (l:List α):∀n,(List.range n).filterMap (fun i=>l[i]?)=l.take n
 |0=>by simp
 |n+1=>by
  rw [List.range_succ,List.filterMap_append,aOp l n,List.take_add_one]
  cases e:l[n]? with
  |none=>simp [e]
  |some x=>simp [e]
theorem aLx {H:Hp} {us:List V} {hd:Hdr} (hu:cL (IsC K H) us hd) {is:List Nat} {ys:List V} (h:jY (fun i y=>us[i]?=some y) is ys):cL (IsC K H) ys (is.filterMap fun i=>hd[i]?):=by
 induction h with
 |nil=>exact .nil
 |@cons i y is ys r _ ih=>
  obtain ⟨c,hc,q⟩:=gK hu r
  rw [List.filterMap_cons,hc]
  exact .cons q ih
theorem aO5 {α β:Type} {R:α→β→Prop} {as:List α} {bs:List β} (h:cL R as bs):cL R as.reverse bs.reverse:=by
 induction h with
 |nil=>exact .nil
 |cons r _ ih=>
  rw [List.reverse_cons,List.reverse_cons]
  exact ih.app (.cons r .nil)
theorem wD {α β:Type} {R:α→β→Prop} {as:List α} {bs:List β} (h:cL R as bs):∀n,cL R (as.take n) (bs.take n):=by
 induction h with
 |nil=>intro n;rw [List.take_nil,List.take_nil];exact .nil
 |cons r _ ih=>
  intro n
  cases n with
  |zero=>exact .nil
  |succ n=>exact .cons r (ih n)
def zX (hd' hd:Hdr):Prop:=(∀c∈hd',c∈hd)∧(hd'.map (·.1)).Nodup∧hd'.length≤hd.length
theorem aF5 {hd' hd:Hdr} (h:hd'.Sublist hd) (nd:(hd.map (·.1)).Nodup):zX hd' hd:=⟨fun c hc=>h.subset hc,nd.sublist (h.map _),h.length_le⟩
theorem zX.rev {hd' hd:Hdr} (h:zX hd' hd):zX hd'.reverse hd:=⟨fun c hc=>h.1 c (List.mem_reverse.mp hc),by
 rw [List.map_reverse];exact List.pairwise_reverse.mpr (h.2.1.imp fun q=>Ne.symm q),by rw [List.length_reverse];exact h.2.2⟩
theorem zX.take {hd' hd:Hdr} (h:zX hd' hd) (n:Nat):zX (hd'.take n) hd:=⟨fun c hc=>h.1 c (List.mem_of_mem_take hc),h.2.1.sublist ((List.take_sublist n hd').map _),by have:=h.2.2;rw [List.length_take];omega⟩
def yJ (K:PySem.W.Frag):Sp:=fun vs H Q _=>∃(a:Addr) (vh:V) (hd:Hdr) (n:Nat),vs=[.ref a,vh,.int (n:Nat)]∧gW H a∧jV K H vh hd∧Good hd∧n≤1 ∧
 ∀D H' us hd',Fx a H H'→H D=none→H' D=some (.lst us)→cL (IsC K H') us hd'→zX hd' hd→n≤hd'.length→Q (.ref D) H'
theorem aDc (T:Txt w K mg) (aN:Ok P w K mg base 1 "_law_next" ["_law_state","_law_many"] eE):Ok P w K mg base 2 "_law_some" ["_law_state","_law_head_here","_law_least"] (yJ K):=by
 refine Ok.ofV T.aG4 oH (fun vs H Q E h=>?_) (fun f cdv A outer s H vs Q E hr h=>?_)
 ·obtain ⟨a,vh,hd,n,rfl,_⟩:=h;rfl
 obtain ⟨a,vh,hd,n,rfl,hs,⟨b,us,rfl,hb,hu⟩,⟨nd,l1,l8⟩,hn,q⟩:=h
 refine ⟨_,(aF (uW (i0:=3) oH.nd rfl (by trivial) (N:=["_law_column","_law_state"]) (by trivial) (fC (aK lX) rfl (by decide +kernel)) rfl (mO (vv 1)) (fun cl s' H' fp=>⟨(aV (i:=0) (show (["_law_column","_law_state"]:List Str).Nodup from by decide +kernel) rfl (Or.inl rfl)),(wA (bF dG (aU (aN.mono (by decide)) hr (by rfl) (aB (vv 1) (aB aG aA))) aG (bL _))),(vv 0)⟩)) (aF (cP (bF aOf (aY bD (by rfl) T.eY cZ (aB (vv 3) aA)) (vv 2) (bL _)) (aL (aQ (i:=3) oH.nd rfl (by trivial) (bC (aB (bV cM (vv 1) (aU (aN.mono (by decide)) hr (by rfl) (aB (vv 0) (aB (aY bD (by rfl) T.eY cZ (aB (vv 1) aA)) aA))) (fun _ _=>rfl)) aA)))) bK) (aF (cP (bF dG (aU (aN.mono (by decide)) hr (by rfl) (aB (vv 0) (aB aG aA))) aG (bL _)) (aL (iB (aJb PySem.F.plainAttrs_list PySem.F.slot_list_reverse PySem.F.type_list_reverse xF (vv 3)))) bK) (aL (aR (vv 3)))))),?_⟩
 have lu:=hu.len
 have fin:∀D H' zs hd',Fx a H H'→H D=none→H' D=some (.lst zs)→cL (IsC K H') zs hd'→zX hd' hd→n≤hd'.length→∀H2,Fx a H' H2→Q (.ref D) H2∧Q (.ref D) (upd H2 D (.lst zs.reverse)):=by
  intro D H' zs hd' fx hD gD hz hsub hle H2 f2
  have nDa:D≠a:=hs.ne hD
  have g2:=f2.same _ _ nDa gD
  have hz2:cL (IsC K H2) zs hd':=hz.imp fun _ _ h=>h.tk (f2.tk fx.st)
  refine ⟨q D H2 zs hd' (fx.trans f2) hD g2 hz2 hsub hle,q D _ zs.reverse hd'.reverse ((fx.trans f2).upd hD nDa) hD aO ?_ hsub.rev (by rw [List.length_reverse];exact hle)⟩
  exact aO5 (hz2.imp fun _ _ h=>h.tk fun _ _ e=>e.aBf g2)
 dsimp only [qF,oY]
 refine uP [none,some (.ref a)] ?_ ⟨_,rfl,b,rfl,⟨_,hb⟩,aXt (Fx a) (aS9 hs) us (fun i _ y=>us[i]?=some y) (fun _ _ h=>h) (fun _ _ _ h=>h) (fun i σ=>∃x,us[i]?=some x∧At1 [none,some (.ref a)] x σ) (Ps1 [none,some (.ref a)]) ⟨none,rfl⟩ (small (by omega)) _ (aD5 fun H' f'=>f'.bB hs hb) (sY fun H' f'=>f'.bB hs hb) (fun i x σ' H' Q' ex hps s' qq=>hg1 (i:=i) hps fun σ2 h1 h2=>qq σ2 h1 ⟨x,ex,h2⟩) (fun i x σ2 ex hA H' R s' r=>?_) (fun i x σ2 ex hA H' R s' r=>?_) fun D H1 ys f1 fD g1 hys=>?_⟩
 ·exact iD 0 (by decide +kernel) rfl rfl (by trivial)
 ·obtain ⟨x',_,l,rfl⟩:=hA
  exact ⟨_,rfl,a,2,rfl,s'.st,by decide,fun d H2 f2 _ _=>⟨rfl,_,rfl,r _ _ f2⟩⟩
 ·obtain ⟨x',hx',l,rfl⟩:=hA
  rw [ex] at hx'
  cases hx'
  exact ⟨_,rfl,r _ _ (.refl s'.st) ex⟩
 obtain ⟨is,hsub,hys⟩:=hys
 have hu1:cL (IsC K H1) us hd:=hu.imp fun _ _ h=>h.tk (f1.tk hs)
 have hcol:=aLx hu1 hys
 have hsubH:zX (is.filterMap fun i=>hd[i]?) hd:=by
  refine aF5 ?_ nd
  have:=hsub.filterMap (fun i=>hd[i]?)
  rw [aOp,lu,List.take_length] at this
  exact this
 have lcol:=hcol.len
 dsimp only [cH]
 refine ⟨_,rfl,D,_,rfl,.inl (SqL.of g1),_,rfl,_,_,rfl,rfl,_,rfl,mK (fun c=>?_) (fun c=>?_)⟩
 ·refine ⟨_,rfl,_,rfl,_,rfl,_,_,rfl,.inr (f1.bB hs hb),a,_,rfl,f1.st,(by show (0:Int)<(us.length:Int);omega),fun d H2 f2 d0 d1=>?_⟩
  obtain ⟨u,hat,hm⟩:=at_of (xs:=us) d0 d1
  obtain ⟨cc,hcm,hcc⟩:=hu.mem hm
  have fx2:=f1.trans f2
  refine ⟨b,_,_,u,rfl,rfl,fx2.bB hs hb,hat,(by show 1≤sizeLine;decide),fun p H3 fp s3 g3=>?_⟩
  have fx3:=fx2.sm s3
  have fp0:H p=none:=fx2.free fp
  have key:=fin p H3 [u] [cc] fx3 fp0 g3 (.cons (hcc.tk (fx3.tk hs)) .nil) ⟨fun c' hc'=>by rw [List.mem_singleton.mp hc'];exact hcm,by simp,by show 1≤hd.length;exact l1⟩ (by show n≤1;exact hn)
  refine ⟨_,rfl,a,2,rfl,fx3.st,by decide,fun e H4 f4 _ _=>⟨rfl,_,rfl,?_⟩⟩
  refine mK (fun _=>?_) (fun _=>⟨_,rfl,(key H4 f4).1⟩)
  have g4:=f4.same _ _ (hs.ne fp0) g3
  exact ⟨_,rfl,.inl ⟨rfl,_,SqL.of g4⟩,p,_,rfl,rfl,g4,_,rfl,(key H4 f4).2⟩
 ·have c':¬ (ys.length:Int)<(n:Int):=of_decide_eq_false (Bool.eq_false_iff.mpr c)
  have key:=fin D H1 ys _ f1 fD g1 hcol hsubH (by omega)
  refine ⟨_,rfl,a,2,rfl,f1.st,by decide,fun e H4 f4 _ _=>⟨rfl,_,rfl,?_⟩⟩
  refine mK (fun _=>?_) (fun _=>⟨_,rfl,(key H4 f4).1⟩)
  have g4:=f4.same _ _ (hs.ne fD) g1
  exact ⟨_,rfl,.inl ⟨rfl,_,SqL.of g4⟩,D,_,rfl,rfl,g4,_,rfl,(key H4 f4).2⟩
theorem uU {hd hd':Hdr} (nd:(hd.map (·.1)).Nodup) (h:∀c∈hd',c∈hd):Looks hd (hd'.map (·.1)) (hd'.map (·.2)):=by
 induction hd' with
 |nil=>exact .nil
 |cons c r ih=>exact .cons (nA nd (h c (List.mem_cons_self ..))) (ih fun x hx=>h x (List.mem_cons_of_mem _ hx))
def aHm (K:PySem.W.Frag):Sp:=fun vs H Q _=>∃(a:Addr) (vh:V) (hd:Hdr),vs=[.ref a,vh]∧gW H a∧jV K H vh hd∧rE hd∧∀v H' ps ks,Fx a H H'→oX xR 0 3 K H' v ps→Looks hd (ps.map (·.1)) ks→(ps.map (·.1)).Nodup→Q v H'
theorem uX {α:Type}:∀(k:Nat) (xs:List α),sel (fun _=>true) k xs=xs
 |_,[]=>rfl
 |k,x::r=>by
  show (if true=true then x::sel (fun _=>true) (k+1) r else _)=_
  rw [if_pos rfl,uX (k+1) r]
theorem rK {R:Nat→V→Prop} {n:Nat} {ys:List V} (h:jY R (List.range n) ys):ys.length=n∧∀(i:Nat) (y:V),ys[i]?=some y→R i y:=by
 have aux:∀{is:List Nat} {ys:List V},jY R is ys→∀(i:Nat) (y:V),ys[i]?=some y→∃j,is[i]?=some j∧R j y:=by
  intro is ys h
  induction h with
  |nil=>intro i y e;simp at e
  |cons r _ ih=>
   intro i y e
   cases i with
   |zero=>cases e;exact ⟨_,rfl,r⟩
   |succ i=>obtain ⟨j,h1,h2⟩:=ih i y (by simpa using e);exact ⟨j,by simpa using h1,h2⟩
 have l:=h.len
 rw [List.length_range] at l
 refine ⟨l.symm,fun i y e=>?_⟩
 obtain ⟨j,h1,h2⟩:=aux h i y e
 have hi:i<n:=by
  have:=(List.getElem?_eq_some_iff.mp e).1
  omega
 rw [List.getElem?_range hi] at h1
 cases h1
 exact h2
theorem aC3 (T:Txt w K mg) (aN:Ok P w K mg base 1 "_law_next" ["_law_state","_law_many"] eE) (iJ:Ok P w K mg base 2 "_law_some" ["_law_state","_law_head_here","_law_least"] (yJ K)):Ok P w K mg base 3 "_law_keys" ["_law_state","_law_head_here"] (aHm K):=by
 refine Ok.ofV T.aGh vH (fun vs H Q E h=>?_) (fun f cdv A outer s H vs Q E hr h=>?_)
 ·obtain ⟨a,vh,hd,rfl,_⟩:=h;rfl
 obtain ⟨a,vh,hd,rfl,hs,hh,⟨hg,hc⟩,q⟩:=h
 refine ⟨_,(aF (aQ (i:=2) vH.nd rfl (by trivial) (gB qC (aU (iJ.mono (by decide)) hr (by rfl) (aB (vv 0) (aB (vv 1) (aB aG aA)))) lD (gG aG))) (aL (aR (cB cN (by rfl) T.cU cJ (aB (dC (N:=["_law_name","_law_kind","_law_state"]) (by trivial) (fC (aK mD) rfl (by decide +kernel)) rfl (gH (vv 2)) (fun cl s' H' fp=>⟨(mF (K:=K) (n:=2) rfl (bJ (aV (i:=0) (show (["_law_name","_law_kind","_law_state"]:List Str).Nodup from by decide +kernel) rfl (Or.inl rfl)) (bJ (aV (i:=1) (show (["_law_name","_law_kind","_law_state"]:List Str).Nodup from by decide +kernel) rfl (Or.inl rfl)) dX))),fH,(aD (aB (vv 0) (aB (bV (uK (K:=K)) (bC (aB aJ (aB aJ aA))) (aU (aN.mono (by decide)) hr (by rfl) (aB (vv 2) (aB aG aA))) (fun _ _=>rfl)) aA)))⟩)) aA))))),?_⟩
 refine ⟨_,rfl,_,rfl,a,vh,hd,0,rfl,hs,hh,hg,by decide,fun D H1 us hd' f1 fD g1 hu hsub _=>?_⟩
 refine ⟨_,rfl,D,_,rfl,SqL.of g1,fun p H2 fp s2 g2=>?_⟩
 rw [show (3:Int)=((3:Nat):Int) from rfl,yM] at g2
 have fx2:=f1.sm s2
 have hu2:cL (IsC K H2) (us.take 3) (hd'.take 3):=wD (hu.imp fun _ _ h=>h.same s2) 3
 have hsub3:=hsub.take 3
 have fp0:H p=none:=f1.free fp
 have npa:p≠a:=hs.ne fp0
 generalize us.take 3=zs at g2 hu2
 have l3:(hd'.take 3).length≤3:=by rw [List.length_take];omega
 generalize hd'.take 3=hz at hu2 hsub3 l3
 have lz:=hu2.len
 dsimp only [cH,aMm,tCB,bQ]
 refine aAr [none,none,some (.ref a)] ?_ ⟨_,rfl,p,rfl,⟨_,SqL.of g2⟩,aCa (Fx a) (aS9 fx2.st) zs (fun _=>true) (fun i H y=>∃c wy t,hz[i]?=some c∧y=.ref t∧SqT K H t [.str c.1,.str wy]∧(wy = "up"∨wy = "down")) (fun e1 e2 h=>?_) (fun _ _ e h=>?_) (fun i σ=>∃c,hz[i]?=some c∧At2 [none,none,some (.ref a)] (.str c.1) (.str c.2) σ) (Ps2 [none,none,some (.ref a)]) ⟨none,none,rfl⟩ (small (by omega)) _ (aDd fun H' f'=>SqL.of (f'.same _ _ npa g2)) (wQ fun H' f'=>SqL.of (f'.same _ _ npa g2)) (fun i x σ' H' Q' ex hps s' qq=>?_) (fun i x σ2 ex hA H' R s' r=>r _ (.refl s'.st)) (fun i x σ2 ex hA _ H' R s' r=>?_) fun D2 H3 ys f3 fD2 g3 hys=>?_⟩
 ·refine ⟨rfl,fun i y v h1 h2=>?_⟩
  match i,h1,h2 with
  |0,_,h2=>cases h2
  |1,_,h2=>cases h2
  |2,h1,h2=>cases h1;cases h2;exact ⟨by decide +kernel,0,rfl,rfl,by trivial⟩
  |i+3,h1,_=>cases h1
 ·obtain ⟨c,wy,t,h1,h2,h3,h4⟩:=h
  exact ⟨c,wy,t,h1,h2,e2.bB e1.st h3,h4⟩
 ·obtain ⟨c,wy,t,h1,h2,h3,h4⟩:=h
  exact ⟨c,wy,t,h1,h2,h3.aBf e,h4⟩
 ·obtain ⟨c,hc',p',rfl,hp'⟩:=gK hu2 ex
  exact hg2 (s'.bB fx2.st hp') hps fun σ2 h1 h2=>qq σ2 h1 ⟨c,hc',h2⟩
 ·obtain ⟨c,hc',rfl⟩:=hA
  refine ⟨_,rfl,(by show 2≤sizeLine;decide),fun l1 H4 fl1 s4 g4=>?_⟩
  refine ⟨_,rfl,a,2,rfl,s'.st.same s4,by decide,fun d H5 f5 d0 d1=>?_⟩
  obtain ⟨v,hv,mv⟩:=at_of (xs:=xN) d0 (by show d<2;omega)
  obtain ⟨wy,rfl,hwy⟩:∃wy:Str,v=.str wy∧(wy = "up"∨wy = "down"):=by
   simp only [xN,List.mem_cons,List.not_mem_nil,or_false] at mv
   rcases mv with rfl|rfl
   ·exact ⟨_,rfl,.inl rfl⟩
   ·exact ⟨_,rfl,.inr rfl⟩
  refine ⟨l1,_,_,_,rfl,rfl,SqL.of (f5.same _ _ (s'.st.ne fl1) g4),hv,(by show 2≤sizeLine;decide),fun t H6 _ s6 g6=>?_⟩
  exact r _ _ (((Fx.of s'.st s4).trans f5).sm s6) ⟨c,wy,t,hc',rfl,SqT.of g6,hwy⟩
 rw [uX] at hys
 obtain ⟨lys,hget⟩:=rK hys
 have hpz:∃ps:List (Str × Str),cL (xR K H3) ys ps∧ps.map (·.1)=hz.map (·.1):=by
  have aux:∀(n:Nat) (ys:List V) (hz:Hdr),ys.length=hz.length→(∀c∈hz,Nm c.1)→(∀(i:Nat) (y:V),ys[i]?=some y→∃c wy t,hz[i]?=some c∧y=.ref t∧SqT K H3 t [.str c.1,.str wy]∧(wy = "up"∨wy = "down"))→∃ps:List (Str × Str),cL (xR K H3) ys ps∧ps.map (·.1)=hz.map (·.1):=by
   intro n ys
   induction ys with
   |nil=>intro hz hl _ _;cases hz with
    |nil=>exact ⟨[],.nil,rfl⟩
    |cons _ _=>simp at hl
   |cons y ys ih=>
    intro hz hl hnm hget
    cases hz with
    |nil=>simp at hl
    |cons c hz=>
     obtain ⟨c',wy,t,h1,h2,h3,h4⟩:=hget 0 y rfl
     cases h1
     obtain ⟨ps,h5,h6⟩:=ih hz (by simpa using hl) (fun d hd=>hnm d (List.mem_cons_of_mem _ hd)) fun i z e=>hget (i+1) z (by simpa using e)
     exact ⟨(c.1,wy)::ps,.cons ⟨t,h2,h3,hnm c (List.mem_cons_self ..),h4⟩ h5,by rw [List.map_cons,h6];rfl⟩
  exact aux 0 ys hz (by omega) (fun c hcm=>(hc c (hsub3.1 c hcm)).1) hget
 obtain ⟨ps,hps,epz⟩:=hpz
 have lps:=hps.len
 refine ⟨D2,_,rfl,SqL.of g3,fun t H4 _ s4 g4=>q _ _ ps (hz.map (·.2)) ((fx2.trans f3).sm s4) ⟨⟨t,ys,rfl,SqT.of g4,hps.imp fun _ _ h=>h.same s4⟩,Nat.zero_le _,by omega⟩ ?_ ?_⟩
 ·rw [epz]
  exact uU hg.1 hsub3.1
 ·rw [epz]
  exact hsub3.2.1
abbrev aX9:List V:=[.str "count",.str "least",.str "most",.str "sum"]
def aFc (K:PySem.W.Frag):Sp:=fun vs H Q _=>∃(a F:Addr) (vh:V) (hd:Hdr) (fs:List Str),vs=[.ref a,vh,.ref F]∧gW H a∧jV K H vh hd∧rE hd∧H F=some (.lst (fs.map V.str))∧F≠a∧2≤fs.length∧(∀n∈fs,Nm n) ∧
 ∀v H' ss js,Fx a H H'→oX wG 1 2 K H' v ss→aCz hd ss js→ss.map Sm.new=fs.take ss.length→(∀(s:Sm) (j:Str),(s,j)∈ss.zip js→xV j)→Q v H'
theorem aQl {w:Int} (h0:0≤w) (h1:w<4):∃x:Str,atI aX9 w=some (.str x)∧((w=0∧x = "count")∨(w=1∧x = "least")∨(w=2∧x = "most")∨(w=3∧x = "sum")):=by
 obtain ⟨n,rfl⟩:∃n:Nat,w=n:=⟨w.toNat,by omega⟩
 match n,h1 with
 |0,_=>exact ⟨_,dH (j:=0) rfl,.inl ⟨rfl,rfl⟩⟩
 |1,_=>exact ⟨_,dH (j:=1) rfl,.inr (.inl ⟨rfl,rfl⟩)⟩
 |2,_=>exact ⟨_,dH (j:=2) rfl,.inr (.inr (.inl ⟨rfl,rfl⟩))⟩
 |3,_=>exact ⟨_,dH (j:=3) rfl,.inr (.inr (.inr ⟨rfl,rfl⟩))⟩
 |n+4,h=>omega
theorem aGp {α β:Type}:∀{as:List α} {bs:List β} {a:α} {b:β},as.length=bs.length→(as++[a]).zip (bs++[b])=as.zip bs++[(a,b)]
 |[],[],_,_,_=>rfl
 |x::as,y::bs,a,b,h=>by
  rw [List.cons_append,List.cons_append,List.zip_cons_cons,List.zip_cons_cons,aGp (by simpa using h)]
  rfl
theorem aCt (T:Txt w K mg) (aN:Ok P w K mg base 1 "_law_next" ["_law_state","_law_many"] eE):Ok P w K mg base 2 "_law_sums" ["_law_state","_law_head_here","_law_fresh_here"] (aFc K):=by
 refine Ok.ofV T.aF7 dZ (fun vs H Q E h=>?_) (fun f cdv A outer s H vs Q E hr h=>?_)
 ·obtain ⟨a,F,vh,hd,fs,rfl,_⟩:=h;rfl
 obtain ⟨a,F,vh,hd,fs,rfl,hs,⟨b,us,rfl,hb,hu⟩,⟨⟨nd,l1,l8⟩,hc⟩,hF,nF,lf,hfn,q⟩:=h
 refine ⟨_,(aF (aQ (i:=3) dZ.nd rfl (by trivial) (bC aA)) (aF (jL PassesOwn.never rfl (dW (by rfl) T.gY (aB (bG cX aG (aU (aN.mono (by decide)) hr (by rfl) (aB (vv 0) (aB aG aA)))) aA)) (aV (i:=4) dZ.nd rfl (by trivial)) (aF (rR (bV cM (vv 1) (aU (aN.mono (by decide)) hr (by rfl) (aB (vv 0) (aB (aY bD (by rfl) T.eY cZ (aB (vv 1) aA)) aA))) (fun _ _=>rfl)) (mH rfl (bJ (aV (i:=5) dZ.nd rfl (by trivial)) (bJ (aV (i:=6) dZ.nd rfl (by trivial)) dX)))) (aF (aQ (i:=7) dZ.nd rfl (by trivial) (bG cX aG (cB qK (by rfl) T.aG3 aAj (aB (gJ dG (vv 6) aJ (bL _)) aA)))) (aF (aQ (i:=8) dZ.nd rfl (by trivial) (bV dU (bC (aB aJ (aB aJ (aB aJ (aB aJ aA))))) (aU (aN.mono (by decide)) hr (by rfl) (aB (vv 0) (aB (vv 7) aA))) (fun _ _=>rfl))) (aF (cP (bF dG (vv 8) aJ (bL _)) (aL (aQ (i:=5) dZ.nd rfl (by trivial) gA)) bK) (aL (iB (wW PySem.F.plainAttrs_list PySem.F.slot_list_append PySem.F.type_list_append jF (vv 3) (aB (aD (aB (vv 8) (aB (vv 5) (aB (bV dU (vv 2) (vv 4) (fun _ _=>rfl)) aA)))) aA))))))))) (aL (aR (cB cN (by rfl) T.cU cJ (aB (vv 3) aA)))))),?_⟩
 have lu:=hu.len
 refine ⟨(by show 0≤sizeLine;decide),fun p H1 fp s1 g1=>?_⟩
 have f1:=Fx.of hs s1
 have npa:p≠a:=hs.ne fp
 refine ⟨_,rfl,a,2,rfl,f1.st,by decide,fun m H2 f2 m0 m1=>?_⟩
 have f2':=f1.trans f2
 have g2:=f2.same _ _ npa g1
 refine ⟨_,_,rfl,rfl,_,rfl,(by show -(2 ^ 62)≤1+m;omega),(by show 1+m<2 ^ 62;omega),?_⟩
 refine gC (n:=(1+m).toNat) (fun i σ H'=>Fx a H H'∧∃(ws:List V) (ss:List Sm) (js:List Str) (l4 l5 l6 l7 l8:Option V),H' p=some (.lst ws)∧ss.length=i∧cL (wG K H') ws ss∧aCz hd ss js∧ss.map Sm.new=fs.take i∧(∀(s:Sm) (j:Str),(s,j)∈ss.zip js→xV j)∧σ=[some (.ref a),some (.ref b),some (.ref F),some (.ref p),l4,l5,l6,l7,l8]) ⟨f2',[],[],[],_,_,_,_,_,g2,rfl,.nil,.nil,rfl,(fun s j h=>by cases h),rfl⟩ ?_ ?_
 ·rintro i σ H' hi ⟨fx,ws,ss,js,l4,l5,l6,l7,l8,gp,hl,hw,hsj,hnw,hkj,rfl⟩
  have lw:=hw.len
  have lj:=hsj.len
  have tk0:TK K H H':=fx.tk hs
  refine ⟨_,rfl,_,rfl,_,rfl,_,_,rfl,.inr (tk0 _ _ hb),a,_,rfl,fx.st,(by show (0:Int)<(us.length:Int);omega),fun d H3 f3 d0 d1=>?_⟩
  obtain ⟨u,hat,hmem⟩:=at_of (xs:=us) d0 d1
  obtain ⟨c,hcm,pc,rfl,hpc⟩:=hu.mem hmem
  obtain ⟨hcn,hck⟩:=hc c hcm
  have fx3:=fx.trans f3
  have tk3:TK K H H3:=fx3.tk hs
  refine ⟨b,_,_,_,rfl,rfl,tk3 _ _ hb,hat,pc,_,rfl,tk3 _ _ hpc,rfl,_,_,rfl,_,_,rfl,rfl,?_⟩
  have lcc:look hd c.1=some c.2:=nA nd hcm
  have hif:fs.take (i+1)=fs.take i++[fs[i]'(by omega)]:=by rw [List.take_add_one,List.getElem?_eq_getElem (by omega)];rfl
  have hni:Nm (fs[i]'(by omega)):=hfn _ (List.getElem_mem _)
  have hat':∀Hz,Fx a H Hz→SqL K Hz F (fs.map V.str):=fun Hz fz=>SqL.of (fz.same _ _ nF hF)
  have hix:atI (fs.map V.str) (0+(i:Int))=some (.str (fs[i]'(by omega))):=by
   rw [Int.zero_add]
   exact dH (by rw [List.getElem?_map,List.getElem?_eq_getElem (by omega)];rfl)
  refine ⟨_,rfl,rfl,.inr ⟨_,rfl,_,_,rfl,rfl,?_⟩⟩
  obtain ⟨mn,emn,hmn,hm3⟩:∃mn:Int,(3+(if decide (V.str c.2=V.str "number") then 1 else 0):Int)=mn∧3≤mn∧(mn≤3∨(mn=4∧c.2 = "number")):=by
   by_cases e:c.2 = "number"
   ·exact ⟨4,by rw [decide_eq_true (congrArg V.str e)];rfl,by decide,.inr ⟨rfl,e⟩⟩
   ·exact ⟨3,by rw [decide_eq_false (by intro z;exact e (V.str.inj z))];rfl,by decide,.inl (by decide)⟩
  dsimp only [cH]
  rw [emn]
  refine ⟨(by show 4≤sizeLine;decide),fun p4 H4 fp4 s4 g4=>?_⟩
  have fx4:=fx3.sm s4
  refine ⟨_,rfl,_,rfl,a,mn,rfl,fx4.st,by omega,fun w' H5 f5 w0 w1=>?_⟩
  have fx5:=fx4.trans f5
  have fl5:Fx a H' H5:=(f3.sm s4).trans f5
  have gp5:=f5.same _ _ npa (s4 _ _ (f3.same _ _ npa gp))
  obtain ⟨x,hx,hxc⟩:=aQl w0 (show w'<4 by omega)
  refine ⟨p4,_,_,_,rfl,rfl,SqL.of (f5.same _ _ (fx3.st.ne fp4) g4),hx,?_⟩
  have rest:∀(nv:V) (sm:Sm) (j:Str),(∀Hz tz,SqT K Hz tz [.str x,nv,.str (fs[i]'(by omega))]→wG K Hz (.ref tz) sm)→sm.new=fs[i]'(by omega)→smK hd sm=some j→(sm.wd = "sum"→j≠"word")→xV j→∀tz Hy,H5 tz=none→Same H5 Hy→Hy tz=some (.tup [.str x,nv,.str (fs[i]'(by omega))]) →
    Hy p=some (.lst ws)∧(Fx a H (upd Hy p (.lst (ws++[.ref tz])))∧cL (wG K (upd Hy p (.lst (ws++[.ref tz])))) (ws++[.ref tz]) (ss++[sm])∧aCz hd (ss++[sm]) (js++[j])∧(ss++[sm]).map Sm.new=fs.take (i+1)∧∀(s:Sm) (j':Str),(s,j')∈(ss++[sm]).zip (js++[j])→xV j'):=by
   intro nv sm j hsm hnew hk hsum hkd tz Hy ftz sy gy
   have gpy:=sy _ _ gp5
   have ntp:tz≠p:=(bH gp5 ftz).symm
   refine ⟨gpy,(fx5.sm sy).upd fp npa,?_,?_,?_,?_⟩
   ·exact (hw.imp fun _ _ h=>(h.tk ((fl5.sm sy).tk fx.st)).tk fun _ _ e=>e.aBf gpy).app (.cons (hsm _ tz (SqT.of (by rw [bA ntp];exact gy))) .nil)
   ·exact cL.app hsj (.cons ⟨hk,hsum⟩ .nil)
   ·rw [List.map_append,hnw,hif,List.map_singleton,hnew]
   ·intro s j' hm
    rw [aGp (by omega)] at hm
    rcases List.mem_append.mp hm with hm|hm
    ·exact hkj s j' hm
    ·cases List.mem_singleton.mp hm
     exact hkd
  refine ⟨_,rfl,rfl,_,rfl,?_⟩
  by_cases ec:x = "count"
  ·subst ec
   rw [decide_eq_true rfl]
   refine cY ?_
   refine ⟨_,rfl,.inl ⟨rfl,_,SqL.of gp5⟩,_,rfl,_,rfl,_,rfl,_,rfl,F,_,_,_,rfl,rfl,hat' _ fx5,hix,(by show 3≤sizeLine;decide),fun tz Hy ftz sy gy=>?_⟩
   obtain ⟨k1,k2,k3,k4,k5,k6⟩:=rest .non ⟨"count",none,fs[i]'(by omega)⟩ "number" (fun Hz tz h=>⟨tz,rfl,hni,.inl ⟨rfl,rfl,h⟩⟩) rfl rfl (fun _=>by decide +kernel) (.inl rfl) tz Hy ftz sy gy
   exact ⟨p,_,_,rfl,rfl,k1,fL (by omega),k2,_,_,_,_,_,_,_,_,aO,by rw [List.length_append,hl];rfl,k3,k4,k5,k6,rfl⟩
  ·rw [decide_eq_false (by intro z;exact ec (V.str.inj z))]
   refine cI ?_
   have hwd:aWn x:=by
    rcases hxc with ⟨_,e⟩|⟨_,e⟩|⟨_,e⟩|⟨_,e⟩
    ·exact absurd e ec
    ·exact .inr (.inl e)
    ·exact .inr (.inr e)
    ·exact .inl e
   have hsum:x = "sum"→c.2≠"word":=fun e=>by
    rcases hxc with ⟨_,e'⟩|⟨_,e'⟩|⟨_,e'⟩|⟨e3,e'⟩
    ·exact absurd e' ec
    ·rw [e] at e';exact absurd e' (by decide +kernel)
    ·rw [e] at e';exact absurd e' (by decide +kernel)
    ·rcases hm3 with z|⟨_,z⟩
     ·omega
     ·rw [z];decide +kernel
   refine ⟨_,rfl,.inl ⟨rfl,_,SqL.of gp5⟩,_,rfl,_,rfl,_,rfl,_,rfl,F,_,_,_,rfl,rfl,hat' _ fx5,hix,(by show 3≤sizeLine;decide),fun tz Hy ftz sy gy=>?_⟩
   obtain ⟨k1,k2,k3,k4,k5,k6⟩:=rest (.str c.1) ⟨x,some c.1,fs[i]'(by omega)⟩ c.2 (fun Hz tz h=>⟨tz,rfl,hni,.inr ⟨c.1,rfl,hcn,hwd,h⟩⟩) rfl lcc hsum hck tz Hy ftz sy gy
   exact ⟨p,_,_,rfl,rfl,k1,fL (by omega),k2,_,_,_,_,_,_,_,_,aO,by rw [List.length_append,hl];rfl,k3,k4,k5,k6,rfl⟩
 ·rintro σ H' ⟨fx,ws,ss,js,l4,l5,l6,l7,l8,gp,hl,hw,hsj,hnw,hkj,rfl⟩
  exact ⟨_,rfl,p,ws,rfl,SqL.of gp,fun t H5 _ s5 g5=>q _ _ ss js (fx.sm s5) ⟨⟨t,ws,rfl,SqT.of g5,hw.imp fun _ _ h=>h.same s5⟩,by omega,by omega⟩ hsj (by rw [hnw,hl]) hkj⟩
theorem aK0 {n:Str}:∀{l:List Str},l.Nodup→l.length≤(l.filter fun x=>!decide (x=n)).length+1
 |[],_=>by simp
 |x::r,h=>by
  rw [List.nodup_cons] at h
  rw [List.filter_cons,List.length_cons]
  by_cases e:x=n
  ·subst e
   rw [decide_eq_true rfl]
   have:r.filter (fun y=>!decide (y=x))=r:=List.filter_eq_self.mpr fun y hy=>by
    rw [decide_eq_false (fun z=>h.1 (by rw [←z];exact hy))]
    rfl
   simp [this]
  ·rw [decide_eq_false e]
   have:=aK0 (n:=n) h.2
   simp only [Bool.not_false,if_true,List.length_cons]
   omega
theorem aFn {l:List Str} (h:l.Nodup):∀S:List Str,l.length≤(l.filter fun x=>!decide (x∈S)).length+S.length
 |[]=>by
  have e:(l.filter fun x=>!decide (x∈([]:List Str)))=l:=List.filter_eq_self.mpr (by intro x _;simp)
  rw [e]
  exact Nat.le_add_right _ _
 |s::S=>by
  have e:(l.filter fun x=>!decide (x∈s::S))=(l.filter fun x=>!decide (x∈S)).filter fun x=>!decide (x=s):=by
   rw [List.filter_filter]
   refine List.filter_congr fun x _=>?_
   by_cases a:x=s <;> by_cases b:x∈S <;> simp [a,b]
  have h1:=aFn h S
  have h2:=aK0 (n:=s) (h.sublist (List.filter_sublist (p:=fun x=>!decide (x∈S))))
  rw [e,List.length_cons]
  omega
theorem aG1 {p:Nat→Bool} {R:Nat→V→Prop}:∀{k:Nat} {l:List Str} {ys:List V},(∀(j:Nat) (n:Str),l[j]?=some n→∀y,R (k+j) y→y=.str n)→jY R (sel p k (List.range' k l.length)) ys→ys=(sel p k l).map V.str
 |k,[],ys,_,h=>by cases h;rfl
 |k,n::r,ys,hR,h=>by
  rw [List.length_cons,List.range'_succ] at h
  have h:jY R (if p k then k::sel p (k+1) (List.range' (k+1) r.length) else sel p (k+1) (List.range' (k+1) r.length)) ys:=h
  have ih:∀{zs:List V},jY R (sel p (k+1) (List.range' (k+1) r.length)) zs→zs=(sel p (k+1) r).map V.str:=fun {zs} hz=>
   aG1 (k:=k+1) (l:=r) (fun j m hj y hy=>hR (j+1) m (by simpa using hj) y (by rw [show k+(j+1)=k+1+j by omega];exact hy)) hz
  show ys=(if p k then n::sel p (k+1) r else sel p (k+1) r).map V.str
  split at h
  ·rename_i hp
   rw [if_pos hp]
   cases h with
   |cons r' t=>
    rw [List.map_cons,←ih t,hR 0 n rfl _ r']
  ·rename_i hp
   rw [if_neg hp]
   exact ih h
theorem aFx {ys:List V} {cs:Hdr} (hl:ys.length=cs.length) (h:∀(i:Nat) (y:V),ys[i]?=some y→∃c,cs[i]?=some c∧y=.str c.1):ys=(cs.map (·.1)).map V.str:=by
 rw [List.map_map]
 refine List.ext_getElem? fun i=>?_
 by_cases hi:i<ys.length
 ·obtain ⟨c,h1,h2⟩:=h i ys[i] (List.getElem?_eq_getElem hi)
  rw [List.getElem?_eq_getElem hi,List.getElem?_map,h1,h2]
  rfl
 ·rw [List.getElem?_eq_none (by omega),List.getElem?_eq_none (by rw [List.length_map];omega)]
theorem aA0 {X:Cx} {scope:Scope} {N:List Str} {tl:TE} {σ:L2.St} {H:Hp} {Q:VK} {b:Addr} {us:List V} {cs:Hdr} (hb:SqT K H b us) (hu:cL (IsC K H) us cs) (h8:cs.length≤100) (cap:Cap X scope N σ [none,none]) (hw:∀R:VK,R (.ref b) H→tl σ H R)
  (q:∀D H',H D=none→Same H H'→H' D=some (.lst ((cs.map (·.1)).map V.str))→Q (.ref D) H'):jU X scope N (aIl K tl) (aJt K 2 (qT (cH 0) (qT (cH 1) aM8))) pM (fQ 0) σ H Q:=by
 have lu:=hu.len
 refine uP [none,none] cap (hw _ ⟨b,rfl,⟨_,hb⟩,aCa Same (uL H) us (fun _=>true) (fun i _ y=>∃c,cs[i]?=some c∧y=.str c.1) (fun _ _ h=>h) (fun _ _ _ h=>h) (fun i σ=>∃c,cs[i]?=some c∧At2 [none,none] (.str c.1) (.str c.2) σ) (Ps2 [none,none]) ⟨none,none,rfl⟩ (small (by omega)) _ (aD5 fun H' s'=>s'.bB hb) (sY fun H' s'=>s'.bB hb) (fun i x σ' H' Q' ex hps s' qq=>?_) (fun i x σ2 ex hA H' R s' r=>r _ (Same.refl _)) (fun i x σ2 ex hA _ H' R s' r=>?_) fun D H1 ys s1 fD g1 hys=>?_⟩)
 ·obtain ⟨c,hc,p,rfl,hp⟩:=gK hu ex
  exact hg2 (s'.bB hp) hps fun σ2 h1 h2=>qq σ2 h1 ⟨c,hc,h2⟩
 ·obtain ⟨c,hc,rfl⟩:=hA
  exact ⟨_,rfl,r _ _ (Same.refl H') ⟨c,hc,rfl⟩⟩
 ·rw [uX] at hys
  obtain ⟨l,hg⟩:=rK hys
  rw [aFx (by omega) hg] at g1
  exact q D H1 fD s1 g1
def frP (l used:List Str) (i:Nat):Bool:=match l[i]? with
 |some n=>!decide (n∈used)
 |none=>false
def jN (ns used:List Str):List Str:=(ns.drop 3).filter fun n=>!decide (n∈used)
theorem aGj {ns used:List Str} (h:jR ns):(jN ns used).Nodup∧(∀n∈jN ns used,Nm n∧n∉used)∧14≤(jN ns used).length+used.length∧(jN ns used).length≤14:=by
 have hd:(ns.drop 3).Nodup:=h.2.2.sublist (List.drop_sublist 3 ns)
 have hl:(ns.drop 3).length=14:=by rw [List.length_drop,h.1]
 refine ⟨hd.sublist List.filter_sublist,fun n hn=>?_,?_,?_⟩
 ·obtain ⟨h1,h2⟩:=List.mem_filter.mp hn
  exact ⟨h.2.1 n (List.mem_of_mem_drop h1),by simpa using h2⟩
 ·have:=aFn hd used
  unfold jN
  omega
 ·have:=List.length_filter_le (fun n=>!decide (n∈used)) (ns.drop 3)
  unfold jN
  omega
theorem aAc {X:Cx} {scope:Scope} {Nn:List Str} {tl:TE} {tt:TT} {σ:L2.St} {H:Hp} {Q:VK} {U:V} {ns used:List Str} (hn:jR ns) (cap:Cap X scope Nn σ [none,some U]) (hw:∀R:VK,(∀p H1,H p=none→Same H H1→H1 p=some (.lst ((ns.drop 3).map V.str))→R (.ref p) H1)→tl σ H R)
  (ht:∀(n:Str) l H' R,Same H H'→(∀H2,Same H' H2→R (!decide (n∈used)) H2)→tt (([none,some U].set 0 l).set 0 (some (.str n))) H' R)
  (q:∀D H',H D=none→Same H H'→H' D=some (.lst ((jN ns used).map V.str))→Q (.ref D) H'):jU X scope Nn (qW K tl) (cH 0) tt (fQ 0) σ H Q:=by
 have hl:(ns.drop 3).length=14:=by rw [List.length_drop,hn.1]
 refine aAr [none,some U] cap (hw _ fun p H1 fp s1 g1=>⟨p,rfl,⟨_,SqL.of g1⟩,aCa Same (uL H1) ((ns.drop 3).map V.str) (frP (ns.drop 3) used) (fun i _ y=>∃n,(ns.drop 3)[i]?=some n∧y=.str n) (fun _ _ h=>h) (fun _ _ _ h=>h) (fun i σ=>∃n,(ns.drop 3)[i]?=some n∧At1 [none,some U] (.str n) σ) (Ps1 [none,some U]) ⟨none,rfl⟩ (small (by rw [List.length_map];omega)) _ (aDd fun H' s'=>SqL.of (s' _ _ g1)) (wQ fun H' s'=>SqL.of (s' _ _ g1)) (fun i x σ' H' Q' ex hps s' qq=>?_) (fun i x σ2 ex hA H' R s' r=>?_) (fun i x σ2 ex hA _ H' R s' r=>?_) fun D H2 ys s2 fD g2 hys=>?_⟩)
 ·obtain ⟨n,hn',rfl⟩:=aHt ex
  exact hg1 (i:=i) hps fun σ2 h1 h2=>qq σ2 h1 ⟨n,hn',h2⟩
 ·obtain ⟨n,hn',l,rfl⟩:=hA
  refine ht n l H' _ (s1.trans s') fun H2 s2=>?_
  have e:frP (ns.drop 3) used i=!decide (n∈used):=by unfold frP;rw [hn']
  rw [←e]
  exact r H2 s2
 ·obtain ⟨n,hn',l,rfl⟩:=hA
  exact ⟨_,by cases l <;> rfl,r _ _ (Same.refl H') ⟨n,hn',rfl⟩⟩
 ·rw [List.length_map,List.range_eq_range'] at hys
  have ey:=aG1 (k:=0) (l:=ns.drop 3) (fun j n hj y hy=>by
   obtain ⟨m,hm,e⟩:=hy
   rw [Nat.zero_add,hj] at hm
   cases hm
   exact e) hys
  have es:sel (frP (ns.drop 3) used) 0 (ns.drop 3)=jN ns used:=sS fun i x ex=>by
   unfold frP
   rw [Nat.zero_add,ex]
  rw [ey,es] at g2
  exact q D H2 (s1.free fD) (s1.trans s2) g2
theorem zip_fst_snd:∀(hd:Hdr),(hd.map (·.1)).zip (hd.map (·.2))=hd
 |[]=>rfl
 |c::r=>by rw [List.map_cons,List.map_cons,List.zip_cons_cons,zip_fst_snd r]
theorem zN:∀{ns:List Str} {hd:Hdr},ns.length=hd.length→(List.zipWith (fun n c=>(n,c.2)) ns hd).map (·.1)=ns
 |[],[],_=>rfl
 |n::ns,c::hd,h=>by rw [List.zipWith_cons_cons,List.map_cons,zN (by simpa using h)]
theorem aDl:∀{ns:List Str} {hd:Hdr} {x:Str × Str},x∈List.zipWith (fun n c=>(n,c.2)) ns hd→x.1∈ns∧∃c∈hd,x.2=c.2
 |[],_,x,h=>by simp at h
 |_::_,[],x,h=>by simp at h
 |n::ns,c::hd,x,h=>by
  rw [List.zipWith_cons_cons] at h
  rcases List.mem_cons.mp h with rfl|h
  ·exact ⟨List.mem_cons_self ..,c,List.mem_cons_self ..,rfl⟩
  ·obtain ⟨h1,c',h2,h3⟩:=aDl h
   exact ⟨List.mem_cons_of_mem _ h1,c',List.mem_cons_of_mem _ h2,h3⟩
theorem lL {lo hi:Nat} {H:Hp} {t:Addr} {ns:List Str} (h:SqT K H t (ns.map V.str)) (hn:∀n∈ns,Nm n) (l1:lo≤ns.length) (l2:ns.length≤hi):oX aAv lo hi K H (.ref t) ns:=by
 refine ⟨⟨t,_,rfl,h,?_⟩,l1,l2⟩
 clear h l1 l2
 induction ns with
 |nil=>exact .nil
 |cons n r ih=>exact .cons ⟨rfl,hn n (List.mem_cons_self ..)⟩ (ih fun m hm=>hn m (List.mem_cons_of_mem _ hm))
def aF3 (K:PySem.W.Frag):Sp:=fun vs H Q _=>∃(vq vh vo:V) (N:Addr) (q:Qn) (hd ow:Hdr) (ns:List Str) (hs:Str→Option Hdr),vs=[vq,vh,vo,.ref N]∧IsQ K H vq q∧jV K H vh hd∧rE hd∧HQ hs q hd∧jV K H vo ow∧rE ow∧H N=some (.lst (ns.map V.str))∧jR ns ∧
 ∀p H' v1 v2 q' hd',Same H H'→H' p=some (.tup [v1,v2])→IsQ K H' v1 q'→jV K H' v2 hd'→HQ hs q' hd'→rE hd'→(∀c∈hd',c.1∉ow.map (·.1))→size q'=size q+2→hd'.length+ow.length≤9→Q (.ref p) H'
theorem aBi (T:Txt w K mg):Ok P w K mg base 1 "_law_fresh" ["_law_question_here","_law_head_here","_law_own","_law_names_here"] (aF3 K):=by
 refine Ok.ofV T.aD8 fM (fun vs H Q E h=>?_) (fun f cdv A outer s H vs Q E hr h=>?_)
 ·obtain ⟨vq,vh,vo,N,q,hd,ow,ns,hs,rfl,_⟩:=h;rfl
 obtain ⟨vq,vh,vo,N,q0,hd,ow,ns,hs,rfl,hq,⟨b,us,rfl,hb,hu⟩,⟨⟨nd,l1,l8⟩,hc⟩,hHQ,⟨o,zs,rfl,ho,hz⟩,⟨⟨ndo,lo1,lo8⟩,hco⟩,hN,hn,q⟩:=h
 refine ⟨_,(aF (aQ (i:=4) fM.nd rfl (by trivial) (dC (N:=["_law_column","_law_kind"]) (by trivial) (mV (by decide +kernel)) rfl (mO (vv 2)) (fun cl s' H' fp=>⟨(mF (K:=K) (n:=2) rfl (bJ (aV (i:=0) (show (["_law_column","_law_kind"]:List Str).Nodup from by decide +kernel) rfl (Or.inl rfl)) (bJ (aV (i:=1) (show (["_law_column","_law_kind"]:List Str).Nodup from by decide +kernel) rfl (Or.inl rfl)) dX))),fH,(vv 0)⟩))) (aF (aQ (i:=5) fM.nd rfl (by trivial) (dC (N:=["_law_name","_law_used"]) (by trivial) (fC (aK iY) rfl (by decide +kernel)) rfl (gH (gB qC (vv 3) (gG aG) lD)) (fun cl s' H' fp=>⟨(aV (i:=0) (show (["_law_name","_law_used"]:List Str).Nodup from by decide +kernel) rfl (Or.inl rfl)),(wA (bF (rB (K:=K)) (vv 0) (vv 1) (by with_unfolding_all rfl))),(vv 0)⟩))) (aF (aQ (i:=1) fM.nd rfl (by trivial) (gB aQ5 (vv 1) lD (gG (aY (aMe rfl) (by rfl) T.aXh aUo (aB (aY bD (by rfl) T.eY cZ (aB (vv 5) aA)) (aB (bG zP aG (aY bD (by rfl) T.eY cZ (aB (vv 2) aA))) aA)))))) (aF (aQ (i:=0) fM.nd rfl (by trivial) (aD (aB aJ (aB (vv 0) (aB (cB cN (by rfl) T.cU cJ (aB (dC (N:=["_law_name","_law_kind"]) (by trivial) (mV (by decide +kernel)) rfl (mO (vv 1)) (fun cl s' H' fp=>⟨(mF (K:=K) (n:=2) rfl (bJ (aV (i:=0) (show (["_law_name","_law_kind"]:List Str).Nodup from by decide +kernel) rfl (Or.inl rfl)) (bJ (aV (i:=1) (show (["_law_name","_law_kind"]:List Str).Nodup from by decide +kernel) rfl (Or.inl rfl)) dX))),fH,(vv 0)⟩)) aA)) aA))))) (aF (uW (i0:=6) fM.nd rfl (by trivial) (N:=["_law_k","_law_fresh_here","_law_head_here"]) (by trivial) (fC (aK iY) rfl (by decide +kernel)) rfl (dW (by rfl) T.gY (aB (aY bD (by rfl) T.eY cZ (aB (vv 1) aA)) aA)) (fun cl s' H' fp=>⟨(aV (i:=0) (show (["_law_k","_law_fresh_here","_law_head_here"]:List Str).Nodup from by decide +kernel) rfl (Or.inl rfl)),fH,(aD (aB (bV (uK (K:=K)) (vv 1) (vv 0) (fun _ _=>rfl)) (aB (bV (qJ (K:=K)) (bV (qJ (K:=K)) (vv 2) (vv 0) (fun _ _=>rfl)) aG (fun _ _=>rfl)) aA)))⟩)) (aL (aR (aD (aB (aD (aB aJ (aB (vv 0) (aB (cB cN (by rfl) T.cU cJ (aB (gB qC (vv 5) lD (gG (aY bD (by rfl) T.eY cZ (aB (vv 1) aA)))) aA)) aA)))) (aB (cB cN (by rfl) T.cU cJ (aB (vv 6) aA)) aA)))))))))),?_⟩
 have lu:=hu.len
 have lz:=hz.len
 try dsimp only [qF,oY]
 refine aA0 ho hz (by omega) mW (fun R r=>⟨_,rfl,r⟩) fun U H1 fU s1 gU=>?_
 try dsimp only [cH,qF,oY]
 refine aAc (K:=K) (U:=.ref U) (used:=ow.map (·.1)) hn ?_ (fun R r=>?_) (fun n l H' R s' r=>?_) fun F H2 fF s2 gF=>?_
 ·exact iD 4 (by decide +kernel) rfl rfl (by trivial)
 ·refine ⟨_,rfl,_,rfl,N,_,rfl,SqL.of (s1 _ _ hN),fun p H' fp s' g'=>r p H' fp s' ?_⟩
  rw [g',show (3:Int)=((3:Nat):Int) from rfl,aCk,List.map_drop]
 ·refine ⟨_,rfl,_,rfl,U,_,rfl,.inl (SqL.of (s' _ _ gU)),rfl,zL,_,rfl,?_⟩
  rw [tV]
  exact r H' (Same.refl H')
 obtain ⟨fnd,fnm,flen,flen2⟩:=aGj (used:=ow.map (·.1)) hn
 rw [List.length_map] at flen
 generalize hfr:jN ns (ow.map (·.1))=fr at gF fnd fnm flen flen2
 have t2:=s1.trans s2
 try dsimp only [cH]
 refine ⟨_,rfl,_,rfl,F,_,rfl,.inl (SqL.of gF),_,rfl,o,_,rfl,.inr (t2.bB ho),_,_,rfl,rfl,_,_,rfl,_,rfl,b,_,rfl,t2.bB hb,fun h1 H3 s3 g3=>?_⟩
 obtain ⟨k,ek,hk⟩:∃k:Nat,(if ((9:Int) - (zs.length:Int))<(((fr.map V.str).length:Nat):Int) then ((9:Int) - (zs.length:Int)) else (((fr.map V.str).length:Nat):Int))=(k:Int)∧k=min fr.length (9 - zs.length):=by
  rw [List.length_map]
  refine ⟨min fr.length (9 - zs.length),?_,rfl⟩
  split <;> omega
 have g3':SqT K H3 h1 (us.take k):=by
  have e:=yM us k
  rw [←ek] at e
  rw [←e]
  exact g3
 have t3:=t2.trans s3
 have hu3:cL (IsC K H3) (us.take k) (hd.take k):=wD (hu.imp fun _ _ h=>h.same t3) k
 have hsub:zX (hd.take k) hd:=aF5 (List.take_sublist k hd) nd
 have hlk:(hd.take k).length=min k hd.length:=List.length_take
 have hk1:1≤k:=by omega
 generalize ehk:hd.take k=hd1 at hu3 hsub hlk
 generalize us.take k=us1 at g3' hu3
 have lu1:=hu3.len
 have hc1:∀c∈hd1,Nm c.1∧xV c.2:=fun c h=>hc c (hsub.1 c h)
 try dsimp only [cH]
 refine ⟨_,rfl,?_⟩
 try dsimp only [tCB,bQ]
 refine aA0 g3' hu3 (by omega) mW (fun R r=>⟨_,rfl,r⟩) fun D4 H4 _ s4 g4=>?_
 refine ⟨D4,_,rfl,SqL.of g4,fun t4 H5 _ s5 g5=>?_⟩
 refine ⟨(by show 3≤sizeLine;decide),fun qk H6 _ s6 g6=>?_⟩
 have t6:=t3.trans (s4.trans (s5.trans s6))
 have t36:=s4.trans (s5.trans s6)
 have hQk:IsQ K H6 (.ref qk) (.keep q0 (hd1.map (·.1))):=.keep (SqT.of g6) (hq.same t6) (lL (SqT.of (s6 _ _ g5)) (fun n hn'=>by
  obtain ⟨c,hcm,rfl⟩:=List.mem_map.mp hn'
  exact (hc1 c hcm).1) (by rw [List.length_map];omega) (by rw [List.length_map];omega))
 have gF6:=(s3.trans t36) _ _ gF
 have hu6:cL (IsC K H6) us1 hd1:=hu3.imp fun _ _ h=>h.same t36
 have g6':=t36.bB g3'
 try dsimp only [cH,qF,oY]
 refine vO ((List.range hd1.length).map fun i:Nat=>V.int (0+(i:Int))) (jK K (List.zipWith (fun n c=>(n,c.2)) (fr.take hd1.length) hd1)) jK.st jK.su [none,some (.ref F),some (.ref h1)] ?_ (small (by rw [List.length_map,List.length_range];omega)) (fun R r=>aC2 hd1.length (fun R' r'=>⟨_,rfl,h1,_,rfl,.inr g6',by rw [←lu1] at r';exact r'⟩) (by omega) R r) (fun i x ex H' R l sm r=>?_) rfl fun D7 H7 ys s7 g7 hly hR=>?_
 ·refine ⟨rfl,fun i y v h1 h2=>?_⟩
  match i,h1,h2 with
  |0,_,h2=>cases h2
  |1,h1,h2=>cases h1;cases h2;exact ⟨by decide +kernel,5,rfl,rfl,by trivial⟩
  |2,h1,h2=>cases h1;cases h2;exact ⟨by decide +kernel,1,rfl,rfl,by trivial⟩
  |i+3,h1,_=>cases h1
 ·have hi:i<hd1.length:=by
   have:=(List.getElem?_eq_some_iff.mp ex).1
   rw [List.length_map,List.length_range] at this
   exact this
  have exx:x=.int (0+(i:Int)):=by
   rw [List.getElem?_map,List.getElem?_range hi] at ex
   exact (Option.some.inj ex).symm
  subst exx
  obtain ⟨p',hp',hpc⟩:∃p',us1[i]?=some (.ref p')∧SqT K H6 p' [.str (hd1[i]'hi).1,.str (hd1[i]'hi).2]:=by
   have hi':i<us1.length:=by omega
   obtain ⟨c,hc',p',e1,e2⟩:=gK hu6 (List.getElem?_eq_getElem hi')
   rw [List.getElem?_eq_getElem hi] at hc'
   cases hc'
   exact ⟨p',by rw [List.getElem?_eq_getElem hi',e1],e2⟩
  have hif:i<fr.length:=by omega
  have a1:atI (fr.map V.str) (0+(i:Int))=some (.str (fr[i]'hif)):=by
   rw [Int.zero_add]
   exact dH (by rw [List.getElem?_map,List.getElem?_eq_getElem hif];rfl)
  have a2:atI us1 (0+(i:Int))=some (.ref p'):=by
   rw [Int.zero_add]
   exact dH hp'
  refine ⟨_,rfl,_,rfl,F,_,_,_,rfl,rfl,SqL.of (sm _ _ gF6),a1,_,rfl,_,rfl,h1,_,_,_,rfl,rfl,sm.bB g6',a2,p',_,1,_,rfl,rfl,sm.bB hpc,at1 _ _ _,(by show 2≤sizeLine;decide),fun t H8 _ s8 g8=>r _ _ s8 ⟨(fr[i]'hif,(hd1[i]'hi).2),t,?_,rfl,g8⟩⟩
  rw [List.getElem?_zipWith,List.getElem?_take,if_pos hi,List.getElem?_eq_getElem hif,List.getElem?_eq_getElem hi]
 rw [List.length_map,List.length_range] at hly
 have lft:(fr.take hd1.length).length=hd1.length:=by rw [List.length_take];omega
 have lzw:(List.zipWith (fun n c=>(n,c.2)) (fr.take hd1.length) hd1).length=hd1.length:=by rw [List.length_zipWith,lft,Nat.min_self]
 try dsimp only [cH]
 refine ⟨_,rfl,?_⟩
 try dsimp only [tCB,bQ]
 refine ⟨_,rfl,_,rfl,h1,_,rfl,.inr (s7.bB g6'),_,rfl,F,_,rfl,SqL.of (s7 _ _ gF6),fun p8 H8 _ s8 g8=>?_⟩
 rw [lu1,yM,←List.map_take] at g8
 refine ⟨p8,_,rfl,SqL.of g8,fun t9 H9 _ s9 g9=>?_⟩
 refine ⟨(by show 3≤sizeLine;decide),fun qn H10 _ s10 g10=>?_⟩
 refine ⟨_,rfl,D7,_,rfl,SqL.of ((s8.trans (s9.trans s10)) _ _ g7),fun t11 H11 _ s11 g11=>?_⟩
 refine ⟨(by show 2≤sizeLine;decide),fun p12 H12 _ s12 g12=>?_⟩
 have t712:=s8.trans (s9.trans (s10.trans (s11.trans s12)))
 have hnt:∀n∈fr.take hd1.length,Nm n∧n∉ow.map (·.1):=fun n h=>fnm n (List.mem_of_mem_take h)
 have ndt:(fr.take hd1.length).Nodup:=fnd.sublist (List.take_sublist _ _)
 have hgk:Good hd1:=⟨hsub.2.1,by omega,by omega⟩
 have hgn:Good (List.zipWith (fun n c=>(n,c.2)) (fr.take hd1.length) hd1):=⟨by rw [zN lft];exact ndt,by omega,by omega⟩
 have hHQk:HQ hs (.keep q0 (hd1.map (·.1))) hd1:=by
  have h:=HH.keep (hs:=hs) (q:=q0) (uU nd hsub.1)
  rw [zip_fst_snd] at h
  exact .mk1 rfl hHQ h hgk
 have hHQn:HQ hs (.nmd (.keep q0 (hd1.map (·.1))) (fr.take hd1.length)) (List.zipWith (fun n c=>(n,c.2)) (fr.take hd1.length) hd1):=.mk1 rfl hHQk (.nmd lft) hgn
 refine q p12 H12 (.ref qn) (.ref t11) (.nmd (.keep q0 (hd1.map (·.1))) (fr.take hd1.length)) _ (t6.trans (s7.trans t712)) g12 ?_ ?_ hHQn ⟨hgn,fun x hx=>?_⟩ (fun x hx=>?_) rfl ?_
 ·refine .nmd (SqT.of ((s11.trans s12) _ _ g10)) (hQk.same (s7.trans t712)) (lL (SqT.of ((s10.trans (s11.trans s12)) _ _ g9)) (fun n h=>(hnt n h).1) (by omega) (by omega))
 ·exact aJx (SqT.of (s12 _ _ g11)) (by omega) fun i y e=>(hR i y e).st t712
 ·obtain ⟨h1',c,hcm,e⟩:=aDl hx
  exact ⟨(hnt _ h1').1,by rw [e];exact (hc1 c hcm).2⟩
 ·exact (hnt _ (aDl hx).1).2
 ·rw [lzw]
  omega
def aF6 (K:PySem.W.Frag):Sp:=fun vs H Q _=>∃(a N:Addr) (vq vh vo voh:V) (q qo:Qn) (hd ho:Hdr) (ns:List Str) (hs:Str→Option Hdr),vs=[.ref a,vq,vh,vo,voh,.ref N]∧gW H a∧N≠a∧IsQ K H vq q∧jV K H vh hd∧rE hd∧HQ hs q hd∧IsQ K H vo qo∧jV K H voh ho∧rE ho∧HQ hs qo ho∧H N=some (.lst (ns.map V.str))∧jR ns ∧
 ∀p H' v1 v2 q' hd',Fx a H H'→H' p=some (.tup [v1,v2])→IsQ K H' v1 q'→jV K H' v2 hd'→HQ hs q' hd'→rE hd'→size q'≤size q+size qo+3→Q (.ref p) H'
def aTv (hd ho:Hdr) (pr:Str × Str):Prop:=∃k,(pr.1,k)∈hd∧(pr.2,k)∈ho
theorem aI4 {H:Hp} {ho:Hdr} {c:Str × Str} {is:List Nat} {ys:List V} (hc:Nm c.1) (hn:∀x∈ho,Nm x.1) (h:jY (fun i y=>∃c' t,ho[i]?=some c'∧c'.2=c.2∧y=.ref t∧SqT K H t [.str c.1,.str c'.1]) is ys):∃prs:List (Str × Str),cL (aAd K H) ys prs∧∀pr∈prs,pr.1=c.1∧(pr.2,c.2)∈ho:=by
 induction h with
 |nil=>exact ⟨[],.nil,fun pr h=>by cases h⟩
 |@cons i y is ys r _ ih=>
  obtain ⟨c',t,h1,h2,h3,h4⟩:=r
  obtain ⟨prs,h5,h6⟩:=ih
  have hm:=List.mem_of_getElem? h1
  refine ⟨(c.1,c'.1)::prs,.cons ⟨t,h3,h4,hc,hn c' hm⟩ h5,fun pr hp=>?_⟩
  rcases List.mem_cons.mp hp with rfl|hp
  ·exact ⟨rfl,by rw [←h2];exact hm⟩
  ·exact h6 pr hp
def leP (ho:Hdr) (d:Str) (i:Nat):Bool:=match ho[i]? with
 |some c=>!decide (c.1=d)
 |none=>false
theorem aLr {ho:Hdr} (nd:(ho.map (·.1)).Nodup) {d k:Str} (h:(d,k)∈ho):(ho.filter fun c=>!decide (c.1=d)).length+1=ho.length:=by
 induction ho with
 |nil=>cases h
 |cons c r ih=>
  rw [List.map_cons,List.nodup_cons] at nd
  rw [List.filter_cons,List.length_cons]
  rcases List.mem_cons.mp h with e|h
  ·subst e
   have:r.filter (fun c=>!decide (c.1=d))=r:=List.filter_eq_self.mpr fun y hy=>by
    rw [decide_eq_false (fun z=>nd.1 (by rw [←z];exact List.mem_map.mpr ⟨y,hy,rfl⟩))]
    rfl
   simp [this]
  ·have ne:¬ c.1=d:=fun z=>nd.1 (by rw [z];exact List.mem_map.mpr ⟨_,h,rfl⟩)
   have:=ih nd.2 h
   rw [decide_eq_false ne]
   simp only [Bool.not_false,if_true,List.length_cons]
   omega
theorem aEh (T:Txt w K mg) (aN:Ok P w K mg base 1 "_law_next" ["_law_state","_law_many"] eE) (aD0:Ok P w K mg base 1 "_law_fresh" ["_law_question_here","_law_head_here","_law_own","_law_names_here"] (aF3 K)) :
  Ok P w K mg base 2 "_law_join" ["_law_state","_law_question_here","_law_head_here","_law_other","_law_other_head","_law_names_here"] (aF6 K):=by
 refine Ok.ofV T.aGl dY (fun vs H Q E h=>?_) (fun f cdv A outer s H vs Q E hr h=>?_)
 ·obtain ⟨a,N,vq,vh,vo,voh,q,qo,hd,ho,ns,hs,rfl,_⟩:=h;rfl
 obtain ⟨a,N,vq,vh,vo,voh,q0,qo,hd,ho,ns,hs,rfl,hst,nNa,hq,hh,hok,hHQ,hqo,hho,hoko,hHQo,hN,hn,q⟩:=h
 have hu:=aB9 hr
 refine ⟨_,(aF (rR (aU (aD0.mono (by decide)) hr (by rfl) (aB (vv 3) (aB (vv 4) (aB (vv 2) (aB (vv 5) aA))))) (mH rfl (bJ (aV (i:=3) dY.nd rfl (by trivial)) (bJ (aV (i:=4) dY.nd rfl (by trivial)) dX)))) (aF (aQ (i:=6) dY.nd rfl (by trivial) (bC aA)) (aF (jL PassesOwn.never rfl (mO (vv 2)) (mH rfl (bJ (aV (i:=7) dY.nd rfl (by trivial)) (bJ (aV (i:=8) dY.nd rfl (by trivial)) dX))) (aL (iB (wW PySem.F.plainAttrs_list PySem.F.slot_list_extend PySem.F.type_list_extend aAa (vv 6) (aB (dC (N:=["_law_d","_law_sort","_law_c","_law_kind"]) (by trivial) (fC (aK jT) rfl (by decide +kernel)) rfl (mO (vv 4)) (fun cl s' H' fp=>⟨(mF (K:=K) (n:=2) rfl (bJ (aV (i:=0) (show (["_law_d","_law_sort","_law_c","_law_kind"]:List Str).Nodup from by decide +kernel) rfl (Or.inl rfl)) (bJ (aV (i:=1) (show (["_law_d","_law_sort","_law_c","_law_kind"]:List Str).Nodup from by decide +kernel) rfl (Or.inl rfl)) dX))),(wA (bF dG (vv 3) (vv 1) (bL _))),(aD (aB (vv 2) (aB (vv 0) aA)))⟩)) aA))))) (aF (cP (bF (aU5 (Nat.lt_of_succ_lt hu)) (vv 6) (bC aA) (bL _)) (aL (aR (aD (aB (vv 1) (aB (vv 2) aA))))) bK) (aF (aQ (i:=9) dY.nd rfl (by trivial) (bV dU (vv 6) (aU (aN.mono (by decide)) hr (by rfl) (aB (vv 0) (aB (aY bD (by rfl) T.eY cZ (aB (vv 6) aA)) aA))) (fun _ _=>rfl))) (aF (aQ (i:=10) dY.nd rfl (by trivial) (cB cN (by rfl) T.cU cJ (aB (dC (N:=["_law_column","_law_pair"]) (by trivial) (fC (aK jT) rfl (by decide +kernel)) rfl (mO (vv 4)) (fun cl s' H' fp=>⟨(aV (i:=0) (show (["_law_column","_law_pair"]:List Str).Nodup from by decide +kernel) rfl (Or.inl rfl)),(wA (bF aAo (bV (qJ (K:=K)) (vv 0) aG (fun _ _=>rfl)) (bV (qJ (K:=K)) (vv 1) aG (fun _ _=>rfl)) (bL _))),(vv 0)⟩)) aA))) (aL (aR (aD (aB (aD (aB aJ (aB (vv 1) (aB (vv 3) (aB (aD (aB (vv 9) aA)) aA))))) (aB (bG aQ6 (vv 2) (vv 10)) aA))))))))))),?_⟩
 obtain ⟨⟨nd,l1,l8⟩,hc⟩:=id hok
 refine ⟨_,rfl,_,rfl,_,rfl,_,rfl,vo,voh,vh,N,qo,ho,hd,ns,hs,rfl,hqo,hho,hoko,hHQo,hh,hok,hN,hn,fun r H1 v1 v2 q1 h1 s1 g1 hq1 hh1 hHQ1 hok1 hdis hsz hl9=>?_⟩
 obtain ⟨⟨nd1,ll1,ll8⟩,hc1⟩:=id hok1
 refine ⟨r,_,rfl,SqT.of g1,rfl,_,_,rfl,_,_,rfl,rfl,?_⟩
 refine ⟨(by show 0≤sizeLine;decide),fun p H2 fp s2 g2=>?_⟩
 have fp0:H p=none:=s1.free fp
 have npa:p≠a:=hst.ne fp0
 have t2:=s1.trans s2
 obtain ⟨b,us,rfl,hb,hus⟩:=hh
 obtain ⟨o,zs,rfl,ho1,hzs⟩:=hh1
 have lus:=hus.len
 have lzs:=hzs.len
 refine ⟨_,rfl,b,rfl,⟨_,t2.bB hb⟩,aLe (xs:=us) (fun i σ H'=>Same H1 H'∧∃(ws:List V) (prs:List (Str × Str)) (l7 l8:Option V),H' p=some (.lst ws)∧cL (aAd K H') ws prs∧(∀pr∈prs,aTv hd h1 pr)∧ws.length≤8 * i∧σ=[some (.ref a),some vq,some (.ref b),some v1,some (.ref o),some (.ref N),some (.ref p),l7,l8,none,none]) ⟨s2,[],[],_,_,g2,.nil,(fun pr h=>by cases h),Nat.zero_le _,rfl⟩ (fun i σ H' _ ⟨e,_⟩=>e.bB (s1.bB hb)) ?_ ?_⟩
 ·rintro i x σ H' hx ⟨sm,ws,prs,l7,l8',gp,hw,hpr,lw,rfl⟩
  obtain ⟨c,hcm,pc,rfl,hpc⟩:=gK hus hx
  have hcm':=List.mem_of_getElem? hcm
  refine ⟨pc,_,rfl,sm.bB (s1.bB hpc),rfl,_,_,rfl,_,_,rfl,rfl,?_⟩
  refine ⟨_,rfl,.inl ⟨rfl,_,SqL.of gp⟩,?_⟩
  try dsimp only [bQ]
  refine uP [none,none,some (.str c.1),some (.str c.2)] ?_ ⟨_,rfl,o,rfl,⟨_,sm.bB ho1⟩,aCa Same (uL H') zs (kp h1 c.2) (fun i H y=>∃c' t,h1[i]?=some c'∧c'.2=c.2∧y=.ref t∧SqT K H t [.str c.1,.str c'.1]) (fun _ e h=>?_) (fun _ _ e h=>?_) (fun i σ=>∃c',h1[i]?=some c'∧At2 [none,none,some (.str c.1),some (.str c.2)] (.str c'.1) (.str c'.2) σ) (Ps2 [none,none,some (.str c.1),some (.str c.2)]) ⟨none,none,rfl⟩ (small (by omega)) _ (aD5 fun H'' s'=>s'.bB (sm.bB ho1)) (sY fun H'' s'=>s'.bB (sm.bB ho1)) (fun i x σ' H'' Q' ex hps s' qq=>?_) (fun i x σ2 ex hA H'' R s' rr=>?_) (fun i x σ2 ex hA hp H'' R s' rr=>?_) fun D H3 ys s3 fD g3 hys=>?_⟩
  ·refine ⟨rfl,fun i y v h1 h2=>?_⟩
   match i,h1,h2 with
   |0,_,h2=>cases h2
   |1,_,h2=>cases h2
   |2,h1,h2=>cases h1;cases h2;exact ⟨by decide +kernel,7,rfl,rfl,by trivial⟩
   |3,h1,h2=>cases h1;cases h2;exact ⟨by decide +kernel,8,rfl,rfl,by trivial⟩
   |i+4,h1,_=>cases h1
  ·obtain ⟨c',t,e1,e2,e3,e4⟩:=h
   exact ⟨c',t,e1,e2,e3,e.bB e4⟩
  ·obtain ⟨c',t,e1,e2,e3,e4⟩:=h
   exact ⟨c',t,e1,e2,e3,e4.aBf e⟩
  ·obtain ⟨c',hc',p',rfl,hp'⟩:=gK hzs ex
   exact hg2 (s'.bB (sm.bB hp')) hps fun σ2 h1 h2=>qq σ2 h1 ⟨c',hc',h2⟩
  ·obtain ⟨c',hc',rfl⟩:=hA
   refine ⟨_,rfl,_,rfl,rfl,_,rfl,?_⟩
   have e:kp h1 c.2 i=decide (V.str c.2=V.str c'.2):=by
    unfold kp
    rw [hc']
    exact decide_eq_decide.mpr ⟨fun z=>by rw [show c'.2=c.2 from z],fun z=>(V.str.inj z).symm⟩
   rw [←e]
   exact rr H'' (Same.refl H'')
  ·obtain ⟨c',hc',rfl⟩:=hA
   unfold kp at hp
   rw [hc'] at hp
   exact ⟨_,rfl,_,rfl,(by show 2≤sizeLine;decide),fun t H4 _ s4 g4=>rr _ _ s4 ⟨c',t,hc',of_decide_eq_true hp,rfl,SqT.of g4⟩⟩
  have lys:ys.length≤8:=by
   have:=uD (kp h1 c.2) 0 (List.range zs.length)
   rw [List.length_range,hys.len] at this
   omega
  obtain ⟨pr2,hp2,hin2⟩:=aI4 (hc c hcm').1 (fun x hx=>(hc1 x hx).1) hys
  have gp3:=s3 _ _ gp
  have hi8:i<8:=by
   have:=(List.getElem?_eq_some_iff.mp hx).1
   omega
  have nDp:D≠p:=(bH gp fD).symm
  refine ⟨p,D,_,_,rfl,rfl,gp3,g3,small (by omega),?_⟩
  refine ⟨mZ fp (sm.trans s3),ws++ys,prs++pr2,_,_,aO,((hw.imp fun _ _ h=>h.same s3).app hp2).imp (fun _ _ h=>h.tk fun _ _ e=>e.aBf gp3),fun pr hp=>?_,by rw [List.length_append];omega,rfl⟩
  rcases List.mem_append.mp hp with hp|hp
  ·exact hpr pr hp
  ·obtain ⟨e1,e2⟩:=hin2 pr hp
   exact ⟨c.2,by rw [e1];exact hcm',e2⟩
 ·rintro σ H3 ⟨sm,ws,prs,l7,l8',gp,hw,hpr,lw,rfl⟩
  have t3:=s1.trans sm
  have lw':=hw.len
  refine ⟨_,rfl,(by show 0≤sizeLine;decide),fun e H4 _ s4 g4=>⟨p,e,ws,rfl,rfl,SqL.of (s4 _ _ gp),SqL.of g4,_,rfl,?_⟩⟩
  have t4:=t3.trans s4
  by_cases hws:ws=[]
  ·have ee:ws.isEmpty=true:=by rw [hws];rfl
   rw [ee]
   refine cY ?_
   exact ⟨_,rfl,_,rfl,(by show 2≤sizeLine;decide),fun p5 H5 _ s5 g5=>q p5 H5 _ _ q0 hd (.of hst (t4.trans s5)) g5 (hq.same (t4.trans s5)) ⟨b,us,rfl,(t4.trans s5).bB hb,hus.imp fun _ _ h=>h.same (t4.trans s5)⟩ hHQ hok (by omega)⟩
  ·have lpos:0<ws.length:=List.length_pos_iff.mpr hws
   have ee:ws.isEmpty=false:=by cases ws with
    |nil=>exact absurd rfl hws
    |cons _ _=>rfl
   rw [ee]
   refine cI ?_
   have gp4:=s4 _ _ gp
   refine ⟨_,rfl,_,rfl,_,rfl,p,_,rfl,.inl (SqL.of gp4),a,_,rfl,hst.same t4,(by show (0:Int)<(ws.length:Int);omega),fun d H5 f5 d0 d1=>?_⟩
   have fx5:Fx a H H5:=(Fx.of hst t4).trans f5
   obtain ⟨u,hat,hum⟩:=at_of (xs:=ws) d0 d1
   obtain ⟨pr,hprm,pp,rfl,hpp,hp1,hp2⟩:=hw.mem hum
   obtain ⟨k,hk1,hk2⟩:=hpr pr hprm
   have tk15:TK K H1 H5:=fun _ _ e=>f5.bB (hst.same t4) (s4.bB (sm.bB e))
   have tk5:TK K H H5:=fx5.tk hst
   have hpp5:SqT K H5 pp [.str pr.1,.str pr.2]:=f5.bB (hst.same t4) (s4.bB hpp)
   refine ⟨p,_,_,_,rfl,rfl,SqL.of (f5.same _ _ npa gp4),hat,?_⟩
   try dsimp only [cH,qF,oY,tCB,bQ]
   refine aN0 zs (leP h1 pr.2) [none,some (.ref pp)] ?_ (small (by omega)) (fun R rr=>aI3 (tk15 _ _ ho1) (fun R' r'=>⟨_,rfl,r'⟩) R rr) (fun i x ex H' R l sm' rr=>?_) rfl fun D H6 s6 g6=>?_
   ·exact iD 9 (by decide +kernel) rfl rfl (by trivial)
   ·obtain ⟨c',hc',p',rfl,hp'⟩:=gK hzs ex
    refine ⟨_,rfl,p',_,0,_,rfl,rfl,sm'.bB (tk15 _ _ hp'),at0 _ _,_,rfl,pp,_,1,_,rfl,rfl,sm'.bB hpp5,at1 _ _ _,rfl,_,rfl,?_⟩
    have e:leP h1 pr.2 i=!decide (V.str c'.1=V.str pr.2):=by
     unfold leP
     rw [hc']
     exact congrArg not (decide_eq_decide.mpr ⟨fun z=>congrArg V.str z,fun z=>V.str.inj z⟩)
    rw [←e]
    exact rr H' (Same.refl H')
   refine ⟨D,_,rfl,SqL.of g6,fun t7 H7 _ s7 g7=>?_⟩
   refine ⟨_,rfl,_,rfl,_,rfl,(by show 1≤sizeLine;decide),fun t8 H8 _ s8 g8=>?_⟩
   refine ⟨(by show 4≤sizeLine;decide),fun qj H9 _ s9 g9=>?_⟩
   have s79:=s8.trans s9
   have s59:=s6.trans (s7.trans s79)
   have tk9:TK K H H9:=fun _ _ e=>s59.bB (tk5 _ _ e)
   have tk19:TK K H1 H9:=fun _ _ e=>s59.bB (tk15 _ _ e)
   have es:sel (leP h1 pr.2) 0 h1=h1.filter fun c=>!decide (c.1∈[pr].map (·.2)):=sS fun i x ex=>by
    unfold leP
    rw [Nat.zero_add,ex]
    simp
   have hl2:=aPj (p:=leP h1 pr.2) hzs 0
   rw [es] at hl2
   have lsel:=hl2.len
   have lfd:=aLr nd1 hk2
   have lfe:(h1.filter fun c=>!decide (c.1∈[pr].map (·.2))).length+1=h1.length:=by
    rw [←lfd]
    congr 2
    refine List.filter_congr fun x _=>?_
    simp
   refine ⟨_,rfl,_,rfl,b,t7,_,_,rfl,rfl,tk9 _ _ hb,SqT.of (s79 _ _ g7),small (by omega),fun t10 H10 s10 g10=>?_⟩
   refine ⟨(by show 2≤sizeLine;decide),fun p11 H11 _ s11 g11=>?_⟩
   have s911:=s10.trans s11
   have fx11:Fx a H H11:=fx5.sm (s59.trans s911)
   have tk11:TK K H H11:=fun _ _ e=>s911.bB (tk9 _ _ e)
   have tk111:TK K H1 H11:=fun _ _ e=>s911.bB (tk19 _ _ e)
   have hgj:Good (hd++h1.filter fun c=>!decide (c.1∈[pr].map (·.2))):=by
    refine ⟨?_,by rw [List.length_append];omega,by rw [List.length_append];omega⟩
    rw [List.map_append,List.nodup_append]
    refine ⟨nd,nd1.sublist (List.filter_sublist.map _),fun x hx y hy e=>?_⟩
    subst e
    obtain ⟨c',hc',rfl⟩:=List.mem_map.mp hy
    exact hdis c' (List.mem_filter.mp hc').1 hx
   refine q p11 H11 _ _ (.join q0 q1 [pr]) (hd++h1.filter fun c=>!decide (c.1∈[pr].map (·.2))) fx11 g11 ?_ ?_ ?_ ⟨hgj,fun c' hc'=>?_⟩ ?_
   ·refine .join (SqT.of (s911 _ _ g9)) (hq.tk tk11) (hq1.tk tk111) ⟨⟨t8,_,rfl,SqT.of ((s9.trans s911) _ _ g8),.cons ⟨pp,rfl,(s59.trans s911).bB hpp5,hp1,hp2⟩ .nil⟩,Nat.le_refl _,by show 1≤3;decide⟩
   ·exact ⟨t10,_,rfl,s11.bB g10,(hus.imp fun _ _ h=>h.tk tk11).app (hl2.imp fun _ _ h=>h.tk tk111)⟩
   ·exact .mk2 rfl hHQ hHQ1 (.join (ks:=[k]) (.cons ⟨nA nd hk1,nA nd1 hk2⟩ .nil) (by simp) (by simp)) hgj
   ·rcases List.mem_append.mp hc' with hc'|hc'
    ·exact hc c' hc'
    ·exact hc1 c' (List.mem_filter.mp hc').1
   ·show size q0+size q1+1≤_
    omega
def hdK (hd:Hdr):List (Key × V):=hd.map fun c=>((Sum.inr c.1:Key),V.str c.2)
theorem aTb {H:Hp} {us:List V} {hd:Hdr} (h:cL (IsC K H) us hd):aNl K H us (hdK hd):=by
 induction h with
 |nil=>exact .nil
 |cons r _ ih=>
  obtain ⟨p,rfl,hp⟩:=r
  exact .cons ⟨p,rfl,hp⟩ ih
theorem aV0 {hd:Hdr} (h:(hd.map (·.1)).Nodup):((hdK hd).map (·.1)).Nodup:=by
 unfold hdK
 rw [List.map_map]
 have e:((fun x:Key × V=>x.1) ∘ fun c:Str × Str=>((Sum.inr c.1:Key),V.str c.2))=(fun n:Str=>(Sum.inr n:Key)) ∘ fun c:Str × Str=>c.1:=rfl
 rw [e,←List.map_map]
 exact List.pairwise_map.mpr (h.imp fun ne z=>ne (Sum.inr.inj z))
theorem aKn (n:Str):∀hd:Hdr,nC (hdK hd) (Sum.inr n)=(look hd n).map V.str
 |[]=>rfl
 |c::r=>by
  show nC (((Sum.inr c.1:Key),V.str c.2)::hdK r) (Sum.inr n)=_
  unfold look
  rw [List.find?_cons]
  by_cases e:c.1=n
  ·rw [pY (by rw [e]),decide_eq_true e]
   rfl
  ·rw [pQ (by intro z;exact e (Sum.inr.inj z)),decide_eq_false e]
   exact aKn n r
theorem xJ {X:Cx} {scope:Scope} {N:List Str} {tl:TE} {σ:L2.St} {H:Hp} {Q:VK} {b:Addr} {us:List V} {cs:Hdr} (hb:H b=some (.lst us)) (hu:cL (IsC K H) us cs) (h8:cs.length≤100) (cap:Cap X scope N σ [none,none]) (hw:∀R:VK,R (.ref b) H→tl σ H R)
  (q:∀D H',H D=none→Same H H'→H' D=some (.lst ((cs.map (·.1)).map V.str))→Q (.ref D) H'):jU X scope N (qW K tl) (aJt K 2 (qT (cH 0) (qT (cH 1) aM8))) pM (fQ 0) σ H Q:=by
 have lu:=hu.len
 refine aAr [none,none] cap (hw _ ⟨b,rfl,⟨_,SqL.of hb⟩,aCa Same (uL H) us (fun _=>true) (fun i _ y=>∃c,cs[i]?=some c∧y=.str c.1) (fun _ _ h=>h) (fun _ _ _ h=>h) (fun i σ=>∃c,cs[i]?=some c∧At2 [none,none] (.str c.1) (.str c.2) σ) (Ps2 [none,none]) ⟨none,none,rfl⟩ (small (by omega)) _ (aDd fun H' s'=>SqL.of (s' _ _ hb)) (wQ fun H' s'=>SqL.of (s' _ _ hb)) (fun i x σ' H' Q' ex hps s' qq=>?_) (fun i x σ2 ex hA H' R s' r=>r _ (Same.refl _)) (fun i x σ2 ex hA _ H' R s' r=>?_) fun D H1 ys s1 fD g1 hys=>?_⟩)
 ·obtain ⟨c,hc,p,rfl,hp⟩:=gK hu ex
  exact hg2 (s'.bB hp) hps fun σ2 h1 h2=>qq σ2 h1 ⟨c,hc,h2⟩
 ·obtain ⟨c,hc,rfl⟩:=hA
  exact ⟨_,rfl,r _ _ (Same.refl H') ⟨c,hc,rfl⟩⟩
 ·rw [uX] at hys
  obtain ⟨l,hg⟩:=rK hys
  rw [aFx (by omega) hg] at g1
  exact q D H1 fD s1 g1
def aCn (K:PySem.W.Frag):Sp:=fun vs H Q _=>∃(a N:Addr) (vq vh:V) (q:Qn) (hd:Hdr) (ns:List Str) (hs:Str→Option Hdr),vs=[.ref a,vq,vh,.ref N]∧gW H a∧N≠a∧IsQ K H vq q∧jV K H vh hd∧rE hd∧HQ hs q hd∧H N=some (.lst (ns.map V.str))∧jR ns ∧
 ∀p H' v1 v2 q' hd',Fx a H H'→H' p=some (.tup [v1,v2])→IsQ K H' v1 q'→jV K H' v2 hd'→HQ hs q' hd'→rE hd'→size q'≤size q+1→Q (.ref p) H'
abbrev lmW:List V:=[.str "least",.str "most"]
theorem aBo (T:Txt w K mg) (iJ:Ok P w K mg base 2 "_law_some" ["_law_state","_law_head_here","_law_least"] (yJ K)) (aE6:Ok P w K mg base 2 "_law_sums" ["_law_state","_law_head_here","_law_fresh_here"] (aFc K)) :
  Ok P w K mg base 3 "_law_group" ["_law_state","_law_question_here","_law_head_here","_law_names_here"] (aCn K):=by
 refine Ok.ofV T.aDj cT (fun vs H Q E h=>?_) (fun f cdv A outer s H vs Q E hr h=>?_)
 ·obtain ⟨a,N,vq,vh,q,hd,ns,hs,rfl,_⟩:=h;rfl
 obtain ⟨a,N,vq,vh,q0,hd,ns,hs,rfl,hst,nNa,hq,hh,hok,hHQ,hN,hn,q⟩:=h
 have hu:=aB9 hr
 refine ⟨_,(aF (aQ (i:=4) cT.nd rfl (by trivial) (gB qC (aU (iJ.mono (by decide)) hr (by rfl) (aB (vv 0) (aB (vv 2) (aB aG aA)))) lD (gG aG))) (aF (aQ (i:=5) cT.nd rfl (by trivial) (cB cN (by rfl) T.cU cJ (aB (dC (N:=["_law_name","_law_kind"]) (by trivial) (mV (by decide +kernel)) rfl (gH (vv 4)) (fun cl s' H' fp=>⟨(mF (K:=K) (n:=2) rfl (bJ (aV (i:=0) (show (["_law_name","_law_kind"]:List Str).Nodup from by decide +kernel) rfl (Or.inl rfl)) (bJ (aV (i:=1) (show (["_law_name","_law_kind"]:List Str).Nodup from by decide +kernel) rfl (Or.inl rfl)) dX))),fH,(vv 0)⟩)) aA))) (aF (uW (i0:=6) cT.nd rfl (by trivial) (N:=["_law_name","_law_some_here"]) (by trivial) (fC (aK lC) rfl (by decide +kernel)) rfl (gH (gB qC (vv 3) (gG aG) lD)) (fun cl s' H' fp=>⟨(aV (i:=0) (show (["_law_name","_law_some_here"]:List Str).Nodup from by decide +kernel) rfl (Or.inl rfl)),(wA (bF (rB (K:=K)) (vv 0) (vv 1) (by with_unfolding_all rfl))),(vv 0)⟩)) (aF (aQ (i:=7) cT.nd rfl (by trivial) (aU (aE6.mono (by decide)) hr (by rfl) (aB (vv 0) (aB (vv 2) (aB (vv 6) aA))))) (aF (jL PassesOwn.never rfl (mO (vv 7)) (mH rfl (bJ (aV (i:=8) cT.nd rfl (by trivial)) (bJ (aV (i:=9) cT.nd rfl (by trivial)) (bJ (aV (i:=10) cT.nd rfl (by trivial)) dX)))) (aF (aQ (i:=11) cT.nd rfl (by trivial) aJ) (aF (cP (bF wF (vv 8) (aD (aB aJ (aB aJ aA))) (by with_unfolding_all rfl)) (aL (aQ (i:=11) cT.nd rfl (by trivial) (aKy hu (cB (aJd rfl) (by rfl) T.aUf aQj (aB (vv 2) aA)) (vv 9) (fun _ _=>rfl)))) bK) (aL (iB (wW PySem.F.plainAttrs_list PySem.F.slot_list_append PySem.F.type_list_append jF (vv 4) (aB (aD (aB (vv 10) (aB (vv 11) aA))) aA))))))) (aL (aR (aD (aB (aD (aB aJ (aB (vv 1) (aB (vv 5) (aB (vv 7) aA))))) (aB (cB cN (by rfl) T.cU cJ (aB (vv 4) aA)) aA)))))))))),?_⟩
 obtain ⟨⟨nd,l1,l8⟩,hc⟩:=id hok
 refine ⟨_,rfl,_,rfl,a,vh,hd,0,rfl,hst,hh,⟨nd,l1,l8⟩,by decide,fun D H1 us hd' f1 fD g1 hus hsub _=>?_⟩
 refine ⟨_,rfl,D,_,rfl,SqL.of g1,fun p H2 fp s2 g2=>?_⟩
 rw [show (6:Int)=((6:Nat):Int) from rfl,yM] at g2
 have fx2:=f1.sm s2
 have hu2:cL (IsC K H2) (us.take 6) (hd'.take 6):=wD (hus.imp fun _ _ h=>h.same s2) 6
 have hsub6:=hsub.take 6
 have fp0:H p=none:=f1.free fp
 have npa:p≠a:=hst.ne fp0
 generalize us.take 6=zs at g2 hu2
 have l6:(hd'.take 6).length≤6:=by rw [List.length_take];omega
 generalize hd'.take 6=hz at hu2 hsub6 l6
 have lz:=hu2.len
 have hcz:∀c∈hz,Nm c.1∧xV c.2:=fun c h=>hc c (hsub6.1 c h)
 try dsimp only [cH,qF,oY,tCB,bQ]
 refine xJ g2 hu2 (by omega) mW (fun R r=>⟨_,rfl,r⟩) fun D3 H3 fD3 s3 g3=>?_
 refine ⟨D3,_,rfl,SqL.of g3,fun t4 H4 ft4 s4 g4=>?_⟩
 have fx4:=(fx2.sm s3).sm s4
 have gp4:=(s3.trans s4) _ _ g2
 try dsimp only [cH,qF,oY]
 refine aAc (K:=K) (U:=.ref t4) (used:=hz.map (·.1)) hn ?_ (fun R r=>?_) (fun n l H' R s' r=>?_) fun F H5 fF s5 gF=>?_
 ·exact iD 5 (by decide +kernel) rfl rfl (by trivial)
 ·refine ⟨_,rfl,_,rfl,N,_,rfl,SqL.of (fx4.same _ _ nNa hN),fun p' H' fp' s' g'=>r p' H' fp' s' ?_⟩
  rw [g',show (3:Int)=((3:Nat):Int) from rfl,aCk,List.map_drop]
 ·refine ⟨_,rfl,_,rfl,t4,_,rfl,.inr (SqT.of (s' _ _ g4)),rfl,zL,_,rfl,?_⟩
  rw [tV]
  exact r H' (Same.refl H')
 obtain ⟨fnd,fnm,flen,flen2⟩:=aGj (used:=hz.map (·.1)) hn
 rw [List.length_map] at flen
 generalize hfr:jN ns (hz.map (·.1))=fr at gF fnd fnm flen flen2
 have fx5:=fx4.sm s5
 have nFa:F≠a:=fx4.st.ne fF
 try dsimp only [cH]
 refine ⟨_,rfl,_,rfl,_,rfl,a,F,vh,hd,fr,rfl,fx5.st,hh.tk (fx5.tk hst),hok,gF,nFa,by omega,fun n h=>(fnm n h).1,fun vsm H6 ss js f6 hsm hsj hnew hkj=>?_⟩
 obtain ⟨⟨sa,xs,rfl,hxs,hx2⟩,ls1,ls2⟩:=hsm
 have lxs:=hx2.len
 have ljs:=hsj.len
 have fx6:=fx5.trans f6
 have gp6:=f6.same _ _ npa (s5 _ _ gp4)
 obtain ⟨hb0,hus0,rfl,hhb,hhu⟩:=id hh
 have lhu:=hhu.len
 refine ⟨_,rfl,sa,rfl,⟨_,hxs⟩,aLe (xs:=xs) (fun i σ H'=>(Fx a H H'∧TK K H6 H')∧∃(ws:List V) (l8 l9 l10 l11:Option V),H' p=some (.lst (zs++ws))∧ws.length=i∧cL (IsC K H') ws (((ss.map Sm.new).zip js).take i)∧σ=[some (.ref a),some vq,some (.ref hb0),some (.ref N),some (.ref p),some (.ref t4),some (.ref F),some (.ref sa),l8,l9,l10,l11]) ⟨⟨fx6,fun _ _ e=>e⟩,[],_,_,_,_,by rw [List.append_nil];exact gp6,rfl,.nil,rfl⟩ (fun i σ H' _ ⟨e,_⟩=>e.2 _ _ hxs) ?_ ?_⟩
 ·rintro i x σ H' hx ⟨⟨fl,tk6⟩,ws,l8',l9,l10,l11,gp,lws,hws,rfl⟩
  obtain ⟨sm,hsmi,hism⟩:=gK hx2 hx
  obtain ⟨j,hji,hjk,hjw⟩:=gK hsj hsmi
  have hi:i<ss.length:=(List.getElem?_eq_some_iff.mp hsmi).1
  have hkd:xV j:=hkj sm j (List.mem_of_getElem? (List.getElem?_zip_eq_some.mpr ⟨hsmi,hji⟩))
  obtain ⟨b,rfl,hnm,hcase⟩:=hism
  have hzi:((ss.map Sm.new).zip js).take (i+1)=((ss.map Sm.new).zip js).take i++[(sm.new,j)]:=by
   have e:((ss.map Sm.new).zip js)[i]?=some (sm.new,j):=List.getElem?_zip_eq_some.mpr ⟨by rw [List.getElem?_map,hsmi];rfl,hji⟩
   rw [List.take_add_one,e]
   rfl
  have key:∀Hc,Fx a H' Hc→∀tz Hy,Hc tz=none→Same Hc Hy→Hy tz=some (.tup [.str sm.new,.str j])→Hy p=some (.lst (zs++ws))∧(Fx a H (upd Hy p (.lst (zs++ws++[V.ref tz])))∧TK K H6 (upd Hy p (.lst (zs++ws++[V.ref tz]))))∧(ws++[V.ref tz]).length=i+1∧cL (IsC K (upd Hy p (.lst (zs++ws++[V.ref tz])))) (ws++[V.ref tz]) (((ss.map Sm.new).zip js).take (i+1)):=by
   intro Hc fc tz Hy ftz sy gy
   have gpc:=fc.same _ _ npa gp
   have gpy:=sy _ _ gpc
   have ntp:tz≠p:=(bH gpc ftz).symm
   refine ⟨gpy,⟨((fl.trans fc).sm sy).upd fp0 npa,fun _ _ e=>(sy.bB (fc.bB fl.st (tk6 _ _ e))).aBf gpy⟩,by rw [List.length_append,lws];rfl,?_⟩
   ·rw [hzi]
    exact (hws.imp fun _ _ h=>(h.tk ((fc.sm sy).tk fl.st)).tk fun _ _ e=>e.aBf gpy).app (.cons ⟨tz,rfl,SqT.of (by rw [bA ntp];exact gy)⟩ .nil)
  have hkey:∃cv,SqT K H6 b [.str sm.wd,cv,.str sm.new]∧((inV (.str sm.wd) lmW=true∧∃c,cv=.str c∧look hd c=some j)∨(inV (.str sm.wd) lmW=false∧j = "number")):=by
   rcases hcase with ⟨e,ec,hb⟩|⟨c,ec,hcn,hwd,hb⟩
   ·refine ⟨_,by rw [e];exact hb,.inr ⟨by rw [e];decide +kernel,?_⟩⟩
    unfold smK at hjk
    rw [ec] at hjk
    exact (Option.some.inj hjk).symm
   ·have hlk:look hd c=some j:=by
     unfold smK at hjk
     rw [ec] at hjk
     exact hjk
    refine ⟨_,hb,?_⟩
    rcases hwd with e|e|e
    ·refine .inr ⟨by rw [e];decide +kernel,?_⟩
     rcases hkd with z|z
     ·exact z
     ·exact absurd z (hjw e)
    ·exact .inl ⟨by rw [e];decide +kernel,c,rfl,hlk⟩
    ·exact .inl ⟨by rw [e];decide +kernel,c,rfl,hlk⟩
  obtain ⟨cv,hb,hcv⟩:=hkey
  refine ⟨b,_,rfl,tk6 _ _ hb,rfl,_,_,rfl,_,_,rfl,_,_,rfl,rfl,?_⟩
  refine ⟨_,rfl,(by show 2≤sizeLine;decide),fun tt Ht ftt st gt=>⟨tt,lmW,rfl,.inr (SqT.of gt),rfl,rfl,_,rfl,?_⟩⟩
  have flt:Fx a H' Ht:=.of fl.st st
  rcases hcv with ⟨ew,c,rfl,hlk⟩|⟨ew,rfl⟩
  ·show if inV (.str sm.wd) lmW=true then _ else _
   rw [ew]
   refine cY ?_
   have hhu':cL (IsC K Ht) hus0 hd:=hhu.imp fun _ _ h=>h.tk fun _ _ e=>st.bB (tk6 _ _ (fx6.tk hst _ _ e))
   refine ⟨_,rfl,hb0,_,_,rfl,st.bB (tk6 _ _ (fx6.tk hst _ _ hhb)),aTb hhu',by omega,fun dd Hd fdd sd gd=>?_⟩
   rw [aMr (aV0 nd)] at gd
   refine ⟨_,rfl,dd,.str j,rfl,?_,?_⟩
   ·have hg:=aE1.k (k:=(Sum.inr c:Key)) gd
    rw [aKn,hlk] at hg
    exact hg
   ·have flc:Fx a H' Hd:=flt.sm sd
    refine ⟨_,rfl,.inl ⟨rfl,_,SqL.of (flc.same _ _ npa gp)⟩,_,rfl,_,rfl,(by show 2≤sizeLine;decide),fun tz Hy ftz sy gy=>?_⟩
    obtain ⟨k1,k2,k3,k4⟩:=key Hd flc tz Hy ftz sy gy
    exact ⟨p,_,_,rfl,rfl,k1,fL (by rw [List.length_append];omega),k2,ws++[V.ref tz],_,_,_,_,by rw [←List.append_assoc];exact aO,k3,k4,rfl⟩
  ·show if inV (.str sm.wd) lmW=true then _ else _
   rw [ew]
   refine cI ?_
   refine ⟨_,rfl,.inl ⟨rfl,_,SqL.of (flt.same _ _ npa gp)⟩,_,rfl,_,rfl,(by show 2≤sizeLine;decide),fun tz Hy ftz sy gy=>?_⟩
   obtain ⟨k1,k2,k3,k4⟩:=key Ht flt tz Hy ftz sy gy
   exact ⟨p,_,_,rfl,rfl,k1,fL (by rw [List.length_append];omega),k2,ws++[V.ref tz],_,_,_,_,by rw [←List.append_assoc];exact aO,k3,k4,rfl⟩
 ·rintro σ H' ⟨⟨fl,tk6⟩,ws,l8',l9,l10,l11,gp,lws,hws,rfl⟩
  have lzj:((ss.map Sm.new).zip js).length=ss.length:=by rw [List.length_zip,List.length_map];omega
  rw [List.take_of_length_le (by omega)] at hws
  have hfst:((ss.map Sm.new).zip js).map (·.1)=ss.map Sm.new:=List.map_fst_zip (by rw [List.length_map];omega)
  have hgd:Good (hz++(ss.map Sm.new).zip js):=by
   refine ⟨?_,by rw [List.length_append];omega,by rw [List.length_append];omega⟩
   rw [List.map_append,hfst,hnew,List.nodup_append]
   refine ⟨hsub6.2.1,fnd.sublist (List.take_sublist _ _),fun x hx y hy e=>?_⟩
   subst e
   exact (fnm x (List.mem_of_mem_take hy)).2 hx
  refine ⟨_,rfl,_,rfl,_,rfl,(by show 4≤sizeLine;decide),fun qj H7 _ s7 g7=>⟨_,rfl,p,_,rfl,SqL.of (s7 _ _ gp),fun t8 H8 _ s8 g8=>⟨(by show 2≤sizeLine;decide),fun p9 H9 _ s9 g9=>?_⟩⟩⟩
  have t9:=s7.trans (s8.trans s9)
  have fx9:=fl.sm t9
  have tk9:TK K H H9:=fx9.tk hst
  have tk69:TK K H6 H9:=fun _ _ e=>t9.bB (tk6 _ _ e)
  have tk29:TK K H2 H9:=fun _ _ e=>tk69 _ _ (f6.bB fx5.st (s5.bB (s4.bB (s3.bB e))))
  have tk49:TK K H4 H9:=fun _ _ e=>tk69 _ _ (f6.bB fx5.st (s5.bB e))
  refine q p9 H9 _ _ (.group q0 (hz.map (·.1)) ss) (hz++(ss.map Sm.new).zip js) fx9 g9 ?_ ?_ ?_ ⟨hgd,fun c hcm=>?_⟩ (Nat.le_refl _)
  ·refine .group (SqT.of ((s8.trans s9) _ _ g7)) (hq.tk tk9) (lL (tk49 _ _ (SqT.of g4)) (fun n hn'=>?_) (Nat.zero_le _) (by rw [List.length_map];omega)) ⟨⟨sa,xs,rfl,tk69 _ _ hxs,hx2.imp fun _ _ h=>h.tk tk69⟩,Nat.zero_le _,by omega⟩
   obtain ⟨c,hcm,rfl⟩:=List.mem_map.mp hn'
   exact (hcz c hcm).1
  ·exact ⟨t8,_,rfl,SqT.of (s9 _ _ g8),(hu2.imp fun _ _ h=>h.tk tk29).app (hws.imp fun _ _ h=>h.same t9)⟩
  ·have h:=HH.group (hs:=hs) (q:=q0) (uU nd hsub6.1) hsj
   rw [zip_fst_snd] at h
   exact .mk1 rfl hHQ h hgd
  ·rcases List.mem_append.mp hcm with hcm|hcm
   ·exact hcz c hcm
   ·refine ⟨(fnm c.1 (List.mem_of_mem_take (l:=fr) (i:=ss.length) ?_)).1,?_⟩
    ·rw [←hnew,←hfst]
     exact List.mem_map.mpr ⟨c,hcm,rfl⟩
    ·rw [List.zip_map_left] at hcm
     obtain ⟨⟨s',j'⟩,hm,rfl⟩:=List.mem_map.mp hcm
     exact hkj s' j' hm
def wX (ts:List (Str × Hdr)) (n:Str):Option Hdr:=(ts.find? fun t=>decide (t.1=n)).map (·.2)
def aPk (K:PySem.W.Frag) (H:Hp) (d:Addr) (ts:List (Str × Hdr)):Prop:=∃kvs,H d=some (.dK kvs)∧cL (fun (kv:Key × V) (t:Str × Hdr)=>kv.1=Sum.inr t.1∧jV K H kv.2 t.2) kvs ts
structure aTy (ts:List (Str × Hdr)):Prop where
 nd:(ts.map (·.1)).Nodup
 nm:∀t∈ts,Nm t.1∧rE t.2
 l1:1≤ts.length
 l3:ts.length≤3
theorem aPk.fx {H H':Hp} {a d:Addr} {ts:List (Str × Hdr)} (h:aPk K H d ts) (hs:gW H a) (f:Fx a H H'):aPk K H' d ts:=by
 obtain ⟨kvs,hd,h2⟩:=h
 obtain ⟨st,h1,_⟩:=id hs
 exact ⟨kvs,f.same d _ (pP hd h1 (by intro z;cases z)) hd,h2.imp fun _ _ q=>⟨q.1,q.2.tk (f.tk hs)⟩⟩
theorem vM {H:Hp} {kvs:List (Key × V)} {ts:List (Str × Hdr)} (h:cL (fun (kv:Key × V) (t:Str × Hdr)=>kv.1=Sum.inr t.1∧jV K H kv.2 t.2) kvs ts):kvs.map (·.1)=(ts.map (·.1)).map fun n=>(Sum.inr n:Key):=by
 induction h with
 |nil=>rfl
 |cons r _ ih=>rw [List.map_cons,List.map_cons,List.map_cons,ih,r.1]
theorem aHb {H:Hp} {kvs:List (Key × V)} {ts:List (Str × Hdr)} (h:cL (fun (kv:Key × V) (t:Str × Hdr)=>kv.1=Sum.inr t.1∧jV K H kv.2 t.2) kvs ts) (n:Str) (hd:Hdr):wX ts n=some hd→∃v,nC kvs (Sum.inr n)=some v∧jV K H v hd:=by
 induction h with
 |nil=>intro e;cases e
 |@cons kv t kvs ts r _ ih=>
  intro e
  unfold wX at e
  rw [List.find?_cons] at e
  by_cases en:t.1=n
  ·rw [decide_eq_true en] at e
   have e:t.2=hd:=Option.some.inj e
   exact ⟨kv.2,pY (by rw [r.1,en]),by rw [←e];exact r.2⟩
  ·rw [decide_eq_false en] at e
   rw [pQ (by rw [r.1];intro z;exact en (Sum.inr.inj z))]
   exact ih e
theorem qM {ts:List (Str × Hdr)} (nd:(ts.map (·.1)).Nodup) {t:Str × Hdr} (h:t∈ts):wX ts t.1=some t.2:=by
 induction ts with
 |nil=>cases h
 |cons x r ih=>
  rw [List.map_cons,List.nodup_cons] at nd
  unfold wX
  rw [List.find?_cons]
  rcases List.mem_cons.mp h with rfl|h
  ·rw [decide_eq_true rfl];rfl
  ·rw [decide_eq_false (fun z=>nd.1 (by rw [z];exact List.mem_map.mpr ⟨t,h,rfl⟩))]
   exact ih nd.2 h
def bnd:Nat→Nat
 |0=>1
 |1=>5
 |_=>13
theorem aKz:∀m,1≤bnd m
 |0=>by decide
 |1=>by decide
 |_+2=>by show 1≤13;decide
theorem aOl:∀{m},m≤1→bnd m+4≤bnd (m+1)
 |0,_=>by decide
 |1,_=>by decide
 |_+2,h=>by omega
def aSx (K:PySem.W.Frag) (n:Nat):Sp:=fun vs H Q _=>∃(a d N:Addr) (m:Nat) (ts:List (Str × Hdr)) (ns:List Str),vs=[.ref a,.ref d,.ref N,.int (m:Nat)]∧m<n∧m≤2∧gW H a∧N≠a∧aPk K H d ts∧aTy ts∧H N=some (.lst (ns.map V.str))∧jR ns ∧
 ∀p H' v1 v2 q' hd',Fx a H H'→H' p=some (.tup [v1,v2])→IsQ K H' v1 q'→jV K H' v2 hd'→HQ (wX ts) q' hd'→rE hd'→size q'≤bnd m→Q (.ref p) H'
def turned (ns:List Str) (t n:Nat):List Str:=(List.range n).map fun i=>ns.getD (3+(t+i) % 14) ""
theorem aM4 {ns:List Str} (h:jR ns) (t:Nat) {n:Nat} (hn:n≤14):(turned ns t n).Nodup∧∀x∈turned ns t n,Nm x:=by
 have hg:∀i,ns.getD (3+(t+i) % 14) ""∈ns∧ns[3+(t+i) % 14]?=some (ns.getD (3+(t+i) % 14) ""):=fun i=>by
  have hi:3+(t+i) % 14<ns.length:=by rw [h.1];omega
  rw [List.getD_eq_getElem?_getD,List.getElem?_eq_getElem hi]
  exact ⟨List.getElem_mem hi,rfl⟩
 refine ⟨?_,fun x hx=>?_⟩
 ·refine List.pairwise_map.mpr (List.Pairwise.imp_of_mem ?_ List.nodup_range)
  intro i j hi hj ne e
  have hi:=List.mem_range.mp hi
  have hj:=List.mem_range.mp hj
  have h1:=(hg i).2
  have h2:=(hg j).2
  rw [←e] at h2
  have:=aH3 h.2.2 h1 h2
  omega
 ·obtain ⟨i,_,rfl⟩:=List.mem_map.mp hx
  exact h.2.1 _ (hg i).1
theorem aMg {ns:List Str} (h:jR ns) {t n i:Nat} {x:Str} (e:(turned ns t n)[i]?=some x):ns[3+(t+i) % 14]?=some x:=by
 have hi:i<n:=by
  have:=(List.getElem?_eq_some_iff.mp e).1
  simpa [turned] using this
 unfold turned at e
 rw [List.getElem?_map,List.getElem?_range hi] at e
 have e:ns.getD (3+(t+i) % 14) ""=x:=Option.some.inj e
 have hl:3+(t+i) % 14<ns.length:=by rw [h.1];omega
 rw [List.getD_eq_getElem?_getD,List.getElem?_eq_getElem hl] at e
 rw [List.getElem?_eq_getElem hl]
 exact congrArg some e
theorem aOi {n i:Nat} {x:V} (e:((List.range n).map fun i:Nat=>V.int (0+(i:Int)))[i]?=some x):i<n∧x=.int (0+(i:Int)):=by
 have hi:i<n:=by
  have:=(List.getElem?_eq_some_iff.mp e).1
  rw [List.length_map,List.length_range] at this
  exact this
 rw [List.getElem?_map,List.getElem?_range hi] at e
 exact ⟨hi,(Option.some.inj e).symm⟩
theorem nH (T:Txt w K mg) (aN:Ok P w K mg base 1 "_law_next" ["_law_state","_law_many"] eE) (iJ:Ok P w K mg base 2 "_law_some" ["_law_state","_law_head_here","_law_least"] (yJ K)) (xK:Ok P w K mg base 3 "_law_keys" ["_law_state","_law_head_here"] (aHm K))
  (tH:Ok P w K mg base 4 "_law_tests" ["_law_state","_law_head_here"] (aCp K)) (vC:Ok P w K mg base 3 "_law_group" ["_law_state","_law_question_here","_law_head_here","_law_names_here"] (aCn K))
  (wV:Ok P w K mg base 2 "_law_join" ["_law_state","_law_question_here","_law_head_here","_law_other","_law_other_head","_law_names_here"] (aF6 K)) :
  ∀n:Nat,Ok P w K mg base (n+6) "_law_question" ["_law_state","_law_heads_here","_law_names_here","_law_deep"] (aSx K n)
 |0=>by
  refine Ok.ofV T.oV bW (fun vs H Q E h=>?_) (fun f cdv A outer s H vs Q E hr h=>?_)
  ·obtain ⟨a,d,N,m,ts,ns,rfl,_⟩:=h;rfl
  ·obtain ⟨a,d,N,m,ts,ns,rfl,hm,_⟩:=h
   omega
 |n+1=>by
  have gZ:=nH T aN iJ xK tH vC wV n
  refine Ok.ofV T.oV bW (fun vs H Q E h=>?_) (fun f cdv A outer s H vs Q E hr h=>?_)
  ·obtain ⟨a,d,N,m,ts,ns,rfl,_⟩:=h;rfl
  obtain ⟨a,d,N,m,ts,ns,rfl,hmn,hm2,hst,nNa,hD,hts,hN,hn,q⟩:=h
  have hu:=aB9 hr
  refine ⟨_,(aF (cP (VW.pt (oU (bF dG (vv 3) aG (bL _)) (lH (bF dG (aU (aN.mono (by omega)) hr (by rfl) (aB (vv 0) (aB aG aA))) aG (bL _))))) (aF (aQ (i:=4) bW.nd rfl (by trivial) (bV dU (aY (aHv rfl) (by rfl) T.aN6 aLq (aB (vv 1) aA)) (aU (aN.mono (by omega)) hr (by rfl) (aB (vv 0) (aB (aY aL4 (by rfl) T.eY cZ (aB (vv 1) aA)) aA))) (fun _ _=>rfl))) (aL (aR (aD (aB (aD (aB aJ (aB (vv 4) aA))) (aB (aKy hu (vv 1) (vv 4) (fun _ _=>rfl)) aA)))))) bK) (aF (aQ (i:=5) bW.nd rfl (by trivial) (aU (aN.mono (by omega)) hr (by rfl) (aB (vv 0) (aB aG aA)))) (aF (rR (aU (gZ.mono (by omega)) hr (by rfl) (aB (vv 0) (aB (vv 1) (aB (vv 2) (aB (bG zP (vv 3) aG) aA))))) (mH rfl (bJ (aV (i:=6) bW.nd rfl (by trivial)) (bJ (aV (i:=7) bW.nd rfl (by trivial)) dX)))) (aF (cP (bF dG (vv 5) aG (bL _)) (aL (aR (aD (aB (aD (aB aJ (aB (vv 6) (aB (aU (tH.mono (by omega)) hr (by rfl) (aB (vv 0) (aB (vv 7) aA))) aA)))) (aB (vv 7) aA))))) bK) (aF (cP (bF dG (vv 5) aG (bL _)) (aF (aQ (i:=8) bW.nd rfl (by trivial) (aU (iJ.mono (by omega)) hr (by rfl) (aB (vv 0) (aB (vv 7) (aB aG aA))))) (aL (aR (aD (aB (aD (aB aJ (aB (vv 6) (aB (cB cN (by rfl) T.cU cJ (aB (dC (N:=["_law_name","_law_kind"]) (by trivial) (mV (by decide +kernel)) rfl (gH (vv 8)) (fun cl s' H' fp=>⟨(mF (K:=K) (n:=2) rfl (bJ (aV (i:=0) (show (["_law_name","_law_kind"]:List Str).Nodup from by decide +kernel) rfl (Or.inl rfl)) (bJ (aV (i:=1) (show (["_law_name","_law_kind"]:List Str).Nodup from by decide +kernel) rfl (Or.inl rfl)) dX))),fH,(vv 0)⟩)) aA)) aA)))) (aB (cB cN (by rfl) T.cU cJ (aB (vv 8) aA)) aA)))))) bK) (aF (cP (bF dG (vv 5) aG (bL _)) (aF (aQ (i:=9) bW.nd rfl (by trivial) (aU (aN.mono (by omega)) hr (by rfl) (aB (vv 0) (aB aG aA)))) (aF (aQ (i:=10) bW.nd rfl (by trivial) (dC (N:=["_law_k","_law_names_here","_law_turn"]) (by trivial) (fC (aK fK) rfl (by decide +kernel)) rfl (dW (by rfl) T.gY (aB (aY bD (by rfl) T.eY cZ (aB (vv 7) aA)) aA)) (fun cl s' H' fp=>⟨(aV (i:=0) (show (["_law_k","_law_names_here","_law_turn"]:List Str).Nodup from by decide +kernel) rfl (Or.inl rfl)),fH,(bV (uK (K:=K)) (vv 1) (bG cX aG (bG rO (bG cX (vv 2) (vv 0)) aG)) (fun _ _=>rfl))⟩))) (aF (uW (i0:=11) bW.nd rfl (by trivial) (N:=["_law_k","_law_fresh_here","_law_head_here"]) (by trivial) (fC (aK fK) rfl (by decide +kernel)) rfl (dW (by rfl) T.gY (aB (aY bD (by rfl) T.eY cZ (aB (vv 7) aA)) aA)) (fun cl s' H' fp=>⟨(aV (i:=0) (show (["_law_k","_law_fresh_here","_law_head_here"]:List Str).Nodup from by decide +kernel) rfl (Or.inl rfl)),fH,(aD (aB (bV (uK (K:=K)) (vv 1) (vv 0) (fun _ _=>rfl)) (aB (bV (qJ (K:=K)) (bV (qJ (K:=K)) (vv 2) (vv 0) (fun _ _=>rfl)) aG (fun _ _=>rfl)) aA)))⟩)) (aL (aR (aD (aB (aD (aB aJ (aB (vv 6) (aB (cB cN (by rfl) T.cU cJ (aB (vv 10) aA)) aA)))) (aB (cB cN (by rfl) T.cU cJ (aB (vv 11) aA)) aA)))))))) bK) (aF (cP (bF dG (vv 5) aG (bL _)) (aF (rR (aU (gZ.mono (by omega)) hr (by rfl) (aB (vv 0) (aB (vv 1) (aB (vv 2) (aB (cB qK (by rfl) T.aG3 aAj (aB (gJ dG (vv 3) aG (bL _)) aA)) aA))))) (mH rfl (bJ (aV (i:=12) bW.nd rfl (by trivial)) (bJ (aV (i:=13) bW.nd rfl (by trivial)) dX)))) (aL (aR (aU (wV.mono (by omega)) hr (by rfl) (aB (vv 0) (aB (vv 6) (aB (vv 7) (aB (vv 12) (aB (vv 13) (aB (vv 2) aA)))))))))) bK) (aF (cP (bF dG (vv 5) aG (bL _)) (aL (aR (aU (vC.mono (by omega)) hr (by rfl) (aB (vv 0) (aB (vv 6) (aB (vv 7) (aB (vv 2) aA))))))) bK) (aL (aR (aD (aB (aD (aB aJ (aB (vv 6) (aB (aU (xK.mono (by omega)) hr (by rfl) (aB (vv 0) (aB (vv 7) aA))) (aB (aU (aN.mono (by omega)) hr (by rfl) (aB (vv 0) (aB aG aA))) aA))))) (aB (vv 7) aA))))))))))))),?_⟩
  refine ⟨_,rfl,rfl,_,rfl,?_⟩
  by_cases em:m=0
  ·have e:decide (V.int (m:Int)=V.int 0)=true:=by rw [em];rfl
   rw [e]
   refine cY ?_
   have f1:Fx a H H:=.refl hst
   obtain ⟨kvs,hdk,hkv⟩:=hD.fx hst f1
   have lkv:=hkv.len
   obtain ⟨tl1,tl3⟩:=And.intro hts.l1 hts.l3
   refine ⟨_,rfl,d,kvs,_,rfl,hdk,vM hkv,by omega,fun B H2 ss fB s2 hp g2=>⟨_,rfl,_,rfl,d,kvs,rfl,s2 _ _ hdk,a,_,rfl,f1.st.same s2,(by show (0:Int)<(kvs.length:Int);omega),fun k H3 f3 k0 k1=>?_⟩⟩
   have lss:=hp.length_eq
   rw [List.length_map] at lss
   obtain ⟨u,hat,hum⟩:=at_of (xs:=ss.map V.str) k0 (by rw [List.length_map,lss,←lkv];exact k1)
   obtain ⟨nm,hnm,rfl⟩:=List.mem_map.mp hum
   obtain ⟨t,htm,rfl⟩:=List.mem_map.mp (hp.mem_iff.mp hnm)
   have nBa:B≠a:=f1.st.ne fB
   refine ⟨B,_,_,_,rfl,rfl,SqL.of (f3.same _ _ nBa g2),hat,?_⟩
   have fx3:=(f1.sm s2).trans f3
   obtain ⟨kvs3,hdk3,hkv3⟩:=hD.fx hst fx3
   obtain ⟨v,hv,hvh⟩:=aHb hkv3 t.1 t.2 (qM hts.nd htm)
   refine ⟨_,rfl,(by show 2≤sizeLine;decide),fun t4 H4 _ s4 g4=>⟨_,rfl,_,rfl,d,v,rfl,?_,(by show 2≤sizeLine;decide),fun p5 H5 _ s5 g5=>?_⟩⟩
   ·have hg:=aE1.k (k:=(Sum.inr t.1:Key)) (s4 _ _ hdk3)
    rw [hv] at hg
    exact hg
   ·exact q p5 H5 _ _ (.table t.1) t.2 (fx3.sm (s4.trans s5)) g5 (.table (SqT.of (s5 _ _ g4)) (hts.nm t htm).1) (hvh.same (s4.trans s5)) (.mk0 rfl (.table (qM hts.nd htm)) (hts.nm t htm).2.1) (hts.nm t htm).2 (aKz m)
  have e:decide (V.int (m:Int)=V.int 0)=false:=decide_eq_false (by intro z;have:=V.int.inj z;omega)
  rw [e]
  refine cI ?_
  refine ⟨_,rfl,a,6,rfl,hst,by decide,fun d0 H1 f1 _ _=>⟨rfl,_,rfl,?_⟩⟩
  refine mK (fun _=>?_) (fun _=>?_)
  ·obtain ⟨kvs,hdk,hkv⟩:=hD.fx hst f1
   have lkv:=hkv.len
   obtain ⟨tl1,tl3⟩:=And.intro hts.l1 hts.l3
   refine ⟨_,rfl,d,kvs,_,rfl,hdk,vM hkv,by omega,fun B H2 ss fB s2 hp g2=>⟨_,rfl,_,rfl,d,kvs,rfl,s2 _ _ hdk,a,_,rfl,f1.st.same s2,(by show (0:Int)<(kvs.length:Int);omega),fun k H3 f3 k0 k1=>?_⟩⟩
   have lss:=hp.length_eq
   rw [List.length_map] at lss
   obtain ⟨u,hat,hum⟩:=at_of (xs:=ss.map V.str) k0 (by rw [List.length_map,lss,←lkv];exact k1)
   obtain ⟨nm,hnm,rfl⟩:=List.mem_map.mp hum
   obtain ⟨t,htm,rfl⟩:=List.mem_map.mp (hp.mem_iff.mp hnm)
   have nBa:B≠a:=f1.st.ne fB
   refine ⟨B,_,_,_,rfl,rfl,SqL.of (f3.same _ _ nBa g2),hat,?_⟩
   have fx3:=(f1.sm s2).trans f3
   obtain ⟨kvs3,hdk3,hkv3⟩:=hD.fx hst fx3
   obtain ⟨v,hv,hvh⟩:=aHb hkv3 t.1 t.2 (qM hts.nd htm)
   refine ⟨_,rfl,(by show 2≤sizeLine;decide),fun t4 H4 _ s4 g4=>⟨_,rfl,_,rfl,d,v,rfl,?_,(by show 2≤sizeLine;decide),fun p5 H5 _ s5 g5=>?_⟩⟩
   ·have hg:=aE1.k (k:=(Sum.inr t.1:Key)) (s4 _ _ hdk3)
    rw [hv] at hg
    exact hg
   ·exact q p5 H5 _ _ (.table t.1) t.2 (fx3.sm (s4.trans s5)) g5 (.table (SqT.of (s5 _ _ g4)) (hts.nm t htm).1) (hvh.same (s4.trans s5)) (.mk0 rfl (.table (qM hts.nd htm)) (hts.nm t htm).2.1) (hts.nm t htm).2 (aKz m)
  refine ⟨_,rfl,a,6,rfl,f1.st,by decide,fun way H2 f2 w0 w1=>?_⟩
  have fx2:=f1.trans f2
  obtain ⟨m',rfl⟩:∃m',m=m'+1:=⟨m - 1,by omega⟩
  have em':(((m'+1:Nat):Int) - 1)=(m':Nat):=by omega
  refine ⟨_,rfl,_,rfl,_,rfl,_,rfl,_,_,rfl,rfl,a,d,N,m',ts,ns,?_,by omega,by omega,fx2.st,nNa,hD.fx hst fx2,hts,fx2.same _ _ nNa hN,hn,fun r H3 v1 v2 q1 h1 f3 g3 hq1 hh1 hHQ1 hok1 hz1=>?_⟩
  ·exact congrArg (fun z=>[V.ref a,V.ref d,V.ref N,V.int z]) em'
  have fx3:=fx2.trans f3
  refine ⟨r,_,rfl,SqT.of g3,rfl,_,_,rfl,_,_,rfl,rfl,?_⟩
  obtain ⟨⟨nd1,l1,l8⟩,hc1⟩:=id hok1
  have hm1:m'≤1:=by omega
  have hbn:=aOl hm1
  refine ⟨_,rfl,rfl,_,rfl,mK (fun _=>?_) (fun _=>?_)⟩
  ·refine ⟨_,rfl,_,rfl,_,rfl,a,v2,h1,rfl,fx3.st,hh1,hok1,fun vt H4 ts' f4 hts' htok=>⟨(by show 3≤sizeLine;decide),fun t5 H5 _ s5 g5=>⟨_,rfl,(by show 2≤sizeLine;decide),fun p6 H6 _ s6 g6=>?_⟩⟩⟩
   have s46:=s5.trans s6
   have tk36:TK K H3 H6:=fun _ _ e=>s46.bB (f4.bB fx3.st e)
   have tk46:TK K H4 H6:=fun _ _ e=>s46.bB e
   refine q p6 H6 _ _ (.whr q1 ts') h1 ((fx3.trans f4).sm s46) g6 (.whr (SqT.of (s6 _ _ g5)) (hq1.tk tk36) ?_) (hh1.tk tk36) (.mk1 rfl hHQ1 (.whr htok) hok1.1) hok1 ?_
   ·obtain ⟨x1,x2,x3⟩:=hts'.tk tk46 (fun h=>h.tk tk46)
    exact ⟨x1,x2,by omega⟩
   ·show size q1+ts'.length≤_
    have:=hts'.2.2
    omega
  refine ⟨_,rfl,rfl,_,rfl,mK (fun _=>?_) (fun _=>?_)⟩
  ·refine ⟨_,rfl,_,rfl,a,v2,h1,1,rfl,fx3.st,hh1,hok1.1,by decide,fun D H4 us hd' f4 fD g4 hus hsub hle=>?_⟩
   have lus:=hus.len
   have hl8:=hsub.2.2
   refine ⟨_,rfl,?_⟩
   try dsimp only [tCB,bQ]
   refine xJ g4 hus (by omega) mW (fun R r=>⟨_,rfl,r⟩) fun D5 H5 _ s5 g5=>⟨D5,_,rfl,SqL.of g5,fun t6 H6 _ s6 g6=>⟨(by show 3≤sizeLine;decide),fun q7 H7 _ s7 g7=>⟨_,rfl,D,_,rfl,SqL.of ((s5.trans (s6.trans s7)) _ _ g4),fun t8 H8 _ s8 g8=>⟨(by show 2≤sizeLine;decide),fun p9 H9 _ s9 g9=>?_⟩⟩⟩⟩
   have s49:=s5.trans (s6.trans (s7.trans (s8.trans s9)))
   have tk39:TK K H3 H9:=fun _ _ e=>s49.bB (f4.bB fx3.st e)
   have hgd:Good hd':=⟨hsub.2.1,hle,by omega⟩
   have hcd:∀c∈hd',Nm c.1∧xV c.2:=fun c h=>hc1 c (hsub.1 c h)
   refine q p9 H9 _ _ (.keep q1 (hd'.map (·.1))) hd' ((fx3.trans f4).sm s49) g9 (.keep (SqT.of ((s8.trans s9) _ _ g7)) (hq1.tk tk39) (lL (SqT.of ((s7.trans (s8.trans s9)) _ _ g6)) (fun n hn'=>?_) (by rw [List.length_map];exact hle) (by rw [List.length_map];omega))) ⟨t8,us,rfl,SqT.of (s9 _ _ g8),hus.imp fun _ _ h=>h.same s49⟩ ?_ ⟨hgd,hcd⟩ (by show size q1+1≤_;omega)
   ·obtain ⟨c,hcm,rfl⟩:=List.mem_map.mp hn'
    exact (hcd c hcm).1
   ·have h:=HH.keep (hs:=wX ts) (q:=q1) (uU nd1 hsub.1)
    rw [zip_fst_snd] at h
    exact .mk1 rfl hHQ1 h hgd
  refine ⟨_,rfl,rfl,_,rfl,mK (fun _=>?_) (fun _=>?_)⟩
  ·refine ⟨_,rfl,a,14,rfl,fx3.st,by decide,fun tz H4 f4 t0 t1=>?_⟩
   obtain ⟨tn,rfl⟩:∃tn:Nat,tz=tn:=⟨tz.toNat,by omega⟩
   have fx4:=fx3.trans f4
   obtain ⟨hb,us,rfl,hhb,hus⟩:=id hh1
   have lus:=hus.len
   have tk34:TK K H3 H4:=f4.tk fx3.st
   have hhb4:=tk34 _ _ hhb
   have lfr:(turned ns tn h1.length).length=h1.length:=by simp [turned]
   obtain ⟨tnd,tnm⟩:=aM4 hn tn (n:=h1.length) (by omega)
   try dsimp only [cH,qF,oY]
   refine aKk ((List.range h1.length).map fun i:Nat=>V.int (0+(i:Int))) ((turned ns tn h1.length).map V.str) (by rw [List.length_map,List.length_map,List.length_range,lfr]) [none,some (.ref N),some (.int (tn:Nat))] ?_ (small (by rw [List.length_map,List.length_range];omega)) (fun R r=>aC2 h1.length (fun R' r'=>⟨_,rfl,hb,_,rfl,.inr hhb4,by rw [←lus] at r';exact r'⟩) (by omega) R r) (fun i x y ex ey H' R l sm r=>?_) rfl fun F H5 s5 g5=>?_
   ·refine ⟨rfl,fun i y v h1 h2=>?_⟩
    match i,h1,h2 with
    |0,_,h2=>cases h2
    |1,h1,h2=>cases h1;cases h2;exact ⟨by decide +kernel,2,rfl,rfl,by trivial⟩
    |2,h1,h2=>cases h1;cases h2;exact ⟨by decide +kernel,9,rfl,rfl,by trivial⟩
    |i+3,h1,_=>cases h1
   ·obtain ⟨hi,rfl⟩:=aOi ex
    obtain ⟨fn,hfn,rfl⟩:=aHt ey
    have hfi:ns[3+(tn+i) % 14]?=some fn:=aMg hn hfn
    refine ⟨_,rfl,_,rfl,_,rfl,_,_,rfl,rfl,_,_,rfl,rfl,(by show (0:Int)<14;decide),_,_,rfl,rfl,N,_,_,_,rfl,rfl,SqL.of (sm _ _ (fx4.same _ _ nNa hN)),?_,r _ (Same.refl H')⟩
    have e:(3+((tn:Int)+(0+(i:Int))) % 14)=((3+(tn+i) % 14:Nat):Int):=by omega
    rw [e]
    exact dH (by rw [List.getElem?_map,hfi];rfl)
   have hus5:cL (IsC K H5) us h1:=hus.imp fun _ _ h=>(h.tk tk34).same s5
   have hhb5:=s5.bB hhb4
   generalize hfrs:turned ns tn h1.length=fr at g5 lfr tnd tnm
   try dsimp only [cH,qF,oY]
   refine vO ((List.range h1.length).map fun i:Nat=>V.int (0+(i:Int))) (jK K (List.zipWith (fun n c=>(n,c.2)) fr h1)) jK.st jK.su [none,some (.ref F),some (.ref hb)] ?_ (small (by rw [List.length_map,List.length_range];omega)) (fun R r=>aC2 h1.length (fun R' r'=>⟨_,rfl,hb,_,rfl,.inr hhb5,by rw [←lus] at r';exact r'⟩) (by omega) R r) (fun i x ex H' R l sm r=>?_) rfl fun D7 H7 ys s7 g7 hly hR=>?_
   ·refine ⟨rfl,fun i y v h1 h2=>?_⟩
    match i,h1,h2 with
    |0,_,h2=>cases h2
    |1,h1,h2=>cases h1;cases h2;exact ⟨by decide +kernel,10,rfl,rfl,by trivial⟩
    |2,h1,h2=>cases h1;cases h2;exact ⟨by decide +kernel,7,rfl,rfl,by trivial⟩
    |i+3,h1,_=>cases h1
   ·obtain ⟨hi,rfl⟩:=aOi ex
    obtain ⟨p',hp',hpc⟩:∃p',us[i]?=some (.ref p')∧SqT K H5 p' [.str (h1[i]'hi).1,.str (h1[i]'hi).2]:=by
     have hi':i<us.length:=by omega
     obtain ⟨c,hc',p',e1,e2⟩:=gK hus5 (List.getElem?_eq_getElem hi')
     rw [List.getElem?_eq_getElem hi] at hc'
     cases hc'
     exact ⟨p',by rw [List.getElem?_eq_getElem hi',e1],e2⟩
    have hif:i<fr.length:=by omega
    have a1:atI (fr.map V.str) (0+(i:Int))=some (.str (fr[i]'hif)):=by
     rw [Int.zero_add]
     exact dH (by rw [List.getElem?_map,List.getElem?_eq_getElem hif];rfl)
    have a2:atI us (0+(i:Int))=some (.ref p'):=by
     rw [Int.zero_add]
     exact dH hp'
    refine ⟨_,rfl,_,rfl,F,_,_,_,rfl,rfl,SqL.of (sm _ _ g5),a1,_,rfl,_,rfl,hb,_,_,_,rfl,rfl,sm.bB hhb5,a2,p',_,1,_,rfl,rfl,sm.bB hpc,at1 _ _ _,(by show 2≤sizeLine;decide),fun t H8 _ s8 g8=>r _ _ s8 ⟨(fr[i]'hif,(h1[i]'hi).2),t,?_,rfl,g8⟩⟩
    rw [List.getElem?_zipWith,List.getElem?_eq_getElem hif,List.getElem?_eq_getElem hi]
   rw [List.length_map,List.length_range] at hly
   have lzw:(List.zipWith (fun n c=>(n,c.2)) fr h1).length=h1.length:=by rw [List.length_zipWith,lfr,Nat.min_self]
   try dsimp only [cH]
   refine ⟨_,rfl,_,rfl,F,_,rfl,SqL.of (s7 _ _ g5),fun t8 H8 _ s8 g8=>⟨(by show 3≤sizeLine;decide),fun q9 H9 _ s9 g9=>⟨_,rfl,D7,_,rfl,SqL.of ((s8.trans s9) _ _ g7),fun t10 H10 _ s10 g10=>⟨(by show 2≤sizeLine;decide),fun p11 H11 _ s11 g11=>?_⟩⟩⟩⟩
   have s711:=s8.trans (s9.trans (s10.trans s11))
   have s411:=s5.trans (s7.trans s711)
   have tk311:TK K H3 H11:=fun _ _ e=>s411.bB (tk34 _ _ e)
   have hgn:Good (List.zipWith (fun n c=>(n,c.2)) fr h1):=⟨by rw [zN lfr];exact tnd,by omega,by omega⟩
   refine q p11 H11 (.ref q9) (.ref t10) (.nmd q1 fr) _ (fx4.sm s411) g11 (.nmd (SqT.of ((s10.trans s11) _ _ g9)) (hq1.tk tk311) (lL (SqT.of ((s9.trans (s10.trans s11)) _ _ g8)) tnm (by omega) (by omega))) (aJx (SqT.of (s11 _ _ g10)) (by omega) fun i y e=>(hR i y e).st s711) (.mk1 rfl hHQ1 (.nmd lfr) hgn) ⟨hgn,fun x hx=>?_⟩ (by show size q1+1≤_;omega)
   obtain ⟨h1',c,hcm,e⟩:=aDl hx
   exact ⟨tnm _ h1',by rw [e];exact (hc1 c hcm).2⟩
  refine ⟨_,rfl,rfl,_,rfl,mK (fun _=>?_) (fun _=>?_)⟩
  ·obtain ⟨k,ek,hk1,hkb⟩:∃k:Nat,(if decide (V.int ((m'+1:Nat):Int)=V.int 2)=true then (1:Int) else 0)=(k:Nat)∧k≤m'∧bnd m'+bnd k+3≤bnd (m'+1):=by
    match m',hm1 with
    |0,_=>exact ⟨0,by rw [decide_eq_false (by intro z;have:=V.int.inj z;omega)];rfl,Nat.le_refl _,by decide⟩
    |1,_=>exact ⟨1,by rw [decide_eq_true (show V.int ((1+1:Nat):Int)=V.int 2 from rfl)];rfl,Nat.le_refl _,by decide⟩
   refine ⟨_,rfl,_,rfl,_,rfl,_,rfl,rfl,.inr ⟨_,rfl,a,d,N,k,ts,ns,?_,by omega,by omega,fx3.st,nNa,hD.fx hst fx3,hts,fx3.same _ _ nNa hN,hn,fun r2 H4 vo voh qo ho f4 g4 hqo hho hHQo hoko hzo=>?_⟩⟩
   ·exact congrArg (fun z=>[V.ref a,V.ref d,V.ref N,V.int z]) ek
   have fx4:=fx3.trans f4
   refine ⟨r2,_,rfl,SqT.of g4,rfl,_,_,rfl,_,_,rfl,rfl,?_⟩
   have tk34:TK K H3 H4:=f4.tk fx3.st
   refine ⟨_,rfl,_,rfl,_,rfl,_,rfl,_,rfl,_,rfl,a,N,v1,v2,vo,voh,q1,qo,h1,ho,ns,wX ts,rfl,fx4.st,nNa,hq1.tk tk34,hh1.tk tk34,hok1,hHQ1,hqo,hho,hoko,hHQo,fx4.same _ _ nNa hN,hn,fun p H' w1 w2 q' hd' f' g' hq' hh' hHQ' hok' hz'=>q p H' _ _ q' hd' (fx4.trans f') g' hq' hh' hHQ' hok' (by omega)⟩
  refine ⟨_,rfl,rfl,_,rfl,mK (fun _=>?_) (fun _=>?_)⟩
  ·exact ⟨_,rfl,_,rfl,_,rfl,_,rfl,a,N,v1,v2,q1,h1,ns,wX ts,rfl,fx3.st,nNa,hq1,hh1,hok1,hHQ1,fx3.same _ _ nNa hN,hn,fun p H' w1 w2 q' hd' f' g' hq' hh' hHQ' hok' hz'=>q p H' _ _ q' hd' (fx3.trans f') g' hq' hh' hHQ' hok' (by omega)⟩
  ·refine ⟨_,rfl,_,rfl,_,rfl,a,v2,h1,rfl,fx3.st,hh1,hok1,fun vk H4 ps ks f4 hps hlk hndp=>⟨_,rfl,a,7,rfl,(fx3.trans f4).st,by decide,fun mm H5 f5 m0 m1=>⟨(by show 4≤sizeLine;decide),fun t6 H6 _ s6 g6=>⟨_,rfl,(by show 2≤sizeLine;decide),fun p7 H7 _ s7 g7=>?_⟩⟩⟩⟩
   obtain ⟨mn,rfl⟩:∃mn:Nat,mm=mn:=⟨mm.toNat,by omega⟩
   have f35:=f4.trans f5
   have s57:=s6.trans s7
   have tk37:TK K H3 H7:=fun _ _ e=>s57.bB (f35.bB fx3.st e)
   have tk47:TK K H4 H7:=fun _ _ e=>s57.bB (f5.bB (fx3.trans f4).st e)
   refine q p7 H7 _ _ (.first q1 ps mn) h1 ((fx3.trans f35).sm s57) g7 (.first (SqT.of (s7 _ _ g6)) (hq1.tk tk37) (hps.tk tk47 fun h=>h.tk tk47) (by omega)) (hh1.tk tk37) (.mk1 rfl hHQ1 (.first hlk hndp) hok1.1) hok1 (by show size q1+1≤_;omega)
end
end My
namespace L2
open PySem PySem.Spec PyProof.Rows Builtin Builtin.ObjectAttr
section
variable {prog:Program} {w:World} {A:Around} {E:Value→Shared→Prop} {s:Shared} {K:PySem.W.Frag} {C fI e:Addr}
theorem aBe (X:K.In s.heap) (c:XC K C fI) {vs:Array Value} {dx:Option Addr} {D:Value} {b:Bool} {dep:Int} {tk:Tok} {Q:Fin→Shared→Prop} (he:s.heap.get? e=some { cls:=.ref C,dict:=dx,data:=.fields vs }) (hd:∀a,dx=some a→∃o,s.heap.get? a=some o)
  (hD:PySem.W.Looks (model prog w) s.heap (typeOf D) (.type "type")) (hT:PySem.W.Looks (model prog w) s.heap (isType D) true) (hb:PySem.W.mroIn K C D=some b) (hq:∀t,Q (.done (.ret (.bool b))) { s with toks:=t }) :
  wpAny (model prog w) A (Builtin.«isinstance.nested» ⟨[.ref e,D,.int dep tk],[]⟩) Q E s:=by
 obtain ⟨cd,bm,hc,hm,hE,ho,hdi,hA⟩:=aPf c
 have hcC:PySem.W.mroIn K C (.ref C)=some true:=by unfold PySem.W.mroIn;rw [hc,Option.bind_some,if_neg (by rw [hm];simp),hm];simp
 obtain ⟨h,g,d,t,os⟩:=s
 have T:PySem.W.Looks (model prog w) h (typeOf (.ref e)) (.ref C):=(PySem.W.Looks.ld he).andThen .now
 have L2:=PySem.W.looks_mroIn (M:=model prog w) X hb
 have LI:PySem.W.Looks (model prog w) h (isInstance (.ref e) D) b:=T.andThen L2
 unfold Builtin.«isinstance.nested»
 refine wpAny_bind (T.at ?_)
 by_cases q:(Value.ref C == D)=true
 ·rw [if_pos q]
  have q':=beq_iff_eq.mp q
  subst q'
  rw [hcC] at hb;cases hb
  exact wpAny_bind (wpAny_rule (wpAny_bind (wpAny_pure (wpAny_pure (hq t)))))
 ·rw [if_neg q]
  refine wpAny_bind (hD.at ?_)
  rw [if_pos (by decide)]
  have P:∀{Q':Bool→Shared→Prop} {E':Value→Shared→Prop} {A':Around},(∀t,Q' b ⟨h,g,d,t,os⟩)→wpAny (model prog w) A' (do
    if !(←isType D) then
     if ←Builtins.hasBases D then unsupported "isinstance:class-by-__bases__"
     rule "isinstance.not-a-class";raiseError "TypeError" "isinstance() arg 2 must be a type, a tuple of types, or a union"
    if ←isInstance (.ref e) D then return true
    let some c ←getAttr? (.ref e) "__class__"|return false
    if !(←isType c) then return false
    rule "isinstance.by-__class__";isSubtype c D) Q' E' ⟨h,g,d,t,os⟩:=by
   intro Q' E' A' hq'
   refine wpAny_bind (hT.at ?_)
   rw [if_neg (by decide)]
   refine wpAny_bind (LI.at ?_)
   cases b with
   |true=>rw [if_pos rfl];exact wpAny_pure (hq' t)
   |false=>
    rw [if_neg (by decide)]
    refine wpAny_bind (aJ2 X c he hd ?_)
    dsimp only
    have tC:PySem.W.Looks (model prog w) h (isType (.ref C)) true:=by
     obtain ⟨nm,q,N,bs,bm,sn,sub,ab,col,dd,k0,k1,k2,k3,k5,lk,-⟩:=c.at_
     exact (PySem.W.Looks.ld (X _ _ lk)).andThen .now
    refine wpAny_bind (tC _ _ _ _ (fun _ _ e=>e) ?_)
    rw [if_neg (by decide)]
    exact wpAny_bind (wpAny_rule (L2 _ _ _ _ (fun _ _ e=>e) (hq' _)))
  exact wpAny_bind (P fun t=>wpAny_pure (hq t))
theorem aSq {M:Model} {h:Heap} {D:Addr} (k:K.In h) (hS:XS K D):PySem.W.Looks M h (isType (.ref D)) true:=by
 obtain ⟨cd,q⟩:=Option.isSome_iff_exists.mp hS.cls
 unfold PySem.W.clsIn at q
 split at q
 ·rename_i ho
  exact (PySem.W.Looks.ld (k _ _ ho)).andThen .now
 ·cases q
def XP (K:PySem.W.Frag) (e C dx:Addr) (vs:Array Value) (s:Shared):Prop:=K.In s.heap∧s.heap.get? e=some { cls:=.ref C,dict:=some dx,data:=.fields vs }∧∃o,s.heap.get? dx=some o
theorem aMi (c:XC K C fI) {D dx:Addr} {vs:Array Value} {b:Bool} (hS:XS K D) (hb:PySem.W.mroIn K C (.ref D)=some b):Answers (XP K e C dx vs) (.ref e) (.ref D) b:=
 fun dep tk prog w A R s hs=>aBe hs.1.1 c hs.1.2.1 (fun a z=>by cases z;exact hs.1.2.2) (PySem.W.looks_typeIn hs.1.1 hS.ty) (aSq hs.1.1 hS) hb fun t=>hs.2 t
theorem tY (c:XC K C fI) {dx:Addr} {vs:Array Value}:∀{Ds:List Addr},(∀D∈Ds,XS K D∧PySem.W.mroIn K C (.ref D)=some false)→AnswersAll (XP K e C dx vs) (.ref e) (Ds.map Value.ref) (Ds.map fun _=>false)
 |[],_=>trivial
 |D::Ds,h=>⟨aMi c (h D (List.mem_cons_self ..)).1 (h D (List.mem_cons_self ..)).2,tY c fun D' m=>h D' (List.mem_cons_of_mem _ m)⟩
theorem aE8 (c:XC K C fI) {vs:Array Value} {dx tp:Addr} {o:Obj} {n:Nat} {tk:Tok} {Ds:List Addr} {Q:Fin→Shared→Prop} (hp:XP K e C dx vs s)
  (ho:s.heap.get? tp=some o) (hc:o.cls=.type "tuple") (hd:o.data=.seq (Ds.map Value.ref).toArray n) (hD:∀D∈Ds,XS K D∧PySem.W.mroIn K C (.ref D)=some false)
  (hq:∀t,Q (.done (.ret (.bool false))) { s with toks:=t }) :
  wpAny (model prog w) A (Builtin.«isinstance.nested» ⟨[.ref e,.ref tp,.int 0 tk],[]⟩) Q E s:=by
 obtain ⟨h,g,d,t,os⟩:=s
 have X:K.In h:=hp.1
 have T:PySem.W.Looks (model prog w) h (typeOf (.ref e)) (.ref C):=(PySem.W.Looks.ld hp.2.1).andThen .now
 have T2:PySem.W.Looks (model prog w) h (typeOf (.ref tp)) (.type "tuple"):=hc ▸ (PySem.W.Looks.ld ho).andThen .now
 have ne:¬ (Value.ref C == Value.ref tp)=true:=by
  intro z
  have z:=beq_iff_eq.mp z
  cases z
  obtain ⟨nm,q,N,bs,bm,sn,sub,ab,col,dd,k0,k1,k2,k3,k5,lk,-⟩:=c.at_
  have z2:=X _ _ lk
  rw [show h.get? C=some o from ho] at z2
  cases z2
  exact absurd hc (by intro z;injection z with z;exact absurd z (by decide))
 unfold Builtin.«isinstance.nested»
 refine wpAny_bind (T.at ?_)
 rw [if_neg ne]
 refine wpAny_bind (T2.at ?_)
 rw [if_neg (by decide)]
 unfold Builtins.unionMembers
 refine wpAny_bind (wpAny_bind (T2.at ?_))
 rw [if_neg (by decide)]
 refine wpAny_pure ?_
 have LI:PySem.W.Looks (model prog w) h (isInstance (.ref tp) (.type "tuple")) true:=T2.andThen (PySem.W.Looks.of_pure F.isi_sub_tuple)
 have SI:PySem.W.Looks (model prog w) h (seqItems? (.ref tp)) (some (Ds.map Value.ref).toArray):=(PySem.W.Looks.ld ho).andThen (by rw [hd];exact .now)
 refine wpAny_bind (LI.at ?_)
 rw [if_pos rfl]
 dsimp only
 rw [if_neg (by decide)]
 refine wpAny_bind (SI.at (wpAny_bind ?_))
 rw [Option.getD_some]
 have e0:∀{F:Value→Option Fin × Unit→Sem (ForInStep (Option Fin × Unit))} {b:Option Fin × Unit},forIn (Ds.map Value.ref).toArray b F=forIn (Ds.map Value.ref) b F:=by intros;simp
 rw [e0]
 refine isinstance_items (dep:=0) (P:=XP K e C dx vs) (fun s tk h=>h) (Ds.map Value.ref) (Ds.map fun _=>false) _ _ (tY c hD) hp fun tk'=>?_
 have ea:((Ds.map fun _=>false).any id)=false:=by rw [List.any_map];simp
 rw [ea,if_neg (by decide)]
 exact wpAny_pure (hq tk')
end
section
variable {X:Cx} {K:PySem.W.Frag}
def aYa (K:PySem.W.Frag):List V→Hp→VK→Prop:=fun xs H Q=>∃(e T C dx fI t:Addr) (Ds:List Addr),xs=[.ref e,.ref t]∧H e=some (yC e T C dx)∧XC K C fI∧H dx=some xdA∧SqT K H t (Ds.map V.ref)∧(∀D∈Ds,XS K D∧PySem.W.mroIn K C (.ref D)=some false)∧Q (.bl false) H
theorem aPo {Ds:List Addr} {us:List Value} (h:Vals (Ds.map V.ref) us):us=Ds.map Value.ref:=by
 induction Ds generalizing us with
 |nil=>cases h;rfl
 |cons D Ds ih=>
  cases h with
  |cons r t=>rw [List.map_cons,ih t];exact congrArg (·::_) r
theorem aQy (hK:X.K=K:=by rfl):cV X (.builtin "isinstance") (aYa K):=by
 subst hK
 rintro pins s σ H xs us Q I r ⟨e,T,C,dx,fI,tp,Ds,rfl,he,c,hd,ht,hD,q⟩
 cases r with
 |cons r0 r1=>
  cases r1 with
  |@cons _ u2 _ _ r2 r3=>
   cases r3
   obtain rfl:=r0
   obtain rfl:u2=Value.ref tp:=r2
   obtain ⟨vs,hge,hz,hv1⟩:=(I.hok e _ he).1
   have hdx:∃o,s.heap.get? dx=some o:=by
    obtain ⟨mA,⟨o,_,_,ho,_⟩,_⟩:=I.hok dx _ hd
    exact ⟨o,ho⟩
   obtain ⟨its,rv,⟨o,ho,hoc,n,hod⟩,_⟩:=I.tuple ht
   obtain rfl:=aPo rv
   have g:Meets (Builtin.«isinstance» ⟨[.ref e,.ref tp],[]⟩) (fun _ R s=>XP X.K e C dx vs s∧s.heap.get? tp=some o∧∀t,R (.ok (.ret (.bool false))) { s with toks:=t }):=
    fun prog w A R s hs=>isinstance_outer (aE8 c hs.1 hs.2.1 hoc hod hD fun t=>hs.2.2 t) (by intro z;cases z)
   exact call_isinstance g ⟨⟨I.kIn,hge,hdx⟩,ho,fun t=>⟨.bl false,H,I.tok t,rfl,q⟩⟩
end
end L2
namespace PySem
theorem aGi (l:Addr) (items:Array Value) (n:Nat) (dd:Option Addr) (sl:Array (Option Value)) (x:Int) (u:Tok) (h1:(decide (x < -(2 ^ 63)) || decide (x ≥ 2 ^ 63))=false) (h2:(items.isEmpty || x == 1)=true) :
  Meets (Builtin.«tuple.__mul__» ⟨[.ref l,.int x u],[]⟩) (fun _ R s=>s.heap.get? l=some { cls:=.type "tuple",dict:=dd,data:=.seq items n,slots:=sl }∧R (.ok (.ret (Value.ref l))) s):=
 .of_wp fun prog w A R s h=>by
  obtain ⟨hp,g,d,tk,os⟩:=s;obtain ⟨hl,h⟩:=h
  wp_walk
  refine wpAny_ite_false (by rw [h1];rfl) ?_
  wp_walk
  exact ⟨_,rfl,h⟩
end PySem
namespace L2
open PySem PySem.Spec PyProof.Rows
section
variable {X:Cx}
theorem aRp:OpR X (binaryOp .Mult) (fun x y H Q=>∃l xs,x=.ref l∧y=.int 1∧SqT X.K H l xs∧Q (.ref l) H):=by
 intro pins s σ H x y v u Q I rx ry h
 obtain ⟨l,xs,rfl,rfl,hH,q⟩:=h
 cases rx
 obtain ⟨t,rfl⟩:=ry
 obtain ⟨its,r,p1,_⟩:=I.tuple hH
 obtain ⟨⟨cls,dd,data,sl⟩,ho,hc,n,hd⟩:=id p1
 simp only at hc hd
 subst hc hd
 refine wpAny_binaryOp_repeat_ref (T:="tuple") (U:="int") (by decide) ⟨_,ho,rfl⟩ (fun s'=>typeIs_int s' 1 t) lO F.fills_int_mul F.slot_int_rmul rA F.slot_int_index.lookup
  (call_meets F.slot_int_rmul (typeIs_int s 1 t) F.entry_int_rmul (F.args_int_rmul_2 _ _) (pO 1 t l its.toArray n dd sl)
   ⟨ho,rfl,⟨_,ho,rfl⟩,call_meets F.slot_tuple_mul ⟨_,ho,rfl⟩ F.entry_tuple_mul (F.args_tuple_mul_2 _ _) (aGi l its.toArray n dd sl 1 t (by decide) (by rw [show ((1:Int) == 1)=true from rfl,Bool.or_true])) ⟨ho,⟨.ref l,H,I,rfl,q⟩⟩⟩)
def aN5 (K:PySem.W.Frag):R2:=fun x y H Q=>∃(l:Addr) (k:Nat) (xs:List V),x=.ref l∧y=.int (k:Nat)∧SqT K H l xs∧xs≠[]∧1≤k∧k≤1000∧xs.length≤10∧∀p H',Same H H'→SqT K H' p (List.replicate k xs).flatten→Q (.ref p) H'
theorem oO:OpR X (binaryOp .Mult) (aN5 X.K):=OpR.imp (aQ0.or aRp) fun x y H Q ⟨l,k,xs,ex,ey,hl,h0,h1,hk,hx,q⟩=>by
 by_cases e:k=1
 ·subst e
  exact .inr ⟨l,xs,ex,ey,hl,q l H (Same.refl H) (by simpa using hl)⟩
 ·refine .inl ⟨l,k,xs,ex,ey,hl,h0,by omega,by omega,?_,fun p H' s g=>q p H' s (SqT.of (by simpa using g))⟩
  rw [Int.toNat_natCast]
  exact Nat.le_trans (Nat.mul_le_mul hx hk) (by decide)
end
end L2
namespace My
open PySem PySem.Spec PyProof.Rows L2
section
variable {P:Program} {w:World} {K:PySem.W.Frag} {mg:Str→Option Value} {base:Heap}
section
variable {H H1 H':Hp}
def TS (H H':Hp):Prop:=(∀b xs,H b=some (.tup xs)→H' b=some (.tup xs))∧∀b o u,H b=some (.frz o u)→H' b=some (.frz o u)
theorem TS.of (s:Same H H'):TS H H':=⟨fun b xs e=>s _ _ e,fun b o u e=>s _ _ e⟩
theorem TS.upd {D:Addr} {ys zs:List V} (e:H D=some (.lst ys)):TS H (upd H D (.lst zs)):=
 ⟨fun b xs q=>by rw [bA (pP q e (by intro z;cases z))];exact q,fun b o u q=>by rw [bA (pP q e (by intro z;cases z))];exact q⟩
theorem TS.bB {a:Addr} {xs:List V} (t:TS H H') (h:SqT K H a xs):SqT K H' a xs:=by
 rcases h with (h|⟨o,h⟩)|h
 ·exact .inl (.inl (t.1 _ _ h))
 ·exact .inl (.inr ⟨o,t.2 _ _ _ h⟩)
 ·exact .inr h
end
section
variable {σ:L2.St} {H0:Hp}
abbrev RV:=Hp→V→Prop
def Bd (σ:L2.St) (H0:Hp) (t:TE) (R:RV):Prop:=∀(H:Hp) (Q:VK),Same H0 H→(∀v H',Same H H'→R H' v→Q v H')→t σ H Q
def BdA (σ:L2.St) (H0:Hp) (t:TA) (R:Hp→List V→Prop):Prop:=∀(H:Hp) (Q:List V→Hp→Prop),Same H0 H→(∀vs H',Same H H'→R H' vs→Q vs H')→t σ H Q
theorem Bd.at0 {t:TE} {R:RV} {Q:VK} (h:Bd σ H0 t R) (q:∀v H',Same H0 H'→R H' v→Q v H'):t σ H0 Q:=h H0 Q (Same.refl _) q
theorem Bd.imp {t:TE} {R S:RV} (h:Bd σ H0 t R) (i:∀H v,Same H0 H→R H v→S H v):Bd σ H0 t S:=fun H Q s q=>h H Q s fun v H' s' r=>q v H' s' (i H' v (s.trans s') r)
def IsV (x:V):RV:=fun _ v=>v=x
theorem aZ {i:Nat} {x:V} (h:σ[i]?=some (some x)):Bd σ H0 (fQ i) (IsV x):=fun H Q s q=>⟨x,h,q x H (Same.refl H) rfl⟩
theorem bI {x:V}:Bd σ H0 (tC x) (IsV x):=fun H Q s q=>q x H (Same.refl H) rfl
theorem aEu {i:Nat} {x:V} {R:RV} (h:σ[i]?=some (some x)) (r:∀H,Same H0 H→R H x):Bd σ H0 (fQ i) R:=fun H Q s q=>⟨x,h,q x H (Same.refl H) (r H s)⟩
end
inductive rW (K:PySem.W.Frag) (H0 H:Hp):V→Tg→Prop
 |old {v t}:bM K H0 v t→rW K H0 H v t
 |tup {a vs ts}:SqT K H a vs→vs.length≤1000→vs.length=ts.length→(∀(i:Nat) (v:V) (t:Tg),vs[i]?=some v→ts[i]?=some t→rW K H0 H v t)→rW K H0 H (.ref a) (.tup ts)
theorem rW.ts {H0 H H':Hp} {v:V} {t:Tg} (e:TS H H') (h:rW K H0 H v t):rW K H0 H' v t:=by
 induction h with
 |old h=>exact .old h
 |tup g l ll _ ih=>exact .tup (e.bB g) l ll ih
theorem aJe {H:Hp}:∀{vs:List V} {ts:List Tg},vs.length=ts.length→(∀(i:Nat) (v:V) (t:Tg),vs[i]?=some v→ts[i]?=some t→bM K H v t)→cG K H vs ts
 |[],[],_,_=>.nil
 |v::vs,t::ts,hl,h=>.cons (h 0 v t rfl rfl) (aJe (by simpa using hl) fun i x y h1 h2=>h (i+1) x y (by simpa using h1) (by simpa using h2))
theorem aJ4 {H:Hp} {vs:List V} {ts:List Tg} (h:cG K H vs ts) {i:Nat} {v:V} {t:Tg} (h1:vs[i]?=some v) (h2:ts[i]?=some t):bM K H v t:=by
 obtain ⟨t',e,r⟩:=h.at h1
 rw [h2] at e
 cases e
 exact r
theorem rW.tg {H0 H:Hp} {v:V} {t:Tg} (e:Same H0 H) (h:rW K H0 H v t):bM K H v t:=by
 induction h with
 |old h=>exact h.same e
 |tup g l ll _ ih=>exact .tup g l (aJe ll ih)
def TR (K:PySem.W.Frag) (t:Tg):RV:=fun H v=>bM K H v t
def TRs (K:PySem.W.Frag) (ts:List Tg):Hp→List V→Prop:=fun H vs=>cG K H vs ts
def HR (K:PySem.W.Frag) (H0:Hp) (t:Tg):RV:=fun H v=>rW K H0 H v t
def HRs (K:PySem.W.Frag) (H0:Hp) (ts:List Tg):Hp→List V→Prop:=fun H vs=>vs.length=ts.length∧∀(i:Nat) (v:V) (t:Tg),vs[i]?=some v→ts[i]?=some t→rW K H0 H v t
section
variable {σ:L2.St} {H0:Hp}
theorem aX {t:TE} {x:Str} (h:Bd σ H0 t (IsV (.str x))) (hx:x.length≤1000:=by decide +kernel):Bd σ H0 t (TR K (.str x)):=h.imp fun H v _ e=>by cases e;exact .str hx
theorem sG {t:TE} {x:Int} (h:Bd σ H0 t (IsV (.int x))):Bd σ H0 t (TR K (.int x)):=h.imp fun H v _ e=>by cases e;exact .int
theorem aYo {t:TE} {x:Bool} (h:Bd σ H0 t (IsV (.bl x))):Bd σ H0 t (TR K (.bl x)):=h.imp fun H v _ e=>by cases e;exact .bl
theorem aBt {t:TE} (h:Bd σ H0 t (IsV .non)):Bd σ H0 t (TR K .non):=h.imp fun H v _ e=>by cases e;exact .non
theorem kY {i:Nat} {v:V} {t:Tg} (h:σ[i]?=some (some v)) (r:bM K H0 v t):Bd σ H0 (fQ i) (TR K t):=aEu h fun H s=>r.same s
theorem aH:BdA σ H0 jB (TRs K []):=fun H Q s q=>q [] H (Same.refl H) .nil
theorem aC {t:TE} {ts:TA} {x:Tg} {xs:List Tg} (h:Bd σ H0 t (TR K x)) (hs:BdA σ H0 ts (TRs K xs)):BdA σ H0 (bQ t ts) (TRs K (x::xs)):=
 fun H Q s q=>h H _ s fun v H1 s1 r=>hs H1 _ (s.trans s1) fun us H2 s2 rs=>q _ _ (s1.trans s2) (.cons (bM.same s2 r) rs)
theorem aM {ts:TA} {xs:List Tg} (h:BdA σ H0 ts (TRs K xs)) (hl:xs.length≤1000:=by exact Nat.le_of_ble_eq_true rfl):Bd σ H0 (kI ts) (TR K (.tup xs)):=
 fun H Q s q=>h H _ s fun vs H1 s1 r=>⟨small (by rw [cG.len r];exact hl),fun p H2 _ s2 g2=>q _ _ (s1.trans s2) (.tup (SqT.of g2) (by rw [cG.len r];exact hl) (cG.same s2 r))⟩
theorem jW {ts:TA} {xs:List Tg} (h:BdA σ H0 ts (TRs K xs)) (n:∀i,xs≠[.int i]:=by intro _ z;cases z) (hl:xs.length≤1000:=by exact Nat.le_of_ble_eq_true rfl):Bd σ H0 (aHi ts) (TR K (.lst xs)):=
 fun H Q s q=>h H _ s fun vs H1 s1 r=>⟨small (by rw [cG.len r];exact hl),fun p H2 _ s2 g2=>q _ _ (s1.trans s2) (.lst g2 (by rw [cG.len r];exact hl) (cG.same s2 r) fun i z=>by
  subst z
  cases r with
  |cons a b=>
   cases b
   cases a
   exact n _ rfl)⟩
theorem aTc:Bd σ H0 aOm (TR K .dct):=fun H Q s q=>fun p H' _ s' g=>q _ _ s' (.dct g)
theorem aDn {H:Hp} {vs:List V} {ts:List Tg} (h:cG K H vs ts):∀k,cG K H (List.replicate k vs).flatten (List.replicate k ts).flatten
 |0=>.nil
 |k+1=>by
  rw [List.replicate_succ,List.replicate_succ,List.flatten_cons,List.flatten_cons]
  exact vB ((jP h).app (jP (aDn h k)))
theorem wN {t1:TE} {x:Tg} (k:Nat) (h:Bd σ H0 t1 (TR K (.tup [x]))) (h1:1≤k:=by decide) (h2:k≤1000:=by decide):Bd σ H0 (tOp (aN5 K) t1 (tC (.int (k:Nat)))) (TR K (.tup (List.replicate k x))):=
 fun H Q s q=>h H _ s fun v H1 s1 r=>by
  obtain ⟨a,vs,rfl,ha,_,hs⟩:=fG r
  have hl:vs.length=1:=hs.len
  refine ⟨a,k,vs,rfl,rfl,ha,(by intro z;rw [z] at hl;cases hl),h1,h2,by omega,fun p H2 s2 g2=>q _ _ (s1.trans s2) ?_⟩
  have z:=aDn (hs.same s2) k
  have e:(List.replicate k [x]).flatten=List.replicate k x:=by
   clear g2 z h1 h2 q
   induction k with
   |zero=>rfl
   |succ k ih=>rw [List.replicate_succ,List.replicate_succ,List.flatten_cons,ih];rfl
  rw [e] at z
  exact .tup g2 (by rw [z.len,List.length_replicate];exact h2) z
theorem wR {t:TE} {x:Str} {Hs:Hp} (h:Bd σ H0 t (IsV (.str x))) (hx:x.length≤1000:=by decide +kernel):Bd σ H0 t (HR K Hs (.str x)):=h.imp fun H v _ e=>by cases e;exact .old (.str hx)
theorem aUy {t:TE} {x:Int} {Hs:Hp} (h:Bd σ H0 t (IsV (.int x))):Bd σ H0 t (HR K Hs (.int x)):=h.imp fun H v _ e=>by cases e;exact .old .int
theorem tU {i:Nat} {v:V} {t:Tg} {Hs:Hp} (h:σ[i]?=some (some v)) (r:bM K Hs v t):Bd σ H0 (fQ i) (HR K Hs t):=aEu h fun H s=>.old r
theorem iH {Hs:Hp}:BdA σ H0 jB (HRs K Hs []):=fun H Q s q=>q [] H (Same.refl H) ⟨rfl,fun i v t h=>by simp at h⟩
theorem bU {t:TE} {ts:TA} {x:Tg} {xs:List Tg} {Hs:Hp} (h:Bd σ H0 t (HR K Hs x)) (hs:BdA σ H0 ts (HRs K Hs xs)):BdA σ H0 (bQ t ts) (HRs K Hs (x::xs)):=
 fun H Q s q=>h H _ s fun v H1 s1 r=>hs H1 _ (s.trans s1) fun us H2 s2 rs=>q _ _ (s1.trans s2) ⟨by rw [List.length_cons,List.length_cons,rs.1],fun i u t h1 h2=>by
  cases i with
  |zero=>cases h1;cases h2;exact rW.ts (.of s2) r
  |succ i=>exact rs.2 i u t (by simpa using h1) (by simpa using h2)⟩
theorem iI {ts:TA} {xs:List Tg} {Hs:Hp} (h:BdA σ H0 ts (HRs K Hs xs)) (hl:xs.length≤1000:=by exact Nat.le_of_ble_eq_true rfl):Bd σ H0 (kI ts) (HR K Hs (.tup xs)):=
 fun H Q s q=>h H _ s fun vs H1 s1 r=>⟨small (by rw [r.1];exact hl),fun p H2 _ s2 g2=>q _ _ (s1.trans s2) (.tup (SqT.of g2) (by rw [r.1];exact hl) r.1 fun i v t h1 h2=>rW.ts (.of s2) (r.2 i v t h1 h2))⟩
end
def LT (K:PySem.W.Frag) (ts:List Tg):RV:=fun H v=>∃(p:Addr) (vs:List V) (H1:Hp),v=.ref p∧H1 p=none∧Same H1 H∧H p=some (.lst vs)∧HRs K H1 ts H vs
theorem LT.same {H H':Hp} {v:V} {ts:List Tg} (s:Same H H') (h:LT K ts H v):LT K ts H' v:=by
 obtain ⟨p,vs,H1,e,f,s1,g,r⟩:=h
 exact ⟨p,vs,H1,e,f,s1.trans s,s _ _ g,r.1,fun i v t h1 h2=>(r.2 i v t h1 h2).ts (.of s)⟩
theorem aIm {H1 H:Hp} {vs:List V} {ts:List Tg} (h:cG K H1 vs ts):HRs K H1 ts H vs:=⟨h.len,fun i v t h1 h2=>.old (aJ4 h h1 h2)⟩
theorem oR {H1 H:Hp} {vs:List V} {ts:List Tg} (s:Same H1 H) (h:HRs K H1 ts H vs):cG K H vs ts:=aJe h.1 fun i v t h1 h2=>(h.2 i v t h1 h2).tg s
section
variable {σ:L2.St} {H0:Hp}
theorem kE {ts:TA} {xs:List Tg} (h:BdA σ H0 ts (TRs K xs)) (hl:xs.length≤1000:=by exact Nat.le_of_ble_eq_true rfl):Bd σ H0 (aHi ts) (LT K xs):=
 fun H Q s q=>h H _ s fun vs H1 s1 r=>⟨small (by rw [cG.len r];exact hl),fun p H2 f2 s2 g2=>q _ _ (s1.trans s2) ⟨p,vs,H1,rfl,f2,s2,g2,aIm r⟩⟩
theorem vX {i:Nat} {v:V} {ts:List Tg} (h:σ[i]?=some (some v)) (r:LT K ts H0 v):Bd σ H0 (fQ i) (LT K ts):=aEu h fun H s=>r.same s
theorem iT {t1 t2:TE} {xs ys:List Tg} (h1:Bd σ H0 t1 (LT K xs)) (h2:Bd σ H0 t2 (LT K ys)) (hl:xs.length+ys.length≤1000):Bd σ H0 (tOp aI0 t1 t2) (LT K (xs++ys)):=
 fun H Q s q=>h1 H _ s fun v H1 s1 r1=>h2 H1 _ (s.trans s1) fun u H2 s2 r2=>by
  obtain ⟨p,vs,Ha,rfl,fa,sa,ga,ra⟩:=r1.same s2
  obtain ⟨p',us,Hb,rfl,fb,sb,gb,rb⟩:=r2
  have l1:=ra.1
  have l2:=rb.1
  exact ⟨p,p',vs,us,rfl,rfl,ga,gb,small (by omega),fun r H3 f3 s3 g3=>q _ _ (s1.trans (s2.trans s3)) ⟨r,vs++us,H2,rfl,f3,s3,g3,aIm (vB ((jP (oR sa ra)).app (jP (oR sb rb))))⟩⟩
theorem aW3 {K':PySem.W.Frag} {j:Nat} {v:V} {xs:List Tg} (k:Nat) {x:Tg} (hj:σ[j]?=some (some v)) (r:LT K xs H0 v) (hx:xs[k]?=some x):Bd σ H0 (tOp (aRq K') (fQ j) (tC (.int (k:Nat)))) (TR K x):=by
 obtain ⟨p,vs,H1,rfl,f,s1,g,r⟩:=r
 have r:=oR s1 r
 have hk:k<vs.length:=by rw [r.len];exact (List.getElem?_eq_some_iff.mp hx).1
 have e:vs[k]?=some vs[k]:=List.getElem?_eq_getElem hk
 refine fun H Q s q=>⟨_,hj,p,vs,_,vs[k],rfl,rfl,SqL.of (s _ _ g),?_,q _ H (Same.refl H) ((aJ4 r e hx).same s)⟩
 exact dH e
end
section
variable {X:Cx} {scope:Scope} {N:List Str} {wi:TI} {te:TE} {σ:L2.St} {H H0:Hp} {Q:VK} {cs:L2.St}
theorem aL2 (xs:List V) (Rel:Nat→Hp→V→Prop) (st:∀{i H1 H2 y},Same H1 H2→Rel i H1 y→Rel i H2 y) (su:∀{i H1 D ys zs y},H1 D=some (.lst ys)→Rel i H1 y→Rel i (upd H1 D (.lst zs)) y)
  (σ0:L2.St) (cap:Cap X scope N σ σ0) (hsz:xs.length≤sizeLine)
  (hw:∀R:It→Hp→Prop,(∀(J:It) (H1:Hp),Same H H1→(∀H' i x,Same H1 H'→xs[i]?=some x→J.go i H'∧∀y H2,J.yld i H' y H2→H2=H'∧y=x)→(∀H',Same H1 H'→J.stop xs.length H')→R J H1)→wi σ H R)
  (he:∀(i:Nat) (x:V),xs[i]?=some x→∀H' R l,Same H H'→(∀y H2,Same H' H2→Rel i H2 y→R y H2)→te ((σ0.set 0 l).set 0 (some x)) H' R) (h0:σ0[0]?=some none)
  (q:∀D H' ys,H D=none→Same H H'→H' D=some (.lst ys)→ys.length=xs.length→(∀(i:Nat) (y:V),ys[i]?=some y→Rel i H' y)→Q (.ref D) H') :
  jU X scope N wi (cH 0) pM te σ H Q:=by
 refine ⟨σ0,cap,hw _ fun J H1 s1 go stop D hD=>?_⟩
 refine ⟨fun i m σ' H' ys=>i≤xs.length∧m=xs.length - i∧(∃l,σ'=σ0.set 0 l)∧Same H1 H'∧H' D=some (.lst ys)∧ys.length=i∧∀(j:Nat) (y:V),ys[j]?=some y→Rel j H' y,⟨xs.length,Nat.zero_le _,rfl,⟨none,lF h0⟩,cC hD _,aO,rfl,fun j y e=>by simp at e⟩,?_⟩
 rintro i m σ' H' ys ⟨hi,rfl,⟨l,rfl⟩,sm,hL,hl,hR⟩
 refine ⟨hL,?_⟩
 by_cases hlt:i<xs.length
 ·right
  obtain ⟨g1,g2⟩:=go H' i xs[i] sm (List.getElem?_eq_getElem hlt)
  refine ⟨g1,fun x H2 hy=>?_⟩
  obtain ⟨rfl,rfl⟩:=g2 x H2 hy
  unfold cH pM
  dsimp only
  rw [if_pos rfl]
  refine he i xs[i] (List.getElem?_eq_getElem hlt) _ _ l (s1.trans sm) fun y H3 s3 r3=>⟨s3 _ _ hL,by omega,xs.length - (i+1),by omega,hlt,rfl,⟨some xs[i],?_⟩,?_,aO,?_,?_⟩
  ·rw [List.set_set]
  ·intro b o e
   rw [bA (bH e hD)]
   exact s3 _ _ (sm _ _ e)
  ·rw [List.length_append,List.length_singleton,hl]
  ·intro j z hz
   refine su (s3 _ _ hL) ?_
   by_cases hj:j<ys.length
   ·rw [List.getElem?_append_left hj] at hz
    exact st s3 (hR j z hz)
   ·rw [List.getElem?_append_right (by omega)] at hz
    have hj0:j - ys.length=0:=by
     have:=(List.getElem?_eq_some_iff.mp hz).1
     rw [List.length_singleton] at this
     omega
    rw [hj0] at hz
    cases hz
    have:j=i:=by omega
    subst this
    exact r3
 ·left
  have e:i=xs.length:=by omega
  subst e
  exact ⟨stop _ sm,q D _ ys (s1.free hD) (s1.trans sm) hL hl hR⟩
def Over (K:PySem.W.Frag) (σ:L2.St) (H0:Hp) (wi:TI) (ts:List Tg):Prop:=∃xs:List V,∀H,Same H0 H→cG K H xs ts∧∀R:It→Hp→Prop,(∀(J:It) (H1:Hp),Same H H1→(∀H' i x,Same H1 H'→xs[i]?=some x→J.go i H'∧∀y H2,J.yld i H' y H2→H2=H'∧y=x)→(∀H',Same H1 H'→J.stop xs.length H')→R J H1)→wi σ H R
theorem nR {ts:List Tg} (F:Tg→Tg) (hl:ts.length≤1000) (cap:Cap X scope N σ (none::cs))
  (hw:Over K σ H0 wi ts)
  (he:∀H H' v t,Same H0 H→Same H H'→bM K H v t→Bd (some v::cs) H' te (HR K H (F t))) :
  Bd σ H0 (jU X scope N wi (cH 0) pM te) (LT K (ts.map F)):=by
 intro H Q s q
 obtain ⟨xs,hw⟩:=hw
 obtain ⟨hts,hw⟩:=hw H s
 have ll:=hts.len
 refine aL2 xs (fun i H2 y=>∃t,ts[i]?=some t∧rW K H H2 y (F t)) (fun e ⟨t,h1,h2⟩=>⟨t,h1,h2.ts (.of e)⟩) (fun e ⟨t,h1,h2⟩=>⟨t,h1,h2.ts (.upd e)⟩) (none::cs) cap (small (by omega)) hw (fun i x ex H' R l sm r=>?_) rfl fun D H' ys fD sm hD hlen hR=>?_
 ·obtain ⟨t,et,ht⟩:=hts.at ex
  exact he H H' x t s sm ht H' _ (Same.refl H') fun y H2 s2 r2=>r y H2 s2 ⟨t,et,r2⟩
 ·refine q _ _ sm ⟨D,ys,H,rfl,fD,sm,hD,by rw [List.length_map];omega,fun i v t h1 h2=>?_⟩
  obtain ⟨t',e1,e2⟩:=hR i v h1
  rw [List.getElem?_map,e1] at h2
  cases h2
  exact e2
end
section
variable {σ:L2.St} {H0:Hp} {xs:List V} {ts:List Tg} {tl:TE} {j:Nat} {v:V}
theorem aJz {σ:L2.St} {H:Hp} (h:∀R:VK,(∀a H1,Same H H1→H1 a=some (.lst xs)→R (.ref a) H1)→tl σ H R) (R:It→Hp→Prop)
  (q:∀(J:It) (H1:Hp),Same H H1→(∀H' i x,Same H1 H'→xs[i]?=some x→J.go i H'∧∀y H2,J.yld i H' y H2→H2=H'∧y=x)→(∀H',Same H1 H'→J.stop xs.length H')→R J H1):qW K tl σ H R:=
 h _ fun a H1 s1 g=>aQf (K:=K) (a:=a) (xs:=xs) (tl:=tC (.ref a)) (σ:=σ) (H:=H1) (fun H' s=>SqL.of (s _ _ g)) (fun R r=>r) R fun J h1 h2=>q J H1 s1 h1 h2
theorem aO9 {σ:L2.St} {H:Hp} (h:∀R:VK,(∀a H1,Same H H1→SqT K H1 a xs→R (.ref a) H1)→tl σ H R) (R:It→Hp→Prop)
  (q:∀(J:It) (H1:Hp),Same H H1→(∀H' i x,Same H1 H'→xs[i]?=some x→J.go i H'∧∀y H2,J.yld i H' y H2→H2=H'∧y=x)→(∀H',Same H1 H'→J.stop xs.length H')→R J H1):aIl K tl σ H R:=
 h _ fun a H1 s1 g=>aI3 (K:=K) (a:=a) (xs:=xs) (tl:=tC (.ref a)) (σ:=σ) (H:=H1) g (fun R r=>r) R fun J h1 h2=>q J H1 s1 h1 h2
end
theorem aQ2 {X:Cx} {scope:Scope} {x y z:Str} {σ:L2.St} {v u:V} (j k:Nat) (hf:(y,NameKind.free)∈scope.names) (hj:X.N[j]?=some y) (hs:σ[j]?=some (some v)) (hv:Vis X.env.scope y) (hf2:(z,NameKind.free)∈scope.names) (hj2:X.N[k]?=some z) (hs2:σ[k]?=some (some u)) (hv2:Vis X.env.scope z):Cap X scope [x,y,z] σ [none,some v,some u]:=by
 refine ⟨rfl,fun i y' v' e1 e2=>?_⟩
 match i,e1,e2 with
 |0,_,e2=>cases e2
 |1,e1,e2=>cases e1;cases e2;exact ⟨hf,j,hj,hs,hv⟩
 |2,e1,e2=>cases e1;cases e2;exact ⟨hf2,k,hj2,hs2,hv2⟩
 |i+3,e1,_=>cases e1
section
variable {X:Cx} {scope:Scope} {N:List Str} {te:TE} {σ:L2.St} {H0:Hp} {i j:Nat} {v:V} {ts:List Tg} {rest:L2.TS} {D:Ends} {H:Hp} {t:TE}
theorem eN {R:RV} (h:Bd σ H t R) (k:∀v H',Same H H'→R H' v→rest D (σ.set i (some v)) H'):qF (oY t (cH i)) rest D σ H:=h H _ (Same.refl H) fun v H' s r=>k v H' s r
theorem aA3 (hj:σ[j]?=some (some v)) (r:LT K ts H0 v):Over K σ H0 (qW K (fQ j)) ts:=by
 obtain ⟨p,vs,H1,rfl,f,s1,g,r⟩:=r
 exact ⟨vs,fun H s=>⟨(oR s1 r).same s,fun R q=>aJz (fun R' r'=>⟨_,hj,r' p H (Same.refl H) (s _ _ g)⟩) R q⟩⟩
theorem aIy:Over K σ H0 (aIl K (kI (bQ (tC (.str "<>")) (bQ (tC (.str "=<")) (bQ (tC (.str "")) jB))))) [.str "<>",.str "=<",.str ""]:=
 ⟨[.str "<>",.str "=<",.str ""],fun H s=>⟨.cons (.str (by decide +kernel)) (.cons (.str (by decide +kernel)) (.cons (.str (by decide +kernel)) .nil)),fun R q=>aO9 (fun R' r'=>⟨(by show 3≤sizeLine;decide),fun p H' _ s' g=>r' p H' s' (SqT.of g)⟩) R q⟩⟩
theorem aMu:Over K σ H0 (qW K (aHi (bQ (tUn (rU fun i=>.int (-i)) (tC (.int 1))) (bQ (tC (.int 61)) (bQ (tC (.bl true)) (bQ (tC .non) (bQ (tC (.str "3")) jB))))))) [.int (-1),.int 61,.bl true,.non,.str "3"]:=
 ⟨[.int (-1),.int 61,.bl true,.non,.str "3"],fun H s=>⟨.cons .int (.cons .int (.cons .bl (.cons .non (.cons (.str (by decide +kernel)) .nil)))),fun R q=>aJz (fun R' r'=>⟨1,rfl,(by show 5≤sizeLine;decide),fun p H' _ s' g=>r' p H' s' g⟩) R q⟩⟩
def LTF (K:PySem.W.Frag) (Hf:Hp) (ts:List Tg):RV:=fun H v=>∃(p:Addr) (vs:List V) (H1:Hp),v=.ref p∧Hf p=none∧H1 p=none∧Same H1 H∧H p=some (.lst vs)∧HRs K H1 ts H vs
theorem aQq {t1 t2:TE} {xs ys:List Tg} (h1:Bd σ H0 t1 (LT K xs)) (h2:Bd σ H0 t2 (LT K ys)) (hl:xs.length+ys.length≤1000):Bd σ H0 (tOp aI0 t1 t2) (LTF K H0 (xs++ys)):=
 fun H Q s q=>h1 H _ s fun v H1 s1 r1=>h2 H1 _ (s.trans s1) fun u H2 s2 r2=>by
  obtain ⟨p,vs,Ha,rfl,fa,sa,ga,ra⟩:=r1.same s2
  obtain ⟨p',us,Hb,rfl,fb,sb,gb,rb⟩:=r2
  have l1:=ra.1
  have l2:=rb.1
  exact ⟨p,p',vs,us,rfl,rfl,ga,gb,small (by omega),fun r H3 f3 s3 g3=>q _ _ (s1.trans (s2.trans s3)) ⟨r,vs++us,H2,rfl,(s.trans (s1.trans s2)).free f3,f3,s3,g3,aIm (vB ((jP (oR sa ra)).app (jP (oR sb rb))))⟩⟩
theorem aPb {H1:Hp} {vs:List V} {u:V} {x:Tg} (h:HRs K H1 ts H vs) (r:rW K H1 H u x):HRs K H1 (ts++[x]) H (vs++[u]):=by
 refine ⟨by rw [List.length_append,List.length_append,h.1];rfl,fun i v t h1 h2=>?_⟩
 by_cases hi:i<vs.length
 ·rw [List.getElem?_append_left hi] at h1
  rw [List.getElem?_append_left (by rw [←h.1];exact hi)] at h2
  exact h.2 i v t h1 h2
 ·rw [List.getElem?_append_right (by omega)] at h1
  rw [List.getElem?_append_right (by have:=h.1;omega)] at h2
  have hi0:i - vs.length=0:=by
   have:=(List.getElem?_eq_some_iff.mp h1).1
   rw [List.length_singleton] at this
   omega
  rw [hi0] at h1
  rw [←h.1,hi0] at h2
  cases h1
  cases h2
  exact r
theorem aX8 {Hs:Hp} (h:Bd σ H0 t (IsV .non)):Bd σ H0 t (HR K Hs .non):=h.imp fun H v _ e=>by cases e;exact .old .non
theorem aTx {Hf Hst:Hp} {x:Tg} (hj:σ[j]?=some (some v)) (r:LTF K Hf ts H v) (sf:Same Hst Hf) (s0:Same Hst H) (h:∀Hs,Bd σ H t (HR K Hs x)) (hl:ts.length≤999) (k:∀Hn,Same Hst Hn→LT K (ts++[x]) Hn v→rest D σ Hn):qF (aGa (tBM K "list" aEp (fQ j) (bQ t jB))) rest D σ H:=by
 obtain ⟨p,vs,Hb,rfl,ff,fb,sb,g,hr⟩:=r
 refine ⟨_,hj,.inl ⟨rfl,_,SqL.of g⟩,h Hb H _ (Same.refl H) fun u H1 s1 r1=>⟨p,vs,u,rfl,rfl,s1 _ _ g,?_,?_⟩⟩
 ·have:=hr.1
  exact Nat.lt_of_le_of_lt (show vs.length≤1000 by omega) (by decide)
 ·have g1:=s1 _ _ g
  refine k _ (mZ (sf.free ff) (s0.trans s1)) ⟨p,vs++[u],Hb,rfl,fb,mZ fb (sb.trans s1),aO,?_⟩
  exact aPb (H:=upd H1 p (.lst (vs++[u]))) ⟨hr.1,fun i v t h1 h2=>((hr.2 i v t h1 h2).ts (.of s1)).ts (.upd g1)⟩ (rW.ts (.upd g1) r1)
end
def tW (tq:Tg) (c:Str):Tg:=.tup [.str c,.str "=",.tup [.str "value",.int 1]]
def yQ (tq:Tg) (c:Str):List Tg:=([.tup [],.tup (List.replicate 4 (tW tq c)),.lst [tW tq c],tW tq c,.tup [.tup [.str c,.str "=",.tup [.str "value",.bl true]]],.tup [.tup [.str c,.str "==",.tup [.str "value",.int 1]]],.tup [.tup [.str c,.str "="]]]:List Tg)
def aA4 (tq:Tg) (c:Str):List Tg:=((yQ tq c)++(([.str "<>",.str "=<",.str ""]:List Tg)).map (fun t=>.tup [.tup [.str c,t,.tup [.str "value",.int 1]]]))
def zW (tq:Tg) (c:Str):List Tg:=((aA4 tq c)++([.tup [.tup [.str c,.str "=",.tup [.str "column",.int 1]]],.tup [.tup [.str "where",.str "=",.tup [.str "value",.int 1]]],.tup [.tup [.str c,.str "=",.tup [.str "values",.int 1]]]]:List Tg))
def zG (tq:Tg) (c:Str):List Tg:=((zW tq c)++([.tup [.tup [.str c,.str "=",.lst [.str "value",.int 1]]],.tup [.tup [.str c,.str "=",.int 1]],.tup [.tup [.str c,.non,.tup [.str "value",.int 1]]]]:List Tg))
def uH (tq:Tg) (c:Str):List Tg:=((zG tq c)++([.tup [.tup [.str c,.str "=",.tup [.str "value",.non]]],.tup [.tup [.str c,.lst [.str "="],.tup [.str "value",.int 1]]],.tup [.tup [.str c,.str "=",.tup [.lst [.str "value"],.int 1]]]]:List Tg))
def uO (tq:Tg) (c:Str):List Tg:=([.tup [],.tup (List.replicate 9 (.str c)),.lst [.str c],.str c,.tup [.str "by"],.tup [.str "A"],.tup [.int 1],.tup [.str ""],.tup [.str "abcdefghi"]]:List Tg)
def uI (tq:Tg) (c:Str):List Tg:=([.tup [],.tup (List.replicate 4 (.tup [.str c,.str c])),.lst [.tup [.str c,.str c]],.tup [.tup [.str c]],.tup [.tup [.str c,.str c,.str c]],.tup [.tup [.str c,.str "on"]],.tup [.lst [.str c,.str c]]]:List Tg)
def aD9 (tq:Tg) (c:Str):List Tg:=([.tup [.tup [.str "count",.str c,.str c]],.tup [.tup [.str "sum",.non,.str c]],.tup [.tup [.str "mean",.str c,.str c]],.tup [.tup [.str "sum",.str c]],.tup (List.replicate 5 (.tup [.str "count",.non,.str c]))]:List Tg)
def yP (tq:Tg) (c:Str):List Tg:=((aD9 tq c)++([.lst [],.tup [.tup [.str "least",.str c,.str "most"]],.tup [.lst [.str "count",.non,.str c]],.tup [.tup [.lst [.str "count"],.non,.str c]]]:List Tg))
def aA8 (tq:Tg) (c:Str):List Tg:=(((uH tq c)).map (fun t=>.tup [.str "where",tq,t])++((uO tq c)).map (fun t=>.tup [.str "keep",tq,t]))
def zJ (tq:Tg) (c:Str):List Tg:=(((aA8 tq c)++([.tup [.str "named",tq,.tup (List.replicate 9 (.str c))],.tup [.str "named",tq,.tup []]]:List Tg))++((uI tq c)).map (fun t=>.tup [.str "join",tq,tq,t]))
def zY (tq:Tg) (c:Str):List Tg:=((zJ tq c)++((yP tq c)).map (fun t=>.tup [.str "group",tq,.tup [.str c],t]))
def yU (tq:Tg) (c:Str):List Tg:=((zY tq c)++([.tup [.str "group",tq,.tup (List.replicate 9 (.str c)),.tup []],.tup [.str "group",tq,.non,.tup []]]:List Tg))
def yF (tq:Tg) (c:Str):List Tg:=([.tup (List.replicate 4 (.tup [.str c,.str "up"])),.tup [.tup [.str c,.lst [.str "up"]]],.tup [.tup [.str c,.str "UP"]],.tup [.str c]]:List Tg)
def yW (tq:Tg) (c:Str):List Tg:=((yU tq c)++((yF tq c)).map (fun t=>.tup [.str "first",tq,t,.int 3]))
def bdT (tq:Tg) (c:Str):List Tg:=((yW tq c)++(([.int (-1),.int 61,.bl true,.non,.str "3"]:List Tg)).map (fun t=>.tup [.str "first",tq,.tup [],t]))
def zO (tq:Tg) (c:Str):List Tg:=([.non,.int 7,.str "table",.tup [],.tup [.str "table"],.tup [.str "table",.str "table"],.tup [.str "table",.str c,.str c],.tup [.str "table",.int 1]]:List Tg)
def aAt (tq:Tg) (c:Str):List Tg:=((zO tq c)++([.lst [.str "table",.str c],.tup [.str c,tq]]:List Tg))
def zH (tq:Tg) (c:Str):List Tg:=((aAt tq c)++([.tup [.str "where",tq],.tup [.str "keep",.tup [.str c],tq],.tup [.str "join",tq,.tup [.tup [.str c,.str c]]],.tup [.non,tq,.tup [.str c]],.tup [.str "first",tq,.tup []]]:List Tg))
def zE (tq:Tg) (c:Str):List Tg:=(zH tq c)++[.tup [.str "where",.non,.tup [.tup [.str c,.str "=",.tup [.str "value",.int 1]]]]]
def noT (tq:Tg) (c:Str):List Tg:=((zE tq c)++([.tup [.str "join",tq,.non,.tup [.tup [.str c,.str c]]],.tup [.str "sum",tq,.tup [.str c]],.dct]:List Tg))
def aC6 (K:PySem.W.Frag) (F:Tg→Str→List Tg):Sp:=fun vs H Q _=>∃(vq:V) (tq:Tg) (c:Str),vs=[vq,.str c]∧bM K H vq tq∧tq=.tup [.str "table",.str c]∧Nm c∧∀v H',Same H H'→LT K (F tq c) H' v→Q v H'
theorem aHg (T:Txt w K mg):Ok P w K mg base 1 "_law_bad" ["_law_q","_law_c"] (aC6 K bdT):=by
 refine Ok.ofV T.aJf cA (fun vs H Q E h=>?_) (fun f cdv A outer s H vs Q E hr h=>?_)
 ·obtain ⟨v,t,c,rfl,_⟩:=h;rfl
 obtain ⟨vq,tq,c,rfl,hq,_,hc,q⟩:=h
 have hc1:c.length≤1000:=by have:=iW hc;omega
 refine ⟨_,(aF (aQ (i:=2) cA.nd rfl (by trivial) (aD (aB (vv 1) (aB aJ (aB (aD (aB aJ (aB aG aA))) aA))))) (aF (aQ (i:=3) cA.nd rfl (by trivial) (bC (aB (aD aA) (aB (bG oO (aD (aB (vv 2) aA)) aG) (aB (bC (aB (vv 2) aA)) (aB (vv 2) (aB (aD (aB (aD (aB (vv 1) (aB aJ (aB (aD (aB aJ (aB iZ aA))) aA)))) aA)) (aB (aD (aB (aD (aB (vv 1) (aB aJ (aB (aD (aB aJ (aB aG aA))) aA)))) aA)) (aB (aD (aB (aD (aB (vv 1) (aB aJ aA))) aA)) aA))))))))) (aF (aQ (i:=3) cA.nd rfl (by trivial) (bG dB (vv 3) (dC (N:=["_law_sign","_law_c"]) (by trivial) (fC (aK eG) rfl (by decide +kernel)) rfl (mO (aD (aB aJ (aB aJ (aB aJ aA))))) (fun cl s' H' fp=>⟨(aV (i:=0) (show (["_law_sign","_law_c"]:List Str).Nodup from by decide +kernel) rfl (Or.inl rfl)),fH,(aD (aB (aD (aB (vv 1) (aB (vv 0) (aB (aD (aB aJ (aB aG aA))) aA)))) aA))⟩)))) (aF (aQ (i:=3) cA.nd rfl (by trivial) (bG dB (vv 3) (bC (aB (aD (aB (aD (aB (vv 1) (aB aJ (aB (aD (aB aJ (aB aG aA))) aA)))) aA)) (aB (aD (aB (aD (aB aJ (aB aJ (aB (aD (aB aJ (aB aG aA))) aA)))) aA)) (aB (aD (aB (aD (aB (vv 1) (aB aJ (aB (aD (aB aJ (aB aG aA))) aA)))) aA)) aA)))))) (aF (aQ (i:=3) cA.nd rfl (by trivial) (bG dB (vv 3) (bC (aB (aD (aB (aD (aB (vv 1) (aB aJ (aB (bC (aB aJ (aB aG aA))) aA)))) aA)) (aB (aD (aB (aD (aB (vv 1) (aB aJ (aB aG aA)))) aA)) (aB (aD (aB (aD (aB (vv 1) (aB gA (aB (aD (aB aJ (aB aG aA))) aA)))) aA)) aA)))))) (aF (aQ (i:=3) cA.nd rfl (by trivial) (bG dB (vv 3) (bC (aB (aD (aB (aD (aB (vv 1) (aB aJ (aB (aD (aB aJ (aB gA aA))) aA)))) aA)) (aB (aD (aB (aD (aB (vv 1) (aB (bC (aB aJ aA)) (aB (aD (aB aJ (aB aG aA))) aA)))) aA)) (aB (aD (aB (aD (aB (vv 1) (aB aJ (aB (aD (aB (bC (aB aJ aA)) (aB aG aA))) aA)))) aA)) aA)))))) (aF (aQ (i:=4) cA.nd rfl (by trivial) (bC (aB (aD aA) (aB (bG oO (aD (aB (vv 1) aA)) aG) (aB (bC (aB (vv 1) aA)) (aB (vv 1) (aB (aD (aB aJ aA)) (aB (aD (aB aJ aA)) (aB (aD (aB aG aA)) (aB (aD (aB aJ aA)) (aB (aD (aB aJ aA)) aA))))))))))) (aF (aQ (i:=5) cA.nd rfl (by trivial) (bC (aB (aD aA) (aB (bG oO (aD (aB (aD (aB (vv 1) (aB (vv 1) aA))) aA)) aG) (aB (bC (aB (aD (aB (vv 1) (aB (vv 1) aA))) aA)) (aB (aD (aB (aD (aB (vv 1) aA)) aA)) (aB (aD (aB (aD (aB (vv 1) (aB (vv 1) (aB (vv 1) aA)))) aA)) (aB (aD (aB (aD (aB (vv 1) (aB aJ aA))) aA)) (aB (aD (aB (bC (aB (vv 1) (aB (vv 1) aA))) aA)) aA))))))))) (aF (aQ (i:=6) cA.nd rfl (by trivial) (bC (aB (aD (aB (aD (aB aJ (aB (vv 1) (aB (vv 1) aA)))) aA)) (aB (aD (aB (aD (aB aJ (aB gA (aB (vv 1) aA)))) aA)) (aB (aD (aB (aD (aB aJ (aB (vv 1) (aB (vv 1) aA)))) aA)) (aB (aD (aB (aD (aB aJ (aB (vv 1) aA))) aA)) (aB (bG oO (aD (aB (aD (aB aJ (aB gA (aB (vv 1) aA)))) aA)) aG) aA))))))) (aF (aQ (i:=6) cA.nd rfl (by trivial) (bG dB (vv 6) (bC (aB (bC aA) (aB (aD (aB (aD (aB aJ (aB (vv 1) (aB aJ aA)))) aA)) (aB (aD (aB (bC (aB aJ (aB gA (aB (vv 1) aA)))) aA)) (aB (aD (aB (aD (aB (bC (aB aJ aA)) (aB gA (aB (vv 1) aA)))) aA)) aA))))))) (aF (aQ (i:=7) cA.nd rfl (by trivial) (bG dB (dC (N:=["_law_one","_law_q"]) (by trivial) (fC (aK eG) rfl (by decide +kernel)) rfl (gH (vv 3)) (fun cl s' H' fp=>⟨(aV (i:=0) (show (["_law_one","_law_q"]:List Str).Nodup from by decide +kernel) rfl (Or.inl rfl)),fH,(aD (aB aJ (aB (vv 1) (aB (vv 0) aA))))⟩)) (dC (N:=["_law_one","_law_q"]) (by trivial) (fC (aK eG) rfl (by decide +kernel)) rfl (gH (vv 4)) (fun cl s' H' fp=>⟨(aV (i:=0) (show (["_law_one","_law_q"]:List Str).Nodup from by decide +kernel) rfl (Or.inl rfl)),fH,(aD (aB aJ (aB (vv 1) (aB (vv 0) aA))))⟩)))) (aF (aQ (i:=7) cA.nd rfl (by trivial) (bG dB (bG dB (vv 7) (bC (aB (aD (aB aJ (aB (vv 0) (aB (bV dU (vv 4) aG (fun _ _=>rfl)) aA)))) (aB (aD (aB aJ (aB (vv 0) (aB (aD aA) aA)))) aA)))) (dC (N:=["_law_one","_law_q"]) (by trivial) (fC (aK eG) rfl (by decide +kernel)) rfl (gH (vv 5)) (fun cl s' H' fp=>⟨(aV (i:=0) (show (["_law_one","_law_q"]:List Str).Nodup from by decide +kernel) rfl (Or.inl rfl)),fH,(aD (aB aJ (aB (vv 1) (aB (vv 1) (aB (vv 0) aA)))))⟩)))) (aF (aQ (i:=7) cA.nd rfl (by trivial) (bG dB (vv 7) (dC (N:=["_law_one","_law_q","_law_c"]) (by trivial) (fC (aK eG) rfl (by decide +kernel)) rfl (gH (vv 6)) (fun cl s' H' fp=>⟨(aV (i:=0) (show (["_law_one","_law_q","_law_c"]:List Str).Nodup from by decide +kernel) rfl (Or.inl rfl)),fH,(aD (aB aJ (aB (vv 1) (aB (aD (aB (vv 2) aA)) (aB (vv 0) aA)))))⟩)))) (aF (aQ (i:=7) cA.nd rfl (by trivial) (bG dB (vv 7) (bC (aB (aD (aB aJ (aB (vv 0) (aB (bG oO (aD (aB (vv 1) aA)) aG) (aB (aD aA) aA))))) (aB (aD (aB aJ (aB (vv 0) (aB gA (aB (aD aA) aA))))) aA))))) (aF (aQ (i:=8) cA.nd rfl (by trivial) (bC (aB (bG oO (aD (aB (aD (aB (vv 1) (aB aJ aA))) aA)) aG) (aB (aD (aB (aD (aB (vv 1) (aB (bC (aB aJ aA)) aA))) aA)) (aB (aD (aB (aD (aB (vv 1) (aB aJ aA))) aA)) (aB (aD (aB (vv 1) aA)) aA)))))) (aF (aQ (i:=7) cA.nd rfl (by trivial) (bG dB (vv 7) (dC (N:=["_law_one","_law_q"]) (by trivial) (fC (aK eG) rfl (by decide +kernel)) rfl (gH (vv 8)) (fun cl s' H' fp=>⟨(aV (i:=0) (show (["_law_one","_law_q"]:List Str).Nodup from by decide +kernel) rfl (Or.inl rfl)),fH,(aD (aB aJ (aB (vv 1) (aB (vv 0) (aB aG aA)))))⟩)))) (aL (aR (bG dB (vv 7) (dC (N:=["_law_many","_law_q"]) (by trivial) (fC (aK eG) rfl (by decide +kernel)) rfl (gH (bC (aB (aWp aVn aG) (aB aG (aB iZ (aB gA (aB aJ aA))))))) (fun cl s' H' fp=>⟨(aV (i:=0) (show (["_law_many","_law_q"]:List Str).Nodup from by decide +kernel) rfl (Or.inl rfl)),fH,(aD (aB aJ (aB (vv 1) (aB (aD aA) (aB (vv 0) aA)))))⟩))))))))))))))))))))),?_⟩
 refine eN (i:=2) (σ:=[some vq,some (.str c),none,none,none,none,none,none,none]) (H:=H) (R:=TR K (tW tq c)) (aM (aC (aX (aZ rfl) hc1) (aC (aX bI) (aC (aM (aC (aX bI) (aC (sG bI) aH))) aH)))) fun v1 H1 s1 r1=>?_
 have hq1:=hq.same s1
 refine eN (i:=3) (σ:=[some vq,some (.str c),some v1,none,none,none,none,none,none]) (H:=H1) (R:=LT K (yQ tq c)) (kE (aC (aM aH) (aC (wN 4 (aM (aC (kY rfl r1) aH))) (aC (jW (aC (kY rfl r1) aH)) (aC (kY rfl r1) (aC (aM (aC (aM (aC (aX (aZ rfl) hc1) (aC (aX bI) (aC (aM (aC (aX bI) (aC (aYo bI) aH))) aH)))) aH)) (aC (aM (aC (aM (aC (aX (aZ rfl) hc1) (aC (aX bI) (aC (aM (aC (aX bI) (aC (sG bI) aH))) aH)))) aH)) (aC (aM (aC (aM (aC (aX (aZ rfl) hc1) (aC (aX bI) aH))) aH)) aH)))))))) fun v2 H2 s2 r2=>?_
 have hq2:=hq1.same s2
 have r1_2:=bM.same s2 r1
 refine eN (i:=3) (σ:=[some vq,some (.str c),some v1,some v2,none,none,none,none,none]) (H:=H2) (R:=LT K (aA4 tq c)) (iT (vX rfl r2) (nR (cs:=[some (.str c)]) (fun t=>.tup [.tup [.str c,t,.tup [.str "value",.int 1]]]) (by exact Nat.le_of_ble_eq_true rfl) (iD 1 (by decide +kernel) rfl rfl (by trivial)) aIy (fun H H' v t s0 sH ht=>(iI (bU (iI (bU (wR (aZ rfl) hc1) (bU (tU rfl ht) (bU (iI (bU (wR bI) (bU (aUy bI) iH))) iH)))) iH)))) (by exact Nat.le_of_ble_eq_true rfl)) fun v3 H3 s3 r3=>?_
 have hq3:=hq2.same s3
 have r1_3:=bM.same s3 r1_2
 refine eN (i:=3) (σ:=[some vq,some (.str c),some v1,some v3,none,none,none,none,none]) (H:=H3) (R:=LT K (zW tq c)) (iT (vX rfl r3) (kE (aC (aM (aC (aM (aC (aX (aZ rfl) hc1) (aC (aX bI) (aC (aM (aC (aX bI) (aC (sG bI) aH))) aH)))) aH)) (aC (aM (aC (aM (aC (aX bI) (aC (aX bI) (aC (aM (aC (aX bI) (aC (sG bI) aH))) aH)))) aH)) (aC (aM (aC (aM (aC (aX (aZ rfl) hc1) (aC (aX bI) (aC (aM (aC (aX bI) (aC (sG bI) aH))) aH)))) aH)) aH)))) (by exact Nat.le_of_ble_eq_true rfl)) fun v4 H4 s4 r4=>?_
 have hq4:=hq3.same s4
 have r1_4:=bM.same s4 r1_3
 refine eN (i:=3) (σ:=[some vq,some (.str c),some v1,some v4,none,none,none,none,none]) (H:=H4) (R:=LT K (zG tq c)) (iT (vX rfl r4) (kE (aC (aM (aC (aM (aC (aX (aZ rfl) hc1) (aC (aX bI) (aC (jW (aC (aX bI) (aC (sG bI) aH))) aH)))) aH)) (aC (aM (aC (aM (aC (aX (aZ rfl) hc1) (aC (aX bI) (aC (sG bI) aH)))) aH)) (aC (aM (aC (aM (aC (aX (aZ rfl) hc1) (aC (aBt bI) (aC (aM (aC (aX bI) (aC (sG bI) aH))) aH)))) aH)) aH)))) (by exact Nat.le_of_ble_eq_true rfl)) fun v5 H5 s5 r5=>?_
 have hq5:=hq4.same s5
 have r1_5:=bM.same s5 r1_4
 refine eN (i:=3) (σ:=[some vq,some (.str c),some v1,some v5,none,none,none,none,none]) (H:=H5) (R:=LT K (uH tq c)) (iT (vX rfl r5) (kE (aC (aM (aC (aM (aC (aX (aZ rfl) hc1) (aC (aX bI) (aC (aM (aC (aX bI) (aC (aBt bI) aH))) aH)))) aH)) (aC (aM (aC (aM (aC (aX (aZ rfl) hc1) (aC (jW (aC (aX bI) aH)) (aC (aM (aC (aX bI) (aC (sG bI) aH))) aH)))) aH)) (aC (aM (aC (aM (aC (aX (aZ rfl) hc1) (aC (aX bI) (aC (aM (aC (jW (aC (aX bI) aH)) (aC (sG bI) aH))) aH)))) aH)) aH)))) (by exact Nat.le_of_ble_eq_true rfl)) fun v6 H6 s6 r6=>?_
 have hq6:=hq5.same s6
 have r1_6:=bM.same s6 r1_5
 refine eN (i:=4) (σ:=[some vq,some (.str c),some v1,some v6,none,none,none,none,none]) (H:=H6) (R:=LT K (uO tq c)) (kE (aC (aM aH) (aC (wN 9 (aM (aC (aX (aZ rfl) hc1) aH))) (aC (jW (aC (aX (aZ rfl) hc1) aH)) (aC (aX (aZ rfl) hc1) (aC (aM (aC (aX bI) aH)) (aC (aM (aC (aX bI) aH)) (aC (aM (aC (sG bI) aH)) (aC (aM (aC (aX bI) aH)) (aC (aM (aC (aX bI) aH)) aH)))))))))) fun v7 H7 s7 r7=>?_
 have hq7:=hq6.same s7
 have r1_7:=bM.same s7 r1_6
 have r6_7:=LT.same s7 r6
 refine eN (i:=5) (σ:=[some vq,some (.str c),some v1,some v6,some v7,none,none,none,none]) (H:=H7) (R:=LT K (uI tq c)) (kE (aC (aM aH) (aC (wN 4 (aM (aC (aM (aC (aX (aZ rfl) hc1) (aC (aX (aZ rfl) hc1) aH))) aH))) (aC (jW (aC (aM (aC (aX (aZ rfl) hc1) (aC (aX (aZ rfl) hc1) aH))) aH)) (aC (aM (aC (aM (aC (aX (aZ rfl) hc1) aH)) aH)) (aC (aM (aC (aM (aC (aX (aZ rfl) hc1) (aC (aX (aZ rfl) hc1) (aC (aX (aZ rfl) hc1) aH)))) aH)) (aC (aM (aC (aM (aC (aX (aZ rfl) hc1) (aC (aX bI) aH))) aH)) (aC (aM (aC (jW (aC (aX (aZ rfl) hc1) (aC (aX (aZ rfl) hc1) aH))) aH)) aH)))))))) fun v8 H8 s8 r8=>?_
 have hq8:=hq7.same s8
 have r1_8:=bM.same s8 r1_7
 have r6_8:=LT.same s8 r6_7
 have r7_8:=LT.same s8 r7
 refine eN (i:=6) (σ:=[some vq,some (.str c),some v1,some v6,some v7,some v8,none,none,none]) (H:=H8) (R:=LT K (aD9 tq c)) (kE (aC (aM (aC (aM (aC (aX bI) (aC (aX (aZ rfl) hc1) (aC (aX (aZ rfl) hc1) aH)))) aH)) (aC (aM (aC (aM (aC (aX bI) (aC (aBt bI) (aC (aX (aZ rfl) hc1) aH)))) aH)) (aC (aM (aC (aM (aC (aX bI) (aC (aX (aZ rfl) hc1) (aC (aX (aZ rfl) hc1) aH)))) aH)) (aC (aM (aC (aM (aC (aX bI) (aC (aX (aZ rfl) hc1) aH))) aH)) (aC (wN 5 (aM (aC (aM (aC (aX bI) (aC (aBt bI) (aC (aX (aZ rfl) hc1) aH)))) aH))) aH)))))) fun v9 H9 s9 r9=>?_
 have hq9:=hq8.same s9
 have r1_9:=bM.same s9 r1_8
 have r6_9:=LT.same s9 r6_8
 have r7_9:=LT.same s9 r7_8
 have r8_9:=LT.same s9 r8
 refine eN (i:=6) (σ:=[some vq,some (.str c),some v1,some v6,some v7,some v8,some v9,none,none]) (H:=H9) (R:=LT K (yP tq c)) (iT (vX rfl r9) (kE (aC (jW aH) (aC (aM (aC (aM (aC (aX bI) (aC (aX (aZ rfl) hc1) (aC (aX bI) aH)))) aH)) (aC (aM (aC (jW (aC (aX bI) (aC (aBt bI) (aC (aX (aZ rfl) hc1) aH)))) aH)) (aC (aM (aC (aM (aC (jW (aC (aX bI) aH)) (aC (aBt bI) (aC (aX (aZ rfl) hc1) aH)))) aH)) aH))))) (by exact Nat.le_of_ble_eq_true rfl)) fun v10 H10 s10 r10=>?_
 have hq10:=hq9.same s10
 have r1_10:=bM.same s10 r1_9
 have r6_10:=LT.same s10 r6_9
 have r7_10:=LT.same s10 r7_9
 have r8_10:=LT.same s10 r8_9
 refine eN (i:=7) (σ:=[some vq,some (.str c),some v1,some v6,some v7,some v8,some v10,none,none]) (H:=H10) (R:=LT K (aA8 tq c)) (iT (nR (cs:=[some vq]) (fun t=>.tup [.str "where",tq,t]) (by exact Nat.le_of_ble_eq_true rfl) (iD 0 (by decide +kernel) rfl rfl (by trivial)) (aA3 rfl r6_10) (fun H H' v t s0 sH ht=>(iI (bU (wR bI) (bU (tU rfl (hq10.same s0)) (bU (tU rfl ht) iH)))))) (nR (cs:=[some vq]) (fun t=>.tup [.str "keep",tq,t]) (by exact Nat.le_of_ble_eq_true rfl) (iD 0 (by decide +kernel) rfl rfl (by trivial)) (aA3 rfl r7_10) (fun H H' v t s0 sH ht=>(iI (bU (wR bI) (bU (tU rfl (hq10.same s0)) (bU (tU rfl ht) iH)))))) (by exact Nat.le_of_ble_eq_true rfl)) fun v11 H11 s11 r11=>?_
 have hq11:=hq10.same s11
 have r1_11:=bM.same s11 r1_10
 have r6_11:=LT.same s11 r6_10
 have r7_11:=LT.same s11 r7_10
 have r8_11:=LT.same s11 r8_10
 have r10_11:=LT.same s11 r10
 refine eN (i:=7) (σ:=[some vq,some (.str c),some v1,some v6,some v7,some v8,some v10,some v11,none]) (H:=H11) (R:=LT K (zJ tq c)) (iT (iT (vX rfl r11) (kE (aC (aM (aC (aX bI) (aC (kY rfl hq11) (aC (aW3 1 rfl r7_11 rfl) aH)))) (aC (aM (aC (aX bI) (aC (kY rfl hq11) (aC (aM aH) aH)))) aH))) (by exact Nat.le_of_ble_eq_true rfl)) (nR (cs:=[some vq]) (fun t=>.tup [.str "join",tq,tq,t]) (by exact Nat.le_of_ble_eq_true rfl) (iD 0 (by decide +kernel) rfl rfl (by trivial)) (aA3 rfl r8_11) (fun H H' v t s0 sH ht=>(iI (bU (wR bI) (bU (tU rfl (hq11.same s0)) (bU (tU rfl (hq11.same s0)) (bU (tU rfl ht) iH))))))) (by exact Nat.le_of_ble_eq_true rfl)) fun v12 H12 s12 r12=>?_
 have hq12:=hq11.same s12
 have r1_12:=bM.same s12 r1_11
 have r6_12:=LT.same s12 r6_11
 have r7_12:=LT.same s12 r7_11
 have r8_12:=LT.same s12 r8_11
 have r10_12:=LT.same s12 r10_11
 refine eN (i:=7) (σ:=[some vq,some (.str c),some v1,some v6,some v7,some v8,some v10,some v12,none]) (H:=H12) (R:=LT K (zY tq c)) (iT (vX rfl r12) (nR (cs:=[some vq,some (.str c)]) (fun t=>.tup [.str "group",tq,.tup [.str c],t]) (by exact Nat.le_of_ble_eq_true rfl) (aQ2 0 1 (by decide +kernel) rfl rfl (by trivial) (by decide +kernel) rfl rfl (by trivial)) (aA3 rfl r10_12) (fun H H' v t s0 sH ht=>(iI (bU (wR bI) (bU (tU rfl (hq12.same s0)) (bU (iI (bU (wR (aZ rfl) hc1) iH)) (bU (tU rfl ht) iH))))))) (by exact Nat.le_of_ble_eq_true rfl)) fun v13 H13 s13 r13=>?_
 have hq13:=hq12.same s13
 have r1_13:=bM.same s13 r1_12
 have r6_13:=LT.same s13 r6_12
 have r7_13:=LT.same s13 r7_12
 have r8_13:=LT.same s13 r8_12
 have r10_13:=LT.same s13 r10_12
 refine eN (i:=7) (σ:=[some vq,some (.str c),some v1,some v6,some v7,some v8,some v10,some v13,none]) (H:=H13) (R:=LT K (yU tq c)) (iT (vX rfl r13) (kE (aC (aM (aC (aX bI) (aC (kY rfl hq13) (aC (wN 9 (aM (aC (aX (aZ rfl) hc1) aH))) (aC (aM aH) aH))))) (aC (aM (aC (aX bI) (aC (kY rfl hq13) (aC (aBt bI) (aC (aM aH) aH))))) aH))) (by exact Nat.le_of_ble_eq_true rfl)) fun v14 H14 s14 r14=>?_
 have hq14:=hq13.same s14
 have r1_14:=bM.same s14 r1_13
 have r6_14:=LT.same s14 r6_13
 have r7_14:=LT.same s14 r7_13
 have r8_14:=LT.same s14 r8_13
 have r10_14:=LT.same s14 r10_13
 refine eN (i:=8) (σ:=[some vq,some (.str c),some v1,some v6,some v7,some v8,some v10,some v14,none]) (H:=H14) (R:=LT K (yF tq c)) (kE (aC (wN 4 (aM (aC (aM (aC (aX (aZ rfl) hc1) (aC (aX bI) aH))) aH))) (aC (aM (aC (aM (aC (aX (aZ rfl) hc1) (aC (jW (aC (aX bI) aH)) aH))) aH)) (aC (aM (aC (aM (aC (aX (aZ rfl) hc1) (aC (aX bI) aH))) aH)) (aC (aM (aC (aX (aZ rfl) hc1) aH)) aH))))) fun v15 H15 s15 r15=>?_
 have hq15:=hq14.same s15
 have r1_15:=bM.same s15 r1_14
 have r6_15:=LT.same s15 r6_14
 have r7_15:=LT.same s15 r7_14
 have r8_15:=LT.same s15 r8_14
 have r10_15:=LT.same s15 r10_14
 have r14_15:=LT.same s15 r14
 refine eN (i:=7) (σ:=[some vq,some (.str c),some v1,some v6,some v7,some v8,some v10,some v14,some v15]) (H:=H15) (R:=LT K (yW tq c)) (iT (vX rfl r14_15) (nR (cs:=[some vq]) (fun t=>.tup [.str "first",tq,t,.int 3]) (by exact Nat.le_of_ble_eq_true rfl) (iD 0 (by decide +kernel) rfl rfl (by trivial)) (aA3 rfl r15) (fun H H' v t s0 sH ht=>(iI (bU (wR bI) (bU (tU rfl (hq15.same s0)) (bU (tU rfl ht) (bU (aUy bI) iH))))))) (by exact Nat.le_of_ble_eq_true rfl)) fun v16 H16 s16 r16=>?_
 have hq16:=hq15.same s16
 have r1_16:=bM.same s16 r1_15
 have r6_16:=LT.same s16 r6_15
 have r7_16:=LT.same s16 r7_15
 have r8_16:=LT.same s16 r8_15
 have r10_16:=LT.same s16 r10_15
 have r15_16:=LT.same s16 r15
 exact Bd.at0 (σ:=[some vq,some (.str c),some v1,some v6,some v7,some v8,some v10,some v16,some v15]) (H0:=H16) (R:=LT K (bdT tq c)) (iT (vX rfl r16) (nR (cs:=[some vq]) (fun t=>.tup [.str "first",tq,.tup [],t]) (by exact Nat.le_of_ble_eq_true rfl) (iD 0 (by decide +kernel) rfl rfl (by trivial)) aMu (fun H H' v t s0 sH ht=>(iI (bU (wR bI) (bU (tU rfl (hq16.same s0)) (bU (iI iH) (bU (tU rfl ht) iH))))))) (by exact Nat.le_of_ble_eq_true rfl)) fun v H' s r=>q v H' ((((((((((((((((s1.trans s2).trans s3).trans s4).trans s5).trans s6).trans s7).trans s8).trans s9).trans s10).trans s11).trans s12).trans s13).trans s14).trans s15).trans s16).trans s) r
theorem aEn (T:Txt w K mg):Ok P w K mg base 1 "_law_none" ["_law_q","_law_c"] (aC6 K noT):=by
 refine Ok.ofV T.aEv kW (fun vs H Q E h=>?_) (fun f cdv A outer s H vs Q E hr h=>?_)
 ·obtain ⟨v,t,c,rfl,_⟩:=h;rfl
 obtain ⟨vq,tq,c,rfl,hq,etq,hc,q⟩:=h
 subst etq
 have hc1:c.length≤1000:=by have:=iW hc;omega
 refine ⟨_,(aF (aQ (i:=2) kW.nd rfl (by trivial) (bC (aB gA (aB aG (aB aJ (aB (aD aA) (aB (aD (aB aJ aA)) (aB (aD (aB aJ (aB aJ aA))) (aB (aD (aB aJ (aB (vv 1) (aB (vv 1) aA)))) (aB (aD (aB aJ (aB aG aA))) aA)))))))))) (aF (aQ (i:=2) kW.nd rfl (by trivial) (bG dB (vv 2) (bC (aB (bC (aB aJ (aB (vv 1) aA))) (aB (aD (aB (vv 1) (aB (vv 0) aA))) aA))))) (aF (aQ (i:=2) kW.nd rfl (by trivial) (bG dB (vv 2) (bC (aB (aD (aB aJ (aB (vv 0) aA))) (aB (aD (aB aJ (aB (aD (aB (vv 1) aA)) (aB (vv 0) aA)))) (aB (aD (aB aJ (aB (vv 0) (aB (aD (aB (aD (aB (vv 1) (aB (vv 1) aA))) aA)) aA)))) (aB (aD (aB gA (aB (vv 0) (aB (aD (aB (vv 1) aA)) aA)))) (aB (aD (aB aJ (aB (vv 0) (aB (aD aA) aA)))) aA)))))))) (aF (iB (wW PySem.F.plainAttrs_list PySem.F.slot_list_append PySem.F.type_list_append jF (vv 2) (aB (aD (aB aJ (aB gA (aB (aD (aB (aD (aB (vv 1) (aB aJ (aB (aD (aB aJ (aB aG aA))) aA)))) aA)) aA)))) aA))) (aL (aR (bG dB (vv 2) (bC (aB (aD (aB aJ (aB (vv 0) (aB gA (aB (aD (aB (aD (aB (vv 1) (aB (vv 1) aA))) aA)) aA))))) (aB (aD (aB aJ (aB (vv 0) (aB (aD (aB (vv 1) aA)) aA)))) (aB aHf aA))))))))))),?_⟩
 refine eN (i:=2) (σ:=[some vq,some (.str c),none]) (H:=H) (R:=LT K (zO (.tup [.str "table",.str c]) c)) (kE (aC (aBt bI) (aC (sG bI) (aC (aX bI) (aC (aM aH) (aC (aM (aC (aX bI) aH)) (aC (aM (aC (aX bI) (aC (aX bI) aH))) (aC (aM (aC (aX bI) (aC (aX (aZ rfl) hc1) (aC (aX (aZ rfl) hc1) aH)))) (aC (aM (aC (aX bI) (aC (sG bI) aH))) aH))))))))) fun v1 H1 s1 r1=>?_
 have hq1:=hq.same s1
 refine eN (i:=2) (σ:=[some vq,some (.str c),some v1]) (H:=H1) (R:=LT K (aAt (.tup [.str "table",.str c]) c)) (iT (vX rfl r1) (kE (aC (jW (aC (aX bI) (aC (aX (aZ rfl) hc1) aH))) (aC (aM (aC (aX (aZ rfl) hc1) (aC (kY rfl hq1) aH))) aH))) (by exact Nat.le_of_ble_eq_true rfl)) fun v2 H2 s2 r2=>?_
 have hq2:=hq1.same s2
 refine eN (i:=2) (σ:=[some vq,some (.str c),some v2]) (H:=H2) (R:=LTF K H2 (zH (.tup [.str "table",.str c]) c)) (aQq (vX rfl r2) (kE (aC (aM (aC (aX bI) (aC (kY rfl hq2) aH))) (aC (aM (aC (aX bI) (aC (aM (aC (aX (aZ rfl) hc1) aH)) (aC (kY rfl hq2) aH)))) (aC (aM (aC (aX bI) (aC (kY rfl hq2) (aC (aM (aC (aM (aC (aX (aZ rfl) hc1) (aC (aX (aZ rfl) hc1) aH))) aH)) aH)))) (aC (aM (aC (aBt bI) (aC (kY rfl hq2) (aC (aM (aC (aX (aZ rfl) hc1) aH)) aH)))) (aC (aM (aC (aX bI) (aC (kY rfl hq2) (aC (aM aH) aH)))) aH)))))) (by exact Nat.le_of_ble_eq_true rfl)) fun v3 H3 s3 r3=>?_
 have hq3:=hq2.same s3
 refine aTx (σ:=[some vq,some (.str c),some v3]) (H:=H3) (Hst:=H) (x:=.tup [.str "where",.non,.tup [.tup [.str c,.str "=",.tup [.str "value",.int 1]]]]) rfl r3 (s1.trans s2) ((s1.trans s2).trans s3) (fun Hs=>(iI (bU (wR bI) (bU (aX8 bI) (bU (iI (bU (iI (bU (wR (aZ rfl) hc1) (bU (wR bI) (bU (iI (bU (wR bI) (bU (aUy bI) iH))) iH)))) iH)) iH))))) (by exact Nat.le_of_ble_eq_true rfl) fun H4 s4 r4=>?_
 have r4:LT K (zE (.tup [.str "table",.str c]) c) H4 v3:=r4
 have hq4:=hq.same s4
 exact Bd.at0 (σ:=[some vq,some (.str c),some v3]) (H0:=H4) (R:=LT K (noT (.tup [.str "table",.str c]) c)) (iT (vX rfl r4) (kE (aC (aM (aC (aX bI) (aC (kY rfl hq4) (aC (aBt bI) (aC (aM (aC (aM (aC (aX (aZ rfl) hc1) (aC (aX (aZ rfl) hc1) aH))) aH)) aH))))) (aC (aM (aC (aX bI) (aC (kY rfl hq4) (aC (aM (aC (aX (aZ rfl) hc1) aH)) aH)))) (aC aTc aH)))) (by exact Nat.le_of_ble_eq_true rfl)) fun v H' s r=>q v H' (s4.trans s) r
def Bad (t:Tg):Prop:=∀n,¬ SzT t n
theorem cQ {t:Tg} (h:eX t=false):Bad t:=fun n z=>by
 have:=(oA z).1
 rw [h] at this
 cases this
theorem yE {t k:Tg} (m:k∈jD t) (h:Bad k):Bad t:=fun n z=>by
 obtain ⟨_,m',h2,-⟩:=oA z
 clear z
 generalize jD t=ks at m h2
 induction ks generalizing m' with
 |nil=>cases m
 |cons a r ih=>
  obtain ⟨x,y,h3,h4,_⟩:=pN h2
  rcases List.mem_cons.mp m with rfl|m
  ·exact h x h3
  ·exact ih y m h4
theorem Bad.no {t:Tg} (h:Bad t):¬ Right t:=fun ⟨n,z,_⟩=>h n z
theorem aRi {q x:Tg}:eX (.tup [.str "where",q,x])=bN gM 1 3 x:=by
 show (eU q && (bN gM 1 3 x && true))=_
 rw [Bool.and_true];rfl
theorem aNw {q x:Tg}:eX (.tup [.str "keep",q,x])=bN aP 1 8 x:=by
 show (eU q && (bN aP 1 8 x && true))=_
 rw [Bool.and_true];rfl
theorem aSp {q x:Tg}:eX (.tup [.str "named",q,x])=bN aP 1 8 x:=by
 show (eU q && (bN aP 1 8 x && true))=_
 rw [Bool.and_true];rfl
theorem aVy {q r x:Tg}:eX (.tup [.str "join",q,r,x])=bN (bN aP 2 2) 1 3 x:=by
 show (eU q && (eU r && (bN (bN aP 2 2) 1 3 x && true)))=_
 rw [Bool.and_true];rfl
theorem aKv {q x y:Tg}:eX (.tup [.str "group",q,x,y])=(bN aP 0 8 x && bN nQ 0 4 y):=by
 show (eU q && (bN aP 0 8 x && (bN nQ 0 4 y && true)))=_
 rw [Bool.and_true];rfl
theorem aK1 {q x y:Tg}:eX (.tup [.str "first",q,x,y])=(bN mX 0 3 x && oW y):=by
 show (eU q && (bN mX 0 3 x && (oW y && true)))=_
 rw [Bool.and_true];rfl
section
variable {c:Str} {tq:Tg}
theorem c_1:eO (.str "=") signs=true:=by decide +kernel
theorem c_2:eO (.str "==") signs=false:=by decide +kernel
theorem c_3:eO (.str "<>") signs=false:=by decide +kernel
theorem c_4:eO (.str "=<") signs=false:=by decide +kernel
theorem c_5:eO (.str "") signs=false:=by decide +kernel
theorem c_6:eO (.str "value") [.str "value"]=true:=by decide +kernel
theorem c_7:eO (.str "column") [.str "value"]=false:=by decide +kernel
theorem c_8:eO (.str "values") [.str "value"]=false:=by decide +kernel
theorem c_9:eO (.str "values") [.str "column"]=false:=by decide +kernel
theorem aYu:aP (.str "where")=false:=by decide +kernel
theorem aYe:aP (.str "by")=false:=by decide +kernel
theorem aYy:aP (.str "A")=false:=by decide +kernel
theorem aYh:aP (.str "")=false:=by decide +kernel
theorem aY0:aP (.str "abcdefghi")=false:=by decide +kernel
theorem aX6:aP (.str "on")=false:=by decide +kernel
theorem aYn:aP (.str "most")=false:=by decide +kernel
theorem aXb:aP (.str "table")=false:=by decide +kernel
theorem aYz:eO (.str "count") gQ=true:=by decide +kernel
theorem aYv:eO (.str "mean") gQ=false:=by decide +kernel
theorem aX2:aBw (.str "count")=true:=by decide +kernel
theorem aY1:aBw (.str "sum")=false:=by decide +kernel
theorem aX3:eO (.str "UP") xN=false:=by decide +kernel
theorem aXy:aPc (.bl true)=false:=by decide +kernel
theorem aWq:aP (.int 1)=false:=by decide +kernel
theorem aYc:aP .non=false:=by decide +kernel
theorem aYs:aPc .non=false:=by decide +kernel
theorem aTk {ts:List Tg} {xs:List V}:eO (.lst ts) xs=false:=rfl
theorem aYx {xs:List V}:eO .non xs=false:=rfl
theorem aY7 {ts:List Tg}:aP (.lst ts)=false:=rfl
theorem aY8 {ts:List Tg}:aP (.tup ts)=false:=rfl
theorem aL8 (hc:aP (.str c)=true):∀x∈uH tq c,bN gM 1 3 x=false:=by
 intro x hx
 simp only [uH,zG,zW,aA4,yQ,tW,List.mem_append,List.map_cons,List.map_nil,List.mem_cons,List.not_mem_nil,or_false,or_assoc] at hx
 rcases hx with rfl|rfl|rfl|rfl|rfl|rfl|rfl|rfl|rfl|rfl|rfl|rfl|rfl|rfl|rfl|rfl|rfl|rfl|rfl <;>
  simp [bN,gM,jX,hc,c_1,c_2,c_3,c_4,c_5,c_6,c_7,c_8,c_9,aYu,aXy,aWq,aYs,aTk,aYx]
theorem aM5 (hc:aP (.str c)=true):∀x∈uO tq c,bN aP 1 8 x=false:=by
 intro x hx
 simp only [uO,List.mem_cons,List.not_mem_nil,or_false] at hx
 rcases hx with rfl|rfl|rfl|rfl|rfl|rfl|rfl|rfl|rfl <;> simp [bN,hc,aYe,aYy,aYh,aY0,aWq]
theorem aMw (hc:aP (.str c)=true):∀x∈uI tq c,bN (bN aP 2 2) 1 3 x=false:=by
 intro x hx
 simp only [uI,List.mem_cons,List.not_mem_nil,or_false] at hx
 rcases hx with rfl|rfl|rfl|rfl|rfl|rfl|rfl <;> simp [bN,hc,aX6]
theorem aOy (hc:aP (.str c)=true):∀x∈yP tq c,bN nQ 0 4 x=false:=by
 intro x hx
 simp only [yP,aD9,List.mem_append,List.mem_cons,List.not_mem_nil,or_false,or_assoc] at hx
 rcases hx with rfl|rfl|rfl|rfl|rfl|rfl|rfl|rfl|rfl <;> simp [bN,nQ,hc,aYn,aYz,aYv,aX2,aY1,aYc,aTk,aB7]
theorem aNq (hc:aP (.str c)=true):∀x∈yF tq c,bN mX 0 3 x=false:=by
 intro x hx
 simp only [yF,List.mem_cons,List.not_mem_nil,or_false] at hx
 rcases hx with rfl|rfl|rfl|rfl <;> simp [bN,mX,hc,aX3,aTk]
theorem aUt (hc:aP (.str c)=true):∀t∈bdT tq c,Bad t:=by
 intro t ht
 refine cQ ?_
 simp only [bdT,yW,yU,zY,zJ,aA8,List.mem_append,List.mem_map] at ht
 rcases ht with ((((((⟨x,hx,rfl⟩|⟨x,hx,rfl⟩)|ht)|⟨x,hx,rfl⟩)|⟨x,hx,rfl⟩)|ht)|⟨x,hx,rfl⟩)|⟨x,hx,rfl⟩
 ·rw [aRi];exact aL8 hc x hx
 ·rw [aNw];exact aM5 hc x hx
 ·simp only [List.mem_cons,List.not_mem_nil,or_false] at ht
  rcases ht with rfl|rfl <;> rw [aSp] <;> simp [bN]
 ·rw [aVy];exact aMw hc x hx
 ·rw [aKv,aOy hc x hx,Bool.and_false]
 ·simp only [List.mem_cons,List.not_mem_nil,or_false] at ht
  rcases ht with rfl|rfl <;> rw [aKv] <;> simp [bN]
 ·rw [aK1,aNq hc x hx,Bool.false_and]
 ·rw [aK1]
  simp only [List.mem_cons,List.not_mem_nil,or_false] at hx
  rcases hx with rfl|rfl|rfl|rfl|rfl <;> simp [bN,oW]
theorem pK {k:Str} {rs:List Tg} {fs:List (Tg→Bool)} (hk:cW k=some fs) (hl:rs.length≠fs.length):eX (.tup (.str k::rs))=false:=by
 show (match cW k with|some fs=>decide (rs.length=fs.length) && (List.zipWith (fun (f:Tg→Bool) t=>f t) fs rs).all id|none=>false)=false
 rw [hk]
 dsimp only
 rw [decide_eq_false hl,Bool.false_and]
theorem aCm {k:Str} {rs:List Tg} (hk:cW k=none):eX (.tup (.str k::rs))=false:=by
 show (match cW k with|some fs=>decide (rs.length=fs.length) && (List.zipWith (fun (f:Tg→Bool) t=>f t) fs rs).all id|none=>false)=false
 rw [hk]
theorem aU4 {k:Str} {rs:List Tg} (hc:aP (.str k)=true):cW k=none:=by
 cases e:cW k with
 |none=>rfl
 |some fs=>
  have hm:=oN e
  simp only [forms,List.mem_cons,List.not_mem_nil,or_false] at hm
  exfalso
  rcases hm with rfl|rfl|rfl|rfl|rfl|rfl|rfl <;> exact absurd hc (by decide +kernel)
theorem aVd (hc:aP (.str c)=true):∀t∈noT (.tup [.str "table",.str c]) c,Bad t:=by
 intro t ht
 simp only [noT,zE,zH,aAt,zO,List.mem_append,List.mem_cons,List.not_mem_nil,or_false,or_assoc] at ht
 rcases ht with rfl|rfl|rfl|rfl|rfl|rfl|rfl|rfl|rfl|rfl|rfl|rfl|rfl|rfl|rfl|rfl|rfl|rfl|rfl
 ·exact cQ rfl
 ·exact cQ rfl
 ·exact cQ rfl
 ·exact cQ rfl
 ·exact cQ (pK (fs:=[aP]) rfl (by simp))
 ·refine cQ ?_
  show (aP (.str "table") && true)=false
  rw [aXb];rfl
 ·exact cQ (pK (fs:=[aP]) rfl (by simp))
 ·exact cQ rfl
 ·exact cQ rfl
 ·exact cQ (aCm (aU4 (rs:=[]) hc))
 ·exact cQ (pK (fs:=[eU,bN gM 1 3]) rfl (by simp))
 ·refine cQ ?_
  rw [aNw]
  simp [bN,aXb]
 ·exact cQ (pK (fs:=[eU,eU,bN (bN aP 2 2) 1 3]) rfl (by simp))
 ·exact cQ rfl
 ·exact cQ (pK (fs:=[eU,bN mX 0 3,oW]) rfl (by simp))
 ·exact yE (k:=.non) (by show Tg.non∈[Tg.non];simp) (cQ rfl)
 ·exact yE (k:=.non) (by show Tg.non∈[Tg.tup [.str "table",.str c],Tg.non];simp) (cQ rfl)
 ·exact cQ (aCm rfl)
 ·exact cQ rfl
end
mutual
theorem jQ {H H':Hp} {a:Addr} (f:Fx a H H') (hs:gW H a):∀{v:V} {t:Tg},bM K H v t→bM K H' v t
 |_,_,.non=>.non
 |_,_,.int=>.int
 |_,_,.bl=>.bl
 |_,_,.str h=>.str h
 |_,_,.tup g l h=>.tup (f.bB hs g) l (nD f hs h)
 |_,_,.lst g l h n=>.lst (f.same _ _ (fun z=>by
   subst z
   obtain ⟨s,h1,_⟩:=hs
   rw [g] at h1
   cases h1
   exact n _ rfl) g) l (nD f hs h) n
 |_,_,.dct g=>.dct (f.same _ _ (fun z=>by
   subst z
   obtain ⟨s,h1,_⟩:=hs
   rw [g] at h1
   cases h1) g)
theorem nD {H H':Hp} {a:Addr} (f:Fx a H H') (hs:gW H a):∀{vs:List V} {ts:List Tg},cG K H vs ts→cG K H' vs ts
 |_,_,.nil=>.nil
 |_,_,.cons h t=>.cons (jQ f hs h) (nD f hs t)
end
theorem aUi {t:Tg} {n:Nat} (h:SzT t n):1≤n:=by
 obtain ⟨hf,m,_,rfl⟩:=oA h
 have:=(qL hf).own.1
 omega
def aJl (K:PySem.W.Frag) (m:Nat):Sp:=fun vs H Q _=>∃v t n,vs=[v]∧bM K H v t∧SzT t n∧n≤m∧Q (.int (n:Nat)) H
theorem oK (T:Txt w K mg):∀m:Nat,Ok P w K mg base (m+1) "_law_size" ["_law_question_here"] (aJl K m)
 |0=>by
  refine Ok.ofV T.wZ uT (fun vs H Q E h=>?_) (fun f cdv A outer s H vs Q E hr h=>?_)
  ·obtain ⟨v,t,n,rfl,_⟩:=h;rfl
  ·obtain ⟨v,t,n,rfl,_,hz,hn,_⟩:=h
   have:=aUi hz
   omega
 |m+1=>by
  have eZ:=oK T m
  refine Ok.ofV T.wZ uT (fun vs H Q E h=>?_) (fun f cdv A outer s H vs Q E hr h=>?_)
  ·obtain ⟨v,t,n,rfl,_⟩:=h;rfl
  obtain ⟨v,t,n,rfl,ht,hz,hn,q⟩:=h
  refine ⟨_,(aF (cP (bF dG (bV cM (vv 0) aG (fun _ _=>rfl)) aJ (bL _)) (aL (aR aG)) bK) (aF (cP (bF dG (bV cM (vv 0) aG (fun _ _=>rfl)) aJ (bL _)) (aL (aR (bG cX (aU (eZ.mono (by omega)) hr (by rfl) (aB (bV cM (vv 0) aG (fun _ _=>rfl)) aA)) (aY bD (by rfl) T.eY cZ (aB (bV cM (vv 0) aG (fun _ _=>rfl)) aA))))) bK) (aF (cP (bF dG (bV cM (vv 0) aG (fun _ _=>rfl)) aJ (bL _)) (aL (aR (bG cX (bG cX aG (aU (eZ.mono (by omega)) hr (by rfl) (aB (bV cM (vv 0) aG (fun _ _=>rfl)) aA))) (aU (eZ.mono (by omega)) hr (by rfl) (aB (bV cM (vv 0) aG (fun _ _=>rfl)) aA))))) bK) (aL (aR (bG cX aG (aU (eZ.mono (by omega)) hr (by rfl) (aB (bV cM (vv 0) aG (fun _ _=>rfl)) aA)))))))),?_⟩
  obtain ⟨hf,k,hk,rfl⟩:=oA hz
  have fm:=qL hf
  have fo:=fm.own.1
  clear hf hz
  cases fm with
  |table=>
   obtain ⟨p,vs,rfl,a,_,hs⟩:=fG ht
   obtain ⟨v1,v2,rfl,h1,h2⟩:=yO hs
   cases iG h1
   cases (show mQ [] k from hk)
   exact ⟨_,rfl,_,_,0,_,rfl,rfl,a,at0 _ _,rfl,_,rfl,cY q⟩
  |@whr tq ts _ _=>
   obtain ⟨p,vs,rfl,a,_,hs⟩:=fG ht
   obtain ⟨v1,v2,v3,rfl,h1,h2,h3⟩:=jJ hs
   cases iG h1
   obtain ⟨p3,us,rfl,a3,_,hus⟩:=fG h3
   have hk':SzT tq k:=eQ.mp hk
   have eo:jZ (.tup [.str "where",tq,.tup ts])=ts.length:=rfl
   rw [eo] at q hn fo
   refine ⟨_,rfl,_,_,0,_,rfl,rfl,a,at0 _ _,rfl,_,rfl,cI ?_⟩
   refine ⟨_,rfl,_,_,0,_,rfl,rfl,a,at0 _ _,rfl,_,rfl,cY ?_⟩
   refine ⟨_,rfl,_,_,1,_,rfl,rfl,a,at1 _ _ _,v2,tq,k,rfl,h2,hk',by omega,?_⟩
   refine ⟨_,rfl,_,_,2,_,rfl,rfl,a,at2 _ _ _ _,_,_,rfl,.inr a3,_,_,rfl,rfl,?_⟩
   show Q (.int ((k:Int)+(us.length:Int))) H
   rw [hus.len,show (k:Int)+(ts.length:Int)=((ts.length+k:Nat):Int) by omega]
   exact q
  |@join tq tr tx=>
   obtain ⟨p,vs,rfl,a,_,hs⟩:=fG ht
   obtain ⟨v1,v2,v3,v4,rfl,h1,h2,h3,h4⟩:=nG hs
   cases iG h1
   obtain ⟨x,y,hx,hy,rfl⟩:=pN (show mQ [tq,tr] k from hk)
   have hy':=eQ.mp hy
   have eo:jZ (.tup [.str "join",tq,tr,tx])=1:=rfl
   rw [eo] at q hn fo
   refine ⟨_,rfl,_,_,0,_,rfl,rfl,a,at0 _ _,rfl,_,rfl,cI ?_⟩
   refine ⟨_,rfl,_,_,0,_,rfl,rfl,a,at0 _ _,rfl,_,rfl,cI ?_⟩
   refine ⟨_,rfl,_,_,0,_,rfl,rfl,a,at0 _ _,rfl,_,rfl,cY ?_⟩
   refine ⟨_,rfl,_,_,1,_,rfl,rfl,a,at1 _ _ _,v2,tq,x,rfl,h2,hx,by omega,_,_,rfl,rfl,?_⟩
   refine ⟨_,rfl,_,_,2,_,rfl,rfl,a,at2 _ _ _ _,v3,tr,y,rfl,h3,hy',by omega,_,_,rfl,rfl,?_⟩
   show Q (.int ((1:Int)+(x:Int)+(y:Int))) H
   rw [show (1:Int)+(x:Int)+(y:Int)=((1+(x+y):Nat):Int) by omega]
   exact q
  |@two k2 tq tx n1 n2 n3=>
   obtain ⟨p,vs,rfl,a,_,hs⟩:=fG ht
   obtain ⟨v1,v2,v3,rfl,h1,h2,h3⟩:=jJ hs
   cases iG h1
   have ek:jD (.tup [.str k2,tq,tx])=[tq]:=by unfold jD;dsimp only;rw [if_neg n1,if_neg n3];rfl
   have eo:jZ (.tup [.str k2,tq,tx])=1:=by unfold jZ;dsimp only;rw [if_neg n2]
   rw [ek] at hk
   rw [eo] at q hn fo
   have hk':=eQ.mp hk
   refine ⟨_,rfl,_,_,0,_,rfl,rfl,a,at0 _ _,rfl,_,rfl,?_⟩
   rw [decide_eq_false (by intro z;exact n1 (V.str.inj z))]
   refine cI ⟨_,rfl,_,_,0,_,rfl,rfl,a,at0 _ _,rfl,_,rfl,?_⟩
   rw [decide_eq_false (by intro z;exact n2 (V.str.inj z))]
   refine cI ⟨_,rfl,_,_,0,_,rfl,rfl,a,at0 _ _,rfl,_,rfl,?_⟩
   rw [decide_eq_false (by intro z;exact n3 (V.str.inj z))]
   refine cI ⟨_,rfl,_,_,1,_,rfl,rfl,a,at1 _ _ _,v2,tq,k,rfl,h2,hk',by omega,_,_,rfl,rfl,?_⟩
   show Q (.int ((1:Int)+(k:Int))) H
   rw [show (1:Int)+(k:Int)=((1+k:Nat):Int) by omega]
   exact q
  |@three k2 tq tx ty n1 n2 n3=>
   obtain ⟨p,vs,rfl,a,_,hs⟩:=fG ht
   obtain ⟨v1,v2,v3,v4,rfl,h1,h2,h3,h4⟩:=nG hs
   cases iG h1
   have ek:jD (.tup [.str k2,tq,tx,ty])=[tq]:=by unfold jD;dsimp only;rw [if_neg n1,if_neg n3];rfl
   have eo:jZ (.tup [.str k2,tq,tx,ty])=1:=by unfold jZ;dsimp only;rw [if_neg n2]
   rw [ek] at hk
   rw [eo] at q hn fo
   have hk':=eQ.mp hk
   refine ⟨_,rfl,_,_,0,_,rfl,rfl,a,at0 _ _,rfl,_,rfl,?_⟩
   rw [decide_eq_false (by intro z;exact n1 (V.str.inj z))]
   refine cI ⟨_,rfl,_,_,0,_,rfl,rfl,a,at0 _ _,rfl,_,rfl,?_⟩
   rw [decide_eq_false (by intro z;exact n2 (V.str.inj z))]
   refine cI ⟨_,rfl,_,_,0,_,rfl,rfl,a,at0 _ _,rfl,_,rfl,?_⟩
   rw [decide_eq_false (by intro z;exact n3 (V.str.inj z))]
   refine cI ⟨_,rfl,_,_,1,_,rfl,rfl,a,at1 _ _ _,v2,tq,k,rfl,h2,hk',by omega,_,_,rfl,rfl,?_⟩
   show Q (.int ((1:Int)+(k:Int))) H
   rw [show (1:Int)+(k:Int)=((1+k:Nat):Int) by omega]
   exact q
theorem aGy {H:Hp} {e T C dx:Addr} (n:H e=none) (nT:H T=none):Same H (up2 H e T C dx):=fun b o h=>by
 unfold up2
 rw [bA (bH h n),bA (bH h nT)]
 exact h
def aKj (K:PySem.W.Frag):Sp:=fun vs H Q _=>∃(d:Addr) (v:V) (k:Int) (t:Tg),vs=[.ref d,v,.int k]∧bM K H v t∧¬ Right t∧∀H',Same H H'→Q (.bl true) H'
theorem yD (T:Txt w K mg) (GX_checked:OkX P w K mg base 8 "checked" ["thing"] (tE K mg)) (GX_head_of:OkX P w K mg base 10 "head_of" ["heads","question"] (aOh K mg)):Ok P w K mg base 29 "_law_refused" ["_law_heads_here","_law_thing","_law_way"] (aKj K):=by
 refine Ok.ofV T.aAh fJ (fun vs H Q E h=>?_) (fun f cdv A outer s H vs Q E hr h=>?_)
 ·obtain ⟨d,v,k,t,rfl,_⟩:=h;rfl
 obtain ⟨d,v,k,t,rfl,ht,hn,q⟩:=h
 have hu:=aB9 hr
 obtain ⟨S,ad,m_ShardError,h_ShardError,hex,hmro,hve⟩:=T.aXv
 have x_NoColumn:∃u,mg "NoColumn"=some u∧RelV (.ref (ad .col)) u:=⟨_,(hex .col).mg,rfl⟩
 have x_NoKind:∃u,mg "NoKind"=some u∧RelV (.ref (ad .kind)) u:=⟨_,(hex .kind).mg,rfl⟩
 have x_NoPlan:∃u,mg "NoPlan"=some u∧RelV (.ref (ad .plan)) u:=⟨_,(hex .plan).mg,rfl⟩
 have x_NoTable:∃u,mg "NoTable"=some u∧RelV (.ref (ad .tab)) u:=⟨_,(hex .tab).mg,rfl⟩
 have x_NoWords:∃u,mg "NoWords"=some u∧RelV (.ref (ad .words)) u:=⟨_,(hex .words).mg,rfl⟩
 have x_TooWide:∃u,mg "TooWide"=some u∧RelV (.ref (ad .wide)) u:=⟨_,(hex .wide).mg,rfl⟩
 have x_Twice:∃u,mg "Twice"=some u∧RelV (.ref (ad .twice)) u:=⟨_,(hex .twice).mg,rfl⟩
 have x_NoQuestion:∃u,mg "NoQuestion"=some u∧RelV (.ref (ad .ques)) u:=⟨_,(hex .ques).mg,rfl⟩
 have h_NoQuestion:=(hex .ques).cls
 have bt_ValueError:=aLc
 refine ⟨_,(aF (aQ (i:=3) fJ.nd rfl (by trivial) (bC aA)) (aF (aVg (i:=4) rfl rfl fJ.nd rfl rfl (by rfl) m_ShardError h_ShardError (fun pins σ₀ E ok=>(aL (cP (bF dG (vv 2) aG (bL _)) (aL (iB (aB1 ok (GX_checked.mono (by decide)) hr (by rfl) (aB (vv 1) aA)))) (aL (iB (aB1 ok (GX_head_of.mono (by decide)) hr (by rfl) (aB (vv 0) (aB (vv 1) aA)))))))) (fun e=>(aF (aQ (i:=5) fJ.nd rfl (by trivial) (aY (aQy (K:=K)) (by rfl) T.cF bZ (aB (vv 4) (aB (aD (aB (dO (by rfl) x_NoColumn) (aB (dO (by rfl) x_NoKind) (aB (dO (by rfl) x_NoPlan) (aB (dO (by rfl) x_NoTable) (aB (dO (by rfl) x_NoWords) (aB (dO (by rfl) x_TooWide) (aB (dO (by rfl) x_Twice) aA)))))))) aA)))) (aL (aQ (i:=3) fJ.nd rfl (by trivial) (bC (aB (aY (aN3 (K:=K) h_NoQuestion) (by rfl) T.cF bZ (aB (vv 4) (aB (dO (by rfl) x_NoQuestion) aA))) (aB (aY (aR5 (K:=K)) (by rfl) T.cF bZ (aB (vv 4) (aB (iC (v:=.ty "ValueError") (by rfl) T.uM bt_ValueError rfl) aA))) (aB (vv 5) (aB (aVo (K:=K) (vv 4)) aA)))))))))) (aL (aR (gJ (aV4 (Nat.lt_of_succ_lt hu)) (vv 3) (bC (aB iZ (aB iZ (aB iZ (aB gA aA))))) (bL _)))))),?_⟩
 refine ⟨(by show 0≤sizeLine;decide),fun l H1 fl s1 g1=>?_⟩
 refine ⟨_,rfl,rfl,_,rfl,?_⟩
 have ht1:=ht.same s1
 have key:∀b:Bool,b=decide (V.int k=V.int 0)→b=true∨b=false:=fun b _=>by cases b <;> simp
 rcases key _ rfl with ek|ek
 ·rw [ek]
  refine cY ⟨rfl,_,rfl,v,t,rfl,ht1,fun z=>absurd z hn,fun _ C e H2 mC s2=>?_⟩
  obtain ⟨⟨fI,fd,xc,F,B⟩,mc,kp,hc,over⟩:=hex .ques
  rw [mc] at mC
  cases mC
  refine ⟨ad .ques,e,fI,rfl,rfl,xc,over,fun Tb dx n nT hTe hd=>?_⟩
  have su:=aGy (C:=ad .ques) (dx:=dx) n nT
  have he:up2 H2 e Tb (ad .ques) dx e=some (yC e Tb (ad .ques) dx):=aO
  have hdx:up2 H2 e Tb (ad .ques) dx dx=some xdA:=su _ _ hd
  have sa:Same H (up2 H2 e Tb (ad .ques) dx):=(s1.trans s2).trans su
  refine ⟨_,rfl,(by show 7≤sizeLine;decide),fun p3 H3 f3 s3 g3=>?_⟩
  have he3:=s3 _ _ he
  have hdx3:=s3 _ _ hdx
  refine ⟨e,Tb,ad .ques,dx,fI,p3,[ad .col,ad .kind,ad .plan,ad .tab,ad .words,ad .wide,ad .twice],rfl,he3,xc,hdx3,SqT.of g3,?_,?_⟩
  ·intro D hD
   simp only [List.mem_cons,List.not_mem_nil,or_false] at hD
   rcases hD with rfl|rfl|rfl|rfl|rfl|rfl|rfl <;> exact ⟨(hex _).cls,hmro _ _⟩
  refine ⟨_,rfl,e,Tb,ad .ques,dx,fI,_,rfl,he3,xc,hdx3,hmro .ques .ques,trivial,?_⟩
  refine ⟨_,rfl,e,Tb,ad .ques,dx,fI,_,rfl,he3,xc,hdx3,hve .ques,trivial,?_⟩
  refine ⟨_,rfl,_,rfl,e,Tb,ad .ques,dx,fI,rfl,he3,xc,hdx3,(by show 4≤sizeLine;decide),fun l4 H4 f4 s4 g4=>?_⟩
  refine ⟨.ref l4,rfl,(by show 4≤sizeLine;decide),fun l5 H5 f5 s5 g5=>?_⟩
  exact ⟨l4,l5,_,_,rfl,rfl,SqL.of (s5 _ _ g4),SqL.of g5,Fl2.refl (by intro x hx;simp only [List.mem_cons,List.not_mem_nil,or_false] at hx;rcases hx with rfl|rfl|rfl|rfl <;> rfl),q H5 (sa.trans (s3.trans (s4.trans s5)))⟩
 ·rw [ek]
  refine cI ⟨rfl,_,rfl,_,rfl,d,v,t,rfl,ht1,hn,fun C e H2 mC s2=>?_⟩
  obtain ⟨⟨fI,fd,xc,F,B⟩,mc,kp,hc,over⟩:=hex .ques
  rw [mc] at mC
  cases mC
  refine ⟨ad .ques,e,fI,rfl,rfl,xc,over,fun Tb dx n nT hTe hd=>?_⟩
  have su:=aGy (C:=ad .ques) (dx:=dx) n nT
  have he:up2 H2 e Tb (ad .ques) dx e=some (yC e Tb (ad .ques) dx):=aO
  have hdx:up2 H2 e Tb (ad .ques) dx dx=some xdA:=su _ _ hd
  have sa:Same H (up2 H2 e Tb (ad .ques) dx):=(s1.trans s2).trans su
  refine ⟨_,rfl,(by show 7≤sizeLine;decide),fun p3 H3 f3 s3 g3=>?_⟩
  have he3:=s3 _ _ he
  have hdx3:=s3 _ _ hdx
  refine ⟨e,Tb,ad .ques,dx,fI,p3,[ad .col,ad .kind,ad .plan,ad .tab,ad .words,ad .wide,ad .twice],rfl,he3,xc,hdx3,SqT.of g3,?_,?_⟩
  ·intro D hD
   simp only [List.mem_cons,List.not_mem_nil,or_false] at hD
   rcases hD with rfl|rfl|rfl|rfl|rfl|rfl|rfl <;> exact ⟨(hex _).cls,hmro _ _⟩
  refine ⟨_,rfl,e,Tb,ad .ques,dx,fI,_,rfl,he3,xc,hdx3,hmro .ques .ques,trivial,?_⟩
  refine ⟨_,rfl,e,Tb,ad .ques,dx,fI,_,rfl,he3,xc,hdx3,hve .ques,trivial,?_⟩
  refine ⟨_,rfl,_,rfl,e,Tb,ad .ques,dx,fI,rfl,he3,xc,hdx3,(by show 4≤sizeLine;decide),fun l4 H4 f4 s4 g4=>?_⟩
  refine ⟨.ref l4,rfl,(by show 4≤sizeLine;decide),fun l5 H5 f5 s5 g5=>?_⟩
  exact ⟨l4,l5,_,_,rfl,rfl,SqL.of (s5 _ _ g4),SqL.of g5,Fl2.refl (by intro x hx;simp only [List.mem_cons,List.not_mem_nil,or_false] at hx;rcases hx with rfl|rfl|rfl|rfl <;> rfl),q H5 (sa.trans (s3.trans (s4.trans s5)))⟩
def aB4 (K:PySem.W.Frag):Sp:=fun vs H Q _=>∃(a N:Addr) (ns:List Str),vs=[.ref a,.ref N]∧gW H a∧H N=some (.lst (ns.map V.str))∧N≠a∧jR ns∧∀d H' ts,Fx a H H'→aPk K H' d ts→aTy ts→Q (.ref d) H'
theorem aBn (T:Txt w K mg) (aN:Ok P w K mg base 1 "_law_next" ["_law_state","_law_many"] eE) (aGf:Ok P w K mg base 2 "_law_head" ["_law_state","_law_names_here"] (aHc K)):Ok P w K mg base 3 "_law_heads" ["_law_state","_law_names_here"] (aB4 K):=by
 refine Ok.ofV T.aDv mR (fun vs H Q E h=>?_) (fun f cdv A outer s H vs Q E hr h=>?_)
 ·obtain ⟨a,N,ns,rfl,_⟩:=h;rfl
 obtain ⟨a,N,ns,rfl,hst3,g3,nNa,hn,q⟩:=h
 have hu:=aB9 hr
 refine ⟨_,(aF (aQ (i:=2) mR.nd rfl (by trivial) aHf) (aF (jL PassesOwn.never rfl (dW (by rfl) T.gY (aB (bG cX aG (aU (aN.mono (by decide)) hr (by rfl) (aB (vv 0) (aB aG aA)))) aA)) (aV (i:=3) mR.nd rfl (by trivial)) (aL (aR0 hu (vv 2) (bV dU (vv 1) (vv 3) (fun _ _=>rfl)) (aU (aGf.mono (by decide)) hr (by rfl) (aB (vv 0) (aB (vv 1) aA)))))) (aL (aR (vv 2))))),?_⟩
 refine fun d H4 fd4 s4 g4=>?_
 have nda:d≠a:=hst3.ne fd4
 refine ⟨_,rfl,a,2,rfl,hst3.same s4,by decide,fun z H5 f5 z0 z1=>?_⟩
 have fx5:Fx a H H5:=(Fx.of hst3 s4).trans f5
 refine ⟨_,_,rfl,rfl,_,rfl,(by show -(2 ^ 62)≤2+z;omega),(by show 2+z<2 ^ 62;omega),?_⟩
 refine gC (n:=(2+z).toNat) (fun i σ H'=>Fx a H H'∧∃(kvs:List (Key × V)) (ts:List (Str × Hdr)) (l4:Option V),H' d=some (.dK kvs)∧cL (fun (kv:Key × V) (t:Str × Hdr)=>kv.1=Sum.inr t.1∧jV K H' kv.2 t.2) kvs ts∧ts.map (·.1)=ns.take i∧(∀t∈ts,rE t.2)∧σ=[some (.ref a),some (.ref N),some (.ref d),l4]) ⟨fx5,[],[],_,f5.same _ _ nda g4,.nil,rfl,(fun t h=>by cases h),rfl⟩ ?_ ?_
 ·rintro i σ H' hi ⟨fx,kvs,ts,l4,hdk,hkv,hnm,hok,rfl⟩
  have l17:=hn.1
  have hi3:i<3:=by omega
  have hin:i<ns.length:=by omega
  have lkv:=hkv.len
  have lts:ts.length=i:=by
   have:=congrArg List.length hnm
   rw [List.length_map,List.length_take] at this
   omega
  refine ⟨_,rfl,_,rfl,a,N,ns,rfl,fx.st,fx.same _ _ nNa g3,nNa,hn,fun v H6 hd f6 hh hok6 _=>?_⟩
  have hdk6:=f6.same _ _ nda hdk
  refine ⟨_,rfl,_,rfl,_,rfl,N,_,_,_,rfl,rfl,SqL.of ((fx.trans f6).same _ _ nNa g3),(by rw [Int.zero_add];exact dH (by rw [List.getElem?_map,List.getElem?_eq_getElem hin];rfl)),d,_,rfl,aNz.k (k:=(Sum.inr ns[i]:Key)) hdk6 (fL (by omega)),?_⟩
  have hnew:nC kvs (Sum.inr ns[i]:Key)=none:=by
   cases e:nC kvs (Sum.inr ns[i]:Key) with
   |none=>rfl
   |some v=>
    exfalso
    have hm:=aKe e
    rw [vM hkv,hnm] at hm
    obtain ⟨n',hn',e'⟩:=List.mem_map.mp hm
    have e':n'=ns[i]:=Sum.inr.inj e'
    obtain ⟨j,hj,ej⟩:=List.getElem_of_mem hn'
    rw [List.length_take] at hj
    rw [List.getElem_take] at ej
    have:=aH3 hn.2.2 (List.getElem?_eq_getElem hin) (show ns[j]?=some ns[i] by rw [List.getElem?_eq_getElem (by omega),ej,e'])
    omega
  rw [aGe v hnew]
  have tku:TK K H6 (upd H6 d (.dK (kvs++[((Sum.inr ns[i]:Key),v)]))):=fun _ _ e=>e.aY5 hdk6
  refine ⟨(fx.trans f6).upd fd4 nda,_,ts++[(ns[i],hd)],_,aO,(hkv.imp fun _ _ h=>⟨h.1,(h.2.tk (f6.tk fx.st)).tk tku⟩).app (.cons ⟨rfl,hh.tk tku⟩ .nil),?_,fun t ht=>?_,rfl⟩
  ·rw [List.map_append,hnm,List.take_add_one,List.getElem?_eq_getElem hin]
   rfl
  ·rcases List.mem_append.mp ht with ht|ht
   ·exact hok t ht
   ·rw [List.mem_singleton.mp ht]
    exact hok6
 rintro σ H6 ⟨fx6,kvs,ts,l4,hdk,hkv,hnm,hok,rfl⟩
 have l17:=hn.1
 have lts:ts.length=(2+z).toNat:=by
  have:=congrArg List.length hnm
  rw [List.length_map,List.length_take] at this
  omega
 have hts:aTy ts:=⟨by rw [hnm];exact hn.2.2.sublist (List.take_sublist _ _),fun t ht=>⟨hn.2.1 _ (List.mem_of_mem_take (i:=(2+z).toNat) (by rw [←hnm];exact List.mem_map.mpr ⟨t,ht,rfl⟩)),hok t ht⟩,by omega,by omega⟩
 exact ⟨_,rfl,q d H6 ts fx6 ⟨kvs,hdk,hkv⟩ hts⟩
def aFw (K:PySem.W.Frag):Sp:=fun vs H Q _=>∃(a:Addr) (vq:V) (c:Str) (tq:Tg) (n:Nat),vs=[.ref a,vq,.str c]∧gW H a∧bM K H vq tq∧SzT tq n∧Nm c∧∀v H' t m,Fx a H H'→bM K H' v t→SzT t m→n<m→m≤n+3→Q v H'
theorem aKt {f:Tg→Bool} {x:Tg} (h:f x=true):∀k,(List.replicate k x).all f=true
 |0=>rfl
 |k+1=>by rw [List.replicate_succ,List.all_cons,h,aKt h k];rfl
theorem aBx {c:Str} (hc:Nm c) {lo:Nat} (h:lo≤1):bN aP lo 8 (.tup [.str c])=true:=by
 show (decide (lo≤1) && (decide (1≤8) && (aP (.str c) && true)))=true
 rw [decide_eq_true h,show aP (.str c)=true from hc]
 rfl
theorem aB8 {c:Str} (hc:Nm c):bN (bN aP 2 2) 1 3 (.tup [.tup [.str c,.str c]])=true:=by
 show (((aP (.str c) && (aP (.str c) && true))) && true)=true
 rw [show aP (.str c)=true from hc]
 rfl
theorem aG8 {α:Type} {x:α}:∀{k:Nat},(List.replicate k [x]).flatten=List.replicate k x
 |0=>rfl
 |k+1=>by rw [List.replicate_succ,List.replicate_succ,List.flatten_cons,aG8];rfl
def stT (c:Str):Tg:=.tup [.str c,.str "<",.tup [.str "value",.str "a"]]
def tsT (c:Str):Tg:=.tup [stT c]
def jnT (tq:Tg) (c:Str):List Tg:=[.tup [.str "join",tq,.tup [.str "table",.str c],.tup [.tup [.str c,.str c]]],.tup [.str "join",.tup [.str "table",.str c],tq,.tup [.tup [.str c,.str c]]]]
section
variable {a:Addr} {vq:V} {tq:Tg} {c:Str} {z:Int} {n:Nat} {H:Hp} {Q:VK}
theorem aO4 (hst:gW H a) (hq:bM K H vq tq) (hz:SzT tq n) (hc:Nm c) (q:∀v H' t m,Fx a H H'→bM K H' v t→SzT t m→n<m→m≤n+3→Q v H') :
  kI (bQ (tC (.str "where")) (bQ (fQ 1) (bQ (tOp (aN5 K) (kI (bQ (kI (bQ (fQ 2) (bQ (tC (.str "<")) (bQ (kI (bQ (tC (.str "value")) (bQ (tC (.str "a")) jB))) jB)))) jB)) (tOp (rI0 fun i j=>V.int (i+j)) (tC (.int 1)) (uJ eE [] E0 (bQ (fQ 0) (bQ (tC (.int 3)) jB))))) jB))) [some (.ref a),some vq,some (.str c),some (.int z)] H Q:=by
 have hc1:c.length≤1000:=by have:=iW hc;omega
 refine ⟨_,rfl,?_⟩
 dsimp only
 unfold bQ
 dsimp only
 unfold tOp
 refine Bd.at0 (R:=TR K (tsT c)) (aM (aC (aM (aC (aX (aZ rfl) hc1) (aC (aX bI) (aC (aM (aC (aX bI) (aC (aX bI) aH))) aH)))) aH)) fun v2 H2 s2 r2=>?_
 have st2:=hst.same s2
 refine ⟨_,rfl,a,3,rfl,st2,by decide,fun k H3 f3 k0 k1=>⟨_,_,rfl,rfl,?_⟩⟩
 obtain ⟨m,rfl⟩:∃m:Nat,k=(m:Int):=⟨k.toNat,by omega⟩
 have r3:=jQ f3 st2 r2
 obtain ⟨p,vs,rfl,hp,_,hvs⟩:=fG (ts:=[stT c]) r3
 have hl:vs.length=1:=hvs.len
 have hq3:=jQ f3 st2 (hq.same s2)
 refine ⟨p,1+m,vs,rfl,(by show V.int (1+(m:Int))=V.int ((1+m:Nat):Int);rw [show (1:Int)+(m:Int)=((1+m:Nat):Int) by omega]),hp,(by intro e;rw [e] at hl;cases hl),by omega,by omega,by omega,fun p4 H4 s4 g4=>?_⟩
 refine ⟨(by show 3≤sizeLine;decide),fun p5 H5 _ s5 g5=>?_⟩
 have hr:=aDn (hvs.same s4) (1+m)
 rw [aG8] at hr
 have ht4:bM K H4 (.ref p4) (.tup (List.replicate (1+m) (stT c))):=.tup g4 (by rw [hr.len,List.length_replicate];omega) hr
 have tt:gM (stT c)=true:=by
  show (aP (.str c) && (eO (.str "<") signs && jX (.tup [.str "value",.str "a"])))=true
  rw [show aP (.str c)=true from hc,show eO (.str "<") signs=true by decide +kernel,show jX (.tup [.str "value",.str "a"])=true by decide +kernel]
  rfl
 have hsz:=aE2 (ts:=List.replicate (1+m) (stT c)) hz (by
  show (decide (1≤(List.replicate (1+m) _).length) && (decide ((List.replicate (1+m) _).length≤3) && (List.replicate (1+m) _).all gM))=true
  rw [aKt tt,List.length_replicate,decide_eq_true (by omega),decide_eq_true (by omega)]
  rfl)
 rw [List.length_replicate] at hsz
 exact q _ H5 _ _ ((((Fx.of hst s2).trans f3).sm s4).sm s5) (.tup (SqT.of g5) (by show 3≤1000;decide) (.cons (.str (by decide +kernel)) (.cons ((hq3.same s4).same s5) (.cons (ht4.same s5) .nil)))) hsz (by omega) (by omega)
theorem aQz (hst:gW H a) (hq:bM K H vq tq) (hz:SzT tq n) (hc:Nm c) (q:∀v H' t m,Fx a H H'→bM K H' v t→SzT t m→n<m→m≤n+3→Q v H') :
  tOp (aRq K) (aHi (bQ (kI (bQ (tC (.str "join")) (bQ (fQ 1) (bQ (kI (bQ (tC (.str "table")) (bQ (fQ 2) jB))) (bQ (kI (bQ (kI (bQ (fQ 2) (bQ (fQ 2) jB))) jB)) jB))))) (bQ (kI (bQ (tC (.str "join")) (bQ (kI (bQ (tC (.str "table")) (bQ (fQ 2) jB))) (bQ (fQ 1) (bQ (kI (bQ (kI (bQ (fQ 2) (bQ (fQ 2) jB))) jB)) jB))))) jB))) (uJ eE [] E0 (bQ (fQ 0) (bQ (tC (.int 2)) jB))) [some (.ref a),some vq,some (.str c),some (.int z)] H Q:=by
 have hc1:c.length≤1000:=by have:=iW hc;omega
 unfold tOp
 refine Bd.at0 (R:=LT K (jnT tq c)) (kE (aC (aM (aC (aX bI) (aC (kY rfl hq) (aC (aM (aC (aX bI) (aC (aX (aZ rfl) hc1) aH))) (aC (aM (aC (aM (aC (aX (aZ rfl) hc1) (aC (aX (aZ rfl) hc1) aH))) aH)) aH)))))
   (aC (aM (aC (aX bI) (aC (aM (aC (aX bI) (aC (aX (aZ rfl) hc1) aH))) (aC (kY rfl hq) (aC (aM (aC (aM (aC (aX (aZ rfl) hc1) (aC (aX (aZ rfl) hc1) aH))) aH)) aH))))) aH))) fun v2 H2 s2 r2=>?_
 obtain ⟨p,vs,Hb,rfl,fb,sb,g2,r2⟩:=r2
 have r2:=oR sb r2
 have st2:=hst.same s2
 have npa:p≠a:=fun e=>by
  subst e
  obtain ⟨s0,h1,_⟩:=st2
  rw [g2] at h1
  cases h1
  have:=r2.len
  cases this
 refine ⟨_,rfl,a,2,rfl,st2,by decide,fun k H3 f3 k0 k1=>?_⟩
 obtain ⟨m,rfl⟩:∃m:Nat,k=(m:Int):=⟨k.toNat,by omega⟩
 have g3:=f3.same _ _ npa g2
 have hl:vs.length=2:=r2.len
 have hm:m<vs.length:=by omega
 refine ⟨p,vs,_,vs[m],rfl,rfl,SqL.of g3,dH (List.getElem?_eq_getElem hm),?_⟩
 have r3:=nD f3 st2 r2
 obtain ⟨t,et,ht⟩:=r3.at (List.getElem?_eq_getElem hm)
 have hm2:m=0∨m=1:=by omega
 rcases hm2 with rfl|rfl
 ·cases et
  exact q _ H3 _ _ ((Fx.of hst s2).trans f3) ht (aC9 hz (uV hc) (aB8 hc)) (by omega) (by omega)
 ·cases et
  exact q _ H3 _ _ ((Fx.of hst s2).trans f3) ht (aC9 (uV hc) hz (aB8 hc)) (by omega) (by omega)
end
theorem aEr (T:Txt w K mg) (aN:Ok P w K mg base 1 "_law_next" ["_law_state","_law_many"] eE):Ok P w K mg base 2 "_law_step" ["_law_state","_law_q","_law_c"] (aFw K):=by
 refine Ok.ofV T.aG7 tM (fun vs H Q E h=>?_) (fun f cdv A outer s H vs Q E hr h=>?_)
 ·obtain ⟨a,vq,c,tq,n,rfl,_⟩:=h;rfl
 obtain ⟨a,vq,c,tq,n,rfl,hst,hq,hz,hc,q⟩:=h
 have hc1:c.length≤1000:=by have:=iW hc;omega
 refine ⟨_,(aF (aQ (i:=3) tM.nd rfl (by trivial) (aU (aN.mono (by decide)) hr (by rfl) (aB (vv 0) (aB aG aA)))) (aF (cP (bF dG (vv 3) aG (bL _)) (aL (aR (aD (aB aJ (aB (vv 1) (aB (bG oO (aD (aB (aD (aB (vv 2) (aB aJ (aB (aD (aB aJ (aB aJ aA))) aA)))) aA)) (bG cX aG (aU (aN.mono (by decide)) hr (by rfl) (aB (vv 0) (aB aG aA))))) aA)))))) bK) (aF (cP (bF dG (vv 3) aG (bL _)) (aL (aR (aD (aB aJ (aB (vv 1) (aB (aD (aB (vv 2) aA)) aA)))))) bK) (aF (cP (bF dG (vv 3) aG (bL _)) (aL (aR (aD (aB aJ (aB (vv 1) (aB (aD (aB (vv 2) aA)) aA)))))) bK) (aF (cP (bF dG (vv 3) aG (bL _)) (aL (aR (bV dU (bC (aB (aD (aB aJ (aB (vv 1) (aB (aD (aB aJ (aB (vv 2) aA))) (aB (aD (aB (aD (aB (vv 2) (aB (vv 2) aA))) aA)) aA))))) (aB (aD (aB aJ (aB (aD (aB aJ (aB (vv 2) aA))) (aB (vv 1) (aB (aD (aB (aD (aB (vv 2) (aB (vv 2) aA))) aA)) aA))))) aA))) (aU (aN.mono (by decide)) hr (by rfl) (aB (vv 0) (aB aG aA))) (fun _ _=>rfl)))) bK) (aF (cP (bF dG (vv 3) aG (bL _)) (aL (aR (aD (aB aJ (aB (vv 1) (aB (aD aA) (aB (aD aA) aA))))))) bK) (aL (aR (aD (aB aJ (aB (vv 1) (aB (aD aA) (aB aG aA))))))))))))),?_⟩
 refine ⟨_,rfl,a,6,rfl,hst,by decide,fun z H1 f1 z0 z1=>?_⟩
 have hq1:=jQ f1 hst hq
 refine ⟨_,rfl,rfl,_,rfl,mK (fun _=>?_) (fun _=>?_)⟩
 ·exact aO4 f1.st hq1 hz hc fun v H' t m f2=>q v H' t m (f1.trans f2)
 refine ⟨_,rfl,rfl,_,rfl,mK (fun _=>?_) (fun _=>?_)⟩
 ·exact Bd.at0 (σ:=[some (.ref a),some vq,some (.str c),some (.int z)]) (H0:=H1) (R:=TR K (.tup [.str "keep",tq,.tup [.str c]])) (aM (aC (aX bI) (aC (kY rfl hq1) (aC (aM (aC (aX (aZ rfl) hc1) aH)) aH)))) fun v2 H2 s2 r2=>q v2 H2 _ _ (f1.sm s2) r2 (aJ6 hz (aBx hc (by decide))) (by omega) (by omega)
 refine ⟨_,rfl,rfl,_,rfl,mK (fun _=>?_) (fun _=>?_)⟩
 ·exact Bd.at0 (σ:=[some (.ref a),some vq,some (.str c),some (.int z)]) (H0:=H1) (R:=TR K (.tup [.str "named",tq,.tup [.str c]])) (aM (aC (aX bI) (aC (kY rfl hq1) (aC (aM (aC (aX (aZ rfl) hc1) aH)) aH)))) fun v2 H2 s2 r2=>q v2 H2 _ _ (f1.sm s2) r2 (aFq hz (aBx hc (by decide))) (by omega) (by omega)
 refine ⟨_,rfl,rfl,_,rfl,mK (fun _=>?_) (fun _=>?_)⟩
 ·exact aQz f1.st hq1 hz hc fun v H' t m f2=>q v H' t m (f1.trans f2)
 refine ⟨_,rfl,rfl,_,rfl,mK (fun _=>?_) (fun _=>?_)⟩
 ·exact Bd.at0 (σ:=[some (.ref a),some vq,some (.str c),some (.int z)]) (H0:=H1) (R:=TR K (.tup [.str "group",tq,.tup [],.tup []])) (aM (aC (aX bI) (aC (kY rfl hq1) (aC (aM aH) (aC (aM aH) aH))))) fun v2 H2 s2 r2=>q v2 H2 _ _ (f1.sm s2) r2 (aGt hz rfl rfl) (by omega) (by omega)
 ·exact Bd.at0 (σ:=[some (.ref a),some vq,some (.str c),some (.int z)]) (H0:=H1) (R:=TR K (.tup [.str "first",tq,.tup [],.int 0])) (aM (aC (aX bI) (aC (kY rfl hq1) (aC (aM aH) (aC (sG bI) aH))))) fun v2 H2 s2 r2=>q v2 H2 _ _ (f1.sm s2) r2 (aGs hz rfl rfl) (by omega) (by omega)
def aLd (K:PySem.W.Frag):Sp:=fun vs H Q _=>∃(a:Addr) (c:Str),vs=[.ref a,.str c]∧gW H a∧Nm c∧∀v H' t m,Fx a H H'→bM K H' v t→SzT t m→m≤30→Q v H'
theorem aFp (T:Txt w K mg) (aN:Ok P w K mg base 1 "_law_next" ["_law_state","_law_many"] eE) (eZ:Ok P w K mg base 31 "_law_size" ["_law_question_here"] (aJl K 30)) (aFg:Ok P w K mg base 2 "_law_step" ["_law_state","_law_q","_law_c"] (aFw K)):Ok P w K mg base 32 "_law_row" ["_law_state","_law_c"] (aLd K):=by
 refine Ok.ofV T.aIb mG (fun vs H Q E h=>?_) (fun f cdv A outer s H vs Q E hr h=>?_)
 ·obtain ⟨a,c,rfl,_⟩:=h;rfl
 obtain ⟨a,c,rfl,hst,hc,q⟩:=h
 have hc1:c.length≤1000:=by have:=iW hc;omega
 refine ⟨_,(aF (aQ (i:=2) mG.nd rfl (by trivial) (aD (aB aJ (aB (vv 1) aA)))) (aF (aQ (i:=3) mG.nd rfl (by trivial) (bG cX aG (aU (aN.mono (by decide)) hr (by rfl) (aB (vv 0) (aB aG aA))))) (aF (aF2 PassesOwn.never (bF aOf (aU (eZ.mono (by decide)) hr (by rfl) (aB (vv 2) aA)) (vv 3) (bL _)) (aL (aQ (i:=2) mG.nd rfl (by trivial) (aU (aFg.mono (by decide)) hr (by rfl) (aB (vv 0) (aB (vv 2) (aB (vv 1) aA))))))) (aL (aR (vv 2)))))),?_⟩
 refine eN (i:=2) (σ:=[some (.ref a),some (.str c),none,none]) (H:=H) (R:=TR K (.tup [.str "table",.str c])) (aM (aC (aX bI) (aC (aX (aZ rfl) hc1) aH))) fun v1 H1 s1 r1=>?_
 refine ⟨_,rfl,a,10,rfl,hst.same s1,by decide,fun k H2 f2 k0 k1=>⟨_,_,rfl,rfl,?_⟩⟩
 have r2:=jQ f2 (hst.same s1) r1
 refine ⟨fun m σ H'=>∃vq tq n,σ=[some (.ref a),some (.str c),some vq,some (.int (15+k))]∧Fx a H H'∧bM K H' vq tq∧SzT tq n∧n≤27∧m=30 - n,⟨_,v1,_,1,rfl,(Fx.of hst s1).trans f2,r2,uV hc,by decide,rfl⟩,?_⟩
 rintro m σ H' ⟨vq,tq,n,rfl,fx,ht,hz,hn,rfl⟩
 refine ⟨_,rfl,vq,tq,n,rfl,ht,hz,by omega,_,rfl,_,_,rfl,rfl,_,rfl,?_⟩
 by_cases cnd:(n:Int)<15+k
 ·rw [decide_eq_true cnd]
  refine cY ?_
  refine ⟨fun σ' H''=>∃m',m'<30 - n∧∃vq tq n,σ'=[some (.ref a),some (.str c),some vq,some (.int (15+k))]∧Fx a H H''∧bM K H'' vq tq∧SzT tq n∧n≤27∧m'=30 - n,fun σ' H'' h=>h,?_⟩
  exact ⟨_,rfl,_,rfl,_,rfl,a,vq,c,tq,n,rfl,fx.st,ht,hz,hc,fun v3 H3 t3 m3 f3 h3 z3 l1 l2=>⟨30 - m3,by omega,v3,t3,m3,rfl,fx.trans f3,h3,z3,by omega,rfl⟩⟩
 ·rw [decide_eq_false cnd]
  exact cI ⟨_,rfl,q vq H' tq n fx ht hz (by omega)⟩
end
end My
namespace L2
open PySem PySem.Spec PyProof.Rows
def aWe (K:PySem.W.Frag) (r:Bool):R2:=fun x y H Q=>∃a xs,x=.ref a∧y=.ref a∧SqT K H a xs∧Q (.bl r) H
theorem aPt {X:Cx} (hu:X.A.units+64<cLine):OpR X (compareOp .Eq) (aWe X.K true):=by
 intro pins s σ H x y v u Q I rx ry h
 obtain ⟨a,xs,rfl,rfl,ha,q⟩:=h
 cases rx
 cases ry
 obtain ⟨its,r1,pl,hz⟩:=I.tuple ha
 refine SeqAt.RcAt.tuples (e:=fun _=>true) (show s.heap.IsTuple a its.toArray from pl) (show s.heap.IsTuple a its.toArray from pl) (by omega) (fun j h1 h2=>SeqAt.EqAt.same _) _ _ _ _ ?_
 rw [aAi,beq_self_eq_true]
 exact ⟨.bl _,H,I,rfl,q⟩
theorem aTg {X:Cx} (hu:X.A.units+64<cLine):OpR X (compareOp .NotEq) (aWe X.K false):=by
 intro pins s σ H x y v u Q I rx ry h
 obtain ⟨a,xs,rfl,rfl,ha,q⟩:=h
 cases rx
 cases ry
 obtain ⟨its,r1,pl,hz⟩:=I.tuple ha
 refine SeqAt.RcNeAt.tuples (e:=fun _=>true) (show s.heap.IsTuple a its.toArray from pl) (show s.heap.IsTuple a its.toArray from pl) (by omega) (fun j h1 h2=>SeqAt.EqAt.same _) _ _ _ _ ?_
 rw [aAi,beq_self_eq_true]
 exact ⟨.bl _,H,I,rfl,q⟩
end L2
namespace My
open PySem PySem.Spec PyProof.Rows L2
section
variable {P:Program} {w:World} {K:PySem.W.Frag} {mg:Str→Option Value} {base:Heap}
theorem aU6 {c:Str} {q:Tg} {n k:Nat} (hq:∀m,SzT q m→m=n) (h:SzT (.tup [.str "keep",q,.tup [.str c]]) k):k=n+1:=by
 obtain ⟨_,m,hm,rfl⟩:=oA h
 have hm:mQ [q] m:=hm
 rw [hq m (eQ.mp hm)]
 show 1+n=n+1
 omega
theorem aSk {c:Str} {k:Nat} (h:SzT (.tup [.str "table",.str c]) k):k=1:=by
 obtain ⟨_,m,hm,rfl⟩:=oA h
 cases (show mQ [] m from hm)
 rfl
mutual
theorem aPs:∀{t:Tg} {n m:Nat},SzT t n→SzT t m→n=m
 |_,_,_,.mk _ a,.mk _ b=>by rw [aK9 a b]
theorem aK9:∀{ts:List Tg} {n m:Nat},mQ ts n→mQ ts m→n=m
 |_,_,_,.nil,.nil=>rfl
 |_,_,_,.cons a b,.cons c d=>by rw [aPs a c,aK9 b d]
end
theorem vY {t:Tg} (h:Right t):isTup t=true:=by
 obtain ⟨n,h,_⟩:=h
 have fm:=qL (oA h).1
 cases fm <;> rfl
theorem aQ1 {σ:L2.St} {H:Hp} {t:TE} {ts:TA} {R:RV} {Q:List V→Hp→Prop} (h:Bd σ H t R) (k:∀v H',Same H H'→R H' v→ts σ H' fun vs H2=>Q (v::vs) H2):bQ t ts σ H Q:=h H _ (Same.refl H) fun v H' s r=>k v H' s r
theorem aTj {σ:L2.St} {H:Hp} {t:TE} {R:RV} {D:Ends} {i:Nat} (h:Bd σ H t R) (k:∀v H',Same H H'→R H' v→D.nx (σ.set i (some v)) H'):oY t (cH i) D σ H:=h H _ (Same.refl H) fun v H' s r=>k v H' s r
def fjT (tq t:Tg) (c:Str):Tg:=.tup [.str "first",.tup [.str "join",tq,t,.tup [.tup [.str c,.str c]]],.tup [],.int 1]
theorem aUx {tq t:Tg} {c:Str} (h:Bad t):Bad (fjT tq t c):=yE (k:=.tup [.str "join",tq,t,.tup [.tup [.str c,.str c]]]) (by show _∈[_];simp) (yE (k:=t) (by show t∈[tq,t];simp) h)
def kpT (t:Tg) (c:Str):Tg:=.tup [.str "keep",t,.tup [.str c]]
def tbT (c:Str):Tg:=.tup [.str "table",.str c]
def aLi (K:PySem.W.Frag):Sp:=fun vs H Q _=>∃v t,vs=[v]∧bM K H v t∧Right t∧∀H',Same H H'→Q v H'
theorem aLt (G:OkX P w K mg base 8 "checked" ["thing"] (tE K mg)):Ok P w K mg base 8 "checked" ["thing"] (aLi K):=
 G.calm fun vs H Q E ⟨v,t,e,ht,hr,q⟩=>⟨v,t,e,ht,fun _=>q,fun z=>absurd hr z⟩
theorem aU8 {f:Addr} {fd:FuncData} (F:Fun K "law" "law" aLg f fd) (T:Txt w K mg) (aGw:Ok P w K mg base 1 "_law_seed" ["_law_script"] (aKg K)) (aN:Ok P w K mg base 1 "_law_next" ["_law_state","_law_many"] eE)
  (aDb:Ok P w K mg base 2 "_law_names" ["_law_state","_law_many"] aOq) (aEa:Ok P w K mg base 3 "_law_heads" ["_law_state","_law_names_here"] (aB4 K))
  (gZ:Ok P w K mg base 9 "_law_question" ["_law_state","_law_heads_here","_law_names_here","_law_deep"] (aSx K 3)) (qO:Ok P w K mg base 8 "checked" ["thing"] (aLi K))
  (aI8:Ok P w K mg base 1 "_law_bad" ["_law_q","_law_c"] (aC6 K bdT)) (aGk:Ok P w K mg base 1 "_law_none" ["_law_q","_law_c"] (aC6 K noT))
  (eV:Ok P w K mg base 29 "_law_refused" ["_law_heads_here","_law_thing","_law_way"] (aKj K)) (aHu:Ok P w K mg base 32 "_law_row" ["_law_state","_law_c"] (aLd K)) (eZ:Ok P w K mg base 31 "_law_size" ["_law_question_here"] (aJl K 30)) :
  jA P w K mg base CX0 40 f fd ["_law_script"] (aDs K):=by
 refine Fun.okV F iQ (fun vs H Q E h=>?_) (fun cdv A outer s H vs Q E hr h=>?_)
 ·obtain ⟨a,ns,rfl,_⟩:=h;rfl
 obtain ⟨sc,sn,rfl,hS,h63,q⟩:=h
 have hu:=aB9 hr
 have hU:=hr.units
 refine ⟨_,(aF (aQ (i:=1) iQ.nd rfl (by trivial) (bC (aB (aU (aGw.mono (by decide)) hr (by rfl) (aB (vv 0) aA)) aA))) (aF (aQ (i:=2) iQ.nd rfl (by trivial) (aU (aDb.mono (by decide)) hr (by rfl) (aB (vv 1) (aB aG aA)))) (aF (aQ (i:=3) iQ.nd rfl (by trivial) (aU (aEa.mono (by decide)) hr (by rfl) (aB (vv 1) (aB (vv 2) aA)))) (aF (rR (aU (gZ.mono (by decide)) hr (by rfl) (aB (vv 1) (aB (vv 3) (aB (vv 2) (aB aG aA))))) (mH rfl (bJ (aV (i:=4) iQ.nd rfl (by trivial)) (bJ (aV (i:=5) iQ.nd rfl (by trivial)) dX)))) (aF (cP (VW.pt (oU (fZ (fP (aY jG (by rfl) T.cF bZ (aB (aU (qO.mono (by decide)) hr (by rfl) (aB (vv 4) aA)) (aB (iC (v:=.ty "tuple") (by rfl) T.cU cJ rfl) aA))))) (lH (bF (aTg hU) (aU (qO.mono (by decide)) hr (by rfl) (aB (vv 4) aA)) (vv 4) (bL _))))) (aL (aR iZ)) bK) (aF (aQ (i:=6) iQ.nd rfl (by trivial) (bV dU (vv 2) aG (fun _ _=>rfl))) (aF (aQ (i:=7) iQ.nd rfl (by trivial) (bG dB (aU (aI8.mono (by decide)) hr (by rfl) (aB (aD (aB aJ (aB (vv 6) aA))) (aB (vv 6) aA))) (aU (aGk.mono (by decide)) hr (by rfl) (aB (aD (aB aJ (aB (vv 6) aA))) (aB (vv 6) aA))))) (aF (jL PassesOwn.never rfl (gH (vv 7)) (aV (i:=8) iQ.nd rfl (by trivial)) (aL (cP (fZ (fP (aU (eV.mono (by decide)) hr (by rfl) (aB (vv 3) (aB (vv 8) (aB (aU (aN.mono (by decide)) hr (by rfl) (aB (vv 1) (aB aG aA))) aA)))))) (aL (aR iZ)) bK))) (aF (aQ (i:=8) iQ.nd rfl (by trivial) (bV dU (vv 7) (aU (aN.mono (by decide)) hr (by rfl) (aB (vv 1) (aB (aY bD (by rfl) T.eY cZ (aB (vv 7) aA)) aA))) (fun _ _=>rfl))) (aF (cP (fZ (fP (aU (eV.mono (by decide)) hr (by rfl) (aB (vv 3) (aB (aD (aB aJ (aB (aD (aB aJ (aB (vv 4) (aB (vv 8) (aB (aD (aB (aD (aB (vv 6) (aB (vv 6) aA))) aA)) aA))))) (aB (aD aA) (aB aG aA))))) (aB (aU (aN.mono (by decide)) hr (by rfl) (aB (vv 1) (aB aG aA))) aA)))))) (aL (aR iZ)) bK) (aF (aQ (i:=9) iQ.nd rfl (by trivial) (aD (aB aJ (aB (vv 6) aA)))) (aF (jL PassesOwn.never rfl (dW (by rfl) T.gY (aB (bG cX aG (aU (aN.mono (by decide)) hr (by rfl) (aB (vv 1) (aB aG aA)))) aA)) (aV (i:=10) iQ.nd rfl (by trivial)) (aL (aQ (i:=9) iQ.nd rfl (by trivial) (aD (aB aJ (aB (vv 9) (aB (aD (aB (vv 6) aA)) aA))))))) (aF (cP (VW.pt (oU (fZ (fP (aU (eV.mono (by decide)) hr (by rfl) (aB (vv 3) (aB (vv 9) (aB aG aA)))))) (lH (fZ (fP (aU (eV.mono (by decide)) hr (by rfl) (aB (vv 3) (aB (vv 9) (aB aG aA))))))))) (aL (aR iZ)) bK) (aF (aQ (i:=11) iQ.nd rfl (by trivial) (aU (aHu.mono (by decide)) hr (by rfl) (aB (vv 1) (aB (vv 6) aA)))) (aF (cP (bF aNt (aU (eZ.mono (by decide)) hr (by rfl) (aB (vv 11) aA)) aG (bL _)) (aL (aR (lM (aU (eV.mono (by decide)) hr (by rfl) (aB (vv 3) (aB (vv 11) (aB aG aA)))) (mU (aU (eV.mono (by decide)) hr (by rfl) (aB (vv 3) (aB (vv 11) (aB aG aA)))))))) bK) (aL (aR (lM (gJ (aPt hU) (aU (qO.mono (by decide)) hr (by rfl) (aB (vv 11) aA)) (vv 11) (bL _)) (mU (gJ (aPt hU) (aU (qO.mono (by decide)) hr (by rfl) (aB (vv 4) aA)) (vv 4) (bL _))))))))))))))))))))),?_⟩
 refine ⟨_,rfl,sc,sn,rfl,hS,h63,fun c0 H1 s1 c0' c1=>⟨(by show 1≤sizeLine;decide),fun a H2 fa s2 g2=>?_⟩⟩
 have hst:gW H2 a:=⟨c0,g2,c0',c1⟩
 refine ⟨_,rfl,a,rfl,hst,fun N H3 ns f3 fN g3 hn=>?_⟩
 have nNa:N≠a:=hst.ne fN
 have hst3:=f3.st
 refine ⟨_,rfl,_,rfl,a,N,ns,rfl,hst3,g3,nNa,hn,fun d H4 ts f4 hD hts=>?_⟩
 have gN4:=f4.same _ _ nNa g3
 refine ⟨_,rfl,_,rfl,_,rfl,a,d,N,2,ts,ns,rfl,by decide,by decide,f4.st,nNa,hD,hts,gN4,hn,fun r H5 v1 v2 q1 h1 f5 g5 hq1 hh1 hHQ1 hok1 hz1=>?_⟩
 refine ⟨r,_,rfl,SqT.of g5,rfl,_,_,rfl,_,_,rfl,rfl,?_⟩
 have gN5:=f5.same _ _ nNa gN4
 have hst5:=f5.st
 obtain ⟨tq,htq,hsq⟩:=aX5 hq1
 have hRq:Right tq:=⟨_,hsq,by have:bnd 2=13:=rfl;omega⟩
 clear hq1 hh1 hHQ1 hok1 hz1 hD hts g5
 have htup:∀{H':Hp},bM K H' v1 tq→∃p xs,v1=.ref p∧SqT K H' p xs:=fun {H'} h=>by
  have e:=vY hRq
  cases h with
  |tup g _ _=>exact ⟨_,_,rfl,g⟩
  |_=>cases e
 refine ⟨_,rfl,v1,tq,rfl,htq,hRq,fun H6 s6=>⟨v1,true,rfl,vY hRq ▸ aAf (htq.same s6),_,rfl,cI ?_⟩⟩
 refine ⟨_,rfl,v1,tq,rfl,htq.same s6,hRq,fun H7 s7=>⟨_,rfl,?_⟩⟩
 have s57:=s6.trans s7
 have htq7:=htq.same s57
 obtain ⟨p1,xs1,e1,hp1⟩:=htup htq7
 refine ⟨p1,xs1,e1,e1,hp1,_,rfl,cI ?_⟩
 have gN7:=s57 _ _ gN5
 have hst7:=hst5.same s57
 have hin:3<ns.length:=by have:=hn.1;omega
 refine ⟨_,rfl,N,_,3,.str ns[3],rfl,rfl,SqL.of gN7,dH (j:=3) (by rw [List.getElem?_map,List.getElem?_eq_getElem hin];rfl),?_⟩
 have hc:Nm ns[3]:=hn.2.1 _ (List.getElem_mem hin)
 revert hc
 generalize ns[3]=c
 intro hc
 have hc1:c.length≤1000:=by have:=iW hc;omega
 have hcn:aP (.str c)=true:=hc
 have tb:∀{H':Hp} {p:Addr},H' p=some (.tup [.str "table",.str c])→bM K H' (.ref p) (.tup [.str "table",.str c]):=fun g=>.tup (SqT.of g) (by show 2≤1000;decide) (.cons (.str (by decide +kernel)) (.cons (.str hc1) .nil))
 refine ⟨_,rfl,(by show 2≤sizeLine;decide),fun p8 H8 _ s8 g8=>⟨_,rfl,.ref p8,_,c,rfl,tb g8,rfl,hc,fun vb H9 s9 rb=>?_⟩⟩
 refine ⟨_,rfl,(by show 2≤sizeLine;decide),fun p10 H10 _ s10 g10=>⟨_,rfl,.ref p10,_,c,rfl,tb g10,rfl,hc,fun vn H11 s11 rn=>?_⟩⟩
 obtain ⟨pb,bs,Hb,rfl,_,sb,gb,rb⟩:=rb.same (s10.trans s11)
 obtain ⟨pn,us,Hn,rfl,_,sn',gn,rn⟩:=rn
 have tb':=oR sb rb
 have tn':=oR sn' rn
 have lb:bs.length=57:=by rw [tb'.len];rfl
 have ln:us.length=19:=by rw [tn'.len];rfl
 refine ⟨pb,pn,bs,us,rfl,rfl,gb,gn,small (by omega),fun L H12 f12 s12 g12=>?_⟩
 have tall:cG K H12 (bs++us) (bdT (.tup [.str "table",.str c]) c++noT (.tup [.str "table",.str c]) c):=(vB ((jP tb').app (jP tn'))).same s12
 have hbad:∀t∈bdT (.tup [.str "table",.str c]) c++noT (.tup [.str "table",.str c]) c,Bad t:=fun t ht=>(List.mem_append.mp ht).elim (aUt hcn t) (aVd hcn t)
 have lall:(bs++us).length=76:=by rw [List.length_append];omega
 revert tall hbad lall g12
 generalize bs++us=xs
 generalize bdT (.tup [.str "table",.str c]) c++noT (.tup [.str "table",.str c]) c=us'
 intro g12 tall hbad lall
 have s712:Same H7 H12:=s8.trans (s9.trans (s10.trans (s11.trans s12)))
 have hst12:=hst7.same s712
 have htq12:=htq7.same s712
 have nLa:L≠a:=fun e=>by
  subst e
  obtain ⟨z,h1,_⟩:=hst12
  rw [g12] at h1
  cases h1
  cases lall
 clear hS h63 s1 s2 fa f3 fN g3 f4 gN4 f5 gN5 s6 s7 s57 gN7 s8 g8 s9 s10 g10 s11 sb gb rb sn' gn rn tb' tn' lb ln s12 s712 f12
 refine ⟨_,rfl,L,rfl,⟨_,SqL.of g12⟩,aNn (xs:=xs) (fun i σ H'=>Fx a H12 H'∧∃l8,σ=[some (.ref sc),some (.ref a),some (.ref N),some (.ref d),some v1,some v2,some (.str c),some (.ref L),l8,none,none,none]) ⟨Fx.refl hst12,_,rfl⟩ (fun i σ H' _ ⟨fx,_⟩=>SqL.of (fx.same _ _ nLa g12)) ?_ ?_⟩
 ·rintro i x σ H' hx ⟨fx,l8,rfl⟩
  obtain ⟨t,et,ht⟩:=(nD fx hst12 tall).at hx
  refine ⟨_,rfl,_,rfl,_,rfl,a,2,rfl,fx.st,by decide,fun k H13 f13 k0 k1=>?_⟩
  exact ⟨d,x,k,t,rfl,jQ f13 fx.st ht,(hbad t (List.mem_of_getElem? et)).no,fun H14 s14=>⟨_,rfl,cI ⟨(fx.trans f13).sm s14,_,rfl⟩⟩⟩
 rintro σ H13 ⟨fx13,l8,rfl⟩
 have g13:=fx13.same _ _ nLa g12
 refine ⟨_,rfl,_,rfl,_,rfl,L,xs,rfl,.inl (SqL.of g13),a,_,rfl,fx13.st,by omega,fun k H14 f14 k0 k1=>?_⟩
 have fx14:=fx13.trans f14
 obtain ⟨m,rfl⟩:∃m:Nat,k=(m:Int):=⟨k.toNat,by omega⟩
 have hm:m<xs.length:=by omega
 refine ⟨L,xs,_,xs[m],rfl,rfl,SqL.of (fx14.same _ _ nLa g12),dH (List.getElem?_eq_getElem hm),?_⟩
 obtain ⟨t,et,ht⟩:=(nD fx14 hst12 tall).at (List.getElem?_eq_getElem hm)
 have hbt:=hbad t (List.mem_of_getElem? et)
 revert ht
 generalize xs[m]=x
 intro ht
 have htq14:=jQ fx14 hst12 htq12
 refine ⟨_,rfl,?_⟩
 refine aQ1 (σ:=[some (.ref sc),some (.ref a),some (.ref N),some (.ref d),some v1,some v2,some (.str c),some (.ref L),some x,none,none,none]) (H:=H14) (R:=TR K (fjT tq t c)) (aM (aC (aX bI) (aC (aM (aC (aX bI) (aC (kY rfl htq14) (aC (kY rfl ht) (aC (aM (aC (aM (aC (aX (aZ rfl) hc1) (aC (aX (aZ rfl) hc1) aH))) aH)) aH))))) (aC (aM aH) (aC (sG bI) aH))))) fun v15 H15 s15 r15=>?_
 have fx15:=fx14.sm s15
 refine ⟨_,rfl,a,2,rfl,fx15.st,by decide,fun k2 H16 f16 _ _=>?_⟩
 refine ⟨d,v15,k2,_,rfl,jQ f16 fx15.st r15,(aUx hbt).no,fun H17 s17=>⟨_,rfl,cI ?_⟩⟩
 have fx17:=(fx15.trans f16).sm s17
 refine eN (i:=9) (σ:=[some (.ref sc),some (.ref a),some (.ref N),some (.ref d),some v1,some v2,some (.str c),some (.ref L),some x,none,none,none]) (H:=H17) (R:=TR K (tbT c)) (aM (aC (aX bI) (aC (aX (aZ rfl) hc1) aH))) fun v18 H18 s18 r18=>?_
 have fx18:=fx17.sm s18
 refine ⟨_,rfl,a,400,rfl,fx18.st,by decide,fun z H19 f19 z0 z1=>?_⟩
 have fx19:=fx18.trans f19
 refine ⟨_,_,rfl,rfl,_,rfl,(by show -(2 ^ 62)≤1000+z;omega),(by show 1000+z<2 ^ 62;omega),?_⟩
 refine gC (n:=(1000+z).toNat) (fun i σ H'=>Fx a H12 H'∧∃(vf:V) (tf:Tg) (l:Option V),σ=[some (.ref sc),some (.ref a),some (.ref N),some (.ref d),some v1,some v2,some (.str c),some (.ref L),some x,some vf,l,none]∧bM K H' vf tf∧∀m,SzT tf m→m=i+1) ⟨fx19,v18,_,_,rfl,jQ f19 fx18.st r18,fun m hm=>aSk (c:=c) hm⟩ ?_ ?_
 ·rintro i σ H' hi ⟨fx,vf,tf,l,rfl,hf,hsz⟩
  refine aTj (i:=9) (σ:=[some (.ref sc),some (.ref a),some (.ref N),some (.ref d),some v1,some v2,some (.str c),some (.ref L),some x,some vf,some (.int (0+(i:Int))),none]) (H:=H') (R:=TR K (kpT tf c)) (aM (aC (aX bI) (aC (kY rfl hf) (aC (aM (aC (aX (aZ rfl) hc1) aH)) aH)))) fun v20 H20 s20 r20=>?_
  exact ⟨fx.sm s20,v20,_,_,rfl,r20,fun m hm=>aU6 (c:=c) hsz hm⟩
 rintro σ H20 ⟨fx20,vf,tf,l,rfl,hf,hsz⟩
 have nf:¬ Right tf:=fun ⟨m,h1,h2⟩=>by
  have:=hsz m h1
  omega
 refine ⟨_,rfl,_,rfl,d,vf,0,tf,rfl,hf,nf,fun H21 s21=>⟨_,rfl,cI ?_⟩⟩
 refine ⟨_,rfl,_,rfl,d,vf,1,tf,rfl,hf.same s21,nf,fun H22 s22=>⟨_,rfl,cI ?_⟩⟩
 have fx22:=fx20.sm (s21.trans s22)
 refine ⟨_,rfl,_,rfl,a,c,rfl,fx22.st,hc,fun vr H23 tr mr f23 htr hzr hm30=>?_⟩
 have fx23:=fx22.trans f23
 refine ⟨_,rfl,vr,tr,mr,rfl,htr,hzr,hm30,_,_,rfl,rfl,_,rfl,?_⟩
 by_cases c20:20<mr
 ·have e20:decide ((20:Int)<(mr:Int))=true:=decide_eq_true (by omega)
  rw [e20]
  have nr:¬ Right tr:=fun ⟨m,h1,h2⟩=>by
   have:=aPs h1 hzr
   omega
  refine cY ⟨_,rfl,_,rfl,d,vr,0,tr,rfl,htr,nr,fun H24 s24=>⟨_,rfl,cY ?_⟩⟩
  exact ⟨_,rfl,_,rfl,d,vr,1,tr,rfl,htr.same s24,nr,fun H25 s25=>q H25⟩
 ·have e20:decide ((20:Int)<(mr:Int))=false:=decide_eq_false (by omega)
  rw [e20]
  have rr:Right tr:=⟨mr,hzr,by omega⟩
  have htup':∀{H':Hp},bM K H' vr tr→∃p xs,vr=.ref p∧SqT K H' p xs:=fun {H'} h=>by
   have e:=vY rr
   cases h with
   |tup g _ _=>exact ⟨_,_,rfl,g⟩
   |_=>cases e
  refine cI ⟨_,rfl,vr,tr,rfl,htr,rr,fun H24 s24=>⟨_,rfl,?_⟩⟩
  obtain ⟨p2,xs2,e2,hp2⟩:=htup' (htr.same s24)
  refine ⟨p2,xs2,e2,e2,hp2,_,rfl,cY ?_⟩
  have htq24:=(jQ fx23 hst12 htq12).same s24
  refine ⟨_,rfl,v1,tq,rfl,htq24,hRq,fun H25 s25=>⟨_,rfl,?_⟩⟩
  obtain ⟨p3,xs3,e3,hp3⟩:=htup (htq24.same s25)
  exact ⟨p3,xs3,e3,e3,hp3,q H25⟩
theorem aHk (T:Txt w K mg):OkX P w K mg base 8 "checked" ["thing"] (tE K mg):=by
 have g1:=aHa (P:=P) (base:=base) T
 have g2:=aIc (P:=P) (base:=base) T
 have g3:=aIo T g2
 have g4:=aFy T g1 g2
 have g6:=aCv (P:=P) (base:=base) T
 have g7:=aUw g3
 have fm:aIr P w K mg base:=⟨g7,rP T,aBq T (aGb T g6 g3 (aCu T g6 g4 g3)) (dF T),aBd T g7 (dF T),qR T g7 (dF T),aBm T (aE3 T g7 (dF T)) (dF T),aEq T (aHp T g6 g3) (dF T),aDy T (aIe T g6 g3) (dF T),aEy T g1⟩
 exact aHh T (aCw T fm g6) (wO T) (aDm T)
theorem aVh {fa:Addr} (T:Txt w K mg) (hmg:mg "law"=some (.ref fa)) :
  ∃fd:FuncData,(∀(s:Shared) (u:Value),BindsTo s fd ⟨[u],[]⟩ [("_law_script",u)])∧∀base:Heap,K.In base→base.Ns mainGlobals mg→jA P w K mg base CX0 40 fa fd ["_law_script"] (aDs K):=by
 obtain ⟨f,fd,F,B,m⟩:=T.aW8
 have e:fa=f:=by
  rw [m] at hmg
  injection hmg with e
  injection e with e
  exact e.symm
 subst e
 refine ⟨fd,?_,fun base _ _=>?_⟩
 ·obtain ⟨⟨oc,od,kV,doc,pm,an,cdv,ct,osl,rfl,lk,hcd⟩,kp⟩:=F
  exact fun s u=>.of_eq rfl
 ·have n1:=aEb (P:=P) (base:=base) T
  have n2:=aHk (P:=P) (base:=base) T
  have n3:=aDc (P:=P) (base:=base) T n1
  have n4:=aDr (P:=P) (base:=base) T n1
  exact aU8 F T (aEd T) n1 (aBc T n1 (aBh T)) (aBn T n1 n4) (nH T n1 n3 (aC3 T n1 n3) (aBv T n1 (aBs T n1 (aBr T n1))) (aBo T n3 (aCt T n1)) (aEh T n1 (aBi T)) 3) (aLt n2) (aHg T) (aEn T) (yD T n2 (aE4 T (aA2 T) n2)) (aFp T n1 (oK T 30) (aEr T n1)) (oK T 30)
end
inductive FA (K:PySem.W.Frag) (n:Str) (s:Stmt) (f:Addr):Prop
 |mk {od an:Option Addr} {sl:Array (Option Value)} {kV dc pm cd ct:Value}:PySem.W.nsIn K mainGlobals n=some (some (.ref f))→K.lookup f=some ⟨.type "function",od,.func (PySem.W.fnOf n n (nJ s) (fX s) (aK s) .none kV dc pm an cd ct),sl⟩→PySem.W.codeIn K cd n=true→PySem.W.keepIn K (.ref f)=true→FA K n s f
section
variable {K:PySem.W.Frag} {h:Heap} {mg:Str→Option Value} {n:Str} {s:Stmt} {f:Addr} {ps:List Str}
theorem jC (X:K.In h) (G:h.Ns mainGlobals mg) (a:FA K n s f):mg n=some (.ref f):=by
 obtain ⟨a,_,_,_⟩:=a
 exact PySem.W.mg_of X G a
theorem bR (X:K.In h) (G:h.Ns mainGlobals mg) (a:FA K n s f) (b:∀(kV doc pm:Value) (an:Option Addr) (cdv ct:Value) (us:List Value),us.length=ps.length→bindArgs (PySem.W.fnOf n n (nJ s) (fX s) (aK s) .none kV doc pm an cdv ct) ⟨us,[]⟩=pure (ps.zip us)):Dn K mg n s ps:=by
 have m:=jC X G a
 obtain ⟨_,l,c,k⟩:=a
 exact ⟨f,_,aD1 l c k,(aD1 l c k).binds b,m⟩
theorem aF4 (X:K.In h) (G:h.Ns mainGlobals mg) (a:FA K n s f):∃f o,(∃u,mg n=some u∧RelV (.ref f) u)∧K.lookup f=some o∧o.cls=.type "function":=by
 have m:=jC X G a
 obtain ⟨_,l,c,k⟩:=a
 exact ⟨f,_,⟨_,m,rfl⟩,l,rfl⟩
end
theorem ln0 {P:List Value→Prop} (h:P []):∀us:List Value,us.length=0→P us
 |[],_=>h
theorem ln1 {P:List Value→Prop} (h:∀a0,P [a0]):∀us:List Value,us.length=1→P us
 |[a0],_=>h a0
theorem ln2 {P:List Value→Prop} (h:∀a0 a1,P [a0,a1]):∀us:List Value,us.length=2→P us
 |[a0,a1],_=>h a0 a1
theorem ln3 {P:List Value→Prop} (h:∀a0 a1 a2,P [a0,a1,a2]):∀us:List Value,us.length=3→P us
 |[a0,a1,a2],_=>h a0 a1 a2
theorem ln4 {P:List Value→Prop} (h:∀a0 a1 a2 a3,P [a0,a1,a2,a3]):∀us:List Value,us.length=4→P us
 |[a0,a1,a2,a3],_=>h a0 a1 a2 a3
theorem ln6 {P:List Value→Prop} (h:∀a0 a1 a2 a3 a4 a5,P [a0,a1,a2,a3,a4,a5]):∀us:List Value,us.length=6→P us
 |[a0,a1,a2,a3,a4,a5],_=>h a0 a1 a2 a3 a4 a5
local macro_rules
 |`(tactic| trivial)=>`(tactic| first|exact (fun _ _ _ _ _ _=>ln1 fun _=>rfl)|exact (fun _ _ _ _ _ _=>ln2 fun _ _=>rfl)|exact (fun _ _ _ _ _ _=>ln3 fun _ _ _=>rfl)|exact (fun _ _ _ _ _ _=>ln4 fun _ _ _ _=>rfl)|exact (fun _ _ _ _ _ _=>ln0 rfl)|exact (fun _ _ _ _ _ _=>ln6 fun _ _ _ _ _ _=>rfl))
inductive X1 (K:PySem.W.Frag) (S fI:Addr) (n:Str) (C:Addr):Prop
 |mk {nm q:Str} {N:Addr} {bs bm:List Value} {sn:List Str} {sub:List Value} {ab:Bool} {col:Option Bool} {dd:Option Addr} {k0 k1 k2 k3 k5:Option Value} {cd:ClassData} :
  PySem.W.nsIn K mainGlobals n=some (some (.ref C)) →
  K.lookup C=some (excClassObj nm q C N bs bm true sn sub ab col dd k0 k1 k2 k3 k5 "ValueError.__new__") →
  bm.contains (.type "ValueError")=true →
  bm.contains (.type "AttributeError")=false →
  bm.contains (.type "NameError")=false →
  bm.contains (.type "BaseException")=true →
  PySem.W.clsIn K C=some cd →
  (aA1 cd.mro && cd.hasDict)=true →
  PySem.W.findIn K (.ref C) "__init__"=some (some (.ref fI)) →
  PySem.W.typeIn K (.ref fI)=some (.type "function") →
  PySem.W.findIn K (.ref C) "__setattr__"=some (some (.builtin "object.__setattr__")) →
  PySem.W.findIn K (.ref C) "__getattribute__"=some (some (.builtin "BaseException.__getattribute__")) →
  PySem.W.findIn K (.ref C) "__getattr__"=some none →
  PySem.W.findIn K (.ref C) "act"=some none →
  PySem.W.findIn K (.ref C) "__class__"=some (some (.builtin "object.__class__")) →
  PySem.W.keepIn K (.ref C)=true →
  PySem.W.typeIn K (.ref C)=some (.type "type") →
  PySem.W.mroIn K C (.type "BaseException")=some true →
  PySem.W.mroIn K C (.ref S)=some true →
  PySem.W.mroIn K C (.type "ValueError")=some true→X1 K S fI n C
inductive X0 (K:PySem.W.Frag) (S fI:Addr):Prop
 |mk {cS:ClassData} {od an:Option Addr} {sl:Array (Option Value)} {kV dc pm cdv ct:Value} :
  K.lookup fI=some ⟨.type "function",od,.func (PySem.W.fnOf "__init__" "ShardError.__init__" (nJ mJ) (fX mJ) (aK mJ) .none kV dc pm an cdv ct),sl⟩ →
  PySem.W.codeIn K cdv "ShardError.__init__"=true →
  PySem.W.keepIn K (.ref fI)=true →
  PySem.W.typeIn K (.ref S)=some (.type "type") →
  PySem.W.clsIn K S=some cS →
  PySem.W.mroIn K S (.type "BaseException")=some true→X0 K S fI
theorem kO {K:PySem.W.Frag} {h:Heap} {mg:Str→Option Value} {S fI C:Addr} {n:Str} (X:K.In h) (G:h.Ns mainGlobals mg) (a:X1 K S fI n C) (b:X0 K S fI):ExT K mg mJ n "ShardError.__init__" C S∧PySem.W.mroIn K C (.type "ValueError")=some true:=by
 obtain ⟨y0,y3,r0,r1,r2,r3,y4,r4,y5,y6,y7,y8,y9,y10,y11,y15,y16,y17,y18,y21⟩:=a
 obtain ⟨y12,y13,y14,_,_,_⟩:=b
 exact ⟨⟨⟨fI,_,⟨⟨_,_,_,_,_,_,_,_,_,_,_,_,_,_,_,y3,r0,r1,r2,r3⟩,y5,y6,by rw [y4];exact r4,y7,y8,y9,y10,y11⟩,aD1 y12 y13 y14,(aD1 y12 y13 y14).binds fun _ _ _ _ _ _=>ln2 fun _ _=>rfl⟩,PySem.W.mg_of X G y0,y15,⟨y16,by rw [y4];rfl,y17⟩,y18⟩,y21⟩
def aYq (c0 c1 c2 c3 c4 c5 c6 c7:Addr):Cls→Addr
 |.ques=>c0
 |.tab=>c1
 |.col=>c2
 |.kind=>c3
 |.twice=>c4
 |.wide=>c5
 |.plan=>c6
 |.words=>c7
inductive XM (K:PySem.W.Frag) (c0 c1 c2 c3 c4 c5 c6 c7:Addr):Prop
 |mk:PySem.W.mroIn K c0 (.ref c0)=some true →
  PySem.W.mroIn K c0 (.ref c1)=some false →
  PySem.W.mroIn K c0 (.ref c2)=some false →
  PySem.W.mroIn K c0 (.ref c3)=some false →
  PySem.W.mroIn K c0 (.ref c4)=some false →
  PySem.W.mroIn K c0 (.ref c5)=some false →
  PySem.W.mroIn K c0 (.ref c6)=some false →
  PySem.W.mroIn K c0 (.ref c7)=some false →
  PySem.W.mroIn K c1 (.ref c0)=some false →
  PySem.W.mroIn K c1 (.ref c1)=some true →
  PySem.W.mroIn K c1 (.ref c2)=some false →
  PySem.W.mroIn K c1 (.ref c3)=some false →
  PySem.W.mroIn K c1 (.ref c4)=some false →
  PySem.W.mroIn K c1 (.ref c5)=some false →
  PySem.W.mroIn K c1 (.ref c6)=some false →
  PySem.W.mroIn K c1 (.ref c7)=some false →
  PySem.W.mroIn K c2 (.ref c0)=some false →
  PySem.W.mroIn K c2 (.ref c1)=some false →
  PySem.W.mroIn K c2 (.ref c2)=some true →
  PySem.W.mroIn K c2 (.ref c3)=some false →
  PySem.W.mroIn K c2 (.ref c4)=some false →
  PySem.W.mroIn K c2 (.ref c5)=some false →
  PySem.W.mroIn K c2 (.ref c6)=some false →
  PySem.W.mroIn K c2 (.ref c7)=some false →
  PySem.W.mroIn K c3 (.ref c0)=some false →
  PySem.W.mroIn K c3 (.ref c1)=some false →
  PySem.W.mroIn K c3 (.ref c2)=some false →
  PySem.W.mroIn K c3 (.ref c3)=some true →
  PySem.W.mroIn K c3 (.ref c4)=some false →
  PySem.W.mroIn K c3 (.ref c5)=some false →
  PySem.W.mroIn K c3 (.ref c6)=some false →
  PySem.W.mroIn K c3 (.ref c7)=some false →
  PySem.W.mroIn K c4 (.ref c0)=some false →
  PySem.W.mroIn K c4 (.ref c1)=some false →
  PySem.W.mroIn K c4 (.ref c2)=some false →
  PySem.W.mroIn K c4 (.ref c3)=some false →
  PySem.W.mroIn K c4 (.ref c4)=some true →
  PySem.W.mroIn K c4 (.ref c5)=some false →
  PySem.W.mroIn K c4 (.ref c6)=some false →
  PySem.W.mroIn K c4 (.ref c7)=some false →
  PySem.W.mroIn K c5 (.ref c0)=some false →
  PySem.W.mroIn K c5 (.ref c1)=some false →
  PySem.W.mroIn K c5 (.ref c2)=some false →
  PySem.W.mroIn K c5 (.ref c3)=some false →
  PySem.W.mroIn K c5 (.ref c4)=some false →
  PySem.W.mroIn K c5 (.ref c5)=some true →
  PySem.W.mroIn K c5 (.ref c6)=some false →
  PySem.W.mroIn K c5 (.ref c7)=some false →
  PySem.W.mroIn K c6 (.ref c0)=some false →
  PySem.W.mroIn K c6 (.ref c1)=some false →
  PySem.W.mroIn K c6 (.ref c2)=some false →
  PySem.W.mroIn K c6 (.ref c3)=some false →
  PySem.W.mroIn K c6 (.ref c4)=some false →
  PySem.W.mroIn K c6 (.ref c5)=some false →
  PySem.W.mroIn K c6 (.ref c6)=some true →
  PySem.W.mroIn K c6 (.ref c7)=some false →
  PySem.W.mroIn K c7 (.ref c0)=some false →
  PySem.W.mroIn K c7 (.ref c1)=some false →
  PySem.W.mroIn K c7 (.ref c2)=some false →
  PySem.W.mroIn K c7 (.ref c3)=some false →
  PySem.W.mroIn K c7 (.ref c4)=some false →
  PySem.W.mroIn K c7 (.ref c5)=some false →
  PySem.W.mroIn K c7 (.ref c6)=some false →
  PySem.W.mroIn K c7 (.ref c7)=some true→XM K c0 c1 c2 c3 c4 c5 c6 c7
theorem aXu {K:PySem.W.Frag} {h:Heap} {mg:Str→Option Value} {S fI c0 c1 c2 c3 c4 c5 c6 c7:Addr} (X:K.In h) (G:h.Ns mainGlobals mg) (s:PySem.W.nsIn K mainGlobals "ShardError"=some (some (.ref S))) (a0:X1 K S fI "NoQuestion" c0) (a1:X1 K S fI "NoTable" c1) (a2:X1 K S fI "NoColumn" c2) (a3:X1 K S fI "NoKind" c3) (a4:X1 K S fI "Twice" c4) (a5:X1 K S fI "TooWide" c5) (a6:X1 K S fI "NoPlan" c6) (a7:X1 K S fI "NoWords" c7) (b:X0 K S fI) (m:XM K c0 c1 c2 c3 c4 c5 c6 c7) :
  ∃(S:Addr) (ad:Cls→Addr),mg "ShardError"=some (.ref S)∧XS K S∧(∀c,ExT K mg mJ c.nm "ShardError.__init__" (ad c) S)∧(∀c d,PySem.W.mroIn K (ad c) (.ref (ad d))=some (decide (c=d)))∧∀c,PySem.W.mroIn K (ad c) (.type "ValueError")=some true:=by
 refine ⟨S,aYq c0 c1 c2 c3 c4 c5 c6 c7,PySem.W.mg_of X G s,?_,fun c=>?_,fun c d=>?_,fun c=>?_⟩
 ·obtain ⟨_,_,_,y1,y2,y3⟩:=b
  exact ⟨y1,by rw [y2];rfl,y3⟩
 ·cases c
  ·exact (kO X G a0 b).1
  ·exact (kO X G a1 b).1
  ·exact (kO X G a2 b).1
  ·exact (kO X G a3 b).1
  ·exact (kO X G a4 b).1
  ·exact (kO X G a5 b).1
  ·exact (kO X G a6 b).1
  ·exact (kO X G a7 b).1
 ·obtain ⟨m00,m01,m02,m03,m04,m05,m06,m07,m10,m11,m12,m13,m14,m15,m16,m17,m20,m21,m22,m23,m24,m25,m26,m27,m30,m31,m32,m33,m34,m35,m36,m37,m40,m41,m42,m43,m44,m45,m46,m47,m50,m51,m52,m53,m54,m55,m56,m57,m60,m61,m62,m63,m64,m65,m66,m67,m70,m71,m72,m73,m74,m75,m76,m77⟩:=m
  cases c
  ·cases d
   ·exact m00
   ·exact m01
   ·exact m02
   ·exact m03
   ·exact m04
   ·exact m05
   ·exact m06
   ·exact m07
  ·cases d
   ·exact m10
   ·exact m11
   ·exact m12
   ·exact m13
   ·exact m14
   ·exact m15
   ·exact m16
   ·exact m17
  ·cases d
   ·exact m20
   ·exact m21
   ·exact m22
   ·exact m23
   ·exact m24
   ·exact m25
   ·exact m26
   ·exact m27
  ·cases d
   ·exact m30
   ·exact m31
   ·exact m32
   ·exact m33
   ·exact m34
   ·exact m35
   ·exact m36
   ·exact m37
  ·cases d
   ·exact m40
   ·exact m41
   ·exact m42
   ·exact m43
   ·exact m44
   ·exact m45
   ·exact m46
   ·exact m47
  ·cases d
   ·exact m50
   ·exact m51
   ·exact m52
   ·exact m53
   ·exact m54
   ·exact m55
   ·exact m56
   ·exact m57
  ·cases d
   ·exact m60
   ·exact m61
   ·exact m62
   ·exact m63
   ·exact m64
   ·exact m65
   ·exact m66
   ·exact m67
  ·cases d
   ·exact m70
   ·exact m71
   ·exact m72
   ·exact m73
   ·exact m74
   ·exact m75
   ·exact m76
   ·exact m77
 ·cases c
  ·exact (kO X G a0 b).2
  ·exact (kO X G a1 b).2
  ·exact (kO X G a2 b).2
  ·exact (kO X G a3 b).2
  ·exact (kO X G a4 b).2
  ·exact (kO X G a5 b).2
  ·exact (kO X G a6 b).2
  ·exact (kO X G a7 b).2
theorem aV1 {K:PySem.W.Frag} {h:Heap} {mg:Str→Option Value} (X:K.In h) (G:h.Ns mainGlobals mg) {w:World} {f0 f1 f2 f3 f4 f5 f6 f7 f8 f9 f10 f11 f12 f13 f14 f15 f16 f17 f18 f19 f20 f21 f22 f23 f24 f25 f26 f27 f28 f29 f30 f31 f32 f33 f34 f35 f36 f37 f38 f39 f40 f41 f42 f43 f44 f45 f46 f47 f48 f49 f50 f51 f52 f53 f54 f55 f56 f57 f58 f59 f60 f61 f62 f63:Addr} {lZ:Addr} {fV:Obj} {lY:Array Value} {tL:Nat} {aIk:Tok} {xQ:Tok} {xW:Tok} {aGm:Addr} {tG:Obj} {aF8:Array Value} {aOg:Nat} {vI:Addr} {lA:Obj} {sX:Array Value} {aEj:Nat} {aKf:Addr} {yK:Obj} {aJ3:Array Value} {aRt:Nat} {aBa:Tok} {aBp:Tok} {aBj:Tok} {aDg:Tok} {aD3:Tok} {aD4:Tok} {aEt:Tok} {tO:Addr} {uA:Obj} {aF9:Array DictEntry} {aPy:Nat} {tt14_0:Addr} {to14_0:Obj} {ti14_0:Array Value} {tn14_0:Nat} {tt14_1:Addr} {to14_1:Obj} {ti14_1:Array Value} {tn14_1:Nat} {tt14_2:Addr} {to14_2:Obj} {ti14_2:Array Value} {tn14_2:Nat} {tt14_3:Addr} {to14_3:Obj} {ti14_3:Array Value} {tn14_3:Nat} {tt14_4:Addr} {to14_4:Obj} {ti14_4:Array Value} {tn14_4:Nat} {tt14_5:Addr} {to14_5:Obj} {ti14_5:Array Value} {tn14_5:Nat} {tt14_6:Addr} {to14_6:Obj} {ti14_6:Array Value} {tn14_6:Nat} {xS xI c0 c1 c2 c3 c4 c5 c6 c7:Addr}
  (a0:FA K "is_whole" sE f0)
  (a1:FA K "is_word" wL f1)
  (a2:FA K "is_one_of" pL f2)
  (a3:FA K "is_tuple_of" jO f3)
  (a4:FA K "are_unlike" uZ f4)
  (a5:FA K "names_of" zR f5)
  (a6:FA K "is_name" vP f6)
  (a7:FA K "is_value" rQ f7)
  (a8:FA K "kind_of" aCd f8)
  (a9:FA K "is_other" rN f9)
  (a10:FA K "is_test" wM f10)
  (a11:FA K "is_pair" vZ f11)
  (a12:FA K "is_sum" zF f12)
  (a13:FA K "is_key" aAb f13)
  (a14:FA K "is_many" wI f14)
  (a15:FA K "are_tests" pI f15)
  (a16:FA K "are_names" pA f16)
  (a17:FA K "are_group_names" iV f17)
  (a18:FA K "are_pairs" pR f18)
  (a19:FA K "are_sums" rY f19)
  (a20:FA K "are_keys" sV f20)
  (a21:FA K "may_be_question" iR f21)
  (a22:FA K "has_form" rF f22)
  (a23:FA K "questions_in" lN f23)
  (a24:FA K "own_size" rZ f24)
  (a25:FA K "checked" vN f25)
  (a26:FA K "kind_in" aCs f26)
  (a27:FA K "need_like_kinds" lV f27)
  (a28:FA K "need_unlike" qY f28)
  (a29:FA K "table_head" uY f29)
  (a30:FA K "other_kind" uG f30)
  (a31:FA K "where_head" uE f31)
  (a32:FA K "keep_head" xG f32)
  (a33:FA K "named_head" uF f33)
  (a34:FA K "join_head" wY f34)
  (a35:FA K "sum_kind" aAk f35)
  (a36:FA K "group_head" uC f36)
  (a37:FA K "first_head" tQ f37)
  (a38:FA K "head_here" wU f38)
  (a39:FA K "head_within" mL f39)
  (a40:FA K "head_of" wC f40)
  (a41:FA K "_law_seed" pU f41)
  (a42:FA K "_law_next" pZ f42)
  (a43:FA K "_law_words" nP f43)
  (a44:FA K "_law_names" lB f44)
  (a45:FA K "_law_great" nZ f45)
  (a46:FA K "_law_value" nM f46)
  (a47:FA K "_law_head" pF f47)
  (a48:FA K "_law_tests" kZ f48)
  (a49:FA K "_law_some" lX f49)
  (a50:FA K "_law_sums" pG f50)
  (a51:FA K "_law_group" lC f51)
  (a52:FA K "_law_keys" mD f52)
  (a53:FA K "_law_fresh" iY f53)
  (a54:FA K "_law_join" jT f54)
  (a55:FA K "_law_question" fK f55)
  (a56:FA K "_law_size" pW f56)
  (a57:FA K "_law_heads" oF f57)
  (a58:FA K "_law_bad" eG f58)
  (a59:FA K "_law_none" pH f59)
  (a60:FA K "_law_refused" lJ f60)
  (a61:FA K "_law_step" pB f61)
  (a62:FA K "_law_row" sU f62)
  (a63:FA K "law" aLg f63)
  (q0:PySem.W.nsIn K mainGlobals "QUESTION_WORDS"=some (some (.ref lZ))) (r0:K.lookup lZ=some fV) (t0:fV.cls=.type "tuple") (y0:fV.dict=none) (u0:fV.data=.seq lY tL) (v0:Vals [.str "and",.str "by",.str "count",.str "down",.str "first",.str "group",.str "join",.str "keep",.str "least",.str "most",.str "named",.str "on",.str "sum",.str "table",.str "up",.str "where",.str "with"] lY.toList)
  (q1:PySem.W.nsIn K mainGlobals "LETTERS"=some (some (.str "abcdefghijklmnopqrstuvwxyz" aIk)))
  (q2:PySem.W.nsIn K mainGlobals "MOST_LETTERS"=some (some (.int 8 xQ)))
  (q3:PySem.W.nsIn K mainGlobals "MOST_COLUMNS"=some (some (.int 8 xW)))
  (q4:PySem.W.nsIn K mainGlobals "SIGNS"=some (some (.ref aGm))) (r4:K.lookup aGm=some tG) (t4:tG.cls=.type "tuple") (y4:tG.dict=none) (u4:tG.data=.seq aF8 aOg) (v4:Vals [.str "=",.str "<",.str ">",.str "!"] aF8.toList)
  (q5:PySem.W.nsIn K mainGlobals "SUM_WORDS"=some (some (.ref vI))) (r5:K.lookup vI=some lA) (t5:lA.cls=.type "tuple") (y5:lA.dict=none) (u5:lA.data=.seq sX aEj) (v5:Vals [.str "count",.str "sum",.str "least",.str "most"] sX.toList)
  (q6:PySem.W.nsIn K mainGlobals "WAYS"=some (some (.ref aKf))) (r6:K.lookup aKf=some yK) (t6:yK.cls=.type "tuple") (y6:yK.dict=none) (u6:yK.data=.seq aJ3 aRt) (v6:Vals [.str "up",.str "down"] aJ3.toList)
  (q7:PySem.W.nsIn K mainGlobals "MOST_TESTS"=some (some (.int 3 aBa)))
  (q8:PySem.W.nsIn K mainGlobals "MOST_NAMES"=some (some (.int 8 aBp)))
  (q9:PySem.W.nsIn K mainGlobals "MOST_PAIRS"=some (some (.int 3 aBj)))
  (q10:PySem.W.nsIn K mainGlobals "MOST_SUMS"=some (some (.int 4 aDg)))
  (q11:PySem.W.nsIn K mainGlobals "MOST_KEYS"=some (some (.int 3 aD3)))
  (q12:PySem.W.nsIn K mainGlobals "MOST_ROWS"=some (some (.int 60 aD4)))
  (q13:PySem.W.nsIn K mainGlobals "MOST_SIZE"=some (some (.int 20 aEt)))
  (q14:PySem.W.nsIn K mainGlobals "FORMS"=some (some (.ref tO))) (r14:K.lookup tO=some uA) (x14:uA.ExactDict) (o14:(tO == sysModules)=false) (u14:uA.data=.dict aF9 aPy) (h14:∀P:Program,PH P w aF9.toList [("table",Value.ref tt14_0),("where",Value.ref tt14_1),("keep",Value.ref tt14_2),("named",Value.ref tt14_3),("join",Value.ref tt14_4),("group",Value.ref tt14_5),("first",Value.ref tt14_6)])
  (r14_0:K.lookup tt14_0=some to14_0) (t14_0:to14_0.cls=.type "tuple") (y14_0:to14_0.dict=none) (u14_0:to14_0.data=.seq ti14_0 tn14_0) (v14_0:Vals [.ref f6] ti14_0.toList)
  (r14_1:K.lookup tt14_1=some to14_1) (t14_1:to14_1.cls=.type "tuple") (y14_1:to14_1.dict=none) (u14_1:to14_1.data=.seq ti14_1 tn14_1) (v14_1:Vals [.ref f21,.ref f15] ti14_1.toList)
  (r14_2:K.lookup tt14_2=some to14_2) (t14_2:to14_2.cls=.type "tuple") (y14_2:to14_2.dict=none) (u14_2:to14_2.data=.seq ti14_2 tn14_2) (v14_2:Vals [.ref f21,.ref f16] ti14_2.toList)
  (r14_3:K.lookup tt14_3=some to14_3) (t14_3:to14_3.cls=.type "tuple") (y14_3:to14_3.dict=none) (u14_3:to14_3.data=.seq ti14_3 tn14_3) (v14_3:Vals [.ref f21,.ref f16] ti14_3.toList)
  (r14_4:K.lookup tt14_4=some to14_4) (t14_4:to14_4.cls=.type "tuple") (y14_4:to14_4.dict=none) (u14_4:to14_4.data=.seq ti14_4 tn14_4) (v14_4:Vals [.ref f21,.ref f21,.ref f18] ti14_4.toList)
  (r14_5:K.lookup tt14_5=some to14_5) (t14_5:to14_5.cls=.type "tuple") (y14_5:to14_5.dict=none) (u14_5:to14_5.data=.seq ti14_5 tn14_5) (v14_5:Vals [.ref f21,.ref f17,.ref f19] ti14_5.toList)
  (r14_6:K.lookup tt14_6=some to14_6) (t14_6:to14_6.cls=.type "tuple") (y14_6:to14_6.dict=none) (u14_6:to14_6.data=.seq ti14_6 tn14_6) (v14_6:Vals [.ref f21,.ref f20,.ref f14] ti14_6.toList)
  (z0:PySem.W.nsIn K mainGlobals "ValueError"=some none)
  (z1:PySem.W.nsIn K mainGlobals "all"=some none)
  (z2:PySem.W.nsIn K mainGlobals "any"=some none)
  (z3:PySem.W.nsIn K mainGlobals "bool"=some none)
  (z4:PySem.W.nsIn K mainGlobals "dict"=some none)
  (z5:PySem.W.nsIn K mainGlobals "enumerate"=some none)
  (z6:PySem.W.nsIn K mainGlobals "int"=some none)
  (z7:PySem.W.nsIn K mainGlobals "isinstance"=some none)
  (z8:PySem.W.nsIn K mainGlobals "len"=some none)
  (z9:PySem.W.nsIn K mainGlobals "list"=some none)
  (z10:PySem.W.nsIn K mainGlobals "min"=some none)
  (z11:PySem.W.nsIn K mainGlobals "range"=some none)
  (z12:PySem.W.nsIn K mainGlobals "set"=some none)
  (z13:PySem.W.nsIn K mainGlobals "sorted"=some none)
  (z14:PySem.W.nsIn K mainGlobals "str"=some none)
  (z15:PySem.W.nsIn K mainGlobals "tuple"=some none)
  (z16:PySem.W.nsIn K mainGlobals "zip"=some none)
  (xs:PySem.W.nsIn K mainGlobals "ShardError"=some (some (.ref xS)))
  (xc0:X1 K xS xI "NoQuestion" c0)
  (xc1:X1 K xS xI "NoTable" c1)
  (xc2:X1 K xS xI "NoColumn" c2)
  (xc3:X1 K xS xI "NoKind" c3)
  (xc4:X1 K xS xI "Twice" c4)
  (xc5:X1 K xS xI "TooWide" c5)
  (xc6:X1 K xS xI "NoPlan" c6)
  (xc7:X1 K xS xI "NoWords" c7)
  (xb:X0 K xS xI)
  (xm:XM K c0 c1 c2 c3 c4 c5 c6 c7):Txt w K mg:=
 ⟨PySem.W.mg_none_of X G z0,
  PySem.W.mg_none_of X G z1,
  PySem.W.mg_none_of X G z2,
  PySem.W.mg_none_of X G z3,
  PySem.W.mg_none_of X G z4,
  PySem.W.mg_none_of X G z5,
  PySem.W.mg_none_of X G z6,
  PySem.W.mg_none_of X G z7,
  PySem.W.mg_none_of X G z8,
  PySem.W.mg_none_of X G z9,
  PySem.W.mg_none_of X G z10,
  PySem.W.mg_none_of X G z11,
  PySem.W.mg_none_of X G z12,
  PySem.W.mg_none_of X G z13,
  PySem.W.mg_none_of X G z14,
  PySem.W.mg_none_of X G z15,
  PySem.W.mg_none_of X G z16,
  ⟨_,PySem.W.mg_of X G q0,fun H=>.inr ⟨_,_,_,r0,t0,y0,u0,by have e:=v0.length;simp only [Array.length_toList] at e;rw [←e];exact small (by decide),v0⟩⟩,
  ⟨_,PySem.W.mg_of X G q1,_,rfl⟩,
  ⟨_,PySem.W.mg_of X G q2,_,rfl⟩,
  ⟨_,PySem.W.mg_of X G q3,_,rfl⟩,
  ⟨_,PySem.W.mg_of X G q4,fun H=>.inr ⟨_,_,_,r4,t4,y4,u4,by have e:=v4.length;simp only [Array.length_toList] at e;rw [←e];exact small (by decide),v4⟩⟩,
  ⟨_,PySem.W.mg_of X G q5,fun H=>.inr ⟨_,_,_,r5,t5,y5,u5,by have e:=v5.length;simp only [Array.length_toList] at e;rw [←e];exact small (by decide),v5⟩⟩,
  ⟨_,PySem.W.mg_of X G q6,fun H=>.inr ⟨_,_,_,r6,t6,y6,u6,by have e:=v6.length;simp only [Array.length_toList] at e;rw [←e];exact small (by decide),v6⟩⟩,
  ⟨_,PySem.W.mg_of X G q7,_,rfl⟩,
  ⟨_,PySem.W.mg_of X G q8,_,rfl⟩,
  ⟨_,PySem.W.mg_of X G q9,_,rfl⟩,
  ⟨_,PySem.W.mg_of X G q10,_,rfl⟩,
  ⟨_,PySem.W.mg_of X G q11,_,rfl⟩,
  ⟨_,PySem.W.mg_of X G q12,_,rfl⟩,
  ⟨_,PySem.W.mg_of X G q13,_,rfl⟩,
  ⟨tO,tt14_0,tt14_1,tt14_2,tt14_3,tt14_4,tt14_5,tt14_6,PySem.W.mg_of X G q14,⟨uA,r14,o14,fun P=>aLy x14 u14 (h14 P) (by show (List.map (fun x:Str × Value=>x.1) [("table",Value.ref tt14_0),("where",Value.ref tt14_1),("keep",Value.ref tt14_2),("named",Value.ref tt14_3),("join",Value.ref tt14_4),("group",Value.ref tt14_5),("first",Value.ref tt14_6)]).Nodup;exact (by decide +kernel:(["table","where","keep","named","join","group","first"]:List Str).Nodup))⟩,⟨f6,fun H=>.inr ⟨_,_,_,r14_0,t14_0,y14_0,u14_0,by have e:=v14_0.length;simp only [Array.length_toList] at e;rw [←e];exact small (by show 1≤1000;decide),v14_0⟩,jC X G a6⟩,⟨f21,f15,fun H=>.inr ⟨_,_,_,r14_1,t14_1,y14_1,u14_1,by have e:=v14_1.length;simp only [Array.length_toList] at e;rw [←e];exact small (by show 2≤1000;decide),v14_1⟩,jC X G a21,jC X G a15⟩,⟨f21,f16,fun H=>.inr ⟨_,_,_,r14_2,t14_2,y14_2,u14_2,by have e:=v14_2.length;simp only [Array.length_toList] at e;rw [←e];exact small (by show 2≤1000;decide),v14_2⟩,jC X G a21,jC X G a16⟩,⟨f21,f16,fun H=>.inr ⟨_,_,_,r14_3,t14_3,y14_3,u14_3,by have e:=v14_3.length;simp only [Array.length_toList] at e;rw [←e];exact small (by show 2≤1000;decide),v14_3⟩,jC X G a21,jC X G a16⟩,⟨f21,f21,f18,fun H=>.inr ⟨_,_,_,r14_4,t14_4,y14_4,u14_4,by have e:=v14_4.length;simp only [Array.length_toList] at e;rw [←e];exact small (by show 3≤1000;decide),v14_4⟩,jC X G a21,jC X G a21,jC X G a18⟩,⟨f21,f17,f19,fun H=>.inr ⟨_,_,_,r14_5,t14_5,y14_5,u14_5,by have e:=v14_5.length;simp only [Array.length_toList] at e;rw [←e];exact small (by show 3≤1000;decide),v14_5⟩,jC X G a21,jC X G a17,jC X G a19⟩,⟨f21,f20,f14,fun H=>.inr ⟨_,_,_,r14_6,t14_6,y14_6,u14_6,by have e:=v14_6.length;simp only [Array.length_toList] at e;rw [←e];exact small (by show 3≤1000;decide),v14_6⟩,jC X G a21,jC X G a20,jC X G a14⟩⟩,
  aF4 X G a6,
  aF4 X G a10,
  aF4 X G a11,
  aF4 X G a12,
  aF4 X G a13,
  bR X G a0 (by trivial),
  bR X G a1 (by trivial),
  bR X G a2 (by trivial),
  bR X G a3 (by trivial),
  bR X G a4 (by trivial),
  bR X G a5 (by trivial),
  bR X G a6 (by trivial),
  bR X G a7 (by trivial),
  bR X G a8 (by trivial),
  bR X G a9 (by trivial),
  bR X G a10 (by trivial),
  bR X G a11 (by trivial),
  bR X G a12 (by trivial),
  bR X G a13 (by trivial),
  bR X G a14 (by trivial),
  bR X G a15 (by trivial),
  bR X G a16 (by trivial),
  bR X G a17 (by trivial),
  bR X G a18 (by trivial),
  bR X G a19 (by trivial),
  bR X G a20 (by trivial),
  bR X G a21 (by trivial),
  bR X G a22 (by trivial),
  bR X G a23 (by trivial),
  bR X G a24 (by trivial),
  bR X G a25 (by trivial),
  bR X G a26 (by trivial),
  bR X G a27 (by trivial),
  bR X G a28 (by trivial),
  bR X G a29 (by trivial),
  bR X G a30 (by trivial),
  bR X G a31 (by trivial),
  bR X G a32 (by trivial),
  bR X G a33 (by trivial),
  bR X G a34 (by trivial),
  bR X G a35 (by trivial),
  bR X G a36 (by trivial),
  bR X G a37 (by trivial),
  bR X G a38 (by trivial),
  bR X G a39 (by trivial),
  bR X G a40 (by trivial),
  bR X G a41 (by trivial),
  bR X G a42 (by trivial),
  bR X G a43 (by trivial),
  bR X G a44 (by trivial),
  bR X G a45 (by trivial),
  bR X G a46 (by trivial),
  bR X G a47 (by trivial),
  bR X G a48 (by trivial),
  bR X G a49 (by trivial),
  bR X G a50 (by trivial),
  bR X G a51 (by trivial),
  bR X G a52 (by trivial),
  bR X G a53 (by trivial),
  bR X G a54 (by trivial),
  bR X G a55 (by trivial),
  bR X G a56 (by trivial),
  bR X G a57 (by trivial),
  bR X G a58 (by trivial),
  bR X G a59 (by trivial),
  bR X G a60 (by trivial),
  bR X G a61 (by trivial),
  bR X G a62 (by trivial),
  bR X G a63 (by trivial),
  aXu X G xs xc0 xc1 xc2 xc3 xc4 xc5 xc6 xc7 xb xm⟩
end My
open PySem PySem.W PyProof.Rows
def PySem.W.Fast.tw4116050925469522641:=0
def PySem.W.Fast.tw7217078436639161900:=0
def PySem.W.Fast.tw12880185749422149618:=0
def PySem.W.Fast.tw16402177821565955608:=0
def PySem.W.Fast.tw13881451539103939281:=0
def PySem.W.Fast.tw16691129648797955355:=0
def PySem.W.Fast.tw17835352612000587064:=0
def PySem.W.Fast.tw15149187170482764140:=0
def PySem.W.Fast.tw4825100082314390347:=0
def PySem.W.Fast.tw12122592204188109871:=0
def PySem.W.Fast.tw3048699631363626201:=0
def PySem.W.Fast.tw490981377483328561:=0
def PySem.W.Fast.tw1848150491589825219:=0
def PySem.W.Fast.tw6119376472079409175:=0
def PySem.W.Fast.tw10862844276569308614:=0
def PySem.W.Fast.tw255497521066376328:=0
def PySem.W.Fast.tw18109918053198536453:=0
def PySem.W.Fast.tw14392385576692025072:=0
def PySem.W.Fast.tw17227702208416007793:=0
def PySem.W.Fast.tw16247590220548186874:=0
def PySem.W.Fast.tw4115407016719547429:=0
def PySem.W.Fast.tw4348098810609759696:=0
def PySem.W.Fast.tw10344551792983748169:=0
def PySem.W.Fast.tw13353542342413479965:=0
def PySem.W.Fast.tw6686529555560022693:=0
def PySem.W.Fast.tw15326962393581853900:=0
def PySem.W.Fast.tw13665819650571826654:=0
def PySem.W.Fast.tw115776855582242557:=0
def PySem.W.Fast.tw16922245598037862908:=0
def PySem.W.Fast.tw9294984443353895041:=0
def PySem.W.Fast.tw10439997829809146006:=0
def PySem.W.Fast.tw16572534113768660519:=0
def PySem.W.Fast.tw6304624098864630428:=0
def PySem.W.Fast.tw9717983940018249631:=0
def PySem.W.Fast.tw3983861663881930735:=0
def PySem.W.Fast.tw16401566206784848441:=0
def PySem.W.Fast.tw16422544624584209163:=0
def PySem.W.Fast.tw167674054548014982:=0
def PySem.W.Fast.tw9254736865458431955:=0
def PySem.W.Fast.tw4259493782016129470:=0
def PySem.W.Fast.tw5255951116360499552:=0
def PySem.W.Fast.tw10906038642515542092:=0
def PySem.W.Fast.tw3895340199001802421:=0
def PySem.W.Fast.tw14666958564216370069:=0
def PySem.W.Fast.tw17136658072428366134:=0
def PySem.W.Fast.tw17931358918921797407:=0
def PySem.W.Fast.tw6553885389776122733:=0
def PySem.W.Fast.tw7813097815033004735:=0
def PySem.W.Fast.tw10100635773660315717:=0
def PySem.W.Fast.tw14226669469217053463:=0
def PySem.W.Fast.tw1865988700502376247:=0
def PySem.W.Fast.tw17165054696666665234:=0
def PySem.W.Fast.tw7353274734211872221:=0
def PySem.W.Fast.tw3713498761606170545:=0
def PySem.W.Fast.tw13893961277482297921:=0
def PySem.W.Fast.tw14965402666998731950:=0
def PySem.W.Fast.tw13465743916740598982:=0
def PySem.W.Fast.tw8270245228449725926:=0
def PySem.W.Fast.tw13591404367621419917:=0
def PySem.W.Fast.tw3921789071300335645:=0
def PySem.W.Fast.tw17181364789424737688:=0
def PySem.W.Fast.tw7324038774532561102:=0
def PySem.W.Fast.tw13183779360558848175:=0
def PySem.W.Fast.tw16264092373428166520:=0
def PySem.W.Fast.tw6341017258397070143:=0
def PySem.W.Fast.tw14740292516649031388:=0
def PySem.W.Fast.tw3887059475689307805:=0
def PySem.W.Fast.tw15409405268430896950:=0
def PySem.W.Fast.tw2983048694394760747:=0
def PySem.W.Fast.tw4084343263816432318:=0
def PySem.W.Fast.tw15367628097748528489:=0
def PySem.W.Fast.tw14763020020069292298:=0
def PySem.W.Fast.tw11497261578023881812:=0
def PySem.W.Fast.tw4530099244697086058:=0
def PySem.W.Fast.tw15184937784256595604:=0
def PySem.W.Fast.tw339448594018331576:=0
def PySem.W.Fast.tw105937508310894814:=0
def PySem.W.Fast.tw16543415789256138079:=0
def PySem.W.Fast.tw16439592443756704557:=0
def PySem.W.Fast.tw14034546835410425198:=0
def PySem.W.Fast.tw16312216890661036400:=0
def PySem.W.Fast.tw531270364708639395:=0
def PySem.W.Fast.tw18225695354497362882:=0
def PySem.W.Fast.tw10363525373002359644:=0
def PySem.W.Fast.tw18438916714021657316:=0
def PySem.W.Fast.tw11329321060566334542:=0
def PySem.W.Fast.tw17132836956448384011:=0
def PySem.W.Fast.tw16459131916599106835:=0
def PySem.W.Fast.tw12128700296582404386:=0
def PySem.W.Fast.tw2493491937961523555:=0
def PySem.W.Fast.tw3271232609646774887:=0
def PySem.W.Fast.tw13281526351226623921:=0
def PySem.W.Fast.tw14906813324064351681:=0
def PySem.W.Fast.tw6570728672491498953:=0
def PySem.W.Fast.tw1016288219062111891:=0
def PySem.W.Fast.tw14158159394488136335:=0
def PySem.W.Fast.tw2245643396845103614:=0
def PySem.W.Fast.tw11705270147101089737:=0
def PySem.W.Fast.tw7393177119558065112:=0
def PySem.W.Fast.tw13758088768070478401:=0
def PySem.W.Fast.tw15507321048466510411:=0
def PySem.W.Fast.tw7801533721406209818:=0
def PySem.W.Fast.tw16731859364664848561:=0
def PySem.W.Fast.tw16577430879006531310:=0
def PySem.W.Fast.tw9723083664032304920:=0
def PySem.W.Fast.tw1906329381931655974:=0
def PySem.W.Fast.tw13874291810271995651:=0
def PySem.W.Fast.tw8594196368964743370:=0
def PySem.W.Fast.tw2692280576693593794:=0
def PySem.W.Fast.tw4234868823835090903:=0
def PySem.W.Fast.tw16572455068541996867:=0
def PySem.W.Fast.tw14215747680276507020:=0
def PySem.W.Fast.tw14115122549891289281:=0
def PySem.W.Fast.tw6366322636742668801:=0
def PySem.W.Fast.tw11001286306113879558:=0
def PySem.W.Fast.tw10356842342552905272:=0
def PySem.W.Fast.tw15797182571199668744:=0
def PySem.W.Fast.tw6489819226960176656:=0
def PySem.W.Fast.tw9933729114773003944:=0
def PySem.W.Fast.tw9310025860841593471:=0
def PySem.W.Fast.tw3802982063208064808:=0
def PySem.W.Fast.tw18117432031730401452:=0
def PySem.W.Fast.tw14968920334142803220:=0
def PySem.W.Fast.tw1432357104860137730:=0
def PySem.W.Fast.tw10470597080811818825:=0
def PySem.W.Fast.tw9660171409015437983:=0
def PySem.W.Fast.tw735788373530369849:=0
def PySem.W.Fast.tw5787246629051773794:=0
def PySem.W.Fast.tw1994664430648970631:=0
def PySem.W.Fast.tw11852106114792872395:=0
def PySem.W.Fast.tw16989187643863995227:=0
def PySem.W.Fast.tw8482693260908974701:=0
def PySem.W.Fast.tw16451121727383280812:=0
def PySem.W.Fast.tw11203119624532878657:=0
def PySem.W.Fast.tw246124019878351418:=0
def PySem.W.Fast.tw15989999347375765964:=0
def PySem.W.Fast.tw10591064402628291395:=0
def PySem.W.Fast.tw11229100399705708010:=0
def PySem.W.Fast.tw1628716318795315874:=0
def PySem.W.Fast.tw1160524127093767419:=0
def PySem.W.Fast.tw15478481450787484060:=0
def PySem.W.Fast.tw11897331694092123134:=0
def PySem.W.Fast.tw11462441248398750867:=0
def PySem.W.Fast.tw9165311370745833090:=0
def PySem.W.Fast.tw1542132754103529322:=0
def PySem.W.Fast.tw11808674185820256376:=0
def PySem.W.Fast.tw5440736645918808005:=0
def PySem.W.Fast.tw1228188103803588695:=0
def PySem.W.Fast.tw2087537663687093699:=0
def PySem.W.Fast.tw7655869934674224506:=0
def PySem.W.Fast.tw15230271085918564659:=0
def PySem.W.Fast.tw17708197821990781943:=0
def PySem.W.Fast.tw3966208535809420494:=0
def PySem.W.Fast.tw6292414374677308815:=0
def PySem.W.Fast.tw10258040014216404279:=0
def PySem.W.Fast.tw15189375421707346191:=0
def PySem.W.Fast.tw12855940070079981160:=0
def PySem.W.Fast.tw2895996814555522753:=0
def PySem.W.Fast.tw14621861458944208341:=0
def PySem.W.Fast.tw7095042342455985728:=0
def PySem.W.Fast.tw15444145682046300284:=0
def PySem.W.Fast.tw524315241729291420:=0
def PySem.W.Fast.tw3182579969426500059:=0
def PySem.W.Fast.tw16826012149543845489:=0
def PySem.W.Fast.tw5408474762281720152:=0
def PySem.W.Fast.tw12951891839171109766:=0
def PySem.W.Fast.tw6161690773884607897:=0
def PySem.W.Fast.tw10232967046646253761:=0
def PySem.W.Fast.tw2537639596188017670:=0
def PySem.W.Fast.tw811732156321354347:=0
def PySem.W.Fast.tw10941992924721750445:=0
def PySem.W.Fast.tw2439803147712133305:=0
def PySem.W.Fast.tw5285886147680967375:=0
def PySem.W.Fast.tw17866227863416328640:=0
def PySem.W.Fast.tw15687378176643577629:=0
def PySem.W.Fast.tw14692435610635810908:=0
def PySem.W.Fast.tw16604391022624419440:=0
def PySem.W.Fast.tw10680831900253843027:=0
def PySem.W.Fast.tw5719190710151763665:=0
def PySem.W.Fast.tw4951067629256910362:=0
def PySem.W.Fast.tw7347729254392232209:=0
def PySem.W.Fast.tw3729948481930234657:=0
def PySem.W.Fast.tw17732255791605175009:=0
def PySem.W.Fast.tw6701879618775152918:=0
def PySem.W.Fast.tw4731359533456776324:=0
def PySem.W.Fast.tw9424897461968148185:=0
def PySem.W.Fast.tw4383206593054442743:=0
def PySem.W.Fast.tw11940454945431445551:=0
def PySem.W.Fast.tw187776843098423945:=0
def PySem.W.Fast.tw3679782731777175341:=0
def PySem.W.Fast.tw4929333916782743386:=0
def PySem.W.Fast.tw4276541577905889733:=0
def PySem.W.Fast.tw3196053174285760639:=0
def PySem.W.Fast.tw8536420200573094386:=0
def PySem.W.Fast.tw14101273417158207456:=0
def PySem.W.Fast.tw1376255863793049945:=0
def PySem.W.Fast.tw5503250516539968075:=0
def PySem.W.Fast.tw3939083896812827994:=0
def PySem.W.Fast.tw6255034903969072964:=0
def PySem.W.Fast.tw15264812995638211743:=0
def PySem.W.Fast.tw3744279423217950546:=0
def PySem.W.Fast.tw2051683123081715073:=0
def PySem.W.Fast.tw17447561021125178696:=0
def PySem.W.Fast.tw2469614804085521518:=0
def PySem.W.Fast.tw2070177021912246744:=0
def PySem.W.Fast.tw11510402468622072:=0
def PySem.W.Fast.tw15633149131384752784:=0
def PySem.W.Fast.tw2219694098515511090:=0
def PySem.W.Fast.tw9280078166360895352:=0
def PySem.W.Fast.tw13446610383753131470:=0
def PySem.W.Fast.tw2618324437732321951:=0
def PySem.W.Fast.tw17429860303423544379:=0
def PySem.W.Fast.tw4002059794361933996:=0
def PySem.W.Fast.tw8305667560768304966:=0
def PySem.W.Fast.tw7883273773106918279:=0
def PySem.W.Fast.tw122735038942116453:=0
def PySem.W.Fast.tw9136871861928535420:=0
def PySem.W.Fast.tw17591287821322363756:=0
def PySem.W.Fast.tw5573659668663490096:=0
def PySem.W.Fast.tw394381173201251399:=0
def PySem.W.Fast.tw6291932371192827468:=0
def PySem.W.Fast.tw10776570039124659049:=0
def PySem.W.Fast.tw7877709909124880513:=0
def PySem.W.Fast.tw10339546536318286426:=0
def PySem.W.Fast.tw792039528887051725:=0
def PySem.W.Fast.tw3232959367203868424:=0
def PySem.W.Fast.tw17652994816134446923:=0
def PySem.W.Fast.tw14965907815345429577:=0
def PySem.W.Fast.tw17435094302119039362:=0
def PySem.W.Fast.tw2062303556700121720:=0
def PySem.W.Fast.tw1491387955675711412:=0
def PySem.W.Fast.tw5540420055206097414:=0
def PySem.W.Fast.tw3688519136612708430:=0
def PySem.W.Fast.tw10242264232618729532:=0
def PySem.W.Fast.tw14559818884316961446:=0
def PySem.W.Fast.tw1603777021484207083:=0
def PySem.W.Fast.tw5438423799553874369:=0
def PySem.W.Fast.tw1049855557075521517:=0
def PySem.W.Fast.tw9687545364798857411:=0
def PySem.W.Fast.tw12025802696555829830:=0
def PySem.W.Fast.tw11979571031913925374:=0
def PySem.W.Fast.tw8967776208212745712:=0
def PySem.W.Fast.tw9435187062737131031:=0
def PySem.W.Fast.tw3169397672681183822:=0
def PySem.W.Fast.tw762377993474603806:=0
def PySem.W.Fast.tw7190713843506287849:=0
def PySem.W.Fast.tw3873651225293106156:=0
def PySem.W.Fast.tw1655990955915836461:=0
def PySem.W.Fast.tw13022093595344370631:=0
def PySem.W.Fast.tw10643132852452111452:=0
def PySem.W.Fast.tw17387819905356616825:=0
def PySem.W.Fast.tw2295593407033856375:=0
def PySem.W.Fast.tw11914137863054560045:=0
def PySem.W.Fast.tw17374743468226345378:=0
def PySem.W.Fast.tw18167917880446352947:=0
def PySem.W.Fast.tw9890848083786178363:=0
def PySem.W.Fast.tw10136194928354858679:=0
def PySem.W.Fast.tw9168725810947760249:=0
def PySem.W.Fast.tw17465901462555451332:=0
def PySem.W.Fast.tw10938312905639695495:=0
def PySem.W.Fast.tw500777909070326610:=0
def PySem.W.Fast.tw3601202814398117998:=0
def PySem.W.Fast.tw3260912516415619423:=0
def PySem.W.Fast.tw15023416951038440528:=0
def PySem.W.Fast.tw3845079405464708125:=0
def PySem.W.Fast.tw18026153887996487859:=0
def PySem.W.Fast.tw13334054302520496181:=0
def PySem.W.Fast.tw9017065006859860613:=0
def PySem.W.Fast.tw18363934011666956964:=0
def PySem.W.Fast.tw7098114926715996781:=0
def PySem.W.Fast.tw2016730170956773267:=0
def PySem.W.Fast.tw11017465607105211917:=0
def PySem.W.Fast.tw3057796369779400144:=0
def PySem.W.Fast.tw16218943441477072410:=0
def PySem.W.Fast.tw10504482505910063204:=0
def PySem.W.Fast.tw11846312744817064831:=0
def PySem.W.Fast.tw12127035092229456495:=0
def PySem.W.Fast.tw15928000706971138251:=0
def PySem.W.Fast.tw6332737353639204575:=0
def PySem.W.Fast.tw10752592334012342755:=0
def PySem.W.Fast.tw14981078039177352368:=0
def PySem.W.Fast.tw1399421339921822701:=0
def PySem.W.Fast.tw11284624341590600915:=0
def PySem.W.Fast.tw9083471821290539093:=0
def PySem.W.Fast.tw17364337342024094727:=0
def PySem.W.Fast.tw2188156602493700793:=0
def PySem.W.Fast.tw287908596507163117:=0
def PySem.W.Fast.tw8333929582750054471:=0
def PySem.W.Fast.tw12522236139116390611:=0
def PySem.W.Fast.tw3062317410205447833:=0
def PySem.W.Fast.tw14411022289905708654:=0
def PySem.W.Fast.tw3633239554376070131:=0
def PySem.W.Fast.tw17761606455547156681:=0
def PySem.W.Fast.tw13526282595765501194:=0
def PySem.W.Fast.tw4624093966858332531:=0
def PySem.W.Fast.tw9999232425928764622:=0
def PySem.W.Fast.tw2763875070345403436:=0
def PySem.W.Fast.tw15007616448814982500:=0
def PySem.W.Fast.tw15216746155143427520:=0
def PySem.W.Fast.tw7233565811989753429:=0
def PySem.W.Fast.tw16821315097076390773:=0
def PySem.W.Fast.tw7140554164085768233:=0
def PySem.W.Fast.tw15791559477437582888:=0
def PySem.W.Fast.tw1475487763160897984:=0
def PySem.W.Fast.tw17283081060776557532:=0
def PySem.W.Fast.tw17248578459787836513:=0
def PySem.W.Fast.tw10653687663947285748:=0
def PySem.W.Fast.tw18230087192406661375:=0
def PySem.W.Fast.tw14432440561307610738:=0
def PySem.W.Fast.tw12275993691503501652:=0
def PySem.W.Fast.tw12616376205182175864:=0
def PySem.W.Fast.tw17406685987978781338:=0
def PySem.W.Fast.tw9439025669800729920:=0
def PySem.W.Fast.tw3506702453527816841:=0
def PySem.W.Fast.tw3377954613688778505:=0
def PySem.W.Fast.tw14505228677700191508:=0
def PySem.W.Fast.tw10954088620227976096:=0
def PySem.W.Fast.tw675674590108879801:=0
def PySem.W.Fast.tw13161398678412241598:=0
def PySem.W.Fast.tw8917853781833341119:=0
def PySem.W.Fast.tw13345099191862877040:=0
def PySem.W.Fast.tw547143642940156743:=0
def PySem.W.Fast.tw14991758270417835226:=0
def PySem.W.Fast.tw7702323406551896012:=0
def PySem.W.Fast.tw7368277047969088130:=0
def PySem.W.Fast.tw13951194123517177431:=0
def PySem.W.Fast.tw16427035867809864292:=0
def PySem.W.Fast.tw10026040820964936258:=0
def PySem.W.Fast.tw1565360470352881756:=0
def PySem.W.Fast.tw10592742475723632684:=0
def PySem.W.Fast.tw5030810212455475190:=0
def PySem.W.Fast.tw4381166876178371641:=0
def PySem.W.Fast.tw2050039491562068119:=0
def PySem.W.Fast.tw9739983060700539177:=0
def PySem.W.Fast.tw13168359733311668525:=0
def PySem.W.Fast.tw1995567737596874168:=0
def PySem.W.Fast.tw14172933119176218803:=0
def PySem.W.Fast.tw1855070241916821132:=0
def PySem.W.Fast.tw12072697349524457505:=0
def PySem.W.Fast.tw3554514594722889424:=0
def PySem.W.Fast.tw9461917915410716608:=0
def PySem.W.Fast.tw10145310828512680520:=0
def PySem.W.Fast.tw9559888727257090017:=0
def PySem.W.Fast.tw10818017333853393830:=0
def PySem.W.Fast.tw3431950602835660257:=0
def PySem.W.Fast.tw15721024102283929142:=0
def PySem.W.Fast.tw10849591839218484638:=0
def PySem.W.Fast.tw5789605041559171219:=0
def PySem.W.Fast.tw16470797246340398384:=0
def PySem.W.Fast.tw8538843457231288920:=0
def PySem.W.Fast.tw16753909466666418151:=0
def PySem.W.Fast.tw7987915171085270024:=0
def PySem.W.Fast.tw6725093368371948725:=0
def PySem.W.Fast.tw1078396066666629601:=0
def PySem.W.Fast.tw848879011444098918:=0
def PySem.W.Fast.tw2326833310577434544:=0
def PySem.W.Fast.tw6302887405867235569:=0
def PySem.W.Fast.tw5693983007940435143:=0
def PySem.W.Fast.tw5614565672025202686:=0
def PySem.W.Fast.tw10312608194730520327:=0
def PySem.W.Fast.tw15426160662664517436:=0
def PySem.W.Fast.tw3975026046429095024:=0
def PySem.W.Fast.tw17067579520356382394:=0
def PySem.W.Fast.tw9004849870476572257:=0
def PySem.W.Fast.tw5988849846841293341:=0
def PySem.W.Fast.tw9366857050461856525:=0
def PySem.W.Fast.tw8303013375754019047:=0
def PySem.W.Fast.tw1083842251914752747:=0
def PySem.W.Fast.tw509711349015621820:=0
def PySem.W.Fast.tw9655926604414366048:=0
def PySem.W.Fast.tw10632271810085987172:=0
def PySem.W.Fast.tw11470583381760762044:=0
def PySem.W.Fast.tw8369155348901348580:=0
def PySem.W.Fast.tw6155911106178080579:=0
def PySem.W.Fast.tw9837882875496677755:=0
def PySem.W.Fast.tw6873979709965100602:=0
def PySem.W.Fast.tw9309685298870092552:=0
def PySem.W.Fast.tw14074878840325544904:=0
def PySem.W.Fast.tw2976805820728830599:=0
def PySem.W.Fast.tw6504027350767368126:=0
def PySem.W.Fast.tw17749443088653392249:=0
def PySem.W.Fast.tw16323554248969014277:=0
def PySem.W.Fast.tw17248732542750830541:=0
def PySem.W.Fast.tw18268720676918462919:=0
def PySem.W.Fast.tw4559428016961071769:=0
def PySem.W.Fast.tw11558834685395914163:=0
def PySem.W.Fast.tw8350387477963129460:=0
def PySem.W.Fast.tw6460931806396073705:=0
def PySem.W.Fast.tw48238595977517258:=0
def PySem.W.Fast.tw8103796549047642178:=0
def PySem.W.Fast.tw5279382308634482025:=0
def PySem.W.Fast.tw1757902206914311108:=0
def PySem.W.Fast.tw18035695845332183548:=0
def PySem.W.Fast.tw8475790425931623187:=0
def PySem.W.Fast.tw6560834398469478363:=0
def PySem.W.Fast.tw17224087321755564151:=0
def PySem.W.Fast.tw13383337347643051496:=0
def PySem.W.Fast.tw13000951468937559505:=0
def PySem.W.Fast.tw16323043009542663633:=0
def PySem.W.Fast.tw16724549117333328322:=0
def PySem.W.Fast.tw14564221556341252577:=0
def PySem.W.Fast.tw12224843584309435948:=0
def PySem.W.Fast.tw1275014113601550769:=0
def PySem.W.Fast.tw5711406335122874660:=0
def PySem.W.Fast.tw7847103668209803793:=0
def PySem.W.Fast.tw2305580639142205657:=0
def PySem.W.Fast.tw12832264067759968482:=0
def PySem.W.Fast.tw8864539359306443914:=0
def PySem.W.Fast.tw12532167846688048641:=0
def PySem.W.Fast.tw16671811777325520907:=0
def PySem.W.Fast.tw1867034220888700414:=0
def PySem.W.Fast.tw11805570294566751625:=0
def PySem.W.Fast.tw1578124209968969010:=0
def PySem.W.Fast.tw1696474604073110925:=0
def PySem.W.Fast.tw16063433533285978617:=0
def PySem.W.Fast.tw7071723626060828390:=0
def PySem.W.Fast.tw10500693547217673289:=0
def PySem.W.Fast.tw4965444238123462267:=0
def PySem.W.Fast.tw4727127471281948544:=0
def PySem.W.Fast.tw3306696613048264866:=0
def PySem.W.Fast.tw5681552535107808668:=0
def PySem.W.Fast.tw149000453208682280:=0
def PySem.W.Fast.tw15734572879242875978:=0
def PySem.W.Fast.tw1090196317936703458:=0
def PySem.W.Fast.tw9173377083208471614:=0
def PySem.W.Fast.tw1686110076221808949:=0
def PySem.W.Fast.tw1442369633296235636:=0
def PySem.W.Fast.tw13503232817623399114:=0
def PySem.W.Fast.tw8770989474586541425:=0
def PySem.W.Fast.tw2240866870786908324:=0
def PySem.W.Fast.tw10383898664365172938:=0
def PySem.W.Fast.tw1909396337809888334:=0
def PySem.W.Fast.tw11759320491664169751:=0
def PySem.W.Fast.tw1573671750382162349:=0
def PySem.W.Fast.tw6097943666457233371:=0
def PySem.W.Fast.tw10062850438640893810:=0
def PySem.W.Fast.tw12999149022574510822:=0
def PySem.W.Fast.tw3353698761443039676:=0
def PySem.W.Fast.tw13961618013778777742:=0
def PySem.W.Fast.tw13613431046810636127:=0
def PySem.W.Fast.tw15139731635203132758:=0
def PySem.W.Fast.tw13749693104642699294:=0
def PySem.W.Fast.tw2685324377403928994:=0
def PySem.W.Fast.tw3082320551774881697:=0
def PySem.W.Fast.tw2309972061986531022:=0
def PySem.W.Fast.tw13704415169586928838:=0
def PySem.W.Fast.tw18347534643046764971:=0
def PySem.W.Fast.tw2348614327627039008:=0
def PySem.W.Fast.tw2426763276142800142:=0
def PySem.W.Fast.tw9149095765617122117:=0
def PySem.W.Fast.tw6098209782267505715:=0
def PySem.W.Fast.tw14548073355881265013:=0
def PySem.W.Fast.tw18151084699832386504:=0
def PySem.W.Fast.tw2734478489034592192:=0
def PySem.W.Fast.tw12842335726495620999:=0
def PySem.W.Fast.tw1411155226794067125:=0
def PySem.W.Fast.tw3084261166481032435:=0
def PySem.W.Fast.tw6350212751189855663:=0
def PySem.W.Fast.tw12253703502577466476:=0
def PySem.W.Fast.tw12639669729131764274:=0
def PySem.W.Fast.tw498231869383653304:=0
def PySem.W.Fast.tw9515340569211787283:=0
def PySem.W.Fast.tw17742014060748413062:=0
def PySem.W.Fast.tw12910804352456786919:=0
def PySem.W.Fast.tw3212599708072666340:=0
def PySem.W.Fast.tw18092469667664728219:=0
def PySem.W.Fast.tw5654247103756594070:=0
def PySem.W.Fast.tw16186283637269119806:=0
def PySem.W.Fast.tw8622435948761735288:=0
def PySem.W.Fast.tw2898860208197800514:=0
def PySem.W.Fast.tw11857791159119918066:=0
def PySem.W.Fast.tw14258027083017264870:=0
def PySem.W.Fast.tw17479442620204294685:=0
def PySem.W.Fast.tw18437611586820581735:=0
def PySem.W.Fast.tw16048126723791711248:=0
def PySem.W.Fast.tw2148286038844943884:=0
def PySem.W.Fast.tw2507989364446740771:=0
def PySem.W.Fast.tw6560866935833748926:=0
def PySem.W.Fast.tw7146422419298290258:=0
def PySem.W.Fast.tw5103985729806155176:=0
def PySem.W.Fast.tw12627895456514787789:=0
def PySem.W.Fast.tw2428708388774193522:=0
def PySem.W.Fast.tw11974284651202920967:=0
def PySem.W.Fast.tw7235165329746715655:=0
def PySem.W.Fast.tw2561575463656863069:=0
def PySem.W.Fast.tw4069751867589315780:=0
def PySem.W.Fast.tw16019105142125855850:=0
def PySem.W.Fast.tw14381687544084480698:=0
def PySem.W.Fast.tw14300312468762200886:=0
def PySem.W.Fast.tw733304275135799184:=0
def PySem.W.Fast.tw14136595015749161473:=0
def PySem.W.Fast.tw3547869733269335879:=0
def PySem.W.Fast.tw2496055254671125477:=0
def PySem.W.Fast.tw431323019453318351:=0
def PySem.W.Fast.tw3239341545706434593:=0
def PySem.W.Fast.tw12085621416180025720:=0
def PySem.W.Fast.tw10313919964347814143:=0
def PySem.W.Fast.tw18107680203003137453:=0
def PySem.W.Fast.tw7392941315108434066:=0
def PySem.W.Fast.tw17494144719439013960:=0
def PySem.W.Fast.tw9996190725657255092:=0
def PySem.W.Fast.tw16905281010241880471:=0
def PySem.W.Fast.tw12006025031944236771:=0
def PySem.W.Fast.tw10052317166803963414:=0
def PySem.W.Fast.tw16914234732968341362:=0
def PySem.W.Fast.tw8392014148905500325:=0
def PySem.W.Fast.tw8077138654837348405:=0
def PySem.W.Fast.tw12088234005097307773:=0
def PySem.W.Fast.tw13997197278124687788:=0
def PySem.W.Fast.tw10426196922702385036:=0
def PySem.W.Fast.tw1930464446488608490:=0
def PySem.W.Fast.tw7501431991836632507:=0
def PySem.W.Fast.tw11558814828767172598:=0
def PySem.W.Fast.tw835506335314206220:=0
def PySem.W.Fast.tw5850729489599206761:=0
def PySem.W.Fast.tw4615477507658767319:=0
def PySem.W.Fast.tw1264741672841684547:=0
def PySem.W.Fast.tw15756322942723588160:=0
def PySem.W.Fast.tw10094228553669629737:=0
def PySem.W.Fast.tw17103692905117586425:=0
def PySem.W.Fast.tw3260469228434425432:=0
def PySem.W.Fast.tw4542225738522428332:=0
def PySem.W.Fast.tw14468248014759736508:=0
def PySem.W.Fast.tw16180408981810226486:=0
def PySem.W.Fast.tw6804205741512026408:=0
set_option maxRecDepth 100000 in
set_option maxHeartbeats 0 in
theorem PySem.Challenge.cw_shardask_k04_questions_checked_holds : PySem.Challenge.rw_shardask_k04_questions_checked.Holds := by
 w_on;o_law;k_head;(case hw=>w_witness2)
 k_fill
 refine L2.aPi (l:=PySem.Challenge.rw_shardask_k04_questions_checked) (n:=63) (k:=40) (x:="_law_script") (CX:=L2.CX0) (sp:=My.aDs) rfl (by decide) rfl ⟨rfl,by decide,by decide⟩ (fun w h Y=>PySem.W.kIn_of Y) ?F (fun K H a ns hl hO hS=>My.aM6 hl hS) (fun _ _ _ _ z=>z)
 case F=>
  intro w mg fa h KX G hmg
  have T:My.Txt w (L2.KOf KX) mg:=by
   dsimp only [L2.KOf]
   refine' My.aV1 KX G ?a0 ?a1 ?a2 ?a3 ?a4 ?a5 ?a6 ?a7 ?a8 ?a9 ?a10 ?a11 ?a12 ?a13 ?a14 ?a15 ?a16 ?a17 ?a18 ?a19 ?a20 ?a21 ?a22 ?a23 ?a24 ?a25 ?a26 ?a27 ?a28 ?a29 ?a30 ?a31 ?a32 ?a33 ?a34 ?a35 ?a36 ?a37 ?a38 ?a39 ?a40 ?a41 ?a42 ?a43 ?a44 ?a45 ?a46 ?a47 ?a48 ?a49 ?a50 ?a51 ?a52 ?a53 ?a54 ?a55 ?a56 ?a57 ?a58 ?a59 ?a60 ?a61 ?a62 ?a63 ?q0 ?r0 ?t0 ?y0 ?u0 ?v0 ?q1 ?q2 ?q3 ?q4 ?r4 ?t4 ?y4 ?u4 ?v4 ?q5 ?r5 ?t5 ?y5 ?u5 ?v5 ?q6 ?r6 ?t6 ?y6 ?u6 ?v6 ?q7 ?q8 ?q9 ?q10 ?q11 ?q12 ?q13 ?q14 ?r14 ?x14 ?o14 ?u14 ?h14 ?r14_0 ?t14_0 ?y14_0 ?u14_0 ?v14_0 ?r14_1 ?t14_1 ?y14_1 ?u14_1 ?v14_1 ?r14_2 ?t14_2 ?y14_2 ?u14_2 ?v14_2 ?r14_3 ?t14_3 ?y14_3 ?u14_3 ?v14_3 ?r14_4 ?t14_4 ?y14_4 ?u14_4 ?v14_4 ?r14_5 ?t14_5 ?y14_5 ?u14_5 ?v14_5 ?r14_6 ?t14_6 ?y14_6 ?u14_6 ?v14_6 ?z0 ?z1 ?z2 ?z3 ?z4 ?z5 ?z6 ?z7 ?z8 ?z9 ?z10 ?z11 ?z12 ?z13 ?z14 ?z15 ?z16 ?xs ?xc0 ?xc1 ?xc2 ?xc3 ?xc4 ?xc5 ?xc6 ?xc7 ?xb ?xm
   (case a0=>(refine' My.FA.mk ?j0 ?l0 ?c0 ?k0);(case j0=>k_is);(case l0=>k_is);(case c0=>k_is);(case k0=>k_is))
   (case a1=>(refine' My.FA.mk ?j1 ?l1 ?c1 ?k1);(case j1=>k_is);(case l1=>k_is);(case c1=>k_is);(case k1=>k_is))
   (case a2=>(refine' My.FA.mk ?j2 ?l2 ?c2 ?k2);(case j2=>k_is);(case l2=>k_is);(case c2=>k_is);(case k2=>k_is))
   (case a3=>(refine' My.FA.mk ?j3 ?l3 ?c3 ?k3);(case j3=>k_is);(case l3=>k_is);(case c3=>k_is);(case k3=>k_is))
   (case a4=>(refine' My.FA.mk ?j4 ?l4 ?c4 ?k4);(case j4=>k_is);(case l4=>k_is);(case c4=>k_is);(case k4=>k_is))
   (case a5=>(refine' My.FA.mk ?j5 ?l5 ?c5 ?k5);(case j5=>k_is);(case l5=>k_is);(case c5=>k_is);(case k5=>k_is))
   (case a6=>(refine' My.FA.mk ?j6 ?l6 ?c6 ?k6);(case j6=>k_is);(case l6=>k_is);(case c6=>k_is);(case k6=>k_is))
   (case a7=>(refine' My.FA.mk ?j7 ?l7 ?c7 ?k7);(case j7=>k_is);(case l7=>k_is);(case c7=>k_is);(case k7=>k_is))
   (case a8=>(refine' My.FA.mk ?j8 ?l8 ?c8 ?k8);(case j8=>k_is);(case l8=>k_is);(case c8=>k_is);(case k8=>k_is))
   (case a9=>(refine' My.FA.mk ?j9 ?l9 ?c9 ?k9);(case j9=>k_is);(case l9=>k_is);(case c9=>k_is);(case k9=>k_is))
   (case a10=>(refine' My.FA.mk ?j10 ?l10 ?c10 ?k10);(case j10=>k_is);(case l10=>k_is);(case c10=>k_is);(case k10=>k_is))
   (case a11=>(refine' My.FA.mk ?j11 ?l11 ?c11 ?k11);(case j11=>k_is);(case l11=>k_is);(case c11=>k_is);(case k11=>k_is))
   (case a12=>(refine' My.FA.mk ?j12 ?l12 ?c12 ?k12);(case j12=>k_is);(case l12=>k_is);(case c12=>k_is);(case k12=>k_is))
   (case a13=>(refine' My.FA.mk ?j13 ?l13 ?c13 ?k13);(case j13=>k_is);(case l13=>k_is);(case c13=>k_is);(case k13=>k_is))
   (case a14=>(refine' My.FA.mk ?j14 ?l14 ?c14 ?k14);(case j14=>k_is);(case l14=>k_is);(case c14=>k_is);(case k14=>k_is))
   (case a15=>(refine' My.FA.mk ?j15 ?l15 ?c15 ?k15);(case j15=>k_is);(case l15=>k_is);(case c15=>k_is);(case k15=>k_is))
   (case a16=>(refine' My.FA.mk ?j16 ?l16 ?c16 ?k16);(case j16=>k_is);(case l16=>k_is);(case c16=>k_is);(case k16=>k_is))
   (case a17=>(refine' My.FA.mk ?j17 ?l17 ?c17 ?k17);(case j17=>k_is);(case l17=>k_is);(case c17=>k_is);(case k17=>k_is))
   (case a18=>(refine' My.FA.mk ?j18 ?l18 ?c18 ?k18);(case j18=>k_is);(case l18=>k_is);(case c18=>k_is);(case k18=>k_is))
   (case a19=>(refine' My.FA.mk ?j19 ?l19 ?c19 ?k19);(case j19=>k_is);(case l19=>k_is);(case c19=>k_is);(case k19=>k_is))
   (case a20=>(refine' My.FA.mk ?j20 ?l20 ?c20 ?k20);(case j20=>k_is);(case l20=>k_is);(case c20=>k_is);(case k20=>k_is))
   (case a21=>(refine' My.FA.mk ?j21 ?l21 ?c21 ?k21);(case j21=>k_is);(case l21=>k_is);(case c21=>k_is);(case k21=>k_is))
   (case a22=>(refine' My.FA.mk ?j22 ?l22 ?c22 ?k22);(case j22=>k_is);(case l22=>k_is);(case c22=>k_is);(case k22=>k_is))
   (case a23=>(refine' My.FA.mk ?j23 ?l23 ?c23 ?k23);(case j23=>k_is);(case l23=>k_is);(case c23=>k_is);(case k23=>k_is))
   (case a24=>(refine' My.FA.mk ?j24 ?l24 ?c24 ?k24);(case j24=>k_is);(case l24=>k_is);(case c24=>k_is);(case k24=>k_is))
   (case a25=>(refine' My.FA.mk ?j25 ?l25 ?c25 ?k25);(case j25=>k_is);(case l25=>k_is);(case c25=>k_is);(case k25=>k_is))
   (case a26=>(refine' My.FA.mk ?j26 ?l26 ?c26 ?k26);(case j26=>k_is);(case l26=>k_is);(case c26=>k_is);(case k26=>k_is))
   (case a27=>(refine' My.FA.mk ?j27 ?l27 ?c27 ?k27);(case j27=>k_is);(case l27=>k_is);(case c27=>k_is);(case k27=>k_is))
   (case a28=>(refine' My.FA.mk ?j28 ?l28 ?c28 ?k28);(case j28=>k_is);(case l28=>k_is);(case c28=>k_is);(case k28=>k_is))
   (case a29=>(refine' My.FA.mk ?j29 ?l29 ?c29 ?k29);(case j29=>k_is);(case l29=>k_is);(case c29=>k_is);(case k29=>k_is))
   (case a30=>(refine' My.FA.mk ?j30 ?l30 ?c30 ?k30);(case j30=>k_is);(case l30=>k_is);(case c30=>k_is);(case k30=>k_is))
   (case a31=>(refine' My.FA.mk ?j31 ?l31 ?c31 ?k31);(case j31=>k_is);(case l31=>k_is);(case c31=>k_is);(case k31=>k_is))
   (case a32=>(refine' My.FA.mk ?j32 ?l32 ?c32 ?k32);(case j32=>k_is);(case l32=>k_is);(case c32=>k_is);(case k32=>k_is))
   (case a33=>(refine' My.FA.mk ?j33 ?l33 ?c33 ?k33);(case j33=>k_is);(case l33=>k_is);(case c33=>k_is);(case k33=>k_is))
   (case a34=>(refine' My.FA.mk ?j34 ?l34 ?c34 ?k34);(case j34=>k_is);(case l34=>k_is);(case c34=>k_is);(case k34=>k_is))
   (case a35=>(refine' My.FA.mk ?j35 ?l35 ?c35 ?k35);(case j35=>k_is);(case l35=>k_is);(case c35=>k_is);(case k35=>k_is))
   (case a36=>(refine' My.FA.mk ?j36 ?l36 ?c36 ?k36);(case j36=>k_is);(case l36=>k_is);(case c36=>k_is);(case k36=>k_is))
   (case a37=>(refine' My.FA.mk ?j37 ?l37 ?c37 ?k37);(case j37=>k_is);(case l37=>k_is);(case c37=>k_is);(case k37=>k_is))
   (case a38=>(refine' My.FA.mk ?j38 ?l38 ?c38 ?k38);(case j38=>k_is);(case l38=>k_is);(case c38=>k_is);(case k38=>k_is))
   (case a39=>(refine' My.FA.mk ?j39 ?l39 ?c39 ?k39);(case j39=>k_is);(case l39=>k_is);(case c39=>k_is);(case k39=>k_is))
   (case a40=>(refine' My.FA.mk ?j40 ?l40 ?c40 ?k40);(case j40=>k_is);(case l40=>k_is);(case c40=>k_is);(case k40=>k_is))
   (case a41=>(refine' My.FA.mk ?j41 ?l41 ?c41 ?k41);(case j41=>k_is);(case l41=>k_is);(case c41=>k_is);(case k41=>k_is))
   (case a42=>(refine' My.FA.mk ?j42 ?l42 ?c42 ?k42);(case j42=>k_is);(case l42=>k_is);(case c42=>k_is);(case k42=>k_is))
   (case a43=>(refine' My.FA.mk ?j43 ?l43 ?c43 ?k43);(case j43=>k_is);(case l43=>k_is);(case c43=>k_is);(case k43=>k_is))
   (case a44=>(refine' My.FA.mk ?j44 ?l44 ?c44 ?k44);(case j44=>k_is);(case l44=>k_is);(case c44=>k_is);(case k44=>k_is))
   (case a45=>(refine' My.FA.mk ?j45 ?l45 ?c45 ?k45);(case j45=>k_is);(case l45=>k_is);(case c45=>k_is);(case k45=>k_is))
   (case a46=>(refine' My.FA.mk ?j46 ?l46 ?c46 ?k46);(case j46=>k_is);(case l46=>k_is);(case c46=>k_is);(case k46=>k_is))
   (case a47=>(refine' My.FA.mk ?j47 ?l47 ?c47 ?k47);(case j47=>k_is);(case l47=>k_is);(case c47=>k_is);(case k47=>k_is))
   (case a48=>(refine' My.FA.mk ?j48 ?l48 ?c48 ?k48);(case j48=>k_is);(case l48=>k_is);(case c48=>k_is);(case k48=>k_is))
   (case a49=>(refine' My.FA.mk ?j49 ?l49 ?c49 ?k49);(case j49=>k_is);(case l49=>k_is);(case c49=>k_is);(case k49=>k_is))
   (case a50=>(refine' My.FA.mk ?j50 ?l50 ?c50 ?k50);(case j50=>k_is);(case l50=>k_is);(case c50=>k_is);(case k50=>k_is))
   (case a51=>(refine' My.FA.mk ?j51 ?l51 ?c51 ?k51);(case j51=>k_is);(case l51=>k_is);(case c51=>k_is);(case k51=>k_is))
   (case a52=>(refine' My.FA.mk ?j52 ?l52 ?c52 ?k52);(case j52=>k_is);(case l52=>k_is);(case c52=>k_is);(case k52=>k_is))
   (case a53=>(refine' My.FA.mk ?j53 ?l53 ?c53 ?k53);(case j53=>k_is);(case l53=>k_is);(case c53=>k_is);(case k53=>k_is))
   (case a54=>(refine' My.FA.mk ?j54 ?l54 ?c54 ?k54);(case j54=>k_is);(case l54=>k_is);(case c54=>k_is);(case k54=>k_is))
   (case a55=>(refine' My.FA.mk ?j55 ?l55 ?c55 ?k55);(case j55=>k_is);(case l55=>k_is);(case c55=>k_is);(case k55=>k_is))
   (case a56=>(refine' My.FA.mk ?j56 ?l56 ?c56 ?k56);(case j56=>k_is);(case l56=>k_is);(case c56=>k_is);(case k56=>k_is))
   (case a57=>(refine' My.FA.mk ?j57 ?l57 ?c57 ?k57);(case j57=>k_is);(case l57=>k_is);(case c57=>k_is);(case k57=>k_is))
   (case a58=>(refine' My.FA.mk ?j58 ?l58 ?c58 ?k58);(case j58=>k_is);(case l58=>k_is);(case c58=>k_is);(case k58=>k_is))
   (case a59=>(refine' My.FA.mk ?j59 ?l59 ?c59 ?k59);(case j59=>k_is);(case l59=>k_is);(case c59=>k_is);(case k59=>k_is))
   (case a60=>(refine' My.FA.mk ?j60 ?l60 ?c60 ?k60);(case j60=>k_is);(case l60=>k_is);(case c60=>k_is);(case k60=>k_is))
   (case a61=>(refine' My.FA.mk ?j61 ?l61 ?c61 ?k61);(case j61=>k_is);(case l61=>k_is);(case c61=>k_is);(case k61=>k_is))
   (case a62=>(refine' My.FA.mk ?j62 ?l62 ?c62 ?k62);(case j62=>k_is);(case l62=>k_is);(case c62=>k_is);(case k62=>k_is))
   (case a63=>(refine' My.FA.mk ?j63 ?l63 ?c63 ?k63);(case j63=>k_is);(case l63=>k_is);(case c63=>k_is);(case k63=>k_is))
   (case q0=>k_is)
   (case r0=>k_is)
   (case t0=>rfl)
   (case y0=>rfl)
   (case u0=>rfl)
   (case v0=>repeat (first|exact L2.dN|refine L2.bO rfl ?_|refine L2.bO ⟨_,rfl⟩ ?_))
   (case q1=>k_is)
   (case q2=>k_is)
   (case q3=>k_is)
   (case q4=>k_is)
   (case r4=>k_is)
   (case t4=>rfl)
   (case y4=>rfl)
   (case u4=>rfl)
   (case v4=>repeat (first|exact L2.dN|refine L2.bO rfl ?_|refine L2.bO ⟨_,rfl⟩ ?_))
   (case q5=>k_is)
   (case r5=>k_is)
   (case t5=>rfl)
   (case y5=>rfl)
   (case u5=>rfl)
   (case v5=>repeat (first|exact L2.dN|refine L2.bO rfl ?_|refine L2.bO ⟨_,rfl⟩ ?_))
   (case q6=>k_is)
   (case r6=>k_is)
   (case t6=>rfl)
   (case y6=>rfl)
   (case u6=>rfl)
   (case v6=>repeat (first|exact L2.dN|refine L2.bO rfl ?_|refine L2.bO ⟨_,rfl⟩ ?_))
   (case q7=>k_is)
   (case q8=>k_is)
   (case q9=>k_is)
   (case q10=>k_is)
   (case q11=>k_is)
   (case q12=>k_is)
   (case q13=>k_is)
   (case q14=>k_is)
   (case r14=>k_is)
   (case x14=>exact ⟨rfl,rfl,rfl⟩)
   (case o14=>first|rfl|decide +kernel)
   (case u14=>rfl)
   (case h14=>intro P;repeat (first|exact L2.PH.nil|refine L2.PH.cons rfl rfl rfl ?_))
   (case r14_0=>k_is)
   (case t14_0=>rfl)
   (case y14_0=>rfl)
   (case u14_0=>rfl)
   (case v14_0=>repeat (first|exact L2.dN|refine L2.bO rfl ?_|refine L2.bO ⟨_,rfl⟩ ?_))
   (case r14_1=>k_is)
   (case t14_1=>rfl)
   (case y14_1=>rfl)
   (case u14_1=>rfl)
   (case v14_1=>repeat (first|exact L2.dN|refine L2.bO rfl ?_|refine L2.bO ⟨_,rfl⟩ ?_))
   (case r14_2=>k_is)
   (case t14_2=>rfl)
   (case y14_2=>rfl)
   (case u14_2=>rfl)
   (case v14_2=>repeat (first|exact L2.dN|refine L2.bO rfl ?_|refine L2.bO ⟨_,rfl⟩ ?_))
   (case r14_3=>k_is)
   (case t14_3=>rfl)
   (case y14_3=>rfl)
   (case u14_3=>rfl)
   (case v14_3=>repeat (first|exact L2.dN|refine L2.bO rfl ?_|refine L2.bO ⟨_,rfl⟩ ?_))
   (case r14_4=>k_is)
   (case t14_4=>rfl)
   (case y14_4=>rfl)
   (case u14_4=>rfl)
   (case v14_4=>repeat (first|exact L2.dN|refine L2.bO rfl ?_|refine L2.bO ⟨_,rfl⟩ ?_))
   (case r14_5=>k_is)
   (case t14_5=>rfl)
   (case y14_5=>rfl)
   (case u14_5=>rfl)
   (case v14_5=>repeat (first|exact L2.dN|refine L2.bO rfl ?_|refine L2.bO ⟨_,rfl⟩ ?_))
   (case r14_6=>k_is)
   (case t14_6=>rfl)
   (case y14_6=>rfl)
   (case u14_6=>rfl)
   (case v14_6=>repeat (first|exact L2.dN|refine L2.bO rfl ?_|refine L2.bO ⟨_,rfl⟩ ?_))
   (case z0=>k_is)
   (case z1=>k_is)
   (case z2=>k_is)
   (case z3=>k_is)
   (case z4=>k_is)
   (case z5=>k_is)
   (case z6=>k_is)
   (case z7=>k_is)
   (case z8=>k_is)
   (case z9=>k_is)
   (case z10=>k_is)
   (case z11=>k_is)
   (case z12=>k_is)
   (case z13=>k_is)
   (case z14=>k_is)
   (case z15=>k_is)
   (case z16=>k_is)
   (case xs=>k_is)
   (case xc0=>(refine' My.X1.mk ?y0 ?y1 ?r0 ?r1 ?r2 ?r3 ?y2 ?r4 ?y3 ?y4 ?y5 ?y6 ?y7 ?y8 ?y9 ?y10 ?y11 ?y12 ?y13 ?y14);(case y0=>k_is);(case y1=>k_is);(case r0=>first|rfl|decide +kernel);(case r1=>first|rfl|decide +kernel);(case r2=>first|rfl|decide +kernel);(case r3=>first|rfl|decide +kernel);(case y2=>k_is);(case r4=>first|rfl|decide +kernel);(case y3=>k_is);(case y4=>k_is);(case y5=>k_is);(case y6=>k_is);(case y7=>k_is);(case y8=>k_is);(case y9=>k_is);(case y10=>k_is);(case y11=>k_is);(case y12=>k_is);(case y13=>k_is);(case y14=>k_is))
   (case xc1=>(refine' My.X1.mk ?y0 ?y1 ?r0 ?r1 ?r2 ?r3 ?y2 ?r4 ?y3 ?y4 ?y5 ?y6 ?y7 ?y8 ?y9 ?y10 ?y11 ?y12 ?y13 ?y14);(case y0=>k_is);(case y1=>k_is);(case r0=>first|rfl|decide +kernel);(case r1=>first|rfl|decide +kernel);(case r2=>first|rfl|decide +kernel);(case r3=>first|rfl|decide +kernel);(case y2=>k_is);(case r4=>first|rfl|decide +kernel);(case y3=>k_is);(case y4=>k_is);(case y5=>k_is);(case y6=>k_is);(case y7=>k_is);(case y8=>k_is);(case y9=>k_is);(case y10=>k_is);(case y11=>k_is);(case y12=>k_is);(case y13=>k_is);(case y14=>k_is))
   (case xc2=>(refine' My.X1.mk ?y0 ?y1 ?r0 ?r1 ?r2 ?r3 ?y2 ?r4 ?y3 ?y4 ?y5 ?y6 ?y7 ?y8 ?y9 ?y10 ?y11 ?y12 ?y13 ?y14);(case y0=>k_is);(case y1=>k_is);(case r0=>first|rfl|decide +kernel);(case r1=>first|rfl|decide +kernel);(case r2=>first|rfl|decide +kernel);(case r3=>first|rfl|decide +kernel);(case y2=>k_is);(case r4=>first|rfl|decide +kernel);(case y3=>k_is);(case y4=>k_is);(case y5=>k_is);(case y6=>k_is);(case y7=>k_is);(case y8=>k_is);(case y9=>k_is);(case y10=>k_is);(case y11=>k_is);(case y12=>k_is);(case y13=>k_is);(case y14=>k_is))
   (case xc3=>(refine' My.X1.mk ?y0 ?y1 ?r0 ?r1 ?r2 ?r3 ?y2 ?r4 ?y3 ?y4 ?y5 ?y6 ?y7 ?y8 ?y9 ?y10 ?y11 ?y12 ?y13 ?y14);(case y0=>k_is);(case y1=>k_is);(case r0=>first|rfl|decide +kernel);(case r1=>first|rfl|decide +kernel);(case r2=>first|rfl|decide +kernel);(case r3=>first|rfl|decide +kernel);(case y2=>k_is);(case r4=>first|rfl|decide +kernel);(case y3=>k_is);(case y4=>k_is);(case y5=>k_is);(case y6=>k_is);(case y7=>k_is);(case y8=>k_is);(case y9=>k_is);(case y10=>k_is);(case y11=>k_is);(case y12=>k_is);(case y13=>k_is);(case y14=>k_is))
   (case xc4=>(refine' My.X1.mk ?y0 ?y1 ?r0 ?r1 ?r2 ?r3 ?y2 ?r4 ?y3 ?y4 ?y5 ?y6 ?y7 ?y8 ?y9 ?y10 ?y11 ?y12 ?y13 ?y14);(case y0=>k_is);(case y1=>k_is);(case r0=>first|rfl|decide +kernel);(case r1=>first|rfl|decide +kernel);(case r2=>first|rfl|decide +kernel);(case r3=>first|rfl|decide +kernel);(case y2=>k_is);(case r4=>first|rfl|decide +kernel);(case y3=>k_is);(case y4=>k_is);(case y5=>k_is);(case y6=>k_is);(case y7=>k_is);(case y8=>k_is);(case y9=>k_is);(case y10=>k_is);(case y11=>k_is);(case y12=>k_is);(case y13=>k_is);(case y14=>k_is))
   (case xc5=>(refine' My.X1.mk ?y0 ?y1 ?r0 ?r1 ?r2 ?r3 ?y2 ?r4 ?y3 ?y4 ?y5 ?y6 ?y7 ?y8 ?y9 ?y10 ?y11 ?y12 ?y13 ?y14);(case y0=>k_is);(case y1=>k_is);(case r0=>first|rfl|decide +kernel);(case r1=>first|rfl|decide +kernel);(case r2=>first|rfl|decide +kernel);(case r3=>first|rfl|decide +kernel);(case y2=>k_is);(case r4=>first|rfl|decide +kernel);(case y3=>k_is);(case y4=>k_is);(case y5=>k_is);(case y6=>k_is);(case y7=>k_is);(case y8=>k_is);(case y9=>k_is);(case y10=>k_is);(case y11=>k_is);(case y12=>k_is);(case y13=>k_is);(case y14=>k_is))
   (case xc6=>(refine' My.X1.mk ?y0 ?y1 ?r0 ?r1 ?r2 ?r3 ?y2 ?r4 ?y3 ?y4 ?y5 ?y6 ?y7 ?y8 ?y9 ?y10 ?y11 ?y12 ?y13 ?y14);(case y0=>k_is);(case y1=>k_is);(case r0=>first|rfl|decide +kernel);(case r1=>first|rfl|decide +kernel);(case r2=>first|rfl|decide +kernel);(case r3=>first|rfl|decide +kernel);(case y2=>k_is);(case r4=>first|rfl|decide +kernel);(case y3=>k_is);(case y4=>k_is);(case y5=>k_is);(case y6=>k_is);(case y7=>k_is);(case y8=>k_is);(case y9=>k_is);(case y10=>k_is);(case y11=>k_is);(case y12=>k_is);(case y13=>k_is);(case y14=>k_is))
   (case xc7=>(refine' My.X1.mk ?y0 ?y1 ?r0 ?r1 ?r2 ?r3 ?y2 ?r4 ?y3 ?y4 ?y5 ?y6 ?y7 ?y8 ?y9 ?y10 ?y11 ?y12 ?y13 ?y14);(case y0=>k_is);(case y1=>k_is);(case r0=>first|rfl|decide +kernel);(case r1=>first|rfl|decide +kernel);(case r2=>first|rfl|decide +kernel);(case r3=>first|rfl|decide +kernel);(case y2=>k_is);(case r4=>first|rfl|decide +kernel);(case y3=>k_is);(case y4=>k_is);(case y5=>k_is);(case y6=>k_is);(case y7=>k_is);(case y8=>k_is);(case y9=>k_is);(case y10=>k_is);(case y11=>k_is);(case y12=>k_is);(case y13=>k_is);(case y14=>k_is))
   (case xb=>(refine' My.X0.mk ?y0 ?y1 ?y2 ?y3 ?y4 ?y5);(case y0=>k_is);(case y1=>k_is);(case y2=>k_is);(case y3=>k_is);(case y4=>k_is);(case y5=>k_is))
   (case xm=>(refine' My.XM.mk ?m0_0 ?m0_1 ?m0_2 ?m0_3 ?m0_4 ?m0_5 ?m0_6 ?m0_7 ?m1_0 ?m1_1 ?m1_2 ?m1_3 ?m1_4 ?m1_5 ?m1_6 ?m1_7 ?m2_0 ?m2_1 ?m2_2 ?m2_3 ?m2_4 ?m2_5 ?m2_6 ?m2_7 ?m3_0 ?m3_1 ?m3_2 ?m3_3 ?m3_4 ?m3_5 ?m3_6 ?m3_7 ?m4_0 ?m4_1 ?m4_2 ?m4_3 ?m4_4 ?m4_5 ?m4_6 ?m4_7 ?m5_0 ?m5_1 ?m5_2 ?m5_3 ?m5_4 ?m5_5 ?m5_6 ?m5_7 ?m6_0 ?m6_1 ?m6_2 ?m6_3 ?m6_4 ?m6_5 ?m6_6 ?m6_7 ?m7_0 ?m7_1 ?m7_2 ?m7_3 ?m7_4 ?m7_5 ?m7_6 ?m7_7);(case m0_0=>k_is);(case m0_1=>k_is);(case m0_2=>k_is);(case m0_3=>k_is);(case m0_4=>k_is);(case m0_5=>k_is);(case m0_6=>k_is);(case m0_7=>k_is);(case m1_0=>k_is);(case m1_1=>k_is);(case m1_2=>k_is);(case m1_3=>k_is);(case m1_4=>k_is);(case m1_5=>k_is);(case m1_6=>k_is);(case m1_7=>k_is);(case m2_0=>k_is);(case m2_1=>k_is);(case m2_2=>k_is);(case m2_3=>k_is);(case m2_4=>k_is);(case m2_5=>k_is);(case m2_6=>k_is);(case m2_7=>k_is);(case m3_0=>k_is);(case m3_1=>k_is);(case m3_2=>k_is);(case m3_3=>k_is);(case m3_4=>k_is);(case m3_5=>k_is);(case m3_6=>k_is);(case m3_7=>k_is);(case m4_0=>k_is);(case m4_1=>k_is);(case m4_2=>k_is);(case m4_3=>k_is);(case m4_4=>k_is);(case m4_5=>k_is);(case m4_6=>k_is);(case m4_7=>k_is);(case m5_0=>k_is);(case m5_1=>k_is);(case m5_2=>k_is);(case m5_3=>k_is);(case m5_4=>k_is);(case m5_5=>k_is);(case m5_6=>k_is);(case m5_7=>k_is);(case m6_0=>k_is);(case m6_1=>k_is);(case m6_2=>k_is);(case m6_3=>k_is);(case m6_4=>k_is);(case m6_5=>k_is);(case m6_6=>k_is);(case m6_7=>k_is);(case m7_0=>k_is);(case m7_1=>k_is);(case m7_2=>k_is);(case m7_3=>k_is);(case m7_4=>k_is);(case m7_5=>k_is);(case m7_6=>k_is);(case m7_7=>k_is))
  exact My.aVh (P:=PySem.Challenge.rw_shardask_k04_questions_checked.prog) T hmg
