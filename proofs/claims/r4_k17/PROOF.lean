import PyProof.Rows.All
import Wide.All
import OpenK.AllK
import Wide.FinOn
import Lean
import PyProof.EqAt
import PyProof.EqKinds
import PyProof.TupleCall
import PyProof.CallType
import PyProof.WalkLemmas
import PyProof.StrOps
import PyProof.ForAny
import PyProof.IsInstanceH
import PyProof.IsiFacts
import PyProof.IsiFacts2
import PyProof.FactsAll.object
import PyProof.ListMulRoad
import PyProof.FactsAll.tuple_2
import PyProof.StrLawsIdx
import PyProof.EnumMake
import PyProof.EnumFor
import KE.KDictList
import PyProof.Rows.Range3
import PyProof.CompUse
import PyProof.ListStr
import PyProof.NeKinds
import KE.KDictOf
import KE.KEqDict
import KE.KDictSum
import PyProof.AttrMissHeap
import PyProof.DictWalks
import PySem.Challenge.RW_shardask_k17_early_told
set_option Elab.async false
set_option linter.all false
set_option maxRecDepth 100000
set_option maxHeartbeats 6400000
local macro_rules
  | `(tactic| trivial) => `(tactic| first | exact Or.inl rfl | exact Or.inr rfl | exact Or.inr (Or.inl rfl) | exact Or.inr (Or.inr rfl) | exact ⟨rfl, rfl, rfl, by decide +kernel, rfl, by decide +kernel, by decide +kernel⟩ | exact ⟨by decide +kernel, rfl, by decide +kernel, by decide +kernel⟩ | fail)
namespace L2
open PySem PySem.Spec PyProof.Rows
abbrev Key:=Sum Int Str
def aBr:Key→Value→Bool
 |.inl k,v=>Value.isInt k v
 |.inr x,v=>Value.isStrOf x v
def bAa (w:World):Key→Int
 |.inl k=>hashInt k
 |.inr x=>hashStr w x
theorem eU:∀{k:Key} {v:Value},aBr k v=true→(∃i t,k=Sum.inl i∧v=Value.int i t)∨(∃x t,k=Sum.inr x∧v=Value.str x t)
 |.inl i,v,h=>by
  obtain ⟨t,e⟩:=Value.isInt_shape (k:=i) (v:=v) h
  exact .inl ⟨i,t,rfl,e⟩
 |.inr x,v,h=>by
  obtain ⟨t,e⟩:=Value.isStrOf_shape (x:=x) (v:=v) h
  exact .inr ⟨x,t,rfl,e⟩
theorem aPv (i:Int) (t:Tok):aBr (.inl i) (.int i t)=true:=by simp [aBr,Value.isInt]
theorem aP5 (x:Str) (t:Tok):aBr (.inr x) (.str x t)=true:=by simp [aBr,Value.isStrOf]
theorem aXs (a b:Int):decide ((Sum.inl a:Key)=Sum.inl b)=(a == b):=by
 by_cases e:a=b
 ·subst e;simp
 ·have h:¬ (Sum.inl a:Key)=Sum.inl b:=fun q=>e (Sum.inl.inj q)
  rw [decide_eq_false h]
  exact (beq_eq_false_iff_ne.mpr e).symm
theorem aW7 (a b:Str):decide ((Sum.inr a:Key)=Sum.inr b)=decide (a=b):=by
 by_cases e:a=b
 ·subst e;simp
 ·have h:¬ (Sum.inr a:Key)=Sum.inr b:=fun q=>e (Sum.inr.inj q)
  rw [decide_eq_false h,decide_eq_false e]
theorem aXl (a:Int) (b:Str):decide ((Sum.inl a:Key)=Sum.inr b)=false:=decide_eq_false (fun q=>nomatch q)
theorem aV5 (a:Str) (b:Int):decide ((Sum.inr a:Key)=Sum.inl b)=false:=decide_eq_false (fun q=>nomatch q)
def cU (prog:Program) (w:World):PySem.KeyKind prog w Key where
 is:=aBr
 hash:=bAa w
 inj:=fun v a b ha hb=>by
  rcases eU ha with ⟨i,t,rfl,rfl⟩|⟨x,t,rfl,rfl⟩
  ·rcases eU hb with ⟨j,u,rfl,e⟩|⟨y,u,rfl,e⟩
   ·injection e with e1 _;rw [e1]
   ·exact nomatch e
  ·rcases eU hb with ⟨j,u,rfl,e⟩|⟨y,u,rfl,e⟩
   ·exact nomatch e
   ·injection e with e1 _;rw [e1]
 byValue:=fun k v h=>by
  rcases eU h with ⟨i,t,rfl,rfl⟩|⟨x,t,rfl,rfl⟩ <;> rfl
 pyHash:=fun hv h=>by
  rcases eU hv with ⟨i,t,rfl,rfl⟩|⟨x,t,rfl,rfl⟩
  ·exact wpAny_pyHash_int h
  ·exact wpAny_pyHash_str h
 eqBool:=fun hu hv h=>by
  rcases eU hu with ⟨i,t,rfl,rfl⟩|⟨x,t,rfl,rfl⟩
  ·rcases eU hv with ⟨j,u,rfl,rfl⟩|⟨y,u,rfl,rfl⟩
   ·rw [aXs] at h;exact wpAny_eqBool_int h
   ·rw [aXl] at h;exact SeqAt.EqAt.int_str i t y u _ _ _ _ h
  ·rcases eU hv with ⟨j,u,rfl,rfl⟩|⟨y,u,rfl,rfl⟩
   ·rw [aV5] at h;exact SeqAt.EqAt.str_int x t j u _ _ _ _ h
   ·rw [aW7] at h;exact wpAny_eqBool_str h
 «strs»:=fun k x t v h=>by
  rcases eU h with ⟨i,u,rfl,e⟩|⟨y,u,rfl,e⟩
  ·exact nomatch e
  ·injection e with e1 _
   subst e1
   cases v <;> rfl
theorem aJg (prog:Program) (w:World) (i:Int) (t:Tok):(cU prog w).is (.inl i) (.int i t)=true:=aPv i t
theorem aI7 (prog:Program) (w:World) (x:Str) (t:Tok):(cU prog w).is (.inr x) (.str x t)=true:=aP5 x t
inductive V where
 |non|bl (b:Bool)|int (i:Int)|str (x:Str)|byt (b:Array UInt8)|flt (b:UInt64)|ref (a:Addr)|ty (n:String)
 deriving DecidableEq
def RelV:V→Value→Prop
 |.non,u=>u=Value.none
 |.bl b,u=>u=Value.bool b
 |.int i,u=>∃t,u=Value.int i t
 |.str x,u=>∃t,u=Value.str x t
 |.byt b,u=>∃t,u=Value.bytes b t
 |.flt b,u=>∃t,u=Value.float b t
 |.ref a,u=>u=Value.ref a
 |.ty n,u=>u=Value.type n
abbrev Vals:List V→List Value→Prop:=Paired RelV
theorem Vals.length {xs:List V} {us:List Value} (r:Vals xs us):xs.length=us.length:=Paired.length r
theorem Vals.get:∀{xs:List V} {us:List Value} {i:Nat} {x:V},Vals xs us→xs[i]?=some x→∃u,us[i]?=some u∧RelV x u
 |_,_,_,_,.nil,e=>by simp at e
 |_,_,0,_,.cons r _,e=>by simp at e;subst e;exact ⟨_,rfl,r⟩
 |_,_,i+1,x,.cons _ t,e=>by
  obtain ⟨u,h1,h2⟩:=Vals.get (i:=i) (x:=x) t (by simpa using e)
  exact ⟨u,by simpa using h1,h2⟩
theorem Vals.set {x:V} {u:Value} (r:RelV x u):∀{xs:List V} {us:List Value} (i:Nat),Vals xs us→Vals (xs.set i x) (us.set i u)
 |_,_,_,.nil=>.nil
 |_,_,0,.cons _ t=>.cons r t
 |_,_,i+1,.cons q t=>.cons q (Vals.set r i t)
theorem Vals.append:∀{xs ys:List V} {us ws:List Value},Vals xs us→Vals ys ws→Vals (xs++ys) (us++ws)
 |_,_,_,_,.nil,s=>s
 |_,_,_,_,.cons r t,s=>.cons r (Vals.append t s)
theorem Vals.take:∀{xs:List V} {us:List Value} (n:Nat),Vals xs us→Vals (xs.take n) (us.take n)
 |_,_,0,_=>.nil
 |_,_,_+1,.nil=>.nil
 |_,_,n+1,.cons r t=>.cons r (Vals.take n t)
theorem Vals.drop:∀{xs:List V} {us:List Value} (n:Nat),Vals xs us→Vals (xs.drop n) (us.drop n)
 |_,_,0,r=>r
 |_,_,_+1,.nil=>.nil
 |_,_,n+1,.cons _ t=>Vals.drop n t
def aDh:Option V→Option Value→Prop
 |some v,some u=>RelV v u
 |none,none=>True
 |_,_=>False
def KV {κ:Type}:List (κ × V)→List (κ × Value)→Prop:=Paired fun (p:κ × V) (q:κ × Value)=>p.1=q.1∧RelV p.2 q.2
def kV:Key→V
 |.inl i=>.int i
 |.inr x=>.str x
inductive HO where
  |lst (xs:List V)
  |tup (xs:List V)
  |dK (kvs:List (Key × V))|dT (kvs:List (List Key × V))
  |set (S:Int→Bool) (n:Nat)
  |ins (C dx:Addr) (fs:List (Str × V))
  |own (x:Addr)
  |xd (fs:List (Str × V))
  |met (f x:Addr)
  |rng (lo hi:Int)
  |frz (o:Obj) (u:HO)
  |tbl (ps:Array Value)
  |ext (φ:Heap→Prop)
abbrev Hp:=Addr→Option HO
def upd (H:Hp) (a:Addr) (o:HO):Hp:=fun b=>if b=a then some o else H b
theorem aU {H:Hp} {a:Addr} {o:HO}:upd H a o a=some o:=by unfold upd;rw [if_pos rfl]
theorem bH {H:Hp} {a b:Addr} {o:HO} (h:b≠a):upd H a o b=H b:=by unfold upd;rw [if_neg h]
theorem aUq {H:Hp} {a:Addr} {o u:HO}:upd (upd H a o) a u=upd H a u:=by
 funext b;unfold upd;split <;> rfl
theorem xF {H:Hp} {a b:Addr} {o u:HO} (h:H a=some o) (h':H b=some u) (d:o≠u):a≠b:=by
 intro e;subst e;rw [h] at h';exact d (Option.some.inj h')
theorem bF {H:Hp} {a b:Addr} {o:HO} (h:H a=some o) (h':H b=none):a≠b:=by
 intro e;subst e;rw [h] at h';cases h'
def yQ (h:Heap) (a:Addr) (items:Array Value):Prop:=IsTup h a items∧∀o,h.get? a=some o→o.dict=none
theorem yQ.of {h:Heap} {a:Addr} {items:Array Value} {o:Obj} (e:h.get? a=some o) (d:o.dict=none) (x:IsTup h a items):yQ h a items:=⟨x,fun o' e'=>by rw [e] at e';cases e';exact d⟩
theorem yQ.new (h:Heap) (items:Array Value):yQ (h.push { cls:=.type "tuple",data:=.seq items }) h.objs.size items:=.of (Heap.get?_push_size _ rfl) rfl (IsTup.new _ _)
theorem yQ.keep {h h':Heap} {a:Addr} {items:Array Value} (x:yQ h a items) (k:∀o,h.get? a=some o→h'.get? a=some o):yQ h' a items:=by
 obtain ⟨⟨o,e,c⟩,d⟩:=x
 exact .of (k o e) (d o e) ⟨o,k o e,c⟩
section
variable (P:Program) (w:World)
def iM (H:Hp) (h:Heap) (a:Addr):HO→Prop
 |.lst xs=>xs.length≤sizeLine∧∃(its:List Value) (n:Nat),Vals xs its∧h.get? a=some { cls:=.type "list",data:=.seq its.toArray n }
 |.tup xs=>xs.length≤sizeLine∧∃its:List Value,Vals xs its∧yQ h a its.toArray
 |.dK kvs=>kvs.length≤sizeLine∧(a == sysModules)=false∧∃vs,KV kvs vs∧h.DictOf (cU P w) a vs
 |.dT kvs=>kvs.length≤sizeLine∧(a == sysModules)=false∧∃xs:List (List Key × Addr × Value),
   Paired (fun (p:List Key × V) (q:List Key × Addr × Value)=>p.1=q.1∧H q.2.1=some (.tup (p.1.map kV))∧RelV p.2 q.2.2) kvs xs ∧
   ∃o es ep,h.get? a=some o∧o.ExactDict∧o.data=.dict es ep∧es.toList=xs.map (entryOfKey (tupleKind (cU P w)))∧(xs.map (·.1)).Nodup
 |.set S n=>h.SetOf (intKind P w) a S n
 |.ins C dx fs=>H dx=some (.own a)∧fs.length≤1000∧dx≠a∧h.get? a=some (PySem.W.instObj C dx) ∧
   ∃mA,h.Ns1 dx mA∧(∀f,aDh (fs.lookup f) (mA f))∧PySem.Within mA (fs.map (·.1))
 |.own _=>∃o,h.get? a=some o
 |.xd fs=>∃mA,h.Ns1 a mA∧∀f,aDh (fs.lookup f) (mA f)
 |.rng lo hi=>∃t u v,h.get? a=some { cls:=.type "range",data:=.fields #[.int lo t,.int hi u,.int 1 v] }
 |.frz o u=>h.get? a=some o∧iM H h a u
 |.tbl ps=>h.get? a=some { cls:=.none,data:=.fields ps }
 |.met f x=>h.get? a=some (PySem.W.methodObj (.ref f) (.ref x))
 |.ext φ=>φ h∧(∃o,h.get? a=some o)∧∀h1 h2:Heap,φ h1→(∀o,h1.get? a=some o→h2.get? a=some o)→φ h2
def HOk (H:Hp) (h:Heap):Prop:=∀a o,H a=some o→iM P w H h a o
end
section
variable {P:Program} {w:World} {H H':Hp} {h h':Heap} {a:Addr} {o:HO}
theorem iM.lt (x:iM P w H h a o):a<h.objs.size:=by
 cases o with
 |lst xs=>obtain ⟨_,_,_,_,e⟩:=x;exact Heap.lt_size e
 |tup xs=>obtain ⟨_,_,_,p⟩:=x;exact p.1.lt
 |dK kvs=>obtain ⟨_,_,_,_,o,_,_,e,_⟩:=x;exact Heap.lt_size e
 |dT kvs=>obtain ⟨_,_,_,_,o,_,_,e,_⟩:=x;exact Heap.lt_size e
 |set S n=>obtain ⟨o,_,_,_,e,_⟩:=x;exact Heap.lt_size e
 |ins C dx fs=>obtain ⟨_,_,_,e,_⟩:=x;exact Heap.lt_size e
 |own y=>obtain ⟨_,e⟩:=x;exact Heap.lt_size e
 |xd fs=>obtain ⟨_,⟨_,_,_,e,_⟩,_⟩:=x;exact Heap.lt_size e
 |rng lo hi=>obtain ⟨_,_,_,e⟩:=x;exact Heap.lt_size e
 |frz ob u=>obtain ⟨e,_⟩:=x;exact Heap.lt_size e
 |tbl ps=>exact Heap.lt_size (show h.get? a=some _ from x)
 |met f y=>exact Heap.lt_size (show h.get? a=some _ from x)
 |ext φ=>obtain ⟨_,⟨_,e⟩,_⟩:=x;exact Heap.lt_size e
theorem Paired.aX9 {α β:Type} {F G:α→β→Prop}:∀{l₁:List α} {l₂:List β},Paired F l₁ l₂→(∀a b,F a b→G a b)→Paired G l₁ l₂
 |_,_,.nil,_=>.nil
 |_,_,.cons r t,f=>.cons (f _ _ r) (Paired.aX9 t f)
theorem iM.stay (x:iM P w H h a o) (k:∀b u,(b=a∨H b=some (.own a))→h.get? b=some u→h'.get? b=some u)
  (ho:∀b,H b=some (.own a)→H' b=some (.own a)) (ht:∀b xs,H b=some (.tup xs)→H' b=some (.tup xs)):iM P w H' h' a o:=by
 induction o with
 |lst xs=>obtain ⟨z,its,n,r,e⟩:=x;exact ⟨z,its,n,r,k _ _ (.inl rfl) e⟩
 |tup xs=>obtain ⟨z,its,r,p⟩:=x;exact ⟨z,its,r,p.keep fun o e=>k _ _ (.inl rfl) e⟩
 |dK kvs=>obtain ⟨z,y,vs,r,ob,es,ep,e,c⟩:=x;exact ⟨z,y,vs,r,ob,es,ep,k _ _ (.inl rfl) e,c⟩
 |dT kvs=>
  obtain ⟨z,y,xs,r,ob,es,ep,e,c⟩:=x
  exact ⟨z,y,xs,Paired.aX9 r fun p q z=>⟨z.1,ht _ _ z.2.1,z.2.2⟩,ob,es,ep,k _ _ (.inl rfl) e,c⟩
 |set S n=>obtain ⟨ob,es,ep,t,e,c⟩:=x;exact ⟨ob,es,ep,t,k _ _ (.inl rfl) e,c⟩
 |ins C dx fs=>
  obtain ⟨d,z,ne,e,mA,⟨od,es,ep,e2,c⟩,r⟩:=x
  exact ⟨ho _ d,z,ne,k _ _ (.inl rfl) e,mA,⟨od,es,ep,k _ _ (.inr d) e2,c⟩,r⟩
 |own y=>obtain ⟨ob,e⟩:=x;exact ⟨ob,k _ _ (.inl rfl) e⟩
 |xd fs=>obtain ⟨mA,⟨od,es,ep,e,c⟩,r⟩:=x;exact ⟨mA,⟨od,es,ep,k _ _ (.inl rfl) e,c⟩,r⟩
 |rng lo hi=>obtain ⟨t,u,v,e⟩:=x;exact ⟨t,u,v,k _ _ (.inl rfl) e⟩
 |frz ob u ih=>obtain ⟨e,q⟩:=x;exact ⟨k _ _ (.inl rfl) e,ih q⟩
 |tbl ps=>
  have e:h.get? a=some { cls:=.none,data:=.fields ps }:=x
  show h'.get? a=some { cls:=.none,data:=.fields ps }
  exact k a _ (.inl rfl) e
 |met f y=>
  have e:h.get? a=some (PySem.W.methodObj (.ref f) (.ref y)):=x
  show h'.get? a=some (PySem.W.methodObj (.ref f) (.ref y))
  exact k a _ (.inl rfl) e
 |ext φ=>obtain ⟨p,⟨o,e⟩,st⟩:=x;exact ⟨st _ _ p fun o q=>k _ _ (.inl rfl) q,⟨o,k _ _ (.inl rfl) e⟩,st⟩
theorem HOk.lt (x:HOk P w H h) (e:H a=some o):a<h.objs.size:=(x a o e).lt
theorem HOk.fresh (x:HOk P w H h) (e:h.objs.size≤a):H a=none:=by
 cases q:H a with
 |none=>rfl
 |some u=>exact absurd (Nat.lt_of_lt_of_le (x.lt q) e) (Nat.lt_irrefl _)
theorem HOk.kept (x:HOk P w H h) (k:∀b u,h.get? b=some u→h'.get? b=some u):HOk P w H h':=fun a o e=>
 (x a o e).stay (fun b u _ q=>k b u q) (fun _ q=>q) fun _ _ q=>q
theorem HOk.laid (x:HOk P w H h) (k:∀b u,h.get? b=some u→h'.get? b=some u) (hp:h.objs.size≤a) (new:iM P w (upd H a o) h' a o):HOk P w (upd H a o) h':=fun b u e=>by
 have hn:=x.fresh hp
 by_cases hb:b=a
 ·subst hb;rw [aU] at e;cases e;exact new
 ·rw [bH hb] at e
  exact (x b u e).stay (fun c v _ q=>k c v q) (fun c q=>by rw [bH (bF q hn)];exact q) fun c xs q=>by rw [bH (bF q hn)];exact q
end
def Rd (H:Hp) (a:Addr) (u:HO):Prop:=H a=some u∨∃o,H a=some (.frz o u)
theorem Rd.ok {P:Program} {w:World} {H:Hp} {h:Heap} {a:Addr} {u:HO} (r:Rd H a u) (x:HOk P w H h):iM P w H h a u:=by
 rcases r with r|⟨o,r⟩
 ·exact x a u r
 ·obtain ⟨_,q⟩:=x a _ r
  exact q
def Mut:Option HO→Prop
 |some (.lst _)=>True
 |some (.dK _)=>True
 |some (.dT _)=>True
 |some (.set _ _)=>True
 |some (.ins _ _ _)=>True
 |some (.ext _)=>True
 |_=>False
section
variable {P:Program} {w:World} {H:Hp} {h h':Heap} {x e:Addr} {o':HO}
theorem HOk.write (ok:HOk P w H h) (mu:Mut (H x)) (he:e=x∨H e=some (.own x)) (k:∀b u,b≠e→h.get? b=some u→h'.get? b=some u) (heo:∃u,h'.get? e=some u)
  (new:iM P w (upd H x o') h' x o'):HOk P w (upd H x o') h':=fun b u q=>by
 have nown:∀c y,H c=some (.own y)→c≠x:=fun c y r z=>by subst z;rw [r] at mu;exact mu
 have ntup:∀c xs,H c=some (.tup xs)→c≠x:=fun c xs r z=>by subst z;rw [r] at mu;exact mu
 by_cases hb:b=x
 ·subst hb;rw [aU] at q;cases q;exact new
 ·rw [bH hb] at q
  by_cases hbe:b=e
  ·have q':H b=some (.own x):=by
    rcases he with z|z
    ·exact absurd (hbe.trans z) hb
    ·rw [hbe];exact z
   rw [q] at q';cases q'
   obtain ⟨v,hv⟩:=heo
   exact ⟨v,by rw [hbe];exact hv⟩
  ·refine (ok b u q).stay (fun c v hc r=>k c v ?_ r) (fun c r=>by rw [bH (nown c b r)];exact r) fun c xs r=>by rw [bH (ntup c xs r)];exact r
   rcases hc with rfl|hc
   ·exact hbe
   ·rintro rfl
    rcases he with z|z
    ·exact nown c b hc z
    ·rw [hc] at z;cases z;exact hb rfl
end
structure Un (fs ex:List Addr) (H H':Hp) (h h':Heap):Prop where
 keep:∀b o,h.get? b=some o→H b=none→b∉fs→b∉ex→h'.get? b=some o
 slot:∀b o,h.get? b=some o→H b=none→b∈fs→b∉ex→∃sl,h'.get? b=some { o with slots:=sl }
 free:∀b o,h.get? b=some o→H b=none→b∉ex→H' b=none
 there:∀b o,h.get? b=some o→b∉ex→∃o',h'.get? b=some o'
 tups:∀b xs,H b=some (.tup xs)→H' b=some (.tup xs)
 frzs:∀b o u,H b=some (.frz o u)→H' b=some (.frz o u)
 tbls:∀b ps,H b=some (.tbl ps)→∃more,H' b=some (.tbl (ps++more))
section
variable {fs fs' ex ex':List Addr} {H H1 H2:Hp} {h h1 h2 h':Heap} {a x e:Addr} {o:HO}
theorem Un.any (u:Un fs ex H H1 h h1) {b:Addr} {ob:Obj} (q:h.get? b=some ob) (n:H b=none) (hx:b∉ex):∃sl,h1.get? b=some { ob with slots:=sl }:=by
 by_cases hb:b∈fs
 ·exact u.slot b ob q n hb hx
 ·exact ⟨ob.slots,u.keep b ob q n hb hx⟩
theorem Un.kept (k:∀b u,h.get? b=some u→h'.get? b=some u):Un fs ex H H h h':=
 ⟨fun b ob q _ _ _=>k b ob q,fun b ob q _ _ _=>⟨ob.slots,k b ob q⟩,fun _ _ _ n _=>n,fun b ob q _=>⟨ob,k b ob q⟩,fun _ _ q=>q,fun _ _ _ q=>q,fun _ ps q=>⟨#[],by rw [q];simp⟩⟩
theorem Un.refl:Un fs ex H H h h:=Un.kept fun _ _ q=>q
theorem Un.laid (k:∀b u,h.get? b=some u→h'.get? b=some u) (hp:h.objs.size≤a) (hn:H a=none):Un fs ex H (upd H a o) h h' where
 keep:=fun b u q _ _ _=>k b u q
 slot:=fun b u q _ _ _=>⟨u.slots,k b u q⟩
 free:=fun b u q n _=>by rw [bH (Nat.ne_of_lt (Nat.lt_of_lt_of_le (Heap.lt_size q) hp))];exact n
 there:=fun b u q _=>⟨u,k b u q⟩
 tups:=fun b xs q=>by rw [bH (bF q hn)];exact q
 frzs:=fun b u xs q=>by rw [bH (bF q hn)];exact q
 tbls:=fun b ps q=>⟨#[],by rw [bH (bF q hn),q];simp⟩
theorem Un.write (mu:Mut (H x)) (he:e=x∨H e=some (.own x)) (k:∀b u,b≠e→h.get? b=some u→h'.get? b=some u) (heo:∃u,h'.get? e=some u):Un fs ex H (upd H x o) h h':=by
 have hx:∀b,H b=none→b≠x:=fun b n z=>by subst z;rw [n] at mu;exact mu
 have hb:∀b,H b=none→b≠e:=fun b n z=>by
  subst z
  rcases he with r|r
  ·exact hx b n r
  ·rw [n] at r;cases r
 have hm:∀b u,H b=some u→¬ Mut (some u)→b≠x:=fun b u q nm z=>by subst z;rw [q] at mu;exact nm mu
 refine ⟨fun b u q n _ _=>k b u (hb b n) q,fun b u q n _ _=>⟨u.slots,k b u (hb b n) q⟩,fun b u q n _=>by rw [bH (hx b n)];exact n,fun b u q _=>?_,
  fun b xs q=>by rw [bH (hm b _ q fun z=>z)];exact q,fun b u xs q=>by rw [bH (hm b _ q fun z=>z)];exact q,fun b ps q=>⟨#[],by rw [bH (hm b _ q fun z=>z),q];simp⟩⟩
 by_cases hbe:b=e
 ·subst hbe;exact heo
 ·exact ⟨u,k b u hbe q⟩
end
def trk (h:Heap) (H:Hp):List Addr:=(List.range h.objs.size).filter fun a=>(H a).isSome
def aG8 (h:Heap) (H:Hp):Heap:=PySem.W.hideAll h (trk h H)
theorem aPd (h:Heap) (H:Hp):(aG8 h H).objs.size=h.objs.size:=PySem.W.hideAll_size _ _
theorem aQ6 {h:Heap} {H:Hp} {b:Addr} {o:Obj} (e:h.get? b=some o) (n:H b=none):(aG8 h H).get? b=some o:=
 PySem.W.hideAll_get _ e fun hm=>by
  have q:(H b).isSome=true:=(List.mem_filter.mp hm).2
  rw [n] at q;simp at q
theorem aTh {h:Heap} {H:Hp} {b:Addr} {o:Obj} (e:(aG8 h H).get? b=some o):h.get? b=some o∧H b=none:=by
 have e':h.get? b=some o:=PySem.W.of_hideAll (trk h H) e
 refine ⟨e',?_⟩
 cases q:H b with
 |none=>rfl
 |some x=>
  have hm:b∈trk h H:=List.mem_filter.mpr ⟨List.mem_range.mpr (Heap.lt_size e'),by simp [q]⟩
  have z:(aG8 h H).get? b=none:=PySem.W.hideAll_none (trk h H) hm
  rw [z] at e;cases e
structure Mod (K:PySem.W.Frag) (mg:Str→Option Value) (base:Heap):Prop where
 kin:K.In base
 glob:base.Ns mainGlobals mg
 blt:∃mb,base.Ns builtinsNs mb∧∀x:Str,x≠"__name__"→mb x=bootBuiltins x
 nolimit:base.NoLimit
structure Cx where
 prog:Program
 w:World
 K:PySem.W.Frag
 mg:Str→Option Value
 base:Heap
 A:Around
 N:List Str
 s₀:Shared
 H₀:Hp
 env:Env
 outer:List Env
 stack:List Env
 ex:List Addr
 fn:Str→Bool
 calm:Bool
 pn:List (Addr × Obj)
 xe:Value→Shared→Prop
def frs (l:List Env):List Addr:=l.filterMap (·.frame)
abbrev Cx.fs (X:Cx):List Addr:=frs X.outer
def Vis (sc:Scope) (x:Str):Prop:=sc.names.lookup x=some .local∨sc.names.lookup x=some .cell∨sc.names.lookup x=some .free
def Loc (sc:Scope) (x:Str):Prop:=sc.names.lookup x=some .local∨sc.names.lookup x=some .cell
def Look (env:Env) (h:Heap) (m:Str→Option Value) (x:Str) (u:Value):Prop:=
 (env.kindOf x=some .local∧m x=some u)∨((env.kindOf x=some .cell∨env.kindOf x=some .free)∧∃c,env.cells.lookup x=some c∧h.IsCell c (some u))
structure Cx.Ok (X:Cx):Prop where
 mod:Mod X.K X.mg X.base
 kind:X.env.scope.kind=.function
 glob:X.env.globals=mainGlobals
 blt:X.env.builtins=builtinsNs
 above:X.s₀.heap.objs.size≤X.env.locals
 inj:∀x y c,X.env.cells.lookup x=some c→X.env.cells.lookup y=some c→x=y
 has:∀x,(X.env.kindOf x=some .cell∨X.env.kindOf x=some .free)→∃c,X.env.cells.lookup x=some c
 cab:∀x c,X.fn x=true→X.env.cells.lookup x=some c→X.s₀.heap.objs.size≤c
 hd:X.calm=true→X.A.handled=none
 frames:X.A.frames=some X.stack
 stk:X.stack=X.outer∨(X.stack=X.env::X.outer∧X.env.frame=some X.env.locals)
 exf:∀b∈X.ex,b≠X.env.locals∧∀x c,X.env.cells.lookup x=some c→c≠b
 bs:∀b o,X.base.get? b=some o→X.s₀.heap.get? b=some o∧X.H₀ b=none
 bsz:X.base.objs.size≤X.s₀.heap.objs.size
 noex:∀b o,X.base.get? b=some o→b∉X.ex
 exfs:∀b∈X.ex,b∉X.fs
 funs:X.s₀.heap.FunFrames X.base X.outer
 frf:∀b∈X.fs,X.H₀ b=none
structure Inv (X:Cx) (pins:List (Addr × Obj)) (σ:List (Option V)) (H:Hp) (s:Shared):Prop where
 ok:X.Ok
 os:s.os=X.s₀.os
 bare:AllBare s.gens
 base:Un X.fs X.ex X.H₀ H X.s₀.heap s.heap
 loc:∃m,s.heap.Ns X.env.locals m∧∀(i:Nat) (x:Str) (v:V),X.N[i]?=some x→σ[i]?=some (some v)→Vis X.env.scope x→∃u,RelV v u∧Look X.env s.heap m x u
 cell:∀x c,X.env.cells.lookup x=some c→∃v,s.heap.IsCell c v
 free:H X.env.locals=none
 freeC:∀x c,X.env.cells.lookup x=some c→H c=none
 pin:∀p∈X.pn++pins,s.heap.get? p.1=some p.2∧H p.1=none∧p.1≠X.env.locals∧p.1∉X.fs∧∀v,p.2.data≠.cell v
 hok:HOk X.prog X.w H s.heap
 len:σ.length=X.N.length
section
variable {X:Cx} {pins:List (Addr × Obj)} {σ:List (Option V)} {H H':Hp} {s:Shared} {h':Heap}
theorem Cx.Ok.nofr (ok:X.Ok) {b:Addr} {o:Obj} (e:X.base.get? b=some o):b∉X.fs:=fun hb=>by
 have:=(ok.funs.mem hb).1
 rw [e] at this;cases this
theorem Inv.bs (I:Inv X pins σ H s):∀b o,X.base.get? b=some o→s.heap.get? b=some o∧H b=none:=fun b o e=>
 ⟨I.base.keep b o (I.ok.bs b o e).1 (I.ok.bs b o e).2 (I.ok.nofr e) (I.ok.noex b o e),I.base.free b o (I.ok.bs b o e).1 (I.ok.bs b o e).2 (I.ok.noex b o e)⟩
theorem Inv.bk (I:Inv X pins σ H s):∀b o,X.base.get? b=some o→s.heap.get? b=some o:=fun b o e=>(I.bs b o e).1
theorem Inv.mod (I:Inv X pins σ H s):Mod X.K X.mg X.base:=I.ok.mod
theorem Inv.kIn (I:Inv X pins σ H s):X.K.In s.heap:=I.ok.mod.kin.keeps I.bk
theorem Inv.lt (I:Inv X pins σ H s):X.env.locals<s.heap.objs.size:=let ⟨_,hn,_⟩:=I.loc;hn.lt
theorem Inv.sz (I:Inv X pins σ H s):X.s₀.heap.objs.size≤s.heap.objs.size:=Nat.le_trans I.ok.above (Nat.le_of_lt I.lt)
theorem Inv.nofs (I:Inv X pins σ H s) {a:Addr} (h:s.heap.objs.size≤a):a∉X.fs:=fun hb=>by
 obtain ⟨_,o,ho,_⟩:=I.ok.funs.mem hb
 exact absurd (Nat.lt_of_lt_of_le (Heap.lt_size ho) (Nat.le_trans I.sz h)) (Nat.lt_irrefl _)
theorem Inv.cne (I:Inv X pins σ H s):∀x c,X.env.cells.lookup x=some c→c≠X.env.locals:=fun x c e z=>by
 obtain ⟨v,o,ho,hd⟩:=I.cell x c e
 obtain ⟨m,⟨o',es,ep,ho',hd',_⟩,_⟩:=I.loc
 rw [z,ho'] at ho;cases ho;rw [hd'] at hd;cases hd
theorem Inv.funs (I:Inv X pins σ H s):s.heap.FunFrames X.base X.outer:=by
 have all:∀(l:List Env),(∀b∈frs l,b∈X.fs)→X.s₀.heap.FunFrames X.base l→s.heap.FunFrames X.base l:=by
  intro l
  induction l with
  |nil=>intro _ _;trivial
  |cons env r ih=>
   intro hs hl
   obtain ⟨hk,⟨L,o,hf,hn,ho,hd⟩,hr⟩:=hl
   have hL:L∈X.fs:=hs L (by unfold frs;rw [List.filterMap_cons,hf];exact List.mem_cons_self)
   obtain ⟨sl,e⟩:=I.base.slot L o ho (I.ok.frf L hL) hL fun z=>I.ok.exfs L z hL
   exact ⟨hk,⟨L,_,hf,hn,e,hd⟩,ih (fun b hb=>hs b (by unfold frs;rw [List.filterMap_cons,hf];exact List.mem_cons_of_mem _ hb)) hr⟩
 exact all X.outer (fun _ hb=>hb) I.ok.funs
theorem Inv.stack (I:Inv X pins σ H s):s.heap.FunFrames X.base X.stack:=by
 rcases I.ok.stk with e|⟨e,hf⟩
 ·rw [e];exact I.funs
 ·rw [e]
  obtain ⟨m,hn,_⟩:=I.loc
  refine .cons (by rw [I.ok.kind];decide) hf hn ?_ I.funs
  exact Heap.get?_none_of_le (Nat.le_trans I.ok.bsz I.ok.above)
theorem Inv.aLd (I:Inv X pins σ H s):∀b∈frs X.stack,b∈X.env.locals::X.fs:=fun b hb=>by
 rcases I.ok.stk with e|⟨e,hf⟩
 ·rw [e] at hb;exact List.mem_cons_of_mem _ hb
 ·rw [e] at hb
  unfold frs at hb
  rw [List.filterMap_cons,hf] at hb
  exact hb
theorem Inv.aMv (I:Inv X pins σ H s):∀b∈frs X.stack,H b=none:=fun b hb=>by
 rcases List.mem_cons.mp (I.aLd b hb) with e|hb
 ·rw [e];exact I.free
 ·obtain ⟨_,o,ho,_⟩:=I.ok.funs.mem hb
  exact I.base.free b o ho (I.ok.frf b hb) fun z=>I.ok.exfs b z hb
theorem Inv.step {g':Array GenState} {t':Nat} {d':Drawn} {ch:List Addr} (I:Inv X pins σ H s)
  (hch:∀b∈ch,(b∈X.ex∨X.s₀.heap.objs.size≤b)∧b≠X.env.locals∧(∀x c,X.env.cells.lookup x=some c→c≠b)∧∀p∈X.pn++pins,p.1≠b)
  (keep:∀b o,b≠X.env.locals→b∉X.fs→b∉ch→s.heap.get? b=some o→H b=none→h'.get? b=some o)
  (slot:∀b o,b≠X.env.locals→b∈X.fs→b∉ch→s.heap.get? b=some o→H b=none→∃sl,h'.get? b=some { o with slots:=sl }) (free:∀b o,b∉ch→s.heap.get? b=some o→H b=none→H' b=none)
  (there:∀b o,b∉ch→s.heap.get? b=some o→∃o',h'.get? b=some o')
  (tups:∀b xs,H b=some (.tup xs)→H' b=some (.tup xs)) (frzs:∀b o u,H b=some (.frz o u)→H' b=some (.frz o u)) (tbls:∀b ps,H b=some (.tbl ps)→∃more,H' b=some (.tbl (ps++more)))
  (ns:∀m,s.heap.Ns X.env.locals m→h'.Ns X.env.locals m) (hok:HOk X.prog X.w H' h') (hg:AllBare g') :
  Inv X pins σ H' { s with heap:=h',gens:=g',drawn:=d',toks:=t' }:=by
 have neL:∀b o,X.s₀.heap.get? b=some o→b≠X.env.locals:=fun b o e=>Nat.ne_of_lt (Nat.lt_of_lt_of_le (Heap.lt_size e) I.ok.above)
 have neC:∀b o,X.s₀.heap.get? b=some o→b∉X.ex→b∉ch:=fun b o e hx hb=>by
  rcases (hch b hb).1 with z|z
  ·exact hx z
  ·exact absurd (Nat.lt_of_lt_of_le (Heap.lt_size e) z) (Nat.lt_irrefl _)
 have cellK:∀x c,X.env.cells.lookup x=some c→∀v,s.heap.IsCell c v→h'.IsCell c v:=fun x c e v ⟨o,ho,hd⟩=>by
  have nch:c∉ch:=fun z=>(hch c z).2.2.1 x c e rfl
  by_cases hc:c∈X.fs
  ·obtain ⟨sl,q⟩:=slot c o (I.cne x c e) hc nch ho (I.freeC x c e)
   exact ⟨_,q,hd⟩
  ·exact ⟨o,keep c o (I.cne x c e) hc nch ho (I.freeC x c e),hd⟩
 refine ⟨I.ok,I.os,hg,⟨fun b o e n hb hx=>?_,fun b o e n hb hx=>?_,fun b o e n hx=>?_,fun b o e hx=>?_,fun b xs e=>tups b xs (I.base.tups b xs e),fun b o xs e=>frzs b o xs (I.base.frzs b o xs e),fun b ps e=>?_⟩,?_,fun x c e=>?_,?_,fun x c e=>?_,fun p hp=>?_,hok,I.len⟩
 ·exact keep b o (neL b o e) hb (neC b o e hx) (I.base.keep b o e n hb hx) (I.base.free b o e n hx)
 ·obtain ⟨sl,e1⟩:=I.base.slot b o e n hb hx
  obtain ⟨sl',e2⟩:=slot b _ (neL b o e) hb (neC b o e hx) e1 (I.base.free b o e n hx)
  exact ⟨sl',e2⟩
 ·obtain ⟨o',e1⟩:=I.base.there b o e hx
  exact free b o' (neC b o e hx) e1 (I.base.free b o e n hx)
 ·obtain ⟨o',e1⟩:=I.base.there b o e hx
  exact there b o' (neC b o e hx) e1
 ·obtain ⟨m1,e1⟩:=I.base.tbls b ps e
  obtain ⟨m2,e2⟩:=tbls b _ e1
  exact ⟨m1++m2,by rw [e2,Array.append_assoc]⟩
 ·obtain ⟨m,hn,hl⟩:=I.loc
  refine ⟨m,ns m hn,fun i x v e1 e2 e3=>?_⟩
  obtain ⟨u,r,l⟩:=hl i x v e1 e2 e3
  refine ⟨u,r,?_⟩
  rcases l with l|⟨k,c,e,z⟩
  ·exact .inl l
  ·exact .inr ⟨k,c,e,cellK x c e _ z⟩
 ·obtain ⟨v,z⟩:=I.cell x c e
  exact ⟨v,cellK x c e v z⟩
 ·obtain ⟨m,⟨o,_,_,ho,_⟩,_⟩:=I.loc
  exact free _ o (fun z=>(hch _ z).2.1 rfl) ho I.free
 ·obtain ⟨v,o,ho,hd⟩:=I.cell x c e
  exact free c o (fun z=>(hch c z).2.2.1 x c e rfl) ho (I.freeC x c e)
 ·obtain ⟨e,n,ne,nf,d⟩:=I.pin p hp
  have nch:p.1∉ch:=fun z=>(hch p.1 z).2.2.2 p hp rfl
  exact ⟨keep p.1 p.2 ne nf nch e n,free p.1 p.2 nch e n,ne,nf,d⟩
theorem Inv.un {t':Nat} (I:Inv X pins σ H s) (u:Un X.fs [] H H' s.heap h') (hok:HOk X.prog X.w H' h'):Inv X pins σ H' { s with heap:=h',toks:=t' }:=by
 obtain ⟨m,⟨o,es,ep,ho,r⟩,_⟩:=id I.loc
 obtain ⟨sl,hL⟩:=u.any ho I.free (by simp)
 exact I.step (g':=s.gens) (d':=s.drawn) (ch:=[]) (fun _ z=>nomatch z) (fun b o _ hb _ e n=>u.keep b o e n hb (by simp)) (fun b o _ hb _ e n=>u.slot b o e n hb (by simp)) (fun b o _ e n=>u.free b o e n (by simp)) (fun b o _ e=>u.there b o e (by simp)) u.tups u.frzs u.tbls (fun m' hm=>by
  obtain ⟨o',es',ep',ho',r'⟩:=hm
  rw [ho] at ho';cases ho'
  exact ⟨_,es',ep',hL,r'⟩) hok I.bare
theorem Inv.call {g':Array GenState} {t':Nat} {d':Drawn} {ch:List Addr} (I:Inv X pins σ H s) (u:Un (frs X.stack) ch H H' s.heap h') (hok:HOk X.prog X.w H' h') (hg:AllBare g')
  (hch:∀b∈ch,(b∈X.ex∨X.s₀.heap.objs.size≤b)∧b≠X.env.locals∧(∀x c,X.env.cells.lookup x=some c→c≠b)∧∀p∈X.pn++pins,p.1≠b) :
  Inv X pins σ H' { s with heap:=h',gens:=g',drawn:=d',toks:=t' }:=by
 obtain ⟨m,⟨o,es,ep,ho,r⟩,_⟩:=id I.loc
 obtain ⟨sl,hL⟩:=u.any ho I.free fun z=>(hch _ z).2.1 rfl
 exact I.step (ch:=ch) hch (fun b o hL hb hc e n=>u.keep b o e n (fun z=>(List.mem_cons.mp (I.aLd b z)).elim hL hb) hc) (fun b o _ _ hc e n=>u.any e n hc) (fun b o hc e n=>u.free b o e n hc) (fun b o hc e=>u.there b o e hc) u.tups u.frzs u.tbls (fun m' hm=>by
  obtain ⟨o',es',ep',ho',r'⟩:=hm
  rw [ho] at ho';cases ho'
  exact ⟨_,es',ep',hL,r'⟩) hok hg
theorem Inv.turned {t':Nat} {it:Addr} (I:Inv X pins σ H s) (k:∀b o,b≠it→s.heap.get? b=some o→h'.get? b=some o) (hn:H it=none) (hL:it≠X.env.locals)
  (h1:it∈X.ex∨X.s₀.heap.objs.size≤it) (h2:∀x c,X.env.cells.lookup x=some c→c≠it) (h3:∀p∈X.pn++pins,p.1≠it):Inv X pins σ H { s with heap:=h',toks:=t' }:=by
 have nit:∀b u,H b=some u→b≠it:=fun b u e z=>by rw [z,hn] at e;cases e
 refine I.step (g':=s.gens) (d':=s.drawn) (ch:=[it]) (fun b hb=>?_) (fun b o _ _ hc e _=>k b o (fun z=>hc (by simp [z])) e) (fun b o _ _ hc e _=>⟨o.slots,k b o (fun z=>hc (by simp [z])) e⟩) (fun _ _ _ _ n=>n)
  (fun b o hc e=>⟨o,k b o (fun z=>hc (by simp [z])) e⟩) (fun _ _ e=>e) (fun _ _ _ e=>e) (fun b ps e=>⟨#[],by rw [e];simp⟩) (fun m hm=>?_) (fun b u e=>?_) I.bare
 ·have e:b=it:=by simpa using hb
  subst e
  exact ⟨h1,hL,h2,h3⟩
 ·obtain ⟨o,es,ep,ho,r⟩:=hm
  exact ⟨o,es,ep,k _ o (Ne.symm hL) ho,r⟩
 ·refine (I.hok b u e).stay (fun c v hc q=>k c v ?_ q) (fun _ q=>q) fun _ _ q=>q
  rcases hc with z|z
  ·rw [z];exact nit b u e
  ·exact nit c _ z
theorem Inv.tok (I:Inv X pins σ H s) (t:Nat):Inv X pins σ H { s with toks:=t }:=I.un (h':=s.heap) (t':=t) Un.refl I.hok
theorem Inv.kept {t':Nat} (I:Inv X pins σ H s) (k:∀b u,s.heap.get? b=some u→h'.get? b=some u):Inv X pins σ H { s with heap:=h',toks:=t' }:=I.un (Un.kept k) (I.hok.kept k)
theorem Inv.laid {a:Addr} {o:HO} {t':Nat} (I:Inv X pins σ H s) (k:∀b u,s.heap.get? b=some u→h'.get? b=some u) (hp:s.heap.objs.size≤a) (new:iM X.prog X.w (upd H a o) h' a o) :
  Inv X pins σ (upd H a o) { s with heap:=h',toks:=t' }:=I.un (Un.laid k hp (I.hok.fresh hp)) (I.hok.laid k hp new)
theorem Inv.write {x e:Addr} {o:HO} {t':Nat} (I:Inv X pins σ H s) (mu:Mut (H x)) (he:e=x∨H e=some (.own x)) (k:∀b u,b≠e→s.heap.get? b=some u→h'.get? b=some u) (heo:∃u,h'.get? e=some u)
  (new:iM X.prog X.w (upd H x o) h' x o):Inv X pins σ (upd H x o) { s with heap:=h',toks:=t' }:=I.un (Un.write mu he k heo) (I.hok.write mu he k heo new)
theorem Inv.aMz {pins':List (Addr × Obj)} (I:Inv X pins σ H s) (h:∀p∈pins',s.heap.get? p.1=some p.2∧H p.1=none∧p.1≠X.env.locals∧p.1∉X.fs∧∀v,p.2.data≠.cell v):Inv X pins' σ H s:=
 ⟨I.ok,I.os,I.bare,I.base,I.loc,I.cell,I.free,I.freeC,fun p hp=>(List.mem_append.mp hp).elim (fun z=>I.pin p (List.mem_append_left _ z)) (h p),I.hok,I.len⟩
theorem aIv {N:List Str} (hN:N.Nodup) {i j:Nat} {x:Str} (a:N[i]?=some x) (b:N[j]?=some x):i=j:=by
 obtain ⟨h1,e1⟩:=List.getElem?_eq_some_iff.mp a
 obtain ⟨h2,e2⟩:=List.getElem?_eq_some_iff.mp b
 exact (List.getElem_inj hN).mp (e1.trans e2.symm)
theorem aD7 {M:Model} {A:Around} {E:Value→Shared→Prop} {i:Nat} {x:Str} {v:V} {u:Value} {Q:Unit→Shared→Prop} (I:Inv X pins σ H s) (hN:X.N.Nodup) (hi:X.N[i]?=some x) (hx:Loc X.env.scope x) (r:RelV v u)
  (h:∀s',Inv X pins (σ.set i (some v)) H s'→(∃a,Heap.SameBut a s.heap s'.heap∧(a=X.env.locals∨X.env.cells.lookup x=some a))→Q () s') (hf:X.fn x=true∨X.env.scope.names.lookup x=some .local:=by first|exact .inl rfl|exact .inr rfl|assumption):wpAny M A (storeName X.env x u) Q E s:=by
 obtain ⟨m,hn,hl⟩:=id I.loc
 have hcls:(X.env.scope.kind == .class || (X.env.scope.kind == .module && X.env.locals != X.env.globals))=false:=by rw [I.ok.kind];rfl
 have hiσ:i<σ.length:=by rw [I.len];exact (List.getElem?_eq_some_iff.mp hi).1
 have cne:=I.cne
 have tracked:∀{a:Addr} {h':Heap},(∃o,s.heap.get? a=some o∧H a=none)→Heap.SameBut a s.heap h'→HOk X.prog X.w H h':=fun {a h'} ha hs b ob e=>by
  obtain ⟨_,_,hfree⟩:=ha
  refine (I.hok b ob e).stay (fun c w' hc q=>(hs.2 c ?_).trans q) (fun _ q=>q) fun _ _ q=>q
  rintro rfl
  rcases hc with rfl|hc
  ·rw [hfree] at e;cases e
  ·rw [hfree] at hc;cases hc
 rcases hx with hk|hk
 ·refine wpAny_storeName_local hk hn (fun h' hn' hs=>?_) hcls
  obtain ⟨oL,_,_,hoL,_⟩:=id hn
  refine h _ ⟨I.ok,I.os,I.bare,⟨fun b o e n hb hx=>?_,fun b o e n hb hx=>?_,I.base.free,fun b o e hx=>?_,I.base.tups,I.base.frzs,I.base.tbls⟩,⟨_,hn',fun j y v' e1 e2 e3=>?_⟩,fun y c e=>?_,I.free,I.freeC,fun p hp=>?_,tracked ⟨oL,hoL,I.free⟩ hs,by simpa using I.len⟩ ⟨_,hs,.inl rfl⟩
  ·exact (hs.2 b (Nat.ne_of_lt (Nat.lt_of_lt_of_le (Heap.lt_size e) I.ok.above))).trans (I.base.keep b o e n hb hx)
  ·obtain ⟨sl,e1⟩:=I.base.slot b o e n hb hx
   exact ⟨sl,(hs.2 b (Nat.ne_of_lt (Nat.lt_of_lt_of_le (Heap.lt_size e) I.ok.above))).trans e1⟩
  ·obtain ⟨o',e1⟩:=I.base.there b o e hx
   exact ⟨o',(hs.2 b (Nat.ne_of_lt (Nat.lt_of_lt_of_le (Heap.lt_size e) I.ok.above))).trans e1⟩
  ·by_cases hj:j=i
   ·subst hj
    rw [hi] at e1;cases e1
    rw [List.getElem?_set_self hiσ] at e2
    cases e2
    exact ⟨u,r,.inl ⟨hk,by simp⟩⟩
   ·rw [List.getElem?_set_ne (Ne.symm hj)] at e2
    obtain ⟨u',r',q⟩:=hl j y v' e1 e2 e3
    refine ⟨u',r',?_⟩
    rcases q with ⟨k,e⟩|⟨k,c,e,z⟩
    ·refine .inl ⟨k,?_⟩
     have:y≠x:=fun e=>hj (aIv hN e1 (e ▸ hi))
     simp [this,e]
    ·exact .inr ⟨k,c,e,z.sameBut hs (cne y c e)⟩
  ·obtain ⟨w',z⟩:=I.cell y c e
   exact ⟨w',z.sameBut hs (cne y c e)⟩
  ·obtain ⟨e,n,ne,nf,d⟩:=I.pin p hp
   exact ⟨(hs.2 p.1 ne).trans e,n,ne,nf,d⟩
 ·have hfn:X.fn x=true:=by
   rcases hf with z|z
   ·exact z
   ·rw [z] at hk;cases hk
  obtain ⟨c,hc⟩:=I.ok.has x (.inl hk)
  obtain ⟨w',z⟩:=I.cell x c hc
  refine wpAny_storeName_cell I.ok.kind hk hc z (fun h' hc' hs=>?_)
  obtain ⟨oc,hoc,hocd⟩:=id z
  refine h { s with heap:=h' } ⟨I.ok,I.os,I.bare,⟨fun b o e n hb hx=>?_,fun b o e n hb hx=>?_,I.base.free,fun b o e hx=>?_,I.base.tups,I.base.frzs,I.base.tbls⟩,⟨m,hn.sameBut hs (Ne.symm (cne x c hc)),fun j y v' e1 e2 e3=>?_⟩,fun y c' e=>?_,I.free,I.freeC,fun p hp=>?_,tracked ⟨oc,hoc,I.freeC x c hc⟩ hs,by simpa using I.len⟩ ⟨c,hs,.inr hc⟩
  ·exact (hs.2 b (Nat.ne_of_lt (Nat.lt_of_lt_of_le (Heap.lt_size e) (I.ok.cab x c hfn hc)))).trans (I.base.keep b o e n hb hx)
  ·obtain ⟨sl,e1⟩:=I.base.slot b o e n hb hx
   exact ⟨sl,(hs.2 b (Nat.ne_of_lt (Nat.lt_of_lt_of_le (Heap.lt_size e) (I.ok.cab x c hfn hc)))).trans e1⟩
  ·obtain ⟨o',e1⟩:=I.base.there b o e hx
   exact ⟨o',(hs.2 b (Nat.ne_of_lt (Nat.lt_of_lt_of_le (Heap.lt_size e) (I.ok.cab x c hfn hc)))).trans e1⟩
  ·by_cases hj:j=i
   ·subst hj
    rw [hi] at e1;cases e1
    rw [List.getElem?_set_self hiσ] at e2
    cases e2
    exact ⟨u,r,.inr ⟨.inl hk,c,hc,hc'⟩⟩
   ·rw [List.getElem?_set_ne (Ne.symm hj)] at e2
    obtain ⟨u',r',q⟩:=hl j y v' e1 e2 e3
    refine ⟨u',r',?_⟩
    rcases q with q|⟨k,c',e,z'⟩
    ·exact .inl q
    ·refine .inr ⟨k,c',e,z'.sameBut hs ?_⟩
     rintro rfl
     exact hj (aIv hN e1 (I.ok.inj _ _ _ e hc ▸ hi))
  ·by_cases hcc:c'=c
   ·subst hcc;exact ⟨_,hc'⟩
   ·obtain ⟨w2,z2⟩:=I.cell y c' e
    exact ⟨w2,z2.sameBut hs hcc⟩
  ·obtain ⟨e,n,ne,nf,d⟩:=I.pin p hp
   refine ⟨(hs.2 p.1 ?_).trans e,n,ne,nf,d⟩
   intro q
   rw [q,hoc] at e
   have q':oc=p.2:=Option.some.inj e
   exact d w' (by rw [←q'];exact hocd)
theorem aH7 {M:Model} {A:Around} {E:Value→Shared→Prop} {i:Nat} {x:Str} {v:V} {u:Value} {Q:Unit→Shared→Prop} (I:Inv X pins σ H s) (hN:X.N.Nodup) (hi:X.N[i]?=some x) (hx:Loc X.env.scope x) (r:RelV v u)
  (h:∀s',Inv X pins (σ.set i (some v)) H s'→Q () s') (hf:X.fn x=true∨X.env.scope.names.lookup x=some .local:=by first|exact .inl rfl|exact .inr rfl|assumption):wpAny M A (storeName X.env x u) Q E s:=
 aD7 I hN hi hx r (fun s' I' _=>h s' I') hf
theorem Inv.call' {s':Shared} {ch:List Addr} (I:Inv X pins σ H s) (ho:s'.os=s.os) (u:Un (frs X.stack) ch H H' s.heap s'.heap) (hok:HOk X.prog X.w H' s'.heap) (hg:AllBare s'.gens)
  (hch:∀b∈ch,(b∈X.ex∨X.s₀.heap.objs.size≤b)∧b≠X.env.locals∧(∀x c,X.env.cells.lookup x=some c→c≠b)∧∀p∈X.pn++pins,p.1≠b):Inv X pins σ H' s':=by
 obtain ⟨h',g',d',t',o'⟩:=s'
 have e:o'=s.os:=ho
 subst e
 exact I.call (g':=g') (t':=t') (d':=d') u hok hg hch
end
abbrev XK:=Value→Option Addr→Hp→Prop
abbrev St:=List (Option V)
abbrev VK:=V→Hp→Prop
abbrev TE:=St→Hp→VK→Prop
abbrev TT:=St→Hp→(Bool→Hp→Prop)→Prop
abbrev TA:=St→Hp→(List V→Hp→Prop)→Prop
structure Ends where
 nx:St→Hp→Prop
 rt:VK
 bk:St→Hp→Prop:=fun _ _=>False
 ct:St→Hp→Prop:=fun _ _=>False
abbrev TS:=Ends→St→Hp→Prop
def EP (X:Cx) (pins:List (Addr × Obj)) (σ:St) (Q:VK) (u:Value) (s':Shared):Prop:=∃v H',Inv X pins σ H' s'∧RelV v u∧Q v H'
def TP (X:Cx) (pins:List (Addr × Obj)) (σ:St) (Q:Bool→Hp→Prop) (b:Bool) (s':Shared):Prop:=∃H',Inv X pins σ H' s'∧Q b H'
def AP (X:Cx) (pins:List (Addr × Obj)) (σ:St) (Q:List V→Hp→Prop) (us:List Value) (s':Shared):Prop:=∃vs H',Inv X pins σ H' s'∧Vals vs us∧Q vs H'
def SP (X:Cx) (pins:List (Addr × Obj)) (D:Ends) (f:Flow) (s':Shared):Prop:=
 match f with
 |.next=>∃σ' H',Inv X pins σ' H' s'∧D.nx σ' H'
 |.brk=>∃σ' H',Inv X pins σ' H' s'∧D.bk σ' H'
 |.cont=>∃σ' H',Inv X pins σ' H' s'∧D.ct σ' H'
 |.ret u=>∃v σ' H',Inv X pins σ' H' s'∧RelV v u∧D.rt v H'
def PE (X:Cx) (e:Expr) (t:TE):Prop:=
 ∀(pins:List (Addr × Obj)) (s:Shared) (σ:St) (H:Hp) (Q:VK),Inv X pins σ H s→t σ H Q→wpAny (model X.prog X.w) X.A (eval e X.env) (EP X pins σ Q) X.xe s
def PT (X:Cx) (e:Expr) (t:TT):Prop:=
 ∀(pins:List (Addr × Obj)) (s:Shared) (σ:St) (H:Hp) (Q:Bool→Hp→Prop),Inv X pins σ H s→t σ H Q→wpAny (model X.prog X.w) X.A (isTrue e X.env (eval e X.env)) (TP X pins σ Q) X.xe s
def PW (X:Cx) (e:Expr) (t:TT):Prop:=
 ∀(whole:Sem Value) (pins:List (Addr × Obj)) (s:Shared) (σ:St) (H:Hp) (Q:Bool→Hp→Prop),Inv X pins σ H s→t σ H Q→wpAny (model X.prog X.w) X.A (isTrue e X.env whole) (TP X pins σ Q) X.xe s
theorem PW.pt {X:Cx} {e:Expr} {t:TT} (h:PW X e t):PT X e t:=h _
def PA (X:Cx) (es:List Expr) (t:TA):Prop:=
 ∀(pos:Pos) (pins:List (Addr × Obj)) (s:Shared) (σ:St) (H:Hp) (Q:List V→Hp→Prop),Inv X pins σ H s→t σ H Q→wpAny (model X.prog X.w) X.A (spliced (backTo pos (starEach es X.env))) (AP X pins σ Q) X.xe s
def PS (X:Cx) (st:Stmt) (t:TS):Prop:=
 ∀(pins:List (Addr × Obj)) (s:Shared) (σ:St) (H:Hp) (D:Ends),Inv X pins σ H s→t D σ H→wpAny (model X.prog X.w) X.A (exec st X.env) (SP X pins D) X.xe s
def PSs (X:Cx) (st:List Stmt) (t:TS):Prop:=
 ∀(pins:List (Addr × Obj)) (s:Shared) (σ:St) (H:Hp) (D:Ends),Inv X pins σ H s→t D σ H→wpAny (model X.prog X.w) X.A (execs st X.env) (SP X pins D) X.xe s
theorem thn {α:Type} {t:Sem α} {Q Q':α→Shared→Prop} {M:Model} {A:Around} {E:Value→Shared→Prop} {s:Shared} (h:wpAny M A t Q E s) (hQ:∀a s,Q a s→Q' a s):wpAny M A t Q' E s:=wpAny_mono h hQ fun _ _ x=>x
section
variable {X:Cx}
def wA (i:Nat):TE:=fun σ H Q=>∃v,σ[i]?=some (some v)∧Q v H
def tC (v:V):TE:=fun _ H Q=>Q v H
theorem aWp {i:Nat} {x:Str} {pos:Pos} (hN:X.N[i]?=some x) (hv:Vis X.env.scope x) (hd:(x == ("__debug__":Str))=false:=by decide) (hcd:(x == ("__classdict__":Str))=false:=by decide):PE X (.Name x pos) (wA i):=by
 intro pins s σ H Q I h
 obtain ⟨v,e,h⟩:=h
 obtain ⟨m,hn,hl⟩:=I.loc
 obtain ⟨u,r,l⟩:=hl i x v hN e hv
 have fin:EP X pins σ Q u s:=⟨v,H,I,r,h⟩
 rcases l with ⟨hk,hm⟩|⟨hk,c,hc,hcell⟩
 ·exact wpAny_Name (wpAny_loadName_local I.ok.kind hk hn hm fin) hd
 ·rcases hk with hk|hk
  ·exact wpAny_Name (wpAny_loadName_cell I.ok.kind hk hc hcell fin) hd
  ·exact wpAny_Name (wpAny_loadName_free I.ok.kind hk hc hcell fin hcd) hd
theorem aV9 {i j pos}:PE X (.Constant (.int i) j pos) (tC (.int i)):=fun _ _ _ H _ I h=>wpAny_Constant_int ⟨.int i,H,I.tok _,⟨_,rfl⟩,h⟩
theorem aYg {b j pos}:PE X (.Constant (.bool b) j pos) (tC (.bl b)):=fun _ _ _ H _ I h=>Constant_bool ⟨.bl b,H,I,rfl,h⟩
theorem aXg {j pos}:PE X (.Constant .none j pos) (tC .non):=fun _ _ _ H _ I h=>Constant_none ⟨.non,H,I,rfl,h⟩
theorem aWh {x j pos}:PE X (.Constant (.str x) j pos) (tC (.str x)):=fun _ _ _ H _ I h=>Calls.Constant_str ⟨.str x,H,I.tok _,⟨_,rfl⟩,h⟩
def Gl (X:Cx) (x:Str):Prop:=X.env.kindOf x=some .globalImplicit
theorem aF2 {E:Value→Shared→Prop} {pins:List (Addr × Obj)} {s:Shared} {σ:St} {H:Hp} {x:Str} {u:Value} {pos:Pos} {Q:Value→Shared→Prop} (I:Inv X pins σ H s) (hg:Gl X x) (hm:X.mg x=some u) (h:Q u s)
  (hd:(x == ("__debug__":Str))=false:=by decide):wpAny (model X.prog X.w) X.A (eval (.Name x pos) X.env) Q E s:=
 Calls.Name_function_global I.ok.kind hg (Calls.loadGlobal_global (by rw [I.ok.glob];exact I.mod.glob.keeps I.bk) hm h) hd
theorem sY {E:Value→Shared→Prop} {pins:List (Addr × Obj)} {s:Shared} {σ:St} {H:Hp} {x:Str} {u:Value} {pos:Pos} {Q:Value→Shared→Prop} (I:Inv X pins σ H s) (hg:Gl X x) (hm:X.mg x=none) (hv:bootBuiltins x=some u) (h:Q u s)
  (hn:x≠"__name__":=by decide) (hd:(x == ("__debug__":Str))=false:=by decide):wpAny (model X.prog X.w) X.A (eval (.Name x pos) X.env) Q E s:=by
 obtain ⟨mb,h1,h2⟩:=I.mod.blt
 exact Calls.Name_function_global I.ok.kind hg (Calls.loadGlobal_builtin (by rw [I.ok.glob];exact I.mod.glob.keeps I.bk) hm (by rw [I.ok.blt];exact h1.keeps I.bk) ((h2 x hn).trans hv) h) hd
theorem aT1 {x:Str} {v:V} {u:Value} {pos:Pos} (hg:Gl X x) (hm:X.mg x=some u) (r:RelV v u) (hd:(x == ("__debug__":Str))=false:=by decide):PE X (.Name x pos) (tC v):=
 fun _ _ _ H _ I h=>aF2 I hg hm ⟨v,H,I,r,h⟩ hd
theorem aUw {x:Str} {v:V} {u:Value} {pos:Pos} (hg:Gl X x) (hm:X.mg x=none) (hv:bootBuiltins x=some u) (r:RelV v u) (hn:x≠"__name__":=by decide) (hd:(x == ("__debug__":Str))=false:=by decide):PE X (.Name x pos) (tC v):=
 fun _ _ _ H _ I h=>sY I hg hm hv ⟨v,H,I,r,h⟩ hn hd
variable {a b:Expr} {ta tb:TE} {pos:Pos}
def PC (X:Cx) (op:CmpOp) (a b:Expr) (t:TE):Prop:=
 ∀(pins:List (Addr × Obj)) (s:Shared) (σ:St) (H:Hp) (Q:VK),Inv X pins σ H s→t σ H Q →
  wpAny (model X.prog X.w) X.A (eval a X.env) (fun v s₁=>wpAny (model X.prog X.w) X.A (eval b X.env) (fun u s₂=>wpAny (model X.prog X.w) X.A (compareOp op v u) (EP X pins σ Q) X.xe s₂) X.xe s₁) X.xe s
def tB (t:TE):TT:=fun σ H Q=>t σ H fun x H1=>∃c,x=.bl c∧Q c H1
theorem aR6 {op:CmpOp} {t:TE} (h:PC X op a b t) (h1:behindInMarks op b=false:=by first|exact nobehind _ (by decide) (by decide)|rfl):PT X (.Compare a [op] [b] pos) (tB t):=by
 intro pins s σ H Q I hw
 refine wpAny_isTrue_Compare1 (thn (h pins s σ H _ I hw) fun v s1 h1=>thn h1 fun u s2 h2=>thn h2 fun c s3 ⟨x,H1,I1,r1,q1⟩=>?_) h1
 obtain ⟨d,rfl,q⟩:=q1
 cases r1
 exact wpAny_truthy_bool ⟨H1,I1,q⟩
theorem aWu {e:Expr} {t:TE} (h:PE X e t) (he:∀whole,isTrue e X.env whole=(do let v ←whole;standAt e.pos;holding [v] (truthy v)):=by intro _;rfl):PT X e (tB t):=by
 intro pins s σ H Q I hw
 refine isTrue_plain (thn (h pins s σ H _ I hw) fun v s1 ⟨x,H1,I1,r1,q1⟩=>?_) (he _)
 obtain ⟨d,rfl,q⟩:=q1
 cases r1
 exact wpAny_truthy_bool ⟨H1,I1,q⟩
variable {tA tB':TT} {rest:List Expr}
def aZf (t u:TT):TT:=fun σ H Q=>t σ H fun c H1=>if c=true then u σ H1 Q else Q false H1
def tOr (t u:TT):TT:=fun σ H Q=>t σ H fun c H1=>if c=true then Q true H1 else u σ H1 Q
def aY0 (t:TT):TT:=fun σ H Q=>t σ H fun c H1=>Q (!c) H1
theorem aTv (ha:PT X a tA):PW X (.BoolOp .And [a] pos) tA:=by
 intro wh pins s σ H Q I h
 refine isTrue_and (thn (ha pins s σ H Q I h) fun c s1 e=>?_)
 cases c with
 |true=>exact isTrue_and_nil e
 |false=>exact e
theorem aXi (ha:PT X a tA):PW X (.BoolOp .Or [a] pos) tA:=by
 intro wh pins s σ H Q I h
 refine isTrue_or (thn (ha pins s σ H Q I h) fun c s1 e=>?_)
 cases c with
 |false=>exact isTrue_or_nil e
 |true=>exact e
theorem aX2 (ha:PT X a tA) (hb:PW X (.BoolOp .And (b::rest) pos) tB'):PW X (.BoolOp .And (a::b::rest) pos) (aZf tA tB'):=by
 intro wh pins s σ H Q I h
 refine isTrue_and (thn (ha pins s σ H _ I h) fun c s1 ⟨H1,I1,q1⟩=>?_)
 cases c with
 |true=>exact hb wh pins s1 σ H1 Q I1 q1
 |false=>exact ⟨H1,I1,q1⟩
theorem aYl (ha:PT X a tA) (hb:PW X (.BoolOp .Or (b::rest) pos) tB'):PW X (.BoolOp .Or (a::b::rest) pos) (tOr tA tB'):=by
 intro wh pins s σ H Q I h
 refine isTrue_or (thn (ha pins s σ H _ I h) fun c s1 ⟨H1,I1,q1⟩=>?_)
 cases c with
 |true=>exact ⟨H1,I1,q1⟩
 |false=>exact hb wh pins s1 σ H1 Q I1 q1
theorem aW4 (ha:PT X a tA):PT X (.UnaryOp .Not a pos) (aY0 tA):=by
 intro pins s σ H Q I h
 exact isTrue_not (ha pins s σ H (fun c H1=>Q (!c) H1) I h)
def aU9 (ta tb:TE):TE:=fun σ H Q=>ta σ H fun x H1=>∃c,x=.bl c∧if c=true then tb σ H1 Q else Q (.bl false) H1
def aZg (ta tb:TE):TE:=fun σ H Q=>ta σ H fun x H1=>∃c,x=.bl c∧if c=true then Q (.bl true) H1 else tb σ H1 Q
def aU7 (ta:TE):TE:=fun σ H Q=>ta σ H fun x H1=>∃c,x=.bl c∧Q (.bl (!c)) H1
theorem aXy {op} {t:TE} (h:PE X a t):PE X (.BoolOp op [a] pos) t:=fun pins s σ H Q I hw=>BoolOp_one (h pins s σ H Q I hw)
theorem aWj (ha:PE X a ta) (hb:PE X (.BoolOp .And (b::rest) pos) tb):PE X (.BoolOp .And (a::b::rest) pos) (aU9 ta tb):=by
 intro pins s σ H Q I h
 refine BoolOp_and (thn (ha pins s σ H _ I h) fun v s1 ⟨x,H1,I1,r1,q1⟩=>?_)
 obtain ⟨c,rfl,q1⟩:=q1
 cases r1
 refine wpAny_truthy_bool ?_
 cases c with
 |true=>exact hb pins s1 σ H1 Q I1 q1
 |false=>exact ⟨.bl false,H1,I1,rfl,q1⟩
theorem aY3 (ha:PE X a ta) (hb:PE X (.BoolOp .Or (b::rest) pos) tb):PE X (.BoolOp .Or (a::b::rest) pos) (aZg ta tb):=by
 intro pins s σ H Q I h
 refine BoolOp_or (thn (ha pins s σ H _ I h) fun v s1 ⟨x,H1,I1,r1,q1⟩=>?_)
 obtain ⟨c,rfl,q1⟩:=q1
 cases r1
 refine wpAny_truthy_bool ?_
 cases c with
 |false=>exact hb pins s1 σ H1 Q I1 q1
 |true=>exact ⟨.bl true,H1,I1,rfl,q1⟩
theorem aWw (ha:PE X a ta):PE X (.UnaryOp .Not a pos) (aU7 ta):=by
 intro pins s σ H Q I h
 refine UnaryOp_ (thn (ha pins s σ H _ I h) fun v s1 ⟨x,H1,I1,r1,q1⟩=>?_)
 obtain ⟨c,rfl,q1⟩:=q1
 cases r1
 exact not_of (wpAny_truthy_bool ⟨.bl (!c),H1,I1,rfl,q1⟩)
def tIf (t:TT) (ta tb:TE):TE:=fun σ H Q=>t σ H fun c H1=>if c=true then ta σ H1 Q else tb σ H1 Q
theorem aSx {c:Expr} (hc:PT X c tA) (ha:PE X a ta) (hb:PE X b tb):PE X (.IfExp c a b pos) (tIf tA ta tb):=by
 intro pins s σ H Q I h
 refine wpAny_IfExp (thn (hc pins s σ H _ I h) fun d s1 ⟨H1,I1,q1⟩=>?_)
 cases d with
 |true=>exact ha pins s1 σ H1 Q I1 q1
 |false=>exact hb pins s1 σ H1 Q I1 q1
end
def SqL (K:PySem.W.Frag) (H:Hp) (a:Addr) (xs:List V):Prop:=
 Rd H a (.lst xs) ∨
  ∃(o:Obj) (its:Array Value) (n:Nat),K.lookup a=some o∧o.cls=.type "list"∧o.dict=none∧o.data=.seq its n∧its.size≤sizeLine∧Vals xs its.toList
def SqT (K:PySem.W.Frag) (H:Hp) (a:Addr) (xs:List V):Prop:=
 Rd H a (.tup xs) ∨
  ∃(o:Obj) (its:Array Value) (n:Nat),K.lookup a=some o∧o.cls=.type "tuple"∧o.dict=none∧o.data=.seq its n∧its.size≤sizeLine∧Vals xs its.toList
def aZ8:Value→Option V
 |.none=>some .non
 |.bool b=>some (.bl b)
 |.int i _=>some (.int i)
 |.str x _=>some (.str x)
 |.bytes b _=>some (.byt b)
 |.float b _=>some (.flt b)
 |.ref a=>some (.ref a)
 |.type n=>some (.ty n)
 |_=>none
theorem RelV.abs {x:V} {u:Value} (r:RelV x u):aZ8 u=some x:=by
 cases x with
 |non=>cases r;rfl
 |bl _=>cases r;rfl
 |int _=>obtain ⟨t,rfl⟩:=r;rfl
 |str _=>obtain ⟨t,rfl⟩:=r;rfl
 |byt _=>obtain ⟨t,rfl⟩:=r;rfl
 |flt _=>obtain ⟨t,rfl⟩:=r;rfl
 |ref _=>cases r;rfl
 |ty _=>cases r;rfl
theorem RelV.inj {x y:V} {u:Value} (r:RelV x u) (q:RelV y u):x=y:=Option.some.inj (r.abs.symm.trans q.abs)
theorem Vals.inj:∀{xs ys:List V} {us:List Value},Vals xs us→Vals ys us→xs=ys
 |_,_,_,.nil,.nil=>rfl
 |_,_,_,.cons r t,.cons r' t'=>by rw [r.inj r',Vals.inj t t']
section
variable {X:Cx} {pins:List (Addr × Obj)} {σ:St} {H:Hp} {s:Shared} {a:Addr} {xs ys:List V}
theorem SqL.of {K:PySem.W.Frag} (h:H a=some (.lst xs)):SqL K H a xs:=.inl (.inl h)
theorem SqT.of {K:PySem.W.Frag} (h:H a=some (.tup xs)):SqT K H a xs:=.inl (.inl h)
theorem Inv.list (I:Inv X pins σ H s) (h:SqL X.K H a xs):∃its:List Value,Vals xs its∧PlainL s.heap a its.toArray∧xs.length≤sizeLine:=by
 rcases h with h|⟨o,its,n,hk,hc,hd,hs,hz,r⟩
 ·obtain ⟨z,its,n,r,e⟩:=h.ok I.hok
  exact ⟨its,r,⟨_,n,e,rfl,rfl,rfl⟩,z⟩
 ·refine ⟨its.toList,r,⟨o,n,I.kIn a o hk,hc,hd,by simpa using hs⟩,?_⟩
  have e:=r.length
  simp only [Array.length_toList] at e
  lia
theorem Inv.tuple (I:Inv X pins σ H s) (h:SqT X.K H a xs):∃its:List Value,Vals xs its∧IsTup s.heap a its.toArray∧xs.length≤sizeLine:=by
 rcases h with h|⟨o,its,n,hk,hc,hd,hs,hz,r⟩
 ·obtain ⟨z,its,r,p⟩:=h.ok I.hok
  exact ⟨its,r,p.1,z⟩
 ·refine ⟨its.toList,r,⟨o,I.kIn a o hk,hc,n,by simpa using hs⟩,?_⟩
  have e:=r.length
  simp only [Array.length_toList] at e
  lia
theorem Inv.aZv (I:Inv X pins σ H s) (h:SqT X.K H a xs):∃its:List Value,Vals xs its∧yQ s.heap a its.toArray∧xs.length≤sizeLine:=by
 rcases h with h|⟨o,its,n,hk,hc,hd,hs,hz,r⟩
 ·obtain ⟨z,its,r,p⟩:=h.ok I.hok
  exact ⟨its,r,p,z⟩
 ·refine ⟨its.toList,r,.of (I.kIn a o hk) hd ⟨o,I.kIn a o hk,hc,n,by simpa using hs⟩,?_⟩
  have e:=r.length
  simp only [Array.length_toList] at e
  lia
theorem Inv.aSo (I:Inv X pins σ H s) (h:SqL X.K H a xs) (h':SqL X.K H a ys):xs=ys:=by
 obtain ⟨its,r,⟨o,n,e,_,_,d⟩,_⟩:=I.list h
 obtain ⟨its',r',⟨o',n',e',_,_,d'⟩,_⟩:=I.list h'
 rw [e] at e';cases e'
 rw [d] at d'
 injection d' with d1 _
 have:its=its':=by simpa using congrArg Array.toList d1
 subst this
 exact r.inj r'
theorem Inv.aEm (I:Inv X pins σ H s) (h:SqT X.K H a xs) (h':SqT X.K H a ys):xs=ys:=by
 obtain ⟨its,r,⟨o,e,_,n,d⟩,_⟩:=I.tuple h
 obtain ⟨its',r',⟨o',e',_,n',d'⟩,_⟩:=I.tuple h'
 rw [e] at e';cases e'
 rw [d] at d'
 injection d' with d1 _
 have:its=its':=by simpa using congrArg Array.toList d1
 subst this
 exact r.inj r'
end
abbrev Cx.wish (X:Cx) (E:Value→Shared→Prop):Cx:={ X with xe:=E }
abbrev Cx.nox (X:Cx):Cx:=X.wish fun _ _=>False
theorem Cx.Ok.wish {X:Cx} (ok:X.Ok) (E:Value→Shared→Prop):(X.wish E).Ok:=
 ⟨ok.mod,ok.kind,ok.glob,ok.blt,ok.above,ok.inj,ok.has,ok.cab,ok.hd,ok.frames,ok.stk,ok.exf,ok.bs,ok.bsz,ok.noex,ok.exfs,ok.funs,ok.frf⟩
theorem Cx.Ok.tM {X:Cx} {E:Value→Shared→Prop} (ok:(X.wish E).Ok):X.Ok:=
 ⟨ok.mod,ok.kind,ok.glob,ok.blt,ok.above,ok.inj,ok.has,ok.cab,ok.hd,ok.frames,ok.stk,ok.exf,ok.bs,ok.bsz,ok.noex,ok.exfs,ok.funs,ok.frf⟩
section
variable {X:Cx} {pins:List (Addr × Obj)} {σ:St} {H:Hp} {s:Shared} {E:Value→Shared→Prop}
theorem Inv.wish (I:Inv X pins σ H s) (E:Value→Shared→Prop):Inv (X.wish E) pins σ H s:=⟨I.ok.wish E,I.os,I.bare,I.base,I.loc,I.cell,I.free,I.freeC,I.pin,I.hok,I.len⟩
theorem Inv.tM (I:Inv (X.wish E) pins σ H s):Inv X pins σ H s:=⟨I.ok.tM,I.os,I.bare,I.base,I.loc,I.cell,I.free,I.freeC,I.pin,I.hok,I.len⟩
theorem SP.tM {D:Ends} {f:Flow} {s':Shared} (h:SP (X.wish E) pins D f s'):SP X pins D f s':=by
 cases f with
 |next=>obtain ⟨σ',H',I,q⟩:=h;exact ⟨σ',H',I.tM,q⟩
 |brk=>obtain ⟨σ',H',I,q⟩:=h;exact ⟨σ',H',I.tM,q⟩
 |cont=>obtain ⟨σ',H',I,q⟩:=h;exact ⟨σ',H',I.tM,q⟩
 |ret u=>obtain ⟨v,σ',H',I,r,q⟩:=h;exact ⟨v,σ',H',I.tM,r,q⟩
theorem PSs.nox {st:List Stmt} {t:TS} (h:PSs X.nox st t):PSs X st t:=fun pins s σ H D I hw=>
 wpAny_mono (h pins s σ H D (I.wish _) hw) (fun _ _ q=>q.tM) fun _ _ z=>False.elim z
end
section
variable {X:Cx} {st:Stmt} {rest:List Stmt} {t u:TS} {e:Expr} {te:TE} {pos:Pos}
def rU:TS:=fun D σ H=>D.nx σ H
def iR (t u:TS):TS:=fun D σ H=>t { D with nx:=u D } σ H
theorem aT6:PSs X [] rU:=fun _ _ σ H _ I h=>wpAny_execs_nil ⟨σ,H,I,h⟩
theorem aSg (h1:PS X st t) (h2:PSs X rest u):PSs X (st::rest) (iR t u):=by
 intro pins s σ H D I h
 refine wpAny_execs_cons (thn (h1 pins s σ H { D with nx:=u D } I h) fun f s1 q=>?_)
 cases f with
 |next=>
  obtain ⟨σ',H',I',q⟩:=q
  exact h2 pins s1 σ' H' D I' q
 |ret v=>exact q
 |brk=>exact q
 |cont=>exact q
theorem aU2 (h1:PS X st t):PSs X [st] t:=by
 intro pins s σ H D I h
 refine wpAny_execs_cons (thn (h1 pins s σ H D I h) fun f s1 q=>?_)
 cases f with
 |next=>exact wpAny_execs_nil q
 |ret v=>exact q
 |brk=>exact q
 |cont=>exact q
theorem Inv.quiet {pins:List (Addr × Obj)} {σ:St} {H:Hp} {s:Shared} (I:Inv X pins σ H s):interactive X.env=false:=by simp [interactive,I.ok.kind]
def aNb (te:TE):TS:=fun D σ H=>te σ H fun _ H1=>D.nx σ H1
theorem aUy (he:PE X e te) (hs:swapsWith e none pos.line X.env=pure false:=by rfl):PS X (.Expr e pos) (aNb te):=by
 intro pins s σ H D I h
 exact wpAny_Expr_any (thn (he pins s σ H _ I h) fun v s1 ⟨x,H1,I1,r1,q1⟩=>⟨σ,H1,I1,q1⟩) I.quiet hs
def aAs (te:TE):TS:=fun D σ H=>te σ H D.rt
theorem aWd (he:PE X e te):PS X (.Return (some e) pos) (aAs te):=by
 intro pins s σ H D I h
 exact wpAny_Return_some (thn (he pins s σ H _ I h) fun v s1 ⟨x,H1,I1,r1,q1⟩=>⟨x,σ,H1,I1,r1,q1⟩)
def aLw (c:TT) (t u:TS):TS:=fun D σ H=>c σ H fun b H1=>if b=true then t D σ H1 else u D σ H1
theorem aZl {c:Expr} {a b:List Stmt} {tc:TT} (hc:PT X c tc) (ha:PSs X a t) (hb:PSs X b u):PS X (.If c a b pos) (aLw tc t u):=by
 intro pins s σ H D I h
 refine wpAny_If (thn (hc pins s σ H _ I h) fun d s1 ⟨H1,I1,q1⟩=>?_)
 cases d with
 |true=>exact ha pins s1 σ H1 D I1 q1
 |false=>exact hb pins s1 σ H1 D I1 q1
def aQa:TS:=fun _ _ _=>False
theorem aRa:PS X st aQa:=fun _ _ _ _ _ _ h=>h.elim
end
abbrev TG:=V→St→Hp→(St→Hp→Prop)→Prop
abbrev TGs:=List V→St→Hp→(St→Hp→Prop)→Prop
def PG (X:Cx) (target:Expr) (t:TG):Prop:=
 ∀(pins:List (Addr × Obj)) (s:Shared) (σ:St) (H:Hp) (v:V) (u:Value) (Q:St→Hp→Prop),Inv X pins σ H s→RelV v u→t v σ H Q →
  wpAny (model X.prog X.w) X.A (assign target X.env u) (fun _ s'=>∃σ' H',Inv X pins σ' H' s'∧Q σ' H') X.xe s
def PGs (X:Cx) (ts:List Expr) (t:TGs):Prop:=
 ∀(pins:List (Addr × Obj)) (s:Shared) (σ:St) (H:Hp) (vs:List V) (us:List Value) (Q:St→Hp→Prop),Inv X pins σ H s→Vals vs us→t vs σ H Q →
  wpAny (model X.prog X.w) X.A (assignInOrder ((assignEach ts X.env).map (·.2)) us) (fun _ s'=>∃σ' H',Inv X pins σ' H' s'∧Q σ' H') X.xe s
abbrev aTu:=V→V→V→Hp→(Hp→Prop)→Prop
def aWc (X:Cx) (t:aTu):Prop:=
 ∀(pins:List (Addr × Obj)) (s:Shared) (σ:St) (H:Hp) (o i v:V) (ov iv u:Value) (Q:Hp→Prop),Inv X pins σ H s→RelV o ov→RelV i iv→RelV v u→t o i v H Q →
  wpAny (model X.prog X.w) X.A (setItem ov iv u) (fun _ s'=>∃H',Inv X pins σ H' s'∧Q H') X.xe s
section
variable {X:Cx} {pos:Pos}
def bK (i:Nat):TG:=fun v σ H Q=>Q (σ.set i (some v)) H
theorem aUt {i:Nat} {x:Str} (hN:X.N.Nodup) (hi:X.N[i]?=some x) (hx:Loc X.env.scope x) (hf:X.fn x=true∨X.env.scope.names.lookup x=some .local:=by first|exact .inl rfl|exact .inr rfl|assumption):PG X (.Name x pos) (bK i):=by
 intro pins s σ H v u Q I r h
 exact wpAny_assign_Name (aH7 I hN hi hx r (fun s' I'=>⟨_,H,I',h⟩) hf)
def xZ:TGs:=fun vs σ H Q=>vs=[]∧Q σ H
def gR (t:TG) (u:TGs):TGs:=fun vs σ H Q=>∃v r,vs=v::r∧t v σ H fun σ' H'=>u r σ' H' Q
theorem aT8:PGs X [] xZ:=by
 intro pins s σ H vs us Q I r h
 obtain ⟨e,h⟩:=h
 subst e
 cases r
 exact assignInOrder_nil ⟨σ,H,I,h⟩
theorem aSh {e:Expr} {es:List Expr} {t:TG} {u:TGs} (h1:PG X e t) (h2:PGs X es u)
  (hs:(assignEach (e::es) X.env).map (·.2)=assign e X.env::(assignEach es X.env).map (·.2):=by rfl):PGs X (e::es) (gR t u):=by
 intro pins s σ H vs us Q I r h
 obtain ⟨v,vr,e1,h⟩:=h
 subst e1
 cases r with
 |cons r rr=>
  rw [hs]
  refine assignInOrder_cons (thn (h1 pins s σ H _ _ _ I r h) fun _ s1 ⟨σ1,H1,I1,q1⟩=>?_)
  exact h2 pins s1 σ1 H1 _ _ Q I1 rr q1
def aCk (K:PySem.W.Frag) (n:Nat) (t:TGs):TG:=fun v σ H Q=>∃a xs,v=.ref a∧SqT K H a xs∧xs.length=n∧t xs σ H Q
theorem aXc {es:List Expr} {k:Nat} {t:TGs} {n:Nat} (hc:X.calm=true) (h:PGs X es t)
  (hn:(assignEach es X.env).length=n:=by rfl) (hst:(assignEach es X.env).findIdx? (·.1)=none:=by rfl):PG X (.Tuple es k pos) (aCk X.K n t):=by
 intro pins s σ H v u Q I r hw
 obtain ⟨a,xs,e1,hq,hl,hw⟩:=hw
 subst e1
 cases r
 obtain ⟨its,rv,ht,hz⟩:=I.tuple hq
 refine assign_Tuple_tuple (I.ok.hd hc) ht (by simp [hn,←hl,rv.length]) hst fun h' hx=>?_
 have I1:Inv X pins σ H { s with heap:=h' }:=I.kept (t':=s.toks) fun b o e=>hx b o (Nat.ne_of_lt (Heap.lt_size e)) e
 exact h pins _ σ H xs _ Q I1 (by simpa using rv) hw
def aY9 (to ti:TE) (t:aTu):TG:=fun v σ H Q=>to σ H fun o H1=>ti σ H1 fun i H2=>t o i v H2 fun H3=>Q σ H3
theorem aXp {o i:Expr} {to ti:TE} {t:aTu} (ho:PE X o to) (hi:PE X i ti) (hs:aWc X t)
  (ha:∀v,assign (.Subscript o i pos) X.env v=(do
   let ov ←holding [v] (eval o X.env)
   let iv ←holding [v,ov] (eval i X.env)
   standAt pos
   holding [v,ov,iv] (setItem ov iv v)
   release [v,ov,iv] []):=by intro _;rfl):PG X (.Subscript o i pos) (aY9 to ti t):=by
 intro pins s σ H v u Q I r h
 rw [ha]
 refine wpAny_bind (wpAny_holding (thn (ho pins s σ H _ I h) fun ov s1 ⟨x,H1,I1,r1,q1⟩=>?_))
 refine wpAny_bind (wpAny_holding (thn (hi pins s1 σ H1 _ I1 q1) fun iv s2 ⟨y,H2,I2,r2,q2⟩=>?_))
 refine wpAny_bind (wpAny_standAt (wpAny_bind (wpAny_holding (thn (hs pins s2 σ H2 x y v ov iv u _ I2 r1 r2 r q2) fun _ s3 ⟨H3,I3,q3⟩=>?_))))
 exact wpAny_release ⟨σ,H3,I3,q3⟩
def jK (te:TE) (g:TG):TS:=fun D σ H=>te σ H fun x H1=>g x σ H1 D.nx
theorem aXj {tg e:Expr} {te:TE} {g:TG} (he:PE X e te) (hg:PG X tg g) (hs:swapsWithSole [tg] e pos.line X.env=pure false:=by rfl) (hw:swappedStores [tg] e X.env=pure none:=by rfl)
  (h1:(assignEach [tg] X.env).map (·.2)=[assign tg X.env]:=by rfl):PS X (.Assign [tg] e pos) (jK te g):=by
 intro pins s σ H D I h
 refine wpAny_Assign_stores (thn (he pins s σ H _ I h) fun v s1 ⟨x,H1,I1,r1,q1⟩=>?_) hs hw
 rw [h1]
 exact thn (hg pins s1 σ H1 x v _ I1 r1 q1) fun _ s2 q=>q
theorem aXx {i:Nat} {x:Str} {e:Expr} {te:TE} {pos':Pos} (hN:X.N.Nodup) (hi:X.N[i]?=some x) (hx:Loc X.env.scope x) (he:PE X e te) (hs:swapsWith e (some (.Name x pos')) pos.line X.env=pure false:=by rfl) (hf:X.fn x=true∨X.env.scope.names.lookup x=some .local:=by first|exact .inl rfl|exact .inr rfl|assumption) :
  PS X (.Assign [.Name x pos'] e pos) (jK te (bK i)):=by
 intro pins s σ H D I h
 refine wpAny_Assign_Name (thn (he pins s σ H _ I h) fun v s1 ⟨y,H1,I1,r1,q1⟩=>?_) hs
 exact aH7 I1 hN hi hx r1 (fun s2 I2=>⟨_,H1,I2,q1⟩) hf
end
section
variable {X:Cx} {pos:Pos}
def aRd (c:TT) (tb:TS):TS:=fun D σ H=>∃W:Nat→St→Hp→Prop,(∃m,W m σ H)∧∀m σ H,W m σ H →
 c σ H fun b H1=>if b=true then ∃N:St→Hp→Prop,(∀σ' H',N σ' H'→∃m',m'<m∧W m' σ' H')∧tb { D with nx:=N,ct:=N,bk:=D.nx } σ H1 else D.nx σ H1
theorem aS9 {c:Expr} {body:List Stmt} {tc:TT} {tb:TS} (hp:PassesOwn (model X.prog X.w) X.A X.env X.xe) (hc:PT X c tc) (hb:PSs X body tb):PS X (.While c body [] pos) (aRd tc tb):=by
 intro pins s σ H D I h
 obtain ⟨W,⟨m0,w0⟩,turn⟩:=h
 refine wpAny_While (codeAny_whileLoop (fun n s'=>∃σ' H',Inv X pins σ' H' s'∧W n σ' H') ?_ m0 ⟨σ,H,I,w0⟩)
 rintro n s1 ⟨σ1,H1,I1,w1⟩
 refine wpAny_passesOwn hp (thn (hc pins s1 σ1 H1 _ I1 (turn n σ1 H1 w1)) fun b s2 ⟨H2,I2,q2⟩=>?_)
 cases b with
 |true=>
  obtain ⟨N,hN,q2⟩:=q2
  rw [if_pos rfl]
  refine wpAny_passesOwn hp (thn (hb pins s2 σ1 H2 _ I2 q2) fun f s3 q3=>?_)
  cases f with
  |next=>
   obtain ⟨σ3,H3,I3,n3⟩:=q3
   obtain ⟨m',hm,w3⟩:=hN σ3 H3 n3
   exact ⟨m',hm,σ3,H3,I3,w3⟩
  |cont=>
   obtain ⟨σ3,H3,I3,n3⟩:=q3
   obtain ⟨m',hm,w3⟩:=hN σ3 H3 n3
   exact ⟨m',hm,σ3,H3,I3,w3⟩
  |brk=>exact q3
  |ret v=>exact q3
 |false=>
  rw [if_neg Bool.false_ne_true]
  exact wpAny_execs_nil ⟨σ1,H2,I2,q2⟩
end
structure It where
 go:Nat→Hp→Prop
 yld:Nat→Hp→V→Hp→Prop
 stop:Nat→Hp→Prop
def vY (X:Cx) (pins:List (Addr × Obj)) (H:Hp) (b:Addr):Prop:=
 H b=none∧b≠X.env.locals∧b∉X.fs∧(b∈X.ex∨X.s₀.heap.objs.size≤b)∧(∀x c,X.env.cells.lookup x=some c→c≠b)∧∀p∈X.pn++pins,p.1≠b
theorem Inv.aKm {X:Cx} {pins:List (Addr × Obj)} {σ:St} {H H':Hp} {s:Shared} {b:Addr} (I:Inv X pins σ H s) (hb:s.heap.objs.size≤b) (hn:H' b=none):vY X pins H' b:=by
 refine ⟨hn,Nat.ne_of_gt (Nat.lt_of_lt_of_le I.lt hb),I.nofs hb,.inr (Nat.le_trans I.sz hb),fun x c e z=>?_,fun p hp z=>?_⟩
 ·obtain ⟨v,q⟩:=I.cell x c e
  exact absurd (Nat.lt_of_lt_of_le q.lt (by rw [z];exact hb)) (Nat.lt_irrefl _)
 ·exact absurd (Nat.lt_of_lt_of_le (Heap.lt_size (I.pin p hp).1) (by rw [z];exact hb)) (Nat.lt_irrefl _)
structure Turn (P:Program) (w:World) (K:PySem.W.Frag) (tg:Expr) (J:It) (fp:List Addr) (it:Addr) (tn:Nat→Heap→Prop):Prop where
 mem:it∈fp
 obj:∀i h,tn i h→∀b∈fp,∃o,h.get? b=some o∧∀v,o.data≠.cell v
 keep:∀i h h',tn i h→(∀b∈fp,∀o,h.get? b=some o→h'.get? b=some o)→tn i h'
 item:∀(X:Cx),X.prog=P→X.w=w→X.K=K→X.calm=true→∀(i:Nat) (pins:List (Addr × Obj)) (s:Shared) (σ:St) (H:Hp) (E:Value→Shared→Prop),Inv X pins σ H s→(∀b∈fp,vY X pins H b)→tn i s.heap→J.go i H →
  wpAny (model P w) X.A (pyNext (.ref it)) (fun r s1=>∃u,r=some u ∧
   wpAny (model P w) X.A (letOwnedTupleGo tg (.ref it) u) (fun _ s2=>∃x H',Inv X pins σ H' s2∧RelV x u∧J.yld i H x H'∧tn (i+1) s2.heap∧∀b∈fp,H' b=none) E s1) E s
 done:∀(X:Cx),X.prog=P→X.w=w→X.K=K→X.calm=true→∀(i:Nat) (pins:List (Addr × Obj)) (s:Shared) (σ:St) (H:Hp) (E:Value→Shared→Prop),Inv X pins σ H s→(∀b∈fp,vY X pins H b)→tn i s.heap→J.stop i H →
  wpAny (model P w) X.A (pyNext (.ref it)) (fun r s1=>r=none∧Inv X pins σ H s1) E s
 self:∀(A:Around) (i:Nat) (s:Shared) (Q:Value→Shared→Prop) (E:Value→Shared→Prop),tn i s.heap→Q (.ref it) s→wpAny (model P w) A (pyIter (.ref it)) Q E s
abbrev TI:=St→Hp→(It→Hp→Prop)→Prop
def PIE (X:Cx) (pins:List (Addr × Obj)) (σ:St) (tg:Expr) (R:It→Hp→Prop) (itv:Value) (s2:Shared):Prop:=
 ∃(it:Addr) (fp:List Addr) (tn:Nat→Heap→Prop) (J:It) (H':Hp),itv=.ref it∧Inv X pins σ H' s2∧Turn X.prog X.w X.K tg J fp it tn∧tn 0 s2.heap∧(∀b∈fp,vY X pins H' b)∧R J H'
def PI (X:Cx) (tg iter:Expr) (wi:TI):Prop:=
 ∀(pins:List (Addr × Obj)) (s:Shared) (σ:St) (H:Hp) (R:It→Hp→Prop),Inv X pins σ H s→wi σ H R →
  wpAny (model X.prog X.w) X.A (eval iter X.env) (fun v s1=>wpAny (model X.prog X.w) X.A (pyIter v) (PIE X pins σ tg R) X.xe s1) X.xe s
theorem aHv {M:Model} {A:Around} {E:Value→Shared→Prop} {s:Shared} {tg:Expr} {it:Addr} {u:Value} {o:Obj} {n:String} {vs:Array Value} {Q:Unit→Shared→Prop} (ho:s.heap.get? it=some o) (hc:o.cls=.type n) (hd:o.data=.fields vs)
  (hn:["enumerate","zip","dict_itemiterator","dict_reverseitemiterator","odict_iterator","itertools.zip_longest","itertools.pairwise"].contains n=false) (hQ:Q () s):wpAny M A (letOwnedTupleGo tg (.ref it) u) Q E s:=by
 unfold letOwnedTupleGo
 cases tg <;> first
  |exact wpAny_pure hQ
  |(cases u <;> first
    |exact wpAny_pure hQ
    |(refine wpAny_bind (wpAny_load ho ?_);rw [hc,hd];show wpAny M A (if (["enumerate","zip","dict_itemiterator","dict_reverseitemiterator","odict_iterator","itertools.zip_longest","itertools.pairwise"].contains n && vs[0]? == some (rawInt _))=true then _ else _) Q E s;rw [if_neg (by intro h;rw [hn,Bool.false_and] at h;cases h)];exact wpAny_pure hQ))
def Itl (K:PySem.W.Frag) (a:Addr):It:=
 ⟨fun i H=>∃xs x,SqL K H a xs∧xs[i]?=some x,fun i H x H'=>H'=H∧∀xs,SqL K H a xs→xs[i]?=some x,fun i H=>∃xs,SqL K H a xs∧xs.length≤i⟩
def Itt (K:PySem.W.Frag) (a:Addr):It:=
 ⟨fun i H=>∃xs x,SqT K H a xs∧xs[i]?=some x,fun i H x H'=>H'=H∧∀xs,SqT K H a xs→xs[i]?=some x,fun i H=>∃xs,SqT K H a xs∧xs.length≤i⟩
def Itr (lo:Int) (n:Nat):It:=⟨fun i _=>i<n,fun i H x H'=>H'=H∧x=.int (lo+i),fun i _=>n≤i⟩
theorem aN5 {P:Program} {w:World} {K:PySem.W.Frag} {tg:Expr} (a it:Addr):Turn P w K tg (Itl K a) [it] it (fun i h=>h.IsListIter it a i) where
 mem:=by simp
 obj:=fun i h st b hb=>by
  have e:b=it:=by simpa using hb
  subst e
  obtain ⟨o,e,c,d⟩:=st
  exact ⟨o,e,fun v z=>by rw [d] at z;cases z⟩
 keep:=fun i h h' st k=>st.at fun o e=>k it (by simp) o e
 item:=by
  intro X hP hw hK hc i pins s σ H E I hf st hg
  subst hP hw hK
  obtain ⟨xs,x,hq,hx⟩:=hg
  obtain ⟨its,rv,p,hz⟩:=I.list hq
  obtain ⟨u,hu,ru⟩:=rv.get hx
  obtain ⟨f0,f1,f2,f3,f4,f5⟩:=hf it (by simp)
  refine wpAny_pyNext_list_item st p.isList (x:=u) (by simpa using hu) fun h' st' sb=>?_
  have I1:Inv X pins σ H { s with heap:=h' }:=I.turned (t':=s.toks) (fun b o hb e=>(sb.2 b hb).trans e) f0 f1 f3 f4 f5
  obtain ⟨o,e,c,d⟩:=id st'
  exact ⟨u,rfl,aHv (s:={ s with heap:=h' }) e c d (by decide) ⟨x,H,I1,ru,⟨rfl,fun ys hy=>by rw [I.aSo hy hq];exact hx⟩,st',fun b hb=>(hf b hb).1⟩⟩
 done:=by
  intro X hP hw hK hc i pins s σ H E I hf st hg
  subst hP hw hK
  obtain ⟨xs,hq,hx⟩:=hg
  obtain ⟨its,rv,p,hz⟩:=I.list hq
  obtain ⟨f0,f1,f2,f3,f4,f5⟩:=hf it (by simp)
  have hl:=rv.length
  exact wpAny_pyNext_list_end (I.ok.hd hc) st p.isList (by simp;lia) fun h' eb=>⟨rfl,I.turned (t':=s.toks) (fun b o hb e=>eb b o hb e) f0 f1 f3 f4 f5⟩
 self:=fun _ _ _ _ _ st h=>wpAny_pyIter_listiter st h
theorem aKt {P:Program} {w:World} {K:PySem.W.Frag} {tg:Expr} (a it:Addr):Turn P w K tg (Itt K a) [it] it (fun i h=>h.IsTupleIter it a i) where
 mem:=by simp
 obj:=fun i h st b hb=>by
  have e:b=it:=by simpa using hb
  subst e
  obtain ⟨o,e,c,d⟩:=st
  exact ⟨o,e,fun v z=>by rw [d] at z;cases z⟩
 keep:=fun i h h' st k=>st.at fun o e=>k it (by simp) o e
 item:=by
  intro X hP hw hK hc i pins s σ H E I hf st hg
  subst hP hw hK
  obtain ⟨xs,x,hq,hx⟩:=hg
  obtain ⟨its,rv,p,hz⟩:=I.tuple hq
  obtain ⟨u,hu,ru⟩:=rv.get hx
  obtain ⟨f0,f1,f2,f3,f4,f5⟩:=hf it (by simp)
  refine wpAny_pyNext_tuple_item st (show s.heap.IsTuple a its.toArray from p) (x:=u) (by simpa using hu) fun h' st' sb=>?_
  have I1:Inv X pins σ H { s with heap:=h' }:=I.turned (t':=s.toks) (fun b o hb e=>(sb.2 b hb).trans e) f0 f1 f3 f4 f5
  obtain ⟨o,e,c,d⟩:=id st'
  exact ⟨u,rfl,aHv (s:={ s with heap:=h' }) e c d (by decide) ⟨x,H,I1,ru,⟨rfl,fun ys hy=>by rw [I.aEm hy hq];exact hx⟩,st',fun b hb=>(hf b hb).1⟩⟩
 done:=by
  intro X hP hw hK hc i pins s σ H E I hf st hg
  subst hP hw hK
  obtain ⟨xs,hq,hx⟩:=hg
  obtain ⟨its,rv,p,hz⟩:=I.tuple hq
  obtain ⟨f0,f1,f2,f3,f4,f5⟩:=hf it (by simp)
  have hl:=rv.length
  exact wpAny_pyNext_tuple_end (I.ok.hd hc) st (show s.heap.IsTuple a its.toArray from p) (by simp;lia) fun h' eb=>⟨rfl,I.turned (t':=s.toks) (fun b o hb e=>eb b o hb e) f0 f1 f3 f4 f5⟩
 self:=fun _ _ _ _ _ st h=>wpAny_pyIter_tupleiter st h
theorem aLz {P:Program} {w:World} {K:PySem.W.Frag} {tg:Expr} (it:Addr) (lo:Int) (n:Nat):Turn P w K tg (Itr lo n) [it] it (fun i h=>IsRangeIter h it (lo+(i:Nat) * 1) ((n:Int) - (i:Nat)) 1) where
 mem:=by simp
 obj:=fun i h st b hb=>by
  have e:b=it:=by simpa using hb
  subst e
  exact ⟨_,st,fun v z=>by
   have z':Data.fields _=Data.cell v:=z
   cases z'⟩
 keep:=fun i h h' st k=>k it (by simp) _ st
 item:=by
  intro X hP hw hK hc i pins s σ H E I hf st hg
  subst hP hw hK
  obtain ⟨f0,f1,f2,f3,f4,f5⟩:=hf it (by simp)
  have W:=Walks.range (prog:=X.prog) (w:=X.w) (I.ok.hd hc) it lo 1 n
  refine W.item i s _ _ hg st fun v h' tk hv st' kk=>?_
  obtain ⟨t,rfl⟩:=hv
  have I1:Inv X pins σ H { s with heap:=h',toks:=tk }:=I.turned (fun b o hb e=>kk b o (by simpa using hb) e) f0 f1 f3 f4 f5
  refine ⟨_,rfl,aHv (s:={ s with heap:=h',toks:=tk }) (n:="range_iterator") st' rfl rfl (by decide) ⟨.int (lo+i),H,I1,⟨t,?_⟩,⟨rfl,rfl⟩,st',fun b hb=>(hf b hb).1⟩⟩
  rw [Int.mul_one]
 done:=by
  intro X hP hw hK hc i pins s σ H E I hf st hg
  subst hP hw hK
  obtain ⟨f0,f1,f2,f3,f4,f5⟩:=hf it (by simp)
  exact wpAny_pyNext_range_end (I.ok.hd hc) st (by have:n≤i:=hg;lia) fun h' eb=>⟨rfl,I.turned (t':=s.toks) (fun b o hb e=>eb b o hb e) f0 f1 f3 f4 f5⟩
 self:=fun _ _ _ _ _ st h=>wpAny_pyIter_rangeiter st h
section
variable {X:Cx} {tg:Expr}
def tR (K:PySem.W.Frag) (tl:TE):TI:=fun σ H R=>tl σ H fun x H1=>∃a,x=.ref a∧(∃xs,SqL K H1 a xs)∧R (Itl K a) H1
def aGc (K:PySem.W.Frag) (tl:TE):TI:=fun σ H R=>tl σ H fun x H1=>∃a,x=.ref a∧(∃xs,SqT K H1 a xs)∧R (Itt K a) H1
theorem aNr {l:Expr} {tl:TE} (hl:PE X l tl):PI X tg l (tR X.K tl):=by
 intro pins s σ H R I h
 refine thn (hl pins s σ H _ I h) fun v s1 ⟨x,H1,I1,r1,q1⟩=>?_
 obtain ⟨a,e,⟨xs,hq⟩,q⟩:=q1
 subst e
 cases r1
 obtain ⟨its,rv,p,hz⟩:=I1.list hq
 refine wpAny_pyIter_list p.isList ?_
 refine ⟨s1.heap.objs.size,[s1.heap.objs.size],_,_,H1,rfl,I1.kept (t':=s1.toks) fun b o e=>Heap.get?_push_of_some _ e,aN5 a _,⟨_,Heap.get?_push_size _ rfl,rfl,rfl⟩,fun b hb=>?_,q⟩
 have e:b=s1.heap.objs.size:=by simpa using hb
 subst e
 exact I1.aKm (Nat.le_refl _) (I1.hok.fresh (Nat.le_refl _))
theorem aS0 {l:Expr} {tl:TE} (hl:PE X l tl):PI X tg l (aGc X.K tl):=by
 intro pins s σ H R I h
 refine thn (hl pins s σ H _ I h) fun v s1 ⟨x,H1,I1,r1,q1⟩=>?_
 obtain ⟨a,e,⟨xs,hq⟩,q⟩:=q1
 subst e
 cases r1
 obtain ⟨its,rv,p,hz⟩:=I1.tuple hq
 refine wpAny_pyIter_tuple (show s1.heap.IsTuple a its.toArray from p) ?_
 refine ⟨s1.heap.objs.size,[s1.heap.objs.size],_,_,H1,rfl,I1.kept (t':=s1.toks) fun b o e=>Heap.get?_push_of_some _ e,aKt a _,⟨_,Heap.get?_push_size _ rfl,rfl,rfl⟩,fun b hb=>?_,q⟩
 have e:b=s1.heap.objs.size:=by simpa using hb
 subst e
 exact I1.aKm (Nat.le_refl _) (I1.hok.fresh (Nat.le_refl _))
theorem aRm {pins:List (Addr × Obj)} {σ:St} {H:Hp} {s:Shared} {R:It→Hp→Prop} {E:Value→Shared→Prop} {lo hi:Int} {t u v:Tok} {tk:Nat} (I:Inv X pins σ H s) (h1:-(2 ^ 62)≤lo) (h2:lo<2 ^ 62) (h3:-(2 ^ 62)≤hi) (h4:hi<2 ^ 62)
  (q:R (Itr lo (hi - lo).toNat) H):wpAny (model X.prog X.w) X.A (pyIter (.ref s.heap.objs.size)) (PIE X pins σ tg R) E { s with heap:=s.heap.push { cls:=.type "range",data:=.fields #[.int lo t,.int hi u,.int 1 v] },toks:=tk }:=by
 refine wpAny_pyIter_range (IsRange.new ..) (small_one h1 h2 h3 h4) ?_
 have I1:Inv X pins σ H { s with heap:=s.heap.push { cls:=.type "range",data:=.fields #[.int lo t,.int hi u,.int 1 v] },toks:=tk }:=I.kept fun b o e=>Heap.get?_push_of_some _ e
 refine ⟨(s.heap.push { cls:=.type "range",data:=.fields #[.int lo t,.int hi u,.int 1 v] }).objs.size,[(s.heap.push { cls:=.type "range",data:=.fields #[.int lo t,.int hi u,.int 1 v] }).objs.size],_,_,H,rfl,
  I1.kept (t':=tk) fun b o e=>Heap.get?_push_of_some _ e,aLz _ lo (hi - lo).toNat,?_,fun b hb=>?_,q⟩
 ·have e1:lo+((0:Nat):Int) * 1=lo:=by simp
  have e2:(((hi - lo).toNat:Nat):Int) - ((0:Nat):Int)=Builtin.Range.rangeSize lo hi 1:=by rw [rangeSize_one];split <;> lia
  show IsRangeIter _ _ (lo+((0:Nat):Int) * 1) ((((hi - lo).toNat:Nat):Int) - ((0:Nat):Int)) 1
  rw [e1,e2]
  exact Heap.get?_push_size _ rfl
 ·have e:b=(s.heap.push { cls:=.type "range",data:=.fields #[.int lo t,.int hi u,.int 1 v] }).objs.size:=by simpa using hb
  subst e
  exact I1.aKm (Nat.le_refl _) (I1.hok.fresh (Nat.le_refl _))
def aQx (ta:TA):TI:=fun σ H R=>ta σ H fun vs H1=>∃j:Int,vs=[.int j]∧-(2 ^ 62)≤j∧j<2 ^ 62∧R (Itr 0 j.toNat) H1
theorem aPu {a:Expr} {ta:TA} {p pos:Pos} (hg:Gl X "range") (hm:X.mg "range"=none) (ha:PA X [a] ta) (hs:starEach [a] X.env=[(false,eval a X.env)]:=by rfl):PI X tg (.Call (.Name "range" p) [a] [] pos) (aQx ta):=by
 intro pins s σ H R I h
 refine Call_ (sY I hg hm boot_range (PyProof.Rows.callWith_type1 (thn (ha pos pins s σ H _ I h) fun us s1 ⟨vs,H1,I1,r1,q1⟩=>?_) hs rfl))
 obtain ⟨j,e,q1,q2,q⟩:=q1
 subst e
 cases r1 with
 |cons r rr=>
  cases rr
  obtain ⟨t,rfl⟩:=r
  exact call_range_1 (aRm I1 (by lia) (by lia) q1 q2 (by simpa using q))
def aYr (wi:TI) (g:TG) (tb:TS):TS:=fun D σ H=>wi σ H fun J H1=>∃W:Nat→Nat→St→Hp→Prop,(∃m,W 0 m σ H1)∧∀i m σ H,W i m σ H →
 (J.stop i H∧D.nx σ H)∨(J.go i H∧∃N:St→Hp→Prop,(∀σ' H',N σ' H'→∃m',m'<m∧W (i+1) m' σ' H')∧∀x H',J.yld i H x H'→g x σ H' fun σ2 H2=>tb { D with nx:=N,ct:=N,bk:=D.nx } σ2 H2)
def zJ (fp:List Addr) (h:Heap):List (Addr × Obj):=fp.filterMap fun b=>(h.get? b).map fun o=>(b,o)
theorem lH {fp:List Addr} {h:Heap} {b:Addr} {o:Obj} (hb:b∈fp) (e:h.get? b=some o):(b,o)∈zJ fp h:=List.mem_filterMap.mpr ⟨b,hb,by rw [e];rfl⟩
theorem aPr {fp:List Addr} {h:Heap} {p:Addr × Obj} (hp:p∈zJ fp h):p.1∈fp∧h.get? p.1=some p.2:=by
 obtain ⟨b,hb,e⟩:=List.mem_filterMap.mp hp
 cases q:h.get? b with
 |none=>rw [q] at e;cases e
 |some o=>
  rw [q] at e
  have e':(b,o)=p:=Option.some.inj e
  subst e'
  exact ⟨hb,q⟩
theorem Inv.pinned {pins:List (Addr × Obj)} {σ:St} {H:Hp} {s:Shared} {fp:List Addr} (I:Inv X pins σ H s) (hf:∀b∈fp,vY X pins H b) (ho:∀b∈fp,∃o,s.heap.get? b=some o∧∀v,o.data≠.cell v):Inv X (pins++zJ fp s.heap) σ H s:=
 I.aMz fun p hp=>(List.mem_append.mp hp).elim (fun z=>I.pin p (List.mem_append_right _ z)) fun z=>by
  obtain ⟨hb,e⟩:=aPr z
  obtain ⟨f0,f1,f2,_⟩:=hf p.1 hb
  obtain ⟨o,e',d⟩:=ho p.1 hb
  rw [e] at e';cases e'
  exact ⟨e,f0,f1,f2,d⟩
theorem Inv.nR {pins pl:List (Addr × Obj)} {σ:St} {H:Hp} {s:Shared} (I:Inv X (pins++pl) σ H s):Inv X pins σ H s:=I.aMz fun p hp=>I.pin p (List.mem_append_right _ (List.mem_append_left _ hp))
theorem aXf {iter:Expr} {body:List Stmt} {wi:TI} {g:TG} {tb:TS} {pos:Pos} (hp:PassesOwn (model X.prog X.w) X.A X.env X.xe) (hc:X.calm=true) (hi:PI X tg iter wi) (hg:PG X tg g) (hb:PSs X body tb)
  (hs:∀x,foldedSetIterable iter X.env x=pure x:=by intro _;rfl):PS X (.For tg iter body [] pos) (aYr wi g tb):=by
 intro pins s σ H D I h
 refine wpAny_For (thn (hi pins s σ H _ I h) fun v s1 h1=>thn h1 fun itv s2 h2=>?_) hs
 obtain ⟨it,fp,tn,J,H2,e,I2,T,st2,f2,W,⟨m0,w0⟩,turn⟩:=h2
 subst e
 have stat:∀{H':Hp},(∀b∈fp,H' b=none)→∀b∈fp,vY X pins H' b:=fun hn b hb=>⟨hn b hb,(f2 b hb).2⟩
 refine codeAny_forLoop_any (fun n s'=>∃i σ' H',Inv X pins σ' H' s'∧tn i s'.heap∧(∀b∈fp,H' b=none)∧W i n σ' H') ?_ m0 ⟨0,σ,H2,I2,st2,fun b hb=>(f2 b hb).1,w0⟩
 rintro n s3 ⟨i,σ3,H3,I3,st3,fr3,w3⟩
 rcases turn i n σ3 H3 w3 with ⟨stop,qn⟩|⟨go,N,hN,step⟩
 ·refine wpAny_passesOwn hp (thn (T.done X rfl rfl rfl hc i pins s3 σ3 H3 X.xe I3 (stat fr3) st3 stop) fun r s4 ⟨hr,I4⟩=>?_)
  subst hr
  exact wpAny_execs_nil ⟨σ3,H3,I4,qn⟩
 ·refine wpAny_passesOwn hp (thn (T.item X rfl rfl rfl hc i pins s3 σ3 H3 X.xe I3 (stat fr3) st3 go) fun r s4 ⟨u,hr,h4⟩=>?_)
  subst hr
  refine wpAny_passesOwn hp (thn h4 fun _ s5 ⟨x,H5,I5,r5,y5,st5,fr5⟩=>?_)
  have I5':=I5.pinned (stat fr5) (T.obj _ _ st5)
  refine wpAny_passesOwn hp (thn (hg _ s5 σ3 H5 x u _ I5' r5 (step x H5 y5)) fun _ s6 ⟨σ6,H6,I6,q6⟩=>?_)
  refine wpAny_passesOwn hp (thn (hb _ s6 σ6 H6 _ I6 q6) fun f s7 q7=>?_)
  have again:∀{σ7:St} {H7:Hp},Inv X (pins++zJ fp s5.heap) σ7 H7 s7→N σ7 H7→∃m,m<n∧∃i σ' H',Inv X pins σ' H' s7∧tn i s7.heap∧(∀b∈fp,H' b=none)∧W i m σ' H':=fun {σ7 H7} I7 n7=>by
   obtain ⟨m',hm,w7⟩:=hN σ7 H7 n7
   refine ⟨m',hm,i+1,σ7,H7,I7.nR,T.keep _ _ _ st5 fun b hb o e=>(I7.pin (b,o) (List.mem_append_right _ (List.mem_append_right _ (lH hb e)))).1,fun b hb=>?_,w7⟩
   obtain ⟨o,e,d⟩:=T.obj _ _ st5 b hb
   exact (I7.pin (b,o) (List.mem_append_right _ (List.mem_append_right _ (lH hb e)))).2.1
  cases f with
  |next=>obtain ⟨σ7,H7,I7,n7⟩:=q7;exact again I7 n7
  |cont=>obtain ⟨σ7,H7,I7,n7⟩:=q7;exact again I7 n7
  |brk=>obtain ⟨σ7,H7,I7,q7⟩:=q7;exact ⟨σ7,H7,I7.nR,q7⟩
  |ret v=>obtain ⟨x7,σ7,H7,I7,r7,q7⟩:=q7;exact ⟨x7,σ7,H7,I7.nR,r7,q7⟩
end
theorem xJ {K:PySem.W.Frag} {a:Addr} {xs:List V} {g:TG} {tb:TS} {D:Ends} {σ:St} {H:Hp} (Pv:Nat→St→Hp→Prop) (h0:Pv 0 σ H) (hl:∀i σ H,i≤xs.length→Pv i σ H→SqT K H a xs)
  (hs:∀i x σ H,xs[i]?=some x→Pv i σ H→g x σ H fun σ2 H2=>tb { D with nx:=Pv (i+1),ct:=Pv (i+1),bk:=D.nx } σ2 H2) (hd:∀σ H,Pv xs.length σ H→D.nx σ H) :
  ∃W:Nat→Nat→St→Hp→Prop,(∃m,W 0 m σ H)∧∀i m σ H,W i m σ H →
   ((Itt K a).stop i H∧D.nx σ H)∨((Itt K a).go i H∧∃N:St→Hp→Prop,(∀σ' H',N σ' H'→∃m',m'<m∧W (i+1) m' σ' H')∧∀x H',(Itt K a).yld i H x H'→g x σ H' fun σ2 H2=>tb { D with nx:=N,ct:=N,bk:=D.nx } σ2 H2):=by
 refine ⟨fun i m σ H=>m=xs.length - i∧i≤xs.length∧Pv i σ H,⟨xs.length,by simp,Nat.zero_le _,h0⟩,?_⟩
 rintro i m σ H ⟨rfl,hi,p⟩
 have q:=hl i σ H hi p
 by_cases hlt:i<xs.length
 ·refine .inr ⟨⟨xs,xs[i],q,by simp [hlt]⟩,Pv (i+1),fun σ' H' p'=>⟨xs.length - (i+1),by lia,rfl,hlt,p'⟩,fun x H' y=>?_⟩
  obtain ⟨e,y⟩:=y
  subst e
  exact hs i x σ _ (y xs q) p
 ·have e:i=xs.length:=by lia
  subst e
  exact .inl ⟨⟨xs,q,Nat.le_refl _⟩,hd σ H p⟩
theorem jF {lo:Int} {n:Nat} {g:TG} {tb:TS} {D:Ends} {σ:St} {H:Hp} (Pv:Nat→St→Hp→Prop) (h0:Pv 0 σ H)
  (hs:∀i σ H,i<n→Pv i σ H→g (.int (lo+i)) σ H fun σ2 H2=>tb { D with nx:=Pv (i+1),ct:=Pv (i+1),bk:=D.nx } σ2 H2) (hd:∀σ H,Pv n σ H→D.nx σ H) :
  ∃W:Nat→Nat→St→Hp→Prop,(∃m,W 0 m σ H)∧∀i m σ H,W i m σ H →
   ((Itr lo n).stop i H∧D.nx σ H)∨((Itr lo n).go i H∧∃N:St→Hp→Prop,(∀σ' H',N σ' H'→∃m',m'<m∧W (i+1) m' σ' H')∧∀x H',(Itr lo n).yld i H x H'→g x σ H' fun σ2 H2=>tb { D with nx:=N,ct:=N,bk:=D.nx } σ2 H2):=by
 refine ⟨fun i m σ H=>m=n - i∧i≤n∧Pv i σ H,⟨n,by simp,Nat.zero_le _,h0⟩,?_⟩
 rintro i m σ H ⟨rfl,hi,p⟩
 by_cases hlt:i<n
 ·refine .inr ⟨hlt,Pv (i+1),fun σ' H' p'=>⟨n - (i+1),by lia,rfl,hlt,p'⟩,fun x H' y=>?_⟩
  obtain ⟨e,y⟩:=y
  subst e y
  exact hs i σ _ hlt p
 ·have e:i=n:=by lia
  subst e
  exact .inl ⟨Nat.le_refl _,hd σ H p⟩
abbrev R2:=V→V→Hp→VK→Prop
def OpR (X:Cx) (f:Value→Value→Sem Value) (r:R2):Prop:=
 ∀(pins:List (Addr × Obj)) (s:Shared) (σ:St) (H:Hp) (x y:V) (v u:Value) (Q:VK),Inv X pins σ H s→RelV x v→RelV y u→r x y H Q →
  wpAny (model X.prog X.w) X.A (f v u) (EP X pins σ Q) X.xe s
def cW (X:Cx) (f:Value) (r:List V→Hp→VK→Prop):Prop:=
 ∀(pins:List (Addr × Obj)) (s:Shared) (σ:St) (H:Hp) (xs:List V) (us:List Value) (Q:VK),Inv X pins σ H s→Vals xs us→r xs H Q →
  wpAny (model X.prog X.w) X.A (call f us) (EP X pins σ Q) X.xe s
def aZ2 (X:Cx) (r:V→Hp→(Bool→Hp→Prop)→Prop):Prop:=
 ∀(pins:List (Addr × Obj)) (s:Shared) (σ:St) (H:Hp) (x:V) (v:Value) (Q:Bool→Hp→Prop),Inv X pins σ H s→RelV x v→r x H Q →
  wpAny (model X.prog X.w) X.A (truthy v) (TP X pins σ Q) X.xe s
def tOp (r:R2) (ta tb:TE):TE:=fun σ H Q=>ta σ H fun x H1=>tb σ H1 fun y H2=>r x y H2 Q
def rI (C:Int→Int→Prop) (g:Int→Int→V):R2:=fun x y H Q=>∃i j,x=.int i∧y=.int j∧C i j∧Q (g i j) H
def rI0 (g:Int→Int→V):R2:=fun x y H Q=>∃i j,x=.int i∧y=.int j∧Q (g i j) H
section
variable {X:Cx} {a b c:Expr} {ta tb tc:TE} {pos:Pos}
theorem aUi (ha:PE X a ta) (hb:PE X b tb) {pins:List (Addr × Obj)} {s:Shared} {σ:St} {H:Hp} {R:V→V→Hp→Prop} (I:Inv X pins σ H s)
  (h:ta σ H fun x H1=>tb σ H1 fun y H2=>R x y H2) {Q:Value→Shared→Prop} {f:Value→Value→Sem Value}
  (hf:∀v u s2 x y H2,Inv X pins σ H2 s2→RelV x v→RelV y u→R x y H2→wpAny (model X.prog X.w) X.A (f v u) Q X.xe s2) :
  wpAny (model X.prog X.w) X.A (eval a X.env) (fun v s₁=>wpAny (model X.prog X.w) X.A (eval b X.env) (fun u s₂=>wpAny (model X.prog X.w) X.A (f v u) Q X.xe s₂) X.xe s₁) X.xe s:=by
 refine thn (ha pins s σ H _ I h) fun v s1 ⟨x,H1,I1,r1,q1⟩=>?_
 refine thn (hb pins s1 σ H1 _ I1 q1) fun u s2 ⟨y,H2,I2,r2,q2⟩=>?_
 exact hf v u s2 x y H2 I2 r1 r2 q2
theorem aYj {op:Operator} {r:R2} (ho:OpR X (binaryOp op) r) (ha:PE X a ta) (hb:PE X b tb):PE X (.BinOp a op b pos) (tOp r ta tb):=by
 intro pins s σ H Q I h
 exact wpAny_BinOp (aUi ha hb I h fun v u s2 x y H2 I2 rx ry q=>ho pins s2 σ H2 x y v u Q I2 rx ry q)
theorem opI {f:Value→Value→Sem Value} {C:Int→Int→Prop} {g:Int→Int→Int}
  (rule:∀(i j:Int) (t u:Tok) (s:Shared) (Q:Value→Shared→Prop) (E:Value→Shared→Prop),C i j→Q (.int (g i j) s.toks) { s with toks:=s.toks+1 }→wpAny (model X.prog X.w) X.A (f (.int i t) (.int j u)) Q E s) :
  OpR X f (rI C fun i j=>.int (g i j)):=by
 intro pins s σ H x y v u Q I rx ry h
 obtain ⟨i,j,rfl,rfl,hc,q⟩:=h
 obtain ⟨t,rfl⟩:=rx
 obtain ⟨t',rfl⟩:=ry
 exact rule i j t t' s _ _ hc ⟨.int (g i j),H,I.tok _,⟨_,rfl⟩,q⟩
theorem aZq {f:Value→Value→Sem Value} {g:Int→Int→Int}
  (rule:∀(i j:Int) (t u:Tok) (s:Shared) (Q:Value→Shared→Prop) (E:Value→Shared→Prop),Q (.int (g i j) s.toks) { s with toks:=s.toks+1 }→wpAny (model X.prog X.w) X.A (f (.int i t) (.int j u)) Q E s) :
  OpR X f (rI0 fun i j=>.int (g i j)):=by
 intro pins s σ H x y v u Q I rx ry h
 obtain ⟨i,j,rfl,rfl,q⟩:=h
 obtain ⟨t,rfl⟩:=rx
 obtain ⟨t',rfl⟩:=ry
 exact rule i j t t' s _ _ ⟨.int (g i j),H,I.tok _,⟨_,rfl⟩,q⟩
theorem aX4 {f:Value→Value→Sem Value} {g:Int→Int→Bool}
  (rule:∀(i j:Int) (t u:Tok) (s:Shared) (Q:Value→Shared→Prop) (E:Value→Shared→Prop),Q (.bool (g i j)) s→wpAny (model X.prog X.w) X.A (f (.int i t) (.int j u)) Q E s) :
  OpR X f (rI0 fun i j=>.bl (g i j)):=by
 intro pins s σ H x y v u Q I rx ry h
 obtain ⟨i,j,rfl,rfl,q⟩:=h
 obtain ⟨t,rfl⟩:=rx
 obtain ⟨t',rfl⟩:=ry
 exact rule i j t t' s _ _ ⟨.bl (g i j),H,I,rfl,q⟩
def bAg (i j:Int):Prop:=0<j∧j<1073741824
def bAd (i j:Int):Prop:=0≤j∧j≤1000000∧i.natAbs<2 ^ 64
def aXz (i j:Int):Prop:=(-(2 ^ 64)<i∧i<2 ^ 64)∨(-(2 ^ 64)<j∧j<2 ^ 64)
theorem aXz.ok {i j:Int} (h:aXz i j):IntMulOk i j:=by
 rcases h with ⟨h1,h2⟩|⟨h1,h2⟩
 ·exact .of_left (intBits_le_64 h1 h2)
 ·exact .of_right (intBits_le_64 h1 h2)
theorem eY:OpR X (binaryOp .Add) (rI0 fun i j=>.int (i+j)):=aZq fun _ _ _ _ _ _ _ q=>add_int q
theorem aBf:OpR X (binaryOp .Sub) (rI0 fun i j=>.int (i - j)):=aZq fun _ _ _ _ _ _ _ q=>sub_int q
theorem aCw:OpR X (binaryOp .Mult) (rI aXz fun i j=>.int (i * j)):=opI fun _ _ _ _ _ _ _ hc q=>mul_int q hc.ok
theorem aN4:OpR X (binaryOp .FloorDiv) (rI bAg fun i j=>.int (i / j)):=opI fun i j _ _ _ _ _ hc q=>by
 have h1:(0:Int)<j:=hc.1
 have h2:j<1073741824:=hc.2
 exact floordiv_int (by lia) (by rw [Int.fdiv_eq_ediv_of_nonneg i (by lia)];exact q) (.inl (PyProof.noPylong_small (by lia)))
theorem tX:OpR X (binaryOp .Mod) (rI (fun _ j=>0<j) fun i j=>.int (i % j)):=opI fun i j _ _ _ _ _ hc q=>by
 have h1:(0:Int)<j:=hc
 exact mod_int' (by lia) (by rw [Int.fmod_eq_emod_of_nonneg i (by lia)];exact q)
theorem aLi:OpR X (binaryOp .Pow) (rI bAd fun i j=>.int (i ^ j.toNat)):=opI fun _ _ _ _ _ _ _ hc q=>pow_int_small hc.1 hc.2.1 hc.2.2 q
end
def scal:V→V→Bool
 |.non,.non=>true|.non,.int _=>true|.int _,.non=>true|.non,.bl _=>true|.bl _,.non=>true|.non,.str _=>true|.str _,.non=>true
 |.int _,.int _=>true|.bl _,.bl _=>true|.str _,.str _=>true|.byt _,.byt _=>true
 |.int _,.str _=>true|.str _,.int _=>true|.bl _,.str _=>true|.str _,.bl _=>true
 |_,_=>false
def rEq:R2:=fun x y H Q=>scal x y=true∧Q (.bl (decide (x=y))) H
def rNe:R2:=fun x y H Q=>scal x y=true∧Q (.bl (!decide (x=y))) H
theorem aM8 {i j:Int}:decide (V.int i=V.int j)=(i == j):=by
 rw [Bool.eq_iff_iff]
 simp
theorem aTb {i j:Bool}:decide (V.bl i=V.bl j)=(i == j):=by
 rw [Bool.eq_iff_iff]
 simp
theorem aM0 {i j:Str}:decide (V.str i=V.str j)=(i == j):=by
 rw [Bool.eq_iff_iff]
 simp
theorem aNa {i j:Array UInt8}:decide (V.byt i=V.byt j)=(i.toList == j.toList):=by
 rw [Bool.eq_iff_iff]
 cases i
 cases j
 simp
section
variable {X:Cx} {a b c:Expr} {ta tb tc:TE} {pos:Pos}
theorem cN {pins:List (Addr × Obj)} {σ:St} {H:Hp} {s:Shared} {Q:VK} {k k':Bool} (I:Inv X pins σ H s) (q:Q (.bl k) H) (e:k=k'):EP X pins σ Q (.bool k') s:=by
 subst e
 exact ⟨.bl k,H,I,rfl,q⟩
theorem bY:OpR X (compareOp .Eq) rEq:=by
 intro pins s σ H x y v u Q I rx ry h
 obtain ⟨hs,q⟩:=h
 cases x with
 |non=>
  cases rx
  cases y with
  |non=>cases ry;exact PySem.EqNone.eq_none_none (cN I q (by simp))
  |bl j=>cases ry;exact PySem.EqNone.eq_none_bool (cN I q (by simp))
  |int j=>obtain ⟨t',rfl⟩:=ry;exact PySem.EqNone.eq_none_int (cN I q (by simp))
  |str j=>obtain ⟨t',rfl⟩:=ry;exact PySem.EqNone.eq_none_str (cN I q (by simp))
  |_=>exact absurd (show false=true from hs) Bool.false_ne_true
 |bl i=>
  cases rx
  cases y with
  |non=>cases ry;exact PySem.EqNone.eq_bool_none (cN I q (by simp))
  |bl j=>cases ry;exact eq_bool (cN I q aTb)
  |str j=>obtain ⟨t',rfl⟩:=ry;exact PySem.EqMixed.eq_bool_str (cN I q (by simp))
  |_=>exact absurd (show false=true from hs) Bool.false_ne_true
 |int i=>
  obtain ⟨t,rfl⟩:=rx
  cases y with
  |non=>cases ry;exact PySem.EqNone.eq_int_none (cN I q (by simp))
  |int j=>obtain ⟨t',rfl⟩:=ry;exact eq_int (cN I q aM8)
  |str j=>obtain ⟨t',rfl⟩:=ry;exact PySem.EqMixed.eq_int_str (cN I q (by simp))
  |_=>exact absurd (show false=true from hs) Bool.false_ne_true
 |str i=>
  obtain ⟨t,rfl⟩:=rx
  cases y with
  |non=>cases ry;exact PySem.EqNone.eq_str_none (cN I q (by simp))
  |bl j=>cases ry;exact PySem.EqMixed.eq_str_bool (cN I q (by simp))
  |int j=>obtain ⟨t',rfl⟩:=ry;exact PySem.EqMixed.eq_str_int (cN I q (by simp))
  |str j=>obtain ⟨t',rfl⟩:=ry;exact eq_str (cN I q aM0)
  |_=>exact absurd (show false=true from hs) Bool.false_ne_true
 |byt i=>
  obtain ⟨t,rfl⟩:=rx
  cases y with
  |byt j=>obtain ⟨t',rfl⟩:=ry;exact PySem.W.eq_bytes (cN I q aNa)
  |_=>exact absurd (show false=true from hs) Bool.false_ne_true
 |_=>cases y <;> exact absurd (show false=true from hs) Bool.false_ne_true
theorem uW:OpR X (compareOp .NotEq) rNe:=by
 intro pins s σ H x y v u Q I rx ry h
 obtain ⟨hs,q⟩:=h
 cases x with
 |non=>
  cases rx
  cases y with
  |non=>cases ry;exact PySem.EqNone.ne_none_none (cN I q (by simp))
  |bl j=>cases ry;exact PySem.EqNone.ne_none_bool (cN I q (by simp))
  |int j=>obtain ⟨t',rfl⟩:=ry;exact PySem.EqNone.ne_none_int (cN I q (by simp))
  |str j=>obtain ⟨t',rfl⟩:=ry;exact PySem.EqNone.ne_none_str (cN I q (by simp))
  |_=>exact absurd (show false=true from hs) Bool.false_ne_true
 |bl i=>
  cases rx
  cases y with
  |non=>cases ry;exact PySem.EqNone.ne_bool_none (cN I q (by simp))
  |bl j=>cases ry;exact ne_bool (cN I q (congrArg not aTb))
  |str j=>obtain ⟨t',rfl⟩:=ry;exact PySem.EqMixed.ne_bool_str (cN I q (by simp))
  |_=>exact absurd (show false=true from hs) Bool.false_ne_true
 |int i=>
  obtain ⟨t,rfl⟩:=rx
  cases y with
  |non=>cases ry;exact PySem.EqNone.ne_int_none (cN I q (by simp))
  |int j=>obtain ⟨t',rfl⟩:=ry;exact ne_int (cN I q (congrArg not aM8))
  |str j=>obtain ⟨t',rfl⟩:=ry;exact PySem.EqMixed.ne_int_str (cN I q (by simp))
  |_=>exact absurd (show false=true from hs) Bool.false_ne_true
 |str i=>
  obtain ⟨t,rfl⟩:=rx
  cases y with
  |non=>cases ry;exact PySem.EqNone.ne_str_none (cN I q (by simp))
  |bl j=>cases ry;exact PySem.EqMixed.ne_str_bool (cN I q (by simp))
  |int j=>obtain ⟨t',rfl⟩:=ry;exact PySem.EqMixed.ne_str_int (cN I q (by simp))
  |str j=>obtain ⟨t',rfl⟩:=ry;exact ne_str (cN I q (congrArg not aM0))
  |_=>exact absurd (show false=true from hs) Bool.false_ne_true
 |byt i=>
  obtain ⟨t,rfl⟩:=rx
  cases y with
  |byt j=>obtain ⟨t',rfl⟩:=ry;exact PySem.W.ne_bytes (cN I q (congrArg not aNa))
  |_=>exact absurd (show false=true from hs) Bool.false_ne_true
 |_=>cases y <;> exact absurd (show false=true from hs) Bool.false_ne_true
theorem aNf:OpR X (compareOp .Lt) (rI0 fun i j=>.bl (decide (i<j))):=aX4 fun _ _ _ _ _ _ _ q=>lt_int q
theorem aEb:OpR X (compareOp .LtE) (rI0 fun i j=>.bl (decide (i≤j))):=aX4 fun _ _ _ _ _ _ _ q=>le_int q
theorem aNw:OpR X (compareOp .Gt) (rI0 fun i j=>.bl (decide (j<i))):=aX4 fun _ _ _ _ _ _ _ q=>gt_int q
theorem aPm:OpR X (compareOp .In) (fun x y H Q=>∃i j,x=.str i∧y=.str j∧Q (.bl (!(Builtin.Str.occurrences j i 0 j.length 1).isEmpty)) H):=by
 intro pins s σ H x y v u Q I rx ry h
 obtain ⟨i,j,rfl,rfl,q⟩:=h
 obtain ⟨t,rfl⟩:=rx
 obtain ⟨t',rfl⟩:=ry
 exact in_str (cN I q rfl)
theorem aSd:OpR X (compareOp .Is) (fun x y H Q=>y=.non∧Q (.bl (decide (x=.non))) H):=by
 intro pins s σ H x y v u Q I rx ry h
 obtain ⟨rfl,q⟩:=h
 cases ry
 refine is_none_gen (cN I q ?_)
 cases x <;> first
  |(cases rx;rfl)
  |(obtain ⟨t,rfl⟩:=rx;rfl)
theorem OpR.or {f:Value→Value→Sem Value} {r r':R2} (h:OpR X f r) (h':OpR X f r'):OpR X f (fun x y H Q=>r x y H Q∨r' x y H Q):=by
 intro pins s σ H x y v u Q I rx ry q
 rcases q with q|q
 ·exact h pins s σ H x y v u Q I rx ry q
 ·exact h' pins s σ H x y v u Q I rx ry q
theorem aX (b:Expr) {op:CmpOp} (h:op≠.In:=by decide) (h2:op≠.NotIn:=by decide):behindInMarks op b=false:=by
 have e1:(op == CmpOp.In)=false:=by cases op <;> first|rfl|exact absurd rfl h
 have e2:(op == CmpOp.NotIn)=false:=by cases op <;> first|rfl|exact absurd rfl h2
 cases b <;> simp [behindInMarks,e1,e2]
theorem aUx {op:CmpOp} {r:R2} (ho:OpR X (compareOp op) r) (ha:PE X a ta) (hb:PE X b tb) (hm:behindInMarks op b=false):PE X (.Compare a [op] [b] pos) (tOp r ta tb):=by
 intro pins s σ H Q I h
 exact wpAny_Compare1 (aUi ha hb I h fun v u s2 x y H2 I2 rx ry q=>ho pins s2 σ H2 x y v u Q I2 rx ry q) hm
def aIs (t:TE):TT:=fun σ H Q=>t σ H fun x H'=>∃k,x=.bl k∧Q k H'
theorem aTo {op:CmpOp} {r:R2} (ho:OpR X (compareOp op) r) (ha:PE X a ta) (hb:PE X b tb) (hm:behindInMarks op b=false):PT X (.Compare a [op] [b] pos) (aIs (tOp r ta tb)):=by
 intro pins s σ H Q I h
 refine wpAny_isTrue_Compare1 (thn (ha pins s σ H _ I h) fun v s1 ⟨x,H1,I1,r1,q1⟩=>thn (hb pins s1 σ H1 _ I1 q1) fun u s2 ⟨y,H2,I2,r2,q2⟩=>
  thn (ho pins s2 σ H2 x y v u _ I2 r1 r2 q2) fun c s3 ⟨z,H3,I3,r3,k,e,q3⟩=>?_) hm
 subst e
 cases r3
 exact wpAny_truthy_bool ⟨H3,I3,q3⟩
def aHe (r r':R2) (ta tb tc:TE):TE:=fun σ H Q=>ta σ H fun x H1=>tb σ H1 fun y H2=>r x y H2 fun z H3=>∃k,z=.bl k ∧
 (if k=true then tc σ H3 fun w' H4=>r' y w' H4 Q else Q (.bl false) H3)
theorem aQz {op op':CmpOp} {r r':R2} (ho:OpR X (compareOp op) r) (ho':OpR X (compareOp op') r') (ha:PE X a ta) (hb:PE X b tb) (hc:PE X c tc)
  (hm:lastMarks [op,op'] [b,c]=false:=by with_unfolding_all rfl):PE X (.Compare a [op,op'] [b,c] pos) (aHe r r' ta tb tc):=by
 intro pins s σ H Q I h
 refine Compare_chain (thn (ha pins s σ H _ I h) fun v s1 ⟨x,H1,I1,r1,q1⟩=>chain_link (thn (hb pins s1 σ H1 _ I1 q1) fun u s2 ⟨y,H2,I2,r2,q2⟩=>
  thn (ho pins s2 σ H2 x y v u _ I2 r1 r2 q2) fun d s3 ⟨z,H3,I3,r3,k,e,q3⟩=>?_)) hm
 subst e
 cases r3
 refine wpAny_truthy_bool ?_
 cases k with
 |false=>exact ite_ff ⟨.bl false,H3,I3,rfl,q3⟩
 |true=>exact ite_tt (chain_last (thn (hc pins s3 σ H3 _ I3 q3) fun w' s4 ⟨z',H4,I4,r4,q4⟩=>ho' pins s4 σ H4 y z' u w' Q I4 r2 r4 q4))
theorem aSy {op op':CmpOp} {r r':R2} (ho:OpR X (compareOp op) r) (ho':OpR X (compareOp op') r') (ha:PE X a ta) (hb:PE X b tb) (hc:PE X c tc)
  (hm:lastMarks [op,op'] [b,c]=false:=by with_unfolding_all rfl):PT X (.Compare a [op,op'] [b,c] pos) (aIs (aHe r r' ta tb tc)):=by
 intro pins s σ H Q I h
 refine isTrue_chain (thn (ha pins s σ H _ I h) fun v s1 ⟨x,H1,I1,r1,q1⟩=>test_link (thn (hb pins s1 σ H1 _ I1 q1) fun u s2 ⟨y,H2,I2,r2,q2⟩=>
  thn (ho pins s2 σ H2 x y v u _ I2 r1 r2 q2) fun d s3 ⟨z,H3,I3,r3,k,e,q3⟩=>?_)) hm
 subst e
 cases r3
 refine wpAny_truthy_bool ?_
 cases k with
 |false=>
  obtain ⟨k',e',q'⟩:=q3
  cases e'
  exact ite_ff ⟨H3,I3,q'⟩
 |true=>
  refine ite_tt (test_last (thn (hc pins s3 σ H3 _ I3 q3) fun w' s4 ⟨z',H4,I4,r4,q4⟩=>thn (ho' pins s4 σ H4 y z' u w' _ I4 r2 r4 q4) fun d' s5 ⟨z2,H5,I5,r5,k2,e2,q5⟩=>?_))
  subst e2
  cases r5
  exact wpAny_truthy_bool ⟨H5,I5,q5⟩
def aWy (K:PySem.W.Frag) (x:V) (H:Hp) (k:Bool):Prop:=
 match x with
 |.non=>k=false
 |.bl b=>k=b
 |.int i=>k=(i != 0)
 |.str y=>y.length≤sizeLine∧k=((y.length:Int) != 0)
 |.byt y=>y.size≤sizeLine∧k=((y.size:Int) != 0)
 |.ref p=>(∃xs,SqL K H p xs∧k=!xs.isEmpty)∨(∃xs,SqT K H p xs∧k=!xs.isEmpty)∨∃kvs,H p=some (.dK kvs)∧k=!kvs.isEmpty
 |_=>False
theorem aLk {κ:Type} {kvs:List (κ × V)} {vs:List (κ × Value)} (r:KV kvs vs):(!vs.isEmpty)=!kvs.isEmpty:=by
 cases r <;> rfl
theorem aCm {xs:List V} {its:List Value} (r:Vals xs its):(!its.toArray.isEmpty)=!xs.isEmpty:=by
 cases r <;> simp
theorem yM:(sizeLine:Nat)<2 ^ 63:=by rw [sizeLine_eq];decide
theorem aXa:aZ2 X (fun x H Q=>∃k,aWy X.K x H k∧Q k H):=by
 intro pins s σ H x v Q I rx h
 obtain ⟨k,e,q⟩:=h
 have hl:=yM
 have hs:sizeLine=16777216:=sizeLine_eq
 cases x with
 |non=>
  cases rx
  have e':k=false:=e
  subst e'
  exact truthy_none ⟨H,I,q⟩
 |bl b=>
  cases rx
  have e':k=b:=e
  subst e'
  exact wpAny_truthy_bool ⟨H,I,q⟩
 |int i=>
  obtain ⟨t,rfl⟩:=rx
  have e':k=(i != 0):=e
  subst e'
  exact PySem.P.truthy_int ⟨H,I,q⟩
 |str y=>
  obtain ⟨t,rfl⟩:=rx
  obtain ⟨hy,e'⟩:y.length≤sizeLine∧k=((y.length:Int) != 0):=e
  subst e'
  exact PySem.P.truthy_str (by lia) ⟨H,I.tok _,q⟩
 |byt y=>
  obtain ⟨t,rfl⟩:=rx
  obtain ⟨hy,e'⟩:y.size≤sizeLine∧k=((y.size:Int) != 0):=e
  subst e'
  exact PySem.W.truthy_bytes (by lia) ⟨H,I.tok _,q⟩
 |ref p=>
  cases rx
  have e':(∃xs,SqL X.K H p xs∧k=!xs.isEmpty)∨(∃xs,SqT X.K H p xs∧k=!xs.isEmpty)∨∃kvs,H p=some (.dK kvs)∧k=!kvs.isEmpty:=e
  rcases e' with ⟨xs,hx,e'⟩|⟨xs,hx,e'⟩|⟨kvs,hx,e'⟩
  ·subst e'
   obtain ⟨its,r,pl,hz⟩:=I.list hx
   have hlen:=r.length
   exact wpAny_truthy_list pl.isList (by simp only [List.size_toArray];lia) ⟨H,I.tok _,by rw [aCm r];exact q⟩
  ·subst e'
   obtain ⟨its,r,pl,hz⟩:=I.tuple hx
   have hlen:=r.length
   exact truthy_tuple pl (by simp only [List.size_toArray];lia) ⟨H,I.tok _,by rw [aCm r];exact q⟩
  ·subst e'
   obtain ⟨hz,hS,vs,r,m⟩:kvs.length≤sizeLine∧(p == sysModules)=false∧∃vs,KV kvs vs∧s.heap.DictOf (cU X.prog X.w) p vs:=I.hok p _ hx
   have hlen:kvs.length=vs.length:=Paired.length r
   exact wpAny_truthy_dict hS m (by lia) ⟨H,I.tok _,by rw [aLk r];exact q⟩
 |_=>exact (show False from e).elim
theorem aR9 (ha:PE X a ta) (he:∀whole,isTrue a X.env whole=(do let v ←whole;standAt a.pos;holding [v] (truthy v))) :
  PT X a (fun σ H Q=>ta σ H fun x H'=>∃k,aWy X.K x H' k∧Q k H'):=by
 intro pins s σ H Q I h
 exact isTrue_plain (thn (ha pins s σ H _ I h) fun v s1 ⟨x,H1,I1,r1,q1⟩=>aXa pins s1 σ H1 x v Q I1 r1 q1) (he _)
theorem qZ:OpR X (binaryOp .Add) (fun x y H Q=>∃i j,x=.str i∧y=.str j∧i.length+j.length≤sizeLine∧Q (.str (i++j)) H):=by
 intro pins s σ H x y v u Q I rx ry h
 obtain ⟨i,j,rfl,rfl,hz,q⟩:=h
 obtain ⟨t,rfl⟩:=rx
 obtain ⟨t',rfl⟩:=ry
 exact add_str (fun t' tk=>⟨.str (i++j),H,I.tok _,⟨_,rfl⟩,q⟩) hz
def aH8 (b:Expr):Prop:=∀o i,subscripted b false o i=operate [o,i] (getItem o i)
theorem aKc (ha:PE X a ta) (hb:PE X b tb) (hs:aH8 b) :
  PE X (.Subscript a b pos) (tOp (fun x y H Q=>∃z i c,x=.str z∧y=.int i∧0≤i∧i<2 ^ 63∧i<z.length∧z.cps[i.toNat]?=some c∧Q (.str ⟨#[c]⟩) H) ta tb):=by
 intro pins s σ H Q I h
 refine Subscript_ (aUi ha hb I h fun v u s2 x y H2 I2 rx ry q=>?_)
 obtain ⟨z,i,c,rfl,rfl,h0,h63,h1,hc,q⟩:=q
 obtain ⟨t,rfl⟩:=rx
 obtain ⟨t',rfl⟩:=ry
 have e:seqIndex? i z.length=some i.toNat:=PySem.StrLaws.seqIndex_nonneg h0 h1
 exact tail_any (typeIs_str s2 z t) slot_str_getitem.lookup (getItem_str (c:=c) (by
  have e1:decide (i < -(2 ^ 63:Int))=false:=decide_eq_false (by lia)
  have e2:decide (i ≥ 2 ^ 63)=false:=decide_eq_false (by lia)
  rw [e1,e2] <;> rfl) (by rw [e];exact hc) ⟨.str ⟨#[c]⟩,H2,I2.tok _,⟨_,rfl⟩,q⟩) (hs _ _)
theorem vals1 {x:V} {us:List Value} (r:Vals [x] us):∃u,us=[u]∧RelV x u:=by
 cases r with
 |cons r1 r2=>cases r2;exact ⟨_,rfl,r1⟩
theorem vals2 {x y:V} {us:List Value} (r:Vals [x,y] us):∃u w',us=[u,w']∧RelV x u∧RelV y w':=by
 cases r with
 |cons r1 r2=>
  cases r2 with
  |cons r3 r4=>cases r4;exact ⟨_,_,rfl,r1,r3⟩
theorem aRl:cW X (.builtin "abs") (fun xs H Q=>∃i,xs=[.int i]∧Q (.int (if i<0 then -i else i)) H):=by
 intro pins s σ H xs us Q I r h
 obtain ⟨i,rfl,q⟩:=h
 obtain ⟨u,rfl,t,rfl⟩:=vals1 r
 exact call_abs_int fun u tk=>⟨.int (if i<0 then -i else i),H,I.tok _,⟨_,rfl⟩,q⟩
theorem aN6 (hc:X.calm=true):cW X (.builtin "min") (fun xs H Q=>∃i j,xs=[.int i,.int j]∧Q (.int (if j<i then j else i)) H):=by
 intro pins s σ H xs us Q I r h
 obtain ⟨i,j,rfl,q⟩:=h
 obtain ⟨u,w',rfl,⟨t,rfl⟩,⟨t',rfl⟩⟩:=vals2 r
 refine min_two_ints (I.ok.hd hc) fun h' tk k=>⟨_,H,I.kept k,?_,q⟩
 by_cases hj:j<i
 ·rw [if_pos hj,if_pos hj];exact ⟨_,rfl⟩
 ·rw [if_neg hj,if_neg hj];exact ⟨_,rfl⟩
theorem pZ:cW X (.type "int") (fun xs H Q=>(∃i,xs=[.int i]∧Q (.int i) H)∨∃k,xs=[.bl k]∧Q (.int (if k then 1 else 0)) H):=by
 intro pins s σ H xs us Q I r h
 rcases h with ⟨i,rfl,q⟩|⟨k,rfl,q⟩
 ·obtain ⟨u,rfl,t,rfl⟩:=vals1 r
  exact call_int_int ⟨.int i,H,I,⟨_,rfl⟩,q⟩
 ·obtain ⟨u,rfl,r1⟩:=vals1 r
  cases r1
  exact call_int_bool ⟨.int (if k then 1 else 0),H,I.tok _,⟨_,rfl⟩,q⟩
end
section
variable {prog:Program} {w:World} {A:Around} {E:Value→Shared→Prop} {s:Shared} {K:PySem.W.Frag} {x dx C f:Addr} {mA:Str→Option Value} {name:Str} {v:Value}
end
theorem aDh.some_of {v:V} {o:Option Value} (r:aDh (some v) o):∃u,o=some u∧RelV v u:=by
 cases o with
 |none=>exact (show False from r).elim
 |some u=>exact ⟨u,rfl,r⟩
section
variable {P:Program} {w:World} {H H':Hp} {h h':Heap} {a C dx:Addr} {fs fs':List (Str × V)}
end
section
variable {X:Cx} {pins:List (Addr × Obj)} {σ:St} {H:Hp} {s:Shared} {a C dx:Addr} {fs:List (Str × V)} {f:Str} {v:V} {A:Around} {E:Value→Shared→Prop}
end
section
variable {X:Cx} {o e value:Expr} {f:Str} {pos pos' tpos:Pos} {ta tv:TE}
end
section
variable {X:Cx} {pins:List (Addr × Obj)} {σ:St} {H:Hp} {s:Shared} {A:Around} {E:Value→Shared→Prop} {Q:Value→Shared→Prop} {c:Value} {b:Bool}
end
structure Room (k:Nat) (A:Around):Prop where
 hd:A.handled=none
 dp:A.depth+3 * k+5<recursionLimit
 un:A.units+16 * k+200<cLine
theorem Room.mono {j k:Nat} {A:Around} (r:Room k A) (h:j≤k):Room j A:=⟨r.hd,by have:=r.dp;lia,by have:=r.un;lia⟩
theorem Room.deeper {k:Nat} {A:Around} (r:Room (k+1) A) (env:Env):Room k (A.deeper env):=
 ⟨r.hd,by have:=r.dp;show A.depth+1+3 * k+5<_;lia,by have:=r.un;show A.units+3+16 * k+200<_;lia⟩
theorem Room.depth {k:Nat} {A:Around} (r:Room k A):A.depth<recursionLimit:=by have:=r.dp;lia
theorem Room.units {k:Nat} {A:Around} (r:Room k A):A.units+64<cLine:=by have:=r.un;lia
def aKk:TA:=fun _ H Q=>Q [] H
def fP (ta:TE) (tr:TA):TA:=fun σ H Q=>ta σ H fun x H1=>tr σ H1 fun xs H2=>Q (x::xs) H2
section
variable {X:Cx} {e:Expr} {es:List Expr} {te:TE} {t:TA} {pos:Pos}
theorem aXe:PA X [] aKk:=fun _ _ _ _ H Q I h=>Calls.spliced_nil ⟨[],H,I,.nil,h⟩
theorem aUk (ha:PE X e te) (hr:PA X es t) (hs:starEach (e::es) X.env=(false,eval e X.env)::starEach es X.env:=by rfl):PA X (e::es) (fP te t):=by
 intro pos pins s σ H Q I h
 rw [hs]
 show wpAny _ _ (spliced ((false,eval e X.env)::backTo pos (starEach es X.env))) _ _ s
 refine Calls.spliced_cons (thn (ha pins s σ H _ I h) fun u s1 ⟨x,H1,I1,r1,q1⟩=>?_)
 exact thn (hr pos pins s1 σ H1 _ I1 q1) fun us s2 ⟨xs,H2,I2,r2,q2⟩=>⟨x::xs,H2,I2,.cons r1 r2,q2⟩
end
abbrev Sp:=List V→Hp→VK→XK→Prop
abbrev CXT:=List Env→Hp→Shared→XK→Value→Shared→Prop
structure aU6 (P:Program) (w:World) (K:PySem.W.Frag) (mg:Str→Option Value) (base:Heap) (A:Around) (outer:List Env) (s:Shared) (H:Hp):Prop where
 frames:A.frames=some outer
 mod:Mod K mg base
 bs:∀b o,base.get? b=some o→s.heap.get? b=some o∧H b=none
 bsz:base.objs.size≤s.heap.objs.size
 funs:s.heap.FunFrames base outer
 frf:∀b∈frs outer,H b=none
 hok:HOk P w H s.heap
 bare:AllBare s.gens
def CE (outer:List Env) (P:Program) (w:World) (H:Hp) (s:Shared) (Q:VK) (u:Value) (s':Shared):Prop:=
 ∃v H',s'.os=s.os∧AllBare s'.gens∧Un (frs outer) [] H H' s.heap s'.heap∧HOk P w H' s'.heap∧RelV v u∧Q v H'
def CR (CX:CXT) (outer:List Env) (P:Program) (w:World) (H:Hp) (s:Shared) (Q:VK) (E:XK) (r:Result) (s':Shared):Prop:=
 match r with
 |.ok (.ret u)=>CE outer P w H s Q u s'
 |.ok _=>False
 |.error e=>CX outer H s E e s'
structure rJ (P:Program) (w:World) (K:PySem.W.Frag) (mg:Str→Option Value) (base:Heap) (CX:CXT) (k:Nat) (f:Addr) (fd:FuncData) (ps:List Str) (sp:Sp):Prop where
 len:∀vs H Q E,sp vs H Q E→vs.length=ps.length
 run:∀(A:Around) (outer:List Env) (s:Shared) (H:Hp) (args:Args) (us:List Value) (vs:List V) (Q:VK) (E:XK),Room k A→aU6 P w K mg base A outer s H→BindsTo s fd args (ps.zip us)→Vals vs us→sp vs H Q E →
  codeAny (model P w) A (.call (.ref f) args) (CR CX outer P w H s Q E) s
theorem rJ.mono {P:Program} {w:World} {K:PySem.W.Frag} {mg:Str→Option Value} {base:Heap} {CX:CXT} {j k:Nat} {f:Addr} {fd:FuncData} {ps:List Str} {sp:Sp} (F:rJ P w K mg base CX j f fd ps sp) (h:j≤k) :
  rJ P w K mg base CX k f fd ps sp:=⟨F.len,fun A outer s H args us vs Q E hr=>F.run A outer s H args us vs Q E (hr.mono h)⟩
theorem rJ.imp {P:Program} {w:World} {K:PySem.W.Frag} {mg:Str→Option Value} {base:Heap} {CX:CXT} {k:Nat} {f:Addr} {fd:FuncData} {ps:List Str} {sp sp':Sp} (F:rJ P w K mg base CX k f fd ps sp)
  (h:∀vs H Q E,sp' vs H Q E→sp vs H Q E):rJ P w K mg base CX k f fd ps sp':=
 ⟨fun vs H Q E q=>F.len vs H Q E (h _ _ _ _ q),fun A outer s H args us vs Q E hr he hb hv hs=>F.run A outer s H args us vs Q E hr he hb hv (h _ _ _ _ hs)⟩
section
variable {X:Cx} {pins:List (Addr × Obj)} {σ:St} {H:Hp} {s s':Shared}
theorem Inv.env0 (I:Inv X pins σ H s):aU6 X.prog X.w X.K X.mg X.base X.A X.stack s H:=
 ⟨I.ok.frames,I.ok.mod,I.bs,Nat.le_trans I.ok.bsz I.sz,I.stack,I.aMv,I.hok,I.bare⟩
theorem Inv.after {Q:VK} {u:Value} (I:Inv X pins σ H s) (h:CE X.stack X.prog X.w H s Q u s'):EP X pins σ Q u s':=by
 obtain ⟨v,H',os,bare,un,hok,r,q⟩:=h
 obtain ⟨hh,g,d,t,os'⟩:=s'
 obtain rfl:os'=s.os:=os
 exact ⟨v,H',I.call (h':=hh) (g':=g) (d':=d) (t':=t) (ch:=[]) un hok bare (fun b z=>absurd z (by simp)),r,q⟩
end
def rY (sp:Sp) (dvs:List V) (E:XK) (t:TA):TE:=fun σ H Q=>t σ H fun vs H1=>sp (vs++dvs) H1 Q E
def Binds (K:PySem.W.Frag) (fd:FuncData) (ps:List Str) (ds:List Value):Prop:=
 ∀(s:Shared) (us:List Value),K.In s.heap→(us++ds).length=ps.length→BindsTo s fd ⟨us,[]⟩ (ps.zip (us++ds))
theorem Binds.all {K:PySem.W.Frag} {fd:FuncData} {ps:List Str} (h:∀us:List Value,us.length=ps.length→bindArgs fd ⟨us,[]⟩=pure (ps.zip us)):Binds K fd ps []:=fun s us _ hl=>by
 rw [List.append_nil] at hl ⊢
 exact .of_eq (h us hl)
def aGn (CX:CXT) (X:Cx) (E:XK):Prop:=∀(pins:List (Addr × Obj)) (σ:St) (H:Hp) (s:Shared) (e:Value) (s':Shared),Inv X pins σ H s→CX X.stack H s E e s'→X.xe e s'
section
variable {X:Cx} {CX:CXT} {k:Nat} {f C:Addr} {fd:FuncData} {ps:List Str} {sp:Sp} {dvs:List V} {ds:List Value} {E:XK} {x m:Str} {p pos apos:Pos} {e o:Expr} {es:List Expr} {ta:TE} {t:TA}
theorem aL0 {pins:List (Addr × Obj)} {σ:St} {H:Hp} {s:Shared} {Q:VK} {us:List Value} {vs:List V} (F:rJ X.prog X.w X.K X.mg X.base CX k f fd ps sp) (hr:Room k X.A) (hb:Binds X.K fd ps ds) (hd:Vals dvs ds) (hx:aGn CX X E)
  (I:Inv X pins σ H s) (r:Vals vs us) (h:sp (vs++dvs) H Q E):wpAny (model X.prog X.w) X.A (call (.ref f) us) (EP X pins σ Q) X.xe s:=by
 have r2:Vals (vs++dvs) (us++ds):=r.append hd
 have hl:(us++ds).length=ps.length:=by rw [←r2.length];exact F.len _ _ _ _ h
 refine wpAny_call (codeAny_mono (F.run X.A X.stack s H ⟨us,[]⟩ (us++ds) (vs++dvs) Q E hr I.env0 (hb s us I.kIn hl) r2 h) fun r s' hq=>?_)
 cases r with
 |error e=>exact hx pins σ H s e s' I hq
 |ok fl=>
  cases fl with
  |ret u=>exact I.after hq
  |next=>exact False.elim hq
  |brk=>exact False.elim hq
  |cont=>exact False.elim hq
theorem aTy (F:rJ X.prog X.w X.K X.mg X.base CX k f fd ps sp) (hr:Room k X.A) (hg:Gl X x) (hm:X.mg x=some (.ref f)) (hk:PySem.W.keepIn X.K (.ref f)=true) (hb:Binds X.K fd ps ds) (hd:Vals dvs ds) (hx:aGn CX X E)
  (ha:PA X (e::es) t) (hdb:(x == ("__debug__":Str))=false:=by decide) (he:starEach (e::es) X.env=(false,eval e X.env)::starEach es X.env:=by rfl) (hpl:(backTo pos (starEach es X.env)).any (·.1)=false:=by rfl) :
  PE X (.Call (.Name x p) (e::es) [] pos) (rY sp dvs E t):=by
 intro pins s σ H Q I h
 refine wpAny_Call_Name_kw (aF2 I hg hm ?_ hdb)
 refine PySem.W.callWith_K (h₀:=X.base) I.ok.mod.kin hk (thn (ha pos pins s σ H _ I h) fun us s1 ⟨vs,H1,I1,r,q⟩=>⟨I1.kIn,?_⟩) he hpl
 exact aL0 F hr hb hd hx I1 r q
theorem aQ3 (F:rJ X.prog X.w X.K X.mg X.base CX k f fd ps sp) (hr:Room k X.A) (hg:Gl X x) (hm:X.mg x=some (.ref f)) (hk:PySem.W.keepIn X.K (.ref f)=true) (hb:Binds X.K fd ps ds) (hd:Vals dvs ds) (hx:aGn CX X E)
  (hdb:(x == ("__debug__":Str))=false:=by decide):PE X (.Call (.Name x p) [] [] pos) (rY sp dvs E aKk):=by
 intro pins s σ H Q I h
 refine wpAny_Call_Name_kw (aF2 I hg hm ?_ hdb)
 exact PySem.W.callWith_K0 I.kIn hk (aL0 (us:=[]) F hr hb hd hx I .nil h)
end
section
variable {X:Cx} {CX:CXT} {k:Nat} {f C:Addr} {fd:FuncData} {ps ks:List Str} {sp:Sp} {E:XK} {x m:Str} {p pos apos kpos:Pos} {e o:Expr} {es:List Expr} {kws:List Keyword} {te ta:TE} {t tk:TA} {nm:Option Str}
variable {g:List Value→List Value→List Value} {gV:List V→List V→List V}
end
structure aR (N P:List Str) (sc:Scope):Prop where
 kind:sc.kind=.function
 co:sc.isCoroutine=false
 gen:sc.isGenerator=false
 nd:N.Nodup
 pre:N.take P.length=P
 par:∀x∈P,sc.names.lookup x=some .local∨sc.names.lookup x=some .cell
 nofree:∀y∈sc.names,y.2≠.free
theorem aEh {kindOf:Str→Option NameKind} {x:Str}:∀{binds:List (Str × Value)} {m:Str→Option Value},(∀v,(x,v)∉binds)→bindL kindOf binds m x=m x
 |[],_,_=>rfl
 |(n,v)::r,m,h=>by
  unfold bindL
  rw [aEh fun w hw=>h w (List.mem_cons_of_mem _ hw)]
  split
  ·have:x≠n:=by rintro rfl;exact h v List.mem_cons_self
   simp [this]
  ·rfl
theorem aEd {kindOf:Str→Option NameKind} {x:Str}:∀{binds:List (Str × Value)} {m:Str→Option Value},(∀v,(x,v)∉binds)→bindC kindOf binds m x=m x
 |[],_,_=>rfl
 |(n,v)::r,m,h=>by
  unfold bindC
  rw [aEd fun w hw=>h w (List.mem_cons_of_mem _ hw)]
  split
  ·rfl
  ·have:x≠n:=by rintro rfl;exact h v List.mem_cons_self
   simp [this]
theorem aEv {kindOf:Str→Option NameKind} {x:Str} {v:Value}:∀{P:List Str} {vs:List Value} {i:Nat} {m:Str→Option Value},P.Nodup→P[i]?=some x→vs[i]?=some v→kindOf x=some .local →
  bindL kindOf (P.zip vs) m x=some v
 |[],_,_,_,_,h,_,_=>by simp at h
 |_::_,[],_,_,_,_,h,_=>by simp at h
 |p::P,w::vs,0,m,nd,h1,h2,hk=>by
  simp at h1 h2;subst h1;subst h2
  show bindL kindOf ((p,w)::P.zip vs) m p=_
  unfold bindL
  rw [aEh fun v hv=>(List.nodup_cons.mp nd).1 (List.of_mem_zip hv).1,if_pos hk]
  simp
 |p::P,w::vs,i+1,m,nd,h1,h2,hk=>by
  show bindL kindOf ((p,w)::P.zip vs) m x=_
  unfold bindL
  exact aEv (i:=i) (List.nodup_cons.mp nd).2 (by simpa using h1) (by simpa using h2) hk
theorem aEi {kindOf:Str→Option NameKind} {x:Str} {v:Value}:∀{P:List Str} {vs:List Value} {i:Nat} {m:Str→Option Value},P.Nodup→P[i]?=some x→vs[i]?=some v→kindOf x≠some .local →
  bindC kindOf (P.zip vs) m x=some v
 |[],_,_,_,_,h,_,_=>by simp at h
 |_::_,[],_,_,_,_,h,_=>by simp at h
 |p::P,w::vs,0,m,nd,h1,h2,hk=>by
  simp at h1 h2;subst h1;subst h2
  show bindC kindOf ((p,w)::P.zip vs) m p=_
  unfold bindC
  rw [aEd fun v hv=>(List.nodup_cons.mp nd).1 (List.of_mem_zip hv).1,if_neg hk]
  simp
 |p::P,w::vs,i+1,m,nd,h1,h2,hk=>by
  show bindC kindOf ((p,w)::P.zip vs) m x=_
  unfold bindC
  exact aEi (i:=i) (List.nodup_cons.mp nd).2 (by simpa using h1) (by simpa using h2) hk
def start (N:List Str) (vs:List V):St:=vs.map some++List.replicate (N.length - vs.length) none
def aHf (CX:CXT) (P:Program) (w:World) (K:PySem.W.Frag) (mg:Str→Option Value) (base:Heap) (N:List Str) (qual:Str) (scope:Scope) (f:Addr) (cd:Value) (A:Around) (outer:List Env) (s:Shared) (H:Hp) (E:XK):Cx where
 prog:=P
 w:=w
 K:=K
 mg:=mg
 base:=base
 A:=A.deeper (envOfC qual scope s.heap.objs.size f cd)
 N:=N
 s₀:=s
 H₀:=H
 env:=envOfC qual scope s.heap.objs.size f cd
 outer:=outer
 stack:=envOfC qual scope s.heap.objs.size f cd::outer
 ex:=[]
 calm:=true
 fn:=fun _=>true
 pn:=[]
 xe:=fun e s'=>wpAny (model P w) (A.deeper (envOfC qual scope s.heap.objs.size f cd)) (leaving (envOfC qual scope s.heap.objs.size f cd) e) (fun _ s''=>CX outer H s E e s'') (fun e' s''=>CX outer H s E e' s'') s'
theorem aJs {sc:Scope} {n:Nat} {x:Str} (h:sc.names.lookup x=some .cell):∃c,(cellsFrom n sc.names []).lookup x=some c:=by
 have q:=PySem.W.cellsFrom_some sc.names n [] (.inl h)
 exact Option.isSome_iff_exists.mp q
theorem aOb {CX:CXT} {P:Program} {w:World} {K:PySem.W.Frag} {mg:Str→Option Value} {base:Heap} {N ps:List Str} {qual:Str} {scope:Scope} {f:Addr} {cd:Value} {A:Around} {outer:List Env} {s s1:Shared} {H:Hp} {E:XK} {us:List Value} {vs:List V}
  (S:aR N ps scope) (hd:A.handled=none) (e0:aU6 P w K mg base A outer s H) (hl:vs.length=ps.length) (r:Vals vs us)
  (x:InCallC s s.heap.objs.size (bindL (envOfC qual scope s.heap.objs.size f cd).kindOf (ps.zip us) fun _=>none) (cellsFrom (s.heap.objs.size+1) scope.names []) (bindC (envOfC qual scope s.heap.objs.size f cd).kindOf (ps.zip us) fun _=>none) s1) :
  Inv (aHf CX P w K mg base N qual scope f cd A outer s H E) [] (start N vs) H s1:=by
 have hpl:ps.length≤N.length:=by have:=congrArg List.length S.pre;rw [List.length_take] at this;lia
 obtain ⟨h1,tk,rfl,hk⟩:=x.done
 have noA:∀b:Addr,b∉(aHf CX P w K mg base N qual scope f cd A outer s H E).ex:=fun b z=>absurd (show b∈([]:List Addr) from z) (by simp)
 refine ⟨⟨e0.mod,S.kind,rfl,rfl,Nat.le_refl _,fun y z c h1 h2=>?_,fun y hy=>?_,fun y c _ h=>?_,fun _=>hd,Around.frames_deeper e0.frames,.inr ⟨rfl,rfl⟩,fun b z=>absurd z (noA b),e0.bs,e0.bsz,fun b _ _=>noA b,fun b z=>absurd z (noA b),e0.funs,e0.frf⟩,
  rfl,e0.bare,Un.kept hk,⟨_,x.toInCall.ns,fun i y v h1 h2 h3=>?_⟩,fun y c h=>⟨_,x.cell y c h⟩,e0.hok.fresh (Nat.le_refl _),fun y c h=>?_,fun p hp=>absurd (show p∈([]:List (Addr × Obj)) from hp) (by simp),e0.hok.kept hk,?_⟩
 ·exact name_of_addr x.apart (PySem.mem_of_lookup h1) (PySem.mem_of_lookup h2)
 ·have hy:scope.names.lookup y=some .cell∨scope.names.lookup y=some .free:=hy
  rcases hy with hy|hy
  ·exact aJs hy
  ·exact absurd rfl (S.nofree _ (PySem.mem_of_lookup hy))
 ·exact Nat.le_of_lt (x.above y c (PySem.mem_of_lookup h))
 ·have hi:i<vs.length:=by
   unfold start at h2
   by_cases hi:i<vs.length
   ·exact hi
   ·rw [List.getElem?_append_right (by simpa using hi)] at h2
    rw [List.getElem?_replicate] at h2
    split at h2 <;> cases h2
  have ha:vs[i]?=some v:=by
   unfold start at h2
   rw [List.getElem?_append_left (by simpa using hi),List.getElem?_map] at h2
   cases e:vs[i]? with
   |none=>rw [e] at h2;cases h2
   |some a=>rw [e] at h2;cases h2;rfl
  obtain ⟨u,hu,rv⟩:=r.get ha
  have hp:ps[i]?=some y:=by
   rw [←S.pre,List.getElem?_take_of_lt (by lia)];exact h1
  have ndP:ps.Nodup:=by rw [←S.pre];exact S.nd.sublist (List.take_sublist _ _)
  refine ⟨u,rv,?_⟩
  rcases S.par y (List.mem_of_getElem? hp) with k|k
  ·exact .inl ⟨k,aEv ndP hp hu k⟩
  ·obtain ⟨c,e⟩:=aJs (n:=s.heap.objs.size+1) k
   refine .inr ⟨.inl k,c,e,?_⟩
   have q:=x.cell y c e
   rw [aEi ndP hp hu (by show scope.names.lookup y≠_;rw [k];decide)] at q
   exact q
 ·exact e0.hok.fresh (Nat.le_of_lt (x.above y c (PySem.mem_of_lookup h)))
 ·unfold start
  show _=N.length
  rw [List.length_append,List.length_map,List.length_replicate]
  lia
theorem aZb {CX:CXT} {P:Program} {w:World} {K:PySem.W.Frag} {mg:Str→Option Value} {base:Heap} {k:Nat} {f:Addr} {name qual:Str} {params:Arguments} {body:List Stmt} {scope:Scope} {dV kV doc pm cdv ct oc:Value} {an od:Option Addr}
  {osl:Array (Option Value)} {N ps:List Str} {sp:Sp} (lk:K.lookup f=some ⟨oc,od,.func (PySem.W.fnOf name qual params body scope dV kV doc pm an cdv ct),osl⟩) (hcd:PySem.W.codeIn K cdv qual=true) (S:aR N ps scope)
  (len:∀vs H Q E,sp vs H Q E→vs.length=ps.length)
  (hbody:∀(A:Around) (outer:List Env) (s:Shared) (H:Hp) (vs:List V) (Q:VK) (E:XK),Room k (A.deeper (envOfC qual scope s.heap.objs.size f cdv))→sp vs H Q E →
   ∃t,PSs (aHf CX P w K mg base N qual scope f cdv A outer s H E) body t∧t { nx:=fun _ H'=>Q .non H',rt:=Q } (start N vs) H) :
  rJ P w K mg base CX (k+1) f (PySem.W.fnOf name qual params body scope dV kV doc pm an cdv ct) ps sp:=by
 refine ⟨len,fun A outer s H args us vs Q E hr e0 hb r hsp=>?_⟩
 have hl:=len _ _ _ _ hsp
 have KX:K.In s.heap:=e0.mod.kin.keeps fun b o e=>(e0.bs b o e).1
 have lim:s.heap.NoLimit:=e0.mod.nolimit.keeps fun b o e=>(e0.bs b o e).1
 have hkind:∀y∈ps.zip us,scope.names.lookup y.1=some .local∨(scope.names.lookup y.1=some .cell∧((cellsFrom (s.heap.objs.size+1) scope.names []).lookup y.1).isSome=true):=fun ⟨n,v⟩ hy=>by
  rcases S.par n (List.of_mem_zip hy).1 with q|q
  ·exact .inl q
  ·exact .inr ⟨q,PySem.W.cellsFrom_some _ _ _ (.inl q)⟩
 refine codeAny_call_function hr.depth (KX _ _ lk) rfl S.co S.gen rfl (PySem.W.codeRec_of KX hcd) (hb _ _ _ _ ?_)
 refine wpAny_newFunctionEnv_cells S.kind hkind fun env he s1 x=>?_
 subst he
 refine ⟨lim.keeps x.toInCall.keep,codeAny_func ?_⟩
 obtain ⟨t,ht,hq⟩:=hbody A outer s H vs Q E (hr.deeper _) hsp
 have I:Inv (aHf CX P w K mg base N qual scope f cdv A outer s H E) [] (start N vs) H s1:=aOb S hr.hd e0 hl r x
 refine wpAny_mono (ht [] s1 (start N vs) H _ I hq) (fun fl s' hs=>?_) fun e s' hs=>hs
 have fin:∀{σ':St} {H':Hp} {v:V} {u:Value},Inv (aHf CX P w K mg base N qual scope f cdv A outer s H E) [] σ' H' s'→RelV v u→Q v H'→CE outer P w H s Q u s':=
  fun {σ' H' v u} J rv q=>⟨v,H',J.os,J.bare,J.base,J.hok,rv,q⟩
 cases fl with
 |ret u=>
  obtain ⟨v,σ',H',J,rv,q⟩:=hs
  exact fin J rv q
 |next=>
  obtain ⟨σ',H',J,q⟩:=hs
  exact fin (v:=V.non) (u:=Value.none) J rfl q
 |brk=>
  obtain ⟨_,_,_,q⟩:=hs
  exact False.elim q
 |cont=>
  obtain ⟨_,_,_,q⟩:=hs
  exact False.elim q
section
variable {X:Cx} {x:Str} {p pos:Pos} {e:Expr} {es:List Expr} {t:TA} {id T:String} {r:List V→Hp→VK→Prop}
def tCB (r:List V→Hp→VK→Prop) (t:TA):TE:=fun σ H Q=>t σ H fun vs H1=>r vs H1 Q
theorem aRn (hc:cW X (.builtin id) r) (hg:Gl X x) (hm:X.mg x=none) (hv:bootBuiltins x=some (.builtin id)) (ha:PA X (e::es) t) (hn:x≠"__name__":=by decide) (hdb:(x == ("__debug__":Str))=false:=by decide)
  (he:starEach (e::es) X.env=(false,eval e X.env)::starEach es X.env:=by rfl) (hpl:(backTo pos (starEach es X.env)).any (·.1)=false:=by rfl):PE X (.Call (.Name x p) (e::es) [] pos) (tCB r t):=by
 intro pins s σ H Q I h
 refine wpAny_Call_Name_kw (sY I hg hm hv ?_ hn hdb)
 exact PyProof.Rows.callWith_builtin1 (thn (ha pos pins s σ H _ I h) fun us s1 ⟨vs,H1,I1,r1,q1⟩=>hc pins s1 σ H1 vs us Q I1 r1 q1) he hpl
theorem aOn (hc:cW X (.type T) r) (hg:Gl X x) (hm:X.mg x=none) (hv:bootBuiltins x=some (.type T)) (ha:PA X (e::es) t) (hn:x≠"__name__":=by decide) (hdb:(x == ("__debug__":Str))=false:=by decide)
  (he:starEach (e::es) X.env=(false,eval e X.env)::starEach es X.env:=by rfl) (hpl:(backTo pos (starEach es X.env)).any (·.1)=false:=by rfl):PE X (.Call (.Name x p) (e::es) [] pos) (tCB r t):=by
 intro pins s σ H Q I h
 refine wpAny_Call_Name_kw (sY I hg hm hv ?_ hn hdb)
 exact PyProof.Rows.callWith_type1 (thn (ha pos pins s σ H _ I h) fun us s1 ⟨vs,H1,I1,r1,q1⟩=>hc pins s1 σ H1 vs us Q I1 r1 q1) he hpl
end
end L2
namespace HT
open PySem PyProof.Rows
section
open PySem.SeqAt
open PySem.AutoSeq1 (wpAny_loadPart')
open PySem.MeetsSeq PySem.MeetsSeq2 PySem.MeetsSeq3
end
section
variable {prog:Program} {w:World} {A:Around} {E:Value→Shared→Prop} {s:Shared}
theorem aUf {t b:Addr} {vs ws:List Value} {Q:Value→Shared→Prop} (ht:IsTup s.heap t vs.toArray) (hb:IsTup s.heap b ws.toArray) (hv:vs≠[])
  (h1:ws=[]→Q (.ref t) s) (h2:ws≠[]→Q (.ref s.heap.objs.size) { s with heap:=s.heap.push { cls:=.type "tuple",data:=.seq (vs++ws).toArray } })
  (hsz:vs.length+ws.length≤sizeLine):wpAny (model prog w) A (binaryOp .Add (.ref t) (.ref b)) Q E s:=by
 obtain ⟨⟨cls,dd,data,sl⟩,ho,hc,n,hd⟩:=id ht
 obtain ⟨⟨cls2,dd2,data2,sl2⟩,ho2,hc2,n2,hd2⟩:=id hb
 simp only at hc hd hc2 hd2
 subst hc hd hc2 hd2
 have e:vs.toArray++ws.toArray=(vs++ws).toArray:=by simp
 by_cases hw:ws=[]
 ·exact concat_meets ⟨_,ho,rfl⟩ ⟨_,ho2,rfl⟩ noFill_tuple_add seq_tuple_add PySem.F.slot_tuple_add PySem.F.entry_tuple_add (PySem.F.args_tuple_add_2 _ _)
   (tuple_addW1 t b vs.toArray ws.toArray n n2 dd dd2 sl sl2 (by simpa using hv) (by simp [hw])) ⟨ho,ho2,h1 hw⟩
 ·refine concat_meets ⟨_,ho,rfl⟩ ⟨_,ho2,rfl⟩ noFill_tuple_add seq_tuple_add PySem.F.slot_tuple_add PySem.F.entry_tuple_add (PySem.F.args_tuple_add_2 _ _)
   (tuple_addW2 t b vs.toArray ws.toArray n n2 dd dd2 sl sl2 (by simpa using hv) (by simpa using hw) (by rw [List.size_toArray,List.size_toArray];exact hsz)) ⟨ho,ho2,?_⟩
  rw [e]
  exact h2 hw
def sIx (n d:Nat):Option Int→Nat
 |none=>d
 |some v=>if v<0 then (v+(n:Int)).toNat else min v.toNat n
theorem aCs (n d:Nat):sIx n d none=d:=rfl
theorem aA2 (n d k:Nat):sIx n d (some (k:Int))=min k n:=by
 show (if (k:Int)<0 then ((k:Int)+(n:Int)).toNat else min (k:Int).toNat n)=min k n
 rw [if_neg (by lia),Int.toNat_natCast]
theorem aW2 (n d:Nat) (hd:d≤n) (o:Option Int):sIx n d o≤n:=by
 cases o with
 |none=>exact hd
 |some v=>
  show (if v<0 then (v+(n:Int)).toNat else min v.toNat n)≤n
  by_cases hv:v<0
  ·rw [if_pos hv];lia
  ·rw [if_neg hv];exact Nat.min_le_right _ _
theorem aNz (v:Int) (n d:Nat):(if v<0 then max (v+(n:Int)) 0 else min v (n:Int))=((sIx n d (some v):Nat):Int):=by
 show (if v<0 then max (v+(n:Int)) 0 else min v (n:Int))=(((if v<0 then (v+(n:Int)).toNat else min v.toNat n):Nat):Int)
 by_cases hv:v<0
 ·simp only [if_pos hv];lia
 ·simp only [if_neg hv];lia
theorem aMn (lo hi:Option Int) (n:Nat):Builtin.Slice.sliceAdjust lo hi 1 (n:Int)=(((sIx n 0 lo:Nat):Int),((sIx n n hi:Nat):Int)):=by
 have h1:¬ ((1:Int)<0):=by lia
 unfold Builtin.Slice.sliceAdjust
 simp only [h1,if_false]
 refine Prod.ext ?_ ?_
 ·cases lo with
  |none=>rfl
  |some v=>exact aNz v n 0
 ·cases hi with
  |none=>rfl
  |some v=>exact aNz v n n
theorem aLo (i j:Nat):Builtin.Slice.slicePlaces (i:Int) (j:Int) 1=j - i:=by
 unfold Builtin.Slice.slicePlaces
 have h1:(1:Int) > 0:=by lia
 simp only [h1,if_true,Int.ediv_one]
 split <;> lia
theorem aCc {v:Value} {o:Option Int} {Q:Option Int→Shared→Prop} (p:IsPart v o) (h:Q o s):wpAny (model prog w) A (Builtin.Slice.slicePartIndex v) Q E s:=by
 cases p with
 |none=>exact slicePart_none h
 |int i t=>exact slicePart_int h
theorem qL {sl:Addr} {vl vu:Value} {lo hi:Option Int} {n:Nat} {Q:Int × Int × Nat→Shared→Prop} (hs:s.heap.IsSliceOf sl vl vu .none) (pl:IsPart vl lo) (pu:IsPart vu hi)
  (h:Q (((sIx n 0 lo:Nat):Int),1,sIx n n hi - sIx n 0 lo) s):wpAny (model prog w) A (Builtin.Slice.sliceApplied (.ref sl) (pure (n:Int))) Q E s:=by
 obtain ⟨os,hos,hcs,hds⟩:=id hs
 unfold Builtin.Slice.sliceApplied Builtin.Slice.sliceFields
 refine wpAny_bind (wpAny_bind (wpAny_field hos hds (x:=vl) rfl (wpAny_bind (wpAny_field hos hds (x:=vu) rfl (wpAny_bind (wpAny_field hos hds (x:=.none) rfl (wpAny_pure ?_)))))))
 refine wpAny_bind (slicePart_none ?_)
 show wpAny _ _ (if ((1:Int) == 0)=true then _ else _) _ _ s
 rw [if_neg (by decide)]
 refine wpAny_bind (aCc pl (wpAny_bind (aCc pu (wpAny_bind (wpAny_pure ?_)))))
 show wpAny _ _ (match Builtin.Slice.sliceAdjust lo hi 1 (n:Int) with|(lo,hi)=>pure (lo,(1:Int),Builtin.Slice.slicePlaces lo hi 1)) _ _ s
 rw [aMn lo hi n]
 show wpAny _ _ (pure (((sIx n 0 lo:Nat):Int),(1:Int),Builtin.Slice.slicePlaces ((sIx n 0 lo:Nat):Int) ((sIx n n hi:Nat):Int) 1)) _ _ s
 rw [aLo]
 exact wpAny_pure h
theorem aTc (xs:Array Value) (i k:Nat):((List.range k).filterMap fun (m:Nat)=>xs[((i:Int)+(m:Int) * 1).toNat]?).toArray=((xs.toList.drop i).take k).toArray:=by
 have e:(fun (m:Nat)=>xs[((i:Int)+(m:Int) * 1).toNat]?)=fun m=>xs[i+m]?:=by
  funext m
  have:((i:Int)+(m:Int) * 1).toNat=i+m:=by lia
  rw [this]
 rw [e]
 have:=pick_run xs i k
 rw [List.filterMap_map] at this
 have e2:((fun x=>xs[x]?) ∘ fun x=>i+x)=fun m=>xs[i+m]?:=rfl
 rw [e2] at this
 rw [this]
theorem wO {t sl:Addr} {items:Array Value} {vl vu:Value} {lo hi:Option Int} {Q:Value→Shared→Prop} (ht:IsTup s.heap t items) (hs:s.heap.IsSliceOf sl vl vu .none) (pl:IsPart vl lo) (pu:IsPart vu hi)
  (hw:¬ (sIx items.size 0 lo=0∧sIx items.size items.size hi=items.size))
  (h:Q (.ref s.heap.objs.size) { s with heap:=s.heap.push { cls:=.type "tuple",data:=.seq ((items.toList.drop (sIx items.size 0 lo)).take (sIx items.size items.size hi - sIx items.size 0 lo)).toArray } })
  (hsz:items.size≤sizeLine):wpAny (model prog w) A (getItem (.ref t) (.ref sl)) Q E s:=by
 have htake:sizeOk (.seq ((items.toList.drop (sIx items.size 0 lo)).take (sIx items.size items.size hi - sIx items.size 0 lo)).toArray):=by
  show ((items.toList.drop (sIx items.size 0 lo)).take (sIx items.size items.size hi - sIx items.size 0 lo)).toArray.size≤sizeLine
  rw [List.size_toArray,List.length_take,List.length_drop,Array.length_toList]
  lia
 have hj:sIx items.size items.size hi≤items.size:=aW2 _ _ (Nat.le_refl _) hi
 obtain ⟨os,hos,hcs,hds⟩:=id hs
 have hTs:s.TypeIs (.ref sl) "slice":=⟨os,hos,hcs⟩
 unfold getItem
 try with_reducible refine wpAny_holding ?_
 first|refine wpAny_bind (wpAny_pure ?_)|skip
 refine wpAny_bind (wpAny_sequenceKey ht.typeIs (by decide) ?_)
 refine wpAny_bind (wpAny_callSpecial?_slot (name:=Str.ofString "__getitem__") ht.typeIs PyProof.Rows.slot_tuple_getitem
  (wpAny_call_entry PyProof.Rows.slot_tuple_getitem ht.typeIs entry_tuple_getitem ?_ (args_tuple_getitem _ _)))
 show wpAny _ _ (Builtin.Tuple.tupleItemsOf (.ref t) >>= _) _ _ s
 refine wpAny_bind (tupleItemsOf_ ht ?_)
 refine wpAny_bind (wpAny_typeOf hTs ?_)
 rw [if_pos (by decide)]
 refine wpAny_bind (qL hs pl pu ?_)
 have hno:¬ ((((sIx items.size 0 lo:Nat):Int) == 0 && (1:Int) == 1 && (sIx items.size items.size hi - sIx items.size 0 lo) == items.size)=true):=by
  intro q
  rw [Bool.and_eq_true,Bool.and_eq_true] at q
  have q1:((sIx items.size 0 lo:Nat):Int)=0:=eq_of_beq q.1.1
  have q2:sIx items.size items.size hi - sIx items.size 0 lo=items.size:=eq_of_beq q.2
  exact hw ⟨by lia,by lia⟩
 show wpAny _ _ (if (((sIx items.size 0 lo:Nat):Int) == 0 && (1:Int) == 1 && (sIx items.size items.size hi - sIx items.size 0 lo) == items.size)=true then _ else _) _ _ s
 rw [if_neg hno,aTc]
 first
  |exact wpAny_bind (m:=Builtin.Tuple.tupleExact _) (wpAny_newObj_type (wpAny_pure ⟨_,rfl,wpAny_pure h⟩) htake)
  |exact wpAny_bind (m:=Builtin.Tuple.tupleExact _) (wpAny_newObj_type (wpAny_bind (wpAny_pure (wpAny_pure ⟨_,rfl,wpAny_pure h⟩))) htake)
  |exact wpAny_bind (wpAny_bind (m:=Builtin.Tuple.tupleExact _) (wpAny_newObj_type (wpAny_pure (wpAny_pure ⟨_,rfl,wpAny_pure h⟩)) htake))
  |exact wpAny_bind (wpAny_bind (m:=Builtin.Tuple.tupleExact _) (wpAny_newObj_type (wpAny_pure ⟨_,rfl,wpAny_pure h⟩) htake))
end
end HT
namespace L2
open PySem PySem.Spec PyProof.Rows
abbrev TO:=St→Hp→(Option Int→Hp→Prop)→Prop
def PO (X:Cx) (e:Option Expr) (t:TO):Prop:=
 ∀(pins:List (Addr × Obj)) (s:Shared) (σ:St) (H:Hp) (Q:Option Int→Hp→Prop),Inv X pins σ H s→t σ H Q →
  wpAny (model X.prog X.w) X.A (evalPart e X.env) (fun u s'=>∃o H',Inv X pins σ H' s'∧IsPart u o∧Q o H') X.xe s
def aNu:TO:=fun _ H Q=>Q none H
def aVn (t:TE):TO:=fun σ H Q=>t σ H fun x H1=>∃i,x=.int i∧Q (some i) H1
section
variable {X:Cx} {e:Expr} {te:TE} {lo hi:Option Expr} {tl th:TO} {pos p2:Pos}
theorem aUv:PO X none aNu:=by
 intro pins s σ H Q I h
 rw [evalPart_none]
 exact wpAny_pure ⟨none,H,I,.none,h⟩
theorem aU4 (h:PE X e te):PO X (some e) (aVn te):=by
 intro pins s σ H Q I hw
 rw [evalPart_some]
 refine thn (h pins s σ H _ I hw) fun u s1 ⟨x,H1,I1,r1,q1⟩=>?_
 obtain ⟨i,rfl,q⟩:=q1
 obtain ⟨t,rfl⟩:=r1
 exact ⟨some i,H1,I1,.int i t,q⟩
def SlR (X:Cx) (r:V→Option Int→Option Int→Hp→VK→Prop):Prop:=
 ∀(pins:List (Addr × Obj)) (s:Shared) (σ:St) (H:Hp) (x:V) (v vl vu:Value) (lo hi:Option Int) (sl:Addr) (Q:VK),Inv X pins σ H s→RelV x v→s.heap.IsSliceOf sl vl vu .none→IsPart vl lo→IsPart vu hi→r x lo hi H Q →
  ∃T id,typeLookup (.type T) "__getitem__"=pure (some (.builtin id))∧s.TypeIs v T∧wpAny (model X.prog X.w) X.A (getItem v (.ref sl)) (EP X pins σ Q) X.xe s
def tSl (r:V→Option Int→Option Int→Hp→VK→Prop) (te:TE) (tl th:TO):TE:=fun σ H Q=>te σ H fun x H1=>tl σ H1 fun l H2=>th σ H2 fun u H3=>r x l u H3 Q
theorem aSf {r:V→Option Int→Option Int→Hp→VK→Prop} (hr:SlR X r) (he:PE X e te) (hl:PO X lo tl) (hu:PO X hi th):PE X (.Subscript e (.Slice lo hi none p2) pos) (tSl r te tl th):=by
 intro pins s σ H Q I h
 refine Subscript_ (thn (he pins s σ H _ I h) fun v s1 ⟨x,H1,I1,r1,q1⟩=>?_)
 refine wpAny_Slice (thn (hl pins s1 σ H1 _ I1 q1) fun vl s2 ⟨l,H2,I2,pl,q2⟩=>thn (hu pins s2 σ H2 _ I2 q2) fun vu s3 ⟨u,H3,I3,pu,q3⟩=>?_)
 rw [evalPart_none]
 refine wpAny_pure ?_
 have I4:Inv X pins σ H3 { s3 with heap:=s3.heap.push { cls:=.type "slice",data:=.fields #[vl,vu,.none] } }:=I3.kept (t':=s3.toks) fun b ob q=>Heap.get?_push_of_some _ q
 obtain ⟨T,id,hT,ht,hg⟩:=hr pins { s3 with heap:=s3.heap.push { cls:=.type "slice",data:=.fields #[vl,vu,.none] } } σ H3 x v vl vu l u s3.heap.objs.size Q I4 r1 (Heap.IsSliceOf.new ..) pl pu q3
 show wpAny (model X.prog X.w) X.A (subscriptTail e (.Slice lo hi none p2) v (.ref s3.heap.objs.size)) (EP X pins σ Q) X.xe { s3 with heap:=s3.heap.push { cls:=.type "slice",data:=.fields #[vl,vu,.none] } }
 exact tail_any (ops:=[.ref s3.heap.objs.size,v]) ht hT hg (by with_unfolding_all rfl)
def qX (xs:List V) (lo hi:Option Int):List V:=(xs.drop (HT.sIx xs.length 0 lo)).take (HT.sIx xs.length xs.length hi - HT.sIx xs.length 0 lo)
theorem oX (xs:List V) (lo hi:Option Int):(qX xs lo hi).length≤xs.length:=by
 unfold qX
 rw [List.length_take,List.length_drop]
 lia
def aZ6 (K:PySem.W.Frag):V→Option Int→Option Int→Hp→VK→Prop:=fun x lo hi H Q=>∃a xs,x=.ref a∧SqT K H a xs ∧
 ¬ (HT.sIx xs.length 0 lo=0∧HT.sIx xs.length xs.length hi=xs.length)∧∀p,H p=none→Q (.ref p) (upd H p (.tup (qX xs lo hi)))
theorem aV3:SlR X (aZ6 X.K):=by
 intro pins s σ H x v vl vu lo hi sl Q I rx hs pl pu h
 obtain ⟨a,xs,rfl,hx,hw,q⟩:=h
 cases rx
 obtain ⟨its,r,ht,hz⟩:=I.tuple hx
 have hlen:its.toArray.size=xs.length:=by rw [List.size_toArray];exact r.length.symm
 refine ⟨"tuple",_,PyProof.Rows.slot_tuple_getitem.lookup,ht.typeIs,?_⟩
 refine HT.wO ht hs pl pu (by rw [hlen];exact hw) ?_ (by rw [hlen];exact hz)
 rw [hlen]
 refine ⟨.ref s.heap.objs.size,_,I.laid (t':=s.toks) (o:=.tup (qX xs lo hi)) (fun b ob q=>Heap.get?_push_of_some _ q) (Nat.le_refl _) ?_,rfl,q _ (I.hok.fresh (Nat.le_refl _))⟩
 exact ⟨Nat.le_trans (oX xs lo hi) hz,_,(r.drop (HT.sIx xs.length 0 lo)).take (HT.sIx xs.length xs.length hi - HT.sIx xs.length 0 lo),yQ.new _ _⟩
def aY5 (K:PySem.W.Frag):R2:=fun x y H Q=>∃a b xs ys,x=.ref a∧y=.ref b∧SqT K H a xs∧SqT K H b ys∧xs≠[]∧xs.length+ys.length≤sizeLine ∧
 (ys=[]→Q (.ref a) H)∧(ys≠[]→∀p,H p=none→Q (.ref p) (upd H p (.tup (xs++ys))))
theorem Vals.aHd {xs:List V} {us:List Value} (r:Vals xs us):us=[]↔xs=[]:=by
 cases r with
 |nil=>simp
 |cons _ _=>simp
theorem aUl:OpR X (binaryOp .Add) (aY5 X.K):=by
 intro pins s σ H x y v u Q I rx ry h
 obtain ⟨a,b,xs,ys,rfl,rfl,ha,hb,hx,hz,q1,q2⟩:=h
 cases rx
 cases ry
 obtain ⟨its,r1,p1,_⟩:=I.tuple ha
 obtain ⟨its2,r2,p2,_⟩:=I.tuple hb
 refine HT.aUf p1 p2 (fun z=>hx (r1.aHd.mp z)) (fun z=>⟨.ref a,H,I,rfl,q1 (r2.aHd.mp z)⟩) (fun z=>?_) (by rw [←r1.length,←r2.length];exact hz)
 refine ⟨.ref s.heap.objs.size,_,I.laid (t':=s.toks) (o:=.tup (xs++ys)) (fun b ob q=>Heap.get?_push_of_some _ q) (Nat.le_refl _) ?_,rfl,q2 (fun w=>z (r2.aHd.mpr w)) _ (I.hok.fresh (Nat.le_refl _))⟩
 exact ⟨by rw [List.length_append];exact hz,_,r1.append r2,yQ.new _ _⟩
end
def ixN (n:Nat) (i:Int):Option Nat:=if 0≤i then (if i<n then some i.toNat else none) else if -(n:Int)≤i then some (i+n).toNat else none
def atI {α:Type} (xs:List α) (i:Int):Option α:=(ixN xs.length i).bind fun j=>xs[j]?
theorem aN3 {n:Nat} {i:Int} {j:Nat} (h:ixN n i=some j):seqIndex? i n=some j∧j<n∧-(n:Int)≤i∧i<n:=by
 unfold ixN at h
 by_cases h0:0≤i
 ·rw [if_pos h0] at h
  by_cases h1:i<n
  ·rw [if_pos h1] at h
   have e:i.toNat=j:=Option.some.inj h
   exact ⟨by rw [seqIndex_of h0 h1,e],by lia,by lia,h1⟩
  ·rw [if_neg h1] at h;cases h
 ·rw [if_neg h0] at h
  by_cases h1:-(n:Int)≤i
  ·rw [if_pos h1] at h
   have e:(i+n).toNat=j:=Option.some.inj h
   exact ⟨by rw [seqIndex_neg (by lia) h1,e],by lia,h1,by lia⟩
  ·rw [if_neg h1] at h;cases h
theorem aM2 {α:Type} {xs:List α} {i:Int} {v:α} (h:atI xs i=some v):∃j,seqIndex? i xs.length=some j∧xs[j]?=some v∧j<xs.length∧-(xs.length:Int)≤i∧i<xs.length:=by
 unfold atI at h
 cases e:ixN xs.length i with
 |none=>rw [e] at h;cases h
 |some j=>
  rw [e] at h
  obtain ⟨h1,h2,h3,h4⟩:=aN3 e
  exact ⟨j,h1,h,h2,h3,h4⟩
theorem cD {α:Type} {xs:List α} {j:Nat} {v:α} (h:xs[j]?=some v):atI xs (j:Int)=some v:=by
 have hj:j<xs.length:=(List.getElem?_eq_some_iff.mp h).1
 have e:ixN xs.length (j:Int)=some j:=by
  unfold ixN
  rw [if_pos (by lia),if_pos (by lia)];simp
 unfold atI;rw [e];exact h
def aMq (b:Expr):Prop:=∀o i,subscripted b false o i=operate [o,i] (getItem o i)
def IxR (X:Cx) (r:R2):Prop:=
 ∀(value slice:Expr) (pins:List (Addr × Obj)) (s:Shared) (σ:St) (H:Hp) (x y:V) (v u:Value) (Q:VK),Inv X pins σ H s→RelV x v→RelV y u→r x y H Q →
  subscripted slice false v u=operate [v,u] (getItem v u)→wpAny (model X.prog X.w) X.A (subscriptTail value slice v u) (EP X pins σ Q) X.xe s
def MtR (X:Cx) (id:String) (r:V→List V→Hp→VK→Prop):Prop:=
 ∀(pins:List (Addr × Obj)) (s:Shared) (σ:St) (H:Hp) (x:V) (xs:List V) (v:Value) (us:List Value) (Q:VK),Inv X pins σ H s→RelV x v→Vals xs us→r x xs H Q →
  wpAny (model X.prog X.w) X.A (call (.builtin id) (v::us)) (EP X pins σ Q) X.xe s
section
variable {X:Cx} {a b:Expr} {ta tb:TE} {pos:Pos}
theorem aZe {r:R2} (hr:IxR X r) (ha:PE X a ta) (hb:PE X b tb) (hs:aMq b):PE X (.Subscript a b pos) (tOp r ta tb):=by
 intro pins s σ H Q I h
 exact Subscript_ (aUi ha hb I h fun v u s2 x y H2 I2 rx ry q=>hr a b pins s2 σ H2 x y v u Q I2 rx ry q (hs _ _))
def aY7 (K:PySem.W.Frag):R2:=fun x y H Q=>∃p xs i v,x=.ref p∧y=.int i∧SqL K H p xs∧atI xs i=some v∧Q v H
def aYc (K:PySem.W.Frag):R2:=fun x y H Q=>∃p xs i v,x=.ref p∧y=.int i∧SqT K H p xs∧atI xs i=some v∧Q v H
theorem cG:IxR X (aY7 X.K):=by
 intro value slice pins s σ H x y v u Q I rx ry h hs
 obtain ⟨p,xs,i,z,rfl,rfl,hq,he,q⟩:=h
 cases rx
 obtain ⟨t,rfl⟩:=ry
 obtain ⟨its,r,pl,hz⟩:=I.list hq
 obtain ⟨j,h1,h2,h3,h4,h5⟩:=aM2 he
 obtain ⟨w,ew,rw'⟩:=r.get h2
 have hl:=r.length
 have hn:=yM
 have fin:EP X pins σ Q w s:=⟨z,H,I,rw',q⟩
 by_cases h0:0≤i
 ·have hj:i.toNat=j:=by
   rw [seqIndex_of h0 h5] at h1
   exact Option.some.inj h1
  exact item_listR pl.isList h0 (by lia) (by rw [hj];simpa using ew) fin hs
 ·have hj:(i+(its.toArray.size:Int)).toNat=j:=by
   rw [seqIndex_neg (by lia) h4] at h1
   rw [List.size_toArray,←hl]
   exact Option.some.inj h1
  exact subscriptTail_builtinR (x:=w) pl.isList.typeIs slot_list_getitem.lookup
   (wpAny_getItem_list_neg (Q:=fun r s'=>r=w∧EP X pins σ Q r s') pl.isList (by lia) (by rw [List.size_toArray] <;> lia) (by lia) (by rw [hj];simpa using ew) ⟨rfl,fin⟩) hs
theorem aO:IxR X (aYc X.K):=by
 intro value slice pins s σ H x y v u Q I rx ry h hs
 obtain ⟨p,xs,i,z,rfl,rfl,hq,he,q⟩:=h
 cases rx
 obtain ⟨t,rfl⟩:=ry
 obtain ⟨its,r,pl,hz⟩:=I.tuple hq
 obtain ⟨j,h1,h2,h3,h4,h5⟩:=aM2 he
 obtain ⟨w,ew,rw'⟩:=r.get h2
 have hl:=r.length
 have hn:=yM
 have fin:EP X pins σ Q w s:=⟨z,H,I,rw',q⟩
 exact subscriptTail_builtinR (x:=w) pl.typeIs slot_tuple_getitem.lookup
  (getItem_tuple (j:=j) (Q:=fun r s'=>r=w∧EP X pins σ Q r s') pl (by lia) (by lia) (by rw [List.size_toArray,←hl];exact h1) (by simpa using ew) ⟨rfl,fin⟩) hs
theorem aMj (its:List Value) (n j:Nat) (u:Value):Obj.mapSeq (·.setIfInBounds j u) { cls:=.type "list",data:=.seq its.toArray n }={ cls:=.type "list",data:=.seq (its.set j u).toArray n }:=by
 simp [Obj.mapSeq]
theorem Inv.lst {pins:List (Addr × Obj)} {σ:St} {H:Hp} {s:Shared} {p:Addr} {xs:List V} (I:Inv X pins σ H s) (h:H p=some (.lst xs)) :
  ∃(its:List Value) (n:Nat),Vals xs its∧s.heap.get? p=some { cls:=.type "list",data:=.seq its.toArray n }∧xs.length≤sizeLine:=by
 obtain ⟨z,its,n,r,e⟩:=I.hok p _ h
 exact ⟨its,n,r,e,z⟩
theorem Inv.aW0 {pins:List (Addr × Obj)} {σ:St} {H:Hp} {s:Shared} {p:Addr} {xs ys:List V} {its its':List Value} {n n':Nat} {f:Obj→Obj} (I:Inv X pins σ H s) (h:H p=some (.lst xs))
  (ho:s.heap.get? p=some { cls:=.type "list",data:=.seq its.toArray n }) (hf:f { cls:=.type "list",data:=.seq its.toArray n }={ cls:=.type "list",data:=.seq its'.toArray n' }) (r:Vals ys its') (hz:ys.length≤sizeLine) (t:Nat) :
  Inv X pins σ (upd H p (.lst ys)) { s with heap:=s.heap.update p f,toks:=t }:=by
 have e:(s.heap.update p f).get? p=some { cls:=.type "list",data:=.seq its'.toArray n' }:=by
  rw [Heap.get?_update_self f ho (by rw [hf] <;> rfl),hf]
 refine I.write (x:=p) (e:=p) (by rw [h];trivial) (.inl rfl) (fun b u hb q=>(Heap.get?_update_other _ _ (Ne.symm hb)).trans q) ⟨_,e⟩ ?_
 exact ⟨hz,its',n',r,e⟩
def aYu:V→V→V→Hp→(Hp→Prop)→Prop:=fun o i v H Q=>∃p xs k j,o=.ref p∧i=.int k∧H p=some (.lst xs)∧ixN xs.length k=some j∧Q (upd H p (.lst (xs.set j v)))
theorem set_list:aWc X aYu:=by
 intro pins s σ H o i v ov iv u Q I ro ri rv h
 obtain ⟨p,xs,k,j,rfl,rfl,hp,hj,q⟩:=h
 cases ro
 obtain ⟨t,rfl⟩:=ri
 obtain ⟨its,n,r,ho,hz⟩:=I.lst hp
 obtain ⟨h1,h2,h3,h4⟩:=aN3 hj
 have hl:=r.length
 have hn:=yM
 have I':Inv X pins σ (upd H p (.lst (xs.set j v))) { s with heap:=s.heap.update p (Obj.mapSeq (·.setIfInBounds j u)) }:=
  I.aW0 hp ho (aMj its n j u) (r.set rv j) (by rw [List.length_set];exact hz) s.toks
 by_cases h0:0≤k
 ·have hk:k.toNat=j:=by
   rw [seqIndex_of h0 h4] at h1
   exact Option.some.inj h1
  exact PySem.W.ki_setAt ho h0 (by lia) (by rw [List.size_toArray,←hl];exact h4) (by rw [hk];exact ⟨_,I',q⟩)
 ·have hk:(k+(its.toArray.size:Int)).toNat=j:=by
   rw [seqIndex_neg (by lia) h3] at h1
   rw [List.size_toArray,←hl]
   exact Option.some.inj h1
  exact PySem.W.ki_setBack ho (by lia) (by rw [List.size_toArray,←hl];exact h3) (by lia) (by rw [hk];exact ⟨_,I',q⟩)
theorem aGe (lo hi:Option Int) (n:Nat):(sliceBounds lo hi none n).1=((HT.sIx n 0 lo:Nat):Int)∧(sliceBounds lo hi none n).2.1=((HT.sIx n n hi:Nat):Int)∧(sliceBounds lo hi none n).2.2=1:=by
 refine ⟨?_,?_,rfl⟩
 ·cases lo with
  |none=>simp [sliceBounds,HT.sIx]
  |some i=>
   simp only [sliceBounds,HT.sIx,Option.getD_none,show (1:Int) > 0 by decide,if_true]
   by_cases h:i<0
   ·simp only [h,if_true] <;> lia
   ·simp only [h,if_false] <;> lia
 ·cases hi with
  |none=>simp [sliceBounds,HT.sIx]
  |some i=>
   simp only [sliceBounds,HT.sIx,Option.getD_none,show (1:Int) > 0 by decide,if_true]
   by_cases h:i<0
   ·simp only [h,if_true] <;> lia
   ·simp only [h,if_false] <;> lia
theorem aDx (its:List Value) (lo hi:Option Int):slicePick its.toArray lo hi none=((its.drop (HT.sIx its.length 0 lo)).take (HT.sIx its.length its.length hi - HT.sIx its.length 0 lo)).toArray:=by
 obtain ⟨h1,h2,h3⟩:=aGe lo hi its.toArray.size
 unfold slicePick
 rw [h1,h2,h3]
 simp only [sliceRange_one,pick_run,List.size_toArray] <;> rfl
def bAb (K:PySem.W.Frag):V→Option Int→Option Int→Hp→VK→Prop:=fun x lo hi H Q=>∃a xs,x=.ref a∧SqL K H a xs∧∀p,H p=none→Q (.ref p) (upd H p (.lst (qX xs lo hi)))
theorem aUr:SlR X (bAb X.K):=by
 intro pins s σ H x v vl vu lo hi sl Q I rx hs pl pu h
 obtain ⟨a,xs,rfl,hx,q⟩:=h
 cases rx
 obtain ⟨its,r,ht,hz⟩:=I.list hx
 have hlen:=r.length
 refine ⟨"list",_,slot_list_getitem.lookup,ht.isList.typeIs,?_⟩
 refine wpAny_getItem_list_slice ht.isList hs pl pu .none (by simp) ?_ (by rw [List.size_toArray] <;> lia)
 rw [aDx,←hlen]
 refine ⟨.ref s.heap.objs.size,_,I.laid (t':=s.toks) (o:=.lst (qX xs lo hi)) (fun b ob q=>Heap.get?_push_of_some _ q) (Nat.le_refl _) ?_,rfl,q _ (I.hok.fresh (Nat.le_refl _))⟩
 exact ⟨Nat.le_trans (oX xs lo hi) hz,_,0,(r.drop (HT.sIx xs.length 0 lo)).take (HT.sIx xs.length xs.length hi - HT.sIx xs.length 0 lo),Heap.get?_push_size _ rfl⟩
def lC:V→Bool
 |.non=>true
 |.bl _=>true
 |.int _=>true
 |.str _=>true
 |_=>false
def eqV:V→V→Bool
 |.non,.non=>true
 |.bl a,.bl b=>a == b
 |.bl a,.int b=>(if a then 1 else 0) == b
 |.int a,.bl b=>a == (if b then 1 else 0)
 |.int a,.int b=>a == b
 |.str a,.str b=>a == b
 |_,_=>false
theorem aWf {A:Around} {s:Shared} {y x:V} {u v:Value} (ry:RelV y u) (rx:RelV x v) (fy:lC y=true) (fx:lC x=true):SeqAt.EqAt A s u v (eqV y x):=by
 cases y with
 |non=>
  cases ry
  cases x with
  |non=>cases rx;exact SeqAt.EqAt.same _
  |bl b=>cases rx;exact SeqAt.EqAt.none_bool b
  |int b=>obtain ⟨t,rfl⟩:=rx;exact SeqAt.EqAt.none_int b t
  |str b=>obtain ⟨t,rfl⟩:=rx;exact SeqAt.EqAt.none_str b t
  |_=>exact absurd (show false=true from fx) Bool.false_ne_true
 |bl a=>
  cases ry
  cases x with
  |non=>cases rx;exact SeqAt.EqAt.bool_none a
  |bl b=>cases rx;exact SeqAt.EqAt.bool_bool a b
  |int b=>obtain ⟨t,rfl⟩:=rx;exact SeqAt.EqAt.bool_int a b t
  |str b=>obtain ⟨t,rfl⟩:=rx;exact SeqAt.EqAt.bool_str a b t
  |_=>exact absurd (show false=true from fx) Bool.false_ne_true
 |int a=>
  obtain ⟨t',rfl⟩:=ry
  cases x with
  |non=>cases rx;exact SeqAt.EqAt.int_none a t'
  |bl b=>cases rx;exact SeqAt.EqAt.int_bool a t' b
  |int b=>obtain ⟨t,rfl⟩:=rx;exact SeqAt.EqAt.int_int a t' b t
  |str b=>obtain ⟨t,rfl⟩:=rx;exact SeqAt.EqAt.int_str a t' b t
  |_=>exact absurd (show false=true from fx) Bool.false_ne_true
 |str a=>
  obtain ⟨t',rfl⟩:=ry
  cases x with
  |non=>cases rx;exact SeqAt.EqAt.str_none a t'
  |bl b=>cases rx;exact SeqAt.EqAt.str_bool a t' b
  |int b=>obtain ⟨t,rfl⟩:=rx;exact SeqAt.EqAt.str_int a t' b t
  |str b=>obtain ⟨t,rfl⟩:=rx;exact SeqAt.EqAt.str_str a t' b t
  |_=>exact absurd (show false=true from fx) Bool.false_ne_true
 |_=>exact absurd (show false=true from fy) Bool.false_ne_true
def eqU (x:V) (u:Value):Bool:=match u with
 |.none=>eqV .non x
 |.bool b=>eqV (.bl b) x
 |.int i _=>eqV (.int i) x
 |.str z _=>eqV (.str z) x
 |_=>false
theorem aR4 {x y:V} {u:Value} (r:RelV y u) (f:lC y=true):eqU x u=eqV y x:=by
 cases y with
 |non=>cases r;rfl
 |bl b=>cases r;rfl
 |int i=>obtain ⟨t,rfl⟩:=r;rfl
 |str z=>obtain ⟨t,rfl⟩:=r;rfl
 |_=>exact absurd (show false=true from f) Bool.false_ne_true
theorem xN {x:V}:∀{xs:List V} {us:List Value},Vals xs us→xs.all lC=true→us.any (eqU x)=xs.any fun y=>eqV y x
 |_,_,.nil,_=>rfl
 |y::xs,u::us,.cons r t,f=>by
  rw [List.all_cons,Bool.and_eq_true] at f
  rw [List.any_cons,List.any_cons,aR4 r f.1,xN t f.2]
theorem sO {A:Around} {s:Shared} {x:V} {v:Value} (rx:RelV x v) (fx:lC x=true):∀{xs:List V} {us:List Value},Vals xs us→xs.all lC=true→∀u∈us,SeqAt.EqAt A s u v (eqU x u)
 |_,_,.nil,_=>fun u hu=>by cases hu
 |y::xs,u::us,.cons r t,f=>fun u' hu=>by
  rw [List.all_cons,Bool.and_eq_true] at f
  rcases List.mem_cons.mp hu with rfl|hu
  ·rw [aR4 r f.1];exact aWf r rx f.1 fx
  ·exact sO rx fx t f.2 u' hu
def inV (x:V) (xs:List V):Bool:=xs.any fun y=>eqV y x
def rIn (K:PySem.W.Frag) (neg:Bool):R2:=fun x y H Q=>∃p xs,y=.ref p∧(SqL K H p xs∨SqT K H p xs)∧lC x=true∧xs.all lC=true∧Q (.bl (if neg then !inV x xs else inV x xs)) H
theorem nP:OpR X (compareOp .In) (rIn X.K false):=by
 intro pins s σ H x y v u Q I rx ry h
 obtain ⟨p,xs,rfl,hq,fx,fs,q⟩:=h
 cases ry
 rcases hq with hq|hq
 ·obtain ⟨its,r,pl,hz⟩:=I.list hq
  refine SeqAt.in_listAt (eqU x) pl.isList (fun w hw=>sO rx fx r fs w (by simpa using hw)) ⟨.bl _,H,I,rfl,?_⟩
  rw [show its.toArray.any (eqU x)=its.any (eqU x) by simp,xN r fs]
  exact q
 ·obtain ⟨its,r,pl,hz⟩:=I.tuple hq
  refine SeqAt.in_tupleAt (eqU x) pl (fun w hw=>sO rx fx r fs w (by simpa using hw)) ⟨.bl _,H,I,rfl,?_⟩
  rw [show its.toArray.any (eqU x)=its.any (eqU x) by simp,xN r fs]
  exact q
theorem xO:OpR X (compareOp .NotIn) (rIn X.K true):=by
 intro pins s σ H x y v u Q I rx ry h
 obtain ⟨p,xs,rfl,hq,fx,fs,q⟩:=h
 cases ry
 rcases hq with hq|hq
 ·obtain ⟨its,r,pl,hz⟩:=I.list hq
  refine SeqAt.notIn_listAt (eqU x) pl.isList (fun w hw=>sO rx fx r fs w (by simpa using hw)) ⟨.bl _,H,I,rfl,?_⟩
  rw [show its.toArray.any (eqU x)=its.any (eqU x) by simp,xN r fs]
  exact q
 ·obtain ⟨its,r,pl,hz⟩:=I.tuple hq
  refine SeqAt.notIn_tupleAt (eqU x) pl (fun w hw=>sO rx fx r fs w (by simpa using hw)) ⟨.bl _,H,I,rfl,?_⟩
  rw [show its.toArray.any (eqU x)=its.any (eqU x) by simp,xN r fs]
  exact q
theorem bB:cW X (.builtin "len") (fun xs H Q=>∃p ys,xs=[.ref p]∧(SqL X.K H p ys∨SqT X.K H p ys)∧Q (.int ys.length) H):=by
 intro pins s σ H xs us Q I r h
 obtain ⟨p,ys,rfl,hq,q⟩:=h
 obtain ⟨u,rfl,rx⟩:=vals1 r
 cases rx
 have hn:=yM
 rcases hq with hq|hq
 ·obtain ⟨its,r',pl,hz⟩:=I.list hq
  have hlen:=r'.length
  exact Calls.call_len_list pl.isList (by simp only [List.size_toArray] <;> lia) ⟨.int ys.length,H,I.tok _,⟨s.toks+1,by rw [List.size_toArray,hlen]⟩,q⟩
 ·obtain ⟨its,r',pl,hz⟩:=I.tuple hq
  have hlen:=r'.length
  exact len_tuple pl (by simp only [List.size_toArray] <;> lia) ⟨.int ys.length,H,I.tok _,⟨s.toks+1,by rw [List.size_toArray,hlen]⟩,q⟩
theorem yK:cW X (.builtin "len") (fun xs H Q=>∃z,xs=[.str z]∧z.length≤sizeLine∧Q (.int z.length) H):=by
 intro pins s σ H xs us Q I r h
 obtain ⟨z,rfl,hz,q⟩:=h
 obtain ⟨u,rfl,t,rfl⟩:=vals1 r
 have hn:=yM
 exact len_str (by lia) ⟨.int z.length,H,I.tok _,⟨_,rfl⟩,q⟩
theorem cW.or {f:Value} {r r':List V→Hp→VK→Prop} (h:cW X f r) (h':cW X f r'):cW X f (fun xs H Q=>r xs H Q∨r' xs H Q):=by
 intro pins s σ H xs us Q I rs q
 rcases q with q|q
 ·exact h pins s σ H xs us Q I rs q
 ·exact h' pins s σ H xs us Q I rs q
theorem aE5:cW X (.type "list") (fun xs H Q=>∃p ys,xs=[.ref p]∧(SqL X.K H p ys∨SqT X.K H p ys)∧∀l,H l=none→Q (.ref l) (upd H l (.lst ys))):=by
 intro pins s σ H xs us Q I r h
 obtain ⟨p,ys,rfl,hq,q⟩:=h
 obtain ⟨u,rfl,rx⟩:=vals1 r
 cases rx
 have fin:∀(its:List Value),Vals ys its→ys.length≤sizeLine→∀(h':Heap) (c':Nat),(∀b o',s.heap.get? b=some o'→h'.get? b=some o') →
   h'.get? s.heap.objs.size=some { cls:=.type "list",dict:=none,data:=.seq its.toArray c',slots:=#[] }→EP X pins σ Q (.ref s.heap.objs.size) { s with heap:=h' }:=fun its r' hz h' c' kp e=>
  ⟨.ref s.heap.objs.size,_,I.laid (t':=s.toks) kp (Nat.le_refl _) (show iM X.prog X.w _ h' _ (.lst ys) from ⟨hz,its,c',r',e⟩),rfl,q _ (I.hok.fresh (Nat.le_refl _))⟩
 rcases hq with hq|hq
 ·obtain ⟨its,r',pl,hz⟩:=I.list hq
  have hlen:=r'.length
  obtain ⟨o,ho,hc,n,hd⟩:=pl.isList
  exact call_list_seq p (.inl rfl) ho hc hd (fun h' c' kp e=>fin its r' hz h' c' kp e) (by simp only [List.size_toArray] <;> lia)
 ·obtain ⟨its,r',pl,hz⟩:=I.tuple hq
  have hlen:=r'.length
  obtain ⟨o,ho,hc,n,hd⟩:=pl
  exact call_list_seq p (.inr rfl) ho hc hd (fun h' c' kp e=>fin its r' hz h' c' kp e) (by simp only [List.size_toArray] <;> lia)
theorem aDp:cW X (.type "tuple") (fun xs H Q=>∃p ys,xs=[.ref p]∧((SqL X.K H p ys∧∀l,H l=none→Q (.ref l) (upd H l (.tup ys)))∨(SqT X.K H p ys∧Q (.ref p) H))):=by
 intro pins s σ H xs us Q I r h
 obtain ⟨p,ys,rfl,h⟩:=h
 obtain ⟨u,rfl,rx⟩:=vals1 r
 cases rx
 rcases h with ⟨hq,q⟩|⟨hq,q⟩
 ·obtain ⟨its,r',pl,hz⟩:=I.list hq
  have hlen:=r'.length
  refine call_tuple_list pl.isList (fun h' kp=>?_) (by simp only [List.size_toArray] <;> lia)
  have I1:Inv X pins σ H { s with heap:=h' }:=I.kept (t':=s.toks) kp
  have I2:Inv X pins σ (upd H h'.objs.size (.tup ys)) { s with heap:=h'.push { cls:=.type "tuple",data:=.seq its.toArray } }:=
   I1.laid (t':=s.toks) (fun b o e=>Heap.get?_push_of_some _ e) (Nat.le_refl _) (show iM X.prog X.w _ _ _ (.tup ys) from ⟨hz,its,r',yQ.new _ _⟩)
  exact ⟨.ref h'.objs.size,_,I2,rfl,q _ (I1.hok.fresh (Nat.le_refl _))⟩
 ·obtain ⟨its,r',pl,hz⟩:=I.tuple hq
  exact call_tuple_same pl ⟨.ref p,H,I,rfl,q⟩
def tyV (K:PySem.W.Frag) (T:String) (x:V) (H:Hp):Prop:=match x with
 |.str _=>T = "str"
 |.int _=>T = "int"
 |.ref p=>(T = "list"∧∃xs,SqL K H p xs)∨(T = "tuple"∧∃o,K.lookup p=some o∧o.cls=.type "tuple"∧o.dict=none) ∨
   (T = "dict"∧((∃kvs,H p=some (.dK kvs))∨∃kvs,H p=some (.dT kvs)))∨(T = "set"∧∃S n,H p=some (.set S n))
 |_=>False
theorem aSc {pins:List (Addr × Obj)} {σ:St} {H:Hp} {s:Shared} {T:String} {x:V} {v:Value} (I:Inv X pins σ H s) (r:RelV x v) (ty:tyV X.K T x H) :
  s.TypeIs v T∧∀a,v=.ref a→∃ob,s.heap.get? a=some ob∧ob.dict=none:=by
 cases x with
 |str z=>
  obtain ⟨t,rfl⟩:=r
  cases (show T = "str" from ty)
  exact ⟨typeIs_str s z t,fun _ e=>nomatch e⟩
 |int i=>
  obtain ⟨t,rfl⟩:=r
  cases (show T = "int" from ty)
  exact ⟨typeIs_int s i t,fun _ e=>nomatch e⟩
 |ref p=>
  cases r
  rcases ty with ⟨rfl,xs,hq⟩|⟨rfl,o,hk,hc,hd⟩|⟨rfl,hk⟩|⟨rfl,S,n,hk⟩
  ·obtain ⟨its,_,pl,_⟩:=I.list hq
   refine ⟨pl.isList.typeIs,fun a e=>?_⟩
   cases e
   obtain ⟨o,n,e,c,hd,_⟩:=pl
   exact ⟨o,e,hd⟩
  ·refine ⟨⟨o,I.kIn p o hk,hc⟩,fun a e=>?_⟩
   cases e
   exact ⟨o,I.kIn _ o hk,hd⟩
  ·have z:∃o,s.heap.get? p=some o∧o.ExactDict:=by
    rcases hk with ⟨kvs,hk⟩|⟨kvs,hk⟩
    ·obtain ⟨_,_,_,_,o,_,_,e,ex,_⟩:=I.hok p _ hk
     exact ⟨o,e,ex⟩
    ·obtain ⟨_,_,_,_,o,_,_,e,ex,_⟩:=I.hok p _ hk
     exact ⟨o,e,ex⟩
   obtain ⟨o,e,ex⟩:=z
   refine ⟨⟨o,e,ex.1⟩,fun a e2=>?_⟩
   cases e2
   exact ⟨o,e,ex.2.1⟩
  ·obtain ⟨o,_,_,_,e,ex,_⟩:=I.hok p _ hk
   refine ⟨⟨o,e,ex.1⟩,fun a e2=>?_⟩
   cases e2
   exact ⟨o,e,ex.2.1⟩
 |_=>exact False.elim ty
def aY8 (K:PySem.W.Frag) (T:String) (r:V→List V→Hp→VK→Prop) (to:TE):TE:=fun σ H Q=>to σ H fun x H1=>tyV K T x H1∧r x [] H1 Q
def tBM (K:PySem.W.Frag) (T:String) (r:V→List V→Hp→VK→Prop) (to:TE) (t:TA):TE:=fun σ H Q=>to σ H fun x H1=>tyV K T x H1∧t σ H1 fun xs H2=>r x xs H2 Q
variable {o e:Expr} {es:List Expr} {to:TE} {t:TA} {name:Str} {apos cpos:Pos} {T id:String} {r:V→List V→Hp→VK→Prop}
theorem aYd (pa:PlainAttrs T) (slot:Slot T name id) (hty:typeOf (.builtin id)=pure (.type "method_descriptor")) (hm:MtR X id r) (ho:PE X o to)
  (hbase:attributeBase o name X.env (eval o X.env)=eval o X.env:=by rfl) (hline:(apos.endLine == cpos.line)=true:=by rfl):PE X (.Call (.Attribute o name apos) [] [] cpos) (aY8 X.K T r to):=by
 intro pins s σ H Q I h
 refine wpAny_Call_method0_late hbase hline (thn (ho pins s σ H _ I h) fun v s1 ⟨x,H1,I1,r1,ty,q1⟩=>?_)
 obtain ⟨h1,h2⟩:=aSc I1 r1 ty
 exact ⟨T,id,pa,slot,hty,h1,h2,Calls.callWith_builtin rfl (PySem.evalArgs_none (hm pins s1 σ H1 x [] v [] Q I1 r1 .nil q1))⟩
theorem aYy (pa:PlainAttrs T) (slot:Slot T name id) (hty:typeOf (.builtin id)=pure (.type "method_descriptor")) (hm:MtR X id r) (ho:PE X o to) (ha:PA X (e::es) t)
  (hbase:attributeBase o name X.env (eval o X.env)=eval o X.env:=by rfl)
  (hfew:((backTo cpos (starEach (e::es) X.env)).all (fun x=>!x.1) && (backToKw cpos (keywordEach [] X.env)).all (fun x=>x.1.isSome)
   && decide ((e::es).length+([]:List Keyword).length+(if ([]:List Keyword).isEmpty then 0 else 1)<30))=true:=by rfl)
  (hline:(apos.endLine == cpos.line)=true:=by rfl) (hs:starEach (e::es) X.env=(false,eval e X.env)::starEach es X.env:=by rfl) (hplain:(backTo cpos (starEach es X.env)).any (·.1)=false:=by rfl) :
  PE X (.Call (.Attribute o name apos) (e::es) [] cpos) (tBM X.K T r to t):=by
 intro pins s σ H Q I h
 refine wpAny_Call_method_late hbase hfew hline rfl (thn (ho pins s σ H _ I h) fun v s1 ⟨x,H1,I1,r1,ty,q1⟩=>?_)
 obtain ⟨h1,h2⟩:=aSc I1 r1 ty
 refine ⟨T,id,pa,slot,hty,h1,h2,?_⟩
 have hA:=ha cpos pins s1 σ H1 _ I1 q1
 rw [hs] at hA ⊢
 refine Calls.callWith_builtin (by show (false || (backTo cpos (starEach es X.env)).any (·.1))=false;rw [hplain] <;> rfl) (Calls.evalArgs_plain ?_)
 exact thn hA fun us s2 ⟨vs,H2,I2,r2,q2⟩=>hm pins s2 σ H2 x vs v us Q I2 r1 r2 q2
end
def MtM (X:Cx) (id:String) (r:V→List V→Hp→VK→Prop):Prop:=
 ∀(pins:List (Addr × Obj)) (s:Shared) (σ:St) (H:Hp) (x:V) (xs:List V) (v:Value) (us:List Value) (Q:VK),Inv X pins σ H s→RelV x v→Vals xs us→r x xs H Q →
  wpAny (model X.prog X.w) X.A (call (.builtin id) (v::us)) (EP X pins σ Q) X.xe s
theorem Vals.one:∀{x:V} {us:List Value},Vals [x] us→∃u,us=[u]∧RelV x u
 |_,_,.cons r .nil=>⟨_,rfl,r⟩
theorem Vals.two:∀{x y:V} {us:List Value},Vals [x,y] us→∃u v,us=[u,v]∧RelV x u∧RelV y v
 |_,_,_,.cons r (.cons q .nil)=>⟨_,_,rfl,r,q⟩
theorem Vals.zero:∀{us:List Value},Vals [] us→us=[]
 |_,.nil=>rfl
theorem Vals.dropLast {xs:List V} {us:List Value} (h:Vals xs us):Vals xs.dropLast us.dropLast:=by
 induction h with
 |nil=>exact .nil
 |cons r t ih=>
  cases t with
  |nil=>exact .nil
  |cons q t'=>exact .cons r ih
theorem Vals.reverse {xs:List V} {us:List Value} (h:Vals xs us):Vals xs.reverse us.reverse:=by
 induction h with
 |nil=>exact .nil
 |cons r t ih=>rw [List.reverse_cons,List.reverse_cons];exact Vals.append ih (.cons r .nil)
theorem aLy {α:Type} (l:List α):l.eraseIdx (l.length - 1)=l.dropLast:=by
 induction l with
 |nil=>rfl
 |cons a r ih=>
  cases r with
  |nil=>rfl
  |cons b r=>
   have e:(a::b::r).length - 1=((b::r).length - 1)+1:=by
    have h1:(a::b::r).length=r.length+2:=rfl
    have h2:(b::r).length=r.length+1:=rfl
    lia
   rw [e,List.eraseIdx_cons_succ,ih]
   all_goals rfl
section
variable {X:Cx} {pins:List (Addr × Obj)} {σ:St} {H:Hp} {s:Shared} {l b:Addr} {xs ys zs:List V}
theorem Inv.lset {its its':List Value} {n:Nat} {f:Array Value→Array Value} {t':Nat} (I:Inv X pins σ H s) (hH:H l=some (.lst xs))
  (e:s.heap.get? l=some { cls:=.type "list",data:=.seq its.toArray n }) (hf:f its.toArray=its'.toArray) (hv:Vals ys its') (hz:ys.length≤sizeLine) :
  Inv X pins σ (upd H l (.lst ys)) { s with heap:=s.heap.update l (Obj.mapSeq f),toks:=t' }:=by
 have q:=PySem.IsL.update e f
 rw [hf] at q
 refine I.write (x:=l) (e:=l) (by rw [hH];exact trivial) (.inl rfl) (fun b' u hb hu=>(Heap.get?_update_other s.heap (Obj.mapSeq f) (Ne.symm hb)).trans hu) ⟨_,q⟩ ?_
 exact ⟨hz,its',_,hv,q⟩
theorem Inv.lnew {its:List Value} {t':Nat} (I:Inv X pins σ H s) (hv:Vals ys its) (hz:ys.length≤sizeLine) :
  Inv X pins σ (upd H s.heap.objs.size (.lst ys)) { s with heap:=s.heap.push { cls:=.type "list",data:=.seq its.toArray },toks:=t' }:=
 I.laid (fun _ _ q=>Heap.get?_push_of_some _ q) (Nat.le_refl _) ⟨hz,its,0,hv,Heap.get?_push_size _ rfl⟩
theorem Inv.fresh (I:Inv X pins σ H s):H s.heap.objs.size=none:=I.hok.fresh (Nat.le_refl _)
theorem Inv.aHw (I:Inv X pins σ H s) (hH:H l=some (.lst xs)):xs.length≤sizeLine∧∃(its:List Value) (n:Nat),Vals xs its∧xs.length=its.length∧s.heap.get? l=some { cls:=.type "list",data:=.seq its.toArray n }:=by
 obtain ⟨z,its,n,r,e⟩:=I.hok l _ hH
 exact ⟨z,its,n,r,r.length,e⟩
theorem aR1 {n:Nat} (h:n≤sizeLine):Builtin.List.listTooLong n=false:=by
 unfold Builtin.List.listTooLong
 exact decide_eq_false (by lia)
end
section
variable {X:Cx}
def aNi:V→List V→Hp→VK→Prop:=fun x vs H Q=>∃l xs y,x=.ref l∧vs=[y]∧H l=some (.lst xs)∧xs.length<sizeLine∧Q .non (upd H l (.lst (xs++[y])))
theorem yN:MtM X "list.append" aNi:=by
 intro pins s σ H x vs v us Q I rx rv h
 obtain ⟨l,xs,y,rfl,rfl,hH,hz,q⟩:=h
 cases rx
 obtain ⟨u,rfl,ru⟩:=rv.one
 obtain ⟨z,its,n,r,hl,e⟩:=I.aHw hH
 refine call_meets F.slot_list_append ⟨_,e,rfl⟩ F.entry_list_append (F.args_list_append_2 _ _) (PySem.list_append l its.toArray n u (by rw [List.size_toArray];lia)) ⟨e,?_⟩
 refine ⟨.non,_,I.lset (its':=its++[u]) hH e (by simp) (r.append (.cons ru .nil)) ?_,rfl,q⟩
 rw [List.length_append,List.length_singleton]
 lia
def aM7:V→List V→Hp→VK→Prop:=fun x vs H Q=>∃l b xs zs,x=.ref l∧vs=[.ref b]∧H l=some (.lst xs)∧H b=some (.lst zs)∧xs.length+zs.length≤sizeLine∧Q .non (upd H l (.lst (xs++zs)))
theorem aOt:MtM X "list.extend" aM7:=by
 intro pins s σ H x vs v us Q I rx rv h
 obtain ⟨l,b,xs,zs,rfl,rfl,hH,hB,hz,q⟩:=h
 cases rx
 obtain ⟨u,rfl,ru⟩:=rv.one
 cases ru
 obtain ⟨z,its,n,r,hl,e⟩:=I.aHw hH
 obtain ⟨z2,its2,n2,r2,hl2,e2⟩:=I.aHw hB
 have hsz:its.toArray.size+its2.toArray.size≤sizeLine:=by rw [List.size_toArray,List.size_toArray];lia
 have hlong:¬ (!its.toArray.isEmpty && Builtin.List.listTooLong (its.toArray.size+its2.toArray.size))=true:=by
  rw [aR1 hsz,Bool.and_false]
  exact Bool.false_ne_true
 refine call_meets F.slot_list_extend ⟨_,e,rfl⟩ F.entry_list_extend (F.args_list_extend_2 _ _)
  (AutoSeq1.list_extend_list_list_0 l its.toArray n b its2.toArray n2 hlong (by rw [List.size_toArray];lia) (by lia)) ⟨e,e2,?_⟩
 refine ⟨.non,_,I.lset (its':=its++its2) hH e (by simp) (r.append r2) ?_,rfl,q⟩
 rw [List.length_append]
 lia
def aYi:V→List V→Hp→VK→Prop:=fun x vs H Q=>∃l xs y,x=.ref l∧vs=[]∧H l=some (.lst xs)∧xs[xs.length - 1]?=some y∧Q y (upd H l (.lst xs.dropLast))
theorem aV6:MtM X "list.pop" aYi:=by
 intro pins s σ H x vs v us Q I rx rv h
 obtain ⟨l,xs,y,rfl,rfl,hH,hy,q⟩:=h
 cases rx
 have hus:=rv.zero
 subst hus
 obtain ⟨z,its,n,r,hl,e⟩:=I.aHw hH
 obtain ⟨u,hu,ru⟩:=r.get hy
 have hy':its.toArray[its.toArray.size - 1]?=some u:=by
  show its.toArray[its.length - 1]?=some u
  rw [←Array.getElem?_toList,←hl]
  exact hu
 refine call_meets F.slot_list_pop ⟨_,e,rfl⟩ F.entry_list_pop (F.args_list_pop_1 _) (MeetsSeq.list_pop_last l its.toArray n u hy' (by rw [List.size_toArray];lia)) ⟨e,?_⟩
 refine ⟨y,_,I.lset (its':=its.dropLast) hH e ?_ r.dropLast ?_,ru,q⟩
 ·show its.toArray.eraseIdxIfInBounds (its.toArray.size - 1)=its.dropLast.toArray
  rw [List.size_toArray,List.eraseIdxIfInBounds_toArray,aLy]
 ·rw [List.length_dropLast]
  lia
def aJd:V→List V→Hp→VK→Prop:=fun x vs H Q=>∃l xs,x=.ref l∧vs=[]∧H l=some (.lst xs)∧Q .non (upd H l (.lst xs.reverse))
theorem aLp:MtM X "list.reverse" aJd:=by
 intro pins s σ H x vs v us Q I rx rv h
 obtain ⟨l,xs,rfl,rfl,hH,q⟩:=h
 cases rx
 have hus:=rv.zero
 subst hus
 obtain ⟨z,its,n,r,hl,e⟩:=I.aHw hH
 refine call_meets F.slot_list_reverse ⟨_,e,rfl⟩ F.entry_list_reverse (F.args_list_reverse_1 _) (AutoSeq1.list_reverse_list_0 l its.toArray n (by rw [List.size_toArray];lia)) ⟨e,?_⟩
 refine ⟨.non,_,I.lset (its':=its.reverse) hH e (by simp) r.reverse ?_,rfl,q⟩
 rw [List.length_reverse]
 lia
def aZ0:R2:=fun x y H Q=>∃l b xs zs,x=.ref l∧y=.ref b∧H l=some (.lst xs)∧H b=some (.lst zs)∧xs.length+zs.length≤sizeLine∧∀p,H p=none→Q (.ref p) (upd H p (.lst (xs++zs)))
theorem aYf:OpR X (binaryOp .Add) aZ0:=by
 intro pins s σ H x y v u Q I rx ry h
 obtain ⟨l,b,xs,zs,rfl,rfl,hH,hB,hz,q⟩:=h
 cases rx
 cases ry
 obtain ⟨z,its,n,r,hl,e⟩:=I.aHw hH
 obtain ⟨z2,its2,n2,r2,hl2,e2⟩:=I.aHw hB
 refine PySem.P.add_list e e2 ?_ (by rw [List.size_toArray,List.size_toArray];lia)
 have ea:its.toArray++its2.toArray=(its++its2).toArray:=by simp
 rw [ea]
 exact ⟨.ref _,_,I.lnew (t':=s.toks) (r.append r2) (by rw [List.length_append];lia),rfl,q _ I.fresh⟩
end
section
variable {prog:Program} {w:World} {A:Around} {E:Value→Shared→Prop} {s:Shared}
end
section
variable {X:Cx}
end
end L2
namespace Att
open PySem PySem.W PySem.Calls PyProof.Rows
theorem aAk {P:Params} {h:Heap}:∀(ns:List Int) (vs:List Value),WellAll P h vs (ns.map WData.int)→IntsAre vs ns:=by
 intro ns
 induction ns with
 |nil=>
  intro vs w
  rw [List.map_nil] at w
  cases w
  exact .nil
 |cons n ns ih=>
  intro vs w
  rw [List.map_cons] at w
  cases w with
  |cons a b=>
   cases a
   exact .cons _ _ (ih _ b)
theorem aPe {l:OpenLaw} {n:Nat} (hn:l.most=some n) {P:Params} {h:Heap} {args:List WData} {vals:List Value}
  (hpre:l.row.toRowW.claim.pre args=true) (hwl:WellAll P h vals args) :
  ∃a vs ns,vals=[Value.ref a]∧args=[WData.list (ns.map WData.int)]∧h.get? a=some { cls:=.type "list",data:=.seq vs.toArray }∧IntsAre vs ns∧ns.length≤n:=by
 have hsh:WShape.hasAll [] args [.list .int]=true:=(pre_splitW hpre).1
 have hc:l.pre.holds [] { args:=args }=true:=(pre_splitW hpre).2
 obtain ⟨d,r,rfl,h1,h2⟩:=hasAllW_cons hsh
 obtain rfl:=hasAllW_nil h2
 obtain ⟨xs,rfl,h3⟩:=hasW_list h1
 obtain ⟨ns,rfl⟩:=items_int h3
 have hlen:ns.length≤n:=by
  unfold OpenLaw.pre at hc
  have h4:(WTm.not (.lt (.lit (.int (n:Int))) (.len (.arg 0)))).holds [] { args:=[.list (ns.map .int)] }=true:=by
   have h4:=(holds_andW hc).1
   rw [hn] at h4
   exact h4
  have h5:=condW_of h4 (w_not (w_lt w_lit (w_len_list (w_arg rfl))))
  rw [List.length_map] at h5
  refine Nat.le_of_not_lt fun q=>?_
  have q':(n:Int)<((ns.length:Nat):Int):=by lia
  first
   |(rw [decide_eq_true q'] at h5;exact absurd h5 (by decide))
   |(simp at h5;lia)
 cases hwl with
 |cons w1 w2=>
  cases w2
  cases w1 with
  |list ho hall=>exact ⟨_,_,ns,rfl,rfl,ho,aAk ns _ hall,hlen⟩
theorem aPq (l:OpenLaw) (args:List WData):l.row.toRowW.claim.post args (.bool true) args=true:=
 postW_of (r:=l.row.toRowW) (X:=(true == true))
  (show WShape.has [] (.bool true) .bool=true by first|rfl|decide|simp [WShape.has,WShape.arms,WShape.armsAll])
  (show (WTm.eq .res (.lit (.bool true))).value [] { args:=args,res:=some (.bool true),after:=args }=some (.bool (true == true)) from w_eq_bool (w_res rfl) w_lit) rfl
theorem aJp {l:OpenLaw} {n:Nat} {q:Program} {loose:List Str} {XP:(Str→Option Value)→Heap→Prop} {YP:World→Heap→Prop} {d:DefRec}
  (hn:l.most=some n) (hdf:d.params.defaults=[])
  (call:∀(w:World) (s₀ s₁:Shared) (mg mb:Str→Option Value) (fa:Addr) (o:Obj) (pm cd doc:Value) (a:Addr) (vs:List Value) (ns:List Int),
   Ground q loose [] XP w s₀ mg mb s₁.heap→YP w s₁.heap →
   s₁.heap.get? fa=some o→o.data=.func (docDef d.name d.params d.body d.scope pm cd doc)→s₁.heap.CodeRec cd d.name→mg d.name=some (.ref fa) →
   s₁.heap.get? a=some { cls:=.type "list",data:=.seq vs.toArray }→IntsAre vs ns→ns.length≤n→s₁.gens=#[] →
   codeAny (model l.prog w) callerA (.call (.ref fa) ⟨[.ref a],[]⟩) (fun r s'=>r=.ok (.ret (.bool true))∧OldK s₁.heap s'.heap∧s'.os=s₁.os∧AllBare s'.gens) s₁) :
  WalkO q loose XP YP l.row.toRowW d [] (fun f vs=>PySem.call f vs):=by
 intro w s₀ s₁ mg mb G Y fa o pm cd doc dV kV ho hd hcd hD hmg hg args vals as hpre hlay hrd hwl hlo
 obtain rfl:dV=.none:=Dflts.none hD hdf
 obtain rfl:kV=.none:=Dflts.noKw hD
 obtain ⟨a,vs,ns,rfl,rfl,hobj,hints,hlen⟩:=aPe hn hpre hwl
 refine enter_call (codeAny_mono (call w s₀ s₁ mg mb fa o pm cd doc a vs ns G Y ho (fd_plain hd) hcd hmg hobj hints hlen hg) fun r s' hq=>?_)
 obtain ⟨rfl,h2,h3,h4⟩:=hq
 exact ⟨.inl ⟨.bool true,.bool true,[],rfl,fun _=>rfl,.bool true,aPq l _,fun _=>⟨List.Pairwise.nil,fun _ hm=>(nomatch hm)⟩⟩,h2,h3,h4⟩
section
variable {prog:Program} {w:World} {A:Around} {E:Value→Shared→Prop} {s:Shared} {K:Frag}
end
end Att
namespace L2
open PySem PySem.Spec PyProof.Rows
theorem aD6:∀{vs:List Value} {ns:List Int},IntsAre vs ns→Vals (ns.map V.int) vs
 |_,_,.nil=>.nil
 |_,_,.cons n t h=>.cons ⟨t,rfl⟩ (aD6 h)
def Only (H:Hp):Prop:=∀b,H b=none∨∃o xs,H b=some (.frz o (.lst xs))
theorem aSm {P:Program} {w:World} {K:PySem.W.Frag} {mg mb:Str→Option Value} {CX:CXT} {k:Nat} {fa a:Addr} {fd:FuncData} {x:Str} {sp:Sp} {s₁:Shared} {vs:List Value} {ns:List Int}
  (KX:K.In s₁.heap) (hns:s₁.heap.Ns mainGlobals mg) (hb:s₁.heap.Ns builtinsNs mb) (hbb:∀x:Str,x≠"__name__"→mb x=bootBuiltins x) (hlim:s₁.heap.NoLimit) (hg:s₁.gens=#[])
  (ha:s₁.heap.get? a=some { cls:=.type "list",data:=.seq vs.toArray }) (hi:IntsAre vs ns) (hl:ns.length≤sizeLine) (hr:Room k callerA)
  (F:∀base:Heap,K.In base→base.Ns mainGlobals mg→rJ P w K mg base CX k fa fd [x] sp) (hbind:∀(s:Shared) (u:Value),BindsTo s fd ⟨[u],[]⟩ [(x,u)])
  (hsp:∀H:Hp,Only H→SqL K H a (ns.map V.int)→sp [.ref a] H (fun v _=>v=.bl true) fun _ _ _=>False)
  (hCX:∀H e s',CX [] H s₁ (fun _ _ _=>False) e s'→False) :
  codeAny (model P w) callerA (.call (.ref fa) ⟨[.ref a],[]⟩) (fun r s'=>r=.ok (.ret (.bool true))∧OldK s₁.heap s'.heap∧s'.os=s₁.os∧AllBare s'.gens) s₁:=by
 have rv:=aD6 hi
 have lenV:=hi.length
 have core:∀H:Hp,Only H→SqL K H a (ns.map V.int)→HOk P w H s₁.heap→(∀b,H b≠none→b=a)→(H a≠none→K.lookup a=none) →
   codeAny (model P w) callerA (.call (.ref fa) ⟨[.ref a],[]⟩) (fun r s'=>r=.ok (.ret (.bool true))∧OldK s₁.heap s'.heap∧s'.os=s₁.os∧AllBare s'.gens) s₁:=by
  intro H hO hS hok hA hK
  have base_of:∀{b:Addr} {o:Obj},s₁.heap.get? b=some o→H b=none→(aG8 s₁.heap H).get? b=some o:=fun e n=>aQ6 e n
  have noA:∀{b:Addr} {o:Obj} {es:Array DictEntry} {ep:Nat},s₁.heap.get? b=some o→o.data=.dict es ep→H b=none:=fun {b o es ep} e d=>by
   cases q:H b with
   |none=>rfl
   |some u=>
    have e':b=a:=hA b (by rw [q];simp)
    subst e'
    rw [ha] at e;cases e
    have d':Data.seq vs.toArray _=Data.dict es ep:=d
    cases d'
  have nsK:∀{b:Addr} {m:Str→Option Value},s₁.heap.Ns b m→(aG8 s₁.heap H).Ns b m:=fun {b m} ⟨o,es,ep,e,d,r⟩=>⟨o,es,ep,base_of e (noA e d),d,r⟩
  have hKb:K.In (aG8 s₁.heap H):=fun b o e=>base_of (KX b o e) (by
   cases q:H b with
   |none=>rfl
   |some u=>
    have e':b=a:=hA b (by rw [q];simp)
    subst e'
    rw [hK (by rw [q];simp)] at e;cases e)
  have hM:Mod K mg (aG8 s₁.heap H):=⟨hKb,nsK hns,⟨mb,nsK hb,hbb⟩,let ⟨mc,h1,h2⟩:=hlim;⟨mc,nsK h1,h2⟩⟩
  have e0:aU6 P w K mg (aG8 s₁.heap H) callerA [] s₁ H:=⟨rfl,hM,fun b o e=>aTh e,Nat.le_of_eq (aPd _ _),trivial,fun b hb=>absurd (show b∈([]:List Addr) from hb) (by simp),hok,.of_eq hg⟩
  refine codeAny_mono ((F _ hKb (nsK hns)).run callerA [] s₁ H ⟨[.ref a],[]⟩ [.ref a] [.ref a] _ _ hr e0 (hbind s₁ (.ref a)) (.cons rfl .nil) (hsp H hO hS)) fun r s' h=>?_
  cases r with
  |error e=>exact (hCX H e s' h).elim
  |ok fl=>
   cases fl with
   |next=>exact False.elim h
   |brk=>exact False.elim h
   |cont=>exact False.elim h
   |ret u=>
    obtain ⟨v,H',os,bare,un,hok',r',q⟩:=h
    have q':v=.bl true:=q
    subst q'
    obtain rfl:u=Value.bool true:=r'
    refine ⟨rfl,OldK.of_keep fun b o e=>?_,os,bare⟩
    cases q:H b with
    |none=>exact un.keep b o e q (by intro z;exact absurd (show b∈([]:List Addr) from z) (by simp)) (by simp)
    |some u=>
     rcases hO b with z|⟨ob,xs,z⟩
     ·rw [q] at z;cases z
     ·have z2:=un.frzs b ob _ z
      obtain ⟨e1,_⟩:=hok b _ z
      obtain ⟨e2,_⟩:=hok' b _ z2
      rw [e] at e1;cases e1
      exact e2
 cases hk:K.lookup a with
 |some o=>
  have e:=KX a o hk
  rw [ha] at e
  cases e
  refine core (fun _=>none) (fun _=>.inl rfl) (.inr ⟨_,vs.toArray,_,hk,rfl,rfl,rfl,by rw [List.size_toArray,lenV];exact hl,by simpa using rv⟩) (fun b u z=>by have z':(none:Option HO)=some u:=z;cases z') (fun b z=>absurd rfl z) fun z=>absurd rfl z
 |none=>
  refine core (fun b=>if b=a then some (.frz { cls:=.type "list",data:=.seq vs.toArray } (.lst (ns.map V.int))) else none) (fun b=>?_) (.inl (.inr ⟨{ cls:=.type "list",data:=.seq vs.toArray },if_pos rfl⟩)) (fun b u z=>?_) (fun b z=>?_) fun _=>hk
  ·by_cases hb:b=a
   ·exact .inr ⟨_,_,if_pos hb⟩
   ·exact .inl (if_neg hb)
  ·by_cases hb:b=a
   ·have z':=(if_pos hb).symm.trans z
    cases z'
    subst hb
    exact ⟨ha,by rw [List.length_map];exact hl,vs,_,rv,ha⟩
   ·have z':=(if_neg hb).symm.trans z
    cases z'
  ·by_cases hb:b=a
   ·exact hb
   ·exact absurd (if_neg hb) z
abbrev KOf {K:PySem.W.Frag} {h:Heap} (_:K.In h):PySem.W.Frag:=K
theorem aUm {l:PySem.W.OpenLaw} {n k:Nat} {q:Program} {loose:List Str} {XP:(Str→Option Value)→Heap→Prop} {YP:World→Heap→Prop} {d:DefRec} {K:Params→PySem.W.Frag} {CX:World→CXT} {sp:World→Sp} {x:Str}
  (hn:l.most=some n) (hn2:n≤sizeLine) (hdf:d.params.defaults=[]) (hr:Room k callerA)
  (hY:∀(w:World) (h:Heap),YP w h→(K w.params).In h)
  (F:∀(w:World) (mg:Str→Option Value) (fa:Addr) (h:Heap),(K w.params).In h→h.Ns mainGlobals mg→mg d.name=some (.ref fa) →
   ∃fd:FuncData,(∀(s:Shared) (u:Value),BindsTo s fd ⟨[u],[]⟩ [(x,u)]) ∧
    ∀base:Heap,(K w.params).In base→base.Ns mainGlobals mg→rJ l.prog w (K w.params) mg base (CX w) k fa fd [x] (sp w))
  (hsp:∀(w:World) (H:Hp) (a:Addr) (ns:List Int),ns.length≤n→Only H→SqL (K w.params) H a (ns.map V.int)→sp w [.ref a] H (fun v _=>v=.bl true) fun _ _ _=>False)
  (hCX:∀(w:World) (H:Hp) (s:Shared) (e:Value) (s':Shared),CX w [] H s (fun _ _ _=>False) e s'→False) :
  PySem.W.WalkO q loose XP YP l.row.toRowW d [] (fun f vs=>PySem.call f vs):=by
 refine Att.aJp hn hdf fun w s₀ s₁ mg mb fa o pm cd doc a vs ns G Y ho hd hcd hmg hobj hints hlen hg=>?_
 have KX:=hY w _ Y
 obtain ⟨fd,hb,hF⟩:=F w mg fa _ KX G.T.g hmg
 exact aSm KX G.T.g G.T.b G.T.builtins G.T.nolimit hg hobj hints (Nat.le_trans hlen hn2) hr hF hb (fun H hO hS=>hsp w H a ns hlen hO hS) fun H e s'=>hCX w H s₁ e s'
theorem aS8 {l:PySem.W.OpenLaw} {n k:Nat} {q:Program} {loose:List Str} {XP:(Str→Option Value)→Heap→Prop} {YP:World→Heap→Prop} {d:DefRec} {K:Params→PySem.W.Frag} {CX:CXT} {sp:PySem.W.Frag→Sp} {x:Str}
  (hn:l.most=some n) (hn2:n≤sizeLine) (hdf:d.params.defaults=[]) (hr:Room k callerA)
  (hY:∀(w:World) (h:Heap),YP w h→(K w.params).In h)
  (F:∀(w:World) (mg:Str→Option Value) (fa:Addr) (h:Heap),(K w.params).In h→h.Ns mainGlobals mg→mg d.name=some (.ref fa) →
   ∃fd:FuncData,(∀(s:Shared) (u:Value),BindsTo s fd ⟨[u],[]⟩ [(x,u)]) ∧
    ∀base:Heap,(K w.params).In base→base.Ns mainGlobals mg→rJ l.prog w (K w.params) mg base CX k fa fd [x] (sp (K w.params)))
  (hsp:∀(K:PySem.W.Frag) (H:Hp) (a:Addr) (ns:List Int),ns.length≤n→Only H→SqL K H a (ns.map V.int)→sp K [.ref a] H (fun v _=>v=.bl true) fun _ _ _=>False)
  (hCX:∀(H:Hp) (s:Shared) (e:Value) (s':Shared),CX [] H s (fun _ _ _=>False) e s'→False) :
  PySem.W.WalkO q loose XP YP l.row.toRowW d [] (fun f vs=>PySem.call f vs):=
 aUm (K:=K) (CX:=fun _=>CX) (sp:=fun w=>sp (K w.params)) hn hn2 hdf hr hY F (fun w H a ns h1 h2 h3=>hsp (K w.params) H a ns h1 h2 h3) fun _ H s e s'=>hCX H s e s'
def uO (s:Stmt):Arguments:=match s with
 |.FunctionDef _ a _ _ _ _ _ _ _ _=>a
 |_=>{ posonlyargs:=[],args:=[],vararg:=none,kwonlyargs:=[],kw_defaults:=[],kwarg:=none,defaults:=[] }
def lV (s:Stmt):List Stmt:=match s with
 |.FunctionDef _ _ b _ _ _ _ _ _ _=>b
 |_=>[]
def aG (s:Stmt):Scope:=match s with
 |.FunctionDef _ _ _ _ _ _ sc _ _ _=>sc
 |_=>{ kind:=.function,names:=[],isGenerator:=false,isCoroutine:=false }
abbrev CX0:CXT:=fun _ _ _ _ _ _=>False
abbrev E0:XK:=fun _ _ _=>False
theorem aR7 {X:Cx}:aGn CX0 X E0:=fun _ _ _ _ _ _ _ h=>h.elim
structure Fun (K:PySem.W.Frag) (x qual:Str) (st:Stmt) (f:Addr) (fd:FuncData):Prop where
 ex:∃(oc:Value) (od:Option Addr) (kV doc pm:Value) (an:Option Addr) (cdv ct:Value) (osl:Array (Option Value)),
  fd=PySem.W.fnOf x qual (uO st) (lV st) (aG st) .none kV doc pm an cdv ct∧K.lookup f=some ⟨oc,od,.func fd,osl⟩∧PySem.W.codeIn K cdv qual=true
 kp:PySem.W.keepIn K (.ref f)=true
section
variable {P:Program} {w:World} {K:PySem.W.Frag} {mg:Str→Option Value} {base:Heap}
theorem Fun.ok {x qual:Str} {st:Stmt} {f:Addr} {fd:FuncData} {N ps:List Str} {k:Nat} {sp:Sp} (F:Fun K x qual st f fd) (S:aR N ps (aG st)) (len:∀vs H Q E,sp vs H Q E→vs.length=ps.length)
  (hbody:∀(cdv:Value) (A:Around) (outer:List Env) (s:Shared) (H:Hp) (vs:List V) (Q:VK) (E:XK),Room k (A.deeper (envOfC qual (aG st) s.heap.objs.size f cdv))→sp vs H Q E →
   ∃t,PSs (aHf CX0 P w K mg base N qual (aG st) f cdv A outer s H E).nox (lV st) t∧t { nx:=fun _ H'=>Q .non H',rt:=Q } (start N vs) H):rJ P w K mg base CX0 (k+1) f fd ps sp:=by
 obtain ⟨oc,od,kV,doc,pm,an,cdv,ct,osl,rfl,lk,hcd⟩:=F.ex
 refine aZb lk hcd S len fun A outer s H vs Q E hr hsp=>?_
 obtain ⟨t,h,q⟩:=hbody cdv A outer s H vs Q E hr hsp
 exact ⟨t,h.nox,q⟩
theorem Fun.binds {x qual:Str} {st:Stmt} {f:Addr} {fd:FuncData} {ps:List Str} (F:Fun K x qual st f fd)
  (h:∀(kV doc pm:Value) (an:Option Addr) (cdv ct:Value) (us:List Value),us.length=ps.length→bindArgs (PySem.W.fnOf x qual (uO st) (lV st) (aG st) .none kV doc pm an cdv ct) ⟨us,[]⟩=pure (ps.zip us)):Binds K fd ps []:=by
 obtain ⟨oc,od,kV,doc,pm,an,cdv,ct,osl,rfl,lk,hcd⟩:=F.ex
 exact .all (h kV doc pm an cdv ct)
theorem aQh {x qual:Str} {st:Stmt} {f:Addr} {oc:Value} {od an:Option Addr} {osl:Array (Option Value)} {kV doc pm cdv ct:Value} (l:K.lookup f=some ⟨oc,od,.func (PySem.W.fnOf x qual (uO st) (lV st) (aG st) .none kV doc pm an cdv ct),osl⟩)
  (c:PySem.W.codeIn K cdv qual=true) (k:PySem.W.keepIn K (.ref f)=true):Fun K x qual st f (PySem.W.fnOf x qual (uO st) (lV st) (aG st) .none kV doc pm an cdv ct):=⟨⟨oc,od,kV,doc,pm,an,cdv,ct,osl,rfl,l,c⟩,k⟩
end
theorem wI {A:Around} {k:Nat} (hr:Room k A):A.units+1<cLine:=Nat.lt_of_le_of_lt (Nat.add_le_add_left (by decide:1≤64) _) hr.units
theorem fQ {n:Nat} (h:n≤1000):n<sizeLine:=Nat.lt_of_le_of_lt h (by decide)
section
variable {X:Cx}
theorem pv (i:Nat) {x:Str} {pos:Pos} (hN:X.N[i]?=some x:=by rfl) (hv:Vis X.env.scope x:=by trivial) (hd:(x == ("__debug__":Str))=false:=by decide)
  (hcd:(x == ("__classdict__":Str))=false:=by decide):PE X (.Name x pos) (wA i):=aWp hN hv hd hcd
end
theorem aZ {A B:Prop} (h:B):if false=true then A else B:=by
 rw [if_neg Bool.false_ne_true]
 exact h
theorem cA {A B:Prop} (h:A):if true=true then A else B:=by
 rw [if_pos rfl]
 exact h
theorem jJ {c A B:Prop} [Decidable c] (h1:c→A) (h2:¬ c→B):if c then A else B:=by
 by_cases h:c
 ·rw [if_pos h]
  exact h1 h
 ·rw [if_neg h]
  exact h2 h
def Same (H H':Hp):Prop:=∀b o,H b=some o→H' b=some o
theorem Same.refl (H:Hp):Same H H:=fun _ _ h=>h
theorem Same.trans {H H1 H2:Hp} (a:Same H H1) (b:Same H1 H2):Same H H2:=fun c o h=>b c o (a c o h)
theorem Same.free {H H':Hp} (e:Same H H') {l:Addr} (h:H' l=Option.none):H l=Option.none:=by
 cases q:H l with
 |none=>rfl
 |some o=>
  rw [e l o q] at h
  cases h
theorem Same.seq {K:PySem.W.Frag} {H H':Hp} {a:Addr} {xs:List V} (e:Same H H') (h:SqL K H a xs):SqL K H' a xs:=by
 rcases h with (h|⟨o,h⟩)|h
 ·exact .inl (.inl (e _ _ h))
 ·exact .inl (.inr ⟨o,e _ _ h⟩)
 ·exact .inr h
end L2
namespace PySem
namespace RvF
end RvF
section
variable {prog:Program} {w:World} {A:Around} {E:Value→Shared→Prop} {s:Shared}
end
end PySem
namespace L2
open PySem PySem.Spec PyProof.Rows
theorem zZ:bootBuiltins "int"=some (.type "int"):=by decide +kernel
theorem aUe:bootBuiltins "bool"=some (.type "bool"):=by decide +kernel
theorem aS3:bootBuiltins "str"=some (.type "str"):=by decide +kernel
theorem uM:bootBuiltins "list"=some (.type "list"):=by decide +kernel
theorem bQ:bootBuiltins "tuple"=some (.type "tuple"):=by decide +kernel
theorem aA6:bootBuiltins "dict"=some (.type "dict"):=by decide +kernel
theorem aWm:bootBuiltins "set"=some (.type "set"):=by decide +kernel
theorem aQc:bootBuiltins "zip"=some (.type "zip"):=by decide +kernel
theorem aFz:bootBuiltins "enumerate"=some (.type "enumerate"):=by decide +kernel
theorem cM:bootBuiltins "isinstance"=some (.builtin "isinstance"):=by decide +kernel
theorem cJ:bootBuiltins "len"=some (.builtin "len"):=by decide +kernel
theorem aBi:bootBuiltins "all"=some (.builtin "all"):=by decide +kernel
theorem aW1:bootBuiltins "any"=some (.builtin "any"):=by decide +kernel
theorem aX8:bootBuiltins "min"=some (.builtin "min"):=by decide +kernel
theorem aN7:bootBuiltins "sorted"=some (.builtin "sorted"):=by decide +kernel
theorem aX5:bootBuiltins "abs"=some (.builtin "abs"):=by decide +kernel
def sgn (x:Str) (i:Nat):Str:=⟨#[x.cps.getD i 0]⟩
theorem aQo {x:Str} {i c:Nat} (h:x.cps[i]?=some c):(⟨#[c]⟩:Str)=sgn x i:=by
 unfold sgn
 rw [Array.getD_eq_getD_getElem?,h]
 rfl
def Its (x:Str):It:=⟨fun i _=>i<x.cps.size,fun i H v H'=>H'=H∧v=.str (sgn x i),fun i _=>x.cps.size≤i⟩
theorem aOu {P:Program} {w:World} {K:PySem.W.Frag} {tg:Expr} (it:Addr) (x:Str) (t:Tok):Turn P w K tg (Its x) [it] it (fun i h=>h.IsStrIter it "str_ascii_iterator" x t i) where
 mem:=by simp
 obj:=fun i h st b hb=>by
  have e:b=it:=by simpa using hb
  subst e
  obtain ⟨o,e,c,d⟩:=st
  exact ⟨o,e,fun v z=>by rw [d] at z;cases z⟩
 keep:=fun i h h' st k=>let ⟨o,ho,r⟩:=st;⟨o,k it (by simp) o ho,r⟩
 item:=by
  intro X hP hw hK hc i pins s σ H E I hf st hg
  subst hP hw hK
  obtain ⟨f0,f1,f2,f3,f4,f5⟩:=hf it (by simp)
  refine (Walks.strAscii (prog:=X.prog) (w:=X.w) (I.ok.hd hc) it x t).item i s _ _ hg st fun v h' tk hv st' kk=>?_
  obtain ⟨c,u,hcx,rfl⟩:=hv
  have I1:Inv X pins σ H { s with heap:=h',toks:=tk }:=I.turned (fun b o hb e=>kk b o (by simpa using hb) e) f0 f1 f3 f4 f5
  obtain ⟨o,e,c',d⟩:=id st'
  exact ⟨_,rfl,aHv (s:={ s with heap:=h',toks:=tk }) e c' d (by decide) ⟨.str ⟨#[c]⟩,H,I1,⟨u,rfl⟩,⟨rfl,by rw [aQo hcx]⟩,st',fun b hb=>(hf b hb).1⟩⟩
 done:=by
  intro X hP hw hK hc i pins s σ H E I hf st hg
  subst hP hw hK
  obtain ⟨f0,f1,f2,f3,f4,f5⟩:=hf it (by simp)
  exact wpAny_pyNext_ascii_end (I.ok.hd hc) st (Array.getElem?_eq_none_iff.mpr hg) fun h' eb=>⟨rfl,I.turned (t':=s.toks) (fun b o hb e=>eb b o hb e) f0 f1 f3 f4 f5⟩
 self:=fun _ _ _ _ _ st h=>wpAny_pyIter_striter_ascii st h
theorem aO2 {P:Program} {w:World} {K:PySem.W.Frag} {tg:Expr} (it:Addr) (x:Str) (t:Tok):Turn P w K tg (Its x) [it] it (fun i h=>h.IsStrIter it "str_iterator" x t i) where
 mem:=by simp
 obj:=fun i h st b hb=>by
  have e:b=it:=by simpa using hb
  subst e
  obtain ⟨o,e,c,d⟩:=st
  exact ⟨o,e,fun v z=>by rw [d] at z;cases z⟩
 keep:=fun i h h' st k=>let ⟨o,ho,r⟩:=st;⟨o,k it (by simp) o ho,r⟩
 item:=by
  intro X hP hw hK hc i pins s σ H E I hf st hg
  subst hP hw hK
  obtain ⟨f0,f1,f2,f3,f4,f5⟩:=hf it (by simp)
  refine (Walks.strWide (prog:=X.prog) (w:=X.w) (I.ok.hd hc) it x t).item i s _ _ hg st fun v h' tk hv st' kk=>?_
  obtain ⟨c,u,hcx,rfl⟩:=hv
  have I1:Inv X pins σ H { s with heap:=h',toks:=tk }:=I.turned (fun b o hb e=>kk b o (by simpa using hb) e) f0 f1 f3 f4 f5
  obtain ⟨o,e,c',d⟩:=id st'
  exact ⟨_,rfl,aHv (s:={ s with heap:=h',toks:=tk }) e c' d (by decide) ⟨.str ⟨#[c]⟩,H,I1,⟨u,rfl⟩,⟨rfl,by rw [aQo hcx]⟩,st',fun b hb=>(hf b hb).1⟩⟩
 done:=by
  intro X hP hw hK hc i pins s σ H E I hf st hg
  subst hP hw hK
  obtain ⟨f0,f1,f2,f3,f4,f5⟩:=hf it (by simp)
  exact wpAny_pyNext_wide_end (I.ok.hd hc) st (Array.getElem?_eq_none_iff.mpr hg) fun h' eb=>⟨rfl,I.turned (t':=s.toks) (fun b o hb e=>eb b o hb e) f0 f1 f3 f4 f5⟩
 self:=fun _ _ _ _ _ st h=>wpAny_pyIter_striter_wide st h
section
variable {X:Cx} {tg:Expr}
def aX0 (tl:TE):TI:=fun σ H R=>tl σ H fun x H1=>∃z,x=.str z∧R (Its z) H1
theorem aX3 {l:Expr} {tl:TE} (hl:PE X l tl):PI X tg l (aX0 tl):=by
 intro pins s σ H R I h
 refine thn (hl pins s σ H _ I h) fun v s1 ⟨x,H1,I1,r1,q1⟩=>?_
 obtain ⟨z,e,q⟩:=q1
 subst e
 obtain ⟨t,rfl⟩:=r1
 have fp:∀b∈[s1.heap.objs.size],vY X pins H1 b:=fun b hb=>by
  have e:b=s1.heap.objs.size:=by simpa using hb
  subst e
  exact I1.aKm (Nat.le_refl _) (I1.hok.fresh (Nat.le_refl _))
 cases ha:z.cps.all (·<128)
 ·exact wpAny_pyIter_wide ha ⟨s1.heap.objs.size,[s1.heap.objs.size],_,_,H1,rfl,I1.kept (t':=s1.toks) fun b o e=>Heap.get?_push_of_some _ e,aO2 _ z t,⟨_,Heap.get?_push_size _ rfl,rfl,rfl⟩,fp,q⟩
 ·exact wpAny_pyIter_ascii ha ⟨s1.heap.objs.size,[s1.heap.objs.size],_,_,H1,rfl,I1.kept (t':=s1.toks) fun b o e=>Heap.get?_push_of_some _ e,aOu _ z t,⟨_,Heap.get?_push_size _ rfl,rfl,rfl⟩,fp,q⟩
def aKz (x:V) (T:String):Option Bool:=match x with
 |.int _=>if T = "int" then some true else if T = "bool" then some false else if T = "str" then some false else none
 |.str _=>if T = "int" then some false else if T = "bool" then some false else if T = "str" then some true else none
 |.bl _=>if T = "int" then some true else if T = "bool" then some true else if T = "str" then some false else none
 |_=>none
def aZj:List V→Hp→VK→Prop:=fun xs H Q=>∃x T b,xs=[x,.ty T]∧aKz x T=some b∧Q (.bl b) H
theorem xM:cW X (.builtin "isinstance") aZj:=by
 intro pins s σ H xs us Q I r h
 obtain ⟨x,T,b,rfl,e,q⟩:=h
 obtain ⟨u,v,rfl,rx,rT⟩:=r.two
 cases rT
 have f0:∀{k:Bool},some k=some b→EP X pins σ Q (.bool k) s:=fun e=>by cases e;exact ⟨.bl _,H,I,rfl,q⟩
 have f1:∀{k:Bool},some k=some b→EP X pins σ Q (.bool k) { s with toks:=s.toks+1 }:=fun e=>by cases e;exact ⟨.bl _,H,I.tok _,rfl,q⟩
 cases x with
 |int i=>
  obtain ⟨t,rfl⟩:=rx
  unfold aKz at e
  dsimp only at e
  split at e
  ·rename_i hT;subst hT;exact IsiPair.int_int (f0 e)
  split at e
  ·rename_i hT;subst hT;exact IsiPair.int_bool (f1 e)
  split at e
  ·rename_i hT;subst hT;exact IsiPair.int_str (f1 e)
  ·cases e
 |str z=>
  obtain ⟨t,rfl⟩:=rx
  unfold aKz at e
  dsimp only at e
  split at e
  ·rename_i hT;subst hT;exact IsiPair.str_int (f1 e)
  split at e
  ·rename_i hT;subst hT;exact IsiPair.str_bool (f1 e)
  split at e
  ·rename_i hT;subst hT;exact IsiPair.str_str (f0 e)
  ·cases e
 |bl z=>
  cases rx
  unfold aKz at e
  dsimp only at e
  split at e
  ·rename_i hT;subst hT;exact IsiPair.bool_int (f0 e)
  split at e
  ·rename_i hT;subst hT;exact IsiPair.bool_bool (f0 e)
  split at e
  ·rename_i hT;subst hT;exact IsiPair.bool_str (f1 e)
  ·cases e
 |_=>cases (show (none:Option Bool)=some b from e)
end
theorem small {n:Nat} (h:n≤1000):n≤sizeLine:=Nat.le_of_lt (fQ h)
theorem dZ:Vals [] []:=.nil
theorem bM {x:V} {u:Value} {xs:List V} {us:List Value} (r:RelV x u) (t:Vals xs us):Vals (x::xs) (u::us):=.cons r t
def jD:Expr→Bool
 |.Starred ..=>false
 |_=>true
theorem cC {e:Expr} {es:List Expr} {env:Env} (h:jD e=true):starEach (e::es) env=(false,eval e env)::starEach es env:=by
 cases e <;> first|rfl|cases h
theorem aZz {X:Cx} {e:Expr} {es:List Expr} {te:TE} {t:TA} (ha:PE X e te) (hr:PA X es t) (hp:jD e=true:=by rfl) :
  PA X (e::es) (fP te t):=aUk ha hr (cC hp)
theorem aYo {X:Cx} {x:Str} {v:V} {pos:Pos} (hg:Gl X x) (hm:∃u,X.mg x=some u∧RelV v u) (hd:(x == ("__debug__":Str))=false:=by decide):PE X (.Name x pos) (tC v):=by
 obtain ⟨u,hm,r⟩:=hm
 exact aT1 hg hm r hd
section
variable {P:Program} {w:World} {K:PySem.W.Frag} {mg:Str→Option Value} {base:Heap}
def Dn (K:PySem.W.Frag) (mg:Str→Option Value) (x:Str) (st:Stmt) (ps:List Str):Prop:=∃f fd,Fun K x x st f fd∧Binds K fd ps []∧mg x=some (.ref f)
def Ok (P:Program) (w:World) (K:PySem.W.Frag) (mg:Str→Option Value) (base:Heap) (k:Nat) (x:Str) (ps:List Str) (sp:Sp):Prop:=
 ∃f fd,mg x=some (.ref f)∧PySem.W.keepIn K (.ref f)=true∧Binds K fd ps []∧rJ P w K mg base CX0 k f fd ps sp
theorem Ok.mono {j k:Nat} {x:Str} {ps:List Str} {sp:Sp} (h:Ok P w K mg base j x ps sp) (hj:j≤k):Ok P w K mg base k x ps sp:=by
 obtain ⟨f,fd,h1,h2,h3,h4⟩:=h
 exact ⟨f,fd,h1,h2,h3,h4.mono hj⟩
theorem Ok.of {x:Str} {st:Stmt} {N ps:List Str} {k:Nat} {sp:Sp} (D:Dn K mg x st ps) (S:aR N ps (aG st)) (len:∀vs H Q E,sp vs H Q E→vs.length=ps.length)
  (hbody:∀(f:Addr) (cdv:Value) (A:Around) (outer:List Env) (s:Shared) (H:Hp) (vs:List V) (Q:VK) (E:XK),Room k (A.deeper (envOfC x (aG st) s.heap.objs.size f cdv))→sp vs H Q E →
   ∃t,PSs (aHf CX0 P w K mg base N x (aG st) f cdv A outer s H E).nox (lV st) t∧t { nx:=fun _ H'=>Q .non H',rt:=Q } (start N vs) H):Ok P w K mg base (k+1) x ps sp:=by
 obtain ⟨f,fd,F,B,m⟩:=D
 exact ⟨f,fd,m,F.kp,B,F.ok S len fun cdv A outer s H vs Q E hr h=>hbody f cdv A outer s H vs Q E hr h⟩
end
section
variable {X:Cx} {k:Nat} {ps:List Str} {sp:Sp} {x:Str} {p pos:Pos} {e:Expr} {es:List Expr} {t:TA}
theorem aZn (G:Ok X.prog X.w X.K X.mg X.base k x ps sp) (hr:Room k X.A) (hg:Gl X x) (ha:PA X (e::es) t) (hdb:(x == ("__debug__":Str))=false:=by decide)
  (he:starEach (e::es) X.env=(false,eval e X.env)::starEach es X.env:=by rfl) (hpl:(backTo pos (starEach es X.env)).any (·.1)=false:=by rfl) :
  PE X (.Call (.Name x p) (e::es) [] pos) (rY sp [] E0 t):=by
 obtain ⟨f,fd,h1,h2,h3,h4⟩:=G
 exact aTy h4 hr hg h1 h2 h3 .nil aR7 ha hdb he hpl
theorem aXm (G:Ok X.prog X.w X.K X.mg X.base k x ps sp) (hr:Room k X.A) (hg:Gl X x) (hdb:(x == ("__debug__":Str))=false:=by decide) :
  PE X (.Call (.Name x p) [] [] pos) (rY sp [] E0 aKk):=by
 obtain ⟨f,fd,h1,h2,h3,h4⟩:=G
 exact aQ3 h4 hr hg h1 h2 h3 .nil aR7 hdb
end
theorem vG {env:Env} (f:Str × NameKind→List (Str × Addr)→Sem (ForInStep (List (Str × Addr))))
  (h1:∀n r,f (n,.free) r=(cellOf env n >>= fun a=>pure (.yield ((n,a)::r)))) (h2:∀n k r,k≠.free→f (n,k) r=pure (.yield r)) :
  ∀(names:List (Str × NameKind)) (acc:List (Str × Addr)),(∀y∈names,y.2=.free→∃c,env.cells.lookup y.1=some c) →
  ∃cl,forIn names acc f=(pure (cl++acc):Sem _)∧(∀p∈cl,env.cells.lookup p.1=some p.2∧(p.1,NameKind.free)∈names)∧∀y,(y,NameKind.free)∈names→∃c,(y,c)∈cl
 |[],acc,_=>⟨[],by simp,fun _ h=>(nomatch h),fun _ h=>(nomatch h)⟩
 |(n,k)::r,acc,h=>by
  by_cases hk:k=.free
  ·subst hk
   obtain ⟨c,hc⟩:=h (n,.free) List.mem_cons_self rfl
   obtain ⟨cl,e,p1,p2⟩:=vG f h1 h2 r ((n,c)::acc) fun y hy=>h y (List.mem_cons_of_mem _ hy)
   refine ⟨cl++[(n,c)],?_,fun p hp=>?_,fun y hy=>?_⟩
   ·rw [List.forIn_cons,h1]
    have e0:cellOf env n=pure c:=by unfold cellOf;rw [hc]
    rw [e0,pure_bind,pure_bind]
    show forIn r ((n,c)::acc) f=_
    rw [e,List.append_assoc]
    rfl
   ·rcases List.mem_append.mp hp with hp|hp
    ·exact ⟨(p1 p hp).1,List.mem_cons_of_mem _ (p1 p hp).2⟩
    ·obtain rfl:=List.mem_singleton.mp hp
     exact ⟨hc,List.mem_cons_self⟩
   ·rcases List.mem_cons.mp hy with e|hy
    ·cases e
     exact ⟨c,by simp⟩
    ·obtain ⟨c',q⟩:=p2 y hy
     exact ⟨c',List.mem_append_left _ q⟩
  ·obtain ⟨cl,e,p1,p2⟩:=vG f h1 h2 r acc fun y hy=>h y (List.mem_cons_of_mem _ hy)
   refine ⟨cl,?_,fun p hp=>⟨(p1 p hp).1,List.mem_cons_of_mem _ (p1 p hp).2⟩,fun y hy=>?_⟩
   ·rw [List.forIn_cons,h2 n k acc hk,pure_bind]
    exact e
   ·rcases List.mem_cons.mp hy with e|hy
    ·cases e
     exact absurd rfl hk
    ·exact p2 y hy
theorem aCt {scope:Scope} {env:Env} (h:∀y∈scope.names,y.2=.free→∃c,env.cells.lookup y.1=some c) :
  ∃cl,closureFor scope env=pure cl∧(∀p∈cl,env.cells.lookup p.1=some p.2∧(p.1,NameKind.free)∈scope.names)∧∀y,(y,NameKind.free)∈scope.names→∃c,(y,c)∈cl:=by
 unfold closureFor
 obtain ⟨cl,e,p1,p2⟩:=vG (env:=env) (fun x r=>match x with|(name,kind)=>if (kind == NameKind.free)=true then do let a ←cellOf env name;pure (.yield ((name,a)::r)) else pure (.yield r))
  (fun n r=>rfl) (fun n k r hk=>by
   have:(k == NameKind.free)=false:=by simpa using hk
   simp only [this,Bool.false_eq_true,if_false]) scope.names [] h
 refine ⟨cl,?_,p1,p2⟩
 rw [List.append_nil] at e
 refine Eq.trans ?_ e
 first
 |rfl
 |simp
theorem lookup_mem {α β:Type} [BEq α] [LawfulBEq α] {a:α} {b:β}:∀{l:List (α × β)},(a,b)∈l→∃b',l.lookup a=some b'
 |(x,y)::r,h=>by
  rw [List.lookup_cons]
  by_cases e:(a == x)=true
  ·exact ⟨y,by rw [e]⟩
  ·have e':(a == x)=false:=by simpa using e
   rw [e']
   rcases List.mem_cons.mp h with z|z
   ·cases z
    simp at e
   ·exact lookup_mem z
theorem xT {env:Env} {y:Str} {k:NameKind}:∀{names:List (Str × NameKind)},names.lookup y=some .free →
  (names.map fun (x:Str × NameKind)=>match x with|(n,k)=>if (k == NameKind.free && env.scope.kind == ScopeKind.function && env.kindOf n == some NameKind.cell) then (n,NameKind.cell) else (n,k)).lookup y=some .cell ∨
  (names.map fun (x:Str × NameKind)=>match x with|(n,k)=>if (k == NameKind.free && env.scope.kind == ScopeKind.function && env.kindOf n == some NameKind.cell) then (n,NameKind.cell) else (n,k)).lookup y=some .free
 |[],h=>by simp at h
 |(n,k')::r,h=>by
  rw [List.map_cons]
  rw [List.lookup_cons] at h
  by_cases e:(y == n)=true
  ·rw [e] at h
   cases h
   by_cases q:((NameKind.free == NameKind.free) && env.scope.kind == ScopeKind.function && env.kindOf n == some NameKind.cell)=true
   ·left
    simp only [q,if_true,List.lookup_cons,e]
   ·right
    have q':=Bool.eq_false_iff.mpr q
    simp only [q',Bool.false_eq_true,if_false,List.lookup_cons,e]
  ·have e':(y == n)=false:=by simpa using e
   rw [e'] at h
   have ih:=xT (env:=env) (k:=k) h
   have key:∀z:Str × NameKind,z.1=n→(List.lookup y (z::(r.map fun (x:Str × NameKind)=>match x with|(n,k)=>if (k == NameKind.free && env.scope.kind == ScopeKind.function && env.kindOf n == some NameKind.cell) then (n,NameKind.cell) else (n,k)))) =
     List.lookup y (r.map fun (x:Str × NameKind)=>match x with|(n,k)=>if (k == NameKind.free && env.scope.kind == ScopeKind.function && env.kindOf n == some NameKind.cell) then (n,NameKind.cell) else (n,k)):=fun z hz=>by
    obtain ⟨z1,z2⟩:=z
    cases hz
    rw [List.lookup_cons,e']
   have kz:(match ((n,k'):Str × NameKind) with|(n,k)=>if (k == NameKind.free && env.scope.kind == ScopeKind.function && env.kindOf n == some NameKind.cell) then (n,NameKind.cell) else (n,k)).1=n:=by
    dsimp only
    split <;> rfl
   rw [key _ kz]
   exact ih
theorem wL {env:Env} {y:Str}:∀{names:List (Str × NameKind)},(∀z∈names,z.2≠.cell) →
  ((names.map fun (x:Str × NameKind)=>match x with|(n,k)=>if (k == NameKind.free && env.scope.kind == ScopeKind.function && env.kindOf n == some NameKind.cell) then (n,NameKind.cell) else (n,k)).lookup y=some .cell ∨
  (names.map fun (x:Str × NameKind)=>match x with|(n,k)=>if (k == NameKind.free && env.scope.kind == ScopeKind.function && env.kindOf n == some NameKind.cell) then (n,NameKind.cell) else (n,k)).lookup y=some .free)→(y,NameKind.free)∈names
 |[],_,h=>by simp at h
 |(n,k')::r,hc,h=>by
  rw [List.map_cons] at h
  by_cases e:(y == n)=true
  ·have ey:y=n:=by simpa using e
   subst ey
   have hk:k'=.free:=by
    by_cases q:((k' == NameKind.free) && env.scope.kind == ScopeKind.function && env.kindOf y == some NameKind.cell)=true
    ·rw [Bool.and_eq_true,Bool.and_eq_true] at q
     simpa using q.1.1
    ·have q':=Bool.eq_false_iff.mpr q
     simp only [q',Bool.false_eq_true,if_false,List.lookup_cons,e] at h
     rcases h with h|h
     ·cases h
      exact absurd rfl (hc (y,.cell) List.mem_cons_self)
     ·cases h;rfl
   subst hk
   exact List.mem_cons_self
  ·have e':(y == n)=false:=by simpa using e
   have key:∀z:Str × NameKind,z.1=n→(List.lookup y (z::(r.map fun (x:Str × NameKind)=>match x with|(n,k)=>if (k == NameKind.free && env.scope.kind == ScopeKind.function && env.kindOf n == some NameKind.cell) then (n,NameKind.cell) else (n,k)))) =
     List.lookup y (r.map fun (x:Str × NameKind)=>match x with|(n,k)=>if (k == NameKind.free && env.scope.kind == ScopeKind.function && env.kindOf n == some NameKind.cell) then (n,NameKind.cell) else (n,k)):=fun z hz=>by
    obtain ⟨z1,z2⟩:=z
    cases hz
    rw [List.lookup_cons,e']
   have kz:(match ((n,k'):Str × NameKind) with|(n,k)=>if (k == NameKind.free && env.scope.kind == ScopeKind.function && env.kindOf n == some NameKind.cell) then (n,NameKind.cell) else (n,k)).1=n:=by
    dsimp only
    split <;> rfl
   rw [key _ kz] at h
   exact List.mem_cons_of_mem _ (wL (fun z hz=>hc z (List.mem_cons_of_mem _ hz)) h)
section
variable {prog:Program} {w:World} {A:Around} {E:Value→Shared→Prop} {R:Result→Shared→Prop} {s:Shared}
theorem aEg {elt target iter:Expr} {ifs:List Expr} {scope:Scope} {pos:Pos} {it acc:Value} {env:Env} (I:Nat→Shared→Prop)
  (turn:∀n s,I n s→wpAny (model prog w) A (pyNext it) (fun r s₁=>match r with
   |none=>R (.ok .next) s₁
   |some v=>wpAny (model prog w) A (letOwnedTupleGo target it v) (fun _ s'=>wpAny (model prog w) A (assign target env v) (fun _ s₂=>
     wpAny (model prog w) A (forIn ifs true fun c r=>if r=true then do let ok ←isTrue c env (eval c env);pure (ForInStep.yield ok) else pure (ForInStep.yield r)) (fun ok s₃=>
      if ok=true then wpAny (model prog w) A (eval elt env) (fun x s₄=>
       wpAny (model prog w) A (call (.builtin "list.append") [acc,x]) (fun _ s₅=>∃m,m<n∧I m s₅) (notedBy (model prog w) A env fun e s'=>R (.error e) s') s₄) (notedBy (model prog w) A env fun e s'=>R (.error e) s') s₃
      else ∃m,m<n∧I m s₃) (notedBy (model prog w) A env fun e s'=>R (.error e) s') s₂) (notedBy (model prog w) A env fun e s'=>R (.error e) s') s') (notedBy (model prog w) A env fun e s'=>R (.error e) s') s₁)
   (notedBy (model prog w) A env fun e s'=>R (.error e) s') s)
  (n:Nat) (h:I n s):codeAny (model prog w) A (.compLoop (.ListComp elt [⟨target,iter,ifs,0⟩] scope pos) 0 it acc env) R s:=by
 refine codeAny_loop rfl I (fun n s hI=>?_) n h
 show wpAny _ A ((compTurn (.ListComp elt [⟨target,iter,ifs,0⟩] scope pos) 0 it acc env).onRaise (fun x=>do noteFrame x env;theTreesLotGoes x)) _ _ s
 refine wpAny_noted ?_
 rw [compTurn_list]
 refine wpAny_bind (wpAny_standAt (wpAny_bind (wpAny_mono (turn n s hI) (fun r s₁ h₁=>?_) fun _ _ h'=>h')))
 cases r with
 |none=>exact wpAny_pure h₁
 |some v=>
  refine wpAny_bind (wpAny_mono h₁ (fun _ s' h₁'=>wpAny_bind (wpAny_mono h₁' (fun _ s₂ h₂=>wpAny_bind (wpAny_mono h₂ (fun ok s₃ h₃=>?_) fun _ _ h'=>h')) fun _ _ h'=>h')) fun _ _ h'=>h')
  cases ok with
  |false=>exact wpAny_pure ⟨rfl,h₃⟩
  |true=>
   exact wpAny_bind (wpAny_bind (wpAny_mono h₃ (fun x s₄ h₄=>wpAny_bind (wpAny_mono h₄ (fun _ s₅ h₅=>wpAny_pure (wpAny_pure ⟨rfl,h₅⟩)) fun _ _ h'=>h')) fun _ _ h'=>h'))
end
def cxC (X:Cx) (N:List Str) (scope:Scope) (cl:List (Str × Addr)) (s:Shared) (H:Hp) (fp:List Addr):Cx:=
 { X with N:=N,s₀:=s,H₀:=H,env:=compEnvC scope cl s.heap.objs.size X.env,outer:=X.stack,stack:=X.stack,ex:=fp,fn:=fun _=>false,pn:=[],xe:=fun _ _=>False }
def aQ4 (X:Cx) (ifs:List Expr) (tt:TT):Prop:=
 ∀(pins:List (Addr × Obj)) (s:Shared) (σ:St) (H:Hp) (Q:Bool→Hp→Prop),Inv X pins σ H s→tt σ H Q →
  wpAny (model X.prog X.w) X.A (forIn ifs true fun c r=>if r=true then do let ok ←isTrue c X.env (eval c X.env);pure (ForInStep.yield ok) else pure (ForInStep.yield r)) (TP X pins σ Q) X.xe s
def pY:TT:=fun _ H Q=>Q true H
theorem aW8 {X:Cx}:aQ4 X [] pY:=fun _ _ _ H _ I h=>wpAny_tests_nil ⟨H,I,h⟩
theorem aW9 {X:Cx} {c:Expr} {tc:TT} (h:PT X c tc):aQ4 X [c] tc:=fun pins s σ H Q I q=>wpAny_tests_one (h pins s σ H Q I q)
structure aCq (scope:Scope) (N:List Str):Prop where
 cell:∀y∈scope.names,y.2≠.cell
 kind:scope.kind=.function
 names:∀y∈scope.names,y.2=.local→scope.names.lookup y.1=some .local
 free:∀y∈scope.names,y.2=.free→scope.names.lookup y.1=some .free
def Cap (X:Cx) (scope:Scope) (N:List Str) (σ σ':St):Prop:=
 σ'.length=N.length∧∀(i:Nat) (y:Str) (v:V),N[i]?=some y→σ'[i]?=some (some v)→(y,NameKind.free)∈scope.names∧∃j:Nat,X.N[j]?=some y∧σ[j]?=some (some v)∧Vis X.env.scope y
theorem aKg {X:Cx} {pins:List (Addr × Obj)} {σ σ':St} {H:Hp} {s:Shared} {scope:Scope} {N:List Str} {cl:List (Str × Addr)} {fp:List Addr} {h1:Heap} {tk:Nat} {m1:Str→Option Value}
  (I:Inv X pins σ H s) (C:aCq scope N) (hfr:∀y,(y,NameKind.free)∈scope.names→X.env.kindOf y=some .cell∨X.env.kindOf y=some .free)
  (p1:∀p∈cl,X.env.cells.lookup p.1=some p.2∧(p.1,NameKind.free)∈scope.names) (p2:∀y,(y,NameKind.free)∈scope.names→∃c,(y,c)∈cl)
  (cap:Cap X scope N σ σ') (hf:∀b∈fp,vY X pins H b) (hfl:∀b∈fp,b<s.heap.objs.size)
  (hn:h1.Ns s.heap.objs.size m1) (hk:∀b o,s.heap.get? b=some o→h1.get? b=some o) :
  Inv (cxC X N scope cl s H fp) [] σ' H { s with heap:=h1,toks:=tk }:=by
 have ok:=I.ok
 have lk:∀y c,cl.lookup y=some c→X.env.cells.lookup y=some c:=fun y c e=>(p1 _ (PySem.mem_of_lookup e)).1
 have lk2:∀y,(y,NameKind.free)∈scope.names→∃c,cl.lookup y=some c∧X.env.cells.lookup y=some c:=fun y hy=>by
  obtain ⟨c,hc⟩:=p2 y hy
  obtain ⟨c',e⟩:=lookup_mem hc
  exact ⟨c',e,lk y c' e⟩
 have fsub:∀b∈fp,b∉frs X.stack:=fun b hb z=>by
  obtain ⟨f0,f1,f2,_⟩:=hf b hb
  rcases List.mem_cons.mp (I.aLd b z) with e|e
  ·exact f1 e
  ·exact f2 e
 have ok':(cxC X N scope cl s H fp).Ok:=by
  refine ⟨ok.mod,C.kind,ok.glob,ok.blt,Nat.le_refl _,fun x y c h1 h2=>ok.inj x y c (lk x c h1) (lk y c h2),fun y hy=>?_,fun y c h _=>?_,ok.hd,ok.frames,.inl rfl,fun b hb=>?_,I.bs,Nat.le_trans ok.bsz I.sz,
   fun b o e hb=>?_,fsub,I.stack,I.aMv⟩
  ·obtain ⟨c,e,_⟩:=lk2 y (wL (env:=X.env) C.cell hy)
   exact ⟨c,e⟩
  ·exact absurd (show false=true from h) Bool.false_ne_true
  ·obtain ⟨f0,f1,f2,f3,f4,f5⟩:=hf b hb
   exact ⟨Nat.ne_of_lt (hfl b hb),fun x c e=>f4 x c (lk x c e)⟩
  ·obtain ⟨f0,f1,f2,f3,f4,f5⟩:=hf b hb
   rcases f3 with z|z
   ·exact ok.noex b o e z
   ·exact absurd (Nat.lt_of_lt_of_le (Heap.lt_size e) (Nat.le_trans ok.bsz z)) (Nat.lt_irrefl _)
 refine ⟨ok',rfl,I.bare,Un.kept hk,⟨m1,hn,fun i y v e1 e2 e3=>?_⟩,fun y c e=>?_,I.hok.fresh (Nat.le_refl _),fun y c e=>I.freeC y c (lk y c e),fun p hp=>absurd (show p∈([]:List (Addr × Obj)) from hp) (by simp),I.hok.kept hk,cap.1⟩
 ·obtain ⟨hy,j,e4,e5,e6⟩:=cap.2 i y v e1 e2
  obtain ⟨m,_,hl⟩:=I.loc
  obtain ⟨u,r,l⟩:=hl j y v e4 e5 e6
  refine ⟨u,r,.inr ?_⟩
  rcases l with ⟨k,_⟩|⟨k,c,e,z⟩
  ·rcases hfr y hy with q|q <;> (rw [k] at q;cases q)
  ·obtain ⟨c',e',e''⟩:=lk2 y hy
   rw [e] at e''
   cases e''
   have rl:=xT (env:=X.env) (k:=.free) (C.free (y,.free) hy rfl)
   refine ⟨rl,c,e',?_⟩
   obtain ⟨o,ho,hd⟩:=z
   exact ⟨o,hk _ _ ho,hd⟩
 ·obtain ⟨v,o,ho,hd⟩:=I.cell y c (lk y c e)
  exact ⟨v,o,hk _ _ ho,hd⟩
def iK (X:Cx) (scope:Scope) (N:List Str) (wi:TI) (g:TG) (tt:TT) (te:TE):TE:=fun σ H Q=>∃σ0,Cap X scope N σ σ0∧wi σ H fun J H1=>∀D,H1 D=none→∃W:Nat→Nat→St→Hp→List V→Prop,(∃m,W 0 m σ0 (upd H1 D (.lst [])) []) ∧
 ∀i m σ' H' ys,W i m σ' H' ys→H' D=some (.lst ys)∧((J.stop i H'∧Q (.ref D) H')∨(J.go i H'∧∀x H2,J.yld i H' x H2→g x σ' H2 fun σ3 H3=>tt σ3 H3 fun b H4=>
  if b=true then te σ3 H4 fun y H5=>H5 D=some (.lst ys)∧ys.length<sizeLine∧∃m',m'<m∧W (i+1) m' σ3 (upd H5 D (.lst (ys++[y]))) (ys++[y]) else H4 D=some (.lst ys)∧∃m',m'<m∧W (i+1) m' σ3 H4 ys))
theorem aU1 {X:Cx} {elt target iter:Expr} {ifs:List Expr} {scope:Scope} {pos:Pos} {N:List Str} {wi:TI} {g:TG} {tt:TT} {te:TE}
  (C:aCq scope N) (hfr:∀y,(y,NameKind.free)∈scope.names→X.env.kindOf y=some .cell∨X.env.kindOf y=some .free) (hc:X.calm=true)
  (hi:PI X target iter wi)
  (hb:∀cl s H fp,PG (cxC X N scope cl s H fp) target g∧aQ4 (cxC X N scope cl s H fp) ifs tt∧PE (cxC X N scope cl s H fp) elt te)
  (hs:∀x,foldedSetIterable iter X.env x=pure x:=by intro _;rfl) :
  PE X (.ListComp elt [⟨target,iter,ifs,0⟩] scope pos) (iK X scope N wi g tt te):=by
 intro pins s σ H Q I hq
 obtain ⟨σ0,cap,hq⟩:=hq
 obtain ⟨cl,hcl,p1,p2⟩:=aCt (scope:=scope) (env:=X.env) (fun y hy hk=>by
  obtain ⟨n,k⟩:=y
  cases hk
  exact I.ok.has n (hfr n hy))
 rw [eval_ListComp]
 refine wpAny_comprehension_free (use:=none) rfl hs hcl C.kind C.names (thn (hi pins s σ H _ I hq) fun xv s1 h1=>thn h1 fun itv s2 h2=>?_)
 obtain ⟨it,fp,tn,J,H2,rfl,I2,T,st2,f2,q2⟩:=h2
 refine wpAny_newObj_type (wpAny_newFunctionEnv C.cell (by intro y hy;simp at hy) (fun h₁ hns₁ hsb₁=>?_) C.kind)
 dsimp only at hns₁ hsb₁ ⊢
 have hD:H2 s2.heap.objs.size=none:=I2.hok.fresh (Nat.le_refl _)
 have I3:Inv X pins σ (upd H2 s2.heap.objs.size (.lst [])) { s2 with heap:=s2.heap.push { cls:=.type "list",dict:=none,data:=.seq ([]:List Value).toArray } }:=
  I2.laid (t':=s2.toks) (fun b u e=>Heap.get?_push_of_some _ e) (Nat.le_refl _) ⟨Nat.zero_le _,[],0,.nil,Heap.get?_push_size _ rfl⟩
 generalize hs3:({ s2 with heap:=s2.heap.push { cls:=.type "list",dict:=none,data:=.seq ([]:List Value).toArray } }:Shared)=s3 at I3
 have hh3:s2.heap.push { cls:=.type "list",dict:=none,data:=.seq ([]:List Value).toArray }=s3.heap:=by rw [←hs3]
 rw [hh3] at hns₁ hsb₁
 have fl2:∀b∈fp,b<s2.heap.objs.size:=fun b hb=>by
  obtain ⟨o,e,_⟩:=T.obj _ _ st2 b hb
  exact Heap.lt_size e
 have fl3:∀b∈fp,b<s3.heap.objs.size:=fun b hb=>by
  rw [←hh3,Heap.size_push]
  exact Nat.lt_succ_of_lt (fl2 b hb)
 have f3:∀b∈fp,vY X pins (upd H2 s2.heap.objs.size (.lst [])) b:=fun b hb=>by
  obtain ⟨f0,fr⟩:=f2 b hb
  exact ⟨by rw [bH (Nat.ne_of_lt (fl2 b hb))];exact f0,fr⟩
 have keep3:∀b o,s3.heap.get? b=some o→h₁.get? b=some o:=fun b o e=>hsb₁.extBut b o (Nat.ne_of_lt (Heap.lt_size e)) (Heap.get?_push_of_some _ e)
 have I4:=aKg (tk:=s3.toks) I3 C hfr p1 p2 cap f3 fl3 hns₁ keep3
 have st4:tn 0 h₁:=T.keep _ _ _ st2 fun b hb o e=>keep3 b o (by rw [←hh3];exact Heap.get?_push_of_some _ e)
 obtain ⟨W,⟨m0,w0⟩,turn⟩:=q2 s2.heap.objs.size hD
 have fpc:∀{H':Hp},(∀b∈fp,H' b=none)→∀b∈fp,vY (cxC X N scope cl s3 (upd H2 s2.heap.objs.size (.lst [])) fp) [] H' b:=fun {H'} hn b hb=>by
  obtain ⟨e1,e2⟩:=I4.ok.exf b hb
  exact ⟨hn b hb,e1,I4.ok.exfs b hb,.inl hb,e2,fun p hp=>absurd (show p∈([]:List (Addr × Obj)) from hp) (by simp)⟩
 have loop:∀s4:Shared,s4={ s3 with heap:=h₁,toks:=s3.toks } →
   codeAny (model X.prog X.w) X.A (.compLoop (.ListComp elt [⟨target,iter,ifs,0⟩] scope pos) 0 (.ref it) (.ref s2.heap.objs.size) (compEnvC scope cl s3.heap.objs.size X.env))
    (compPost (model X.prog X.w) X.A X.xe none (EP X pins σ Q) (.ref s2.heap.objs.size) s3.heap.objs.size) s4:=by
  rintro s4 rfl
  refine aEg (fun n s'=>∃i σ' H' ys,Inv (cxC X N scope cl s3 (upd H2 s2.heap.objs.size (.lst [])) fp) [] σ' H' s'∧tn i s'.heap∧(∀b∈fp,H' b=none)∧W i n σ' H' ys) ?_ m0 ⟨0,σ0,_,[],I4,st4,fun b hb=>(f3 b hb).1,w0⟩
  rintro n s5 ⟨i,σ5,H5,ys,I5,st5,fr5,w5⟩
  obtain ⟨hacc,w5⟩:=turn i n σ5 H5 ys w5
  have noE:∀{α:Type} {t:Sem α} {Q':α→Shared→Prop} {E':Value→Shared→Prop} {s':Shared},wpAny (model X.prog X.w) X.A t Q' (fun _ _=>False) s'→wpAny (model X.prog X.w) X.A t Q' E' s':=fun h=>wpAny_mono h (fun _ _ q=>q) fun _ _ z=>z.elim
  rcases w5 with ⟨stop,qn⟩|⟨go,step⟩
  ·refine noE (thn (T.done (cxC X N scope cl s3 (upd H2 s2.heap.objs.size (.lst [])) fp) rfl rfl rfl hc i [] s5 σ5 H5 _ I5 (fpc fr5) st5 stop) fun r s6 ⟨hr,I6⟩=>?_)
   subst hr
   obtain ⟨m6,hn6,_⟩:=I6.loc
   refine ⟨m6,hn6,fun h' sb=>?_⟩
   have kp:∀b o,b≠s3.heap.objs.size→s6.heap.get? b=some o→h'.get? b=some o:=fun b o hb e=>sb.extBut b o hb e
   have ne3:∀b o,s3.heap.get? b=some o→b≠s3.heap.objs.size:=fun b o e=>Nat.ne_of_lt (Heap.lt_size e)
   have un:Un (frs X.stack) fp (upd H2 s2.heap.objs.size (.lst [])) H5 s3.heap h':=by
    have u:=I6.base
    exact ⟨fun b o e n hb hx=>kp b o (ne3 b o e) (u.keep b o e n hb hx),fun b o e n hb hx=>by
     obtain ⟨sl,e1⟩:=u.slot b o e n hb hx
     exact ⟨sl,kp b _ (ne3 b o e) e1⟩,u.free,fun b o e hx=>by
     obtain ⟨o',e1⟩:=u.there b o e hx
     exact ⟨o',kp b _ (ne3 b o e) e1⟩,u.tups,u.frzs,u.tbls⟩
   have hok:HOk X.prog X.w H5 h':=fun b u e=>by
    refine (I6.hok b u e).stay (fun c v hc' q=>kp c v ?_ q) (fun _ q=>q) fun _ _ q=>q
    have hfree:H5 s3.heap.objs.size=none:=I6.free
    rintro rfl
    rcases hc' with z|z
    ·rw [z] at hfree;rw [hfree] at e;cases e
    ·rw [hfree] at z;cases z
   have I7:Inv X pins σ H5 { s6 with heap:=h' }:=by
    refine I3.call' (s':={ s6 with heap:=h' }) I6.os un hok I6.bare fun b hb=>?_
    obtain ⟨f0,f1,f2',f3',f4,f5⟩:=f3 b hb
    exact ⟨f3',f1,f4,f5⟩
   exact ⟨.ref s2.heap.objs.size,H5,I7,rfl,qn⟩
  ·refine noE (thn (T.item (cxC X N scope cl s3 (upd H2 s2.heap.objs.size (.lst [])) fp) rfl rfl rfl hc i [] s5 σ5 H5 (fun _ _=>False) I5 (fpc fr5) st5 go) fun r s6 ⟨u,hr,h6⟩=>?_)
   subst hr
   refine noE (thn h6 fun _ s7 ⟨x,H7,I7,r7,y7,st7,fr7⟩=>?_)
   obtain ⟨hg,ht,he⟩:=hb cl s3 (upd H2 s2.heap.objs.size (.lst [])) fp
   have I7':=I7.pinned (fpc fr7) (T.obj _ _ st7)
   have back:∀{σ8:St} {H8:Hp} {s8:Shared},Inv (cxC X N scope cl s3 (upd H2 s2.heap.objs.size (.lst [])) fp) ([]++zJ fp s7.heap) σ8 H8 s8→tn (i+1) s8.heap∧∀b∈fp,H8 b=none:=fun {σ8 H8 s8} I8=>
    ⟨T.keep _ _ _ st7 fun b hb o e=>(I8.pin (b,o) (List.mem_append_right _ (List.mem_append_right _ (lH hb e)))).1,fun b hb=>by
     obtain ⟨o,e,d⟩:=T.obj _ _ st7 b hb
     exact (I8.pin (b,o) (List.mem_append_right _ (List.mem_append_right _ (lH hb e)))).2.1⟩
   refine noE (thn (hg _ s7 σ5 H7 x u _ I7' r7 (step x H7 y7)) fun _ s8 ⟨σ8,H8,I8,q8⟩=>?_)
   refine noE (thn (ht _ s8 σ8 H8 _ I8 q8) fun b s9 ⟨H9,I9,q9⟩=>?_)
   cases b with
   |false=>
    rw [if_neg Bool.false_ne_true] at q9 ⊢
    obtain ⟨_,m',hm,w9⟩:=q9
    exact ⟨m',hm,i+1,σ8,H9,ys,I9.nR,(back I9).1,(back I9).2,w9⟩
   |true=>
    rw [if_pos rfl] at q9 ⊢
    refine noE (thn (he _ s9 σ8 H9 _ I9 q9) fun yv s10 ⟨y,H10,I10,r10,hacc10,hlen,m',hm,w10⟩=>?_)
    refine noE (thn (yN _ s10 σ8 H10 (.ref s2.heap.objs.size) [y] (.ref s2.heap.objs.size) [yv] (fun _ H11=>H11=upd H10 s2.heap.objs.size (.lst (ys++[y]))) I10 rfl (.cons r10 .nil) ⟨_,_,_,rfl,rfl,hacc10,hlen,rfl⟩) fun _ s11 ⟨z,H11,I11,_,e11⟩=>?_)
    subst e11
    exact ⟨m',hm,i+1,σ8,_,ys++[y],I11.nR,(back I11).1,(back I11).2,w10⟩
 have fin:=codeAny_compStart_list (loop { s3 with heap:=h₁,toks:=s3.toks } rfl) (T.self _ _ _ _ _ st4 (loop { s3 with heap:=h₁,toks:=s3.toks } rfl))
 subst hs3
 exact fin
end L2
namespace PySem
open Sem (wp)
namespace IfF
theorem aRx:typeLookup (.type "function") "__class__"=pure (some (.builtin "object.__class__")):=by rw [typeLookup_type,builtinLookup_eq_fast];kernel_rfl
theorem aBa:Slot "function" "__getattribute__" "object.__getattribute__":=
 .of (owner:="object") (n:="__getattribute__") (by rw [typeLookup_type,builtinLookup_eq_fast];kernel_rfl) (by decide +kernel) (by decide +kernel) (by decide +kernel)
  (by first|exact .inl (by decide +kernel)|exact .inr (by decide +kernel)) (by rw [isSubtype_type];kernel_rfl)
theorem aQf:entryFor table "object.__getattribute__"=some Builtin.«object.__getattribute__»:=entryFor_of_tree (by kernel_rfl)
theorem aAl:isSubtype (.type "function") (.type (".".intercalate ("object.__class__".cutAt '.').dropLast))=pure true:=by
 rw [F.owner_object_class,isSubtype_type];kernel_rfl
theorem sub_int:isSubtype (.type "function") (.type "int")=pure false:=by rw [isSubtype_type];kernel_rfl
theorem sub_bool:isSubtype (.type "function") (.type "bool")=pure false:=by rw [isSubtype_type];kernel_rfl
theorem aT2:isSubtype (.type "function") (.type "str")=pure false:=by rw [isSubtype_type];kernel_rfl
end IfF
section
variable {prog:Program} {w:World} {A:Around} {E:Value→Shared→Prop} {h:Heap} {g:Array GenState} {d:Drawn} {t:Nat} {os:OsState} {a:Addr} {o:Obj}
theorem aFd {R:Result→Shared→Prop} (hx:h.get? a=some o) (hc:o.cls=.type "function") (hq:R (.ok (.ret (.type "function"))) ⟨h,g,d,t,os⟩) :
  codeAny (model prog w) A (.call (.builtin "getset_descriptor.__get__") ⟨[.builtin "object.__class__",.ref a,.type "function"],[]⟩) R ⟨h,g,d,t,os⟩:=by
 have hT:(⟨h,g,d,t,os⟩:Shared).TypeIs (.ref a) "function":=⟨_,hx,hc⟩
 have hT5:(⟨h,g,d,t,os⟩:Shared).TypeIs (.builtin "object.__class__") "getset_descriptor":=F.typeOf_object_class
 have f8:=IfF.aAl
 refine codeAny_call_builtin F.slot_gs_get.plain F.entry_gs_get (F.slot_gs_get.check _ _ _ _ _ _ _ _ hT5 (F.args_gs_get _ _ _) ?_)
 repeat (any_goals (first|assumption|wp_step))
 refine ⟨Code.quiet_builtin _ (by decide +kernel),codeAny_builtin F.entry_object_class ?_⟩
 repeat (any_goals (first|assumption|wp_step))
theorem aCb {tk:Tok} {Q:Fin→Shared→Prop} (hx:h.get? a=some o) (hc:o.cls=.type "function") (hq:Q (.done (.ret (.type "function"))) ⟨h,g,d,t,os⟩) :
  wpAny (model prog w) A (Builtin.«object.__getattribute__» ⟨[.ref a,.str "__class__" tk],[]⟩) Q E ⟨h,g,d,t,os⟩:=by
 have hT:(⟨h,g,d,t,os⟩:Shared).TypeIs (.ref a) "function":=⟨_,hx,hc⟩
 have hT5:(⟨h,g,d,t,os⟩:Shared).TypeIs (.builtin "object.__class__") "getset_descriptor":=F.typeOf_object_class
 have f4:=IfF.aRx
 have f5:=F.typeOf_object_class
 have f6:=F.slot_gs_get.lookup
 have f7:=F.slot_gs_set.lookup
 repeat (any_goals (first|assumption|wp_step))
 refine aFd hx hc ?_
 repeat (any_goals (first|assumption|wp_step))
theorem aI6 {tk:Tok} {Q:Value→Shared→Prop} (hx:h.get? a=some o) (hc:o.cls=.type "function") (hq:Q (.type "function") ⟨h,g,d,t,os⟩):wpAny (model prog w) A (getAttrBy (.ref a) (.str "__class__" tk) false) Q E ⟨h,g,d,t,os⟩:=by
 have hT:(⟨h,g,d,t,os⟩:Shared).TypeIs (.ref a) "function":=⟨_,hx,hc⟩
 have f2:=IfF.aBa.lookup
 have f3:=IfF.aBa.bind (.ref a)
 repeat (any_goals (first|assumption|wp_step))
 refine codeAny_call_builtin IfF.aBa.plain IfF.aQf (IfF.aBa.check _ _ _ _ _ _ _ _ hT (F.args_object_getattribute_2 _ _) (aCb hx hc ?_))
 repeat (any_goals (first|assumption|wp_step))
theorem aDz {Q:Option Value→Shared→Prop} (hx:h.get? a=some o) (hc:o.cls=.type "function") (hq:Q (some (.type "function")) ⟨h,g,d,t+1,os⟩):wpAny (model prog w) A (getAttr? (.ref a) "__class__") Q E ⟨h,g,d,t,os⟩:=by
 unfold getAttr? getAttrBy?
 repeat (any_goals (first|assumption|with_reducible apply aI6 hx hc|wp_step))
theorem aDe {T:String} {dep:Int} {tk:Tok} {Q:Fin→Shared→Prop} (hx:h.get? a=some o) (hc:o.cls=.type "function") (hne:(Value.type "function" == Value.type T)=false) (hty:typeOf (.type T)=pure (.type "type"))
  (hsub:isSubtype (.type "function") (.type T)=pure false) (hq:Q (.done (.ret (.bool false))) ⟨h,g,d,t+1,os⟩) :
  wpAny (model prog w) A (Builtin.«isinstance.nested» ⟨[.ref a,.type T,.int dep tk],[]⟩) Q E ⟨h,g,d,t,os⟩:=by
 have hT:(⟨h,g,d,t,os⟩:Shared).TypeIs (.ref a) "function":=⟨_,hx,hc⟩
 repeat (any_goals (first|assumption|with_reducible apply aDz hx hc|wp_step))
end
theorem rG {a:Addr} {T:String} (hne:(Value.type "function" == Value.type T)=false) (hty:typeOf (.type T)=pure (.type "type")) (hsub:isSubtype (.type "function") (.type T)=pure false) :
  Meets (Builtin.«isinstance» ⟨[.ref a,.type T],[]⟩) (fun _ R s=>(∃o,s.heap.get? a=some o∧o.cls=.type "function")∧R (.ok (.ret (.bool false))) { s with toks:=s.toks+1 }):=
 fun _ _ _ _ s hs=>by
  obtain ⟨h,g,d,t,os⟩:=s
  obtain ⟨⟨o,hx,hc⟩,hq⟩:=hs
  exact isinstance_outer (aDe hx hc hne hty hsub hq)
section
variable {prog:Program} {w:World} {A:Around} {E:Value→Shared→Prop} {s:Shared} {Q:Value→Shared→Prop} {a:Addr} {o:Obj}
theorem aKr (hx:s.heap.get? a=some o) (hc:o.cls=.type "function") (h:Q (.bool false) { s with toks:=s.toks+1 }):wpAny (model prog w) A (call (.builtin "isinstance") [.ref a,.type "int"]) Q E s:=
 call_isinstance (rG (by decide) F.isi_meta_int IfF.sub_int) ⟨⟨o,hx,hc⟩,h⟩
theorem aIk (hx:s.heap.get? a=some o) (hc:o.cls=.type "function") (h:Q (.bool false) { s with toks:=s.toks+1 }):wpAny (model prog w) A (call (.builtin "isinstance") [.ref a,.type "bool"]) Q E s:=
 call_isinstance (rG (by decide) F.isi_meta_bool IfF.sub_bool) ⟨⟨o,hx,hc⟩,h⟩
theorem aLj (hx:s.heap.get? a=some o) (hc:o.cls=.type "function") (h:Q (.bool false) { s with toks:=s.toks+1 }):wpAny (model prog w) A (call (.builtin "isinstance") [.ref a,.type "str"]) Q E s:=
 call_isinstance (rG (by decide) F.isi_meta_str IfF.aT2) ⟨⟨o,hx,hc⟩,h⟩
end
end PySem
namespace L2
open PySem PySem.Spec PyProof.Rows
section
variable {X:Cx}
theorem PE.imp {e:Expr} {t t':TE} (h:PE X e t) (k:∀σ H Q,t' σ H Q→t σ H Q):PE X e t':=fun pins s σ H Q I q=>h pins s σ H Q I (k σ H Q q)
def aZ3 (K:PySem.W.Frag):List V→Hp→VK→Prop:=fun xs H Q=>∃(p:Addr) (bs:List Bool),xs=[.ref p]∧SqL K H p (bs.map V.bl)∧Q (.bl (bs.all id)) H
theorem all_range (bs:List Bool):(List.range bs.length).all (fun i=>bs.getD i false)=bs.all id:=by
 rw [Bool.eq_iff_iff,List.all_eq_true,List.all_eq_true]
 constructor
 ·intro h b hb
  obtain ⟨i,hi,e⟩:=List.mem_iff_getElem.mp hb
  have:=h i (List.mem_range.mpr hi)
  rw [List.getD_eq_getElem?_getD,List.getElem?_eq_getElem hi] at this
  rw [←e]
  exact this
 ·intro h i hi
  have hi:=List.mem_range.mp hi
  rw [List.getD_eq_getElem?_getD,List.getElem?_eq_getElem hi]
  exact h _ (List.getElem_mem hi)
theorem uA (hc:X.calm=true):cW X (.builtin "all") (aZ3 X.K):=by
 intro pins s σ H xs us Q I r h
 obtain ⟨p,bs,rfl,hq,q⟩:=h
 obtain ⟨u,rfl,rx⟩:=r.one
 cases rx
 obtain ⟨its,rv,pl,hz⟩:=I.list hq
 have hl:=rv.length
 rw [List.length_map] at hl
 have hne:p≠s.heap.objs.size:=by
  obtain ⟨o,ho,_⟩:=pl.isList
  exact Nat.ne_of_lt (Heap.lt_size ho)
 refine call_all_walk (wpAny_pyIter_list pl.isList ?_)
 refine ⟨s.heap.objs.size,_,_,_,_,_,fun i=>bs.getD i false,rfl,Walks.list (show X.A.in1.handled=none from I.ok.hd hc) _ p hne its.toArray,⟨⟨_,Heap.get?_push_size _ rfl,rfl,rfl⟩,?_⟩,?_,fun h' tk kp=>?_⟩
 ·exact pl.isList.at fun o e=>Heap.get?_push_of_some _ e
 ·intro i v s' Q' E' hv hq'
  have hv':its[i]?=some v:=by simpa using hv
  have hi:i<bs.length:=by rw [hl];exact (List.getElem?_eq_some_iff.mp hv').1
  obtain ⟨u,hu,ru⟩:=rv.get (i:=i) (x:=.bl bs[i]) (by rw [List.getElem?_map,List.getElem?_eq_getElem hi];rfl)
  rw [hv'] at hu
  cases hu
  cases ru
  have e:bs.getD i false=bs[i]:=by rw [List.getD_eq_getElem?_getD,List.getElem?_eq_getElem hi];rfl
  replace hq':Q' (bs.getD i false) s':=hq'
  rw [e] at hq'
  exact wpAny_truthy_bool hq'
 ·have e:(List.range its.toArray.size).all (fun i=>bs.getD i false)=bs.all id:=by
   rw [List.size_toArray,←hl];exact all_range bs
  rw [e]
  refine ⟨.bl (bs.all id),H,?_,rfl,q⟩
  exact I.kept fun b o eo=>kp b o (by
   intro z
   have:b=s.heap.objs.size:=by simpa using z
   rw [this] at eo
   exact absurd (Heap.lt_size eo) (Nat.lt_irrefl _)) (Heap.get?_push_of_some _ eo)
inductive Rk (K:PySem.W.Frag) (H:Hp):V→String→Prop
 |non:Rk K H .non "NoneType"
 |lst {a xs}:SqL K H a xs→Rk K H (.ref a) "list"
 |tup {a xs}:SqT K H a xs→Rk K H (.ref a) "tuple"
 |dct {a kvs}:H a=some (.dK kvs)→Rk K H (.ref a) "dict"
 |fn {a o}:K.lookup a=some o→o.cls=.type "function"→Rk K H (.ref a) "function"
def aVo (K:PySem.W.Frag):List V→Hp→VK→Prop:=fun xs H Q=>∃x k T,xs=[x,.ty T]∧Rk K H x k∧(T = "int"∨T = "bool"∨T = "str")∧Q (.bl false) H
theorem uE:cW X (.builtin "isinstance") (aVo X.K):=by
 intro pins s σ H xs us Q I r h
 obtain ⟨x,k,T,rfl,hx,hT,q⟩:=h
 obtain ⟨u,v,rfl,rx,rT⟩:=r.two
 cases rT
 have f1:EP X pins σ Q (.bool false) { s with toks:=s.toks+1 }:=⟨.bl _,H,I.tok _,rfl,q⟩
 cases hx with
 |non=>
  cases rx
  rcases hT with rfl|rfl|rfl
  ·exact IsiPair.NoneType_int f1
  ·exact IsiPair.NoneType_bool f1
  ·exact IsiPair.NoneType_str f1
 |lst hq=>
  cases rx
  obtain ⟨its,rv,⟨o,n,e,c,_⟩,hz⟩:=I.list hq
  rcases hT with rfl|rfl|rfl
  ·exact IsiPair.list_int e c f1
  ·exact IsiPair.list_bool e c f1
  ·exact IsiPair.list_str e c f1
 |tup hq=>
  cases rx
  obtain ⟨its,rv,⟨o,e,c,_⟩,hz⟩:=I.tuple hq
  rcases hT with rfl|rfl|rfl
  ·exact IsiPair.tuple_int e c f1
  ·exact IsiPair.tuple_bool e c f1
  ·exact IsiPair.tuple_str e c f1
 |dct hq=>
  cases rx
  obtain ⟨_,_,_,_,o,_,_,e,ex,_⟩:=I.hok _ _ hq
  rcases hT with rfl|rfl|rfl
  ·exact IsiPair.dict_int e ex.1 f1
  ·exact IsiPair.dict_bool e ex.1 f1
  ·exact IsiPair.dict_str e ex.1 f1
 |fn hk hc=>
  cases rx
  have e:=I.kIn _ _ hk
  rcases hT with rfl|rfl|rfl
  ·exact aKr e hc f1
  ·exact aIk e hc f1
  ·exact aLj e hc f1
end
theorem dF {X:Cx} {scope:Scope} (h:∀z∈scope.names,z.2≠.free):∀y,(y,NameKind.free)∈scope.names→X.env.kindOf y=some .cell∨X.env.kindOf y=some .free:=fun y hy=>absurd rfl (h _ hy)
theorem cX {X:Cx} {scope:Scope} (sc:Scope) (e:X.env.scope=sc) (h:∀z∈scope.names,z.2=.free→sc.names.lookup z.1=some .cell∨sc.names.lookup z.1=some .free) :
  ∀y,(y,NameKind.free)∈scope.names→X.env.kindOf y=some .cell∨X.env.kindOf y=some .free:=fun y hy=>by
 show X.env.scope.names.lookup y=some .cell∨X.env.scope.names.lookup y=some .free
 rw [e]
 exact h _ hy rfl
theorem Same.aH {K:PySem.W.Frag} {H H':Hp} {a:Addr} {xs:List V} (e:Same H H') (h:SqT K H a xs):SqT K H' a xs:=by
 rcases h with (h|⟨o,h⟩)|h
 ·exact .inl (.inl (e _ _ h))
 ·exact .inl (.inr ⟨o,e _ _ h⟩)
 ·exact .inr h
theorem bR {H:Hp} {p:Addr} (h:H p=none) (o:HO):Same H (upd H p o):=fun b u q=>by rw [bH (bF q h)];exact q
theorem Rk.same {K:PySem.W.Frag} {H H':Hp} {v:V} {k:String} (e:Same H H') (h:Rk K H v k):Rk K H' v k:=by
 cases h with
 |non=>exact .non
 |lst q=>exact .lst (e.seq q)
 |tup q=>exact .tup (e.aH q)
 |dct q=>exact .dct (e _ _ q)
 |fn q c=>exact .fn q c
theorem nO {X:Cx} {scope:Scope} {x:Str} {σ:St}:Cap X scope [x] σ [none]:=⟨rfl,fun i y v _ h2=>by
 cases i with
 |zero=>cases h2
 |succ i=>cases h2⟩
section
theorem aPn {X:Cx} {scope:Scope} {N:List Str} {wi:TI} {te:TE} {σ:St} {H:Hp} {Q:VK} (xs:List V) (f:V→V) (σ0:St) (cap:Cap X scope N σ σ0) (hsz:xs.length≤sizeLine)
  (hw:∀R:It→Hp→Prop,(∀J:It,(∀H' i x,Same H H'→xs[i]?=some x→J.go i H'∧∀y H2,J.yld i H' y H2→H2=H'∧y=x)→(∀H',Same H H'→J.stop xs.length H')→R J H)→wi σ H R)
  (he:∀x∈xs,∀H' R l,Same H H'→R (f x) H'→te ((σ0.set 0 l).set 0 (some x)) H' R) (h0:σ0[0]?=some none)
  (q:∀D,H D=none→Q (.ref D) (upd H D (.lst (xs.map f)))) :
  iK X scope N wi (bK 0) pY te σ H Q:=by
 refine ⟨σ0,cap,hw _ fun J go stop D hD=>?_⟩
 have sm:∀ys:List V,Same H (upd H D (.lst ys)):=fun ys b o e=>by rw [bH (bF e hD)];exact e
 refine ⟨fun i m σ' H' ys=>i≤xs.length∧m=xs.length - i∧(∃l,σ'=σ0.set 0 l)∧H'=upd H D (.lst ys)∧ys=(xs.take i).map f,⟨xs.length,Nat.zero_le _,rfl,⟨none,?_⟩,rfl,rfl⟩,?_⟩
 ·refine (List.ext_getElem? fun j=>?_)
  rw [List.getElem?_set]
  split
  ·rename_i hj
   subst hj
   split
   ·exact h0
   ·rename_i hlt
    exact List.getElem?_eq_none_iff.mpr (by lia)
  ·rfl
 ·rintro i m σ' H' ys ⟨hi,rfl,⟨l,rfl⟩,rfl,rfl⟩
  refine ⟨aU,?_⟩
  by_cases hlt:i<xs.length
  ·right
   obtain ⟨g1,g2⟩:=go (upd H D (.lst ((xs.take i).map f))) i xs[i] (sm _) (List.getElem?_eq_getElem hlt)
   refine ⟨g1,fun x H2 hy=>?_⟩
   obtain ⟨rfl,rfl⟩:=g2 x H2 hy
   unfold bK pY
   dsimp only
   rw [if_pos rfl]
   refine he xs[i] (List.getElem_mem hlt) _ _ l (sm _) ⟨aU,?_,xs.length - (i+1),by lia,hlt,rfl,⟨some xs[i],?_⟩,?_,?_⟩
   ·rw [List.length_map,List.length_take];lia
   ·rw [List.set_set]
   ·rw [aUq]
   ·rw [List.take_add_one,List.getElem?_eq_getElem hlt,List.map_append]
    rfl
  ·left
   have e:i=xs.length:=by lia
   subst e
   refine ⟨stop _ (sm _),?_⟩
   rw [List.take_length]
   exact q D hD
theorem aV4 {z:Str} {tl:TE} {σ:St} {H:Hp} (h:∀R:VK,R (.str z) H→tl σ H R) (R:It→Hp→Prop)
  (q:∀J:It,(∀H' i x,Same H H'→((List.range z.cps.size).map fun i=>V.str (sgn z i))[i]?=some x→J.go i H'∧∀y H2,J.yld i H' y H2→H2=H'∧y=x) →
   (∀H',Same H H'→J.stop ((List.range z.cps.size).map fun i=>V.str (sgn z i)).length H')→R J H):aX0 tl σ H R:=by
 refine h _ ⟨z,rfl,q _ (fun H' i x _ e=>?_) fun H' _=>?_⟩
 ·rw [List.getElem?_map] at e
  have hi:i<z.cps.size:=by
   cases hr:(List.range z.cps.size)[i]? with
   |none=>rw [hr] at e;cases e
   |some j=>have:=(List.getElem?_eq_some_iff.mp hr).1;rwa [List.length_range] at this
  rw [List.getElem?_range hi] at e
  cases e
  exact ⟨hi,fun y H2 hy=>hy⟩
 ·rw [List.length_map,List.length_range]
  exact Nat.le_refl _
theorem aA3 {K:PySem.W.Frag} {a:Addr} {xs:List V} {tl:TE} {σ:St} {H:Hp} (hS:∀H',Same H H'→SqL K H' a xs) (h:∀R:VK,R (.ref a) H→tl σ H R) (R:It→Hp→Prop)
  (q:∀J:It,(∀H' i x,Same H H'→xs[i]?=some x→J.go i H'∧∀y H2,J.yld i H' y H2→H2=H'∧y=x)→(∀H',Same H H'→J.stop xs.length H')→R J H):tR K tl σ H R:=by
 refine h _ ⟨a,rfl,⟨xs,hS H (Same.refl H)⟩,q _ (fun H' i x s e=>⟨⟨xs,x,hS H' s,e⟩,fun y H2 hy=>?_⟩) fun H' s=>⟨xs,hS H' s,Nat.le_refl _⟩⟩
 obtain ⟨e1,e2⟩:=hy
 have e3:=e2 xs (hS H' s)
 rw [e] at e3
 cases e3
 exact ⟨e1,rfl⟩
end
section
variable {κ:Type} [DecidableEq κ]
def mC (kvs:List (κ × V)) (k:κ):Option V:=(kvs.find? fun kv=>decide (kv.1=k)).map (·.2)
def putK (kvs:List (κ × V)) (k:κ) (v:V):List (κ × V):=
 if (kvs.any fun kv=>decide (kv.1=k))=true then kvs.map (fun kv=>if kv.1=k then (kv.1,v) else kv) else kvs++[(k,v)]
theorem sV {p:κ × V} {r:List (κ × V)} {k:κ} (e:p.1=k):mC (p::r) k=some p.2:=by simp [mC,List.find?_cons,e]
theorem sZ {p:κ × V} {r:List (κ × V)} {k:κ} (e:¬ p.1=k):mC (p::r) k=mC r k:=by simp [mC,List.find?_cons,e]
theorem wK (k:κ):∀kvs:List (κ × V),(kvs.any fun kv=>decide (kv.1=k))=(mC kvs k).isSome
 |[]=>rfl
 |p::r=>by
  rw [List.any_cons]
  by_cases e:p.1=k
  ·simp only [sV e,decide_eq_true e,Bool.true_or,Option.isSome_some]
  ·rw [sZ e,decide_eq_false e,Bool.false_or];exact wK k r
theorem tH (kvs:List (κ × V)) (k:κ) (v:V):(putK kvs k v).length≤kvs.length+1:=by
 unfold putK
 split
 ·rw [List.length_map];lia
 ·rw [List.length_append,List.length_cons,List.length_nil];lia
theorem aHy {kvs:List (κ × V)} {k:κ} (v:V) (h:mC kvs k=none):putK kvs k v=kvs++[(k,v)]:=by
 unfold putK
 rw [wK,h]
 exact if_neg (by decide)
theorem aDh.zO {o:Option V} {u:Option Value} (r:aDh o u):o.isSome=u.isSome:=by
 cases o with
 |none=>cases u with
  |none=>rfl
  |some _=>exact (show False from r).elim
 |some _=>cases u with
  |none=>exact (show False from r).elim
  |some _=>rfl
theorem KV.val {kvs:List (κ × V)} {vs:List (κ × Value)} (r:KV kvs vs) (k:κ):aDh (mC kvs k) (valueAt vs k):=by
 unfold KV at r
 induction r with
 |nil=>exact True.intro
 |@cons p q ps qs h t ih=>
  obtain ⟨h1,h2⟩:=h
  by_cases e:p.1=k
  ·have e':q.1=k:=h1.symm.trans e
   have b:valueAt (q::qs) k=some q.2:=by simp [valueAt,List.find?_cons,e']
   rw [sV e,b];exact h2
  ·have e':¬ q.1=k:=fun z=>e (h1.trans z)
   have b:valueAt (q::qs) k=valueAt qs k:=by simp [valueAt,List.find?_cons,e']
   rw [sZ e,b];exact ih
theorem KV.any {kvs:List (κ × V)} {vs:List (κ × Value)} (r:KV kvs vs) (k:κ):(kvs.any fun kv=>decide (kv.1=k))=vs.any fun kv=>decide (kv.1=k):=by
 unfold KV at r
 induction r with
 |nil=>rfl
 |cons h t ih=>rw [List.any_cons,List.any_cons,ih,h.1]
theorem KV.repl {kvs:List (κ × V)} {vs:List (κ × Value)} (r:KV kvs vs) (k:κ) {y:V} {u:Value} (ry:RelV y u) :
  KV (kvs.map fun kv=>if kv.1=k then (kv.1,y) else kv) (vs.map fun kv=>if kv.1=k then (kv.1,u) else kv):=by
 unfold KV at r ⊢
 induction r with
 |nil=>exact .nil
 |@cons p q ps qs h t ih=>
  rw [List.map_cons,List.map_cons]
  refine .cons ?_ ih
  obtain ⟨h1,h2⟩:=h
  by_cases e:p.1=k
  ·rw [if_pos e,if_pos (h1.symm.trans e)];exact ⟨h1,ry⟩
  ·rw [if_neg e,if_neg (fun z=>e (h1.trans z))];exact ⟨h1,h2⟩
theorem KV.put {kvs:List (κ × V)} {vs:List (κ × Value)} (r:KV kvs vs) (k:κ) {y:V} {u:Value} (ry:RelV y u):KV (putK kvs k y) (stored vs k u):=by
 unfold putK stored
 rw [r.any k]
 by_cases e:(vs.any fun kv=>decide (kv.1=k))=true
 ·rw [if_pos e,if_pos e];exact r.repl k ry
 ·rw [if_neg e,if_neg e];exact Paired.snoc r ⟨rfl,ry⟩
theorem KV.keys {kvs:List (κ × V)} {vs:List (κ × Value)} (r:KV kvs vs):kvs.map (·.1)=vs.map (·.1):=by
 unfold KV at r
 induction r with
 |nil=>rfl
 |cons h t ih=>rw [List.map_cons,List.map_cons,ih,h.1]
theorem KV.length {kvs:List (κ × V)} {vs:List (κ × Value)} (r:KV kvs vs):kvs.length=vs.length:=Paired.length r
end
theorem aEx {P:Program} {w:World} {k:Key} {u:Value} (r:RelV (kV k) u):(cU P w).is k u=true:=by
 cases k with
 |inl i=>obtain ⟨t,e⟩:=(show ∃t,u=Value.int i t from r);subst e;exact aJg P w i t
 |inr x=>obtain ⟨t,e⟩:=(show ∃t,u=Value.str x t from r);subst e;exact aI7 P w x t
theorem aEu {P:Program} {w:World}:∀{ks:List Key} {us:List Value},Vals (ks.map kV) us→ItemsAre (cU P w) ks us
 |[],_,r=>by rw [List.map_nil] at r;cases r;exact .nil
 |k::ks,_,r=>by
  rw [List.map_cons] at r
  cases r with
  |cons h t=>exact .cons (aEx h) (aEu t)
abbrev KT (H:Hp):List (List Key × V)→List (List Key × Addr × Value)→Prop:=Paired fun p q=>p.1=q.1∧H q.2.1=some (.tup (p.1.map kV))∧RelV p.2 q.2.2
theorem KT.val {H:Hp} {kvs:List (List Key × V)} {xs:List (List Key × Addr × Value)} (r:KT H kvs xs) (k:List Key):aDh (mC kvs k) ((atKey xs k).map (·.2)):=by
 induction r with
 |nil=>exact True.intro
 |@cons p q ps qs h t ih=>
  obtain ⟨h1,_,h2⟩:=h
  by_cases e:p.1=k
  ·have e':q.1=k:=h1.symm.trans e
   have b:atKey (q::qs) k=some q.2:=by simp [atKey,List.find?_cons,e']
   rw [sV e,b];exact h2
  ·have e':¬ q.1=k:=fun z=>e (h1.trans z)
   have b:atKey (q::qs) k=atKey qs k:=by simp [atKey,List.find?_cons,e']
   rw [sZ e,b];exact ih
theorem KT.repl {H:Hp} {kvs:List (List Key × V)} {xs:List (List Key × Addr × Value)} (r:KT H kvs xs) (k:List Key) {y:V} {u:Value} (ry:RelV y u) :
  KT H (kvs.map fun kv=>if kv.1=k then (kv.1,y) else kv) (xs.map (putAt k u)):=by
 induction r with
 |nil=>exact .nil
 |@cons p q ps qs h t ih=>
  rw [List.map_cons,List.map_cons]
  refine .cons ?_ ih
  obtain ⟨h1,h2,h3⟩:=h
  unfold putAt
  by_cases e:p.1=k
  ·rw [if_pos e,if_pos (h1.symm.trans e)];exact ⟨h1,h2,ry⟩
  ·rw [if_neg e,if_neg (fun z=>e (h1.trans z))];exact ⟨h1,h2,h3⟩
theorem KT.put {H:Hp} {kvs:List (List Key × V)} {xs:List (List Key × Addr × Value)} (r:KT H kvs xs) (k:List Key) {b:Addr} {y:V} {u:Value} (hb:H b=some (.tup (k.map kV))) (ry:RelV y u) :
  KT H (putK kvs k y) (storedH xs k b u):=by
 have e:(kvs.any fun kv=>decide (kv.1=k))=(atKey xs k).isSome:=by
  rw [wK,(r.val k).zO,Option.isSome_map]
 unfold putK storedH
 rw [e]
 by_cases q:(atKey xs k).isSome=true
 ·rw [if_pos q,if_pos q];exact r.repl k ry
 ·rw [if_neg q,if_neg q];exact Paired.snoc r ⟨rfl,hb,ry⟩
theorem KT.keeps {H H':Hp} {kvs:List (List Key × V)} {xs:List (List Key × Addr × Value)} (r:KT H kvs xs) (ht:∀b ys,H b=some (.tup ys)→H' b=some (.tup ys)):KT H' kvs xs:=
 Paired.aX9 r fun _ _ z=>⟨z.1,ht _ _ z.2.1,z.2.2⟩
section
variable {P:Program} {w:World} {H:Hp} {h:Heap} {a:Addr}
theorem aVt {u:HO} (ok:HOk P w H h) (e:Rd H a u):iM P w H h a u:=e.ok ok
theorem aD3 {kvs:List (Key × V)} (ok:HOk P w H h) (e:Rd H a (.dK kvs)):kvs.length≤sizeLine∧(a == sysModules)=false∧∃vs,KV kvs vs∧h.DictOf (cU P w) a vs:=
 show iM P w H h a (.dK kvs) from aVt ok e
theorem aIm {kvs:List (Key × V)} (ok:HOk P w H h) (e:H a=some (.dK kvs)):kvs.length≤sizeLine∧(a == sysModules)=false∧∃vs,KV kvs vs∧h.DictOf (cU P w) a vs:=aD3 ok (.inl e)
theorem aFm {ks:List Key} (ok:HOk P w H h) (e:H a=some (.tup (ks.map kV))):(tupleKind (cU P w)).is h ks a:=by
 obtain ⟨_,its,r,⟨o,h1,h2,n,h3⟩,_⟩:=(show iM P w H h a (.tup (ks.map kV)) from ok a _ e)
 exact ⟨o,its.toArray,n,h1,h2,h3,by simpa using aEu r⟩
theorem aM1 {kvs:List (List Key × V)} (ok:HOk P w H h) (e:Rd H a (.dT kvs)):kvs.length≤sizeLine∧(a == sysModules)=false ∧
  ∃xs,KT H kvs xs∧h.DictOfH (tupleKind (cU P w)) a xs:=by
 obtain ⟨z,y,xs,r,o,es,ep,h1,h2,h3,h4,h5⟩:=(show iM P w H h a (.dT kvs) from aVt ok e)
 refine ⟨z,y,xs,r,o,es,ep,h1,h2,h3,h4,fun x hx=>?_,h5⟩
 have all:∀{l:List (List Key × V)} {m:List (List Key × Addr × Value)},KT H l m→∀x∈m,(tupleKind (cU P w)).is h x.1 x.2.1:=by
  intro l m q
  induction q with
  |nil=>intro x hx;exact nomatch hx
  |@cons p q ps qs hq t ih=>
   intro x hx
   rcases List.mem_cons.mp hx with e|hx
   ·subst e
    exact aFm ok (by rw [←hq.1];exact hq.2.1)
   ·exact ih x hx
 exact all r x hx
theorem aY6 {kvs:List (List Key × V)} (ok:HOk P w H h) (e:H a=some (.dT kvs)):kvs.length≤sizeLine∧(a == sysModules)=false ∧
  ∃xs,KT H kvs xs∧h.DictOfH (tupleKind (cU P w)) a xs:=aM1 ok (.inl e)
end
def vA (H:Hp) (a:Addr) (y:V) (r:Option V):Prop:=
 (∃kvs k,Rd H a (.dK kvs)∧y=kV k∧r=mC kvs k)∨∃kvs k b,Rd H a (.dT kvs)∧y=.ref b∧H b=some (.tup (k.map kV))∧r=mC kvs k
def aSk (H:Hp) (a:Addr) (y v:V) (H':Hp):Prop:=
 (∃kvs k,H a=some (.dK kvs)∧y=kV k∧kvs.length<sizeLine∧H'=upd H a (.dK (putK kvs k v))) ∨
 ∃kvs k b,H a=some (.dT kvs)∧y=.ref b∧H b=some (.tup (k.map kV))∧kvs.length<sizeLine∧H'=upd H a (.dT (putK kvs k v))
theorem vA.k {H:Hp} {a:Addr} {kvs:List (Key × V)} {k:Key} (e:H a=some (.dK kvs)):vA H a (kV k) (mC kvs k):=.inl ⟨kvs,k,.inl e,rfl,rfl⟩
theorem aSk.k {H:Hp} {a:Addr} {kvs:List (Key × V)} {k:Key} {v:V} (e:H a=some (.dK kvs)) (hl:kvs.length<sizeLine):aSk H a (kV k) v (upd H a (.dK (putK kvs k v))):=.inl ⟨kvs,k,e,rfl,hl,rfl⟩
section
variable {X:Cx} {pins:List (Addr × Obj)} {σ:St} {H:Hp} {s:Shared} {a:Addr} {y v:V} {u r:Value} {o:Option V} {A:Around} {E:Value→Shared→Prop}
theorem Inv.big (I:Inv X pins σ H s):sysModules<s.heap.objs.size:=by
 have h:mainGlobals<s.heap.objs.size:=(I.mod.glob.keeps I.bk).lt
 exact Nat.lt_trans (by decide) h
theorem aOa {Q:Value→Shared→Prop} (hu:A.units+1<cLine) (I:Inv X pins σ H s) (g:vA H a y (some v)) (ry:RelV y u) (h:∀w' s',Inv X pins σ H s'→RelV v w'→Q w' s') :
  wpAny (model X.prog X.w) A (getItem (.ref a) u) Q E s:=by
 rcases g with ⟨kvs,k,e,ey,l⟩|⟨kvs,k,b,e,ey,eb,l⟩
 ·subst ey
  obtain ⟨z,hd,vs,rel,dd⟩:=aD3 I.hok e
  obtain ⟨w',hw,rw'⟩:=aDh.some_of (v:=v) (o:=valueAt vs k) (by rw [l];exact rel.val k)
  exact wpAny_getItem_of (aEx ry) dd.mapOf hw (h w' _ (I.tok _) rw')
 ·subst ey
  cases (show u=Value.ref b from ry)
  obtain ⟨z,hd,xs,rel,dd⟩:=aM1 I.hok e
  obtain ⟨w',hw,rw'⟩:=aDh.some_of (v:=v) (o:=(atKey xs k).map (·.2)) (by rw [l];exact rel.val k)
  obtain ⟨p,hp,hp2⟩:=Option.map_eq_some_iff.mp hw
  refine wpAny_getItem_heap (tupleKind_room_in1 hu) (aFm I.hok eb) dd hp ?_
  rw [hp2]
  exact h w' _ (I.tok _) rw'
theorem aTp {Q:Value→Shared→Prop} (hu:A.units+1<cLine) (I:Inv X pins σ H s) (g:vA H a y o) (ry:RelV y u) (h:∀s',Inv X pins σ H s'→Q (.bool (!o.isSome)) s') :
  wpAny (model X.prog X.w) A (compareOp .NotIn u (.ref a)) Q E s:=by
 rcases g with ⟨kvs,k,e,ey,l⟩|⟨kvs,k,b,e,ey,eb,l⟩
 ·subst ey
  obtain ⟨z,hd,vs,rel,dd⟩:=aD3 I.hok e
  refine wpAny_notIn_of (aEx ry) hd dd.mapOf ?_
  rw [←(rel.val k).zO,←l]
  exact h _ (I.tok _)
 ·subst ey
  cases (show u=Value.ref b from ry)
  obtain ⟨z,hd,xs,rel,dd⟩:=aM1 I.hok e
  refine wpAny_notIn_heap (tupleKind_room_in1 hu) (aFm I.hok eb) hd dd ?_
  have q:=(rel.val k).zO
  rw [Option.isSome_map] at q
  rw [←q,←l]
  exact h _ (I.tok _)
theorem aM5 {h':Heap} {t':Nat} {ob:HO} (I:Inv X pins σ H s) (mu:Mut (H a)) (hs:Heap.SameBut a s.heap h') (he:∃q,h'.get? a=some q) (new:iM X.prog X.w (upd H a ob) h' a ob) :
  Inv X pins σ (upd H a ob) { s with heap:=h',toks:=t' }:=
 I.write (x:=a) (e:=a) mu (.inl rfl) (fun b q hb z=>(hs.2 b hb).trans z) he new
theorem aV8 {P:Program} {w:World} {H':Hp} {h':Heap} {kvs:List (Key × V)} {vs:List (Key × Value)} (z:kvs.length≤sizeLine) (hd:(a == sysModules)=false) (rel:KV kvs vs) (dd:h'.DictOf (cU P w) a vs) :
  iM P w H' h' a (.dK kvs):=⟨z,hd,vs,rel,dd⟩
theorem aPz {H':Hp} {Q:Unit→Shared→Prop} (hu:A.units+1<cLine) (I:Inv X pins σ H s) (g:aSk H a y v H') (ry:RelV y u) (rv:RelV v r) (h:∀s',Inv X pins σ H' s'→Q () s') :
  wpAny (model X.prog X.w) A (setItem (.ref a) u r) Q E s:=by
 rcases g with ⟨kvs,k,e,ey,l,eH⟩|⟨kvs,k,b,e,ey,eb,l,eH⟩
 ·subst ey eH
  obtain ⟨z,hd,vs,rel,dd⟩:=aIm I.hok e
  have hz:vs.length≤sizeLine:=by rw [←rel.length];exact z
  have hl:(putK kvs k v).length≤sizeLine:=by have:=tH kvs k v;lia
  refine wpAny_setItem_pairs (hsz:=hz) (aEx ry) dd fun h' dd' hs=>h _ ?_
  have he:∃q,h'.get? a=some q:=let ⟨q,_,_,hq,_⟩:=dd';⟨q,hq⟩
  exact aM5 I (by rw [e];exact True.intro) hs he (aV8 hl hd (rel.put k rv) dd')
 ·subst ey eH
  cases (show u=Value.ref b from ry)
  obtain ⟨z,hd,xs,rel,dd⟩:=aY6 I.hok e
  have hz:xs.length≤sizeLine:=by rw [←Paired.length rel];exact z
  have hl:(putK kvs k v).length≤sizeLine:=by have:=tH kvs k v;lia
  refine wpAny_setItem_heap (hsz:=hz) (tupleKind_room_in1 hu) (aFm I.hok eb) dd fun h' dd' hs=>h _ ?_
  obtain ⟨q,es,ep,hq,h2,h3,h4,_,h5⟩:=dd'
  refine aM5 I (by rw [e];exact True.intro) hs ⟨q,hq⟩ ⟨hl,hd,_,(rel.put k eb rv).keeps fun c ys ec=>?_,q,es,ep,hq,h2,h3,h4,h5⟩
  rw [bH (xF ec e (fun z=>nomatch z))]
  exact ec
end
section
variable {X:Cx} {pins:List (Addr × Obj)} {σ:St} {H:Hp} {s:Shared} {a:Addr} {kvs:List (Key × V)} {k:Key} {u:Value} {A:Around} {E:Value→Shared→Prop}
theorem aYs {Q:Value→Shared→Prop} (I:Inv X pins σ H s) (e:Rd H a (.dK kvs)) (h:∀t s',Inv X pins σ H s'→Q (.int kvs.length t) s'):wpAny (model X.prog X.w) A (call (.builtin "len") [.ref a]) Q E s:=by
 obtain ⟨z,hd,vs,rel,dd⟩:=aD3 I.hok e
 refine call_len_dict hd dd (by rw [←rel.length];rw [sizeLine_eq] at z;lia) ?_
 rw [←rel.length]
 exact h _ _ (I.tok _)
end
def aWa (i:Expr):Prop:=∀ov iv,subscripted i false ov iv=operate [ov,iv] (getItem ov iv)
theorem aUz {prog:Program} {w:World} {A:Around} {E:Value→Shared→Prop} {s:Shared} {env:Env} {value slice:Expr} {pos:Pos} {T id:String} {Q:Value→Shared→Prop}
  (hl:typeLookup (.type T) "__getitem__"=pure (some (.builtin id))) (hs:aWa slice)
  (h:wpAny (model prog w) A (eval value env) (fun o s₁=>wpAny (model prog w) A (eval slice env) (fun i s₂=>s₂.TypeIs o T∧wpAny (model prog w) A (getItem o i) Q E s₂) E s₁) E s) :
  wpAny (model prog w) A (eval (.Subscript value slice pos) env) Q E s:=by
 refine Subscript_ (wpAny_mono h (fun o s₁ h₁=>wpAny_mono h₁ (fun i s₂ h₂=>?_) fun _ _ x=>x) fun _ _ x=>x)
 obtain ⟨hT,h₂⟩:=h₂
 unfold subscriptTail
 refine wpAny_bind ?_
 rw [getitemInPython_of_ne hT.not_modules]
 refine wpAny_bind (wpAny_specialOf hT hl ?_)
 have fin:wpAny (model prog w) A (subscripted slice false o i) (fun r s₃=>wpAny (model prog w) A (letTemporaryGo value o r >>= fun _=>pure r) Q E s₃) E s₂:=by
  rw [hs o i]
  exact wpAny_operating (wpAny_mono h₂ (fun r s₃ h₃=>wpAny_bind (wpAny_letTemporaryGo (wpAny_pure h₃))) fun _ _ x=>x)
 first
  |exact wpAny_pure (wpAny_bind fin)
  |exact wpAny_bind (wpAny_pure (wpAny_bind fin))
  |exact wpAny_bind fin
theorem aH1 {X:Cx} {pins:List (Addr × Obj)} {σ:St} {H:Hp} {s:Shared} {a:Addr} {y:V} {o:Option V} (I:Inv X pins σ H s) (g:vA H a y o):s.TypeIs (.ref a) "dict":=by
 rcases g with ⟨kvs,k,e,_,_⟩|⟨kvs,k,b,e,_,_,_⟩
 ·obtain ⟨_,_,vs,_,dd⟩:=aD3 I.hok e
  exact dd.typeIs
 ·obtain ⟨_,_,xs,_,dd⟩:=aM1 I.hok e
  exact dd.typeIs
def aVs (td ty:TE):TE:=fun σ H Q=>td σ H fun x H1=>ty σ H1 fun y H2=>∃a v,x=.ref a∧vA H2 a y (some v)∧Q v H2
def aMu (ty td:TE):TE:=fun σ H Q=>ty σ H fun y H1=>td σ H1 fun x H2=>∃a o,x=.ref a∧vA H2 a y o∧Q (.bl (!o.isSome)) H2
def aV0 (td ty tv:TE):TS:=fun D σ H=>tv σ H fun v H1=>td σ H1 fun x H2=>ty σ H2 fun y H3=>∃a H4,x=.ref a∧aSk H3 a y v H4∧D.nx σ H4
section
variable {X:Cx} {o i e value:Expr} {pos pos' tpos:Pos} {td ty tv:TE}
theorem aTs (hu:X.A.units+1<cLine) (ho:PE X o td) (hi:PE X i ty) (hs:aWa i):PE X (.Subscript o i pos) (aVs td ty):=by
 intro pins s σ H Q I h
 refine aUz PySem.F.slot_dict_getitem.lookup hs (thn (ho pins s σ H _ I h) fun u s1 ⟨x,H1,I1,rx,q1⟩=>thn (hi pins s1 σ H1 _ I1 q1) fun iv s2 ⟨y,H2,I2,ry,a,v,ex,g,q2⟩=>?_)
 subst ex
 obtain rfl:u=Value.ref a:=rx
 exact ⟨aH1 I2 g,aOa hu I2 g ry fun w' s3 I3 rw'=>⟨v,H2,I3,rw',q2⟩⟩
theorem aPi (hu:X.A.units+1<cLine) (hi:PE X i ty) (ho:PE X o td):PC X .NotIn i o (aMu ty td):=by
 intro pins s σ H Q I h
 refine thn (hi pins s σ H _ I h) fun iv s1 ⟨y,H1,I1,ry,q1⟩=>thn (ho pins s1 σ H1 _ I1 q1) fun u s2 ⟨x,H2,I2,rx,a,ov,ex,g,q2⟩=>?_
 subst ex
 obtain rfl:u=Value.ref a:=rx
 exact aTp hu I2 g ry fun s3 I3=>⟨.bl (!ov.isSome),H2,I3,rfl,q2⟩
theorem aUd (hu:X.A.units+1<cLine) (ho:PE X o td) (hi:PE X i ty) (hv:PE X value tv) (hs:swapsWith value (some (.Subscript o i pos')) pos.line X.env=pure false) :
  PS X (.Assign [.Subscript o i pos'] value pos) (aV0 td ty tv):=by
 intro pins s σ H D I h
 refine wpAny_Assign_Subscript (thn (hv pins s σ H _ I h) fun r s1 ⟨v,H1,I1,rv,q1⟩=>thn (ho pins s1 σ H1 _ I1 q1) fun u s2 ⟨x,H2,I2,rx,q2⟩=>thn (hi pins s2 σ H2 _ I2 q2) fun iv s3 ⟨y,H3,I3,ry,a,H4,ex,g,q3⟩=>?_) hs
 subst ex
 obtain rfl:u=Value.ref a:=rx
 exact aPz hu I3 g ry rv fun s4 I4=>⟨σ,H4,I4,q3⟩
end
theorem aRf {P:Program} {w:World} {H:Hp} (h:Heap) (hb:sysModules<h.objs.size):iM P w H (h.push { cls:=.type "dict",data:=.dict #[] }) h.objs.size (.dK []):=
 ⟨Nat.zero_le _,beq_eq_false_iff_ne.mpr (Ne.symm (Nat.ne_of_lt hb)),[],.nil,Heap.DictOf.new h⟩
def aSt:TE:=fun _ H Q=>∀p,H p=none→Q (.ref p) (upd H p (.dK []))
section
variable {X:Cx} {pos:Pos}
theorem aP9:PE X (.Dict [] [] pos) aSt:=fun pins s σ H Q I h=>
 wpAny_Dict_empty ⟨.ref s.heap.objs.size,_,I.laid (a:=s.heap.objs.size) (o:=.dK []) (t':=s.toks) (fun _ _ q=>Heap.get?_push_of_some _ q) (Nat.le_refl _) (aRf s.heap I.big),rfl,h _ (I.hok.fresh (Nat.le_refl _))⟩
end
def nY (kvs more:List (Key × V)):List (Key × V):=more.foldl (fun acc kv=>putK acc kv.1 kv.2) kvs
theorem KV.merge:∀{more:List (Key × V)} {rs:List (Key × Value)} {kvs:List (Key × V)} {vs:List (Key × Value)},KV more rs→KV kvs vs→KV (nY kvs more) (merged vs rs):=by
 intro more rs kvs vs r
 unfold KV at r
 induction r generalizing kvs vs with
 |nil=>intro q;exact q
 |@cons p q ps qs h t ih=>
  intro r0
  have e:KV (putK kvs p.1 p.2) (stored vs q.1 q.2):=by
   have:=r0.put p.1 h.2
   rw [←h.1];exact this
  exact ih e
theorem pW:∀(more kvs:List (Key × V)),(nY kvs more).length≤kvs.length+more.length
 |[],kvs=>by show kvs.length≤kvs.length+0;lia
 |p::r,kvs=>by
  have h1:=pW r (putK kvs p.1 p.2)
  have h2:=tH kvs p.1 p.2
  show (nY (putK kvs p.1 p.2) r).length≤_
  rw [List.length_cons];lia
section
variable {X:Cx} {pins:List (Addr × Obj)} {σ:St} {H:Hp} {s:Shared} {a:Addr} {y d:V} {u r:Value} {o:Option V} {A:Around} {E:Value→Shared→Prop}
end
section
variable {X:Cx} {o e f:Expr} {apos cpos:Pos} {td ty tx:TE}
end
section
variable {X:Cx} {pins:List (Addr × Obj)} {σ:St} {H:Hp} {s:Shared} {a:Addr} {kvs:List (Key × V)} {A:Around} {E:Value→Shared→Prop}
end
section
variable {X:Cx} {pins:List (Addr × Obj)} {σ:St} {H:Hp} {s:Shared} {a:Addr} {y:V} {u:Value} {A:Around} {E:Value→Shared→Prop}
end
section
variable {X:Cx}
theorem aOz:cW X (.builtin "len") (fun xs H Q=>∃a kvs,xs=[V.ref a]∧H a=some (.dK kvs)∧Q (.int kvs.length) H):=by
 intro pins s σ H xs us Q I r h
 obtain ⟨a,kvs,rfl,ha,q⟩:=h
 obtain ⟨u,rfl,ru⟩:=vals1 r
 cases ru
 exact aYs I (.inl ha) fun t s' I'=>⟨.int kvs.length,H,I',⟨t,rfl⟩,q⟩
end
section
variable {κ:Type} [DecidableEq κ]
theorem aNy {kvs:List (κ × V)} {k:κ} {v:V} (h:mC kvs k=some v):k∈kvs.map (·.1):=by
 have q:(kvs.any fun kv=>decide (kv.1=k))=true:=by
  rw [wK,h]
  all_goals rfl
 obtain ⟨p,hp,e⟩:=List.any_eq_true.mp q
 exact List.mem_map.mpr ⟨p,hp,of_decide_eq_true e⟩
end
structure VE (X:Cx) (e:Expr) (t:TE):Prop where
 out:PE X e t
structure VT (X:Cx) (e:Expr) (t:TT):Prop where
 out:PT X e t
structure VW (X:Cx) (e:Expr) (t:TT):Prop where
 out:PW X e t
structure VA (X:Cx) (es:List Expr) (t:TA):Prop where
 out:PA X es t
structure VS (X:Cx) (st:Stmt) (t:TS):Prop where
 out:PS X st t
structure VSs (X:Cx) (st:List Stmt) (t:TS):Prop where
 out:PSs X st t
structure VI (X:Cx) (tg iter:Expr) (t:TI):Prop where
 out:PI X tg iter t
structure VG (X:Cx) (tg:Expr) (t:TG):Prop where
 out:PG X tg t
structure VGs (X:Cx) (tg:List Expr) (t:TGs):Prop where
 out:PGs X tg t
structure VO (X:Cx) (e:Option Expr) (t:TO):Prop where
 out:PO X e t
structure VF (X:Cx) (ifs:List Expr) (t:TT):Prop where
 out:aQ4 X ifs t
section
variable {X:Cx} {a b c e:Expr} {es:List Expr} {ta tb tc te:TE} {t:TA} {tA tB':TT} {pos p:Pos} {x:Str}
theorem vv (i:Nat) {x:Str} {pos:Pos} (hN:X.N[i]?=some x:=by rfl) (hv:Vis X.env.scope x:=by trivial) (hd:(x == ("__debug__":Str))=false:=by decide)
  (hcd:(x == ("__classdict__":Str))=false:=by decide):VE X (.Name x pos) (wA i):=⟨pv i hN hv hd hcd⟩
theorem gQ {v:V} (hg:Gl X x) (hm:∃u,X.mg x=some u∧RelV v u) (hd:(x == ("__debug__":Str))=false:=by decide):VE X (.Name x pos) (tC v):=⟨aYo hg hm hd⟩
theorem jX {v:V} {u:Value} (hg:Gl X x) (hm:X.mg x=none) (hv:bootBuiltins x=some u) (r:RelV v u) (hn:x≠"__name__":=by decide) (hd:(x == ("__debug__":Str))=false:=by decide):VE X (.Name x pos) (tC v):=⟨aUw hg hm hv r hn hd⟩
theorem aD {i j}:VE X (.Constant (.int i) j pos) (tC (.int i)):=⟨aV9⟩
theorem tQ {b j}:VE X (.Constant (.bool b) j pos) (tC (.bl b)):=⟨aYg⟩
theorem zB {j}:VE X (.Constant .none j pos) (tC .non):=⟨aXg⟩
theorem aQ {x j}:VE X (.Constant (.str x) j pos) (tC (.str x)):=⟨aWh⟩
theorem bU {op:Operator} {r:R2} (ho:OpR X (binaryOp op) r) (ha:VE X a ta) (hb:VE X b tb):VE X (.BinOp a op b pos) (tOp r ta tb):=⟨aYj ho ha.1 hb.1⟩
theorem fH {op:CmpOp} {r:R2} (ho:OpR X (compareOp op) r) (ha:VE X a ta) (hb:VE X b tb) (hm:behindInMarks op b=false):VE X (.Compare a [op] [b] pos) (tOp r ta tb):=⟨aUx ho ha.1 hb.1 hm⟩
theorem aP {op:CmpOp} {r:R2} (ho:OpR X (compareOp op) r) (ha:VE X a ta) (hb:VE X b tb) (hm:behindInMarks op b=false):VT X (.Compare a [op] [b] pos) (aIs (tOp r ta tb)):=⟨aTo ho ha.1 hb.1 hm⟩
theorem aS5 {op op':CmpOp} {r r':R2} (ho:OpR X (compareOp op) r) (ho':OpR X (compareOp op') r') (ha:VE X a ta) (hb:VE X b tb) (hc:VE X c tc)
  (hm:lastMarks [op,op'] [b,c]=false:=by with_unfolding_all rfl):VE X (.Compare a [op,op'] [b,c] pos) (aHe r r' ta tb tc):=⟨aQz ho ho' ha.1 hb.1 hc.1 hm⟩
theorem aIz {op op':CmpOp} {r r':R2} (ho:OpR X (compareOp op) r) (ho':OpR X (compareOp op') r') (ha:VE X a ta) (hb:VE X b tb) (hc:VE X c tc)
  (hm:lastMarks [op,op'] [b,c]=false:=by with_unfolding_all rfl):VT X (.Compare a [op,op'] [b,c] pos) (aIs (aHe r r' ta tb tc)):=⟨aSy ho ho' ha.1 hb.1 hc.1 hm⟩
theorem rA {op} (h:VE X a te):VE X (.BoolOp op [a] pos) te:=⟨aXy h.1⟩
theorem pR {rest:List Expr} (ha:VE X a ta) (hb:VE X (.BoolOp .And (b::rest) pos) tb):VE X (.BoolOp .And (a::b::rest) pos) (aU9 ta tb):=⟨aWj ha.1 hb.1⟩
theorem aYw {rest:List Expr} (ha:VE X a ta) (hb:VE X (.BoolOp .Or (b::rest) pos) tb):VE X (.BoolOp .Or (a::b::rest) pos) (aZg ta tb):=⟨aY3 ha.1 hb.1⟩
theorem aXw (ha:VE X a ta):VE X (.UnaryOp .Not a pos) (aU7 ta):=⟨aWw ha.1⟩
theorem gZ (hc:VT X c tA) (ha:VE X a ta) (hb:VE X b tb):VE X (.IfExp c a b pos) (tIf tA ta tb):=⟨aSx hc.1 ha.1 hb.1⟩
theorem aA:VA X [] aKk:=⟨aXe⟩
theorem aB (ha:VE X e te) (hr:VA X es t) (hp:jD e=true:=by rfl):VA X (e::es) (fP te t):=⟨aZz ha.1 hr.1 hp⟩
theorem aJ {k:Nat} {ps:List Str} {sp:Sp} (G:Ok X.prog X.w X.K X.mg X.base k x ps sp) (hr:Room k X.A) (hg:Gl X x) (ha:VA X (e::es) t) (hdb:(x == ("__debug__":Str))=false:=by decide)
  (hp:jD e=true:=by rfl) (hpl:(backTo pos (starEach es X.env)).any (·.1)=false:=by rfl) :
  VE X (.Call (.Name x p) (e::es) [] pos) (rY sp [] E0 t):=⟨aZn G hr hg ha.1 hdb (cC hp) hpl⟩
theorem aW3 {k:Nat} {ps:List Str} {sp:Sp} (G:Ok X.prog X.w X.K X.mg X.base k x ps sp) (hr:Room k X.A) (hg:Gl X x) (hdb:(x == ("__debug__":Str))=false:=by decide) :
  VE X (.Call (.Name x p) [] [] pos) (rY sp [] E0 aKk):=⟨aXm G hr hg hdb⟩
theorem aY {id:String} {r:List V→Hp→VK→Prop} (hc:cW X (.builtin id) r) (hg:Gl X x) (hm:X.mg x=none) (hv:bootBuiltins x=some (.builtin id)) (ha:VA X (e::es) t) (hn:x≠"__name__":=by decide) (hdb:(x == ("__debug__":Str))=false:=by decide)
  (hp:jD e=true:=by rfl) (hpl:(backTo pos (starEach es X.env)).any (·.1)=false:=by rfl):VE X (.Call (.Name x p) (e::es) [] pos) (tCB r t):=⟨aRn hc hg hm hv ha.1 hn hdb (cC hp) hpl⟩
theorem bD {T:String} {r:List V→Hp→VK→Prop} (hc:cW X (.type T) r) (hg:Gl X x) (hm:X.mg x=none) (hv:bootBuiltins x=some (.type T)) (ha:VA X (e::es) t) (hn:x≠"__name__":=by decide) (hdb:(x == ("__debug__":Str))=false:=by decide)
  (hp:jD e=true:=by rfl) (hpl:(backTo pos (starEach es X.env)).any (·.1)=false:=by rfl):VE X (.Call (.Name x p) (e::es) [] pos) (tCB r t):=⟨aOn hc hg hm hv ha.1 hn hdb (cC hp) hpl⟩
theorem uX {o:Expr} {to:TE} {name:Str} {apos cpos:Pos} {T id:String} {r:V→List V→Hp→VK→Prop} (pa:PlainAttrs T) (slot:Slot T name id) (hty:typeOf (.builtin id)=pure (.type "method_descriptor")) (hm:MtR X id r) (ho:VE X o to) (ha:VA X (e::es) t)
  (hbase:attributeBase o name X.env (eval o X.env)=eval o X.env:=by rfl)
  (hfew:((backTo cpos (starEach (e::es) X.env)).all (fun x=>!x.1) && (backToKw cpos (keywordEach [] X.env)).all (fun x=>x.1.isSome)
   && decide ((e::es).length+([]:List Keyword).length+(if ([]:List Keyword).isEmpty then 0 else 1)<30))=true:=by rfl)
  (hline:(apos.endLine == cpos.line)=true:=by rfl) (hp:jD e=true:=by rfl) (hplain:(backTo cpos (starEach es X.env)).any (·.1)=false:=by rfl) :
  VE X (.Call (.Attribute o name apos) (e::es) [] cpos) (tBM X.K T r to t):=⟨aYy pa slot hty hm ho.1 ha.1 hbase hfew hline (cC hp) hplain⟩
theorem pG (ha:VE X a ta) (hb:VE X b tb) (hs:aH8 b) :
  VE X (.Subscript a b pos) (tOp (fun x y H Q=>∃z i c,x=.str z∧y=.int i∧0≤i∧i<2 ^ 63∧i<z.length∧z.cps[i.toNat]?=some c∧Q (.str ⟨#[c]⟩) H) ta tb):=⟨aKc ha.1 hb.1 hs⟩
theorem fZ:VO X none aNu:=⟨aUv⟩
theorem dJ (h:VE X e te):VO X (some e) (aVn te):=⟨aU4 h.1⟩
theorem dD {r:V→Option Int→Option Int→Hp→VK→Prop} {lo hi:Option Expr} {tl th:TO} {p2:Pos} (hr:SlR X r) (he:VE X e te) (hl:VO X lo tl) (hu:VO X hi th):VE X (.Subscript e (.Slice lo hi none p2) pos) (tSl r te tl th):=⟨aSf hr he.1 hl.1 hu.1⟩
theorem aK {r:R2} (hr:IxR X r) (ha:VE X a ta) (hb:VE X b tb) (hs:aMq b):VE X (.Subscript a b pos) (tOp r ta tb):=⟨aZe hr ha.1 hb.1 hs⟩
theorem aP8:VE X (.Dict [] [] pos) aSt:=⟨aP9⟩
theorem VE.imp {t t':TE} (h:VE X e t) (k:∀σ H Q,t' σ H Q→t σ H Q):VE X e t':=⟨PE.imp h.1 k⟩
theorem aAx (ha:VT X a tA):VW X (.BoolOp .And [a] pos) tA:=⟨aTv ha.1⟩
theorem oJ (ha:VT X a tA):VW X (.BoolOp .Or [a] pos) tA:=⟨aXi ha.1⟩
theorem aCi {rest:List Expr} (ha:VT X a tA) (hb:VW X (.BoolOp .And (b::rest) pos) tB'):VW X (.BoolOp .And (a::b::rest) pos) (aZf tA tB'):=⟨aX2 ha.1 hb.1⟩
theorem qN {rest:List Expr} (ha:VT X a tA) (hb:VW X (.BoolOp .Or (b::rest) pos) tB'):VW X (.BoolOp .Or (a::b::rest) pos) (tOr tA tB'):=⟨aYl ha.1 hb.1⟩
theorem VW.pt (h:VW X e tA):VT X e tA:=⟨h.1.pt⟩
theorem jE (ha:VT X a tA):VT X (.UnaryOp .Not a pos) (aY0 tA):=⟨aW4 ha.1⟩
theorem eG (h:VE X e te) (he:∀whole,isTrue e X.env whole=(do let v ←whole;standAt e.pos;holding [v] (truthy v)):=by intro _;rfl):VT X e (tB te):=⟨aWu h.1 he⟩
theorem aRv (ha:VE X a ta) (he:∀whole,isTrue a X.env whole=(do let v ←whole;standAt a.pos;holding [v] (truthy v)):=by intro _;rfl) :
  VT X a (fun σ H Q=>ta σ H fun x H'=>∃k,aWy X.K x H' k∧Q k H'):=⟨aR9 ha.1 he⟩
variable {st:Stmt} {rest:List Stmt} {u w':TS}
theorem aW:VSs X [] rU:=⟨aT6⟩
theorem aC (h1:VS X st u) (h2:VSs X rest w'):VSs X (st::rest) (iR u w'):=⟨aSg h1.1 h2.1⟩
theorem aF (h1:VS X st u):VSs X [st] u:=⟨aU2 h1.1⟩
theorem aL (he:VE X e te):VS X (.Return (some e) pos) (aAs te):=⟨aWd he.1⟩
theorem bJ {a b:List Stmt} (hc:VT X c tA) (ha:VSs X a u) (hb:VSs X b w'):VS X (.If c a b pos) (aLw tA u w'):=⟨aZl hc.1 ha.1 hb.1⟩
theorem aV {i:Nat} {pos':Pos} (hN:X.N.Nodup) (hi:X.N[i]?=some x) (hx:Loc X.env.scope x) (he:VE X e te) (hs:swapsWith e (some (.Name x pos')) pos.line X.env=pure false:=by rfl) (hf:X.fn x=true∨X.env.scope.names.lookup x=some .local:=by first|exact .inl rfl|exact .inr rfl|assumption) :
  VS X (.Assign [.Name x pos'] e pos) (jK te (bK i)):=⟨aXx hN hi hx he.1 hs hf⟩
theorem eF (he:VE X e te) (hs:swapsWith e none pos.line X.env=pure false:=by rfl):VS X (.Expr e pos) (aNb te):=⟨aUy he.1 hs⟩
theorem jA {tg iter:Expr} {body:List Stmt} {wi:TI} {g:TG} {tb:TS} (hp:PassesOwn (model X.prog X.w) X.A X.env X.xe) (hc:X.calm=true) (hi:VI X tg iter wi) (hg:VG X tg g) (hb:VSs X body tb)
  (hs:∀x,foldedSetIterable iter X.env x=pure x:=by intro _;rfl):VS X (.For tg iter body [] pos) (aYr wi g tb):=⟨aXf hp hc hi.1 hg.1 hb.1 hs⟩
theorem aN {i:Nat} (hN:X.N.Nodup) (hi:X.N[i]?=some x) (hx:Loc X.env.scope x) (hf:X.fn x=true∨X.env.scope.names.lookup x=some .local:=by first|exact .inl rfl|exact .inr rfl|assumption):VG X (.Name x pos) (bK i):=⟨aUt hN hi hx hf⟩
theorem cO:VGs X [] xZ:=⟨aT8⟩
theorem bA {t:TG} {u:TGs} (h1:VG X e t) (h2:VGs X es u) (hs:(assignEach (e::es) X.env).map (·.2)=assign e X.env::(assignEach es X.env).map (·.2):=by rfl):VGs X (e::es) (gR t u):=⟨aSh h1.1 h2.1 hs⟩
theorem lM {k:Nat} {t:TGs} {n:Nat} (hc:X.calm=true) (h:VGs X es t) (hn:(assignEach es X.env).length=n:=by rfl) (hst:(assignEach es X.env).findIdx? (·.1)=none:=by rfl):VG X (.Tuple es k pos) (aCk X.K n t):=⟨aXc hc h.1 hn hst⟩
variable {tg:Expr}
theorem fJ (h:VE X e te):VI X tg e (tR X.K te):=⟨aNr h.1⟩
theorem dC (h:VE X e te):VI X tg e (aGc X.K te):=⟨aS0 h.1⟩
theorem aWn (h:VE X e te):VI X tg e (aX0 te):=⟨aX3 h.1⟩
theorem fK (hg:Gl X "range") (hm:X.mg "range"=none) (ha:VA X [a] t) (hp:jD a=true:=by rfl):VI X tg (.Call (.Name "range" p) [a] [] pos) (aQx t):=⟨aPu hg hm ha.1 (cC (es:=[]) hp)⟩
theorem cI:VF X [] pY:=⟨aW8⟩
theorem pX (h:VT X c tA):VF X [c] tA:=⟨aW9 h.1⟩
theorem bZ {elt target iter:Expr} {ifs:List Expr} {scope:Scope} {N:List Str} {wi:TI} {g:TG} {tt:TT}
  (C:aCq scope N) (hfr:∀y,(y,NameKind.free)∈scope.names→X.env.kindOf y=some .cell∨X.env.kindOf y=some .free) (hc:X.calm=true)
  (hi:VI X target iter wi)
  (hb:∀cl s H fp,VG (cxC X N scope cl s H fp) target g∧VF (cxC X N scope cl s H fp) ifs tt∧VE (cxC X N scope cl s H fp) elt te)
  (hs:∀x,foldedSetIterable iter X.env x=pure x:=by intro _;rfl) :
  VE X (.ListComp elt [⟨target,iter,ifs,0⟩] scope pos) (iK X scope N wi g tt te):=
 ⟨aU1 C hfr hc hi.1 (fun cl s H fp=>⟨(hb cl s H fp).1.1,(hb cl s H fp).2.1.1,(hb cl s H fp).2.2.1⟩) hs⟩
end
section
variable {P:Program} {w:World} {K:PySem.W.Frag} {mg:Str→Option Value} {base:Heap}
theorem Fun.okV {x qual:Str} {st:Stmt} {f:Addr} {fd:FuncData} {N ps:List Str} {k:Nat} {sp:Sp} (F:Fun K x qual st f fd) (S:aR N ps (aG st)) (len:∀vs H Q E,sp vs H Q E→vs.length=ps.length)
  (hbody:∀(cdv:Value) (A:Around) (outer:List Env) (s:Shared) (H:Hp) (vs:List V) (Q:VK) (E:XK),Room k (A.deeper (envOfC qual (aG st) s.heap.objs.size f cdv))→sp vs H Q E →
   ∃t,VSs (aHf CX0 P w K mg base N qual (aG st) f cdv A outer s H E).nox (lV st) t∧t { nx:=fun _ H'=>Q .non H',rt:=Q } (start N vs) H):rJ P w K mg base CX0 (k+1) f fd ps sp:=
 F.ok S len fun cdv A outer s H vs Q E hr h=>let ⟨t,h1,h2⟩:=hbody cdv A outer s H vs Q E hr h;⟨t,h1.1,h2⟩
theorem Ok.ofV {x:Str} {st:Stmt} {N ps:List Str} {k:Nat} {sp:Sp} (D:Dn K mg x st ps) (S:aR N ps (aG st)) (len:∀vs H Q E,sp vs H Q E→vs.length=ps.length)
  (hbody:∀(f:Addr) (cdv:Value) (A:Around) (outer:List Env) (s:Shared) (H:Hp) (vs:List V) (Q:VK) (E:XK),Room k (A.deeper (envOfC x (aG st) s.heap.objs.size f cdv))→sp vs H Q E →
   ∃t,VSs (aHf CX0 P w K mg base N x (aG st) f cdv A outer s H E).nox (lV st) t∧t { nx:=fun _ H'=>Q .non H',rt:=Q } (start N vs) H):Ok P w K mg base (k+1) x ps sp:=
 Ok.of D S len fun f cdv A outer s H vs Q E hr h=>let ⟨t,h1,h2⟩:=hbody f cdv A outer s H vs Q E hr h;⟨t,h1.1,h2⟩
end
end L2
namespace PySem
def zK (σ:List Str) (v:Str):List Str:=if v∈σ then σ else σ++[v]
def qH (ss:List Str):List Str:=ss.foldl zK []
theorem aEt (ss:List Str) (v:Str):qH (ss++[v])=zK (qH ss) v:=by
 unfold qH
 rw [List.foldl_append]
 rfl
theorem aR5 (σ:List Str) (v k:Str):k∈zK σ v↔k∈σ∨k=v:=by
 unfold zK
 by_cases h:v∈σ
 ·rw [if_pos h]
  exact ⟨.inl,fun q=>q.elim id fun e=>e ▸ h⟩
 ·rw [if_neg h]
  simp
theorem aH6 (σ:List Str) (v:Str):(zK σ v).length=if v∈σ then σ.length else σ.length+1:=by
 unfold zK
 split <;> simp
theorem yP:∀(ss σ:List Str),(ss.foldl zK σ).length≤σ.length+ss.length
 |[],σ=>by simp
 |v::r,σ=>by
  rw [List.foldl_cons,List.length_cons]
  have h:=yP r (zK σ v)
  rw [aH6] at h
  split at h <;> lia
theorem aRk (ss:List Str):(qH ss).length≤ss.length:=by
 have h:=yP ss []
 unfold qH
 simpa using h
section
variable {prog:Program} {w:World}
def eQ (prog:Program) (w:World) (h:Heap) (D:Addr) (ss:List Str):Prop:=h.SetOf (strKind prog w) D (fun y=>decide (y∈qH ss)) (qH ss).length
theorem eQ.at {h h':Heap} {D:Addr} {ss:List Str} (x:eQ prog w h D ss) (e:∀o,h.get? D=some o→h'.get? D=some o):eQ prog w h' D ss:=by
 obtain ⟨o,es,ep,t,ho,r⟩:=x
 exact ⟨o,es,ep,t,e o ho,r⟩
theorem eQ.congr {h:Heap} {D:Addr} {S:Str→Bool} {n:Nat} {ss:List Str} (x:h.SetOf (strKind prog w) D S n) (e1:∀y,S y=decide (y∈qH ss)) (e2:n=(qH ss).length):eQ prog w h D ss:=by
 have e:S=fun y=>decide (y∈qH ss):=funext e1
 subst e e2
 exact x
theorem aCa {A:Around} {R:Result→Shared→Prop} {I:Addr} {fp wr:List Addr} {n:Nat} {P:Nat→Value→Prop} {St:Nat→Heap→Prop} (W:Walks prog w A.in1 I fp wr n P St) (D:Addr) (hD:D∉fp)
  (ss:List Str) (hss:ss.length=n) (hval:∀i v,P i v→∃t,v=.str (ss.getD i "") t) (hb:n+1<scanBound) :
  ∀(k i:Nat) (s:Shared),i+k=n→St i s.heap→eQ prog w s.heap D (ss.take i) →
   (∀h' tk,(∀b o,b∉D::wr→s.heap.get? b=some o→h'.get? b=some o)→eQ prog w h' D ss→R (.ok (.ret .none)) { s with heap:=h',toks:=tk }) →
   codeAny (model prog w) A (.builtin "set.update.loop" ⟨[.ref D,.ref I],[]⟩) R s:=by
 have hDw:D∉wr:=fun q=>hD (W.sub _ q)
 intro k
 induction k with
 |zero=>
  intro i s hi st hS q
  obtain rfl:i=n:=by lia
  refine codeAny_builtin PyProof.Rows.F.entry_set_update_loop ?_
  rw [Around.under_plainId PyProof.Rows.F.plain_set_update_loop _]
  show wpAny _ A.in1 (pyNext (.ref I) >>= _) _ _ _
  refine wpAny_bind (W.done s _ _ st fun h' tk kp=>?_)
  refine wpAny_pure (q h' tk (fun b o nb e=>kp b o (fun z=>nb (List.mem_cons_of_mem _ z)) e) ?_)
  rw [List.take_of_length_le (Nat.le_of_eq hss)] at hS
  exact hS.at fun o e=>kp D o hDw e
 |succ k ih=>
  intro i s hi st hS q
  refine codeAny_builtin PyProof.Rows.F.entry_set_update_loop ?_
  rw [Around.under_plainId PyProof.Rows.F.plain_set_update_loop _]
  show wpAny _ A.in1 (pyNext (.ref I) >>= _) _ _ _
  refine wpAny_bind (W.item i s _ _ (by lia) st fun v h1 tk1 hP st1 kp1=>?_)
  obtain ⟨t,rfl⟩:=hval i v hP
  have hS1:eQ prog w h1 D (ss.take i):=hS.at fun o e=>kp1 D o hDw e
  show wpAny _ A.in1 (holding [Value.str (ss.getD i "") t] (setAdd D (.str (ss.getD i "") t)) >>= _) _ _ _
  refine wpAny_bind (wpAny_holding ?_)
  unfold setAdd
  refine wpAny_holding (wpAny_bind ((strKind prog w).pyHash (k:=ss.getD i "") (strKind_is _ _ _ _) ?_))
  have room:(qH (ss.take i)).length+1<scanBound:=by
   have h1:=aRk (ss.take i)
   have h2:(ss.take i).length≤ss.length:=by rw [List.length_take];exact Nat.min_le_right _ _
   lia
  refine wpAny_setAddHashed_of (knd:=strKind prog w) (strKind_is _ _ _ _) rfl hS1 room fun h2 sb2 hS2=>?_
  have hlt:i<ss.length:=by lia
  have et:ss.take (i+1)=ss.take i++[ss.getD i ""]:=by
   rw [List.take_add_one,List.getElem?_eq_getElem hlt,List.getD_eq_getElem?_getD,List.getElem?_eq_getElem hlt]
   rfl
  have hS3:eQ prog w h2 D (ss.take (i+1)):=by
   refine eQ.congr hS2 (fun y=>?_) ?_
   ·rw [et,aEt,Bool.eq_iff_iff,Bool.or_eq_true,decide_eq_true_eq,decide_eq_true_eq,decide_eq_true_eq,aR5]
   ·rw [et,aEt,aH6]
    by_cases z:ss.getD i ""∈qH (ss.take i)
    ·rw [if_pos z,if_pos (decide_eq_true z)]
    ·rw [if_neg z,if_neg (by rw [decide_eq_false z];exact Bool.false_ne_true)]
  have kp2:∀b o,b∉D::wr→s.heap.get? b=some o→h2.get? b=some o:=fun b o nb e=>by
   rw [sb2.2 b (fun z=>nb (by rw [z];exact List.mem_cons_self))]
   exact kp1 b o (fun z=>nb (List.mem_cons_of_mem _ z)) e
  refine wpAny_pure ⟨plainId_quiet PyProof.Rows.F.plain_set_update_loop _,ih (i+1) _ (by lia) (W.frame _ _ _ st1 fun b hb o e=>?_) hS3 fun h' tk kp hS'=>q h' tk (fun b o nb e=>kp b o nb (kp2 b o nb e)) hS'⟩
  rw [sb2.2 b (fun z=>hD (by rw [←z];exact hb))]
  exact e
variable {A:Around} {E:Value→Shared→Prop} {s:Shared}
abbrev dX (led:Bool):Obj:={ cls:=.type "set",dict:=none,data:=.set #[] 0 (.fresh 0 0 led) }
theorem aK1 {A:Around} {R:Fin→Shared→Prop} {E:Value→Shared→Prop} {s:Shared} {l:Addr} {its:Array Value} {ss:List Str} (led:Bool) (hh:A.handled=none) (hl:s.heap.IsList l its) (hlen:ss.length=its.size)
  (hval:∀(i:Nat) (v:Value),its[i]?=some v→∃t,v=Value.str (ss.getD i "") t) (hb:its.size+1<scanBound)
  (q:∀h' tk,eQ prog w h' s.heap.objs.size ss→(∀b o,b<s.heap.objs.size→s.heap.get? b=some o→h'.get? b=some o)→R (.done (.ret .none)) { s with heap:=h',toks:=tk }) :
  wpAny (model prog w) A (Builtin.«set.__init__» ⟨[.ref s.heap.objs.size,.ref l],[]⟩) R E { s with heap:=s.heap.push (dX led) }:=by
 obtain ⟨⟨oc,od,ox,osl⟩,hol,hcl,nl,hdl⟩:=id hl
 simp only at hcl hdl
 subst hcl hdl
 have hS:(s.heap.push (dX led)).get? s.heap.objs.size=some (dX led):=Heap.get?_push_size _ rfl
 have hT:Shared.TypeIs { s with heap:=s.heap.push (dX led) } (.ref s.heap.objs.size) "set":=⟨_,hS,rfl⟩
 have hol':(s.heap.push (dX led)).get? l=some { cls:=.type "list",dict:=od,data:=.seq its nl,slots:=osl }:=Heap.get?_push_of_some _ hol
 have f1:=F.sub_list_set
 have f2:=F.sub_list_frozenset
 have f3:(Value.type "list" == Value.type "dict")=false:=by decide
 have hl1:(s.heap.push (dX led)).IsList l its:=⟨_,hol',rfl,nl,rfl⟩
 have hlt:l<s.heap.objs.size:=Heap.lt_size hol
 unfold Builtin.«set.__init__» noKeywords Builtin.Frozenset.updateFrom
 generalize hPI:pyIter=PI
 wp_walk
 subst hPI
 refine wpAny_pyIter_list hl1 ?_
 refine wpAny_bind (wpAny_runValue ?_)
 have hz:(s.heap.push (dX led)).objs.size=s.heap.objs.size+1:=Heap.size_push ..
 have hne:l≠(s.heap.push (dX led)).objs.size:=by rw [hz];exact Nat.ne_of_lt (Nat.lt_succ_of_lt hlt)
 have hSf:s.heap.objs.size∉[(s.heap.push (dX led)).objs.size,l]:=by
  rw [hz]
  simp only [List.mem_cons,List.not_mem_nil,or_false,not_or]
  exact ⟨Nat.ne_of_lt (Nat.lt_succ_self _),Nat.ne_of_gt hlt⟩
 refine aCa (Walks.list (by first|exact hh|simp [hh]) _ l hne its) s.heap.objs.size hSf ss hlen hval hb its.size 0 _ (by lia) ⟨⟨_,Heap.get?_push_size _ rfl,rfl,rfl⟩,hl1.push _⟩ ?_ fun h' tk kp hS'=>?_
 ·have hg:((s.heap.push (dX led)).push { cls:=.type "list_iterator",data:=.fields #[.ref l,.int 0 0] }).get? s.heap.objs.size=some (dX led):=Heap.get?_push_of_some _ hS
  exact eQ.congr ((PyProof.Rows.setObjOf_fresh (knd:=strKind prog w) led).setOf hg (by unfold scanBound;lia)) (fun _=>rfl) rfl
 ·refine wpAny_pure (wpAny_pure (q h' tk hS' fun b o hb' e=>kp b o ?_ (Heap.get?_push_of_some _ (Heap.get?_push_of_some _ e))))
  rw [hz]
  simp only [List.mem_cons,List.not_mem_nil,or_false,not_or]
  exact ⟨Nat.ne_of_lt hb',Nat.ne_of_lt (Nat.lt_succ_of_lt hb')⟩
theorem aBm {l:Addr} {its:Array Value} {ss:List Str} {Q:Value→Shared→Prop} (hh:A.handled=none) (hl:s.heap.IsList l its) (hlen:ss.length=its.size)
  (hval:∀(i:Nat) (v:Value),its[i]?=some v→∃t,v=Value.str (ss.getD i "") t) (hb:its.size+1<scanBound)
  (q:∀h' tk,eQ prog w h' s.heap.objs.size ss→(∀b o,b<s.heap.objs.size→s.heap.get? b=some o→h'.get? b=some o)→Q (.ref s.heap.objs.size) { s with heap:=h',toks:=tk }) :
  wpAny (model prog w) A (call (.type "set") [.ref l]) Q E s:=by
 have ft:=F.called_set
 obtain ⟨c,tl,hmro⟩:=ft.mro
 have g1:=ft.made
 have g2:=ft.sub
 have g3:=ft.notType
 have g4:=ft.canCreate
 have g5:=F.typeCall_set_1 (.ref l)
 refine wpAny_call (codeAny_of_tree (show wpAny _ _ (callAny (.type "set") _) _ _ _ from wpAny_pure ⟨Code.quiet_builtin _ (by decide +kernel),codeAny_builtin F.entry_type_call ?_⟩))
 rw [Around.under_plain (weight_type_call_type "set" [.ref l] []) (by rfl)]
 repeat (any_goals (first|assumption|wp_step))
 refine codeAny_mono (code_set_new_1 (.ref l) (Q₁:=fun obj s1=>∃led:Bool,obj=.ref s.heap.objs.size∧s1={ s with heap:=s.heap.push (dX led) }) (E:=E) fun led=>⟨led,rfl,rfl⟩) fun r s1 hr=>?_
 rcases r with e|fl
 ·exact hr
 rcases fl with _|_|_|obj
 ·exact hr.elim
 ·exact hr.elim
 ·exact hr.elim
 obtain ⟨led,rfl,rfl⟩:=hr
 have hT:Shared.TypeIs { s with heap:=s.heap.push (dX led) } (.ref s.heap.objs.size) "set":=⟨_,Heap.get?_push_size _ rfl,rfl⟩
 have g6:=ft.init.lookup
 have g7:=ft.init.bind (.ref s.heap.objs.size)
 repeat (any_goals (first|assumption|wp_step))
 refine codeAny_mono (codeAny_call_builtin (R:=wants (fun r s2=>r=.none∧∃h' tk,s2={ s with heap:=h',toks:=tk }∧eQ prog w h' s.heap.objs.size ss∧∀b o,b<s.heap.objs.size→s.heap.get? b=some o→h'.get? b=some o) E)
  ft.init.plain F.entry_set_init (check_set_init_1 hT (aK1 led (by first|exact hh|simp [hh]) hl hlen hval hb fun h' tk x kp=>⟨rfl,h',tk,rfl,x,kp⟩))) fun r2 s2 hr2=>?_
 rcases r2 with e|fl
 ·exact hr2
 rcases fl with _|_|_|v
 ·exact hr2.elim
 ·exact hr2.elim
 ·exact hr2.elim
 obtain ⟨rfl,h',tk,rfl,x,kp⟩:=hr2
 repeat (any_goals (first|assumption|wp_step))
 exact q h' tk x kp
theorem aN8 {D:Addr} {ss:List Str} {Q:Value→Shared→Prop} (x:eQ prog w s.heap D ss) (q:Q (.int ((qH ss).length:Nat) (s.toks+1)) { s with toks:=s.toks+1+1 }):wpAny (model prog w) A (call (.builtin "len") [.ref D]) Q E s:=by
 obtain ⟨o,es,ep,t,ho,hex,hd,hel,hmem,hb,hf,hn⟩:=x
 refine call_len_set ho hex hd hf ?_ ?_
 ·unfold scanBound at hb
  lia
 ·rw [hn]
  exact q
end
end PySem
namespace L2
open PySem PySem.Spec PyProof.Rows
def aQv (P:Program) (w:World) (D:Addr) (ss:List Str):HO:=.ext fun h=>eQ P w h D ss
section
variable {X:Cx}
def aYa (P:Program) (w:World) (K:PySem.W.Frag):List V→Hp→VK→Prop:=fun xs H Q=>∃(p:Addr) (ss:List Str),xs=[.ref p]∧SqL K H p (ss.map V.str)∧ss.length≤1000∧∀D,H D=none→Q (.ref D) (upd H D (aQv P w D ss))
theorem aL2 (hc:X.calm=true):cW X (.type "set") (aYa X.prog X.w X.K):=by
 intro pins s σ H xs us Q I r h
 obtain ⟨p,ss,rfl,hq,hl,q⟩:=h
 obtain ⟨u,rfl,rx⟩:=r.one
 cases rx
 obtain ⟨its,rv,pl,hz⟩:=I.list hq
 have hlen:=rv.length
 rw [List.length_map] at hlen
 refine aBm (I.ok.hd hc) pl.isList (by rw [List.size_toArray];exact hlen) (fun i v hv=>?_) (by rw [List.size_toArray,←hlen];unfold scanBound;lia) fun h' tk x kp=>?_
 ·have hv':its[i]?=some v:=by simpa using hv
  have hi:i<ss.length:=by rw [hlen];exact (List.getElem?_eq_some_iff.mp hv').1
  obtain ⟨u,hu,t,rfl⟩:=rv.get (i:=i) (x:=.str ss[i]) (by rw [List.getElem?_map,List.getElem?_eq_getElem hi];rfl)
  rw [hv'] at hu
  cases hu
  exact ⟨t,by rw [List.getD_eq_getElem?_getD,List.getElem?_eq_getElem hi];rfl⟩
 ·have e:∃o,h'.get? s.heap.objs.size=some o:=by
   obtain ⟨o,_,_,_,ho,_⟩:=x
   exact ⟨o,ho⟩
  exact ⟨.ref s.heap.objs.size,_,I.laid (o:=aQv X.prog X.w s.heap.objs.size ss) (fun b o eo=>kp b o (Heap.lt_size eo) eo) (Nat.le_refl _) (show eQ X.prog X.w h' s.heap.objs.size ss∧_∧_ from ⟨x,e,fun h1 h2 y k=>y.at k⟩),rfl,q _ (I.hok.fresh (Nat.le_refl _))⟩
theorem aLg:cW X (.builtin "len") (fun xs H Q=>∃(D:Addr) (ss:List Str),xs=[.ref D]∧H D=some (aQv X.prog X.w D ss)∧Q (.int ((qH ss).length:Nat)) H):=by
 intro pins s σ H xs us Q I r h
 obtain ⟨D,ss,rfl,hD,q⟩:=h
 obtain ⟨u,rfl,rx⟩:=r.one
 cases rx
 obtain ⟨x,_⟩:=I.hok D _ hD
 exact aN8 x ⟨.int ((qH ss).length:Nat),H,I.tok _,⟨_,rfl⟩,q⟩
end
end L2
namespace PySem
abbrev mO (t:Addr) (i:Nat):Obj:={ cls:=.type "tuple_iterator",data:=.fields #[.ref t,.int (i:Int) 0] }
abbrev oR (f0:Value) (TI TO:Addr):Obj:={ cls:=.type "zip",dict:=none,data:=.fields #[f0,.bool false,.bool false,.ref TI,.ref TO],slots:=#[] }
abbrev fM (a b:Value):Obj:={ cls:=.type "tuple",data:=.seq #[a,b] }
section
variable {prog:Program} {w:World} {A:Around} {E:Value→Shared→Prop} {s:Shared}
theorem qU {it t:Addr} {i:Nat} {its:Array Value} {x:Value} {Q:Value→Shared→Prop} (ho:s.heap.get? it=some (mO t i)) (ht:s.heap.IsTuple t its) (hx:its[i]?=some x)
  (q:∀h',h'.get? it=some (mO t (i+1))→Heap.SameBut it s.heap h'→Q x { s with heap:=h' }):wpAny (model prog w) A (Builtin.SmallTypes.nextOf (.ref it)) Q E s:=by
 have hT:s.TypeIs (.ref it) "tuple_iterator":=⟨_,ho,rfl⟩
 obtain ⟨ol,hol,_,nl,hdl⟩:=ht
 unfold Builtin.SmallTypes.nextOf
 refine wpAny_bind (wpAny_callSpecial?_slot (name:=Str.ofString "__next__") hT F.slot_tuple_iterator_next (wpAny_call_entry F.slot_tuple_iterator_next hT F.entry_tuple_iterator_next ?_ (F.args_tuple_iterator_next_1 _)))
 refine wpAny_bind (m:=field (.ref it) 0) (wpAny_field ho rfl (x:=.ref t) rfl ?_)
 refine (if_neg (show ¬ ((Value.ref t == Value.none)=true) from Bool.false_ne_true)).symm ▸ ?_
 refine wpAny_bind (m:=field (.ref it) 1) (wpAny_field ho rfl (x:=.int i 0) rfl ?_)
 refine wpAny_bind (m:=seqItems? (.ref t)) (wpAny_seqItems hol hdl ?_)
 simp only [Int.toNat_natCast,hx]
 refine wpAny_bind (wpAny_setField ho rfl (by simp) (wpAny_pure ⟨x,rfl,wpAny_pure (q _ ?_ (Heap.SameBut.update ..))⟩))
 exact Heap.get?_update_self _ ho rfl
theorem sW {it t:Addr} {i:Nat} {its:Array Value} {Q:Value→Shared→Prop} (hh:A.handled=none) (ho:s.heap.get? it=some (mO t i)) (ht:s.heap.IsTuple t its) (hx:its[i]?=none)
  (q:∀h' e,Heap.ExtBut it s.heap h'→(∃o,h'.get? e=some o∧o.cls=.type "StopIteration")→E (.ref e) { s with heap:=h' }):wpAny (model prog w) A (Builtin.SmallTypes.nextOf (.ref it)) Q E s:=by
 have hT:s.TypeIs (.ref it) "tuple_iterator":=⟨_,ho,rfl⟩
 obtain ⟨ol,hol,_,nl,hdl⟩:=ht
 unfold Builtin.SmallTypes.nextOf
 refine wpAny_bind (wpAny_callSpecial?_slot (name:=Str.ofString "__next__") hT F.slot_tuple_iterator_next (wpAny_call_entry F.slot_tuple_iterator_next hT F.entry_tuple_iterator_next ?_ (F.args_tuple_iterator_next_1 _)))
 refine wpAny_bind (m:=field (.ref it) 0) (wpAny_field ho rfl (x:=.ref t) rfl ?_)
 refine (if_neg (show ¬ ((Value.ref t == Value.none)=true) from Bool.false_ne_true)).symm ▸ ?_
 refine wpAny_bind (m:=field (.ref it) 1) (wpAny_field ho rfl (x:=.int i 0) rfl ?_)
 refine wpAny_bind (m:=seqItems? (.ref t)) (wpAny_seqItems hol hdl ?_)
 simp only [Int.toNat_natCast,hx]
 refine wpAny_bind (wpAny_rule (wpAny_bind (wpAny_setField ho rfl (by simp) ?_)))
 unfold Builtin.SmallTypes.stopIteration
 refine wpAny_bind ?_
 simp only [newExc,newTuple]
 refine wpAny_bind (wpAny_newObj_type ?_ (by size_fits))
 refine wpAny_bind (m:=firstArgMember _ _) (wpAny_of_eq (a:=Value.none) (by first|rfl|(simp only [firstArgMember];rfl)) ?_)
 refine wpAny_newObj_type ?_ (by size_fits)
 simp only [raiseNew]
 refine wpAny_bind (wpAny_handled ?_)
 first|rw [show A.in1.handled=none from hh]|rw [hh]
 refine wpAny_bind (wpAny_pure (wpAny_throw ?_))
 exact q _ _ (((Heap.SameBut.update ..).extBut.push _).push _) ⟨_,Heap.get?_push_size _ rfl,rfl⟩
structure oK (z TI TO a b:Addr):Prop where
 h1:TI≠z
 h2:TO≠z
 h3:a≠z
 h4:b≠z
 h5:TI≠TO
 h6:TI≠a
 h7:TI≠b
 h8:TO≠a
 h9:TO≠b
 h10:a≠b
theorem aAz {T:Addr} {a b x:Value} {k:Nat} {Q:Unit→Shared→Prop} (hT:s.heap.get? T=some (fM a b))
  (q:∀h',h'.get? T=some { cls:=.type "tuple",data:=.seq ((#[a,b]:Array Value).setIfInBounds k x) }→Heap.SameBut T s.heap h'→Q () { s with heap:=h' }) :
  wpAny (model prog w) A (updateSeq T (·.setIfInBounds k x)) Q E s:=by
 refine wpAny_updateSeq hT rfl (q _ ?_ (Heap.SameBut.update ..))
 rw [Heap.get?_update_self _ hT rfl]
 simp [Obj.mapSeq]
theorem aOg {z TI TO i1 i2 t u:Addr} {k:Nat} {xs ys:Array Value} {x y a b:Value} {Q:Option Value→Shared→Prop} (D:oK z TI TO i1 i2)
  (hz:s.heap.get? z=some (oR .none TI TO)) (hTI:s.heap.get? TI=some (fM (.ref i1) (.ref i2))) (hTO:s.heap.get? TO=some (fM a b))
  (g1:s.heap.get? i1=some (mO t k)) (g2:s.heap.get? i2=some (mO u k)) (ht:s.heap.IsTuple t xs) (hu:s.heap.IsTuple u ys) (hx:xs[k]?=some x) (hy:ys[k]?=some y)
  (t1:t≠z) (t2:t≠TO) (t3:t≠i1) (t4:t≠i2) (u1:u≠z) (u2:u≠TO) (u3:u≠i1) (u4:u≠i2)
  (q:∀h',h'.get? z=some (oR (rawInt s.heap.objs.size) TI TO)→h'.get? TO=some (fM x y)→h'.get? i1=some (mO t (k+1))→h'.get? i2=some (mO u (k+1))→h'.get? s.heap.objs.size=some (fM x y) →
   (∀c o,c≠z→c≠TO→c≠i1→c≠i2→s.heap.get? c=some o→h'.get? c=some o)→Q (some (.ref s.heap.objs.size)) { s with heap:=h' }) :
  wpAny (model prog w) A (pyNext (.ref z)) Q E s:=by
 have hT:s.TypeIs (.ref z) "zip":=⟨_,hz,rfl⟩
 unfold pyNext
 refine wpAny_bind (wpAny_attempt (wpAny_callSpecial?_slot (name:=Str.ofString "__next__") hT F.slot_zip_next (wpAny_call_entry F.slot_zip_next hT F.entry_zip_next ?_ (F.args_zip_next_1 _))))
 refine wpAny_bind (m:=field (.ref z) 2) (wpAny_field hz rfl (x:=.bool false) rfl ?_)
 refine wpAny_bind (m:=field (.ref z) 3) (wpAny_field hz rfl (x:=.ref TI) rfl (wpAny_bind (wpAny_seqItems hTI rfl ?_)))
 refine wpAny_bind (m:=Builtin.SmallTypes.ownedTupleIsFree (.ref z)) ?_
 unfold Builtin.SmallTypes.ownedTupleIsFree
 refine wpAny_bind (wpAny_field hz rfl (x:=.none) rfl (wpAny_pure ?_))
 simp only [if_true]
 refine wpAny_bind (wpAny_rule (wpAny_bind (wpAny_field hz rfl (x:=.ref TO) rfl (wpAny_bind (wpAny_setField_rec hz (by simp) fun h1 z1 s1=>?_)))))
 replace z1:h1.get? z=some (oR .ellipsis TI TO):=z1
 refine wpAny_bind ?_
 simp only [List.zipIdx_cons,List.zipIdx_nil,List.forIn_cons,List.forIn_nil]
 refine wpAny_bind (wpAny_bind (wpAny_onRaise ?_))
 refine wpAny_bind (m:=Builtin.SmallTypes.nextOf (.ref i1)) (qU (s:={ s with heap:=h1 }) (s1.extBut _ _ D.h3 g1) (ht.extBut s1.extBut t1) hx fun h2 g12 s2=>wpAny_pure ?_)
 have TO2:h2.get? TO=some (fM a b):=s2.extBut _ _ D.h8 (s1.extBut _ _ D.h2 hTO)
 refine wpAny_bind (wpAny_seqItems TO2 rfl (wpAny_bind (aAz (s:={ s with heap:=h2 }) TO2 fun h3 TO3 s3=>wpAny_bind (wpAny_letGo (wpAny_pure ?_)))))
 replace TO3:h3.get? TO=some (fM x b):=TO3
 refine wpAny_bind (wpAny_bind (wpAny_onRaise ?_))
 refine wpAny_bind (m:=Builtin.SmallTypes.nextOf (.ref i2)) (qU (s:={ s with heap:=h3 }) (s3.extBut _ _ D.h9.symm (s2.extBut _ _ D.h10.symm (s1.extBut _ _ D.h4 g2))) (((hu.extBut s1.extBut u1).extBut s2.extBut u3).extBut s3.extBut u2) hy fun h4 g24 s4=>wpAny_pure ?_)
 have TO4:h4.get? TO=some (fM x b):=s4.extBut _ _ D.h9 TO3
 refine wpAny_bind (wpAny_seqItems TO4 rfl (wpAny_bind (aAz (s:={ s with heap:=h4 }) TO4 fun h5 TO5 s5=>wpAny_bind (wpAny_letGo (wpAny_pure (wpAny_pure ?_))))))
 replace TO5:h5.get? TO=some (fM x y):=TO5
 refine wpAny_bind (wpAny_seqItems TO5 rfl (wpAny_bind (wpAny_newTuple ?_)))
 have hsz:h5.objs.size=s.heap.objs.size:=by rw [s5.1,s4.1,s3.1,s2.1,s1.1]
 have z5:h5.get? z=some (oR .ellipsis TI TO):=s5.extBut _ _ D.h2.symm (s4.extBut _ _ D.h4.symm (s3.extBut _ _ D.h2.symm (s2.extBut _ _ D.h3.symm z1)))
 have kp:∀c o,c≠z→c≠TO→c≠i1→c≠i2→s.heap.get? c=some o→h5.get? c=some o:=fun c o c1 c2 c3 c4 e=>s5.extBut _ _ c2 (s4.extBut _ _ c4 (s3.extBut _ _ c2 (s2.extBut _ _ c3 (s1.extBut _ _ c1 e))))
 have g15:h5.get? i1=some (mO t (k+1)):=s5.extBut _ _ D.h8.symm (s4.extBut _ _ D.h10 (s3.extBut _ _ D.h8.symm g12))
 have g25:h5.get? i2=some (mO u (k+1)):=s5.extBut _ _ D.h9.symm g24
 refine wpAny_bind (m:=Builtin.SmallTypes.ownedTupleHandOut (.ref z) (.ref h5.objs.size)) ?_
 unfold Builtin.SmallTypes.ownedTupleHandOut
 have z6:(h5.push (fM x y)).get? z=some (oR .ellipsis TI TO):=Heap.get?_push_of_some _ z5
 refine wpAny_bind (wpAny_setField_rec z6 (by simp) fun h7 z7 s7=>?_)
 replace z7:h7.get? z=some (oR (rawInt h5.objs.size) TI TO):=z7
 refine wpAny_setField_rec z7 (by simp) fun h8 z8 s8=>?_
 replace z8:h8.get? z=some (oR (rawInt h5.objs.size) TI TO):=z8
 have up:∀c o,c≠z→h5.get? c=some o→h8.get? c=some o:=fun c o c1 e=>s8.extBut _ _ c1 (s7.extBut _ _ c1 (Heap.get?_push_of_some _ e))
 have nz:h5.objs.size≠z:=Nat.ne_of_gt (Heap.lt_size z5)
 have T8:h8.get? h5.objs.size=some (fM x y):=s8.extBut _ _ nz (s7.extBut _ _ nz (Heap.get?_push_size _ rfl))
 rw [hsz] at z8 T8
 refine wpAny_pure ⟨_,rfl,wpAny_pure ?_⟩
 show Q (some (.ref h5.objs.size)) _
 rw [hsz]
 exact q h8 z8 (up _ _ D.h2 TO5) (up _ _ D.h3 g15) (up _ _ D.h4 g25) T8 fun c o c1 c2 c3 c4 e=>up c o c1 (kp c o c1 c2 c3 c4 e)
theorem aSi {z TI TO i1 i2 t:Addr} {k:Nat} {xs:Array Value} {a b:Value} {Q:Option Value→Shared→Prop} (hh:A.handled=none) (D:oK z TI TO i1 i2)
  (hz:s.heap.get? z=some (oR .none TI TO)) (hTI:s.heap.get? TI=some (fM (.ref i1) (.ref i2))) (hTO:s.heap.get? TO=some (fM a b))
  (g1:s.heap.get? i1=some (mO t k)) (ht:s.heap.IsTuple t xs) (hx:xs[k]?=none) (t1:t≠z)
  (q:∀h',(∀c o,c≠z→c≠TO→c≠i1→c≠i2→s.heap.get? c=some o→h'.get? c=some o)→Q none { s with heap:=h' }) :
  wpAny (model prog w) A (pyNext (.ref z)) Q E s:=by
 have hT:s.TypeIs (.ref z) "zip":=⟨_,hz,rfl⟩
 unfold pyNext
 refine wpAny_bind (wpAny_attempt (wpAny_callSpecial?_slot (name:=Str.ofString "__next__") hT F.slot_zip_next (wpAny_call_entry F.slot_zip_next hT F.entry_zip_next ?_ (F.args_zip_next_1 _))))
 refine wpAny_bind (m:=field (.ref z) 2) (wpAny_field hz rfl (x:=.bool false) rfl ?_)
 refine wpAny_bind (m:=field (.ref z) 3) (wpAny_field hz rfl (x:=.ref TI) rfl (wpAny_bind (wpAny_seqItems hTI rfl ?_)))
 refine wpAny_bind (m:=Builtin.SmallTypes.ownedTupleIsFree (.ref z)) ?_
 unfold Builtin.SmallTypes.ownedTupleIsFree
 refine wpAny_bind (wpAny_field hz rfl (x:=.none) rfl (wpAny_pure ?_))
 simp only [if_true]
 refine wpAny_bind (wpAny_rule (wpAny_bind (wpAny_field hz rfl (x:=.ref TO) rfl (wpAny_bind (wpAny_setField_rec hz (by simp) fun h1 z1 s1=>?_)))))
 replace z1:h1.get? z=some (oR .ellipsis TI TO):=z1
 refine wpAny_bind ?_
 simp only [List.zipIdx_cons,List.zipIdx_nil,List.forIn_cons,List.forIn_nil]
 refine wpAny_bind (wpAny_bind (wpAny_onRaise ?_))
 refine wpAny_bind (m:=Builtin.SmallTypes.nextOf (.ref i1)) (sW (s:={ s with heap:=h1 }) hh (s1.extBut _ _ D.h3 g1) (ht.extBut s1.extBut t1) hx fun h2 e s2 he=>?_)
 obtain ⟨oe,hoe,hce⟩:=he
 have z2:h2.get? z=some (oR .ellipsis TI TO):=s2 _ _ D.h3.symm z1
 have hez:e≠z:=fun x=>by subst x;rw [z2] at hoe;cases hoe;simp at hce
 refine wpAny_setField_rec z2 (by simp) fun h3 _ s3=>?_
 refine wpAny_bind (wpAny_isInstance (T:="StopIteration") (b:=true) ⟨oe,s3.extBut _ _ hez hoe,hce⟩ isSubtype_stop ?_)
 exact wpAny_pure (q _ fun c o c1 _ c3 _ x=>s3.extBut _ _ c1 (s2 _ _ c3 (s1.extBut _ _ c1 x)))
end
end PySem
namespace PySem
section
variable {prog:Program} {w:World} {A:Around} {E:Value→Shared→Prop} {s:Shared}
abbrev zT1 (h:Heap) (t:Addr):Heap:=h.push (mO t 0)
abbrev zT2 (h:Heap) (t u:Addr):Heap:=(zT1 h t).push (mO u 0)
abbrev zT3 (h:Heap) (t u:Addr):Heap:=(zT2 h t u).push (fM (.ref h.objs.size) (.ref (zT1 h t).objs.size))
abbrev zT4 (h:Heap) (t u:Addr):Heap:=(zT3 h t u).push (fM .none .none)
abbrev zT5 (h:Heap) (t u:Addr):Heap:=(zT4 h t u).push (oR .none (zT2 h t u).objs.size (zT3 h t u).objs.size)
theorem aMa (t u:Addr) (xs ys:Array Value):Meets (Builtin.«zip.__new__» ⟨[.type "zip",.ref t,.ref u],[]⟩)
  (fun _ R s=>s.heap.IsTuple t xs∧s.heap.IsTuple u ys∧R (.ok (.ret (.ref (zT4 s.heap t u).objs.size))) { s with heap:=zT5 s.heap t u }):=
 .of_wp fun prog w A R s h=>by
  obtain ⟨hp,g,d,tk,os⟩:=s
  obtain ⟨a1,a2,h⟩:=h
  have hsub:=sub_zip
  have b1:Heap.IsTuple (Shared.heap ⟨hp,g,d,tk,os⟩) t xs:=a1
  have b2:Heap.IsTuple (Shared.heap ⟨hp.push { cls:=.type "tuple_iterator",data:=.fields #[.ref t,.int 0 0] },g,d,tk,os⟩) u ys:=by
   obtain ⟨o,ho,r⟩:=a2
   exact ⟨o,Heap.get?_push_of_some _ ho,r⟩
  wp_walk using wpAny_pyIter_tuple b1,wpAny_pyIter_tuple b2
  exact ⟨_,rfl,h⟩
theorem aO1 {t u:Addr} {xs ys:Array Value} {Q:Value→Shared→Prop} (ht:s.heap.IsTuple t xs) (hu:s.heap.IsTuple u ys) (q:Q (.ref (zT4 s.heap t u).objs.size) { s with heap:=zT5 s.heap t u }) :
  wpAny (model prog w) A (call (.type "zip") [.ref t,.ref u]) Q E s:=by
 refine callType_new F.called_zip (by decide) (F.typeCall_zip_2 _ _) (F.newCall_zip_2 _ _) (fun obj=>F.args_object_init_3 obj _ _) F.entry_zip_new (aMa t u xs ys) ⟨ht,hu,?_⟩
 exact ⟨⟨_,Heap.get?_push_size _ rfl,rfl⟩,q⟩
end
end PySem
namespace L2
open PySem PySem.Spec PyProof.Rows
section
variable {X:Cx} {pins:List (Addr × Obj)} {σ:St} {H:Hp} {s:Shared}
theorem Inv.tup_ne {t b:Addr} {xs:List V} (I:Inv X pins σ H s) (h:SqT X.K H t xs) (f:vY X pins H b):t≠b:=by
 rintro rfl
 obtain ⟨f0,f1,f2,f3,_⟩:=f
 rcases h with (h|⟨o,h⟩)|⟨o,its,n,hk,_⟩
 ·rw [f0] at h;cases h
 ·rw [f0] at h;cases h
 ·have e:=I.ok.mod.kin t o hk
  rcases f3 with z|z
  ·exact I.ok.noex t o e z
  ·exact absurd (Nat.lt_of_lt_of_le (Heap.lt_size e) (Nat.le_trans I.ok.bsz z)) (Nat.lt_irrefl _)
theorem Inv.drawn {ch:List Addr} {h':Heap} {vs:List V} {its:List Value} {T:Addr} (I:Inv X pins σ H s) (hch:∀b∈ch,vY X pins H b) (kp:∀b o,b∉ch→s.heap.get? b=some o→h'.get? b=some o)
  (hT:s.heap.objs.size≤T) (hv:Vals vs its) (hz:vs.length≤sizeLine) (ho:yQ h' T its.toArray) (hth:∀b∈ch,∃o,h'.get? b=some o):Inv X pins σ (upd H T (.tup vs)) { s with heap:=h' }:=by
 have fT:H T=none:=I.hok.fresh hT
 have nT:∀b o,s.heap.get? b=some o→b≠T:=fun b o e=>Nat.ne_of_lt (Nat.lt_of_lt_of_le (Heap.lt_size e) hT)
 have nch:∀b u,H b=some u→b∉ch:=fun b u e z=>by rw [(hch b z).1] at e;cases e
 refine I.step (g':=s.gens) (d':=s.drawn) (t':=s.toks) (ch:=ch) (fun b hb=>?_) (fun b o _ _ hc e _=>kp b o hc e) (fun b o _ _ hc e _=>⟨o.slots,kp b o hc e⟩) (fun b o hc e n=>by rw [bH (nT b o e)];exact n)
  (fun b o hc e=>⟨o,kp b o hc e⟩) (fun b xs e=>by rw [bH (bF e fT)];exact e) (fun b o u e=>by rw [bH (bF e fT)];exact e) (fun b ps e=>⟨#[],by rw [bH (bF e fT),e];simp⟩) (fun m hm=>?_) (fun b u e=>?_) I.bare
 ·obtain ⟨_,f1,_,f3,f4,f5⟩:=hch b hb
  exact ⟨f3,f1,f4,f5⟩
 ·obtain ⟨o,es,ep,ho',r⟩:=hm
  exact ⟨o,es,ep,kp _ o (fun z=>(hch _ z).2.1 rfl) ho',r⟩
 ·by_cases hb:b=T
  ·subst hb
   rw [aU] at e
   cases e
   exact ⟨hz,its,hv,ho⟩
  ·rw [bH hb] at e
   refine (I.hok b u e).stay (fun c v hc' q=>kp c v ?_ q) (fun c q=>by rw [bH (bF q fT)];exact q) fun c xs q=>by rw [bH (bF q fT)];exact q
   rcases hc' with z|z
   ·rw [z];exact nch b u e
   ·exact nch c _ z
theorem Inv.aNm {ch:List Addr} {h':Heap} (I:Inv X pins σ H s) (hch:∀b∈ch,vY X pins H b) (kp:∀b o,b∉ch→s.heap.get? b=some o→h'.get? b=some o):Inv X pins σ H { s with heap:=h' }:=by
 have nch:∀b u,H b=some u→b∉ch:=fun b u e z=>by rw [(hch b z).1] at e;cases e
 refine I.step (g':=s.gens) (d':=s.drawn) (t':=s.toks) (ch:=ch) (fun b hb=>?_) (fun b o _ _ hc e _=>kp b o hc e) (fun b o _ _ hc e _=>⟨o.slots,kp b o hc e⟩) (fun _ _ _ _ n=>n)
  (fun b o hc e=>⟨o,kp b o hc e⟩) (fun _ _ e=>e) (fun _ _ _ e=>e) (fun b ps e=>⟨#[],by rw [e];simp⟩) (fun m hm=>?_) (fun b u e=>?_) I.bare
 ·obtain ⟨_,f1,_,f3,f4,f5⟩:=hch b hb
  exact ⟨f3,f1,f4,f5⟩
 ·obtain ⟨o,es,ep,ho',r⟩:=hm
  exact ⟨o,es,ep,kp _ o (fun z=>(hch _ z).2.1 rfl) ho',r⟩
 ·refine (I.hok b u e).stay (fun c v hc' q=>kp c v ?_ q) (fun _ q=>q) fun _ _ q=>q
  rcases hc' with z|z
  ·rw [z];exact nch b u e
  ·exact nch c _ z
end
def Itz (K:PySem.W.Frag) (t u:Addr) (xs ys:List V):It:=
 ⟨fun i H=>SqT K H t xs∧SqT K H u ys∧i<xs.length∧i<ys.length,fun i H v H'=>∃T a b,H T=none∧v=.ref T∧H'=upd H T (.tup [a,b])∧xs[i]?=some a∧ys[i]?=some b,fun i H=>SqT K H t xs∧xs.length≤i⟩
def ztn (z TI TO i1 i2 t u:Addr) (i:Nat) (h:Heap):Prop:=
 h.get? z=some (oR .none TI TO)∧h.get? TI=some (fM (.ref i1) (.ref i2))∧(∃a b,h.get? TO=some (fM a b))∧h.get? i1=some (mO t i)∧h.get? i2=some (mO u i)
theorem aRy {P:Program} {w:World} {K:PySem.W.Frag} {elts:List Expr} {kt:Nat} {pos:Pos} {z TI TO i1 i2 t u:Addr} {xs ys:List V} (D:oK z TI TO i1 i2) :
  Turn P w K (.Tuple elts kt pos) (Itz K t u xs ys) [z,TI,TO,i1,i2] z (ztn z TI TO i1 i2 t u) where
 mem:=by simp
 obj:=fun i h st b hb=>by
  obtain ⟨e1,e2,⟨a,c,e3⟩,e4,e5⟩:=st
  simp only [List.mem_cons,List.not_mem_nil,or_false] at hb
  rcases hb with rfl|rfl|rfl|rfl|rfl
  ·exact ⟨_,e1,fun v z=>by cases (show Data.fields _=Data.cell v from z)⟩
  ·exact ⟨_,e2,fun v z=>by cases (show Data.seq _ _=Data.cell v from z)⟩
  ·exact ⟨_,e3,fun v z=>by cases (show Data.seq _ _=Data.cell v from z)⟩
  ·exact ⟨_,e4,fun v z=>by cases (show Data.fields _=Data.cell v from z)⟩
  ·exact ⟨_,e5,fun v z=>by cases (show Data.fields _=Data.cell v from z)⟩
 keep:=fun i h h' st k=>by
  obtain ⟨e1,e2,⟨a,c,e3⟩,e4,e5⟩:=st
  exact ⟨k z (by simp) _ e1,k TI (by simp) _ e2,⟨a,c,k TO (by simp) _ e3⟩,k i1 (by simp) _ e4,k i2 (by simp) _ e5⟩
 item:=by
  intro X hP hw hK hc i pins s σ H E I hf st hg
  subst hP hw hK
  obtain ⟨e1,e2,⟨a0,c0,e3⟩,e4,e5⟩:=st
  obtain ⟨ht,hu,l1,l2⟩:=hg
  obtain ⟨its,rv,pt,hz⟩:=I.tuple ht
  obtain ⟨jts,rw',pu,hz'⟩:=I.tuple hu
  obtain ⟨x,hx,rx⟩:=rv.get (List.getElem?_eq_getElem l1)
  obtain ⟨y,hy,ry⟩:=rw'.get (List.getElem?_eq_getElem l2)
  have fz:=hf z (by simp)
  have fO:=hf TO (by simp)
  have f1:=hf i1 (by simp)
  have f2:=hf i2 (by simp)
  refine aOg D e1 e2 e3 e4 e5 (show s.heap.IsTuple t its.toArray from pt) (show s.heap.IsTuple u jts.toArray from pu) (by simpa using hx) (by simpa using hy) (I.tup_ne ht fz) (I.tup_ne ht fO) (I.tup_ne ht f1) (I.tup_ne ht f2)
   (I.tup_ne hu fz) (I.tup_ne hu fO) (I.tup_ne hu f1) (I.tup_ne hu f2) fun h' a1 a2 a3 a4 a5 kp=>?_
  refine ⟨_,rfl,?_⟩
  have fT:H s.heap.objs.size=none:=I.hok.fresh (Nat.le_refl _)
  have I1:Inv X pins σ (upd H s.heap.objs.size (.tup [xs[i],ys[i]])) { s with heap:=h' }:=by
   refine I.drawn (ch:=[z,TO,i1,i2]) (its:=[x,y]) (fun b hb=>?_) (fun b o hb e=>?_) (Nat.le_refl _) (.cons rx (.cons ry .nil)) (small (by simp)) (.of a5 rfl ⟨_,a5,rfl,_,rfl⟩) (fun b hb=>?_)
   ·refine hf b ?_
    simp only [List.mem_cons,List.not_mem_nil,or_false] at hb ⊢
    rcases hb with h|h|h|h <;> simp [h]
   ·simp only [List.mem_cons,List.not_mem_nil,or_false,not_or] at hb
    exact kp b o hb.1 hb.2.1 hb.2.2.1 hb.2.2.2 e
   ·simp only [List.mem_cons,List.not_mem_nil,or_false] at hb
    rcases hb with rfl|rfl|rfl|rfl
    ·exact ⟨_,a1⟩
    ·exact ⟨_,a2⟩
    ·exact ⟨_,a3⟩
    ·exact ⟨_,a4⟩
  have nT:∀b∈[z,TI,TO,i1,i2],b≠s.heap.objs.size:=fun b hb=>by
   have e:∃o,s.heap.get? b=some o:=by
    simp only [List.mem_cons,List.not_mem_nil,or_false] at hb
    rcases hb with rfl|rfl|rfl|rfl|rfl
    ·exact ⟨_,e1⟩
    ·exact ⟨_,e2⟩
    ·exact ⟨_,e3⟩
    ·exact ⟨_,e4⟩
    ·exact ⟨_,e5⟩
   obtain ⟨o,e⟩:=e
   exact Nat.ne_of_lt (Heap.lt_size e)
  refine wpAny_letOwnedTupleGo_zip (s:={ s with heap:=h' }) a1 fun h2 z2 s2=>?_
  obtain ⟨g0,g1,g2,g3,g4,g5⟩:=fz
  have I2:Inv X pins σ (upd H s.heap.objs.size (.tup [xs[i],ys[i]])) { s with heap:=h2 }:=Inv.turned (s:={ s with heap:=h' }) I1 (t':=s.toks) (it:=z) (fun b o hb e=>(s2.2 b hb).trans e) (by rw [bH (nT z (by simp))];exact g0) g1 g3 g4 g5
  refine ⟨.ref s.heap.objs.size,_,I2,rfl,⟨_,_,_,fT,rfl,rfl,List.getElem?_eq_getElem l1,List.getElem?_eq_getElem l2⟩,?_,fun b hb=>by rw [bH (nT b hb)];exact (hf b hb).1⟩
  exact ⟨z2,s2.extBut _ _ D.h1 (kp TI _ D.h1 D.h5 D.h6 D.h7 e2),⟨_,_,s2.extBut _ _ D.h2 a2⟩,s2.extBut _ _ D.h3 a3,s2.extBut _ _ D.h4 a4⟩
 done:=by
  intro X hP hw hK hc i pins s σ H E I hf st hg
  subst hP hw hK
  obtain ⟨e1,e2,⟨a0,c0,e3⟩,e4,e5⟩:=st
  obtain ⟨ht,hl⟩:=hg
  obtain ⟨its,rv,pt,hz⟩:=I.tuple ht
  have hlen:=rv.length
  refine aSi (I.ok.hd hc) D e1 e2 e3 e4 (show s.heap.IsTuple t its.toArray from pt) (by simp;lia) (I.tup_ne ht (hf z (by simp))) fun h' kp=>⟨rfl,?_⟩
  refine Inv.aNm (ch:=[z,TO,i1,i2]) I (fun b hb=>hf b ?_) fun b o hb e=>?_
  ·simp only [List.mem_cons,List.not_mem_nil,or_false] at hb ⊢
   rcases hb with h|h|h|h <;> simp [h]
  ·simp only [List.mem_cons,List.not_mem_nil,or_false,not_or] at hb
   exact kp b o hb.1 hb.2.1 hb.2.2.1 hb.2.2.2 e
 self:=fun _ _ _ _ _ st h=>wpAny_pyIter_zip st.1 h
section
variable {X:Cx}
def aNd (K:PySem.W.Frag) (ta:TA):TI:=fun σ H R=>ta σ H fun vs H1=>∃t u xs ys,vs=[.ref t,.ref u]∧SqT K H1 t xs∧SqT K H1 u ys∧R (Itz K t u xs ys) H1
theorem aTi {elts:List Expr} {kt:Nat} {tp:Pos} {a b:Expr} {ta:TA} {p pos:Pos} (hg:Gl X "zip") (hm:X.mg "zip"=none) (ha:PA X [a,b] ta) (hs:starEach [a,b] X.env=(false,eval a X.env)::starEach [b] X.env:=by rfl)
  (hs2:starEach [b] X.env=[(false,eval b X.env)]:=by rfl):PI X (.Tuple elts kt tp) (.Call (.Name "zip" p) [a,b] [] pos) (aNd X.K ta):=by
 intro pins s σ H R I h
 refine Call_ (sY I hg hm aQc (PyProof.Rows.callWith_type1 (thn (ha pos pins s σ H _ I h) fun us s1 ⟨vs,H1,I1,r1,q1⟩=>?_) hs (by rw [hs2];rfl)))
 obtain ⟨t,u,xs,ys,e,ht,hu,q⟩:=q1
 subst e
 obtain ⟨its,rv,pt,hz⟩:=I1.tuple ht
 obtain ⟨jts,rw',pu,hz'⟩:=I1.tuple hu
 cases r1 with
 |cons r rr=>
  cases rr with
  |cons r' rr'=>
   cases rr'
   cases r
   cases r'
   refine aO1 (show s1.heap.IsTuple t its.toArray from pt) (show s1.heap.IsTuple u jts.toArray from pu) ?_
   have z1:(zT1 s1.heap t).objs.size=s1.heap.objs.size+1:=Heap.size_push ..
   have z2:(zT2 s1.heap t u).objs.size=s1.heap.objs.size+2:=by rw [Heap.size_push,z1]
   have z3:(zT3 s1.heap t u).objs.size=s1.heap.objs.size+3:=by rw [Heap.size_push,z2]
   have z4:(zT4 s1.heap t u).objs.size=s1.heap.objs.size+4:=by rw [Heap.size_push,z3]
   have D:oK (zT4 s1.heap t u).objs.size (zT2 s1.heap t u).objs.size (zT3 s1.heap t u).objs.size s1.heap.objs.size (zT1 s1.heap t).objs.size:=by
    constructor <;> (show (_:Nat)≠(_:Nat);rw [Ne];intro h;simp only [z1,z2,z3,z4] at h;lia)
   have g5:(zT5 s1.heap t u).get? (zT4 s1.heap t u).objs.size=some (oR .none (zT2 s1.heap t u).objs.size (zT3 s1.heap t u).objs.size):=Heap.get?_push_size _ rfl
   have g4:(zT5 s1.heap t u).get? (zT3 s1.heap t u).objs.size=some (fM .none .none):=Heap.get?_push_of_some _ (Heap.get?_push_size _ rfl)
   have g3:(zT5 s1.heap t u).get? (zT2 s1.heap t u).objs.size=some (fM (.ref s1.heap.objs.size) (.ref (zT1 s1.heap t).objs.size)):=Heap.get?_push_of_some _ (Heap.get?_push_of_some _ (Heap.get?_push_size _ rfl))
   have g2:(zT5 s1.heap t u).get? (zT1 s1.heap t).objs.size=some (mO u 0):=Heap.get?_push_of_some _ (Heap.get?_push_of_some _ (Heap.get?_push_of_some _ (Heap.get?_push_size _ rfl)))
   have g1:(zT5 s1.heap t u).get? s1.heap.objs.size=some (mO t 0):=Heap.get?_push_of_some _ (Heap.get?_push_of_some _ (Heap.get?_push_of_some _ (Heap.get?_push_of_some _ (Heap.get?_push_size _ rfl))))
   have I2:Inv X pins σ H1 { s1 with heap:=zT5 s1.heap t u }:=I1.kept (t':=s1.toks) fun b o e=>Heap.get?_push_of_some _ (Heap.get?_push_of_some _ (Heap.get?_push_of_some _ (Heap.get?_push_of_some _ (Heap.get?_push_of_some _ e))))
   refine wpAny_pyIter_zip (s:={ s1 with heap:=zT5 s1.heap t u }) g5 ⟨_,_,_,_,H1,rfl,I2,aRy (xs:=xs) (ys:=ys) D,⟨g5,g3,⟨_,_,g4⟩,g1,g2⟩,fun b hb=>?_,q⟩
   have hb':s1.heap.objs.size≤b:=by
    simp only [List.mem_cons,List.not_mem_nil,or_false] at hb
    rcases hb with rfl|rfl|rfl|rfl|rfl
    ·rw [z4];exact Nat.le_add_right ..
    ·rw [z2];exact Nat.le_add_right ..
    ·rw [z3];exact Nat.le_add_right ..
    ·exact Nat.le_refl _
    ·rw [z1];exact Nat.le_add_right ..
   exact I1.aKm hb' (I1.hok.fresh hb')
end
def Held (P:Program) (w:World) (K:PySem.W.Frag) (mg:Str→Option Value) (base:Heap) (k:Nat) (f:Addr) (ps:List Str) (sp:Sp):Prop:=
 ∃fd,PySem.W.keepIn K (.ref f)=true∧Binds K fd ps []∧rJ P w K mg base CX0 k f fd ps sp
theorem Ok.held {P:Program} {w:World} {K:PySem.W.Frag} {mg:Str→Option Value} {base:Heap} {k:Nat} {x:Str} {ps:List Str} {sp:Sp} (G:Ok P w K mg base k x ps sp):∃f,mg x=some (.ref f)∧Held P w K mg base k f ps sp:=by
 obtain ⟨f,fd,h1,h2,h3,h4⟩:=G
 exact ⟨f,h1,fd,h2,h3,h4⟩
theorem Held.mono {P:Program} {w:World} {K:PySem.W.Frag} {mg:Str→Option Value} {base:Heap} {j k:Nat} {f:Addr} {ps:List Str} {sp:Sp} (h:Held P w K mg base j f ps sp) (hj:j≤k):Held P w K mg base k f ps sp:=by
 obtain ⟨fd,h1,h2,h3⟩:=h
 exact ⟨fd,h1,h2,h3.mono hj⟩
section
variable {X:Cx} {x:Str} {p pos:Pos} {e:Expr} {es:List Expr} {te:TE} {t:TA}
def aRg (P:Program) (w:World) (K:PySem.W.Frag) (mg:Str→Option Value) (base:Heap) (k:Nat) (te:TE) (t:TA):TE:=fun σ H Q=>te σ H fun v H1=>∃f ps sp,v=.ref f∧Held P w K mg base k f ps sp∧t σ H1 fun vs H2=>sp vs H2 Q E0
theorem aTw {k:Nat} (hr:Room k X.A) (hf:PE X (.Name x p) te) (ha:PA X (e::es) t)
  (he:starEach (e::es) X.env=(false,eval e X.env)::starEach es X.env:=by rfl) (hpl:(backTo pos (starEach es X.env)).any (·.1)=false:=by rfl) :
  PE X (.Call (.Name x p) (e::es) [] pos) (aRg X.prog X.w X.K X.mg X.base k te t):=by
 intro pins s σ H Q I h
 refine wpAny_Call_Name_kw (thn (hf pins s σ H _ I h) fun u s1 ⟨v,H1,I1,r1,q1⟩=>?_)
 obtain ⟨f,ps,sp,rfl,⟨fd,hk,hb,F⟩,q⟩:=q1
 obtain rfl:u=Value.ref f:=r1
 refine PySem.W.callWith_K (h₀:=X.base) I1.ok.mod.kin hk (thn (ha pos pins s1 σ H1 _ I1 q) fun us s2 ⟨vs,H2,I2,r,q2⟩=>⟨I2.kIn,?_⟩) he hpl
 exact aL0 F hr hb .nil aR7 I2 r (by simpa using q2)
end
end L2
namespace PySem
end PySem
namespace L2
open PySem PySem.Spec PyProof.Rows
section
variable {X:Cx}
theorem aTr:OpR X (binaryOp .Add) (fun x y H Q=>∃a b ys,x=.ref a∧y=.ref b∧SqT X.K H a []∧SqT X.K H b ys∧Q (.ref b) H):=by
 intro pins s σ H x y v u Q I rx ry h
 obtain ⟨a,b,ys,rfl,rfl,ha,hb,q⟩:=h
 cases rx
 cases ry
 obtain ⟨its,r1,p1,_⟩:=I.tuple ha
 obtain ⟨its2,r2,p2,_⟩:=I.tuple hb
 cases r1
 obtain ⟨⟨cls,dd,data,sl⟩,ho,hc,n,hd⟩:=id p1
 obtain ⟨⟨cls2,dd2,data2,sl2⟩,ho2,hc2,n2,hd2⟩:=id p2
 simp only at hc hd hc2 hd2
 subst hc hd hc2 hd2
 exact concat_meets ⟨_,ho,rfl⟩ ⟨_,ho2,rfl⟩ noFill_tuple_add seq_tuple_add PySem.F.slot_tuple_add PySem.F.entry_tuple_add (PySem.F.args_tuple_add_2 _ _)
  (tuple_addW0 a b #[] its2.toArray n n2 dd dd2 sl sl2 rfl) ⟨ho,ho2,⟨.ref b,H,I,rfl,q⟩⟩
end
section
variable {X:Cx}
inductive Tk (K:PySem.W.Frag) (H:Hp):V→Bool→Prop
 |int {i}:Tk K H (.int i) false
 |str {x}:Tk K H (.str x) false
 |bl {b}:Tk K H (.bl b) false
 |non:Tk K H .non false
 |lst {a xs}:SqL K H a xs→Tk K H (.ref a) false
 |dct {a kvs}:H a=some (.dK kvs)→Tk K H (.ref a) false
 |tup {a xs}:SqT K H a xs→Tk K H (.ref a) true
def aZd (K:PySem.W.Frag):List V→Hp→VK→Prop:=fun xs H Q=>∃x b,xs=[x,.ty "tuple"]∧Tk K H x b∧Q (.bl b) H
theorem lJ:cW X (.builtin "isinstance") (aZd X.K):=by
 intro pins s σ H xs us Q I r h
 obtain ⟨x,b,rfl,hx,q⟩:=h
 obtain ⟨u,v,rfl,rx,rT⟩:=r.two
 cases rT
 have f0:EP X pins σ Q (.bool b) s:=⟨.bl _,H,I,rfl,q⟩
 have f1:EP X pins σ Q (.bool b) { s with toks:=s.toks+1 }:=⟨.bl _,H,I.tok _,rfl,q⟩
 cases hx with
 |int=>obtain ⟨t,rfl⟩:=rx;exact IsiPair.int_tuple f1
 |str=>obtain ⟨t,rfl⟩:=rx;exact IsiPair.str_tuple f1
 |bl=>cases rx;exact IsiPair.bool_tuple f1
 |non=>cases rx;exact IsiPair.NoneType_tuple f1
 |lst hq=>
  cases rx
  obtain ⟨its,rv,⟨o,n,e,c,_⟩,hz⟩:=I.list hq
  exact IsiPair.list_tuple e c f1
 |dct hq=>
  cases rx
  obtain ⟨_,_,_,_,o,_,_,e,ex,_⟩:=I.hok _ _ hq
  exact IsiPair.dict_tuple e ex.1 f1
 |tup hq=>
  cases rx
  obtain ⟨its,rv,⟨o,e,c,_⟩,hz⟩:=I.tuple hq
  exact IsiPair.tuple_tuple e c f0
end
section
variable {X:Cx} {scope:Scope} {N:List Str} {wi:TI} {te:TE} {σ:St} {H:Hp} {Q:VK}
theorem jH {σ0:St} {j:Nat} (h0:σ0[j]?=some none):σ0=σ0.set j none:=by
 refine (List.ext_getElem? fun i=>?_)
 rw [List.getElem?_set]
 split
 ·rename_i hj
  subst hj
  split
  ·exact h0
  ·rename_i hlt
   exact List.getElem?_eq_none_iff.mpr (by lia)
 ·rfl
theorem aOc (xs:List V) (f:V→V) (σ0:St) (cap:Cap X scope N σ σ0) (hsz:xs.length≤sizeLine)
  (hw:∀R:It→Hp→Prop,(∀J:It,(∀H' i x,Same H H'→xs[i]?=some x→J.go i H'∧∀y H2,J.yld i H' y H2→H2=H'∧y=x)→(∀H',Same H H'→J.stop xs.length H')→R J H)→wi σ H R)
  (he:∀x∈xs,∀H' R l,Same H H'→(∀H2,Same H' H2→R (f x) H2)→te ((σ0.set 0 l).set 0 (some x)) H' R) (h0:σ0[0]?=some none)
  (q:∀D H',Same H H'→H' D=some (.lst (xs.map f))→Q (.ref D) H') :
  iK X scope N wi (bK 0) pY te σ H Q:=by
 refine ⟨σ0,cap,hw _ fun J go stop D hD=>?_⟩
 refine ⟨fun i m σ' H' ys=>i≤xs.length∧m=xs.length - i∧(∃l,σ'=σ0.set 0 l)∧Same H H'∧H' D=some (.lst ys)∧ys=(xs.take i).map f,⟨xs.length,Nat.zero_le _,rfl,⟨none,jH h0⟩,bR hD _,aU,rfl⟩,?_⟩
 rintro i m σ' H' ys ⟨hi,rfl,⟨l,rfl⟩,sm,hL,rfl⟩
 refine ⟨hL,?_⟩
 by_cases hlt:i<xs.length
 ·right
  obtain ⟨g1,g2⟩:=go H' i xs[i] sm (List.getElem?_eq_getElem hlt)
  refine ⟨g1,fun x H2 hy=>?_⟩
  obtain ⟨rfl,rfl⟩:=g2 x H2 hy
  unfold bK pY
  dsimp only
  rw [if_pos rfl]
  refine he xs[i] (List.getElem_mem hlt) _ _ l sm fun H3 s3=>⟨s3 _ _ hL,?_,xs.length - (i+1),by lia,hlt,rfl,⟨some xs[i],?_⟩,?_,aU,?_⟩
  ·rw [List.length_map,List.length_take];lia
  ·rw [List.set_set]
  ·intro b o e
   rw [bH (bF e hD)]
   exact s3 _ _ (sm _ _ e)
  ·rw [List.take_add_one,List.getElem?_eq_getElem hlt,List.map_append]
   rfl
 ·left
  have e:i=xs.length:=by lia
  subst e
  refine ⟨stop _ sm,?_⟩
  rw [List.take_length] at hL
  exact q D _ sm hL
theorem lG {K:PySem.W.Frag} {a:Addr} {xs:List V} {tl:TE} (hS:SqT K H a xs) (h:∀R:VK,R (.ref a) H→tl σ H R) (R:It→Hp→Prop)
  (q:∀J:It,(∀H' i x,Same H H'→xs[i]?=some x→J.go i H'∧∀y H2,J.yld i H' y H2→H2=H'∧y=x)→(∀H',Same H H'→J.stop xs.length H')→R J H):aGc K tl σ H R:=by
 refine h _ ⟨a,rfl,⟨xs,hS⟩,q _ (fun H' i x s e=>⟨⟨xs,x,s.aH hS,e⟩,fun y H2 hy=>?_⟩) fun H' s=>⟨xs,s.aH hS,Nat.le_refl _⟩⟩
 obtain ⟨e1,e2⟩:=hy
 have e3:=e2 xs (s.aH hS)
 rw [e] at e3
 cases e3
 exact ⟨e1,rfl⟩
end
section
variable {X:Cx}
def aZw:V→Option Int→Option Int→Hp→VK→Prop:=fun x lo hi H Q=>∃z,x=.str z∧z.length≤sizeLine∧Q (.str (Txt.slice z lo hi)) H
theorem aFh:SlR X aZw:=by
 intro pins s σ H x v vl vu lo hi sl Q I rx hs pl pu h
 obtain ⟨z,rfl,hz,q⟩:=h
 obtain ⟨t,rfl⟩:=rx
 have fin:∀l u:Option (Int × Tok),l.map (·.1)=lo→u.map (·.1)=hi→s.heap.IsSlice sl l u none→wpAny (model X.prog X.w) X.A (getItem (.str z t) (.ref sl)) (EP X pins σ Q) X.xe s:=fun l u e1 e2 hsl=>by
  subst e1 e2
  refine wpAny_getItem_str_slice (st:=none) hsl rfl ?_
  unfold sliceMade
  have hle:=Txt.slice_le z (l.map (·.1)) (u.map (·.1))
  exact post_val_or_str ⟨Nat.le_trans hle hz,fun t' k=>⟨.str (Txt.slice z (l.map (·.1)) (u.map (·.1))),H,I.tok _,⟨_,rfl⟩,q⟩⟩
 refine ⟨"str",_,F.slot_str_getitem.lookup,typeIs_str _ _ _,?_⟩
 obtain ⟨o,ho,hc,hd⟩:=hs
 cases pl with
 |none=>
  cases pu with
  |none=>exact fin none none rfl rfl ⟨o,ho,hc,hd⟩
  |int j u=>exact fin none (some (j,u)) rfl rfl ⟨o,ho,hc,hd⟩
 |int i t=>
  cases pu with
  |none=>exact fin (some (i,t)) none rfl rfl ⟨o,ho,hc,hd⟩
  |int j u=>exact fin (some (i,t)) (some (j,u)) rfl rfl ⟨o,ho,hc,hd⟩
end
theorem cY {X:Cx} {scope:Scope} {x y:Str} {σ:St} {v:V} (j:Nat) (hf:(y,NameKind.free)∈scope.names) (hj:X.N[j]?=some y) (hs:σ[j]?=some (some v)) (hv:Vis X.env.scope y):Cap X scope [x,y] σ [none,some v]:=
 ⟨rfl,fun i z u h1 h2=>by
  match i,h1,h2 with
  |0,_,h2=>cases h2
  |1,h1,h2=>cases h1;cases h2;exact ⟨hf,j,hj,hs,hv⟩
  |i+2,h1,_=>cases h1⟩
theorem gM {X:Cx} {scope:Scope} {x y:Str} {σ:St}:Cap X scope [x,y] σ [none,none]:=⟨rfl,fun i z u h1 h2=>by
  match i,h1,h2 with
  |0,_,h2=>cases h2
  |1,_,h2=>cases h2
  |i+2,h1,_=>cases h1⟩
section
variable {X:Cx} {a b e:Expr} {es:List Expr} {te:TE} {t:TA} {pos p:Pos} {x:Str}
theorem aTx {k:Nat} (hr:Room k X.A) (hf:VE X (.Name x p) te) (ha:VA X (e::es) t) (hp:jD e=true:=by rfl) (hpl:(backTo pos (starEach es X.env)).any (·.1)=false:=by rfl) :
  VE X (.Call (.Name x p) (e::es) [] pos) (aRg X.prog X.w X.K X.mg X.base k te t):=⟨aTw hr hf.1 ha.1 (cC hp) hpl⟩
theorem aHt {P:Program} {w:World} {K:PySem.W.Frag} {mg:Str→Option Value} {base:Heap} {k:Nat} (hr:Room k X.A) (hf:VE X (.Name x p) te) (ha:VA X (e::es) t) (hp:jD e=true:=by rfl) (hpl:(backTo pos (starEach es X.env)).any (·.1)=false:=by rfl)
  (h1:X.prog=P:=by rfl) (h2:X.w=w:=by rfl) (h3:X.K=K:=by rfl) (h4:X.mg=mg:=by rfl) (h5:X.base=base:=by rfl) :
  VE X (.Call (.Name x p) (e::es) [] pos) (aRg P w K mg base k te t):=by
 subst h1 h2 h3 h4 h5
 exact aTx hr hf ha hp hpl
theorem cZ {K:PySem.W.Frag} (h:X.K=K:=by rfl):IxR X (aYc K):=by subst h;exact aO
theorem iB {K:PySem.W.Frag} {k:Nat} {u:TGs} {n:Nat} (hc:X.calm=true) (h:VGs X es u) (hn:(assignEach es X.env).length=n:=by rfl) (hst:(assignEach es X.env).findIdx? (·.1)=none:=by rfl) (hK:X.K=K:=by rfl):VG X (.Tuple es k pos) (aCk K n u):=by
 subst hK
 exact lM hc h hn hst
theorem aHo {elts:List Expr} {kt:Nat} {tp:Pos} (hg:Gl X "zip") (hm:X.mg "zip"=none) (ha:VA X [a,b] t) (hp:jD a=true:=by rfl) (hp2:jD b=true:=by rfl) :
  VI X (.Tuple elts kt tp) (.Call (.Name "zip" p) [a,b] [] pos) (aNd X.K t):=⟨aTi hg hm ha.1 (cC hp) (cC (es:=[]) hp2)⟩
theorem pP {tg:Expr} {g:TG} (he:VE X e te) (hg:VG X tg g) (hs:swapsWithSole [tg] e pos.line X.env=pure false:=by rfl) (hw:swappedStores [tg] e X.env=pure none:=by rfl)
  (h1:(assignEach [tg] X.env).map (·.2)=[assign tg X.env]:=by rfl):VS X (.Assign [tg] e pos) (jK te g):=⟨aXj he.1 hg.1 hs hw h1⟩
end
theorem aGf {ta:TA} {σ:St} {H:Hp} (n:Nat) (h:∀R:List V→Hp→Prop,R [.int n] H→ta σ H R) (hn:(n:Int)<2 ^ 62) (R:It→Hp→Prop)
  (q:∀J:It,(∀H' i x,Same H H'→((List.range n).map fun i:Nat=>V.int (0+(i:Int)))[i]?=some x→J.go i H'∧∀y H2,J.yld i H' y H2→H2=H'∧y=x) →
   (∀H',Same H H'→J.stop ((List.range n).map fun i:Nat=>V.int (0+(i:Int))).length H')→R J H):aQx ta σ H R:=by
 refine h _ ⟨n,rfl,by lia,hn,?_⟩
 refine q _ (fun H' i x _ e=>?_) fun H' _=>?_
 ·rw [List.getElem?_map] at e
  have hi:i<n:=by
   cases hr:(List.range n)[i]? with
   |none=>rw [hr] at e;cases e
   |some j=>have:=(List.getElem?_eq_some_iff.mp hr).1;rwa [List.length_range] at this
  rw [List.getElem?_range hi] at e
  cases e
  exact ⟨show i<((n:Int)).toNat from by lia,fun y H2 hy=>hy⟩
 ·rw [List.length_map,List.length_range]
  simp [Itr]
theorem aQy {x:Str} {j:Nat} (h:j≤x.length):(Txt.slice x none (some (j:Int))).cps.toList=x.cps.toList.take j:=by
 have e:=StrLaws.sliceText_to (x:=x) (j:=(j:Int)) ⟨by lia,by rw [Array.length_toList];exact Int.ofNat_le.mpr h⟩
 show (StrLaws.sliceText x none (some (j:Int))).cps.toList=_
 rw [e]
 simp
theorem aLc {x:Str} {j:Nat} (h:j≤x.length):(Txt.slice x (some (j:Int)) none).cps.toList=x.cps.toList.drop j:=by
 have e:=StrLaws.sliceText_from (x:=x) (i:=(j:Int)) ⟨by lia,by rw [Array.length_toList];exact Int.ofNat_le.mpr h⟩
 show (StrLaws.sliceText x (some (j:Int)) none).cps.toList=_
 rw [e]
 simp only [Int.toNat_natCast]
 refine List.take_of_length_le ?_
 rw [List.length_drop]
 lia
def put (x:Str) (a:Nat) (c:Nat):Str:=Txt.slice x none (some (a:Int))++⟨#[c]⟩++Txt.slice x (some (a:Int)) none
theorem aHg {x:Str} {a c:Nat} (h:a≤x.length):(put x a c).cps.toList=x.cps.toList.take a++c::x.cps.toList.drop a:=by
 show ((Txt.slice x none (some (a:Int))).cps++#[c]++(Txt.slice x (some (a:Int)) none).cps).toList=_
 rw [Array.toList_append,Array.toList_append,aQy h,aLc h]
 simp
theorem aT3 {x:Str} {a c d:Nat} (h:a≤x.length) (e:put x a c=put x a d):c=d:=by
 have e1:=congrArg (fun y:Str=>y.cps.toList) e
 simp only [aHg h] at e1
 have e2:=List.append_cancel_left e1
 exact (List.cons.inj e2).1
theorem aUa {x:Str} {a c:Nat} (h:a≤x.length):(put x a c).length=x.length+1:=by
 have e:=congrArg List.length (aHg (c:=c) h)
 have l:x.length=x.cps.toList.length:=by rw [Array.length_toList];rfl
 rw [Array.length_toList,List.length_append,List.length_cons,List.length_take,List.length_drop] at e
 show (put x a c).cps.size=_
 lia
theorem aTj {x:Str} {a c d:Nat} (h:a≤x.length) (m:d∈(put x a c).cps):d=c∨d∈x.cps:=by
 have m1:d∈(put x a c).cps.toList:=Array.mem_toList_iff.mpr m
 rw [aHg h] at m1
 rcases List.mem_append.mp m1 with z|z
 ·exact .inr (Array.mem_toList_iff.mp (List.mem_of_mem_take z))
 ·rcases List.mem_cons.mp z with z|z
  ·exact .inl z
  ·exact .inr (Array.mem_toList_iff.mp (List.mem_of_mem_drop z))
end L2
namespace PySem
theorem aIc:∀(ss σ:List Str),(ss.foldl zK σ).length=σ.length+ss.length↔ss.Nodup∧∀k∈ss,k∉σ
 |[],σ=>by simp
 |v::r,σ=>by
  rw [List.foldl_cons,List.length_cons,List.nodup_cons]
  by_cases h:v∈σ
  ·have e:zK σ v=σ:=by unfold zK;rw [if_pos h]
   rw [e]
   have l:=yP r σ
   constructor
   ·intro z;lia
   ·intro z;exact absurd h (z.2 v (by simp))
  ·have e:zK σ v=σ++[v]:=by unfold zK;rw [if_neg h]
   rw [e]
   have ih:=aIc r (σ++[v])
   rw [List.length_append,List.length_singleton] at ih
   rw [show σ.length+(r.length+1)=σ.length+1+r.length by lia,ih]
   constructor
   ·rintro ⟨a,b⟩
    refine ⟨⟨fun z=>(b v z) (by simp),a⟩,fun k hk=>?_⟩
    rcases List.mem_cons.mp hk with rfl|hk
    ·exact h
    ·exact fun z=>b k hk (by simp [z])
   ·rintro ⟨⟨a,b⟩,c⟩
    refine ⟨b,fun k hk z=>?_⟩
    rcases List.mem_append.mp z with z|z
    ·exact c k (by simp [hk]) z
    ·have:k=v:=by simpa using z
     subst this
     exact a hk
theorem aUp (ss:List Str):(qH ss).length=ss.length↔ss.Nodup:=by
 have h:=aIc ss []
 simp only [List.length_nil,Nat.zero_add,List.not_mem_nil,not_false_eq_true,implies_true,and_true] at h
 exact h
end PySem
namespace L2
open PySem PySem.Spec PyProof.Rows
section
variable {X:Cx} {scope:Scope} {N:List Str} {wi:TI} {te:TE} {σ:St} {H:Hp} {Q:VK}
theorem tY {K:PySem.W.Frag} (h:X.K=K:=by rfl):IxR X (aY7 K):=by subst h;exact cG
end
section
variable {X:Cx} {e:Expr} {es:List Expr} {t:TA} {pos:Pos}
def aZp (t:TA):TE:=fun σ H Q=>t σ H fun xs H1=>xs.length≤sizeLine∧∀p H',H1 p=none→Same H1 H'→H' p=some (.tup xs)→Q (.ref p) H'
def aVu (t:TA):TE:=fun σ H Q=>t σ H fun xs H1=>xs.length≤sizeLine∧∀p H',H1 p=none→Same H1 H'→H' p=some (.lst xs)→Q (.ref p) H'
def aWx:TE:=fun _ H Q=>∀p H',H p=none→Same H H'→H' p=some (.dK [])→Q (.ref p) H'
theorem bC {x1} (h:VA X es t):VE X (.Tuple es x1 pos) (aZp t):=⟨by
 intro pins s σ H Q I hq
 refine wpAny_Tuple_spliced (thn (h.1 pos pins s σ H _ I hq) fun us s1 ⟨xs,H1,I1,r,z,q⟩=>⟨by rw [←r.length];exact z,?_⟩)
 have hf:H1 s1.heap.objs.size=none:=I1.hok.fresh (Nat.le_refl _)
 refine ⟨.ref s1.heap.objs.size,upd H1 s1.heap.objs.size (.tup xs),I1.laid (t':=s1.toks) (fun b u e=>Heap.get?_push_of_some _ e) (Nat.le_refl _) ?_,rfl,q _ _ hf (bR hf _) aU⟩
 exact ⟨z,us,r,.of (Heap.get?_push_size _ rfl) rfl ⟨_,Heap.get?_push_size _ rfl,rfl,_,rfl⟩⟩⟩
theorem cP (h:VA X es t):VE X (.List es pos) (aVu t):=⟨by
 intro pins s σ H Q I hq
 refine wpAny_List_spliced (thn (h.1 pos pins s σ H _ I hq) fun us s1 ⟨xs,H1,I1,r,z,q⟩=>⟨by rw [←r.length];exact z,?_⟩)
 have hf:H1 s1.heap.objs.size=none:=I1.hok.fresh (Nat.le_refl _)
 refine ⟨.ref s1.heap.objs.size,upd H1 s1.heap.objs.size (.lst xs),I1.laid (t':=s1.toks) (fun b u e=>Heap.get?_push_of_some _ e) (Nat.le_refl _) ?_,rfl,q _ _ hf (bR hf _) aU⟩
 exact ⟨z,us,0,r,Heap.get?_push_size _ rfl⟩⟩
theorem aQ2:VE X (.Dict [] [] pos) aWx:=VE.imp aP8 fun σ H Q h p hp=>h p _ hp (bR hp _) aU
theorem OpR.imp {f:Value→Value→Sem Value} {r r':R2} (h:OpR X f r) (k:∀x y H Q,r' x y H Q→r x y H Q):OpR X f r':=fun pins s σ H x y v u Q I rx ry q=>h pins s σ H x y v u Q I rx ry (k _ _ _ _ q)
theorem cW.imp {f:Value} {r r':List V→Hp→VK→Prop} (h:cW X f r) (k:∀xs H Q,r' xs H Q→r xs H Q):cW X f r':=fun pins s σ H xs us Q I rv q=>h pins s σ H xs us Q I rv (k _ _ _ q)
def aYh (K:PySem.W.Frag):R2:=fun x y H Q=>∃a b xs ys,x=.ref a∧y=.ref b∧SqT K H a xs∧SqT K H b ys∧xs.length+ys.length≤sizeLine∧∀r H',Same H H'→SqT K H' r (xs++ys)→Q (.ref r) H'
theorem pI:OpR X (binaryOp .Add) (aYh X.K):=OpR.imp (aUl.or aTr) fun x y H Q ⟨a,b,xs,ys,ex,ey,ha,hb,hz,q⟩=>by
 by_cases h:xs=[]
 ·subst h
  exact .inr ⟨a,b,ys,ex,ey,ha,hb,q b H (Same.refl H) hb⟩
 ·refine .inl ⟨a,b,xs,ys,ex,ey,ha,hb,h,hz,fun z=>?_,fun _ p hp=>q p _ (bR hp _) (SqT.of aU)⟩
  subst z
  exact q a H (Same.refl H) (by rw [List.append_nil];exact ha)
def aZ9 (K:PySem.W.Frag):V→Option Int→Option Int→Hp→VK→Prop:=fun x lo hi H Q=>∃a xs,x=.ref a∧SqT K H a xs ∧
 ¬ (HT.sIx xs.length 0 lo=0∧HT.sIx xs.length xs.length hi=xs.length)∧∀p H',Same H H'→H' p=some (.tup (qX xs lo hi))→Q (.ref p) H'
theorem aFw:SlR X (aZ9 X.K):=fun pins s σ H x v vl vu lo hi sl Q I rx hs pl pu ⟨a,xs,e,ha,hn,q⟩=>
 aV3 pins s σ H x v vl vu lo hi sl Q I rx hs pl pu ⟨a,xs,e,ha,hn,fun p hp=>q p _ (bR hp _) aU⟩
def aWl:R2:=fun x y H Q=>∃l b xs zs,x=.ref l∧y=.ref b∧H l=some (.lst xs)∧H b=some (.lst zs)∧xs.length+zs.length≤sizeLine∧∀p H',H p=none→Same H H'→H' p=some (.lst (xs++zs))→Q (.ref p) H'
theorem aB2:OpR X (binaryOp .Add) aWl:=OpR.imp aYf fun x y H Q ⟨l,b,xs,zs,ex,ey,hl,hb,hz,q⟩=>⟨l,b,xs,zs,ex,ey,hl,hb,hz,fun p hp=>q p _ hp (bR hp _) aU⟩
def aX7 (K:PySem.W.Frag):List V→Hp→VK→Prop:=fun xs H Q=>∃p ys,xs=[.ref p]∧(SqL K H p ys∨SqT K H p ys)∧∀l H',H l=none→Same H H'→H' l=some (.lst ys)→Q (.ref l) H'
theorem oN:cW X (.type "list") (aX7 X.K):=cW.imp aE5 fun xs H Q ⟨p,ys,e,h,q⟩=>⟨p,ys,e,h,fun l hl=>q l _ hl (bR hl _) aU⟩
def aT7 (K:PySem.W.Frag):List V→Hp→VK→Prop:=fun xs H Q=>∃p ys,xs=[.ref p]∧SqL K H p ys∧∀l H',H l=none→Same H H'→H' l=some (.tup ys)→Q (.ref l) H'
theorem bI:cW X (.type "tuple") (aT7 X.K):=cW.imp aDp fun xs H Q ⟨p,ys,e,h,q⟩=>⟨p,ys,e,.inl ⟨h,fun l hl=>q l _ hl (bR hl _) aU⟩⟩
theorem lO:MtR X "list.append" aNi:=yN
theorem xH {H H':Hp} {D:Addr} {o:HO} (f:H D=none) (s:Same H H'):Same H (upd H' D o):=fun b u e=>by rw [bH (bF e f)];exact s _ _ e
end
section
variable {X:Cx} {pins:List (Addr × Obj)} {σ:St} {H:Hp} {s:Shared}
end
def Ite (K:PySem.W.Frag) (l:Addr) (xs:List V):It:=
 ⟨fun i H=>SqL K H l xs∧i<xs.length,fun i H v H'=>∃T a,H T=none∧v=.ref T∧H'=upd H T (.tup [.int (i:Nat),a])∧xs[i]?=some a,fun i H=>SqL K H l xs∧xs.length≤i⟩
def etn (e it l:Addr) (i:Nat) (h:Heap):Prop:=(∃old,IsEnum h e it (i:Int) old)∧h.IsListIter it l i
theorem aO3 {P:Program} {w:World} {K:PySem.W.Frag} {elts:List Expr} {kt:Nat} {pos:Pos} {e it l:Addr} {xs:List V} (hne:e≠it) :
  Turn P w K (.Tuple elts kt pos) (Ite K l xs) [e,it] e (etn e it l) where
 mem:=by simp
 obj:=fun i h st b hb=>by
  obtain ⟨⟨old,e1⟩,o,e2,c2,d2⟩:=st
  simp only [List.mem_cons,List.not_mem_nil,or_false] at hb
  rcases hb with rfl|rfl
  ·exact ⟨_,e1,fun v z=>by cases (show Data.fields _=Data.cell v from z)⟩
  ·exact ⟨_,e2,fun v z=>by rw [d2] at z;cases z⟩
 keep:=fun i h h' st k=>by
  obtain ⟨⟨old,e1⟩,o,e2,r⟩:=st
  exact ⟨⟨old,k e (by simp) _ e1⟩,o,k it (by simp) _ e2,r⟩
 item:=by
  intro X hP hw hK hc i pins s σ H E I hf st hg
  subst hP hw hK
  obtain ⟨⟨old,e1⟩,e2⟩:=st
  obtain ⟨hl,l1⟩:=hg
  obtain ⟨its,rv,pl,hz⟩:=I.list hl
  obtain ⟨x,hx,rx⟩:=rv.get (List.getElem?_eq_getElem l1)
  have fe:=hf e (by simp)
  have fi:=hf it (by simp)
  refine wpAny_pyNext_enum_item e1 e2 pl.isList (by simpa using hx) hne fun h' a1 a2 a3 a4 kp=>?_
  refine ⟨_,rfl,?_⟩
  have fT:H s.heap.objs.size=none:=I.hok.fresh (Nat.le_refl _)
  obtain ⟨oi,e2',_⟩:=id e2
  obtain ⟨oi2,a2',_⟩:=id a2
  have I1:Inv X pins σ (upd H s.heap.objs.size (.tup [.int (i:Nat),xs[i]])) { s with heap:=h' }:=by
   refine I.drawn (ch:=[e,it]) (its:=[.int i s.toks,x]) (fun b hb=>hf b hb) (fun b o hb z=>?_) (Nat.le_refl _) (.cons ⟨_,rfl⟩ (.cons rx .nil)) (small (by simp)) (.of a3 rfl ⟨_,a3,rfl,_,rfl⟩) (fun b hb=>?_)
   ·simp only [List.mem_cons,List.not_mem_nil,or_false,not_or] at hb
    exact kp b o hb.1 hb.2 z
   ·simp only [List.mem_cons,List.not_mem_nil,or_false] at hb
    rcases hb with rfl|rfl
    ·exact ⟨_,a1⟩
    ·exact ⟨_,a2'⟩
  have I1':Inv X pins σ (upd H s.heap.objs.size (.tup [.int (i:Nat),xs[i]])) { s with heap:=h',toks:=s.toks+1 }:=I1.tok _
  have nT:∀b∈[e,it],b≠s.heap.objs.size:=fun b hb=>by
   simp only [List.mem_cons,List.not_mem_nil,or_false] at hb
   rcases hb with rfl|rfl
   ·exact Nat.ne_of_lt (Heap.lt_size e1)
   ·exact Nat.ne_of_lt (Heap.lt_size e2')
  refine wpAny_letOwnedTupleGo_enum (s:={ s with heap:=h',toks:=s.toks+1 }) a1 fun h2 z2 s2=>?_
  obtain ⟨g0,g1,g2,g3,g4,g5⟩:=fe
  have I2:Inv X pins σ (upd H s.heap.objs.size (.tup [.int (i:Nat),xs[i]])) { s with heap:=h2,toks:=s.toks+1 }:=Inv.turned (s:={ s with heap:=h',toks:=s.toks+1 }) I1' (t':=s.toks+1) (it:=e) (fun b o hb z=>(s2.2 b hb).trans z) (by rw [bH (nT e (by simp))];exact g0) g1 g3 g4 g5
  refine ⟨.ref s.heap.objs.size,_,I2,rfl,⟨_,_,fT,rfl,rfl,List.getElem?_eq_getElem l1⟩,⟨⟨x,?_⟩,?_⟩,fun b hb=>by rw [bH (nT b hb)];exact (hf b hb).1⟩
  ·rw [show ((i+1:Nat):Int)=(i:Int)+1 from by lia]
   exact z2
  ·obtain ⟨o,ho,r⟩:=a2
   exact ⟨o,(s2.2 it (Ne.symm hne)).trans ho,r⟩
 done:=by
  intro X hP hw hK hc i pins s σ H E I hf st hg
  subst hP hw hK
  obtain ⟨⟨old,e1⟩,e2⟩:=st
  obtain ⟨hl,hi⟩:=hg
  obtain ⟨its,rv,pl,hz⟩:=I.list hl
  have hlen:=rv.length
  refine wpAny_pyNext_enum_end (I.ok.hd hc) e1 e2 pl.isList (by simp;lia) fun h' kp=>⟨rfl,?_⟩
  refine Inv.aNm (ch:=[it]) I (fun b hb=>hf b (List.mem_cons_of_mem _ hb)) fun b o hb z=>kp b o (by simpa using hb) z
 self:=fun _ _ _ _ _ st h=>by
  obtain ⟨⟨old,e1⟩,_⟩:=st
  exact wpAny_pyIter_enum e1 h
section
variable {X:Cx}
def aU8 (K:PySem.W.Frag) (ta:TA):TI:=fun σ H R=>ta σ H fun vs H1=>∃l xs,vs=[.ref l]∧SqL K H1 l xs∧R (Ite K l xs) H1
theorem aTm {elts:List Expr} {kt:Nat} {tp:Pos} {a:Expr} {ta:TA} {p pos:Pos} (hg:Gl X "enumerate") (hm:X.mg "enumerate"=none) (ha:PA X [a] ta) (hs:starEach [a] X.env=[(false,eval a X.env)]:=by rfl) :
  PI X (.Tuple elts kt tp) (.Call (.Name "enumerate" p) [a] [] pos) (aU8 X.K ta):=by
 intro pins s σ H R I h
 refine Call_ (sY I hg hm aFz (PyProof.Rows.callWith_type1 (thn (ha pos pins s σ H _ I h) fun us s1 ⟨vs,H1,I1,r1,q1⟩=>?_) hs (by rfl)))
 obtain ⟨l,xs,e,hl,q⟩:=q1
 subst e
 obtain ⟨its,rv,pl,hz⟩:=I1.list hl
 obtain ⟨u,rfl,ru⟩:=vals1 r1
 cases ru
 refine call_enumerate_list pl.isList fun h' a1 a2 a3 kp=>?_
 have I2:Inv X pins σ H1 { s1 with heap:=h' }:=I1.kept (t':=s1.toks) kp
 refine wpAny_pyIter_enum (s:={ s1 with heap:=h' }) a1 ⟨_,_,_,_,H1,rfl,I2,aO3 (xs:=xs) (l:=l) (Nat.ne_of_gt (Nat.lt_succ_self _)),⟨⟨_,a1⟩,a2⟩,fun b hb=>?_,q⟩
 have hb':s1.heap.objs.size≤b:=by
  simp only [List.mem_cons,List.not_mem_nil,or_false] at hb
  rcases hb with rfl|rfl
  ·exact Nat.le_succ _
  ·exact Nat.le_refl _
 exact I1.aKm hb' (I1.hok.fresh hb')
theorem aSj {K:PySem.W.Frag} {l:Addr} {xs:List V} {g:TG} {tb:TS} {D:Ends} {σ:St} {H:Hp} (Pv:Nat→St→Hp→Prop) (h0:Pv 0 σ H) (hl:∀i σ H,i≤xs.length→Pv i σ H→SqL K H l xs)
  (hs:∀i σ H a T H',xs[i]?=some a→Pv i σ H→H T=none→H'=upd H T (.tup [.int (i:Nat),a])→g (.ref T) σ H' fun σ2 H2=>tb { D with nx:=Pv (i+1),ct:=Pv (i+1),bk:=D.nx } σ2 H2) (hd:∀σ H,Pv xs.length σ H→D.nx σ H) :
  ∃W:Nat→Nat→St→Hp→Prop,(∃m,W 0 m σ H)∧∀i m σ H,W i m σ H →
   ((Ite K l xs).stop i H∧D.nx σ H)∨((Ite K l xs).go i H∧∃N:St→Hp→Prop,(∀σ' H',N σ' H'→∃m',m'<m∧W (i+1) m' σ' H')∧∀x H',(Ite K l xs).yld i H x H'→g x σ H' fun σ2 H2=>tb { D with nx:=N,ct:=N,bk:=D.nx } σ2 H2):=by
 refine ⟨fun i m σ H=>m=xs.length - i∧i≤xs.length∧Pv i σ H,⟨xs.length,by simp,Nat.zero_le _,h0⟩,?_⟩
 rintro i m σ H ⟨rfl,hi,p⟩
 by_cases hlt:i<xs.length
 ·refine .inr ⟨⟨hl i σ H hi p,hlt⟩,Pv (i+1),fun σ' H' p'=>⟨xs.length - (i+1),by lia,rfl,hlt,p'⟩,fun x H' y=>?_⟩
  obtain ⟨T,a,hT,rfl,e,ha⟩:=y
  exact hs i σ H a T H' ha p hT e
 ·have e:i=xs.length:=by lia
  subst e
  exact .inl ⟨⟨hl _ σ H hi p,Nat.le_refl _⟩,hd σ H p⟩
end
end L2
namespace PySem
section
variable {prog:Program} {w:World} {A:Around} {E:Value→Shared→Prop} {s:Shared} {T:String} {r d:Addr} {n:Nat} {P:Nat→Value→Prop} {OK:Heap→Prop}
theorem aI4 {Q:List Value→Shared→Prop} (Kd:PySem.W.KdlSrc prog w T r d n P OK) (hh:A.handled=none) (hok:OK s.heap)
  (hQ:∀h' tk acc,(∀b o,s.heap.get? b=some o→h'.get? b=some o)→ItemsOf P acc n→Q acc.toList { s with heap:=h',toks:=tk }) (hn:n≤sizeLine) :
  wpAny (model prog w) A (collect (.ref r)) Q E s:=by
 unfold collect
 refine wpAny_bind (wpAny_runValue (codeAny_builtin F.entry_proto_collect ?_))
 rw [Around.under_plainId F.plain_proto_collect _]
 show wpAny _ A.in1 (newList [] >>= fun l=>again (.builtin "list.__iadd__" ⟨[l,.ref r],[]⟩)) _ _ s
 refine wpAny_bind (wpAny_newObj_type ?_)
 refine wpAny_pure ⟨plainId_quiet F.plain_list_iadd _,codeAny_builtin F.entry_list_iadd ?_⟩
 rw [Around.under_plainId F.plain_list_iadd _]
 show wpAny _ A.in1 (Builtin.List.listExtendWith (.ref s.heap.objs.size) (.ref r) (.ref s.heap.objs.size)) _ _ _
 have hS:(s.heap.push { cls:=.type "list",data:=.seq ([]:List Value).toArray }).get? s.heap.objs.size=some { cls:=.type "list",data:=.seq #[] 0 }:=Heap.get?_push_size _ rfl
 have hlt:=Kd.there _ hok
 have fin':∀h' tk acc' c',(∀b o,b≠s.heap.objs.size→(s.heap.push { cls:=.type "list",data:=.seq ([]:List Value).toArray }).get? b=some o→h'.get? b=some o) →
   h'.get? s.heap.objs.size=some { cls:=.type "list",dict:=none,data:=.seq acc' c',slots:=#[] }→ItemsOf P acc' n →
   wpAny (model prog w) A (match Value.ref s.heap.objs.size with
   |Value.ref a=>do
    match (←load a).data with
     |Data.seq xs _=>pure xs.toList
     |_=>unsupported "internal:collect"
   |_=>unsupported "internal:collect") Q E { s with heap:=h',toks:=tk }:=by
  intro h' tk acc' c' kp hS' hacc
  show wpAny _ A (load s.heap.objs.size >>= _) _ _ _
  refine wpAny_bind (wpAny_load hS' ?_)
  refine wpAny_pure ?_
  exact hQ h' tk acc' (fun b o e=>kp b o (Nat.ne_of_lt (Heap.lt_size e)) (Heap.get?_push_of_some _ e)) hacc
 refine wpAny_mono (PySem.W.kdl_extend (A:=A) (R:=fun q s'=>∃h' tk acc' c',q=.ok (.ret (.ref s.heap.objs.size))∧s'={ s with heap:=h',toks:=tk }∧(∀b o,b≠s.heap.objs.size→(s.heap.push { cls:=.type "list",data:=.seq ([]:List Value).toArray }).get? b=some o→h'.get? b=some o) ∧
   h'.get? s.heap.objs.size=some { cls:=.type "list",dict:=none,data:=.seq acc' c',slots:=#[] }∧ItemsOf P acc' n)
  (s:={ s with heap:=s.heap.push { cls:=.type "list",data:=.seq ([]:List Value).toArray } }) Kd hh (Kd.keep _ _ hok fun b _ o e=>Heap.get?_push_of_some _ e) s.heap.objs.size (Nat.ne_of_gt hlt.1) (Nat.ne_of_gt hlt.2) (.ref s.heap.objs.size) 0 hS
   (fun h' tk acc' c' kp hS' hacc=>⟨h',tk,acc',c',rfl,rfl,kp,hS',hacc⟩) hn) (fun fin s' h=>?_) (fun e s' h=>?_)
 ·cases fin with
  |done f=>
   obtain ⟨h',tk,acc',c',e,rfl,kp,hS',hacc⟩:=h
   cases e
   exact fin' h' tk acc' c' kp hS' hacc
  |again c'=>exact ⟨h.1,codeAny_mono h.2 fun q s'' hr=>by
    obtain ⟨h',tk,acc',c',rfl,rfl,kp,hS',hacc⟩:=hr
    exact fin' h' tk acc' c' kp hS' hacc⟩
 ·obtain ⟨_,_,_,_,e,_⟩:=h
  cases e
end
theorem sJ {prog:Program} {w:World} (d:Addr) (kvs:List (Str × Value)) (lo:(d == sysModules)=false) (hn:kvs.length≤sizeLine) :
  MeetsIn prog w (Builtin.«tuple.__new__» ⟨[.type "tuple",.ref d],[]⟩)
   (fun A R s=>A.handled=none∧(s.heap.DictOf (strKind prog w) d kvs)∧∀(h':Heap) (tk:Nat) (acc:Array Value),(∀b o,s.heap.get? b=some o→h'.get? b=some o) →
    ItemsOf (fun i v=>∃k x t,kvs[i]?=some (k,x)∧v=.str k t) acc kvs.length→R (.ok (.ret (.ref h'.objs.size))) { s with heap:=h'.push { cls:=.type "tuple",data:=.seq acc },toks:=tk }):=
 .of_wp fun A R s h=>by
  obtain ⟨hh,hm,h⟩:=h
  have hsub:=sub_tuple_self
  have hinit:=init_tuple_lookup
  have hmh:=madeHere_tuple
  have hT:s.TypeIs (.ref d) "dict":=hm.typeIs
  have hh1:A.in1.handled=none:=hh
  obtain ⟨ep,hat⟩:=hm.dictAt
  obtain ⟨o,es,ho,hx⟩:=id hat
  wp_walk using AutoSeq1.wpAny_loadPart' ho,wpAny_typeOf hT,aI4 (hn:=hn) (PySem.W.kdl_dict (knd:=strKind prog w) (kvs:=kvs) (ep:=ep) lo) hh1 hat
  intro h' tk acc kp hacc
  show wpAny _ _ (Builtin.Tuple.tupleExact acc.toList.toArray >>= fun v=>ret v) _ _ _
  unfold Builtin.Tuple.tupleExact
  refine wpAny_bind (wpAny_newObj_type ?_ (show acc.toList.toArray.size≤sizeLine by simp only [Array.toArray_toList];rw [hacc.1];exact hn))
  refine wpAny_pure ⟨_,rfl,?_⟩
  have e:acc.toList.toArray=acc:=by simp
  rw [e]
  refine h h' tk acc kp ⟨hacc.1,fun j v hv=>?_⟩
  obtain ⟨k,x,e1,e2⟩:=hacc.2 j v hv
  obtain ⟨t,rfl⟩:=Value.isStrOf_shape (x:=k) (v:=v) e2
  exact ⟨k,x,t,e1,rfl⟩
end PySem
namespace L2
open PySem PySem.Spec PyProof.Rows
def aTg (w:World) (K:PySem.W.Frag) (d:Addr) (kvs:List (Str × Addr)):Prop:=∃o,K.lookup d=some o∧(d == sysModules)=false∧∀P:Program,o.IsDictOf (strKind P w) (kvs.map fun p=>(p.1,Value.ref p.2))
section
variable {X:Cx}
def aZx (w:World) (K:PySem.W.Frag):R2:=fun x y H Q=>∃d kvs k p,x=.ref d∧y=.str k∧aTg w K d kvs∧(kvs.find? fun q=>decide (q.1=k)).map (·.2)=some p∧Q (.ref p) H
theorem aRp (kvs:List (Str × Addr)) (k:Str) {p:Addr} (h:(kvs.find? fun q=>decide (q.1=k)).map (·.2)=some p):valueAt (kvs.map fun q=>(q.1,Value.ref q.2)) k=some (.ref p):=by
 unfold valueAt
 rw [List.find?_map]
 cases e:kvs.find? fun q=>decide (q.1=k) with
 |none=>rw [e] at h;cases h
 |some q=>
  rw [e] at h
  have h:q.2=p:=Option.some.inj h
  have e':kvs.find? ((fun kv:Str × Value=>decide (kv.1=k)) ∘ fun q=>(q.1,Value.ref q.2))=some q:=e
  rw [e',←h]
  rfl
theorem aT0:IxR X (aZx X.w X.K):=by
 intro value slice pins s σ H x y v u Q I rx ry h hs
 obtain ⟨d,kvs,k,p,rfl,rfl,⟨o,hk,lo,hd⟩,hp,q⟩:=h
 cases rx
 obtain ⟨t,rfl⟩:=ry
 have hm:s.heap.DictOf (strKind X.prog X.w) d (kvs.map fun p=>(p.1,Value.ref p.2)):=Heap.dictOf_iff.mpr ⟨o,I.kIn _ _ hk,hd _⟩
 exact tail_any hm.typeIs slot_dict_getitem.lookup (wpAny_getItem_of (strKind_is _ _ _ _) hm.mapOf (aRp kvs k hp) ⟨.ref p,H,I.tok _,rfl,q⟩) hs
def aZa (w:World) (K:PySem.W.Frag):List V→Hp→VK→Prop:=fun xs H Q=>∃d kvs,xs=[.ref d]∧aTg w K d kvs∧kvs.length≤1000∧∀p H',Same H H'→H' p=some (.tup (kvs.map fun q=>V.str q.1))→Q (.ref p) H'
theorem aEy:∀(kvs:List (Str × Value)) (vs:List Value),vs.length=kvs.length→(∀(j:Nat) (v:Value),vs[j]?=some v→∃k x t,kvs[j]?=some (k,x)∧v=.str k t)→Vals (kvs.map fun q=>V.str q.1) vs
 |[],[],_,_=>.nil
 |(k,x)::r,v::vs,hl,h=>by
  obtain ⟨k',x',t,e,rfl⟩:=h 0 v rfl
  cases e
  exact .cons ⟨t,rfl⟩ (aEy r vs (by simpa using hl) fun j u e=>h (j+1) u e)
theorem aOd (hc:X.calm=true):cW X (.type "tuple") (aZa X.w X.K):=by
 intro pins s σ H xs us Q I r h
 obtain ⟨d,kvs,rfl,⟨o,hk,lo,hd⟩,hl,q⟩:=h
 obtain ⟨u,rfl,ru⟩:=vals1 r
 cases ru
 have hm:s.heap.DictOf (strKind X.prog X.w) d (kvs.map fun p=>(p.1,Value.ref p.2))  :=Heap.dictOf_iff.mpr ⟨o,I.kIn _ _ hk,hd _⟩
 have hn:(kvs.map fun p=>(p.1,Value.ref p.2)).length≤sizeLine:=small (by rw [List.length_map];exact hl)
 refine callType_newIn F.called_tuple (by decide) (F.typeCall_tuple_1 _) (F.newCall_tuple_1 _) (fun obj=>F.args_object_init_2 obj _) F.entry_tuple_new
  (sJ d _ lo hn) ⟨I.ok.hd hc,hm,fun h' tk acc kp hacc=>⟨⟨_,Heap.get?_push_size _ rfl,rfl⟩,?_⟩⟩
 have hv:=aEy (kvs.map fun p=>(p.1,Value.ref p.2)) acc.toList (by rw [Array.length_toList];exact hacc.1) fun j v e=>hacc.2 j v (by rw [←Array.getElem?_toList];exact e)
 rw [List.map_map] at hv
 have hv:Vals (kvs.map fun q=>V.str q.1) acc.toList:=hv
 have I1:Inv X pins σ H { s with heap:=h',toks:=tk }:=I.kept (t':=tk) kp
 refine ⟨.ref h'.objs.size,_,I1.laid (t':=tk) (o:=.tup (kvs.map fun q=>V.str q.1)) (fun b ob e=>Heap.get?_push_of_some _ e) (Nat.le_refl _) ?_,rfl,q _ _ (bR (I1.hok.fresh (Nat.le_refl _)) _) aU⟩
 have ea:acc.toList.toArray=acc:=by simp
 refine ⟨small (by rw [List.length_map];exact hl),acc.toList,hv,?_⟩
 rw [ea]
 exact .of (Heap.get?_push_size _ rfl) rfl ⟨_,Heap.get?_push_size _ rfl,rfl,_,rfl⟩
end
section
variable {X:Cx} {scope:Scope} {N:List Str} {wi:TI} {te:TE} {σ:St} {H:Hp} {Q:VK}
theorem aO6 {K:PySem.W.Frag} {tl:TA} (xs ys:List V) (f:V→V→V) (σ0:St) (cap:Cap X scope N σ σ0) (hsz:xs.length≤sizeLine) (hl:xs.length=ys.length)
  (hw:∀R:List V→Hp→Prop,(∀t u H1,Same H H1→SqT K H1 t xs→SqT K H1 u ys→R [.ref t,.ref u] H1)→tl σ H R)
  (he:∀(i:Nat) (x y:V),xs[i]?=some x→ys[i]?=some y→∀H' R l1 l2,Same H H'→(∀H2,Same H' H2→R (f x y) H2)→te ((((σ0.set 0 l1).set 1 l2).set 0 (some x)).set 1 (some y)) H' R) (h0:σ0[0]?=some none) (h1:σ0[1]?=some none)
  (q:∀D H',Same H H'→H' D=some (.lst (List.zipWith f xs ys))→Q (.ref D) H') :
  iK X scope N (aNd K tl) (aCk K 2 (gR (bK 0) (gR (bK 1) xZ))) pY te σ H Q:=by
 refine ⟨σ0,cap,hw _ fun t u H1 s1 ht hu=>⟨t,u,xs,ys,rfl,ht,hu,fun D hD=>?_⟩⟩
 refine ⟨fun i m σ' H' zs=>i≤xs.length∧m=xs.length - i∧(∃l1 l2,σ'=(σ0.set 0 l1).set 1 l2)∧Same H1 H'∧H' D=some (.lst zs)∧zs=(List.zipWith f xs ys).take i,⟨xs.length,Nat.zero_le _,rfl,⟨none,none,?_⟩,bR hD _,aU,rfl⟩,?_⟩
 ·rw [←jH h0];exact jH h1
 rintro i m σ' H' zs ⟨hi,rfl,⟨l1,l2,rfl⟩,sm,hL,rfl⟩
 refine ⟨hL,?_⟩
 by_cases hlt:i<xs.length
 ·right
  refine ⟨⟨sm.aH ht,sm.aH hu,hlt,by lia⟩,fun v H2 hy=>?_⟩
  obtain ⟨T,a,b,hT,rfl,rfl,ha,hb⟩:=hy
  have s2:Same H' (upd H' T (.tup [a,b])):=bR hT _
  refine ⟨T,[a,b],rfl,.inl (.inl aU),rfl,a,[b],rfl,b,[],rfl,rfl,?_⟩
  unfold pY
  dsimp only
  rw [if_pos rfl]
  refine he i a b ha hb _ _ l1 l2 (fun b o e=>s2 _ _ (sm _ _ (s1 _ _ e))) fun H3 s3=>⟨s3 _ _ (s2 _ _ hL),?_,xs.length - (i+1),by lia,hlt,rfl,⟨some a,some b,?_⟩,?_,aU,?_⟩
  ·rw [List.length_take,List.length_zipWith];lia
  ·rw [List.set_comm _ _ (show (1:Nat)≠0 by decide),List.set_set,List.set_set]
  ·intro c o e
   rw [bH (bF e hD)]
   exact s3 _ _ (s2 _ _ (sm _ _ e))
  ·rw [List.take_add_one,List.getElem?_zipWith,ha,hb]
   rfl
 ·left
  have e:i=xs.length:=by lia
  subst e
  refine ⟨⟨sm.aH ht,Nat.le_refl _⟩,?_⟩
  rw [List.take_of_length_le (by rw [List.length_zipWith];lia)] at hL
  exact q D _ (s1.trans sm) hL
end
section
variable {X:Cx} {a c e:Expr} {st:Stmt} {body:List Stmt} {tc:TT} {tb:TS} {t:TA} {te:TE} {pos p:Pos}
theorem jP:VS X st aQa:=⟨aRa⟩
theorem aQr (hp:PassesOwn (model X.prog X.w) X.A X.env X.xe) (hc:VT X c tc) (hb:VSs X body tb):VS X (.While c body [] pos) (aRd tc tb):=⟨aS9 hp hc.1 hb.1⟩
theorem aUh {elts:List Expr} {kt:Nat} {tp:Pos} (hg:Gl X "enumerate") (hm:X.mg "enumerate"=none) (ha:VA X [a] t) (hp:jD a=true:=by rfl) :
  VI X (.Tuple elts kt tp) (.Call (.Name "enumerate" p) [a] [] pos) (aU8 X.K t):=⟨aTm hg hm ha.1 (cC (es:=[]) hp)⟩
theorem aTk:MtR X "list.pop" aYi:=aV6
theorem aLx:MtR X "list.extend" aM7:=aOt
theorem aL6 {o:Expr} {to:TE} {name:Str} {apos cpos:Pos} {T id:String} {r:V→List V→Hp→VK→Prop} (pa:PlainAttrs T) (slot:Slot T name id) (hty:typeOf (.builtin id)=pure (.type "method_descriptor")) (hm:MtR X id r) (ho:VE X o to)
  (hbase:attributeBase o name X.env (eval o X.env)=eval o X.env:=by rfl) (hline:(apos.endLine == cpos.line)=true:=by rfl):VE X (.Call (.Attribute o name apos) [] [] cpos) (aY8 X.K T r to):=⟨aYd pa slot hty hm ho.1 hbase hline⟩
end
section
variable {P:Program} {w:World} {K:PySem.W.Frag} {mg:Str→Option Value} {base:Heap}
theorem Ok.aQ0 {k:Nat} {x:Str} {ps:List Str} {sp:Sp} {f:Addr} (G:Ok P w K mg base k x ps sp) (m:mg x=some (.ref f)):Held P w K mg base k f ps sp:=by
 obtain ⟨g,m',h⟩:=G.held
 rw [m] at m'
 cases m'
 exact h
end
section
variable {X:Cx} {scope:Scope} {N:List Str} {wi:TI} {te:TE} {σ:St} {H:Hp} {Q:VK}
theorem qI (xs:List V) (Rel:Nat→Hp→V→Prop) (st:∀{i H1 H2 y},Same H1 H2→Rel i H1 y→Rel i H2 y) (su:∀{i H1 D ys zs y},H1 D=some (.lst ys)→Rel i H1 y→Rel i (upd H1 D (.lst zs)) y)
  (σ0:St) (cap:Cap X scope N σ σ0) (hsz:xs.length≤sizeLine)
  (hw:∀R:It→Hp→Prop,(∀J:It,(∀H' i x,Same H H'→xs[i]?=some x→J.go i H'∧∀y H2,J.yld i H' y H2→H2=H'∧y=x)→(∀H',Same H H'→J.stop xs.length H')→R J H)→wi σ H R)
  (he:∀(i:Nat) (x:V),xs[i]?=some x→∀H' R l,Same H H'→(∀y H2,Same H' H2→Rel i H2 y→R y H2)→te ((σ0.set 0 l).set 0 (some x)) H' R) (h0:σ0[0]?=some none)
  (q:∀D H' ys,Same H H'→H' D=some (.lst ys)→ys.length=xs.length→(∀(i:Nat) (y:V),ys[i]?=some y→Rel i H' y)→Q (.ref D) H') :
  iK X scope N wi (bK 0) pY te σ H Q:=by
 refine ⟨σ0,cap,hw _ fun J go stop D hD=>?_⟩
 refine ⟨fun i m σ' H' ys=>i≤xs.length∧m=xs.length - i∧(∃l,σ'=σ0.set 0 l)∧Same H H'∧H' D=some (.lst ys)∧ys.length=i∧∀(j:Nat) (y:V),ys[j]?=some y→Rel j H' y,⟨xs.length,Nat.zero_le _,rfl,⟨none,jH h0⟩,bR hD _,aU,rfl,fun j y e=>by simp at e⟩,?_⟩
 rintro i m σ' H' ys ⟨hi,rfl,⟨l,rfl⟩,sm,hL,hl,hR⟩
 refine ⟨hL,?_⟩
 by_cases hlt:i<xs.length
 ·right
  obtain ⟨g1,g2⟩:=go H' i xs[i] sm (List.getElem?_eq_getElem hlt)
  refine ⟨g1,fun x H2 hy=>?_⟩
  obtain ⟨rfl,rfl⟩:=g2 x H2 hy
  unfold bK pY
  dsimp only
  rw [if_pos rfl]
  refine he i xs[i] (List.getElem?_eq_getElem hlt) _ _ l sm fun y H3 s3 r3=>⟨s3 _ _ hL,by lia,xs.length - (i+1),by lia,hlt,rfl,⟨some xs[i],?_⟩,?_,aU,?_,?_⟩
  ·rw [List.set_set]
  ·intro b o e
   rw [bH (bF e hD)]
   exact s3 _ _ (sm _ _ e)
  ·rw [List.length_append,List.length_singleton,hl]
  ·intro j z ez
   refine su (s3 _ _ hL) ?_
   by_cases hj:j<ys.length
   ·rw [List.getElem?_append_left hj] at ez
    exact st s3 (hR j z ez)
   ·rw [List.getElem?_append_right (by lia)] at ez
    have hj0:j - ys.length=0:=by
     by_cases z0:j - ys.length=0
     ·exact z0
     ·rw [List.getElem?_eq_none (by simp;lia)] at ez;cases ez
    have hj1:j=i:=by lia
    subst hj1
    rw [hj0] at ez
    cases ez
    exact r3
 ·left
  have e:i=xs.length:=by lia
  subst e
  exact ⟨stop _ sm,q D _ ys sm hL hl hR⟩
theorem iV (xs ys:List V) (hly:ys.length=xs.length) (σ0:St) (cap:Cap X scope N σ σ0) (hsz:xs.length≤sizeLine)
  (hw:∀R:It→Hp→Prop,(∀J:It,(∀H' i x,Same H H'→xs[i]?=some x→J.go i H'∧∀y H2,J.yld i H' y H2→H2=H'∧y=x)→(∀H',Same H H'→J.stop xs.length H')→R J H)→wi σ H R)
  (he:∀(i:Nat) (x y:V),xs[i]?=some x→ys[i]?=some y→∀H' R l,Same H H'→(∀H2,Same H' H2→R y H2)→te ((σ0.set 0 l).set 0 (some x)) H' R) (h0:σ0[0]?=some none)
  (q:∀D H',Same H H'→H' D=some (.lst ys)→Q (.ref D) H') :
  iK X scope N wi (bK 0) pY te σ H Q:=by
 refine qI xs (fun i _ y=>ys[i]?=some y) (fun _ h=>h) (fun _ h=>h) σ0 cap hsz hw (fun i x ex H' R l sm r=>?_) h0 fun D H' zs sm hD hl hR=>?_
 ·have hi:i<ys.length:=by rw [hly];exact (List.getElem?_eq_some_iff.mp ex).1
  exact he i x ys[i] ex (List.getElem?_eq_getElem hi) H' R l sm fun H2 s2=>r _ H2 s2 (List.getElem?_eq_getElem hi)
 ·have e:zs=ys:=by
   refine List.ext_getElem? fun i=>?_
   by_cases hi:i<zs.length
   ·rw [hR i zs[i] (List.getElem?_eq_getElem hi),List.getElem?_eq_getElem hi]
   ·rw [List.getElem?_eq_none (by lia),List.getElem?_eq_none (by lia)]
  subst e
  exact q D H' sm hD
theorem aP3 {K:PySem.W.Frag} {tl:TA} (xs ys:List V) (Rel:Nat→Hp→V→Prop) (st:∀{i H1 H2 y},Same H1 H2→Rel i H1 y→Rel i H2 y) (su:∀{i H1 D ys zs y},H1 D=some (.lst ys)→Rel i H1 y→Rel i (upd H1 D (.lst zs)) y)
  (σ0:St) (cap:Cap X scope N σ σ0) (hsz:xs.length≤sizeLine) (hl:xs.length=ys.length)
  (hw:∀R:List V→Hp→Prop,(∀t u H1,Same H H1→SqT K H1 t xs→SqT K H1 u ys→R [.ref t,.ref u] H1)→tl σ H R)
  (he:∀(i:Nat) (x y:V),xs[i]?=some x→ys[i]?=some y→∀H' R l1 l2,Same H H'→(∀z H2,Same H' H2→Rel i H2 z→R z H2)→te ((((σ0.set 0 l1).set 1 l2).set 0 (some x)).set 1 (some y)) H' R) (h0:σ0[0]?=some none) (h1:σ0[1]?=some none)
  (q:∀D H' zs,Same H H'→H' D=some (.lst zs)→zs.length=xs.length→(∀(i:Nat) (z:V),zs[i]?=some z→Rel i H' z)→Q (.ref D) H') :
  iK X scope N (aNd K tl) (aCk K 2 (gR (bK 0) (gR (bK 1) xZ))) pY te σ H Q:=by
 refine ⟨σ0,cap,hw _ fun t u H1 s1 ht hu=>⟨t,u,xs,ys,rfl,ht,hu,fun D hD=>?_⟩⟩
 refine ⟨fun i m σ' H' zs=>i≤xs.length∧m=xs.length - i∧(∃l1 l2,σ'=(σ0.set 0 l1).set 1 l2)∧Same H1 H'∧H' D=some (.lst zs)∧zs.length=i∧∀(j:Nat) (z:V),zs[j]?=some z→Rel j H' z,⟨xs.length,Nat.zero_le _,rfl,⟨none,none,?_⟩,bR hD _,aU,rfl,fun j y e=>by simp at e⟩,?_⟩
 ·rw [←jH h0];exact jH h1
 rintro i m σ' H' zs ⟨hi,rfl,⟨l1,l2,rfl⟩,sm,hL,hlz,hR⟩
 refine ⟨hL,?_⟩
 by_cases hlt:i<xs.length
 ·right
  refine ⟨⟨sm.aH ht,sm.aH hu,hlt,by lia⟩,fun v H2 hy=>?_⟩
  obtain ⟨T,a,b,hT,rfl,rfl,ha,hb⟩:=hy
  have s2:Same H' (upd H' T (.tup [a,b])):=bR hT _
  refine ⟨T,[a,b],rfl,.inl (.inl aU),rfl,a,[b],rfl,b,[],rfl,rfl,?_⟩
  unfold pY
  dsimp only
  rw [if_pos rfl]
  refine he i a b ha hb _ _ l1 l2 (fun b o e=>s2 _ _ (sm _ _ (s1 _ _ e))) fun y H3 s3 r3=>⟨s3 _ _ (s2 _ _ hL),by lia,xs.length - (i+1),by lia,hlt,rfl,⟨some a,some b,?_⟩,?_,aU,?_,?_⟩
  ·rw [List.set_comm _ _ (show (1:Nat)≠0 by decide),List.set_set,List.set_set]
  ·intro c o e
   rw [bH (bF e hD)]
   exact s3 _ _ (s2 _ _ (sm _ _ e))
  ·rw [List.length_append,List.length_singleton,hlz]
  ·intro j z ez
   refine su (s3 _ _ (s2 _ _ hL)) ?_
   by_cases hj:j<zs.length
   ·rw [List.getElem?_append_left hj] at ez
    exact st s3 (st s2 (hR j z ez))
   ·rw [List.getElem?_append_right (by lia)] at ez
    have hj0:j - zs.length=0:=by
     by_cases z0:j - zs.length=0
     ·exact z0
     ·rw [List.getElem?_eq_none (by simp;lia)] at ez;cases ez
    have hj1:j=i:=by lia
    subst hj1
    rw [hj0] at ez
    cases ez
    exact r3
 ·left
  have e:i=xs.length:=by lia
  subst e
  exact ⟨⟨sm.aH ht,Nat.le_refl _⟩,q D _ zs (s1.trans sm) hL hlz hR⟩
end
section
variable {X:Cx} {tg e o i:Expr} {te td ty:TE} {pos:Pos}
theorem aW6 (h:VE X e te):VI X tg e (fun σ H R=>tR X.K te σ H R∨aGc X.K te σ H R):=⟨fun pins s σ H R I q=>q.elim (aNr h.1 pins s σ H R I) (aS0 h.1 pins s σ H R I)⟩
theorem uN (hu:X.A.units+1<cLine) (ho:VE X o td) (hi:VE X i ty) (hs:aWa i):VE X (.Subscript o i pos) (aVs td ty):=⟨aTs hu ho.1 hi.1 hs⟩
def bAf (K:PySem.W.Frag):R2:=fun x y H Q=>∃(a b:Addr) (xs:List Str),x=.ref a∧y=.ref b∧SqL K H a (xs.map V.str)∧SqL K H b (xs.map V.str)∧Q (.bl false) H
theorem aXq (hu:X.A.units<cLine):OpR X (compareOp .NotEq) (bAf X.K):=by
 intro pins s σ H x y v u Q I rx ry h
 obtain ⟨a,b,xs,rfl,rfl,ha,hb,q⟩:=h
 cases rx
 cases ry
 obtain ⟨its,rv,pl,hz⟩:=I.list ha
 obtain ⟨jts,rw',pm,hw⟩:=I.list hb
 have e1:=rv.length
 have e2:=rw'.length
 rw [List.length_map] at e1 e2
 refine SeqAt.RcNeAt.lists (e:=fun _=>true) pl.isList pm.isList (by rw [List.size_toArray,List.size_toArray];lia) hu (fun j h1 h2=>?_) _ _ _ _ ?_
 ·have hj1:j<xs.length:=by rw [List.size_toArray] at h1;lia
  obtain ⟨u1,hu1,t1,rfl⟩:=rv.get (i:=j) (x:=.str xs[j]) (by rw [List.getElem?_map,List.getElem?_eq_getElem hj1];rfl)
  obtain ⟨u2,hu2,t2,rfl⟩:=rw'.get (i:=j) (x:=.str xs[j]) (by rw [List.getElem?_map,List.getElem?_eq_getElem hj1];rfl)
  have g1:its.toArray[j]=Value.str xs[j] t1:=by
   rw [List.getElem_toArray]
   exact (List.getElem?_eq_some_iff.mp hu1).2
  have g2:jts.toArray[j]=Value.str xs[j] t2:=by
   rw [List.getElem_toArray]
   exact (List.getElem?_eq_some_iff.mp hu2).2
  rw [g1,g2]
  have z:=SeqAt.EqAt.str_str (A:=X.A.in1) (s:=s) xs[j] t1 xs[j] t2
  simpa using z
 ·have z:(List.range its.toArray.size).all (fun _=>true)=true:=by rw [List.all_eq_true];intro _ _;rfl
  rw [z]
  exact ⟨.bl _,H,I,rfl,q⟩
end
theorem aUu {K:PySem.W.Frag} {t u:Addr} {xs ys:List V} {g:TG} {tb:TS} {D:Ends} {σ:St} {H:Hp} (Pv:Nat→St→Hp→Prop) (hxy:xs.length=ys.length) (h0:Pv 0 σ H) (hl:∀i σ H,i≤xs.length→Pv i σ H→SqT K H t xs∧SqT K H u ys)
  (hs:∀i σ H a b T H',xs[i]?=some a→ys[i]?=some b→Pv i σ H→H T=none→H'=upd H T (.tup [a,b])→g (.ref T) σ H' fun σ2 H2=>tb { D with nx:=Pv (i+1),ct:=Pv (i+1),bk:=D.nx } σ2 H2) (hd:∀σ H,Pv xs.length σ H→D.nx σ H) :
  ∃W:Nat→Nat→St→Hp→Prop,(∃m,W 0 m σ H)∧∀i m σ H,W i m σ H →
   ((Itz K t u xs ys).stop i H∧D.nx σ H)∨((Itz K t u xs ys).go i H∧∃N:St→Hp→Prop,(∀σ' H',N σ' H'→∃m',m'<m∧W (i+1) m' σ' H')∧∀x H',(Itz K t u xs ys).yld i H x H'→g x σ H' fun σ2 H2=>tb { D with nx:=N,ct:=N,bk:=D.nx } σ2 H2):=by
 refine ⟨fun i m σ H=>m=xs.length - i∧i≤xs.length∧Pv i σ H,⟨xs.length,by simp,Nat.zero_le _,h0⟩,?_⟩
 rintro i m σ H ⟨rfl,hi,p⟩
 by_cases hlt:i<xs.length
 ·refine .inr ⟨⟨(hl i σ H hi p).1,(hl i σ H hi p).2,hlt,by lia⟩,Pv (i+1),fun σ' H' p'=>⟨xs.length - (i+1),by lia,rfl,hlt,p'⟩,fun x H' y=>?_⟩
  obtain ⟨T,a,b,hT,rfl,e,ha,hb⟩:=y
  exact hs i σ H a b T H' ha hb p hT e
 ·have e:i=xs.length:=by lia
  subst e
  exact .inl ⟨⟨(hl _ σ H hi p).1,Nat.le_refl _⟩,hd σ H p⟩
theorem aO5 {X:Cx} {i o:Expr} {td ty:TE} {pos:Pos} (hu:X.A.units+1<cLine) (hi:VE X i ty) (ho:VE X o td) (h1:behindInMarks .NotIn o=false:=by first|exact nobehind _ (by decide) (by decide)|rfl):VT X (.Compare i [.NotIn] [o] pos) (tB (aMu ty td)):=⟨aR6 (aPi hu hi.1 ho.1) h1⟩
theorem gO {X:Cx} {K:PySem.W.Frag} (h:X.K=K:=by rfl):OpR X (compareOp .NotIn) (rIn K true):=by subst h;exact xO
def sel {α:Type} (p:Nat→Bool):Nat→List α→List α
 |_,[]=>[]
 |i,x::r=>if p i then x::sel p (i+1) r else sel p (i+1) r
theorem aBn {α:Type} (p:Nat→Bool) (x:α):∀(k:Nat) (xs:List α),sel p k (xs++[x])=sel p k xs++(if p (k+xs.length) then [x] else [])
 |k,[]=>by
  show (if p k then x::sel p (k+1) [] else sel p (k+1) [])=[]++(if p (k+0) then [x] else [])
  rw [Nat.add_zero,List.nil_append]
  rfl
 |k,y::r=>by
  show (if p k then y::sel p (k+1) (r++[x]) else sel p (k+1) (r++[x]))=(if p k then y::sel p (k+1) r else sel p (k+1) r)++_
  rw [aBn p x (k+1) r,List.length_cons,show k+1+r.length=k+(r.length+1) by lia]
  split <;> rfl
theorem uJ {α:Type} (p:Nat→Bool):∀(k:Nat) (xs:List α),(sel p k xs).length≤xs.length
 |_,[]=>Nat.le_refl _
 |k,y::r=>by
  have:=uJ p (k+1) r
  show (if p k then y::sel p (k+1) r else sel p (k+1) r).length≤r.length+1
  split
  ·rw [List.length_cons];lia
  ·lia
section
variable {X:Cx} {scope:Scope} {N:List Str} {wi:TI} {te:TE} {σ:L2.St} {H:Hp} {Q:VK}
theorem aIu {tt:TT} (xs:List V) (p:Nat→Bool) (σ0:L2.St) (cap:Cap X scope N σ σ0) (hsz:xs.length≤sizeLine)
  (hw:∀R:It→Hp→Prop,(∀J:It,(∀H' i x,Same H H'→xs[i]?=some x→J.go i H'∧∀y H2,J.yld i H' y H2→H2=H'∧y=x)→(∀H',Same H H'→J.stop xs.length H')→R J H)→wi σ H R)
  (ht:∀(i:Nat) (x:V),xs[i]?=some x→∀H' R l,Same H H'→(∀H2,Same H' H2→R (p i) H2)→tt ((σ0.set 0 l).set 0 (some x)) H' R) (h0:σ0[0]?=some none)
  (q:∀D H',Same H H'→H' D=some (.lst (sel p 0 xs))→Q (.ref D) H') :
  iK X scope N wi (bK 0) tt (wA 0) σ H Q:=by
 refine ⟨σ0,cap,hw _ fun J go stop D hD=>?_⟩
 refine ⟨fun i m σ' H' ys=>i≤xs.length∧m=xs.length - i∧(∃l,σ'=σ0.set 0 l)∧Same H H'∧H' D=some (.lst ys)∧ys=sel p 0 (xs.take i),⟨xs.length,Nat.zero_le _,rfl,⟨none,jH h0⟩,bR hD _,aU,rfl⟩,?_⟩
 rintro i m σ' H' ys ⟨hi,rfl,⟨l,rfl⟩,sm,hL,rfl⟩
 refine ⟨hL,?_⟩
 by_cases hlt:i<xs.length
 ·right
  obtain ⟨g1,g2⟩:=go H' i xs[i] sm (List.getElem?_eq_getElem hlt)
  refine ⟨g1,fun x H2 hy=>?_⟩
  obtain ⟨rfl,rfl⟩:=g2 x H2 hy
  unfold bK
  dsimp only
  have hj:0<σ0.length:=by
   by_cases z:0<σ0.length
   ·exact z
   ·rw [List.getElem?_eq_none (by lia)] at h0;cases h0
  have tk:sel p 0 (xs.take (i+1))=sel p 0 (xs.take i)++(if p i then [xs[i]] else []):=by
   rw [List.take_add_one,List.getElem?_eq_getElem hlt]
   show sel p 0 (xs.take i++[xs[i]])=_
   rw [aBn,List.length_take,Nat.zero_add,Nat.min_eq_left (Nat.le_of_lt hlt)]
  refine ht i xs[i] (List.getElem?_eq_getElem hlt) _ _ l sm fun H3 s3=>?_
  cases hp:p i with
  |true=>
   rw [if_pos rfl]
   refine ⟨xs[i],by rw [List.set_set,List.getElem?_set_self hj],s3 _ _ hL,?_,xs.length - (i+1),by lia,hlt,rfl,⟨some xs[i],by rw [List.set_set]⟩,?_,aU,?_⟩
   ·have:=uJ p 0 (xs.take i)
    rw [List.length_take] at this
    lia
   ·intro b o e
    rw [bH (bF e hD)]
    exact s3 _ _ (sm _ _ e)
   ·rw [tk,hp];rfl
  |false=>
   rw [if_neg (by simp)]
   refine ⟨s3 _ _ hL,xs.length - (i+1),by lia,hlt,rfl,⟨some xs[i],by rw [List.set_set]⟩,sm.trans s3,s3 _ _ hL,?_⟩
   rw [tk,hp]
   simp
 ·left
  have e:i=xs.length:=by lia
  subst e
  refine ⟨stop _ sm,?_⟩
  rw [List.take_length] at hL
  exact q D _ sm hL
end
theorem aUn {X:Cx} {i0:Nat} {x0:Str} {pos' spos:Pos} {elt target iter:Expr} {ifs:List Expr} {scope:Scope} {pos:Pos} {N:List Str} {wi:TI} {g:TG} {tt:TT} {te:TE}
  (hN:X.N.Nodup) (hi0:X.N[i0]?=some x0) (hx0:Loc X.env.scope x0) (C:aCq scope N) (hfr:∀y,(y,NameKind.free)∈scope.names→X.env.kindOf y=some .cell∨X.env.kindOf y=some .free) (hc:X.calm=true)
  (hi:PI X target iter wi)
  (hb:∀cl s H fp,PG (cxC X N scope cl s H fp) target g∧aQ4 (cxC X N scope cl s H fp) ifs tt∧PE (cxC X N scope cl s H fp) elt te)
  (hs:∀x,foldedSetIterable iter X.env x=pure x:=by intro _;rfl) (hsw:swapsWith (.ListComp elt [⟨target,iter,ifs,0⟩] scope pos) (some (.Name x0 pos')) spos.line X.env=pure true:=by rfl)
  (hf:X.fn x0=true∨X.env.scope.names.lookup x0=some .local:=by first|exact .inl rfl|exact .inr rfl|assumption) :
  PS X (.Assign [.Name x0 pos'] (.ListComp elt [⟨target,iter,ifs,0⟩] scope pos) spos) (jK (iK X scope N wi g tt te) (bK i0)):=by
 intro pins s σ H Dn I hq
 obtain ⟨σ0,cap,hq⟩:=hq
 obtain ⟨cl,hcl,p1,p2⟩:=aCt (scope:=scope) (env:=X.env) (fun y hy hk=>by
  obtain ⟨n,k⟩:=y
  cases hk
  exact I.ok.has n (hfr n hy))
 rw [exec_Assign_Name_used _ _ _ _ hsw]
 refine wpAny_bind (wpAny_standAt (wpAny_bind ?_))
 show wpAny _ X.A (do let _ ←comprehension (.ListComp elt [⟨target,iter,ifs,0⟩] scope pos) scope X.env _ (newList []) false (eval iter X.env) (some (assign (.Name x0 pos') X.env))) _ _ s
 refine wpAny_bind (wpAny_mono (wpAny_comprehension_free (use:=some (assign (.Name x0 pos') X.env)) (Q:=fun _ s'=>SP X pins Dn .next s') rfl hs hcl C.kind C.names (thn (hi pins s σ H _ I hq) fun xv s1 h1=>thn h1 fun itv s2 h2=>?_))
  (fun _ s' hq=>wpAny_pure (wpAny_pure hq)) fun _ _ e=>e)
 obtain ⟨it,fp,tn,J,H2,rfl,I2,T,st2,f2,q2⟩:=h2
 refine wpAny_newObj_type (wpAny_newFunctionEnv C.cell (by intro y hy;simp at hy) (fun h₁ hns₁ hsb₁=>?_) C.kind)
 dsimp only at hns₁ hsb₁ ⊢
 have hD:H2 s2.heap.objs.size=none:=I2.hok.fresh (Nat.le_refl _)
 have I3:Inv X pins σ (upd H2 s2.heap.objs.size (.lst [])) { s2 with heap:=s2.heap.push { cls:=.type "list",dict:=none,data:=.seq ([]:List Value).toArray } }:=
  I2.laid (t':=s2.toks) (fun b u e=>Heap.get?_push_of_some _ e) (Nat.le_refl _) ⟨Nat.zero_le _,[],0,.nil,Heap.get?_push_size _ rfl⟩
 generalize hs3:({ s2 with heap:=s2.heap.push { cls:=.type "list",dict:=none,data:=.seq ([]:List Value).toArray } }:Shared)=s3 at I3
 have hh3:s2.heap.push { cls:=.type "list",dict:=none,data:=.seq ([]:List Value).toArray }=s3.heap:=by rw [←hs3]
 rw [hh3] at hns₁ hsb₁
 have fl2:∀b∈fp,b<s2.heap.objs.size:=fun b hb=>by
  obtain ⟨o,e,_⟩:=T.obj _ _ st2 b hb
  exact Heap.lt_size e
 have fl3:∀b∈fp,b<s3.heap.objs.size:=fun b hb=>by
  rw [←hh3,Heap.size_push]
  exact Nat.lt_succ_of_lt (fl2 b hb)
 have f3:∀b∈fp,vY X pins (upd H2 s2.heap.objs.size (.lst [])) b:=fun b hb=>by
  obtain ⟨f0,fr⟩:=f2 b hb
  exact ⟨by rw [bH (Nat.ne_of_lt (fl2 b hb))];exact f0,fr⟩
 have keep3:∀b o,s3.heap.get? b=some o→h₁.get? b=some o:=fun b o e=>hsb₁.extBut b o (Nat.ne_of_lt (Heap.lt_size e)) (Heap.get?_push_of_some _ e)
 have I4:=aKg (tk:=s3.toks) I3 C hfr p1 p2 cap f3 fl3 hns₁ keep3
 have st4:tn 0 h₁:=T.keep _ _ _ st2 fun b hb o e=>keep3 b o (by rw [←hh3];exact Heap.get?_push_of_some _ e)
 obtain ⟨W,⟨m0,w0⟩,turn⟩:=q2 s2.heap.objs.size hD
 have fpc:∀{H':Hp},(∀b∈fp,H' b=none)→∀b∈fp,vY (cxC X N scope cl s3 (upd H2 s2.heap.objs.size (.lst [])) fp) [] H' b:=fun {H'} hn b hb=>by
  obtain ⟨e1,e2⟩:=I4.ok.exf b hb
  exact ⟨hn b hb,e1,I4.ok.exfs b hb,.inl hb,e2,fun p hp=>absurd (show p∈([]:List (Addr × Obj)) from hp) (by simp)⟩
 have loop:∀s4:Shared,s4={ s3 with heap:=h₁,toks:=s3.toks } →
   codeAny (model X.prog X.w) X.A (.compLoop (.ListComp elt [⟨target,iter,ifs,0⟩] scope pos) 0 (.ref it) (.ref s2.heap.objs.size) (compEnvC scope cl s3.heap.objs.size X.env))
    (compPost (model X.prog X.w) X.A X.xe (some (assign (.Name x0 pos') X.env)) (fun _ s'=>SP X pins Dn .next s') (.ref s2.heap.objs.size) s3.heap.objs.size) s4:=by
  rintro s4 rfl
  refine aEg (fun n s'=>∃i σ' H' ys,Inv (cxC X N scope cl s3 (upd H2 s2.heap.objs.size (.lst [])) fp) [] σ' H' s'∧tn i s'.heap∧(∀b∈fp,H' b=none)∧W i n σ' H' ys) ?_ m0 ⟨0,σ0,_,[],I4,st4,fun b hb=>(f3 b hb).1,w0⟩
  rintro n s5 ⟨i,σ5,H5,ys,I5,st5,fr5,w5⟩
  obtain ⟨hacc,w5⟩:=turn i n σ5 H5 ys w5
  have noE:∀{α:Type} {t:Sem α} {Q':α→Shared→Prop} {E':Value→Shared→Prop} {s':Shared},wpAny (model X.prog X.w) X.A t Q' (fun _ _=>False) s'→wpAny (model X.prog X.w) X.A t Q' E' s':=fun h=>wpAny_mono h (fun _ _ q=>q) fun _ _ z=>z.elim
  rcases w5 with ⟨stop,qn⟩|⟨go,step⟩
  ·refine noE (thn (T.done (cxC X N scope cl s3 (upd H2 s2.heap.objs.size (.lst [])) fp) rfl rfl rfl hc i [] s5 σ5 H5 _ I5 (fpc fr5) st5 stop) fun r s6 ⟨hr,I6⟩=>?_)
   subst hr
   obtain ⟨m6,hn6,_⟩:=I6.loc
   have kp:∀b o,b≠s3.heap.objs.size→s6.heap.get? b=some o→s6.heap.get? b=some o:=fun b o hb e=>e
   have ne3:∀b o,s3.heap.get? b=some o→b≠s3.heap.objs.size:=fun b o e=>Nat.ne_of_lt (Heap.lt_size e)
   have un:Un (frs X.stack) fp (upd H2 s2.heap.objs.size (.lst [])) H5 s3.heap s6.heap:=by
    have u:=I6.base
    exact ⟨fun b o e n hb hx=>kp b o (ne3 b o e) (u.keep b o e n hb hx),fun b o e n hb hx=>by
     obtain ⟨sl,e1⟩:=u.slot b o e n hb hx
     exact ⟨sl,kp b _ (ne3 b o e) e1⟩,u.free,fun b o e hx=>by
     obtain ⟨o',e1⟩:=u.there b o e hx
     exact ⟨o',kp b _ (ne3 b o e) e1⟩,u.tups,u.frzs,u.tbls⟩
   have hok:HOk X.prog X.w H5 s6.heap:=fun b u e=>by
    refine (I6.hok b u e).stay (fun c v hc' q=>kp c v ?_ q) (fun _ q=>q) fun _ _ q=>q
    have hfree:H5 s3.heap.objs.size=none:=I6.free
    rintro rfl
    rcases hc' with z|z
    ·rw [z] at hfree;rw [hfree] at e;cases e
    ·rw [hfree] at z;cases z
   have I7:Inv X pins σ H5 s6:=by
    refine I3.call' (s':=s6) I6.os un hok I6.bare fun b hb=>?_
    obtain ⟨f0,f1,f2',f3',f4,f5⟩:=f3 b hb
    exact ⟨f3',f1,f4,f5⟩
   have hfree:H5 s3.heap.objs.size=none:=I6.free
   obtain ⟨g0,g1,g2,g3,g4,g5⟩:=I3.aKm (Nat.le_refl _) hfree
   show wpAny (model X.prog X.w) X.A (assign (.Name x0 pos') X.env (.ref s2.heap.objs.size)) _ _ s6
   refine wpAny_assign_Name (aD7 I7 hN hi0 hx0 (v:=.ref s2.heap.objs.size) rfl (fun s8 I8 ⟨a,sb,ha⟩=>?_) hf)
   have nea:s3.heap.objs.size≠a:=by
    rcases ha with z|z
    ·rw [z];exact g1
    ·exact fun e=>g4 x0 a z e.symm
   refine ⟨m6,hn6.sameBut sb nea,fun h' sb'=>?_⟩
   exact ⟨_,H5,Inv.turned I8 (t':=s8.toks) (it:=s3.heap.objs.size) (fun b o hb e=>sb'.extBut b o hb e) g0 g1 g3 g4 g5,qn⟩
  ·refine noE (thn (T.item (cxC X N scope cl s3 (upd H2 s2.heap.objs.size (.lst [])) fp) rfl rfl rfl hc i [] s5 σ5 H5 (fun _ _=>False) I5 (fpc fr5) st5 go) fun r s6 ⟨u,hr,h6⟩=>?_)
   subst hr
   refine noE (thn h6 fun _ s7 ⟨x,H7,I7,r7,y7,st7,fr7⟩=>?_)
   obtain ⟨hg,ht,he⟩:=hb cl s3 (upd H2 s2.heap.objs.size (.lst [])) fp
   have I7':=I7.pinned (fpc fr7) (T.obj _ _ st7)
   have back:∀{σ8:St} {H8:Hp} {s8:Shared},Inv (cxC X N scope cl s3 (upd H2 s2.heap.objs.size (.lst [])) fp) ([]++zJ fp s7.heap) σ8 H8 s8→tn (i+1) s8.heap∧∀b∈fp,H8 b=none:=fun {σ8 H8 s8} I8=>
    ⟨T.keep _ _ _ st7 fun b hb o e=>(I8.pin (b,o) (List.mem_append_right _ (List.mem_append_right _ (lH hb e)))).1,fun b hb=>by
     obtain ⟨o,e,d⟩:=T.obj _ _ st7 b hb
     exact (I8.pin (b,o) (List.mem_append_right _ (List.mem_append_right _ (lH hb e)))).2.1⟩
   refine noE (thn (hg _ s7 σ5 H7 x u _ I7' r7 (step x H7 y7)) fun _ s8 ⟨σ8,H8,I8,q8⟩=>?_)
   refine noE (thn (ht _ s8 σ8 H8 _ I8 q8) fun b s9 ⟨H9,I9,q9⟩=>?_)
   cases b with
   |false=>
    rw [if_neg Bool.false_ne_true] at q9 ⊢
    obtain ⟨_,m',hm,w9⟩:=q9
    exact ⟨m',hm,i+1,σ8,H9,ys,I9.nR,(back I9).1,(back I9).2,w9⟩
   |true=>
    rw [if_pos rfl] at q9 ⊢
    refine noE (thn (he _ s9 σ8 H9 _ I9 q9) fun yv s10 ⟨y,H10,I10,r10,hacc10,hlen,m',hm,w10⟩=>?_)
    refine noE (thn (yN _ s10 σ8 H10 (.ref s2.heap.objs.size) [y] (.ref s2.heap.objs.size) [yv] (fun _ H11=>H11=upd H10 s2.heap.objs.size (.lst (ys++[y]))) I10 rfl (.cons r10 .nil) ⟨_,_,_,rfl,rfl,hacc10,hlen,rfl⟩) fun _ s11 ⟨z,H11,I11,_,e11⟩=>?_)
    subst e11
    exact ⟨m',hm,i+1,σ8,_,ys++[y],I11.nR,(back I11).1,(back I11).2,w10⟩
 have fin:=codeAny_compStart_list (loop { s3 with heap:=h₁,toks:=s3.toks } rfl) (T.self _ _ _ _ _ st4 (loop { s3 with heap:=h₁,toks:=s3.toks } rfl))
 subst hs3
 exact fin
theorem kW {X:Cx} {i0:Nat} {x0:Str} {pos' spos:Pos} {elt target iter:Expr} {ifs:List Expr} {scope:Scope} {pos:Pos} {N:List Str} {wi:TI} {g:TG} {tt:TT} {te:TE}
  (hN:X.N.Nodup) (hi0:X.N[i0]?=some x0) (hx0:Loc X.env.scope x0) (C:aCq scope N) (hfr:∀y,(y,NameKind.free)∈scope.names→X.env.kindOf y=some .cell∨X.env.kindOf y=some .free) (hc:X.calm=true)
  (hi:VI X target iter wi)
  (hb:∀cl s H fp,VG (cxC X N scope cl s H fp) target g∧VF (cxC X N scope cl s H fp) ifs tt∧VE (cxC X N scope cl s H fp) elt te)
  (hs:∀x,foldedSetIterable iter X.env x=pure x:=by intro _;rfl) (hsw:swapsWith (.ListComp elt [⟨target,iter,ifs,0⟩] scope pos) (some (.Name x0 pos')) spos.line X.env=pure true:=by rfl)
  (hf:X.fn x0=true∨X.env.scope.names.lookup x0=some .local:=by first|exact .inl rfl|exact .inr rfl|assumption) :
  VS X (.Assign [.Name x0 pos'] (.ListComp elt [⟨target,iter,ifs,0⟩] scope pos) spos) (jK (iK X scope N wi g tt te) (bK i0)):=
 ⟨aUn hN hi0 hx0 C hfr hc hi.1 (fun cl s H fp=>⟨(hb cl s H fp).1.1,(hb cl s H fp).2.1.1,(hb cl s H fp).2.2.1⟩) hs hsw hf⟩
section
variable {te:TE} {H:Hp} {Q:VK}
theorem aLf (xs:List V) (Rel:Nat→Hp→V→Prop) (st:∀{i H1 H2 y},Same H1 H2→Rel i H1 y→Rel i H2 y) (su:∀{i H1 D ys zs y},H1 D=some (.lst ys)→Rel i H1 y→Rel i (upd H1 D (.lst zs)) y)
  (σ0:St) (hsz:xs.length≤sizeLine)
  (J:It) (go:∀H' i x,Same H H'→xs[i]?=some x→J.go i H'∧∀y H2,J.yld i H' y H2→H2=H'∧y=x) (stop:∀H',Same H H'→J.stop xs.length H')
  (he:∀(i:Nat) (x:V),xs[i]?=some x→∀H' R l,Same H H'→(∀y H2,Same H' H2→Rel i H2 y→R y H2)→te ((σ0.set 0 l).set 0 (some x)) H' R) (h0:σ0[0]?=some none)
  (q:∀D H' ys,Same H H'→H' D=some (.lst ys)→ys.length=xs.length→(∀(i:Nat) (y:V),ys[i]?=some y→Rel i H' y)→Q (.ref D) H') :
  ∀D,H D=none→∃W:Nat→Nat→St→Hp→List V→Prop,(∃m,W 0 m σ0 (upd H D (.lst [])) []) ∧
   ∀i m σ' H' ys,W i m σ' H' ys→H' D=some (.lst ys)∧((J.stop i H'∧Q (.ref D) H')∨(J.go i H'∧∀x H2,J.yld i H' x H2→bK 0 x σ' H2 fun σ3 H3=>pY σ3 H3 fun b H4=>
    if b=true then te σ3 H4 fun y H5=>H5 D=some (.lst ys)∧ys.length<sizeLine∧∃m',m'<m∧W (i+1) m' σ3 (upd H5 D (.lst (ys++[y]))) (ys++[y]) else H4 D=some (.lst ys)∧∃m',m'<m∧W (i+1) m' σ3 H4 ys)):=by
 intro D hD
 refine ⟨fun i m σ' H' ys=>i≤xs.length∧m=xs.length - i∧(∃l,σ'=σ0.set 0 l)∧Same H H'∧H' D=some (.lst ys)∧ys.length=i∧∀(j:Nat) (y:V),ys[j]?=some y→Rel j H' y,⟨xs.length,Nat.zero_le _,rfl,⟨none,jH h0⟩,bR hD _,aU,rfl,fun j y e=>by simp at e⟩,?_⟩
 rintro i m σ' H' ys ⟨hi,rfl,⟨l,rfl⟩,sm,hL,hl,hR⟩
 refine ⟨hL,?_⟩
 by_cases hlt:i<xs.length
 ·right
  obtain ⟨g1,g2⟩:=go H' i xs[i] sm (List.getElem?_eq_getElem hlt)
  refine ⟨g1,fun x H2 hy=>?_⟩
  obtain ⟨rfl,rfl⟩:=g2 x H2 hy
  unfold bK pY
  dsimp only
  rw [if_pos rfl]
  refine he i xs[i] (List.getElem?_eq_getElem hlt) _ _ l sm fun y H3 s3 r3=>⟨s3 _ _ hL,by lia,xs.length - (i+1),by lia,hlt,rfl,⟨some xs[i],?_⟩,?_,aU,?_,?_⟩
  ·rw [List.set_set]
  ·intro b o e
   rw [bH (bF e hD)]
   exact s3 _ _ (sm _ _ e)
  ·rw [List.length_append,List.length_singleton,hl]
  ·intro j z ez
   refine su (s3 _ _ hL) ?_
   by_cases hj:j<ys.length
   ·rw [List.getElem?_append_left hj] at ez
    exact st s3 (hR j z ez)
   ·rw [List.getElem?_append_right (by lia)] at ez
    have hj0:j - ys.length=0:=by
     by_cases z0:j - ys.length=0
     ·exact z0
     ·rw [List.getElem?_eq_none (by simp;lia)] at ez;cases ez
    have hj1:j=i:=by lia
    subst hj1
    rw [hj0] at ez
    cases ez
    exact r3
 ·left
  have e:i=xs.length:=by lia
  subst e
  exact ⟨stop _ sm,q D _ ys sm hL hl hR⟩
end
section
variable {K:PySem.W.Frag}
theorem aXn {a:Addr} {xs:List V} {H:Hp} (hS:∀H',Same H H'→SqL K H' a xs):∀H' i x,Same H H'→xs[i]?=some x→(Itl K a).go i H'∧∀y H2,(Itl K a).yld i H' y H2→H2=H'∧y=x:=fun H' i x s e=>
 ⟨⟨xs,x,hS H' s,e⟩,fun y H2 hy=>by
  obtain ⟨e1,e2⟩:=hy
  have e3:=e2 xs (hS H' s)
  rw [e] at e3
  cases e3
  exact ⟨e1,rfl⟩⟩
theorem aS1 {a:Addr} {xs:List V} {H:Hp} (hS:∀H',Same H H'→SqL K H' a xs):∀H',Same H H'→(Itl K a).stop xs.length H':=fun H' s=>⟨xs,hS H' s,Nat.le_refl _⟩
end
section
variable {X:Cx} {K:PySem.W.Frag} {scope:Scope} {N:List Str} {tl te:TE} {σ:L2.St} {H:Hp} {Q:VK}
theorem uH (Pr:List V→Prop) (Rel:Nat→Hp→V→Prop) (st:∀{i H1 H2 y},Same H1 H2→Rel i H1 y→Rel i H2 y) (su:∀{i H1 D ys zs y},H1 D=some (.lst ys)→Rel i H1 y→Rel i (upd H1 D (.lst zs)) y)
  (σ0:L2.St) (cap:Cap X scope N σ σ0) (h0:σ0[0]?=some none)
  (hw:∀R:VK,(∀D H1 us,Same H H1→H1 D=some (.lst us)→Pr us→R (.ref D) H1)→tl σ H R)
  (hsz:∀us,Pr us→us.length≤sizeLine)
  (he:∀us,Pr us→∀(i:Nat) (x:V),us[i]?=some x→∀H' R l,Same H H'→(∀y H2,Same H' H2→Rel i H2 y→R y H2)→te ((σ0.set 0 l).set 0 (some x)) H' R)
  (q:∀us,Pr us→∀D H' ys,Same H H'→H' D=some (.lst ys)→ys.length=us.length→(∀(i:Nat) (y:V),ys[i]?=some y→Rel i H' y)→Q (.ref D) H') :
  iK X scope N (tR K tl) (bK 0) pY te σ H Q:=
 ⟨σ0,cap,hw _ fun D H1 us s1 g1 p=>⟨D,rfl,⟨us,SqL.of g1⟩,aLf us Rel st su σ0 (hsz us p) (Itl K D) (aXn fun H' sm=>SqL.of (sm _ _ g1)) (aS1 fun H' sm=>SqL.of (sm _ _ g1))
  (fun i x ex H' R l sm r=>he us p i x ex H' R l (s1.trans sm) r) h0 fun D2 H' ys sm=>q us p D2 H' ys (s1.trans sm)⟩⟩
end
theorem SqT.dO {K:PySem.W.Frag} {H:Hp} {a D:Addr} {xs ys zs:List V} (hD:H D=some (.lst ys)) (h:SqT K H a xs):SqT K (upd H D (.lst zs)) a xs:=by
 rcases h with (h|⟨o,h⟩)|h
 ·exact .inl (.inl (by rw [bH (xF h hD (by intro z;cases z))];exact h))
 ·exact .inl (.inr ⟨o,by rw [bH (xF h hD (by intro z;cases z))];exact h⟩)
 ·exact .inr h
section
variable {X:Cx}
def aZs (K:PySem.W.Frag):List V→Hp→VK→Prop:=fun xs H Q=>∃(p:Addr) (bs:List Bool),xs=[.ref p]∧SqL K H p (bs.map V.bl)∧Q (.bl (bs.any id)) H
theorem any_range (bs:List Bool):(List.range bs.length).any (fun i=>bs.getD i false)=bs.any id:=by
 rw [Bool.eq_iff_iff,List.any_eq_true,List.any_eq_true]
 constructor
 ·rintro ⟨i,hi,h⟩
  have hi:=List.mem_range.mp hi
  rw [List.getD_eq_getElem?_getD,List.getElem?_eq_getElem hi] at h
  exact ⟨_,List.getElem_mem hi,h⟩
 ·rintro ⟨b,hb,h⟩
  obtain ⟨i,hi,e⟩:=List.mem_iff_getElem.mp hb
  refine ⟨i,List.mem_range.mpr hi,?_⟩
  rw [List.getD_eq_getElem?_getD,List.getElem?_eq_getElem hi]
  show bs[i]=true
  rw [e]
  exact h
theorem aQk (hc:X.calm=true):cW X (.builtin "any") (aZs X.K):=by
 intro pins s σ H xs us Q I r h
 obtain ⟨p,bs,rfl,hq,q⟩:=h
 obtain ⟨u,rfl,rx⟩:=r.one
 cases rx
 obtain ⟨its,rv,pl,hz⟩:=I.list hq
 have hl:=rv.length
 rw [List.length_map] at hl
 have hne:p≠s.heap.objs.size:=by
  obtain ⟨o,ho,_⟩:=pl.isList
  exact Nat.ne_of_lt (Heap.lt_size ho)
 refine call_any_walk (wpAny_pyIter_list pl.isList ?_)
 refine ⟨s.heap.objs.size,_,_,_,_,_,fun i=>bs.getD i false,rfl,Walks.list (show X.A.in1.handled=none from I.ok.hd hc) _ p hne its.toArray,⟨⟨_,Heap.get?_push_size _ rfl,rfl,rfl⟩,?_⟩,?_,fun h' tk kp=>?_⟩
 ·exact pl.isList.at fun o e=>Heap.get?_push_of_some _ e
 ·intro i v s' Q' E' hv hq'
  have hv':its[i]?=some v:=by simpa using hv
  have hi:i<bs.length:=by rw [hl];exact (List.getElem?_eq_some_iff.mp hv').1
  obtain ⟨u,hu,ru⟩:=rv.get (i:=i) (x:=.bl bs[i]) (by rw [List.getElem?_map,List.getElem?_eq_getElem hi];rfl)
  rw [hv'] at hu
  cases hu
  cases ru
  have e:bs.getD i false=bs[i]:=by rw [List.getD_eq_getElem?_getD,List.getElem?_eq_getElem hi];rfl
  replace hq':Q' (bs.getD i false) s':=hq'
  rw [e] at hq'
  exact wpAny_truthy_bool hq'
 ·have e:(List.range its.toArray.size).any (fun i=>bs.getD i false)=bs.any id:=by
   rw [List.size_toArray,←hl];exact any_range bs
  rw [e]
  refine ⟨.bl (bs.any id),H,?_,rfl,q⟩
  exact I.kept fun b o eo=>kp b o (by
   intro z
   have:b=s.heap.objs.size:=by simpa using z
   rw [this] at eo
   exact absurd (Heap.lt_size eo) (Nat.lt_irrefl _)) (Heap.get?_push_of_some _ eo)
def aWs:List V→Hp→VK→Prop:=fun xs H Q=>∃z:Str,xs=[.str z]∧z.length≤1000∧∀l H',H l=none→Same H H'→H' l=some (.lst ((List.range z.cps.size).map fun i=>V.str (sgn z i)))→Q (.ref l) H'
theorem aCu (z:Str):∀(n k:Nat) (vs:List Value),vs.length=n→(∀(j:Nat) (v:Value),vs[j]?=some v→∃t,v=.str (sgn z (k+j)) t)→Vals ((List.range' k n).map fun i=>V.str (sgn z i)) vs
 |0,k,[],_,_=>.nil
 |n+1,k,v::vs,hl,h=>by
  obtain ⟨t,rfl⟩:=h 0 v rfl
  rw [List.range'_succ,List.map_cons]
  refine .cons ⟨t,rfl⟩ (aCu z n (k+1) vs (by simpa using hl) fun j u e=>?_)
  obtain ⟨t',e'⟩:=h (j+1) u e
  exact ⟨t',by rw [e',show k+(j+1)=k+1+j by lia]⟩
theorem aMp (hc:X.calm=true):cW X (.type "list") aWs:=by
 intro pins s σ H xs us Q I r h
 obtain ⟨z,rfl,hl,q⟩:=h
 obtain ⟨u,rfl,t,rfl⟩:=vals1 r
 refine call_list_str (I.ok.hd hc) z t (fun h' tk acc' c' kp hS hacc=>?_) (small hl)
 have hv:=aCu z z.cps.size 0 acc'.toList (by rw [Array.length_toList];exact hacc.1) fun j v e=>by
  have hj:=hacc.2 j v (by rw [←Array.getElem?_toList];exact e)
  obtain ⟨c,t',e1,e2⟩:=hj
  refine ⟨t',?_⟩
  rw [e2]
  unfold sgn
  rw [Nat.zero_add,Array.getD_eq_getD_getElem?,e1]
  rfl
 rw [←List.range_eq_range'] at hv
 have ea:acc'.toList.toArray=acc':=by simp
 have hf:H s.heap.objs.size=none:=I.hok.fresh (Nat.le_refl _)
 refine ⟨.ref s.heap.objs.size,_,I.laid (t':=tk) (o:=.lst ((List.range z.cps.size).map fun i=>V.str (sgn z i))) kp (Nat.le_refl _) ?_,rfl,q _ _ hf (bR hf _) aU⟩
 refine ⟨by rw [List.length_map,List.length_range];exact small hl,acc'.toList,c',hv,?_⟩
 rw [ea]
 exact hS
end
theorem wB {X:Cx} {K:PySem.W.Frag} (h:X.K=K:=by rfl):OpR X (compareOp .In) (rIn K false):=by subst h;exact nP
structure aUg (E:Hp→Hp→Prop) (H:Hp):Prop where
 new:∀D o,H D=none→E H (upd H D o)
 trans:∀{H1 H2},E H H1→E H1 H2→E H H2
 upd:∀D o H',H D=none→E H H'→E H (upd H' D o)
 keep:∀D H1 H2 xs,H D=none→E H H1→H1 D=some (.lst xs)→E H1 H2→H2 D=some (.lst xs)
theorem pJ (H:Hp):aUg Same H:=⟨fun D o h=>bR h o,fun a b=>a.trans b,fun D o H' h s=>xH h s,fun D H1 H2 xs _ _ h s=>s _ _ h⟩
def aM4 (J:It) (H1:Hp) (σ0:L2.St) (g:TG) (tt:TT) (te:TE) (Q:VK):Prop:=∀D,H1 D=none→∃W:Nat→Nat→L2.St→Hp→List V→Prop,(∃m,W 0 m σ0 (L2.upd H1 D (.lst [])) []) ∧
 ∀i m σ' H' ys,W i m σ' H' ys→H' D=some (.lst ys)∧((J.stop i H'∧Q (.ref D) H')∨(J.go i H'∧∀x H2,J.yld i H' x H2→g x σ' H2 fun σ3 H3=>tt σ3 H3 fun b H4=>
  if b=true then te σ3 H4 fun y H5=>H5 D=some (.lst ys)∧ys.length<sizeLine∧∃m',m'<m∧W (i+1) m' σ3 (L2.upd H5 D (.lst (ys++[y]))) (ys++[y]) else H4 D=some (.lst ys)∧∃m',m'<m∧W (i+1) m' σ3 H4 ys))
section
variable {X:Cx} {K:PySem.W.Frag} {scope:Scope} {N:List Str} {tl te:TE} {tt:TT} {g:TG} {σ:L2.St} {H:Hp} {Q:VK}
theorem tZ (σ0:L2.St) (cap:Cap X scope N σ σ0) (h:tl σ H fun v H1=>∃a,v=.ref a∧(∃xs,SqL K H1 a xs)∧aM4 (Itl K a) H1 σ0 g tt te Q):iK X scope N (tR K tl) g tt te σ H Q:=⟨σ0,cap,h⟩
theorem sS (σ0:L2.St) (cap:Cap X scope N σ σ0) (h:tl σ H fun v H1=>∃a,v=.ref a∧(∃xs,SqT K H1 a xs)∧aM4 (Itt K a) H1 σ0 g tt te Q):iK X scope N (aGc K tl) g tt te σ H Q:=⟨σ0,cap,h⟩
theorem aCn {a:Addr} {xs:List V} {E:Hp→Hp→Prop} (hS:∀H',E H H'→SqT K H' a xs):∀H' i x,E H H'→xs[i]?=some x→(Itt K a).go i H'∧∀y H2,(Itt K a).yld i H' y H2→H2=H'∧y=x:=fun H' i x s e=>
 ⟨⟨xs,x,hS H' s,e⟩,fun y H2 hy=>by
  obtain ⟨e1,e2⟩:=hy
  have e3:=e2 xs (hS H' s)
  rw [e] at e3
  cases e3
  exact ⟨e1,rfl⟩⟩
theorem sI {a:Addr} {xs:List V} {E:Hp→Hp→Prop} (hS:∀H',E H H'→SqT K H' a xs):∀H',E H H'→(Itt K a).stop xs.length H':=fun H' s=>⟨xs,hS H' s,Nat.le_refl _⟩
theorem xY {a:Addr} {xs:List V} {E:Hp→Hp→Prop} (hS:∀H',E H H'→SqL K H' a xs):∀H' i x,E H H'→xs[i]?=some x→(Itl K a).go i H'∧∀y H2,(Itl K a).yld i H' y H2→H2=H'∧y=x:=fun H' i x s e=>
 ⟨⟨xs,x,hS H' s,e⟩,fun y H2 hy=>by
  obtain ⟨e1,e2⟩:=hy
  have e3:=e2 xs (hS H' s)
  rw [e] at e3
  cases e3
  exact ⟨e1,rfl⟩⟩
theorem qD {a:Addr} {xs:List V} {E:Hp→Hp→Prop} (hS:∀H',E H H'→SqL K H' a xs):∀H',E H H'→(Itl K a).stop xs.length H':=fun H' s=>⟨xs,hS H' s,Nat.le_refl _⟩
inductive mK (R:Nat→V→Prop):List Nat→List V→Prop
 |nil:mK R [] []
 |cons {i y is ys}:R i y→mK R is ys→mK R (i::is) (y::ys)
theorem mK.snoc {R:Nat→V→Prop} {is:List Nat} {ys:List V} {i:Nat} {y:V} (h:mK R is ys) (r:R i y):mK R (is++[i]) (ys++[y]):=by
 induction h with
 |nil=>exact .cons r .nil
 |cons r' _ ih=>exact .cons r' ih
theorem mK.imp {R S:Nat→V→Prop} {is:List Nat} {ys:List V} (h:mK R is ys) (k:∀i y,R i y→S i y):mK S is ys:=by
 induction h with
 |nil=>exact .nil
 |cons r _ ih=>exact .cons (k _ _ r) ih
theorem mK.len {R:Nat→V→Prop} {is:List Nat} {ys:List V} (h:mK R is ys):is.length=ys.length:=by
 induction h with
 |nil=>rfl
 |cons _ _ ih=>rw [List.length_cons,List.length_cons,ih]
theorem wN {σ0:L2.St} (E:Hp→Hp→Prop) (eo:aUg E H) (xs:List V) (p:Nat→Bool) (Rel:Nat→Hp→V→Prop)
  (st:∀{i H1 H2 y},E H H1→E H1 H2→Rel i H1 y→Rel i H2 y) (su:∀{i H1 D ys zs y},H D=none→E H H1→H1 D=some (.lst ys)→Rel i H1 y→Rel i (L2.upd H1 D (.lst zs)) y)
  (At:Nat→L2.St→Prop) (Ps:L2.St→Prop) (h0:Ps σ0) (hsz:xs.length≤sizeLine)
  (J:It) (go:∀H' i x,E H H'→xs[i]?=some x→J.go i H'∧∀y H2,J.yld i H' y H2→H2=H'∧y=x) (stop:∀H',E H H'→J.stop xs.length H')
  (hg:∀(i:Nat) (x:V) σ' H' Q',xs[i]?=some x→Ps σ'→E H H'→(∀σ2,Ps σ2→At i σ2→Q' σ2 H')→g x σ' H' Q')
  (ht:∀(i:Nat) (x:V) σ2,xs[i]?=some x→At i σ2→∀H' R,E H H'→(∀H2,E H' H2→R (p i) H2)→tt σ2 H' R)
  (he:∀(i:Nat) (x:V) σ2,xs[i]?=some x→At i σ2→p i=true→∀H' R,E H H'→(∀y H2,E H' H2→Rel i H2 y→R y H2)→te σ2 H' R)
  (q:∀D H' ys,E H H'→H D=none→H' D=some (.lst ys)→mK (fun i y=>Rel i H' y) (sel p 0 (List.range xs.length)) ys→Q (.ref D) H'):aM4 J H σ0 g tt te Q:=by
 intro D hD
 refine ⟨fun i m σ' H' ys=>i≤xs.length∧m=xs.length - i∧Ps σ'∧E H H'∧H' D=some (.lst ys)∧mK (fun i y=>Rel i H' y) (sel p 0 (List.range i)) ys,⟨xs.length,Nat.zero_le _,rfl,h0,eo.new _ _ hD,aU,.nil⟩,?_⟩
 rintro i m σ' H' ys ⟨hi,rfl,hps,sm,hL,hR⟩
 refine ⟨hL,?_⟩
 by_cases hlt:i<xs.length
 ·right
  have hx:=List.getElem?_eq_getElem hlt
  obtain ⟨g1,g2⟩:=go H' i xs[i] sm hx
  refine ⟨g1,fun x H2 hy=>?_⟩
  obtain ⟨rfl,rfl⟩:=g2 x H2 hy
  have tk:sel p 0 (List.range (i+1))=sel p 0 (List.range i)++(if p i then [i] else []):=by
   rw [List.range_succ,aBn,List.length_range,Nat.zero_add]
  have lR:=hR.len
  have lS:=uJ p 0 (List.range i)
  rw [List.length_range] at lS
  refine hg i xs[i] σ' _ _ hx hps sm fun σ2 hp2 hat=>?_
  refine ht i xs[i] σ2 hx hat _ _ sm fun H3 s3=>?_
  have sm3:=eo.trans sm s3
  have hL3:=eo.keep D _ _ _ hD sm hL s3
  cases hp:p i with
  |true=>
   rw [if_pos rfl]
   refine he i xs[i] σ2 hx hat hp _ _ sm3 fun y H4 s4 r4=>?_
   have sm4:=eo.trans sm3 s4
   have hL4:=eo.keep D _ _ _ hD sm3 hL3 s4
   refine ⟨hL4,by lia,xs.length - (i+1),by lia,hlt,rfl,hp2,eo.upd D _ _ hD sm4,aU,?_⟩
   rw [tk,hp]
   exact mK.snoc (hR.imp fun j z r=>su hD sm4 hL4 (st sm3 s4 (st sm s3 r))) (su hD sm4 hL4 r4)
  |false=>
   rw [if_neg (by simp)]
   refine ⟨hL3,xs.length - (i+1),by lia,hlt,rfl,hp2,sm3,hL3,?_⟩
   rw [tk,hp]
   simp only [Bool.false_eq_true,if_false,List.append_nil]
   exact hR.imp fun j z r=>st sm s3 r
 ·left
  have e:i=xs.length:=by lia
  subst e
  exact ⟨stop _ sm,q D _ ys sm hD hL hR⟩
theorem aYp {σ0:L2.St} (E:Hp→Hp→Prop) (eo:aUg E H) (xs:List V) (Rel:Nat→Hp→V→Prop)
  (st:∀{i H1 H2 y},E H H1→E H1 H2→Rel i H1 y→Rel i H2 y) (su:∀{i H1 D ys zs y},H D=none→E H H1→H1 D=some (.lst ys)→Rel i H1 y→Rel i (L2.upd H1 D (.lst zs)) y)
  (At:Nat→L2.St→Prop) (Ps:L2.St→Prop) (h0:Ps σ0) (hsz:xs.length≤sizeLine)
  (J:It) (go:∀H' i x,E H H'→xs[i]?=some x→J.go i H'∧∀y H2,J.yld i H' y H2→H2=H'∧y=x) (stop:∀H',E H H'→J.stop xs.length H')
  (hg:∀(i:Nat) (x:V) σ' H' Q',xs[i]?=some x→Ps σ'→E H H'→(∀σ2,Ps σ2→At i σ2→Q' σ2 H')→g x σ' H' Q')
  (ht:∀(i:Nat) (x:V) σ2,xs[i]?=some x→At i σ2→∀H' R,E H H'→(∀b H2,E H' H2→R b H2)→tt σ2 H' R)
  (he:∀(i:Nat) (x:V) σ2,xs[i]?=some x→At i σ2→∀H' R,E H H'→(∀y H2,E H' H2→Rel i H2 y→R y H2)→te σ2 H' R)
  (q:∀D H' ys,E H H'→H D=none→H' D=some (.lst ys)→(∃is:List Nat,is.Sublist (List.range xs.length)∧mK (fun i y=>Rel i H' y) is ys)→Q (.ref D) H'):aM4 J H σ0 g tt te Q:=by
 intro D hD
 refine ⟨fun i m σ' H' ys=>i≤xs.length∧m=xs.length - i∧Ps σ'∧E H H'∧H' D=some (.lst ys)∧∃is:List Nat,is.Sublist (List.range i)∧mK (fun i y=>Rel i H' y) is ys,⟨xs.length,Nat.zero_le _,rfl,h0,eo.new _ _ hD,aU,[],List.nil_sublist _,.nil⟩,?_⟩
 rintro i m σ' H' ys ⟨hi,rfl,hps,sm,hL,is,hsub,hR⟩
 refine ⟨hL,?_⟩
 by_cases hlt:i<xs.length
 ·right
  have hx:=List.getElem?_eq_getElem hlt
  obtain ⟨g1,g2⟩:=go H' i xs[i] sm hx
  refine ⟨g1,fun x H2 hy=>?_⟩
  obtain ⟨rfl,rfl⟩:=g2 x H2 hy
  have lR:=hR.len
  have lS:=hsub.length_le
  rw [List.length_range] at lS
  refine hg i xs[i] σ' _ _ hx hps sm fun σ2 hp2 hat=>?_
  refine ht i xs[i] σ2 hx hat _ _ sm fun bb H3 s3=>?_
  have sm3:=eo.trans sm s3
  have hL3:=eo.keep D _ _ _ hD sm hL s3
  cases bb with
  |true=>
   rw [if_pos rfl]
   refine he i xs[i] σ2 hx hat _ _ sm3 fun y H4 s4 r4=>?_
   have sm4:=eo.trans sm3 s4
   have hL4:=eo.keep D _ _ _ hD sm3 hL3 s4
   refine ⟨hL4,by lia,xs.length - (i+1),by lia,hlt,rfl,hp2,eo.upd D _ _ hD sm4,aU,is++[i],by rw [List.range_succ];exact hsub.append (List.Sublist.refl _),?_⟩
   exact mK.snoc (hR.imp fun j z r=>su hD sm4 hL4 (st sm3 s4 (st sm s3 r))) (su hD sm4 hL4 r4)
  |false=>
   rw [if_neg (by simp)]
   refine ⟨hL3,xs.length - (i+1),by lia,hlt,rfl,hp2,sm3,hL3,is,by rw [List.range_succ];exact hsub.trans (List.sublist_append_left _ _),?_⟩
   exact hR.imp fun j z r=>st sm s3 r
 ·left
  have e:i=xs.length:=by lia
  subst e
  exact ⟨stop _ sm,q D _ ys sm hD hL ⟨is,hsub,hR⟩⟩
end
def At1 (σ0:L2.St) (v:V) (σ:L2.St):Prop:=∃l,σ=(σ0.set 0 l).set 0 (some v)
def Ps1 (σ0:L2.St) (σ:L2.St):Prop:=∃l,σ=σ0.set 0 l
def At2 (σ0:L2.St) (a b:V) (σ:L2.St):Prop:=σ=(σ0.set 0 (some a)).set 1 (some b)
def Ps2 (σ0:L2.St) (σ:L2.St):Prop:=∃l m,σ=(σ0.set 0 l).set 1 m
theorem hg1 {σ0:L2.St} {i:Nat} {x:V} {σ':L2.St} {H':Hp} {Q':L2.St→Hp→Prop} (h:Ps1 σ0 σ') (q:∀σ2,Ps1 σ0 σ2→At1 σ0 x σ2→Q' σ2 H'):bK 0 x σ' H' Q':=by
 obtain ⟨l,rfl⟩:=h
 exact q _ ⟨some x,by rw [List.set_set]⟩ ⟨l,rfl⟩
theorem hg2 {K:PySem.W.Frag} {σ0:L2.St} {p:Addr} {a b:V} {σ':L2.St} {H':Hp} {Q':L2.St→Hp→Prop} (hp:SqT K H' p [a,b]) (h:Ps2 σ0 σ') (q:∀σ2,Ps2 σ0 σ2→At2 σ0 a b σ2→Q' σ2 H'):aCk K 2 (gR (bK 0) (gR (bK 1) xZ)) (.ref p) σ' H' Q':=by
 obtain ⟨l,m,rfl⟩:=h
 have e:(((σ0.set 0 l).set 1 m).set 0 (some a)).set 1 (some b)=(σ0.set 0 (some a)).set 1 (some b):=by
  rw [List.set_comm _ _ (show (1:Nat)≠0 by decide),List.set_set,List.set_set]
 refine ⟨p,_,rfl,hp,rfl,_,_,rfl,_,_,rfl,rfl,?_⟩
 show Q' ((((σ0.set 0 l).set 1 m).set 0 (some a)).set 1 (some b)) H'
 rw [e]
 exact q _ ⟨some a,some b,rfl⟩ rfl
theorem rQ (xs:List V) (n:Nat):qX xs none (some (n:Int))=xs.take n:=by
 unfold qX
 rw [HT.aCs,HT.aA2,List.drop_zero,Nat.sub_zero]
 by_cases h:n≤xs.length
 ·rw [Nat.min_eq_left h]
 ·rw [Nat.min_eq_right (by lia),List.take_length,List.take_of_length_le (by lia)]
theorem gK (xs:List V) (n:Nat):qX xs (some (n:Int)) none=xs.drop n:=by
 unfold qX
 rw [HT.aCs,HT.aA2]
 by_cases h:n≤xs.length
 ·rw [Nat.min_eq_left h]
  exact List.take_of_length_le (by rw [List.length_drop];lia)
 ·rw [Nat.min_eq_right (by lia),List.drop_length,List.drop_of_length_le (by lia),List.take_nil]
def aYv (K:PySem.W.Frag):V→Option Int→Option Int→Hp→VK→Prop:=fun x lo hi H Q=>∃a xs,x=.ref a∧SqL K H a xs∧∀p H',H p=none→Same H H'→H' p=some (.lst (qX xs lo hi))→Q (.ref p) H'
theorem sX {X:Cx}:SlR X (aYv X.K):=fun pins s σ H x v vl vu lo hi sl Q I rx hs pl pu ⟨a,xs,e,ha,q⟩=>
 aUr pins s σ H x v vl vu lo hi sl Q I rx hs pl pu ⟨a,xs,e,ha,fun p hp=>q p _ hp (bR hp _) aU⟩
end L2
namespace HT
open PySem PySem.Spec PyProof.Rows L2
section
variable {prog:Program} {w:World} {A:Around} {E:Value→Shared→Prop} {s:Shared}
theorem uQ {t sl:Addr} {items:Array Value} {vl vu:Value} {lo hi:Option Int} {Q:Value→Shared→Prop} (ht:IsTup s.heap t items) (hs:s.heap.IsSliceOf sl vl vu .none) (pl:IsPart vl lo) (pu:IsPart vu hi)
  (hw:sIx items.size 0 lo=0∧sIx items.size items.size hi=items.size) (h:Q (.ref t) s):wpAny (model prog w) A (getItem (.ref t) (.ref sl)) Q E s:=by
 obtain ⟨os,hos,hcs,hds⟩:=id hs
 have hTs:s.TypeIs (.ref sl) "slice":=⟨os,hos,hcs⟩
 obtain ⟨⟨cls,dd,data,slt⟩,ho,hc,n,hd⟩:=id ht
 simp only at hc hd
 subst hc hd
 unfold getItem
 try with_reducible refine wpAny_holding ?_
 first|refine wpAny_bind (wpAny_pure ?_)|skip
 refine wpAny_bind (wpAny_sequenceKey ht.typeIs (by decide) ?_)
 refine wpAny_bind (wpAny_callSpecial?_slot (name:=Str.ofString "__getitem__") ht.typeIs PyProof.Rows.slot_tuple_getitem
  (wpAny_call_entry PyProof.Rows.slot_tuple_getitem ht.typeIs entry_tuple_getitem ?_ (args_tuple_getitem _ _)))
 show wpAny _ _ (Builtin.Tuple.tupleItemsOf (.ref t) >>= _) _ _ s
 refine wpAny_bind (tupleItemsOf_ ht ?_)
 refine wpAny_bind (wpAny_typeOf hTs ?_)
 rw [if_pos (by decide)]
 refine wpAny_bind (qL hs pl pu ?_)
 have hyes:((((sIx items.size 0 lo:Nat):Int) == 0 && (1:Int) == 1 && (sIx items.size items.size hi - sIx items.size 0 lo) == items.size)=true):=by
  rw [hw.1,hw.2]
  simp
 show wpAny _ _ (if (((sIx items.size 0 lo:Nat):Int) == 0 && (1:Int) == 1 && (sIx items.size items.size hi - sIx items.size 0 lo) == items.size)=true then _ else _) _ _ s
 rw [if_pos hyes]
 obtain ⟨hp,g,d,tk,os'⟩:=s
 wp_walk using AutoSeq1.wpAny_loadPart' ho
 exact ⟨_,rfl,wpAny_pure h⟩
end
end HT
namespace L2
open PySem PySem.Spec PyProof.Rows
def aZu (K:PySem.W.Frag):V→Option Int→Option Int→Hp→VK→Prop:=fun x lo hi H Q=>∃a xs,x=.ref a∧SqT K H a xs∧∀p H',Same H H'→SqT K H' p (qX xs lo hi)→Q (.ref p) H'
theorem qQ {X:Cx}:SlR X (aZu X.K):=by
 intro pins s σ H x v vl vu lo hi sl Q I rx hs pl pu h
 obtain ⟨a,xs,rfl,hx,q⟩:=h
 by_cases hw:HT.sIx xs.length 0 lo=0∧HT.sIx xs.length xs.length hi=xs.length
 ·cases rx
  obtain ⟨its,r,ht,hz⟩:=I.tuple hx
  have hlen:its.toArray.size=xs.length:=by rw [List.size_toArray];exact r.length.symm
  refine ⟨"tuple",_,PyProof.Rows.slot_tuple_getitem.lookup,ht.typeIs,?_⟩
  refine HT.uQ ht hs pl pu (by rw [hlen];exact hw) ⟨.ref a,H,I,rfl,q a H (Same.refl H) ?_⟩
  have e:qX xs lo hi=xs:=by
   unfold qX
   rw [hw.1,hw.2,List.drop_zero,Nat.sub_zero,List.take_length]
  rw [e]
  exact hx
 ·exact aFw pins s σ H _ v vl vu lo hi sl Q I rx hs pl pu ⟨a,xs,rfl,hx,hw,fun p H' s' g'=>q p H' s' (SqT.of g')⟩
def bAe (K:PySem.W.Frag):R2:=fun x y H Q=>∃(a b:Addr) (xs:List V),x=.ref a∧y=.ref b∧SqL K H a xs∧SqL K H b []∧Q (.bl xs.isEmpty) H
theorem aYe {X:Cx} (hu:X.A.units<cLine):OpR X (compareOp .Eq) (bAe X.K):=by
 intro pins s σ H x y v u Q I rx ry h
 obtain ⟨a,b,xs,rfl,rfl,ha,hb,q⟩:=h
 cases rx
 cases ry
 obtain ⟨its,rv,pl,hz⟩:=I.list ha
 obtain ⟨jts,rw',pm,hw⟩:=I.list hb
 have e1:=rv.length
 have e2:=rw'.length
 have ej:jts=[]:=List.length_eq_zero_iff.mp e2.symm
 subst ej
 cases xs with
 |nil=>
  have ei:its=[]:=List.length_eq_zero_iff.mp e1.symm
  subst ei
  refine SeqAt.RcAt.lists (e:=fun _=>true) pl.isList pm.isList rfl hu (fun j h1 h2=>by simp at h1) _ _ _ _ ?_
  exact ⟨.bl true,H,I,rfl,q⟩
 |cons y ys=>
  refine SeqAt.RcAt.lists_lengths pl.isList pm.isList ?_ hu _ _ _ _ ?_
  ·rw [List.length_cons] at e1
   simp only [List.size_toArray,List.length_nil]
   rw [←e1]
   simp
  ·exact ⟨.bl false,H,I,rfl,q⟩
section
variable {X:Cx}
def aWr:List V→Hp→VK→Prop:=fun xs H Q=>∃d kvs,xs=[.ref d]∧H d=some (.dK kvs)∧∀p H',H p=none→Same H H'→H' p=some (.dK kvs)→Q (.ref p) H'
theorem aKy:cW X (.type "dict") aWr:=by
 intro pins s σ H xs us Q I r h
 obtain ⟨d,kvs,rfl,hd,q⟩:=h
 obtain ⟨u,rfl,ru⟩:=vals1 r
 cases ru
 obtain ⟨z,hm,vs,rel,dd⟩:=aIm I.hok hd
 have hl:vs.length≤sizeLine:=by
  have:=Paired.length rel
  lia
 refine kt_call_dict hm dd hl fun h' hd' hs'=>?_
 have hf:H s.heap.objs.size=none:=I.hok.fresh (Nat.le_refl _)
 refine ⟨.ref s.heap.objs.size,_,I.laid (t':=s.toks) (o:=.dK kvs) (fun b o e=>hs'.extBut b o (Nat.ne_of_lt (Heap.lt_size e)) (Heap.get?_push_of_some _ e)) (Nat.le_refl _) ?_,rfl,q _ _ hf (bR hf _) aU⟩
 exact ⟨z,beq_eq_false_iff_ne.mpr (Ne.symm (Nat.ne_of_lt I.big)),vs,rel,hd'⟩
theorem aNq:∀{kvs:List (Key × V)} {vs us:List (Key × Value)},(∀p∈kvs,∃a,p.2=.ref a)→KV kvs vs→KV kvs us→vs=us
 |[],_,_,_,.nil,.nil=>rfl
 |p::r,_,_,h,.cons q t,.cons q' t'=>by
  rename_i x xs y ys
  obtain ⟨a,e⟩:=h p (List.mem_cons_self ..)
  obtain ⟨k1,r1⟩:=q
  obtain ⟨k2,r2⟩:=q'
  rw [e] at r1 r2
  have e1:x=(p.1,Value.ref a):=Prod.ext k1.symm r1
  have e2:y=(p.1,Value.ref a):=Prod.ext k2.symm r2
  rw [e1,e2,aNq (fun z hz=>h z (List.mem_cons_of_mem _ hz)) t t']
theorem aJ2 {κ:Type} [DecidableEq κ] {kb:List (κ × Value)} (nd:(kb.map (·.1)).Nodup) {k:κ} {v:Value} (h:(k,v)∈kb):valueAt kb k=some v:=by
 induction kb with
 |nil=>cases h
 |cons x r ih=>
  rw [List.map_cons,List.nodup_cons] at nd
  unfold valueAt
  rw [List.find?_cons]
  rcases List.mem_cons.mp h with e|h
  ·subst e
   rw [decide_eq_true rfl]
   rfl
  ·have ne:¬ x.1=k:=fun z=>nd.1 (by rw [z];exact List.mem_map.mpr ⟨_,h,rfl⟩)
   rw [decide_eq_false ne]
   exact ih nd.2 h
theorem aEp {κ:Type} [DecidableEq κ] {A:Around} {s:Shared} {kb:List (κ × Value)} (nd:(kb.map (·.1)).Nodup):∀{ka:List (κ × Value)},(∀p∈ka,p∈kb)→PySem.W.KeqHits A s kb ka true
 |[],_=>.nil
 |(k,v)::r,h=>by
  have:=PySem.W.KeqHits.hit (A:=A) (s:=s) (e:=true) (b:=true) (aJ2 nd (h (k,v) (List.mem_cons_self ..))) (SeqAt.EqAt.same v) (aEp nd fun p hp=>h p (List.mem_cons_of_mem _ hp))
  exact this
def aZt:R2:=fun x y H Q=>∃d e kvs,x=.ref d∧y=.ref e∧H d=some (.dK kvs)∧H e=some (.dK kvs)∧(∀p∈kvs,∃a,p.2=.ref a)∧Q (.bl false) H
theorem aWi (hu:X.A.units<cLine):OpR X (compareOp .NotEq) aZt:=by
 intro pins s σ H x y v u Q I rx ry h
 obtain ⟨d,e,kvs,rfl,rfl,hd,he,hr,q⟩:=h
 cases rx
 cases ry
 obtain ⟨z,hm,vs,rel,dd⟩:=aIm I.hok hd
 obtain ⟨z',hm',us,rel',de⟩:=aIm I.hok he
 have e1:=aNq hr rel rel'
 subst e1
 have nd:(vs.map (·.1)).Nodup:=let ⟨_,_,_,_,_,_,_,_,hn⟩:=dd;hn
 refine PySem.W.keq_ne (r:=true) hm hm' dd de hu (fun _=>aEp nd fun p hp=>hp) ?_
 have ez:(!(vs.length == vs.length && true))=false:=by simp
 rw [ez]
 exact ⟨.bl false,H,I,rfl,q⟩
end
inductive PH (P:Program) (w:World):List DictEntry→List (Str × Value)→Prop
 |nil:PH P w [] []
 |cons {e:DictEntry} {kv:Str × Value} {es:List DictEntry} {kvs:List (Str × Value)}:(strKind P w).is kv.1 e.key=true→e.hash=(strKind P w).hash kv.1→e.val=kv.2→PH P w es kvs→PH P w (e::es) (kv::kvs)
theorem PH.keys {P:Program} {w:World} {es:List DictEntry} {kvs:List (Str × Value)} (h:PH P w es kvs):∀e∈es,∃k,(strKind P w).is k e.key=true∧e.hash=(strKind P w).hash k:=by
 induction h with
 |nil=>intro e he;cases he
 |cons a b c _ ih=>
  intro e he
  rcases List.mem_cons.mp he with rfl|he
  ·exact ⟨_,a,b⟩
  ·exact ih e he
theorem PH.pairs {P:Program} {w:World} {es:List DictEntry} {kvs:List (Str × Value)} (h:PH P w es kvs):Pairs (strKind P w) es kvs:=by
 induction h with
 |nil=>exact .nil
 |cons a b c _ ih=>exact .cons a c ih
theorem aPf {P:Program} {w:World} {o:Obj} {es:Array DictEntry} {ep:Nat} {kvs:List (Str × Value)} (hx:o.ExactDict) (hd:o.data=.dict es ep) (h:PH P w es.toList kvs) (nd:(kvs.map (·.1)).Nodup):o.IsDictOf (strKind P w) kvs:=
 ⟨es,ep,hx,hd,fun e he=>h.keys e (Array.mem_toList_iff.mpr he),h.pairs,nd⟩
end L2
namespace PySem
theorem aAo:typeLookup (.type "tuple") "keys"=pure none:=am_miss_of_fast (by decide +kernel)
section
variable {prog:Program} {w:World} {A:Around} {E:Value→Shared→Prop} {s:Shared}
theorem aGb {a:Addr} {o:Obj} {xs:Array Value} {k:Nat} {Q:Option Value→Shared→Prop} (hx:s.heap.get? a=some o) (hc:o.cls=.type "tuple") (hdat:o.data=.seq xs k) (hd:o.dict=none) (hA:A.handled=none)
  (h:∀h' tk,(∀b u,s.heap.get? b=some u→h'.get? b=some u)→Q none { s with heap:=h',toks:=tk }):wpAny (model prog w) A (getAttr? (.ref a) "keys") Q E s:=by
 obtain ⟨c,dct,dat,sl⟩:=o
 simp only at hc hdat hd
 subst hc hdat hd
 obtain ⟨hp,g,d,tk,os⟩:=s
 have hT:∀tk',(⟨hp,g,d,tk',os⟩:Shared).TypeIs (.ref a) "tuple":=fun _=>⟨_,hx,rfl⟩
 have f1:=sub_AttributeError
 have f3:=F.slot_tuple_getattribute.lookup
 have f4:=F.slot_tuple_getattribute.bind (.ref a)
 have f5:=am_tuple_getattr_none
 unfold getAttr? getAttrBy? getAttrBy
 repeat (any_goals (first|assumption|exact hT _|((with_reducible show wpAny _ _ (call (Value.builtin "tuple.__getattribute__") _ _) _ _ _);refine call_meets F.slot_tuple_getattribute (hT _) am_entry_tuple_getattribute (F.args_tuple_getattribute_2 _ _) (meets_getattribute_miss_tuple a xs k sl "keys" _ aAo (by decide +kernel) (by size_fits)) ⟨hx,hA,fun h' tk' e hx'=>?_⟩)|wp_step))
 obtain ⟨t',u',he⟩:=hx'.there
 show wpAny _ _ (getattributeRaised _ _ _ _ _ _ _) _ _ _
 unfold getattributeRaised
 repeat (any_goals (first|assumption|wp_step))
 exact h _ _ hx'.keeps
end
end PySem
namespace PySem
theorem dM:entryFor table "dict.update.loop"=some Builtin.«dict.update.loop»:=entryFor_of_tree (by kernel_rfl)
theorem bV:plainId "dict.update.loop"=true:=by decide +kernel
section
variable {prog:Program} {w:World} {κ:Type} [DecidableEq κ] {knd:KeyKind prog w κ}
def vL (knd:KeyKind prog w κ) (h:Heap) (v:Value) (kv:κ × Value):Prop:=∃p key,v=.ref p∧PyProof.Rows.IsTup h p #[key,kv.2]∧knd.is kv.1 key=true
theorem vL.at {h h':Heap} {v:Value} {kv:κ × Value} (x:vL knd h v kv) (k:∀p,v=.ref p→∀o,h.get? p=some o→h'.get? p=some o):vL knd h' v kv:=by
 obtain ⟨p,key,rfl,⟨o,ho,r⟩,hk⟩:=x
 exact ⟨p,key,rfl,⟨o,k p rfl o ho,r⟩,hk⟩
theorem aAr {A:Around} {R:Result→Shared→Prop} {I:Addr} {fp wr:List Addr} {n:Nat} {P:Nat→Value→Prop} {St:Nat→Heap→Prop} (W:Walks prog w A.in1 I fp wr n P St) (D:Addr) (hD:D∉fp)
  (kvs:List (κ × Value)) (hlen:kvs.length=n) (hb:n≤1000) (hP:∀i v,P i v→∀p,v=.ref p→p∉D::wr) :
  ∀(k i:Nat) (s:Shared) (t:Tok),i+k=n→St i s.heap→s.heap.DictOf knd D (merged [] (kvs.take i))→(∀j v kv,P j v→kvs[j]?=some kv→vL knd s.heap v kv) →
   (∀h' tk,(∀b o,b∉D::wr→s.heap.get? b=some o→h'.get? b=some o)→h'.DictOf knd D (merged [] kvs)→R (.ok (.ret .none)) { s with heap:=h',toks:=tk }) →
   codeAny (model prog w) A (.builtin "dict.update.loop" ⟨[.ref D,.ref I,.int (i:Nat) t,.none],[]⟩) R s:=by
 have hDw:D∉wr:=fun q=>hD (W.sub _ q)
 intro k
 induction k with
 |zero=>
  intro i s t hi st hd hp q
  obtain rfl:i=n:=by lia
  refine codeAny_builtin dM ?_
  rw [Around.under_plainId bV _]
  show wpAny _ A.in1 (pyNext (.ref I) >>= _) _ _ _
  refine wpAny_bind (W.done s _ _ st fun h' tk kp=>?_)
  show wpAny _ _ (Builtin.Dict.addKeywords D [] >>= _) _ _ _
  refine wpAny_bind (wpAny_pure (wpAny_pure (q h' tk (fun b o nb e=>kp b o (fun z=>nb (List.mem_cons_of_mem _ z)) e) ?_)))
  rw [List.take_of_length_le (Nat.le_of_eq hlen)] at hd
  exact hd.at fun o e=>kp D o hDw e
 |succ k ih=>
  intro i s t hi st hd hp q
  refine codeAny_builtin dM ?_
  rw [Around.under_plainId bV _]
  show wpAny _ A.in1 (pyNext (.ref I) >>= _) _ _ _
  refine wpAny_bind (W.item i s _ _ (by lia) st fun v h1 tk1 hv st1 kp1=>?_)
  have hlt:i<kvs.length:=by lia
  have hkv:=List.getElem?_eq_getElem hlt
  have hd1:h1.DictOf knd D (merged [] (kvs.take i)):=hd.at fun o e=>kp1 D o hDw e
  have hp1:∀j v kv,P j v→kvs[j]?=some kv→vL knd h1 v kv:=fun j v kv pj e=>(hp j v kv pj e).at fun p ev o eo=>kp1 p o (fun z=>hP j v pj p ev (List.mem_cons_of_mem _ z)) eo
  obtain ⟨p,key,rfl,⟨⟨oc,od,ox,osl⟩,ho,hc,m,hx⟩,hk⟩:=hp1 i v _ hv hkv
  simp only at hc hx
  subst hc hx
  have hml:(merged [] (kvs.take i)).length≤i:=by
   have:=merged_length_le [] (kvs.take i)
   rw [List.length_take] at this
   simp only [List.length_nil] at this
   lia
  obtain ⟨hp0,g,d,tk,os⟩:=s
  have hT:(⟨h1,g,d,tk1,os⟩:Shared).TypeIs (.ref p) "tuple":=⟨_,ho,rfl⟩
  have hpi:∀(Q:List Value→Shared→Prop) (E:Value→Shared→Prop),Q [key,kvs[i].2] ⟨h1,g,d,tk1,os⟩→wpAny (model prog w) A.in1 (Builtin.Dict.pairItems (.ref p)) Q E ⟨h1,g,d,tk1,os⟩:=by
   intro Q E h
   unfold Builtin.Dict.pairItems
   wp_walk
   exact h
  show wpAny _ A.in1 (holding [.ref p] _ >>= _) _ _ ⟨h1,g,d,tk1,os⟩
  refine wpAny_bind (wpAny_holding (wpAny_bind (wpAny_tryCatch (hpi _ _ ?_))))
  show wpAny _ A.in1 (holding [key,kvs[i].2] (dictSet D key kvs[i].2)) _ _ ⟨h1,g,d,tk1,os⟩
  refine wpAny_holding (wpAny_dictSet_pairs (s:=⟨h1,g,d,tk1,os⟩) hk hd1 (fun h2 hd2 sb2=>?_) (Nat.le_trans hml (Nat.le_trans (by lia) (show 1000≤sizeLine by decide))))
  have e1:merged [] (kvs.take (i+1))=stored (merged [] (kvs.take i)) kvs[i].1 kvs[i].2:=merged_take_succ [] kvs i _ hkv
  rw [←e1] at hd2
  refine wpAny_pure ⟨plainId_quiet bV _,?_⟩
  have kp2:∀b o,b∉D::wr→hp0.get? b=some o→h2.get? b=some o:=fun b o nb e=>by
   rw [sb2.2 b (fun z=>nb (by rw [z];exact List.mem_cons_self))]
   exact kp1 b o (fun z=>nb (List.mem_cons_of_mem _ z)) e
  refine ih (i+1) _ _ (by lia) (W.frame _ _ _ st1 fun b hb o e=>?_) hd2 (fun j v kv pj e=>(hp1 j v kv pj e).at fun p' ev o eo=>?_) fun h' tk' kp hd'=>q h' tk' (fun b o nb e=>kp b o nb (kp2 b o nb e)) hd'
  ·rw [sb2.2 b (fun z=>hD (by rw [←z];exact hb))]
   exact e
  ·rw [sb2.2 p' (fun z=>hP j v pj p' ev (by rw [z];exact List.mem_cons_self))]
   exact eo
end
end PySem
namespace PySem
section
variable {prog:Program} {w:World} {κ:Type} [DecidableEq κ] {knd:KeyKind prog w κ} {A:Around} {E:Value→Shared→Prop} {s:Shared}
theorem aAm {t:Addr} {its:Array Value} {kvs:List (κ × Value)} {Q:Value→Shared→Prop} (hh:A.handled=none) (ht:PyProof.Rows.IsTup s.heap t its) (hd:∀o,s.heap.get? t=some o→o.dict=none) (hlen:kvs.length=its.size) (hb:its.size≤1000)
  (hp:∀(j:Nat) (v:Value) (kv:κ × Value),its[j]?=some v→kvs[j]?=some kv→vL knd s.heap v kv)
  (q:∀h' tk,h'.DictOf knd s.heap.objs.size (merged [] kvs)→(∀b o,s.heap.get? b=some o→h'.get? b=some o)→Q (.ref s.heap.objs.size) { s with heap:=h',toks:=tk }) :
  wpAny (model prog w) A (call (.type "dict") [.ref t]) Q E s:=by
 refine callType_codes (Q₁:=fun obj s₁=>obj=.ref s.heap.objs.size∧s₁={ s with heap:=s.heap.push { cls:=.type "dict",data:=.dict #[] } }) F.kt_called_dict (F.kt_typeCall_dict_1 _) F.entry_dict_init (kt_code_dict_new _ ⟨rfl,rfl⟩) ?_
 rintro obj s₁ ⟨rfl,rfl⟩
 have hnew:(s.heap.push { cls:=.type "dict",data:=.dict #[] }).DictOf knd s.heap.objs.size []:=Heap.DictOf.new s.heap
 obtain ⟨o,ho,hc,n,hx⟩:=id ht
 have hod:=hd o ho
 have ho1:(s.heap.push { cls:=.type "dict",data:=.dict #[] }).get? t=some o:=Heap.get?_push_of_some _ ho
 have hT:Shared.TypeIs { s with heap:=s.heap.push { cls:=.type "dict",data:=.dict #[] } } (.ref t) "tuple":=⟨o,ho1,hc⟩
 have hlt:t<s.heap.objs.size:=Heap.lt_size ho
 refine ⟨hnew.typeIs,F.args_dict_init_2 _ _,?_⟩
 unfold Builtin.«dict.__init__»
 refine wpAny_bind ?_
 unfold Builtin.Dict.selfAndRest
 refine wpAny_bind (wpAny_notOrdered_dict hnew.typeIs ?_)
 show wpAny _ _ (pure (s.heap.objs.size,[Value.ref t])) _ _ _
 refine wpAny_pure ?_
 show wpAny _ _ (Builtin.Dict.updateFrom "dict.__init__" s.heap.objs.size (.ref t) [] .none) _ _ _
 unfold Builtin.Dict.updateFrom
 refine wpAny_bind (wpAny_typeOf hT ?_)
 rw [if_pos (by decide)]
 refine wpAny_bind (aGb ho1 hc hx hod (by first|exact hh|simp [hh]) fun h2 tk2 kp2=>?_)
 rw [if_pos (show (none:Option Value).isNone=true from rfl)]
 have ho2:h2.get? t=some o:=kp2 _ _ ho1
 have ht2:h2.IsTuple t its:=⟨o,ho2,hc,n,hx⟩
 refine wpAny_bind (wpAny_rule (wpAny_bind (wpAny_pyIter_tuple ht2 ?_)))
 have hs1:(s.heap.push { cls:=.type "dict",data:=.dict #[] }).objs.size=s.heap.objs.size+1:=Heap.size_push ..
 have hs2:s.heap.objs.size<h2.objs.size:=by
  obtain ⟨od,_,_,hg,_⟩:=id hnew
  exact Heap.lt_size (kp2 _ _ hg)
 refine wpAny_pure ⟨plainId_quiet bV _,?_⟩
 have hne:t≠h2.objs.size:=Nat.ne_of_lt (Nat.lt_trans hlt hs2)
 refine aAr (knd:=knd) (Walks.tuple (by first|exact hh|simp [hh]) _ t hne its) s.heap.objs.size ?_ kvs hlen hb ?_ its.size 0 _ _ (by lia) ⟨⟨_,Heap.get?_push_size _ rfl,rfl,rfl⟩,ht2.push _⟩ ?_ ?_ fun h' tk kp hd'=>?_
 ·simp only [List.mem_cons,List.not_mem_nil,or_false,not_or]
  exact ⟨Nat.ne_of_lt hs2,Nat.ne_of_gt hlt⟩
 ·intro j v e p ev
  have hj:j<kvs.length:=by
   rw [hlen]
   exact (Array.getElem?_eq_some_iff.mp e).1
  obtain ⟨p',key,ev',⟨o',ho',_⟩,_⟩:=hp j v _ e (List.getElem?_eq_getElem hj)
  rw [ev] at ev'
  cases ev'
  have:=Heap.lt_size ho'
  simp only [List.mem_cons,List.not_mem_nil,or_false,not_or]
  exact ⟨Nat.ne_of_lt this,Nat.ne_of_lt (Nat.lt_trans this hs2)⟩
 ·exact (hnew.at fun o e=>kp2 _ _ e).at fun o e=>Heap.get?_push_of_some _ e
 ·intro j v kv e ek
  exact (hp j v kv e ek).at fun p _ o eo=>Heap.get?_push_of_some _ (kp2 _ _ (Heap.get?_push_of_some _ eo))
 ·refine ⟨rfl,q h' tk hd' fun b o e=>kp b o ?_ (Heap.get?_push_of_some _ (kp2 _ _ (Heap.get?_push_of_some _ e)))⟩
  have:=Heap.lt_size e
  simp only [List.mem_cons,List.not_mem_nil,or_false,not_or]
  exact ⟨Nat.ne_of_lt this,Nat.ne_of_lt (Nat.lt_trans this hs2)⟩
end
end PySem
namespace PySem
open PySem.Calls PyProof.Rows
section
variable {prog:Program} {w:World} {κ:Type} [DecidableEq κ] {knd:PySem.KeyKind prog w κ} {A:Around} {E:Value→Shared→Prop} {s:Shared}
theorem aM9 (nm:κ→Str):∀(kvs:List (κ × Value)) (vs:List Value),vs.length=kvs.length→(∀(j:Nat) (v:Value),vs[j]?=some v→∃kv t,kvs[j]?=some kv∧v=.str (nm kv.1) t)→StrsAre vs (kvs.map fun kv=>nm kv.1)
 |[],[],_,_=>.nil
 |kv::kvs,v::vs,hl,h=>by
  obtain ⟨kv',t,e,rfl⟩:=h 0 v rfl
  cases e
  exact .cons _ t (aM9 nm kvs vs (by simpa using hl) fun j v e=>h (j+1) v (by simpa using e))
theorem zN {d:Addr} {kvs:List (κ × Value)} {Q:Value→Shared→Prop} (nm:κ→Str) (hh:A.handled=none) (lo:(d == sysModules)=false) (hm:s.heap.DictOf knd d kvs) (htx:∀k v,knd.is k v=true→(∃x,(k,x)∈kvs)→∃t,v=Value.str (nm k) t) (h64:kvs.length<64)
  (q:∀(h1 h':Heap) (tk:Nat) (B:Addr) (vs:List Value) (ss:List Str) (e:Nat),StrsAre vs ss→ss.Perm (kvs.map fun kv=>nm kv.1)→h'.get? B=some (seqObj "list" vs.toArray e)→(∀b o,s.heap.get? b=some o→h1.get? b=some o)→(∀b o,h1.get? b=some o→h'.get? b=some o)→h1.objs.size≤B→Q (.ref B) { s with heap:=h',toks:=tk }) :
  wpAny (model prog w) A (call (.builtin "sorted") [.ref d]) Q E s:=by
 obtain ⟨ep,hat⟩:=hm.dictAt
 refine call_function_entry kind_sorted plain_sorted entry_sorted (args_sorted1 _) ?_
 unfold Builtin.«sorted»
 refine wpAny_bind (m:=checkCount "sorted" 1 1 _) (wpAny_pure ?_)
 refine wpAny_bind (PySem.W.kdu_collect (A:=A.in1) (PySem.W.kdl_dict (knd:=knd) (kvs:=kvs) (ep:=ep) lo) hh hat (by rw [sizeLine_eq];lia) fun h' tk acc hk hacc=>?_)
 have hl:acc.toList.length=kvs.length:=by rw [Array.length_toList];exact hacc.1
 have hS:StrsAre acc.toList (kvs.map fun kv=>nm kv.1):=aM9 nm kvs _ hl fun j v e=>by
  obtain ⟨k,x,hx,hi⟩:=hacc.2 j v (by rw [←Array.getElem?_toList];exact e)
  obtain ⟨t,rfl⟩:=htx k v hi ⟨x,List.mem_of_getElem? hx⟩
  exact ⟨(k,x),t,hx,rfl⟩
 refine wpAny_bind (wpAny_newList ?_ (by rw [sizeLine_eq];lia))
 have hoL:(h'.push (seqObj "list" acc.toList.toArray 0)).get? h'.objs.size=some (seqObj "list" acc.toList.toArray 0):=Heap.get?_push_size _ rfl
 refine wpAny_bind (wpAny_holding (wpAny_call_entry slot_list_sort ⟨_,hoL,rfl⟩ entry_list_sort (list_sort_treeK strKind_oneLt hoL hS.keysOf (fun v₁ v₂ rest e=>keyKind_strs (by rw [←e];exact hS)) (by rw [hl];exact h64) fun st' a1 a2=>⟨_,rfl,?_⟩) (args_list_sort _)))
 obtain ⟨ss',b1,b2,b3⟩:=sorted_out_str hS a1 a2
 obtain ⟨e,he⟩:=sortedHeap_at (out:=(arrOf st').map (·.2)) hoL
 refine wpAny_pure ⟨_,rfl,q h' _ tk h'.objs.size ((arrOf st').map (·.2)).toList ss' e b1 b2 (by rw [Array.toArray_toList];exact he) hk (fun b o hb=>?_) (Nat.le_refl _)⟩
 have hlt:=Heap.lt_size hb
 show (sortedHeap (h'.push (seqObj "list" acc.toList.toArray 0)) h'.objs.size acc.toList ((arrOf st').map (·.2))).get? b=some o
 rw [sortedHeap_old (Nat.ne_of_lt hlt) (by rw [size_push'];exact Nat.lt_succ_of_lt hlt)]
 exact Heap.get?_push_of_some _ hb
end
end PySem
namespace L2
open PySem PySem.Spec PyProof.Rows
section
variable {X:Cx}
abbrev aS2 (K:PySem.W.Frag) (H:Hp):List V→List (Key × V)→Prop:=Paired fun u kv=>∃p,u=.ref p∧SqT K H p [kV kv.1,kv.2]
theorem aXb {pins:List (Addr × Obj)} {σ:L2.St} {H:Hp} {s:Shared} (I:Inv X pins σ H s) {us:List V} {kvs:List (Key × V)} (h:aS2 X.K H us kvs):∀{its:List Value},Vals us its →
  ∃vs:List (Key × Value),KV kvs vs∧vs.length=its.length∧∀(j:Nat) (v:Value) (kv:Key × Value),its[j]?=some v→vs[j]?=some kv→vL (cU X.prog X.w) s.heap v kv:=by
 induction h with
 |nil=>
  intro its hv
  cases hv
  exact ⟨[],.nil,rfl,fun j v kv e _=>by simp at e⟩
 |@cons u kv us kvs r t ih=>
  intro its hv
  cases hv with
  |cons q z=>
   obtain ⟨p,rfl,hp⟩:=r
   cases q
   obtain ⟨ks,rv,pl,hz⟩:=I.tuple hp
   obtain ⟨vs,h1,h2,h3⟩:=ih z
   obtain ⟨key,val,rfl,rk,rx⟩:=vals2 rv
   refine ⟨(kv.1,val)::vs,.cons ⟨rfl,rx⟩ h1,by rw [List.length_cons,List.length_cons,h2],fun j v kv' e e'=>?_⟩
   cases j with
   |zero=>
    cases e
    cases e'
    exact ⟨p,key,rfl,pl,aEx rk⟩
   |succ j=>exact h3 j v kv' (by simpa using e) (by simpa using e')
def aRz (K:PySem.W.Frag):List V→Hp→VK→Prop:=fun xs H Q=>∃t us kvs,xs=[.ref t]∧SqT K H t us∧aS2 K H us kvs∧us.length≤1000∧∀p H',H p=none→Same H H'→H' p=some (.dK (nY [] kvs))→Q (.ref p) H'
theorem aCr (hc:X.calm=true):cW X (.type "dict") (aRz X.K):=by
 intro pins s σ H xs us Q I r h
 obtain ⟨t,us,kvs,rfl,ht,hp,hl,q⟩:=h
 obtain ⟨u,rfl,ru⟩:=vals1 r
 cases ru
 obtain ⟨its,rv,⟨tp,nd⟩,hz⟩:=I.aZv ht
 have e1:=rv.length
 obtain ⟨vs,h1,h2,h3⟩:=aXb I hp rv
 have lk:=KV.length h1
 refine aAm (knd:=cU X.prog X.w) (kvs:=vs) (I.ok.hd hc) tp nd (by rw [List.size_toArray];exact h2) (by rw [List.size_toArray];lia) (fun j v kv e e'=>h3 j v kv (by simpa using e) e') fun h' tk hd kp=>?_
 have hf:H s.heap.objs.size=none:=I.hok.fresh (Nat.le_refl _)
 refine ⟨.ref s.heap.objs.size,_,I.laid (t':=tk) (o:=.dK (nY [] kvs)) kp (Nat.le_refl _) ?_,rfl,q _ _ hf (bR hf _) aU⟩
 have lm:=pW kvs []
 simp only [List.length_nil] at lm
 exact ⟨small (by lia),beq_eq_false_iff_ne.mpr (Ne.symm (Nat.ne_of_lt I.big)),_,KV.merge h1 .nil,hd⟩
theorem aKj {K:PySem.W.Frag} (hc:X.calm=true) (h:X.K=K:=by rfl):cW X (.type "dict") (aRz K):=by subst h;exact aCr hc
theorem aBd:∀(kvs acc:List (Key × V)),((acc++kvs).map (·.1)).Nodup→nY acc kvs=acc++kvs
 |[],acc,_=>by simp [nY]
 |kv::r,acc,h=>by
  have hn:mC acc kv.1=none:=by
   cases e:mC acc kv.1 with
   |none=>rfl
   |some v=>
    exfalso
    have:=aNy e
    rw [List.map_append,List.nodup_append] at h
    exact h.2.2 _ this _ (by rw [List.map_cons];exact List.mem_cons_self ..) rfl
  show nY (putK acc kv.1 kv.2) r=_
  rw [aHy _ hn,aBd r _ (by rw [List.append_assoc];exact h),List.append_assoc]
  rfl
theorem yZ {kvs:List (Key × V)} (h:(kvs.map (·.1)).Nodup):nY [] kvs=kvs:=aBd kvs [] h
def aXk:List V→Hp→VK→Prop:=fun xs H Q=>∃(d:Addr) (kvs:List (Key × V)) (ns:List Str),xs=[.ref d]∧H d=some (.dK kvs)∧kvs.map (·.1)=(ns.map fun n=>(Sum.inr n:Key))∧kvs.length<64∧∀(p:Addr) (H':Hp) (ss:List Str),H p=none→Same H H'→ss.Perm ns→H' p=some (.lst (ss.map V.str))→Q (.ref p) H'
theorem aEo:∀{vs:List Value} {ss:List Str},StrsAre vs ss→Vals (ss.map V.str) vs
 |_,_,.nil=>.nil
 |_,_,.cons x t h=>.cons ⟨t,rfl⟩ (aEo h)
theorem aKu (hc:X.calm=true):cW X (.builtin "sorted") aXk:=by
 intro pins s σ H xs us Q I r h
 obtain ⟨d,kvs,ns,rfl,hd,hk,h64,q⟩:=h
 obtain ⟨u,rfl,ru⟩:=vals1 r
 cases ru
 obtain ⟨z,hm,vs,rel,dd⟩:=aIm I.hok hd
 have lk:=KV.length rel
 have ek:=KV.keys rel
 let nm:Key→Str:=fun k=>match k with|.inr n=>n|.inl _=>⟨#[]⟩
 have enm:(vs.map fun kv=>nm kv.1)=ns:=by
  have:(vs.map fun kv=>nm kv.1)=(vs.map (·.1)).map nm:=by rw [List.map_map];rfl
  rw [this,←ek,hk,List.map_map]
  exact List.map_id _
 refine zN (knd:=cU X.prog X.w) nm (I.ok.hd hc) hm dd (fun k v hi hx=>?_) (by lia) fun h1 h' tk B vs' ss e hS hp hB kp1 kp2 hle=>?_
 ·obtain ⟨x,hx⟩:=hx
  have hkm:k∈kvs.map (·.1):=by rw [ek];exact List.mem_map.mpr ⟨_,hx,rfl⟩
  rw [hk] at hkm
  obtain ⟨n,_,rfl⟩:=List.mem_map.mp hkm
  cases v with
  |str x t=>
   have e:x=n:=by simpa [cU,aBr,Value.isStrOf] using hi
   exact ⟨t,by rw [e]⟩
  |_=>exact absurd (show false=true from hi) Bool.false_ne_true
 ·rw [enm] at hp
  have I1:Inv X pins σ H { s with heap:=h1,toks:=tk }:=I.kept (t':=tk) kp1
  have hf:H B=none:=I1.hok.fresh hle
  refine ⟨.ref B,_,I1.laid (t':=tk) (o:=.lst (ss.map V.str)) kp2 hle ?_,rfl,q B _ ss hf (bR hf _) hp aU⟩
  have hv:=aEo hS
  have l1:=hp.length_eq
  have l2:ns.length=kvs.length:=by have:=congrArg List.length hk;simpa using this.symm
  exact ⟨small (by rw [List.length_map];lia),vs',e,hv,hB⟩
end
section
variable {X:Cx} {e st:Expr} {te ts:TE} {pos p2:Pos}
end
section
variable {X:Cx} {o i value:Expr} {td ty tv:TE} {pos pos':Pos}
theorem aTe (hu:X.A.units+1<cLine) (ho:VE X o td) (hi:VE X i ty) (hv:VE X value tv) (hs:swapsWith value (some (.Subscript o i pos')) pos.line X.env=pure false:=by rfl):VS X (.Assign [.Subscript o i pos'] value pos) (aV0 td ty tv):=⟨aUd hu ho.1 hi.1 hv.1 hs⟩
theorem SqT.aZ5 {K:PySem.W.Frag} {H:Hp} {a D:Addr} {xs:List V} {kvs:List (Key × V)} {u:HO} (hD:H D=some (.dK kvs)) (h:SqT K H a xs):SqT K (upd H D u) a xs:=by
 rcases h with (h|⟨o,h⟩)|h
 ·exact .inl (.inl (by rw [bH (xF h hD (by intro z;cases z))];exact h))
 ·exact .inl (.inr ⟨o,by rw [bH (xF h hD (by intro z;cases z))];exact h⟩)
 ·exact .inr h
end
theorem aMb {X:Cx} {pos:Pos} {o i:Expr} {to ti:TE} {t:aTu} (ho:VE X o to) (hi:VE X i ti) (hs:aWc X t)
  (ha:∀v,assign (.Subscript o i pos) X.env v=(do
   let ov ←holding [v] (eval o X.env)
   let iv ←holding [v,ov] (eval i X.env)
   standAt pos
   holding [v,ov,iv] (setItem ov iv v)
   release [v,ov,iv] []):=by intro _;rfl):VG X (.Subscript o i pos) (aY9 to ti t):=⟨aXp ho.1 hi.1 hs ha⟩
theorem aAe {X:Cx}:MtR X "list.reverse" aJd:=aLp
abbrev M61:Int:=2305843009213693951
def mJ (H:Hp) (a:Addr):Prop:=∃s d:Int,H a=some (.lst [.int s,.int d])∧(0≤s∧s<M61)∧0≤d
structure Fx (a:Addr) (H H':Hp):Prop where
 same:∀b o,b≠a→H b=some o→H' b=some o
 st:mJ H' a
theorem Fx.trans {a:Addr} {H H1 H2:Hp} (f:Fx a H H1) (g:Fx a H1 H2):Fx a H H2:=⟨fun b o n e=>g.same b o n (f.same b o n e),g.st⟩
theorem mJ.same {a:Addr} {H H':Hp} (h:mJ H a) (e:Same H H'):mJ H' a:=by
 obtain ⟨s,d,h1,h2⟩:=h
 exact ⟨s,d,e _ _ h1,h2⟩
theorem Fx.of {a:Addr} {H H':Hp} (h:mJ H a) (e:Same H H'):Fx a H H':=⟨fun b o _ q=>e b o q,h.same e⟩
theorem Fx.refl {a:Addr} {H:Hp} (h:mJ H a):Fx a H H:=.of h (Same.refl H)
theorem Fx.sm {a:Addr} {H H1 H2:Hp} (f:Fx a H H1) (e:Same H1 H2):Fx a H H2:=f.trans (.of f.st e)
theorem mJ.ne {a p:Addr} {H:Hp} (h:mJ H a) (f:H p=none):p≠a:=by
 obtain ⟨s,d,h1,_⟩:=h
 exact (bF h1 f).symm
theorem Fx.aH {K:PySem.W.Frag} {a p:Addr} {H H':Hp} {xs:List V} (f:Fx a H H') (h:mJ H a) (e:SqT K H p xs):SqT K H' p xs:=by
 obtain ⟨s,d,h1,_⟩:=h
 rcases e with (e|⟨o,e⟩)|e
 ·exact .inl (.inl (f.same p _ (xF e h1 (by intro z;cases z)) e))
 ·exact .inl (.inr ⟨o,f.same p _ (xF e h1 (by intro z;cases z)) e⟩)
 ·exact .inr e
theorem Fx.upd {a D:Addr} {H H':Hp} {o:HO} (f:Fx a H H') (hD:H D=none) (ne:D≠a):Fx a H (L2.upd H' D o):=⟨fun b u n e=>by rw [bH (bF e hD)];exact f.same b u n e,by
 obtain ⟨s,d,h1,h2⟩:=f.st
 exact ⟨s,d,by rw [bH ne.symm];exact h1,h2⟩⟩
theorem Fx.free {a p:Addr} {H H':Hp} (f:Fx a H H') (h:H' p=none):H p=none:=by
 cases e:H p with
 |none=>rfl
 |some o=>
  by_cases z:p=a
  ·subst z
   obtain ⟨s,d,hs,_⟩:=f.st
   rw [hs] at h;cases h
  ·rw [f.same p o z e] at h;cases h
theorem aVi {a:Addr} {H:Hp} (h:mJ H a):aUg (Fx a) H:=⟨fun D o hD=>.of h (bR hD o),fun a b=>a.trans b,fun D o H' hD f=>f.upd hD (h.ne hD),fun D H1 H2 xs hD _ e f=>f.same _ _ (h.ne hD) e⟩
end L2
namespace PySem
abbrev aC1 (t:Addr) (i:Nat):Obj:={ cls:=.type "list_iterator",data:=.fields #[.ref t,.int (i:Int) 0] }
abbrev aG9 (f0 f1:Value) (TI TO:Addr):Obj:={ cls:=.type "zip",dict:=none,data:=.fields #[f0,f1,.bool false,.ref TI,.ref TO],slots:=#[] }
section
variable {prog:Program} {w:World} {A:Around} {E:Value→Shared→Prop} {s:Shared}
theorem aBe {it t:Addr} {i:Nat} {its:Array Value} {x:Value} {Q:Value→Shared→Prop} (ho:s.heap.get? it=some (aC1 t i)) (ht:s.heap.IsList t its) (hx:its[i]?=some x)
  (q:∀h',h'.get? it=some (aC1 t (i+1))→Heap.SameBut it s.heap h'→Q x { s with heap:=h' }):wpAny (model prog w) A (Builtin.SmallTypes.nextOf (.ref it)) Q E s:=by
 have hT:s.TypeIs (.ref it) "list_iterator":=⟨_,ho,rfl⟩
 obtain ⟨ol,hol,_,nl,hdl⟩:=ht
 unfold Builtin.SmallTypes.nextOf
 refine wpAny_bind (wpAny_callSpecial?_slot (name:=Str.ofString "__next__") hT slot_listiter_next (wpAny_call_entry slot_listiter_next hT entry_listiter_next ?_ (args_listiter_next _)))
 refine wpAny_bind (m:=field (.ref it) 0) (wpAny_field ho rfl (x:=.ref t) rfl ?_)
 refine (if_neg (show ¬ ((Value.ref t == Value.none)=true) from Bool.false_ne_true)).symm ▸ ?_
 refine wpAny_bind (m:=field (.ref it) 1) (wpAny_field ho rfl (x:=.int i 0) rfl ?_)
 refine wpAny_bind (m:=seqItems? (.ref t)) (wpAny_seqItems hol hdl ?_)
 simp only [Int.toNat_natCast,hx]
 refine wpAny_bind (wpAny_setField ho rfl (by simp) (wpAny_pure ⟨x,rfl,wpAny_pure (q _ ?_ (Heap.SameBut.update ..))⟩))
 exact Heap.get?_update_self _ ho rfl
theorem aO4 {z TI TO i1 i2 t u:Addr} {k:Nat} {xs ys:Array Value} {x y a b:Value} {Q:Option Value→Shared→Prop} (D:oK z TI TO i1 i2)
  (hz:s.heap.get? z=some (oR .none TI TO)) (hTI:s.heap.get? TI=some (fM (.ref i1) (.ref i2))) (hTO:s.heap.get? TO=some (fM a b))
  (g1:s.heap.get? i1=some (mO t k)) (g2:s.heap.get? i2=some (aC1 u k)) (ht:s.heap.IsTuple t xs) (hu:s.heap.IsList u ys) (hx:xs[k]?=some x) (hy:ys[k]?=some y)
  (t1:t≠z) (t2:t≠TO) (t3:t≠i1) (t4:t≠i2) (u1:u≠z) (u2:u≠TO) (u3:u≠i1) (u4:u≠i2)
  (q:∀h',h'.get? z=some (aG9 (rawInt s.heap.objs.size) (.bool false) TI TO)→h'.get? TO=some (fM x y)→h'.get? i1=some (mO t (k+1))→h'.get? i2=some (aC1 u (k+1))→h'.get? s.heap.objs.size=some (fM x y) →
   (∀c o,c≠z→c≠TO→c≠i1→c≠i2→s.heap.get? c=some o→h'.get? c=some o)→Q (some (.ref s.heap.objs.size)) { s with heap:=h' }) :
  wpAny (model prog w) A (pyNext (.ref z)) Q E s:=by
 have hT:s.TypeIs (.ref z) "zip":=⟨_,hz,rfl⟩
 unfold pyNext
 refine wpAny_bind (wpAny_attempt (wpAny_callSpecial?_slot (name:=Str.ofString "__next__") hT F.slot_zip_next (wpAny_call_entry F.slot_zip_next hT F.entry_zip_next ?_ (F.args_zip_next_1 _))))
 refine wpAny_bind (m:=field (.ref z) 2) (wpAny_field hz rfl (x:=.bool false) rfl ?_)
 refine wpAny_bind (m:=field (.ref z) 3) (wpAny_field hz rfl (x:=.ref TI) rfl (wpAny_bind (wpAny_seqItems hTI rfl ?_)))
 refine wpAny_bind (m:=Builtin.SmallTypes.ownedTupleIsFree (.ref z)) ?_
 unfold Builtin.SmallTypes.ownedTupleIsFree
 refine wpAny_bind (wpAny_field hz rfl (x:=.none) rfl (wpAny_pure ?_))
 simp only [if_true]
 refine wpAny_bind (wpAny_rule (wpAny_bind (wpAny_field hz rfl (x:=.ref TO) rfl (wpAny_bind (wpAny_setField_rec hz (by simp) fun h1 z1 s1=>?_)))))
 replace z1:h1.get? z=some (oR .ellipsis TI TO):=z1
 refine wpAny_bind ?_
 simp only [List.zipIdx_cons,List.zipIdx_nil,List.forIn_cons,List.forIn_nil]
 refine wpAny_bind (wpAny_bind (wpAny_onRaise ?_))
 refine wpAny_bind (m:=Builtin.SmallTypes.nextOf (.ref i1)) (qU (s:={ s with heap:=h1 }) (s1.extBut _ _ D.h3 g1) (ht.extBut s1.extBut t1) hx fun h2 g12 s2=>wpAny_pure ?_)
 have TO2:h2.get? TO=some (fM a b):=s2.extBut _ _ D.h8 (s1.extBut _ _ D.h2 hTO)
 refine wpAny_bind (wpAny_seqItems TO2 rfl (wpAny_bind (aAz (s:={ s with heap:=h2 }) TO2 fun h3 TO3 s3=>wpAny_bind (wpAny_letGo (wpAny_pure ?_)))))
 replace TO3:h3.get? TO=some (fM x b):=TO3
 refine wpAny_bind (wpAny_bind (wpAny_onRaise ?_))
 refine wpAny_bind (m:=Builtin.SmallTypes.nextOf (.ref i2)) (aBe (s:={ s with heap:=h3 }) (s3.extBut _ _ D.h9.symm (s2.extBut _ _ D.h10.symm (s1.extBut _ _ D.h4 g2))) (((hu.extBut s1.extBut u1).extBut s2.extBut u3).extBut s3.extBut u2) hy fun h4 g24 s4=>wpAny_pure ?_)
 have TO4:h4.get? TO=some (fM x b):=s4.extBut _ _ D.h9 TO3
 refine wpAny_bind (wpAny_seqItems TO4 rfl (wpAny_bind (aAz (s:={ s with heap:=h4 }) TO4 fun h5 TO5 s5=>wpAny_bind (wpAny_letGo (wpAny_pure (wpAny_pure ?_))))))
 replace TO5:h5.get? TO=some (fM x y):=TO5
 refine wpAny_bind (wpAny_seqItems TO5 rfl (wpAny_bind (wpAny_newTuple ?_)))
 have hsz:h5.objs.size=s.heap.objs.size:=by rw [s5.1,s4.1,s3.1,s2.1,s1.1]
 have z5:h5.get? z=some (oR .ellipsis TI TO):=s5.extBut _ _ D.h2.symm (s4.extBut _ _ D.h4.symm (s3.extBut _ _ D.h2.symm (s2.extBut _ _ D.h3.symm z1)))
 have kp:∀c o,c≠z→c≠TO→c≠i1→c≠i2→s.heap.get? c=some o→h5.get? c=some o:=fun c o c1 c2 c3 c4 e=>s5.extBut _ _ c2 (s4.extBut _ _ c4 (s3.extBut _ _ c2 (s2.extBut _ _ c3 (s1.extBut _ _ c1 e))))
 have g15:h5.get? i1=some (mO t (k+1)):=s5.extBut _ _ D.h8.symm (s4.extBut _ _ D.h10 (s3.extBut _ _ D.h8.symm g12))
 have g25:h5.get? i2=some (aC1 u (k+1)):=s5.extBut _ _ D.h9.symm g24
 refine wpAny_bind (m:=Builtin.SmallTypes.ownedTupleHandOut (.ref z) (.ref h5.objs.size)) ?_
 unfold Builtin.SmallTypes.ownedTupleHandOut
 have z6:(h5.push (fM x y)).get? z=some (oR .ellipsis TI TO):=Heap.get?_push_of_some _ z5
 refine wpAny_bind (wpAny_setField_rec z6 (by simp) fun h7 z7 s7=>?_)
 replace z7:h7.get? z=some (oR (rawInt h5.objs.size) TI TO):=z7
 refine wpAny_setField_rec z7 (by simp) fun h8 z8 s8=>?_
 replace z8:h8.get? z=some (aG9 (rawInt h5.objs.size) (.bool false) TI TO):=z8
 have up:∀c o,c≠z→h5.get? c=some o→h8.get? c=some o:=fun c o c1 e=>s8.extBut _ _ c1 (s7.extBut _ _ c1 (Heap.get?_push_of_some _ e))
 have nz:h5.objs.size≠z:=Nat.ne_of_gt (Heap.lt_size z5)
 have T8:h8.get? h5.objs.size=some (fM x y):=s8.extBut _ _ nz (s7.extBut _ _ nz (Heap.get?_push_size _ rfl))
 rw [hsz] at z8 T8
 refine wpAny_pure ⟨_,rfl,wpAny_pure ?_⟩
 show Q (some (.ref h5.objs.size)) _
 rw [hsz]
 exact q h8 z8 (up _ _ D.h2 TO5) (up _ _ D.h3 g15) (up _ _ D.h4 g25) T8 fun c o c1 c2 c3 c4 e=>up c o c1 (kp c o c1 c2 c3 c4 e)
theorem aIl {z TI TO p:Addr} {f1:Value} {op:Obj} {Q:Bool→Shared→Prop} (hz:s.heap.get? z=some (aG9 (rawInt p) f1 TI TO)) (hf1:∃b,f1=.bool b) (hp:s.heap.get? p=some op)
  (q:∀h1,h1.get? z=some (aG9 (rawInt p) (.bool true) TI TO)→Heap.SameBut z s.heap h1→Q false { s with heap:=h1 }):wpAny (model prog w) A (Builtin.SmallTypes.ownedTupleIsFree (.ref z)) Q E s:=by
 unfold Builtin.SmallTypes.ownedTupleIsFree
 refine wpAny_bind (wpAny_field hz rfl (x:=rawInt p) rfl ?_)
 obtain ⟨b1,rfl⟩:=hf1
 have la:∀{α:Type} (k:Option Obj→Sem α) (Q':α→Shared→Prop) (E':Value→Shared→Prop),wpAny (model prog w) A (k (some op)) Q' E' s→wpAny (model prog w) A (loadIfAlive p >>= k) Q' E' s:=by
  intro α k Q' E' h
  show wpAny (model prog w) A (k (s.heap.get? p)) Q' E' s
  rw [hp]
  exact h
 show wpAny _ A (loadIfAlive p >>= _) _ _ s
 refine la _ _ _ ?_
 rw [if_neg (by exact Bool.false_ne_true)]
 refine wpAny_bind (wpAny_field hz rfl (x:=.bool b1) rfl ?_)
 cases b1 with
 |false=>
  rw [if_pos (by decide)]
  exact wpAny_bind (wpAny_setField_rec hz (by simp) fun h1 z1 s1=>wpAny_pure (q h1 z1 s1))
 |true=>
  rw [if_neg (by decide)]
  exact wpAny_pure (q s.heap hz (Heap.SameBut.refl _ _))
theorem aOv {z TI TO i1 i2 t u p:Addr} {k:Nat} {xs ys:Array Value} {x y f1:Value} {op:Obj} {Q:Option Value→Shared→Prop} (D:oK z TI TO i1 i2)
  (hz:s.heap.get? z=some (aG9 (rawInt p) f1 TI TO)) (hf1:∃b,f1=.bool b) (hp:s.heap.get? p=some op) (hTI:s.heap.get? TI=some (fM (.ref i1) (.ref i2)))
  (g1:s.heap.get? i1=some (mO t k)) (g2:s.heap.get? i2=some (aC1 u k)) (ht:s.heap.IsTuple t xs) (hu:s.heap.IsList u ys) (hx:xs[k]?=some x) (hy:ys[k]?=some y)
  (t1:t≠z) (u1:u≠z) (u3:u≠i1)
  (q:∀h',h'.get? z=some (aG9 (rawInt p) (.bool true) TI TO)→h'.get? i1=some (mO t (k+1))→h'.get? i2=some (aC1 u (k+1))→h'.get? s.heap.objs.size=some (fM x y) →
   (∀c o,c≠z→c≠i1→c≠i2→s.heap.get? c=some o→h'.get? c=some o)→Q (some (.ref s.heap.objs.size)) { s with heap:=h' }) :
  wpAny (model prog w) A (pyNext (.ref z)) Q E s:=by
 have hT:s.TypeIs (.ref z) "zip":=⟨_,hz,rfl⟩
 unfold pyNext
 refine wpAny_bind (wpAny_attempt (wpAny_callSpecial?_slot (name:=Str.ofString "__next__") hT F.slot_zip_next (wpAny_call_entry F.slot_zip_next hT F.entry_zip_next ?_ (F.args_zip_next_1 _))))
 refine wpAny_bind (m:=field (.ref z) 2) (wpAny_field hz rfl (x:=.bool false) rfl ?_)
 refine wpAny_bind (m:=field (.ref z) 3) (wpAny_field hz rfl (x:=.ref TI) rfl (wpAny_bind (wpAny_seqItems hTI rfl ?_)))
 refine wpAny_bind (m:=Builtin.SmallTypes.ownedTupleIsFree (.ref z)) (aIl hz hf1 hp fun h1 z1 s1=>?_)
 rw [if_neg Bool.false_ne_true]
 dsimp only
 rw [←Array.forIn_toList]
 simp only [List.forIn_cons,List.forIn_nil]
 refine wpAny_bind (wpAny_bind (wpAny_bind (wpAny_holding ?_)))
 refine wpAny_bind (m:=Builtin.SmallTypes.nextOf (.ref i1)) (qU (s:={ s with heap:=h1 }) (s1.extBut _ _ D.h3 g1) (ht.extBut s1.extBut t1) hx fun h2 g12 s2=>wpAny_pure (wpAny_pure ?_))
 dsimp only
 refine wpAny_bind (wpAny_bind (wpAny_holding ?_))
 refine wpAny_bind (m:=Builtin.SmallTypes.nextOf (.ref i2)) (aBe (s:={ s with heap:=h2 }) (s2.extBut _ _ D.h10.symm (s1.extBut _ _ D.h4 g2)) ((hu.extBut s1.extBut u1).extBut s2.extBut u3) hy fun h4 g24 s4=>wpAny_pure (wpAny_pure ?_))
 dsimp only
 refine wpAny_pure ?_
 have hsz:h4.objs.size=s.heap.objs.size:=by rw [s4.1,s2.1,s1.1]
 refine wpAny_bind (wpAny_newTuple ?_ (by show 2≤sizeLine;decide))
 have z4:h4.get? z=some (aG9 (rawInt p) (.bool true) TI TO):=s4.extBut _ _ D.h4.symm (s2.extBut _ _ D.h3.symm z1)
 have g14:h4.get? i1=some (mO t (k+1)):=s4.extBut _ _ D.h10 g12
 refine wpAny_pure ⟨_,rfl,wpAny_pure ?_⟩
 have T5:(h4.push (fM x y)).get? h4.objs.size=some (fM x y):=Heap.get?_push_size _ rfl
 rw [hsz] at T5
 show Q (some (.ref h4.objs.size)) _
 rw [hsz]
 exact q _ (Heap.get?_push_of_some _ z4) (Heap.get?_push_of_some _ g14) (Heap.get?_push_of_some _ g24) T5 fun c o c1 c2 c3 e=>Heap.get?_push_of_some _ (s4.extBut _ _ c3 (s2.extBut _ _ c2 (s1.extBut _ _ c1 e)))
theorem aQ7 {z TI TO i1 i2 t p:Addr} {k:Nat} {xs:Array Value} {f1:Value} {op:Obj} {Q:Option Value→Shared→Prop} (hh:A.handled=none) (D:oK z TI TO i1 i2)
  (hz:s.heap.get? z=some (aG9 (rawInt p) f1 TI TO)) (hf1:∃b,f1=.bool b) (hp:s.heap.get? p=some op) (hTI:s.heap.get? TI=some (fM (.ref i1) (.ref i2)))
  (g1:s.heap.get? i1=some (mO t k)) (ht:s.heap.IsTuple t xs) (hx:xs[k]?=none) (t1:t≠z)
  (q:∀h',(∀c o,c≠z→c≠i1→s.heap.get? c=some o→h'.get? c=some o)→Q none { s with heap:=h' }) :
  wpAny (model prog w) A (pyNext (.ref z)) Q E s:=by
 have hT:s.TypeIs (.ref z) "zip":=⟨_,hz,rfl⟩
 unfold pyNext
 refine wpAny_bind (wpAny_attempt (wpAny_callSpecial?_slot (name:=Str.ofString "__next__") hT F.slot_zip_next (wpAny_call_entry F.slot_zip_next hT F.entry_zip_next ?_ (F.args_zip_next_1 _))))
 refine wpAny_bind (m:=field (.ref z) 2) (wpAny_field hz rfl (x:=.bool false) rfl ?_)
 refine wpAny_bind (m:=field (.ref z) 3) (wpAny_field hz rfl (x:=.ref TI) rfl (wpAny_bind (wpAny_seqItems hTI rfl ?_)))
 refine wpAny_bind (m:=Builtin.SmallTypes.ownedTupleIsFree (.ref z)) (aIl hz hf1 hp fun h1 z1 s1=>?_)
 rw [if_neg Bool.false_ne_true]
 dsimp only
 rw [←Array.forIn_toList]
 simp only [List.forIn_cons,List.forIn_nil]
 refine wpAny_bind (wpAny_bind (wpAny_bind (wpAny_holding ?_)))
 refine wpAny_bind (m:=Builtin.SmallTypes.nextOf (.ref i1)) (sW (s:={ s with heap:=h1 }) hh (s1.extBut _ _ D.h3 g1) (ht.extBut s1.extBut t1) hx fun h2 e s2 he=>?_)
 obtain ⟨oe,hoe,hce⟩:=he
 refine wpAny_bind (wpAny_isInstance (T:="StopIteration") (b:=true) ⟨oe,hoe,hce⟩ isSubtype_stop ?_)
 exact wpAny_pure (q _ fun c o c1 c3 x=>s2 _ _ c3 (s1.extBut _ _ c1 x))
def ZSt (z TI TO i1 i2 t u:Addr) (i:Nat) (h:Heap):Prop:=
 ((i=0∧h.get? z=some (oR .none TI TO)∧∃a b,h.get? TO=some (fM a b))∨∃p b op,p≠z∧p≠i1∧p≠i2∧p≠TO∧h.get? z=some (aG9 (rawInt p) (.bool b) TI TO)∧h.get? p=some op∧op.cls=.type "tuple") ∧
  h.get? TI=some (fM (.ref i1) (.ref i2))∧h.get? i1=some (mO t i)∧h.get? i2=some (aC1 u i)
theorem aPt {z TI TO i1 i2 t u:Addr} {i:Nat} {xs ys:Array Value} {x y:Value} {Q:Option Value→Shared→Prop} (D:oK z TI TO i1 i2) (st:ZSt z TI TO i1 i2 t u i s.heap) (ht:s.heap.IsTuple t xs) (hu:s.heap.IsList u ys) (hx:xs[i]?=some x) (hy:ys[i]?=some y)
  (tn:t∉[z,TO,i1,i2]) (un:u∉[z,TO,i1,i2])
  (q:∀h',ZSt z TI TO i1 i2 t u (i+1) h'→h'.get? s.heap.objs.size=some (fM x y)→(∀c o,c∉[z,TO,i1,i2]→s.heap.get? c=some o→h'.get? c=some o)→Q (some (.ref s.heap.objs.size)) { s with heap:=h' }) :
  wpAny (model prog w) A (pyNext (.ref z)) Q E s:=by
 obtain ⟨st,hTI,g1,g2⟩:=st
 simp only [List.mem_cons,List.not_mem_nil,or_false,not_or] at tn un
 have fr:∀{c:Addr} {o:Obj},s.heap.get? c=some o→s.heap.objs.size≠c:=fun e=>Nat.ne_of_gt (Heap.lt_size e)
 rcases st with ⟨rfl,hz,a,b,hTO⟩|⟨p,b,op,p1,p2,p3,p4,hz,hp,hpc⟩
 ·refine aO4 D hz hTI hTO g1 g2 ht hu hx hy tn.1 tn.2.1 tn.2.2.1 tn.2.2.2 un.1 un.2.1 un.2.2.1 un.2.2.2 fun h' e1 e2 e3 e4 e5 kp=>q h' ⟨.inr ⟨_,false,_,fr hz,fr g1,fr g2,fr hTO,e1,e5,rfl⟩,kp _ _ D.h1 D.h5 D.h6 D.h7 hTI,e3,e4⟩ e5 fun c o hc e=>?_
  simp only [List.mem_cons,List.not_mem_nil,or_false,not_or] at hc
  exact kp c o hc.1 hc.2.1 hc.2.2.1 hc.2.2.2 e
 ·refine aOv D hz ⟨_,rfl⟩ hp hTI g1 g2 ht hu hx hy tn.1 un.1 un.2.2.1 fun h' e1 e3 e4 e5 kp=>q h' ⟨.inr ⟨p,true,op,p1,p2,p3,p4,e1,kp _ _ p1 p2 p3 hp,hpc⟩,kp _ _ D.h1 D.h6 D.h7 hTI,e3,e4⟩ e5 fun c o hc e=>?_
  simp only [List.mem_cons,List.not_mem_nil,or_false,not_or] at hc
  exact kp c o hc.1 hc.2.2.1 hc.2.2.2 e
end
section
variable {prog:Program} {w:World} {κ:Type} [DecidableEq κ] {knd:KeyKind prog w κ}
theorem aC8 {A:Around} {R:Result→Shared→Prop} {z TI TO i1 i2 t u:Addr} {xs ys:Array Value} (hh:A.in1.handled=none) (Dz:oK z TI TO i1 i2) (D:Addr) (hD:D∉[z,TI,TO,i1,i2,t,u]) (tn:t∉[z,TO,i1,i2]) (un:u∉[z,TO,i1,i2])
  (kvs:List (κ × Value)) (hx:kvs.length=xs.size) (hy:ys.size=xs.size) (h1:1≤xs.size) (hb:xs.size≤1000) (hk:∀(j:Nat) (kv:κ × Value) (x y:Value),kvs[j]?=some kv→xs[j]?=some x→ys[j]?=some y→knd.is kv.1 x=true∧y=kv.2) :
  ∀(k i:Nat) (s:Shared) (tk0:Tok),i+k=xs.size→ZSt z TI TO i1 i2 t u i s.heap→s.heap.IsTuple t xs→s.heap.IsList u ys→s.heap.DictOf knd D (merged [] (kvs.take i)) →
   (∀h' tk,(∀b o,b∉[D,z,TO,i1,i2]→s.heap.get? b=some o→h'.get? b=some o)→h'.DictOf knd D (merged [] kvs)→R (.ok (.ret .none)) { s with heap:=h',toks:=tk }) →
   codeAny (model prog w) A (.builtin "dict.update.loop" ⟨[.ref D,.ref z,.int (i:Nat) tk0,.none],[]⟩) R s:=by
 have hD':=hD
 simp only [List.mem_cons,List.not_mem_nil,or_false,not_or] at hD'
 obtain ⟨d1,d2,d3,d4,d5,d6,d7⟩:=hD'
 intro k
 induction k with
 |zero=>
  intro i s tk0 hi st ht hu hd q
  obtain rfl:i=xs.size:=by lia
  obtain ⟨st,hTI,g1,g2⟩:=st
  refine codeAny_builtin dM ?_
  rw [Around.under_plainId bV _]
  show wpAny _ A.in1 (pyNext (.ref z) >>= _) _ _ _
  simp only [List.mem_cons,List.not_mem_nil,or_false,not_or] at tn un
  rcases st with ⟨h0,_⟩|⟨p,b,op,p1,p2,p3,p4,hz,hp,hpc⟩
  ·lia
  refine wpAny_bind (aQ7 hh Dz hz ⟨_,rfl⟩ hp hTI g1 ht (by simp) tn.1 fun h' kp=>?_)
  show wpAny _ _ (Builtin.Dict.addKeywords D [] >>= _) _ _ _
  refine wpAny_bind (wpAny_pure (wpAny_pure (q h' s.toks (fun b o nb e=>?_) ?_)))
  ·simp only [List.mem_cons,List.not_mem_nil,or_false,not_or] at nb
   exact kp b o nb.2.1 nb.2.2.2.1 e
  ·rw [List.take_of_length_le (Nat.le_of_eq hx)] at hd
   exact hd.at fun o e=>kp D o d1 d4 e
 |succ k ih=>
  intro i s tk0 hi st ht hu hd q
  have hlt:i<kvs.length:=by lia
  have hix:i<xs.size:=by lia
  have hiy:i<ys.size:=by lia
  have hkv:=List.getElem?_eq_getElem hlt
  refine codeAny_builtin dM ?_
  rw [Around.under_plainId bV _]
  show wpAny _ A.in1 (pyNext (.ref z) >>= _) _ _ _
  refine wpAny_bind (aPt Dz st ht hu (Array.getElem?_eq_getElem hix) (Array.getElem?_eq_getElem hiy) tn un fun h1 st1 e1 kp1=>?_)
  obtain ⟨hk1,hk2⟩:=hk i _ _ _ hkv (Array.getElem?_eq_getElem hix) (Array.getElem?_eq_getElem hiy)
  have nD:D∉[z,TO,i1,i2]:=by
   simp only [List.mem_cons,List.not_mem_nil,or_false,not_or]
   exact ⟨d1,d3,d4,d5⟩
  have hd1:h1.DictOf knd D (merged [] (kvs.take i)):=hd.at fun o e=>kp1 D o nD e
  have hml:(merged [] (kvs.take i)).length≤i:=by
   have:=merged_length_le [] (kvs.take i)
   rw [List.length_take] at this
   simp only [List.length_nil] at this
   lia
  obtain ⟨hp0,g,d,tk,os⟩:=s
  have hT:(⟨h1,g,d,tk,os⟩:Shared).TypeIs (.ref hp0.objs.size) "tuple":=⟨_,e1,rfl⟩
  have hpi:∀(Q:List Value→Shared→Prop) (E:Value→Shared→Prop),Q [xs[i],ys[i]] ⟨h1,g,d,tk,os⟩→wpAny (model prog w) A.in1 (Builtin.Dict.pairItems (.ref hp0.objs.size)) Q E ⟨h1,g,d,tk,os⟩:=by
   intro Q E h
   unfold Builtin.Dict.pairItems
   wp_walk
   exact h
  show wpAny _ A.in1 (holding [.ref hp0.objs.size] _ >>= _) _ _ ⟨h1,g,d,tk,os⟩
  refine wpAny_bind (wpAny_holding (wpAny_bind (wpAny_tryCatch (hpi _ _ ?_))))
  show wpAny _ A.in1 (holding [xs[i],ys[i]] (dictSet D xs[i] ys[i])) _ _ ⟨h1,g,d,tk,os⟩
  refine wpAny_holding (wpAny_dictSet_pairs (s:=⟨h1,g,d,tk,os⟩) hk1 hd1 (fun h2 hd2 sb2=>?_) (Nat.le_trans hml (Nat.le_trans (by lia) (show 1000≤sizeLine by decide))))
  have e2:merged [] (kvs.take (i+1))=stored (merged [] (kvs.take i)) kvs[i].1 kvs[i].2:=merged_take_succ [] kvs i _ hkv
  rw [hk2,←e2] at hd2
  refine wpAny_pure ⟨plainId_quiet bV _,?_⟩
  have kd:∀{b:Addr} {o:Obj},b≠D→h1.get? b=some o→h2.get? b=some o:=fun {b o} nb e=>by rw [sb2.2 b nb];exact e
  have hdD:∃o,h1.get? D=some o∧o.cls=.type "dict":=by
   obtain ⟨o,_,_,ho,hc,_⟩:=hd1
   exact ⟨o,ho,hc.1⟩
  have st2:ZSt z TI TO i1 i2 t u (i+1) h2:=by
   obtain ⟨st',a1,a2,a3⟩:=st1
   refine ⟨?_,kd (Ne.symm d2) a1,kd (Ne.symm d4) a2,kd (Ne.symm d5) a3⟩
   rcases st' with ⟨h0,_⟩|⟨p,b,op,p1,p2,p3,p4,hz,hp,hpc⟩
   ·lia
   ·refine .inr ⟨p,b,op,p1,p2,p3,p4,kd (Ne.symm d1) hz,kd (fun e=>?_) hp,hpc⟩
    obtain ⟨oD,hoD,hcD⟩:=hdD
    rw [e,hoD] at hp
    cases hp
    rw [hcD] at hpc
    exact absurd hpc (by decide)
  have kt:∀{b:Addr} {o:Obj},b∉[D,z,TO,i1,i2]→hp0.get? b=some o→h2.get? b=some o:=fun {b o} nb e=>by
   have nb':b∉[z,TO,i1,i2]:=fun x=>nb (List.mem_cons_of_mem _ x)
   exact kd (fun x=>nb (by rw [x];exact List.mem_cons_self)) (kp1 b o nb' e)
  have nt:t∉[D,z,TO,i1,i2]:=by
   intro x
   rcases List.mem_cons.mp x with x|x
   ·exact d6 x.symm
   ·exact tn x
  have nu:u∉[D,z,TO,i1,i2]:=by
   intro x
   rcases List.mem_cons.mp x with x|x
   ·exact d7 x.symm
   ·exact un x
  refine ih (i+1) _ _ (by lia) st2 (by obtain ⟨o,ho,r⟩:=ht;exact ⟨o,kt nt ho,r⟩) (by obtain ⟨o,ho,r⟩:=hu;exact ⟨o,kt nu ho,r⟩) hd2 fun h' tk' kp hd'=>q h' tk' (fun b o nb e=>kp b o nb (kt nb e)) hd'
end
end PySem
namespace PySem
theorem aDu:typeLookup (.type "zip") "keys"=pure none:=am_miss_of_fast (by decide +kernel)
theorem uR:typeLookup (.type "zip") "__getattr__"=pure none:=by rw [typeLookup_type,builtinLookup_eq_fast];kernel_rfl
theorem oU:entryFor table "zip.__getattribute__"=some Builtin.«object.__getattribute__»:=
 entryFor_alias (id':="object.__getattribute__") (by kernel_rfl) (by first|rfl|decide +kernel) (by decide +kernel) (by kernel_rfl)
theorem mY (a:Addr) (vs:Array Value) (name:Str) (u:Tok) (hmiss:typeLookup (.type "zip") name=pure none) (hname:(["__module__","__name__","__qualname__","__doc__","__annotations__"]:List Str).contains name=false) (hsz:name.length+100≤sizeLine:=by size_fits) :
  Meets (Builtin.«object.__getattribute__» ⟨[.ref a,.str name u],[]⟩) (fun A R s=>s.heap.get? a=some { cls:=.type "zip",dict:=none,data:=.fields vs,slots:=#[] }∧raisesAttr (.ref a) name A R s):=
 Meets.of_wp fun prog w A R s hs=>by
  obtain ⟨hp,g,d,tk,os⟩:=s
  obtain ⟨hx,hs⟩:=hs
  have hT:(⟨hp,g,d,tk,os⟩:Shared).TypeIs (.ref a) "zip":=⟨_,hx,rfl⟩
  unfold Builtin.«object.__getattribute__»
  repeat (any_goals (first|assumption|wp_step))
  simp only [hname,Bool.false_eq_true,if_false]
  repeat (any_goals (first|assumption|wp_step))
  exact wpAny_raiseAttrError hs.1 hs.2 (attrMsg_fits (by decide +kernel) hsz)
section
variable {prog:Program} {w:World} {A:Around} {E:Value→Shared→Prop} {s:Shared}
theorem aK7 {a:Addr} {vs:Array Value} {Q:Option Value→Shared→Prop} (hx:s.heap.get? a=some { cls:=.type "zip",dict:=none,data:=.fields vs,slots:=#[] }) (hA:A.handled=none)
  (h:∀h' tk,(∀b u,s.heap.get? b=some u→h'.get? b=some u)→Q none { s with heap:=h',toks:=tk }):wpAny (model prog w) A (getAttr? (.ref a) "keys") Q E s:=by
 obtain ⟨hp,g,d,tk,os⟩:=s
 have hT:∀tk',(⟨hp,g,d,tk',os⟩:Shared).TypeIs (.ref a) "zip":=fun _=>⟨_,hx,rfl⟩
 have f1:=sub_AttributeError
 have f3:=F.slot_zip_getattribute.lookup
 have f4:=F.slot_zip_getattribute.bind (.ref a)
 have f5:=uR
 unfold getAttr? getAttrBy? getAttrBy
 repeat (any_goals (first|assumption|exact hT _|((with_reducible show wpAny _ _ (call (Value.builtin "zip.__getattribute__") _ _) _ _ _);refine call_meets F.slot_zip_getattribute (hT _) oU (F.args_zip_getattribute_2 _ _) (mY a vs "keys" _ aDu (by decide +kernel) (by size_fits)) ⟨hx,hA,fun h' tk' e hx'=>?_⟩)|wp_step))
 obtain ⟨t',u',he⟩:=hx'.there
 show wpAny _ _ (getattributeRaised _ _ _ _ _ _ _) _ _ _
 unfold getattributeRaised
 repeat (any_goals (first|assumption|wp_step))
 exact h _ _ hx'.keeps
abbrev zL2 (h:Heap) (t u:Addr):Heap:=(zT1 h t).push (aC1 u 0)
abbrev zL3 (h:Heap) (t u:Addr):Heap:=(zL2 h t u).push (fM (.ref h.objs.size) (.ref (zT1 h t).objs.size))
abbrev zL4 (h:Heap) (t u:Addr):Heap:=(zL3 h t u).push (fM .none .none)
abbrev zL5 (h:Heap) (t u:Addr):Heap:=(zL4 h t u).push (oR .none (zL2 h t u).objs.size (zL3 h t u).objs.size)
theorem aMk (t u:Addr) (xs ys:Array Value):Meets (Builtin.«zip.__new__» ⟨[.type "zip",.ref t,.ref u],[]⟩)
  (fun _ R s=>s.heap.IsTuple t xs∧s.heap.IsList u ys∧R (.ok (.ret (.ref (zL4 s.heap t u).objs.size))) { s with heap:=zL5 s.heap t u }):=
 .of_wp fun prog w A R s h=>by
  obtain ⟨hp,g,d,tk,os⟩:=s
  obtain ⟨a1,a2,h⟩:=h
  have hsub:=sub_zip
  have b1:Heap.IsTuple (Shared.heap ⟨hp,g,d,tk,os⟩) t xs:=a1
  have b2:Heap.IsList (Shared.heap ⟨hp.push { cls:=.type "tuple_iterator",data:=.fields #[.ref t,.int 0 0] },g,d,tk,os⟩) u ys:=by
   obtain ⟨o,ho,r⟩:=a2
   exact ⟨o,Heap.get?_push_of_some _ ho,r⟩
  wp_walk using wpAny_pyIter_tuple b1,wpAny_pyIter_list b2
  exact ⟨_,rfl,h⟩
theorem aN9 {t u:Addr} {xs ys:Array Value} {Q:Value→Shared→Prop} (ht:s.heap.IsTuple t xs) (hu:s.heap.IsList u ys) (q:Q (.ref (zL4 s.heap t u).objs.size) { s with heap:=zL5 s.heap t u }) :
  wpAny (model prog w) A (call (.type "zip") [.ref t,.ref u]) Q E s:=by
 refine callType_new F.called_zip (by decide) (F.typeCall_zip_2 _ _) (F.newCall_zip_2 _ _) (fun obj=>F.args_object_init_3 obj _ _) F.entry_zip_new (aMk t u xs ys) ⟨ht,hu,?_⟩
 exact ⟨⟨_,Heap.get?_push_size _ rfl,rfl⟩,q⟩
end
section
variable {prog:Program} {w:World} {κ:Type} [DecidableEq κ] {knd:KeyKind prog w κ} {A:Around} {E:Value→Shared→Prop} {s:Shared}
theorem aCy {z TI TO i1 i2 t u:Addr} {xs ys:Array Value} {kvs:List (κ × Value)} {Q:Value→Shared→Prop} (hh:A.handled=none) (Dz:oK z TI TO i1 i2) (st:ZSt z TI TO i1 i2 t u 0 s.heap) (hz:s.heap.get? z=some (oR .none TI TO)) (ht:s.heap.IsTuple t xs) (hu:s.heap.IsList u ys)
  (tn:t∉[z,TO,i1,i2]) (un:u∉[z,TO,i1,i2]) (hTO:∃o,s.heap.get? TO=some o)
  (hx:kvs.length=xs.size) (hy:ys.size=xs.size) (h1:1≤xs.size) (hb:xs.size≤1000) (hk:∀(j:Nat) (kv:κ × Value) (x y:Value),kvs[j]?=some kv→xs[j]?=some x→ys[j]?=some y→knd.is kv.1 x=true∧y=kv.2)
  (q:∀h' tk,h'.DictOf knd s.heap.objs.size (merged [] kvs)→(∀b o,b∉[z,TO,i1,i2]→s.heap.get? b=some o→h'.get? b=some o)→Q (.ref s.heap.objs.size) { s with heap:=h',toks:=tk }) :
  wpAny (model prog w) A (call (.type "dict") [.ref z]) Q E s:=by
 refine callType_codes (Q₁:=fun obj s₁=>obj=.ref s.heap.objs.size∧s₁={ s with heap:=s.heap.push { cls:=.type "dict",data:=.dict #[] } }) F.kt_called_dict (F.kt_typeCall_dict_1 _) F.entry_dict_init (kt_code_dict_new _ ⟨rfl,rfl⟩) ?_
 rintro obj s₁ ⟨rfl,rfl⟩
 have hnew:(s.heap.push { cls:=.type "dict",data:=.dict #[] }).DictOf knd s.heap.objs.size []:=Heap.DictOf.new s.heap
 have up:∀{b:Addr} {o:Obj},s.heap.get? b=some o→(s.heap.push { cls:=.type "dict",data:=.dict #[] }).get? b=some o:=fun e=>Heap.get?_push_of_some _ e
 have hT:Shared.TypeIs { s with heap:=s.heap.push { cls:=.type "dict",data:=.dict #[] } } (.ref z) "zip":=⟨_,up hz,rfl⟩
 refine ⟨hnew.typeIs,F.args_dict_init_2 _ _,?_⟩
 unfold Builtin.«dict.__init__»
 refine wpAny_bind ?_
 unfold Builtin.Dict.selfAndRest
 refine wpAny_bind (wpAny_notOrdered_dict hnew.typeIs ?_)
 show wpAny _ _ (pure (s.heap.objs.size,[Value.ref z])) _ _ _
 refine wpAny_pure ?_
 show wpAny _ _ (Builtin.Dict.updateFrom "dict.__init__" s.heap.objs.size (.ref z) [] .none) _ _ _
 unfold Builtin.Dict.updateFrom
 refine wpAny_bind (wpAny_typeOf hT ?_)
 rw [if_pos (by decide)]
 refine wpAny_bind (aK7 (up hz) (by first|exact hh|simp [hh]) fun h2 tk2 kp2=>?_)
 rw [if_pos (show (none:Option Value).isNone=true from rfl)]
 have u2:∀{b:Addr} {o:Obj},s.heap.get? b=some o→h2.get? b=some o:=fun e=>kp2 _ _ (up e)
 refine wpAny_bind (wpAny_rule (wpAny_bind (wpAny_pyIter_zip (u2 hz) ?_)))
 refine wpAny_pure ⟨plainId_quiet bV _,?_⟩
 have fr:∀{c:Addr} {o:Obj},s.heap.get? c=some o→s.heap.objs.size≠c:=fun e=>Nat.ne_of_gt (Heap.lt_size e)
 obtain ⟨st0,hTI,g1,g2⟩:=id st
 have st2:ZSt z TI TO i1 i2 t u 0 h2:=by
  obtain ⟨o,ho⟩:=hTO
  rcases st0 with ⟨_,e1,a,b,e2⟩|⟨p,b,op,p1,p2,p3,p4,e1,e2,e3⟩
  ·exact ⟨.inl ⟨rfl,u2 e1,a,b,u2 e2⟩,u2 hTI,u2 g1,u2 g2⟩
  ·exact ⟨.inr ⟨p,b,op,p1,p2,p3,p4,u2 e1,u2 e2,e3⟩,u2 hTI,u2 g1,u2 g2⟩
 obtain ⟨ot,hot,rt⟩:=ht
 obtain ⟨ou,hou,ru⟩:=hu
 obtain ⟨oO,hoO⟩:=hTO
 refine aC8 (knd:=knd) (by first|exact hh|simp [hh]) Dz s.heap.objs.size ?_ tn un kvs hx hy h1 hb hk xs.size 0 _ _ (by lia) st2 ⟨ot,u2 hot,rt⟩ ⟨ou,u2 hou,ru⟩ (hnew.at fun o e=>kp2 _ _ e) fun h' tk kp hd'=>?_
 ·simp only [List.mem_cons,List.not_mem_nil,or_false,not_or]
  exact ⟨fr hz,fr hTI,fr hoO,fr g1,fr g2,fr hot,fr hou⟩
 ·refine ⟨rfl,q h' tk hd' fun b o nb e=>kp b o ?_ (u2 e)⟩
  intro x
  rcases List.mem_cons.mp x with x|x
  ·exact fr e x.symm
  ·exact nb x
end
end PySem
namespace L2
open PySem PySem.Spec PyProof.Rows
section
variable {X:Cx} {a b:Expr} {ta:TA} {pos p pos2 p2:Pos}
def aYt (K:PySem.W.Frag) (ta:TA):TE:=fun σ H Q=>ta σ H fun vs H1=>∃(t u:Addr) (ns ms:List Str),vs=[.ref t,.ref u]∧SqT K H1 t (ns.map V.str)∧SqL K H1 u (ms.map V.str)∧ns.length=ms.length∧1≤ns.length∧ns.length≤1000 ∧
 ∀d H',H1 d=none→Same H1 H'→H' d=some (.dK (nY [] ((ns.zip ms).map fun x=>((Sum.inr x.1:Key),V.str x.2))))→Q (.ref d) H'
theorem aXt:∀{ns ms:List Str} {xs ys:List Value},Vals (ns.map V.str) xs→Vals (ms.map V.str) ys→ns.length=ms.length →
  ∃vs:List (Key × Value),KV ((ns.zip ms).map fun x=>((Sum.inr x.1:Key),V.str x.2)) vs∧vs.length=xs.length∧∀(j:Nat) (kv:Key × Value) (x y:Value),vs[j]?=some kv→xs[j]?=some x→ys[j]?=some y→(cU X.prog X.w).is kv.1 x=true∧y=kv.2:=by
 intro ns
 induction ns with
 |nil=>
  intro ms xs ys h1 h2 hl
  cases h1
  exact ⟨[],.nil,rfl,fun j kv x y e _ _=>by simp at e⟩
 |cons n ns ih=>
  intro ms xs ys h1 h2 hl
  cases ms with
  |nil=>simp at hl
  |cons m ms=>
   cases h1 with
   |cons r1 t1=>
    cases h2 with
    |cons r2 t2=>
     obtain ⟨vs,k1,k2,k3⟩:=ih t1 t2 (by simpa using hl)
     rename_i x0 xr y0 yr
     refine ⟨((Sum.inr n:Key),y0)::vs,.cons ⟨rfl,r2⟩ k1,by rw [List.length_cons,List.length_cons,k2],fun j kv x y e1 e2 e3=>?_⟩
     cases j with
     |zero=>
      cases e1
      cases e2
      cases e3
      exact ⟨aEx r1,rfl⟩
     |succ j=>exact k3 j kv x y (by simpa using e1) (by simpa using e2) (by simpa using e3)
theorem aUs (hc:X.calm=true) (hg:Gl X "dict") (hm:X.mg "dict"=none) (hg2:Gl X "zip") (hm2:X.mg "zip"=none) (ha:VA X [a,b] ta) (hp:jD a=true:=by rfl) (hp2:jD b=true:=by rfl)
  (he:starEach [.Call (.Name "zip" p2) [a,b] [] pos2] X.env=[(false,eval (.Call (.Name "zip" p2) [a,b] [] pos2) X.env)]:=by rfl) :
  VE X (.Call (.Name "dict" p) [.Call (.Name "zip" p2) [a,b] [] pos2] [] pos) (aYt X.K ta):=⟨by
 intro pins s σ H Q I h
 refine wpAny_Call_Name_kw (sY I hg hm aA6 ?_)
 refine PyProof.Rows.callWith_type1 ?_ he rfl
 rw [he]
 show wpAny _ _ (spliced ((false,eval (.Call (.Name "zip" p2) [a,b] [] pos2) X.env)::backTo pos [])) _ _ s
 refine Calls.spliced_cons ?_
 refine wpAny_Call_Name_kw (sY I hg2 hm2 aQc ?_)
 refine PyProof.Rows.callWith_type1 (thn (ha.1 pos2 pins s σ H _ I h) fun us s1 ⟨vs,H1,I1,r1,q1⟩=>?_) (cC hp) (by rw [cC (es:=[]) hp2];rfl)
 obtain ⟨t,u,ns,ms,e,ht,hu,hl,h1,hb,q⟩:=q1
 subst e
 obtain ⟨its,rv,pt,hz⟩:=I1.tuple ht
 obtain ⟨jts,rw',pu,hz'⟩:=I1.list hu
 cases r1 with
 |cons r rr=>
  cases rr with
  |cons r' rr'=>
   cases rr'
   cases r
   cases r'
   have li:=rv.length
   have lj:=rw'.length
   rw [List.length_map] at li lj
   refine aN9 (show s1.heap.IsTuple t its.toArray from pt) pu.isList ?_
   have z1:(zT1 s1.heap t).objs.size=s1.heap.objs.size+1:=Heap.size_push ..
   have z2:(zL2 s1.heap t u).objs.size=s1.heap.objs.size+2:=by rw [Heap.size_push,z1]
   have z3:(zL3 s1.heap t u).objs.size=s1.heap.objs.size+3:=by rw [Heap.size_push,z2]
   have z4:(zL4 s1.heap t u).objs.size=s1.heap.objs.size+4:=by rw [Heap.size_push,z3]
   have D:oK (zL4 s1.heap t u).objs.size (zL2 s1.heap t u).objs.size (zL3 s1.heap t u).objs.size s1.heap.objs.size (zT1 s1.heap t).objs.size:=by
    constructor <;> (show (_:Nat)≠(_:Nat);rw [Ne];intro h;simp only [z1,z2,z3,z4] at h;lia)
   have g5:(zL5 s1.heap t u).get? (zL4 s1.heap t u).objs.size=some (oR .none (zL2 s1.heap t u).objs.size (zL3 s1.heap t u).objs.size):=Heap.get?_push_size _ rfl
   have g4:(zL5 s1.heap t u).get? (zL3 s1.heap t u).objs.size=some (fM .none .none):=Heap.get?_push_of_some _ (Heap.get?_push_size _ rfl)
   have g3:(zL5 s1.heap t u).get? (zL2 s1.heap t u).objs.size=some (fM (.ref s1.heap.objs.size) (.ref (zT1 s1.heap t).objs.size)):=Heap.get?_push_of_some _ (Heap.get?_push_of_some _ (Heap.get?_push_size _ rfl))
   have g2:(zL5 s1.heap t u).get? (zT1 s1.heap t).objs.size=some (aC1 u 0):=Heap.get?_push_of_some _ (Heap.get?_push_of_some _ (Heap.get?_push_of_some _ (Heap.get?_push_size _ rfl)))
   have g1:(zL5 s1.heap t u).get? s1.heap.objs.size=some (mO t 0):=Heap.get?_push_of_some _ (Heap.get?_push_of_some _ (Heap.get?_push_of_some _ (Heap.get?_push_of_some _ (Heap.get?_push_size _ rfl))))
   have u5:∀b o,s1.heap.get? b=some o→(zL5 s1.heap t u).get? b=some o:=fun b o e=>Heap.get?_push_of_some _ (Heap.get?_push_of_some _ (Heap.get?_push_of_some _ (Heap.get?_push_of_some _ (Heap.get?_push_of_some _ e))))
   have big:∀c∈[(zL4 s1.heap t u).objs.size,(zL3 s1.heap t u).objs.size,s1.heap.objs.size,(zT1 s1.heap t).objs.size],s1.heap.objs.size≤c:=by
    intro c hcm
    simp only [List.mem_cons,List.not_mem_nil,or_false] at hcm
    rcases hcm with rfl|rfl|rfl|rfl
    ·rw [z4];lia
    ·rw [z3];lia
    ·exact Nat.le_refl _
    ·rw [z1];lia
   refine Calls.spliced_nil ?_
   obtain ⟨kv,k1,k2,k3⟩:=aXt (X:=X) rv rw' hl
   have tlt:t<s1.heap.objs.size:=by obtain ⟨o,ho,_⟩:=pt;exact Heap.lt_size ho
   have ult:u<s1.heap.objs.size:=by obtain ⟨o,n,ho,_⟩:=pu;exact Heap.lt_size ho
   have I2:Inv X pins σ H1 { s1 with heap:=zL5 s1.heap t u }:=I1.kept (t':=s1.toks) u5
   refine aCy (s:={ s1 with heap:=zL5 s1.heap t u }) (knd:=cU X.prog X.w) (kvs:=kv) (I1.ok.hd hc) D ⟨.inl ⟨rfl,g5,_,_,g4⟩,g3,g1,g2⟩ g5 (by obtain ⟨o,ho,r⟩:=pt;exact ⟨o,u5 _ _ ho,r⟩) (by obtain ⟨o,n,ho,r1,r2,r3⟩:=pu;exact ⟨o,u5 _ _ ho,r1,n,r3⟩) (fun x=>absurd (big _ x) (Nat.not_le.mpr tlt)) (fun x=>absurd (big _ x) (Nat.not_le.mpr ult)) ⟨_,g4⟩ (by rw [List.size_toArray];exact k2) (by rw [List.size_toArray,List.size_toArray];lia) (by rw [List.size_toArray];lia) (by rw [List.size_toArray];lia) (fun j kv x y e1 e2 e3=>k3 j kv x y e1 (by simpa using e2) (by simpa using e3)) fun h' tk hd kp=>?_
   have kp1:∀b o,s1.heap.get? b=some o→h'.get? b=some o:=fun b o e=>kp b o (fun x=>absurd (big _ x) (Nat.not_le.mpr (Heap.lt_size e))) (u5 b o e)
   have hf:H1 (zL5 s1.heap t u).objs.size=none:=I2.hok.fresh (Nat.le_refl _)
   have hle:s1.heap.objs.size≤(zL5 s1.heap t u).objs.size:=by
    have:(zL5 s1.heap t u).objs.size=(zL4 s1.heap t u).objs.size+1:=Heap.size_push ..
    rw [this,z4];lia
   have lk:=KV.length k1
   have lm:=pW ((ns.zip ms).map fun x=>((Sum.inr x.1:Key),V.str x.2)) []
   simp only [List.length_nil] at lm
   refine ⟨.ref _,_,I1.laid (t':=tk) (o:=.dK (nY [] ((ns.zip ms).map fun x=>((Sum.inr x.1:Key),V.str x.2)))) kp1 hle ?_,rfl,q _ _ hf (bR hf _) aU⟩
   exact ⟨small (by rw [List.length_map,List.length_zip] at lm;lia),beq_eq_false_iff_ne.mpr (Ne.symm (Nat.ne_of_lt (Nat.lt_of_lt_of_le I1.big hle))),_,KV.merge k1 .nil,hd⟩⟩
end
theorem aP0:bootBuiltins "divmod"=some (.builtin "divmod"):=by decide +kernel
def aYq:List V→Hp→VK→Prop:=fun xs H Q=>∃i j,xs=[.int i,.int j]∧(0<j∧j<2 ^ 64)∧∀p H',H p=none→Same H H'→H' p=some (.tup [.int (i / j),.int (i % j)])→Q (.ref p) H'
theorem aOe {X:Cx}:cW X (.builtin "divmod") aYq:=by
 intro pins s σ H xs us Q I r h
 obtain ⟨i,j,rfl,⟨h1,h2⟩,q⟩:=h
 obtain ⟨u,w',rfl,⟨t,rfl⟩,⟨t',rfl⟩⟩:=vals2 r
 have h64:j.natAbs<2 ^ 64:=by omega
 have hlog:j.natAbs.log2<9000:=by
  have:=(Nat.log2_lt (show j.natAbs≠0 by omega)).mpr h64
  omega
 refine divmod_int (by omega) ?_ (.inl (PyProof.noPylong_of_log2 hlog))
 rw [Int.fdiv_eq_ediv_of_nonneg i (by omega),Int.fmod_eq_emod_of_nonneg i (by omega)]
 have hn:H s.heap.objs.size=none:=I.hok.fresh (Nat.le_refl _)
 refine ⟨.ref s.heap.objs.size,upd H s.heap.objs.size (.tup [.int (i / j),.int (i % j)]),?_,rfl,q _ _ hn (bR hn _) aU⟩
 refine I.laid (fun b o e=>Heap.get?_push_of_some _ e) (Nat.le_refl _) ⟨by simp only [List.length_cons,List.length_nil];rw [sizeLine_eq];decide,[.int (i / j) s.toks,.int (i % j) (s.toks+1)],.cons ⟨_,rfl⟩ (.cons ⟨_,rfl⟩ .nil),?_⟩
 exact .of (Heap.get?_push_size s.heap rfl) rfl ⟨_,Heap.get?_push_size s.heap rfl,rfl,0,rfl⟩
inductive Al2 {α β:Type} (R:α→β→Prop):List α→List β→Prop
 |nil:Al2 R [] []
 |cons {a b as bs}:R a b→Al2 R as bs→Al2 R (a::as) (b::bs)
theorem Al2.len {α β:Type} {R:α→β→Prop} {as:List α} {bs:List β} (h:Al2 R as bs):as.length=bs.length:=by
 induction h with
 |nil=>rfl
 |cons _ _ ih=>rw [List.length_cons,List.length_cons,ih]
theorem Al2.at {α β:Type} {R:α→β→Prop} {as:List α} {bs:List β} (h:Al2 R as bs):∀{j:Nat} {a:α},as[j]?=some a→∃b,bs[j]?=some b∧R a b:=by
 induction h with
 |nil=>intro j a e;simp at e
 |cons r _ ih=>
  intro j a e
  cases j with
  |zero=>cases e;exact ⟨_,rfl,r⟩
  |succ j=>exact ih (by simpa using e)
def DEq (K:PySem.W.Frag) (H:Hp):Nat→V→V→Prop
 |0,x,y=>lC x=true∧x=y
 |n+1,x,y=>(lC x=true∧x=y)∨∃a b xs ys,x=.ref a∧y=.ref b∧SqT K H a xs∧SqT K H b ys∧Al2 (DEq K H n) xs ys
theorem aEr {A:Around} {s:Shared} {x:V} {v u:Value} (h:lC x=true) (rv:RelV x v) (ru:RelV x u):SeqAt.EqAt A s v u true:=by
 cases x with
 |non=>cases rv;cases ru;exact SeqAt.EqAt.same _
 |bl b=>cases rv;cases ru;exact SeqAt.EqAt.same _
 |int i=>
  obtain ⟨t,rfl⟩:=rv
  obtain ⟨t',rfl⟩:=ru
  have z:=SeqAt.EqAt.int_int (A:=A) (s:=s) i t i t'
  simpa using z
 |str y=>
  obtain ⟨t,rfl⟩:=rv
  obtain ⟨t',rfl⟩:=ru
  have z:=SeqAt.EqAt.str_str (A:=A) (s:=s) y t y t'
  simpa using z
 |_=>cases h
section
variable {X:Cx} {pins:List (Addr × Obj)} {σ:L2.St} {H:Hp} {s:Shared}
theorem vV (I:Inv X pins σ H s) {n:Nat} {A:Around} {xs ys:List V} {its jts:List Value} (rv:Vals xs its) (rw':Vals ys jts) (h:Al2 (DEq X.K H n) xs ys)
  (ih:∀{x y v u},DEq X.K H n x y→RelV x v→RelV y u→SeqAt.EqAt A s v u true):∀(j:Nat) (h1:j<its.toArray.size) (h2:j<jts.toArray.size),SeqAt.EqAt A s its.toArray[j] jts.toArray[j] ((fun _=>true) j):=fun j h1 h2=>by
 have e1:=rv.length
 have hj1:j<xs.length:=by rw [List.size_toArray] at h1;lia
 obtain ⟨y,hy,d⟩:=h.at (List.getElem?_eq_getElem hj1)
 obtain ⟨u1,hu1,r1⟩:=rv.get (List.getElem?_eq_getElem hj1)
 obtain ⟨u2,hu2,r2⟩:=rw'.get hy
 have g1:its.toArray[j]=u1:=by
  rw [List.getElem_toArray]
  exact (List.getElem?_eq_some_iff.mp hu1).2
 have g2:jts.toArray[j]=u2:=by
  rw [List.getElem_toArray]
  exact (List.getElem?_eq_some_iff.mp hu2).2
 rw [g1,g2]
 exact ih d r1 r2
theorem xX (n:Nat):(List.range n).all (fun _=>true)=true:=by rw [List.all_eq_true];intro _ _;rfl
theorem uD (I:Inv X pins σ H s):∀(n:Nat) {A:Around} {x y:V} {v u:Value},DEq X.K H n x y→RelV x v→RelV y u→A.units+n<cLine→SeqAt.EqAt A s v u true
 |0,A,x,y,v,u,h,rv,ru,_=>by
  obtain ⟨h,rfl⟩:=h
  exact aEr h rv ru
 |n+1,A,x,y,v,u,h,rv,ru,hu=>by
  rcases h with ⟨h,rfl⟩|⟨a,b,xs,ys,rfl,rfl,ha,hb,h⟩
  ·exact aEr h rv ru
  cases rv
  cases ru
  by_cases e:a=b
  ·subst e;exact SeqAt.EqAt.same _
  obtain ⟨its,r1,pl,hz⟩:=I.tuple ha
  obtain ⟨jts,r2,pm,hw⟩:=I.tuple hb
  refine SeqAt.EqAt.of_refs e ?_
  have z:=SeqAt.RcAt.tuples (A:=A) (e:=fun _=>true) (show s.heap.IsTuple a its.toArray from pl) (show s.heap.IsTuple b jts.toArray from pm) (by lia) (vV I r1 r2 h fun d q1 q2=>uD I n d q1 q2 (by show A.units+1+n<cLine;lia))
  have z2:(its.toArray.size == jts.toArray.size)=true:=by rw [List.size_toArray,List.size_toArray];have:=r1.length;have:=r2.length;have:=h.len;simp;lia
  rw [xX,z2] at z
  exact z
end
def aZi (K:PySem.W.Frag) (r:Bool):R2:=fun x y H Q=>∃a b xs ys,x=.ref a∧y=.ref b∧SqT K H a xs∧SqT K H b ys∧Al2 (DEq K H 40) xs ys∧Q (.bl r) H
theorem aSs {X:Cx} (hu:X.A.units+64<cLine):OpR X (compareOp .Eq) (aZi X.K true):=by
 intro pins s σ H x y v u Q I rx ry h
 obtain ⟨a,b,xs,ys,rfl,rfl,ha,hb,h,q⟩:=h
 cases rx
 cases ry
 obtain ⟨its,r1,pl,hz⟩:=I.tuple ha
 obtain ⟨jts,r2,pm,hw⟩:=I.tuple hb
 refine SeqAt.RcAt.tuples (e:=fun _=>true) (show s.heap.IsTuple a its.toArray from pl) (show s.heap.IsTuple b jts.toArray from pm) (by lia) (vV I r1 r2 h fun d q1 q2=>uD I 40 d q1 q2 (by show X.A.units+1+40<cLine;lia)) _ _ _ _ ?_
 have z2:(its.toArray.size == jts.toArray.size)=true:=by rw [List.size_toArray,List.size_toArray];have:=r1.length;have:=r2.length;have:=h.len;simp;lia
 rw [xX,z2]
 exact ⟨.bl _,H,I,rfl,q⟩
theorem aX6 {X:Cx} (hu:X.A.units+64<cLine):OpR X (compareOp .NotEq) (aZi X.K false):=by
 intro pins s σ H x y v u Q I rx ry h
 obtain ⟨a,b,xs,ys,rfl,rfl,ha,hb,h,q⟩:=h
 cases rx
 cases ry
 obtain ⟨its,r1,pl,hz⟩:=I.tuple ha
 obtain ⟨jts,r2,pm,hw⟩:=I.tuple hb
 refine SeqAt.RcNeAt.tuples (e:=fun _=>true) (show s.heap.IsTuple a its.toArray from pl) (show s.heap.IsTuple b jts.toArray from pm) (by lia) (vV I r1 r2 h fun d q1 q2=>uD I 40 d q1 q2 (by show X.A.units+1+40<cLine;lia)) _ _ _ _ ?_
 have z2:(its.toArray.size == jts.toArray.size)=true:=by rw [List.size_toArray,List.size_toArray];have:=r1.length;have:=r2.length;have:=h.len;simp;lia
 rw [xX,z2]
 exact ⟨.bl _,H,I,rfl,q⟩
def aZ4 (K:PySem.W.Frag):R2:=fun x y H Q=>∃a b xs,x=.ref a∧y=.ref b∧SqT K H a xs∧SqT K H b []∧Q (.bl xs.isEmpty) H
theorem aV7 {X:Cx} (hu:X.A.units<cLine):OpR X (compareOp .Eq) (aZ4 X.K):=by
 intro pins s σ H x y v u Q I rx ry h
 obtain ⟨a,b,xs,rfl,rfl,ha,hb,q⟩:=h
 cases rx
 cases ry
 obtain ⟨its,r1,pl,hz⟩:=I.tuple ha
 obtain ⟨jts,r2,pm,hw⟩:=I.tuple hb
 have e1:=r1.length
 have e2:=r2.length
 cases jts with
 |cons _ _=>cases e2
 |nil=>
  refine SeqAt.RcAt.tuples (e:=fun _=>true) (show s.heap.IsTuple a its.toArray from pl) (show s.heap.IsTuple b ([]:List Value).toArray from pm) hu (fun j h1 h2=>by simp at h2) _ _ _ _ ?_
  rw [xX]
  have z2:(its.toArray.size == ([]:List Value).toArray.size)=xs.isEmpty:=by
   cases xs with
   |nil=>cases its with
    |nil=>rfl
    |cons _ _=>cases e1
   |cons _ _=>cases its with
    |nil=>cases e1
    |cons _ _=>rfl
  rw [z2]
  exact ⟨.bl _,H,I,rfl,q⟩
def aZ7 (K:PySem.W.Frag):R2:=fun x y H Q=>∃a b xs,x=.ref a∧y=.ref b∧SqL K H a xs∧SqL K H b []∧Q (.bl (!xs.isEmpty)) H
theorem aXd {X:Cx} (hu:X.A.units<cLine):OpR X (compareOp .NotEq) (aZ7 X.K):=by
 intro pins s σ H x y v u Q I rx ry h
 obtain ⟨a,b,xs,rfl,rfl,ha,hb,q⟩:=h
 cases rx
 cases ry
 obtain ⟨its,r1,pl,hz⟩:=I.list ha
 obtain ⟨jts,r2,pm,hw⟩:=I.list hb
 have e1:=r1.length
 have e2:=r2.length
 cases jts with
 |cons _ _=>cases e2
 |nil=>
  cases xs with
  |nil=>cases its with
   |cons _ _=>cases e1
   |nil=>
    refine SeqAt.RcNeAt.lists (e:=fun _=>true) pl.isList pm.isList rfl hu (fun j h1 h2=>by simp at h2) _ _ _ _ ?_
    exact ⟨.bl _,H,I,rfl,q⟩
  |cons _ _=>cases its with
   |nil=>cases e1
   |cons _ _=>
    refine SeqAt.RcNeAt.lists_lengths pl.isList pm.isList rfl hu _ _ _ _ ?_
    exact ⟨.bl _,H,I,rfl,q⟩
end L2
namespace PySem
open PySem.Spec
theorem jV:entryFor table "list.remove.loop"=some Builtin.«list.remove.loop»:=entryFor_of_tree (by kernel_rfl)
section
variable {prog:Program} {w:World} {A:Around} {R:Result→Shared→Prop} {s:Shared} {l:Addr} {items:Array Value} {n:Nat} {dd:Option Addr} {sl:Array (Option Value)} {x:Value} {j:Nat}
theorem aC3 (hs:s.heap.get? l=some { cls:=Value.type "list",dict:=dd,data:=Data.seq items n,slots:=sl }) (hj:j<items.size)
  (ht:SeqAt.EqAt A.in1 s items[j] x true) (hf:∀(m:Nat) (hm:m<items.size),m<j→SeqAt.EqAt A.in1 s items[m] x false) (hsz:items.size≤sizeLine)
  (q:R (.ok (.ret .none)) { s with heap:=s.heap.update l (Obj.mapSeq fun xs=>xs.eraseIdxIfInBounds j) }) :
  ∀(k i:Nat),i+k=j→codeAny (model prog w) A (.builtin "list.remove.loop" ⟨[.ref l,x,rawInt (i:Nat)],[]⟩) R s:=by
 intro k
 induction k with
 |zero=>
  intro i hi
  obtain rfl:i=j:=by lia
  refine codeAny_builtin jV ?_
  rw [Around.under_plainId MeetsSeq.plain_remove_loop _]
  show wpAny _ A.in1 (Builtin.List.listItems (.ref l) >>= _) _ _ _
  refine wpAny_bind (wpAny_listItems hs rfl ?_)
  have hx:items[Int.toNat (i:Nat)]?=some items[i]:=by rw [Int.toNat_natCast];exact Array.getElem?_eq_getElem hj
  simp only [hx]
  refine wpAny_bind (ht _ _ _ _ ?_)
  simp only [if_true]
  refine wpAny_bind (PyProof.Rows.listUpdate_at hs rfl ?_ hsz ?_)
  ·rw [Int.toNat_natCast]
   exact wpAny_pure q
  ·unfold Array.eraseIdxIfInBounds
   split
   ·rw [Array.size_eraseIdx];lia
   ·lia
 |succ k ih=>
  intro i hi
  refine codeAny_builtin jV ?_
  rw [Around.under_plainId MeetsSeq.plain_remove_loop _]
  show wpAny _ A.in1 (Builtin.List.listItems (.ref l) >>= _) _ _ _
  have hi':i<items.size:=by lia
  refine wpAny_bind (wpAny_listItems hs rfl ?_)
  have hx:items[Int.toNat (i:Nat)]?=some items[i]:=by rw [Int.toNat_natCast];exact Array.getElem?_eq_getElem hi'
  simp only [hx]
  refine wpAny_bind (hf i hi' (by lia) _ _ _ _ ?_)
  refine wpAny_pure ⟨plainId_quiet MeetsSeq.plain_remove_loop _,?_⟩
  exact ih (i+1) (by lia)
theorem aDa (l:Addr) (items:Array Value) (n:Nat) (dd:Option Addr) (sl:Array (Option Value)) (x:Value) (j:Nat) (hj:j<items.size) (hsz:items.size≤sizeLine) :
  Meets (Builtin.«list.remove» ⟨[.ref l,x],[]⟩) fun A R s=>s.heap.get? l=some { cls:=Value.type "list",dict:=dd,data:=Data.seq items n,slots:=sl } ∧
   SeqAt.EqAt A.in1 s items[j] x true∧(∀(m:Nat) (hm:m<items.size),m<j→SeqAt.EqAt A.in1 s items[m] x false) ∧
   R (.ok (.ret .none)) { s with heap:=s.heap.update l (Obj.mapSeq fun xs=>xs.eraseIdxIfInBounds j) }:=by
 intro prog w A R s ⟨hs,ht,hf,q⟩
 refine wpAny_pure ⟨plainId_quiet MeetsSeq.plain_remove_loop _,?_⟩
 exact aC3 hs hj ht hf hsz q j 0 (by lia)
end
end PySem
namespace L2
open PySem PySem.Spec PyProof.Rows
def UnT (K:PySem.W.Frag) (H:Hp) (x y:V):Prop:=∃(a b:Addr) (p q:Str × Str),x=.ref a∧y=.ref b∧SqT K H a [.str p.1,.str p.2]∧SqT K H b [.str q.1,.str q.2]∧p.1≠q.1
theorem aTt {X:Cx} {pins:List (Addr × Obj)} {σ:L2.St} {H:Hp} {s:Shared} (I:Inv X pins σ H s) {A:Around} {x y:V} {v u:Value} (h:UnT X.K H x y) (rv:RelV x v) (ru:RelV y u) (hu:A.units+2<cLine):SeqAt.EqAt A s v u false:=by
 obtain ⟨a,b,p,q,rfl,rfl,ha,hb,hne⟩:=h
 cases rv
 cases ru
 have e:a≠b:=by
  intro e
  subst e
  have:=I.aEm ha hb
  simp at this
  exact hne this.1
 obtain ⟨its,r1,pl,hz⟩:=I.tuple ha
 obtain ⟨jts,r2,pm,hw⟩:=I.tuple hb
 obtain ⟨v1,v2,rfl,⟨t1,rfl⟩,⟨t2,rfl⟩⟩:=r1.two
 obtain ⟨u1,u2,rfl,⟨t3,rfl⟩,⟨t4,rfl⟩⟩:=r2.two
 refine SeqAt.EqAt.of_refs e ?_
 have z:=SeqAt.RcAt.tuples (A:=A) (s:=s) (e:=fun j=>if j=0 then p.1 == q.1 else p.2 == q.2) (show s.heap.IsTuple a _ from pl) (show s.heap.IsTuple b _ from pm) (by lia) (fun j h1 h2=>by
  match j,h1 with
  |0,_=>exact SeqAt.EqAt.str_str (A:=A.in1) (s:=s) p.1 t1 q.1 t3
  |1,_=>exact SeqAt.EqAt.str_str (A:=A.in1) (s:=s) p.2 t2 q.2 t4)
 have e0:(p.1 == q.1)=false:=by simpa using hne
 have e1:((List.range (min [Value.str p.1 t1,Value.str p.2 t2].toArray.size [Value.str q.1 t3,Value.str q.2 t4].toArray.size)).all (fun j=>if j=0 then p.1 == q.1 else p.2 == q.2))=false:=by
  show (List.range 2).all _=false
  simp [List.range_succ,e0]
 rw [e1,Bool.false_and] at z
 exact z
theorem aBv:∀{xs:List V} {its:List Value},Vals xs its→∀j,Vals (xs.eraseIdx j) (its.eraseIdx j)
 |_,_,.nil,j=>by cases j <;> exact .nil
 |_,_,.cons r t,0=>t
 |_,_,.cons r t,j+1=>.cons r (aBv t j)
def aT5 (K:PySem.W.Frag):V→List V→Hp→VK→Prop:=fun x vs H Q=>∃l xs y j z,x=.ref l∧vs=[y]∧H l=some (.lst xs)∧xs[j]?=some z∧DEq K H 2 z y∧(∀m z',m<j→xs[m]?=some z'→UnT K H z' y)∧Q .non (upd H l (.lst (xs.eraseIdx j)))
theorem aP1 {X:Cx} (hu:X.A.units+64<cLine):MtR X "list.remove" (aT5 X.K):=by
 intro pins s σ H x vs v us Q I rx rv h
 obtain ⟨l,xs,y,j,zv,rfl,rfl,hH,hz,hd,hn,q⟩:=h
 cases rx
 obtain ⟨u,rfl,ru⟩:=rv.one
 obtain ⟨z,its,n,r,hl,e⟩:=I.aHw hH
 have hj:j<xs.length:=(List.getElem?_eq_some_iff.mp hz).1
 have hj':j<its.toArray.size:=by rw [List.size_toArray];lia
 have at':∀(m:Nat) (hm:m<its.toArray.size) (zz:V),xs[m]?=some zz→RelV zz its.toArray[m]:=fun m hm zz hzz=>by
  obtain ⟨u1,hu1,r1⟩:=r.get hzz
  have g1:its.toArray[m]=u1:=by
   rw [List.getElem_toArray]
   exact (List.getElem?_eq_some_iff.mp hu1).2
  rw [g1]
  exact r1
 refine call_meets F.slot_list_remove ⟨_,e,rfl⟩ F.entry_list_remove (F.args_list_remove_2 _ _) (aDa l its.toArray n none #[] u j hj' (by rw [List.size_toArray];lia)) ⟨e,uD I 2 hd (at' j hj' _ hz) ru ?_,fun m hm hlt=>aTt I (hn m _ hlt (List.getElem?_eq_getElem (by lia))) (at' m hm _ (List.getElem?_eq_getElem (by lia))) ru ?_,?_⟩
 ·show X.A.units+1+2<cLine
  lia
 ·show X.A.units+1+2<cLine
  lia
 ·refine ⟨.non,_,I.lset (its':=its.eraseIdx j) hH e ?_ ?_ ?_,rfl,q⟩
  ·show its.toArray.eraseIdxIfInBounds j=(its.eraseIdx j).toArray
   rw [List.eraseIdxIfInBounds_toArray]
  ·exact aBv r j
  ·have:=List.length_eraseIdx_le xs j
   lia
def aU5 (K:PySem.W.Frag):V→List V→Hp→VK→Prop:=fun x vs H Q=>∃(l:Addr) (ns:List Str) (t:Str) (j:Nat),x=.ref l∧vs=[.str t]∧SqL K H l (ns.map V.str)∧ns[j]?=some t∧(∀m t',m<j→ns[m]?=some t'→t'≠t)∧Q (.int (j:Nat)) H
theorem aD9 {X:Cx}:MtR X "list.index" (aU5 X.K):=by
 intro pins s σ H x vs v us Q I rx rv h
 obtain ⟨l,ns,t,j,rfl,rfl,hl,hj,hn,q⟩:=h
 cases rx
 obtain ⟨u,rfl,ru⟩:=rv.one
 obtain ⟨tk,rfl⟩:=ru
 obtain ⟨its,r,pl,hz⟩:=I.list hl
 have e1:=r.length
 rw [List.length_map] at e1
 have lj:j<ns.length:=(List.getElem?_eq_some_iff.mp hj).1
 have hj':j<its.toArray.size:=by rw [List.size_toArray];lia
 have at':∀(m:Nat) (hm:m<its.toArray.size),∃tt,its.toArray[m]=.str (ns[m]'(by rw [List.size_toArray] at hm;lia)) tt:=fun m hm=>by
  have hm':m<ns.length:=by rw [List.size_toArray] at hm;lia
  obtain ⟨u1,hu1,t1,r1⟩:=r.get (i:=m) (x:=.str ns[m]) (by rw [List.getElem?_map,List.getElem?_eq_getElem hm'];rfl)
  refine ⟨t1,?_⟩
  rw [List.getElem_toArray]
  rw [←r1]
  exact (List.getElem?_eq_some_iff.mp hu1).2
 obtain ⟨⟨oc,od,ox,osl⟩,ho,hc,n,hdat⟩:=pl.isList
 simp only at hc hdat
 subst hc hdat
 have ex:∀(m:Nat) (hm:m<its.toArray.size),(match its.toArray[m] with|.str y _=>y == t|_=>false)=(ns[m]'(by rw [List.size_toArray] at hm;lia) == t):=fun m hm=>by
  obtain ⟨tt,e⟩:=at' m hm
  rw [e]
 refine call_meets F.slot_list_index ⟨_,ho,rfl⟩ F.entry_list_index (F.args_list_index_2 _ _) (SeqAt.list_indexAt l its.toArray n od osl (.str t tk) (fun y=>match y with|.str y _=>y == t|_=>false) j hj' ?_ ?_ ?_) ⟨ho,fun y hy=>?_,⟨.int (j:Nat),H,I.tok _,⟨_,rfl⟩,q⟩⟩
 ·have hs:sizeLine=16777216:=sizeLine_eq
  rw [List.length_map] at hz
  lia
 ·rw [ex j hj']
  have:=(List.getElem?_eq_some_iff.mp hj).2
  rw [this]
  exact beq_self_eq_true t
 ·intro m hm hlt
  rw [ex m hm]
  have hm':m<ns.length:=by rw [List.size_toArray] at hm;lia
  have:=hn m ns[m] hlt (List.getElem?_eq_getElem hm')
  simpa using this
 ·obtain ⟨m,hm,rfl⟩:=Array.getElem_of_mem hy
  obtain ⟨tt,e⟩:=at' m hm
  rw [e]
  exact SeqAt.EqAt.str_str _ _ _ _
end L2
namespace PySem
open PySem.Spec
theorem mQ:entryFor table "proto.contains_iter"=some Builtin.«proto.contains_iter»:=entryFor_of_tree (by kernel_rfl)
theorem iH:plainId "proto.contains_iter"=true:=by decide +kernel
theorem nW:typeLookup (.type "dict_values") "__contains__"=pure none:=by rw [typeLookup_type,builtinLookup_eq_fast];kernel_rfl
section
variable {prog:Program} {w:World} {κ:Type} [DecidableEq κ] {knd:KeyKind prog w κ}
theorem wD {A:Around} {R:Result→Shared→Prop} {I d:Addr} {kvs:List (κ × Value)} {ep:Nat} {us:List Str} {t:Str} {tt:Tok} (hh:A.in1.handled=none) (hne:d≠I) (hu:∀(i:Nat) (k:κ) (v:Value),kvs[i]?=some (k,v)→∃u tu,us[i]?=some u∧v=.str u tu) (hl:us.length=kvs.length) :
  ∀(n i:Nat) (s:Shared),i+n=kvs.length→(s.heap.IsValIter I d i kvs.length ep∧s.heap.DictAt knd d kvs ep) →
   (∀h' tk,(∀b o,b≠I→s.heap.get? b=some o→h'.get? b=some o)→R (.ok (.ret (.bool (decide (t∈us.drop i))))) { s with heap:=h',toks:=tk }) →
   codeAny (model prog w) A (.builtin "proto.contains_iter" ⟨[.ref I,.str t tt],[]⟩) R s:=by
 have W:=Walks.dictValues (prog:=prog) (w:=w) (A:=A.in1) (knd:=knd) hh I d hne kvs ep
 intro n
 induction n with
 |zero=>
  intro i s hi st q
  obtain rfl:i=kvs.length:=by lia
  refine codeAny_builtin mQ ?_
  rw [Around.under_plainId iH _]
  show wpAny _ A.in1 (pyNext (.ref I) >>= _) _ _ _
  refine wpAny_bind (W.done s _ _ st fun h' tk kp=>?_)
  rw [List.drop_eq_nil_of_le (by lia)] at q
  refine wpAny_bind (wpAny_rule (wpAny_pure (q h' tk fun b o nb e=>kp b o (by simpa using nb) e)))
 |succ n ih=>
  intro i s hi st q
  refine codeAny_builtin mQ ?_
  rw [Around.under_plainId iH _]
  show wpAny _ A.in1 (pyNext (.ref I) >>= _) _ _ _
  refine wpAny_bind (W.item i s _ _ (by lia) st fun v h' tk ⟨k,hk⟩ st' kp=>?_)
  obtain ⟨u,tu,hu1,rfl⟩:=hu i k v hk
  have hlt:i<us.length:=by lia
  have hd:us.drop i=u::us.drop (i+1):=by
   rw [List.drop_eq_getElem_cons hlt]
   have:=(List.getElem?_eq_some_iff.mp hu1).2
   rw [this]
  have kp':∀b o,b≠I→s.heap.get? b=some o→h'.get? b=some o:=fun b o nb e=>kp b o (by simpa using nb) e
  show wpAny _ A.in1 (eqBool (.str u tu) (.str t tt) >>= _) _ _ _
  refine wpAny_bind (wpAny_eqBool_str ?_)
  by_cases e:u=t
  ·rw [decide_eq_true e]
   simp only [if_true]
   refine wpAny_bind (wpAny_rule (wpAny_pure ?_))
   have:=q h' tk kp'
   rw [hd,decide_eq_true (by rw [e];exact List.mem_cons_self ..)] at this
   exact this
  ·rw [decide_eq_false e]
   refine wpAny_pure ⟨plainId_quiet iH _,?_⟩
   refine ih (i+1) _ (by lia) st' fun h2 tk2 kp2=>?_
   have:=q h2 tk2 fun b o nb e=>kp2 b o nb (kp' b o nb e)
   rw [hd] at this
   have e2:decide (t∈u::us.drop (i+1))=decide (t∈us.drop (i+1)):=by
    congr 1
    rw [List.mem_cons,eq_iff_iff]
    exact ⟨fun h=>h.resolve_left fun z=>e z.symm,.inr⟩
   rw [e2] at this
   exact this
end
end PySem
namespace L2
open PySem PySem.Spec PyProof.Rows
def aMs (ty td:TE):TE:=fun σ H Q=>ty σ H fun y H1=>td σ H1 fun x H2=>∃(a:Addr) (kvs:List (Key × V)) (us:List Str) (t:Str),x=.ref a∧y=.str t∧H2 a=some (.dK kvs)∧kvs.map (·.2)=us.map V.str∧Q (.bl (!decide (t∈us))) H2
theorem aVa {κ:Type}:∀{kvs:List (κ × V)} {vs:List (κ × Value)},KV kvs vs→∀{us:List Str},kvs.map (·.2)=us.map V.str→∀(i:Nat) (k:κ) (v:Value),vs[i]?=some (k,v)→∃u tu,us[i]?=some u∧v=.str u tu
 |_,_,.nil,us,_,i,k,v,h=>by simp at h
 |_,_,.cons r t,[],e,i,k,v,h=>by cases e
 |_,_,.cons r t,u::us,e,0,k,v,h=>by
  rw [List.map_cons,List.map_cons,List.cons.injEq] at e
  cases h
  have r2:=r.2
  rw [e.1] at r2
  obtain ⟨tu,r2⟩:=r2
  exact ⟨u,tu,rfl,r2⟩
 |_,_,.cons r t,u::us,e,i+1,k,v,h=>by
  rw [List.map_cons,List.map_cons,List.cons.injEq] at e
  exact aVa t e.2 i k v (by simpa using h)
section
variable {X:Cx} {i o:Expr} {ty td:TE} {apos cpos:Pos}
theorem aP6 (hc:X.calm=true) (hi:PE X i ty) (ho:PE X o td) (hbase:attributeBase o "values" X.env (eval o X.env)=eval o X.env:=by rfl) (hline:(apos.endLine == cpos.line)=true:=by rfl) :
  PC X .NotIn i (.Call (.Attribute o "values" apos) [] [] cpos) (aMs ty td):=by
 intro pins s σ H Q I h
 refine thn (hi pins s σ H _ I h) fun iv s1 ⟨y,H1,I1,ry,q1⟩=>?_
 refine wpAny_Call_method0_late hbase hline (thn (ho pins s1 σ H1 _ I1 q1) fun u s2 ⟨x,H2,I2,rx,a,kvs,us,t,ex,ey,g,em,q2⟩=>?_)
 subst ex ey
 obtain rfl:u=Value.ref a:=rx
 obtain ⟨tt,rfl⟩:=ry
 obtain ⟨hz,hS,vs,rk,hd⟩:=aD3 I2.hok (.inl g)
 obtain ⟨od,_,_,ho1,ho2,_⟩:=id hd
 refine ⟨"dict","dict.values",F.plainAttrs_dict,F.slot_dict_values,F.type_dict_values,hd.typeIs,fun b q=>by cases q;exact ⟨od,ho1,ho2.2.1⟩,Calls.callWith_builtin rfl (PySem.evalArgs_none ?_)⟩
 refine call_meetsIn F.slot_dict_values hd.typeIs F.entry_dict_values (F.args_dict_values_1 _) (meets_dict_values (cU X.prog X.w) a hS) ⟨⟨vs,hd⟩,?_⟩
 have hv:(s2.heap.push { cls:=.type "dict_values",data:=.fields #[.ref a] }).IsValuesView s2.heap.objs.size a:=⟨_,Heap.get?_push_size _ rfl,rfl,rfl⟩
 have hT:Shared.TypeIs { s2 with heap:=s2.heap.push { cls:=.type "dict_values",data:=.fields #[.ref a] } } (.ref s2.heap.objs.size) "dict_values":=⟨_,Heap.get?_push_size _ rfl,rfl⟩
 show wpAny _ _ (contains (.ref s2.heap.objs.size) (.str t tt) >>= _) _ _ _
 refine wpAny_bind ?_
 unfold PySem.contains
 refine wpAny_holding ?_
 show wpAny _ _ (specialOf (.ref s2.heap.objs.size) "__contains__" >>= _) _ _ _
 refine wpAny_bind (wpAny_specialOf hT nW ?_)
 rw [if_neg (by decide)]
 refine wpAny_bind (wpAny_callSpecialUnlessNone?_none hT nW ?_)
 dsimp only
 obtain ⟨ep,hat⟩:=hd.dictAt
 have hat2:=hat.push { cls:=.type "dict_values",data:=.fields #[.ref a] }
 refine wpAny_bind (wpAny_rule ?_)
 refine wpAny_bind (wpAny_tryCatch (wpAny_pyIter_values (knd:=cU X.prog X.w) hv hat2 ?_))
 have hne:a≠(s2.heap.push { cls:=.type "dict_values",data:=.fields #[.ref a] }).objs.size:=Nat.ne_of_lt hat2.lt_size
 refine wpAny_bind (wpAny_runValue (wD (knd:=cU X.prog X.w) (kvs:=vs) (us:=us) (I1.ok.hd hc) hne (aVa rk em) ?_ vs.length 0 _ (by lia) ⟨⟨_,Heap.get?_push_size _ rfl,rfl,rfl⟩,hat2.push _⟩ fun h' tk kp=>?_))
 ·have:=congrArg List.length em
  rw [List.length_map,List.length_map,KV.length rk] at this
  exact this.symm
 refine wpAny_pure (wpAny_pure ?_)
 rw [List.drop_zero]
 refine ⟨.bl _,H2,I2.kept (t':=tk) fun b ob e=>kp b ob ?_ (Heap.get?_push_of_some _ (Heap.get?_push_of_some _ e)),rfl,q2⟩
 have:=Heap.lt_size e
 rw [Heap.size_push]
 exact Nat.ne_of_lt (Nat.lt_succ_of_lt this)
theorem aOi {pos:Pos} (hc:X.calm=true) (hi:VE X i ty) (ho:VE X o td) (hbase:attributeBase o "values" X.env (eval o X.env)=eval o X.env:=by rfl) (hline:(apos.endLine == cpos.line)=true:=by rfl) (h1:behindInMarks .NotIn (.Call (.Attribute o "values" apos) [] [] cpos)=false:=by rfl) :
  VT X (.Compare i [.NotIn] [.Call (.Attribute o "values" apos) [] [] cpos] pos) (tB (aMs ty td)):=⟨aR6 (aP6 hc hi.1 ho.1 hbase hline) h1⟩
end
end L2
namespace My
open PySem PySem.Spec PyProof.Rows L2
def top (i:Nat):Stmt:=PySem.Challenge.pw_shardask_k17_early_told.main.body.getD i (.Pass ⟨0,0,0,0⟩)
abbrev vD:Stmt:=top 13
abbrev zF:Stmt:=top 14
abbrev tU:Stmt:=top 15
abbrev lZ:Stmt:=top 16
abbrev qW:Stmt:=top 17
abbrev vU:Stmt:=top 18
abbrev zQ:Stmt:=top 19
abbrev vC:Stmt:=top 20
abbrev zT:Stmt:=top 21
abbrev vH:Stmt:=top 33
abbrev zW:Stmt:=top 34
abbrev zE:Stmt:=top 35
abbrev aCg:Stmt:=top 36
abbrev aB7:Stmt:=top 37
abbrev zP:Stmt:=top 38
abbrev tG:Stmt:=top 39
abbrev tL:Stmt:=top 40
abbrev jL:Stmt:=top 41
abbrev tV:Stmt:=top 42
abbrev vX:Stmt:=top 43
abbrev vI:Stmt:=top 44
abbrev jW:Stmt:=top 45
abbrev uZ:Stmt:=top 47
abbrev nU:Stmt:=top 48
abbrev lK:Stmt:=top 49
abbrev vK:Stmt:=top 50
abbrev zH:Stmt:=top 51
abbrev yL:Stmt:=top 52
abbrev jU:Stmt:=top 53
abbrev pU:Stmt:=top 54
abbrev qT:Stmt:=top 55
abbrev qR:Stmt:=top 56
abbrev lA:Stmt:=top 57
abbrev pK:Stmt:=top 58
abbrev rH:Stmt:=top 59
abbrev jG:Stmt:=top 60
abbrev vR:Stmt:=top 61
abbrev mV:Stmt:=top 62
abbrev qY:Stmt:=top 63
abbrev sH:Stmt:=top 64
abbrev lY:Stmt:=top 65
abbrev yV:Stmt:=top 66
abbrev rO:Stmt:=top 68
abbrev zY:Stmt:=top 69
abbrev pC:Stmt:=top 70
abbrev jM:Stmt:=top 71
abbrev vJ:Stmt:=top 72
abbrev lF:Stmt:=top 73
abbrev aK4:Stmt:=top 74
abbrev aBb:Stmt:=top 75
abbrev aGx:Stmt:=top 76
abbrev tW:Stmt:=top 78
abbrev rC:Stmt:=top 79
abbrev tE:Stmt:=top 80
abbrev rF:Stmt:=top 81
abbrev mW:Stmt:=top 82
abbrev rM:Stmt:=top 83
abbrev rE:Stmt:=top 84
abbrev tO:Stmt:=top 85
abbrev nA:Stmt:=top 86
abbrev pD:Stmt:=top 87
abbrev sG:Stmt:=top 88
abbrev mX:Stmt:=top 89
abbrev pB:Stmt:=top 90
abbrev jT:Stmt:=top 91
abbrev mZ:Stmt:=top 92
abbrev mH:Stmt:=top 93
abbrev gB:Stmt:=top 94
abbrev oA:Stmt:=top 95
abbrev lQ:Stmt:=top 96
abbrev oE:Stmt:=top 97
abbrev iY:Stmt:=top 98
abbrev pF:Stmt:=top 99
abbrev rB:Stmt:=top 100
abbrev aNh:Stmt:=top 101
structure Txt (w:World) (K:PySem.W.Frag) (mg:Str→Option Value):Prop where
 aYm:mg "abs"=none
 aIo:mg "all"=none
 aY1:mg "any"=none
 aWb:mg "bool"=none
 aG7:mg "dict"=none
 aRq:mg "divmod"=none
 aJ0:mg "enumerate"=none
 aD8:mg "int"=none
 cV:mg "isinstance"=none
 dG:mg "len"=none
 yX:mg "list"=none
 aY4:mg "min"=none
 kI:mg "range"=none
 aYx:mg "set"=none
 aRr:mg "sorted"=none
 aVb:mg "str"=none
 cB:mg "tuple"=none
 aNl:mg "zip"=none
 lE:∃a,mg "QUESTION_WORDS"=some (.ref a)∧∀H,SqT K H a [.str "and",.str "by",.str "count",.str "down",.str "first",.str "group",.str "join",.str "keep",.str "least",.str "most",.str "named",.str "on",.str "sum",.str "table",.str "up",.str "where",.str "with"]
 aPb:∃u,mg "LETTERS"=some u∧RelV (.str "abcdefghijklmnopqrstuvwxyz") u
 aB8:∃u,mg "MOST_LETTERS"=some u∧RelV (.int 8) u
 aCe:∃u,mg "MOST_COLUMNS"=some u∧RelV (.int 8) u
 aHl:∃a,mg "SIGNS"=some (.ref a)∧∀H,SqT K H a [.str "=",.str "<",.str ">",.str "!"]
 tD:∃a,mg "SUM_WORDS"=some (.ref a)∧∀H,SqT K H a [.str "count",.str "sum",.str "least",.str "most"]
 aMl:∃a,mg "WAYS"=some (.ref a)∧∀H,SqT K H a [.str "up",.str "down"]
 aG2:∃u,mg "MOST_TESTS"=some u∧RelV (.int 3) u
 xW:∃u,mg "MOST_NAMES"=some u∧RelV (.int 8) u
 aGg:∃u,mg "MOST_PAIRS"=some u∧RelV (.int 3) u
 aJi:∃u,mg "MOST_SUMS"=some u∧RelV (.int 4) u
 aHz:∃u,mg "MOST_KEYS"=some u∧RelV (.int 3) u
 aKa:∃u,mg "MOST_ROWS"=some u∧RelV (.int 60) u
 aJk:∃u,mg "MOST_SIZE"=some u∧RelV (.int 20) u
 aA7:∃d t0 t1 t2 t3 t4 t5 t6:Addr,mg "FORMS"=some (.ref d)∧aTg w K d [("table",t0),("where",t1),("keep",t2),("named",t3),("join",t4),("group",t5),("first",t6)]∧(∃f0:Addr,(∀H,SqT K H t0 [.ref f0])∧mg "is_name"=some (.ref f0))∧(∃f0 f1:Addr,(∀H,SqT K H t1 [.ref f0,.ref f1])∧mg "may_be_question"=some (.ref f0)∧mg "are_tests"=some (.ref f1))∧(∃f0 f1:Addr,(∀H,SqT K H t2 [.ref f0,.ref f1])∧mg "may_be_question"=some (.ref f0)∧mg "are_names"=some (.ref f1))∧(∃f0 f1:Addr,(∀H,SqT K H t3 [.ref f0,.ref f1])∧mg "may_be_question"=some (.ref f0)∧mg "are_names"=some (.ref f1))∧(∃f0 f1 f2:Addr,(∀H,SqT K H t4 [.ref f0,.ref f1,.ref f2])∧mg "may_be_question"=some (.ref f0)∧mg "may_be_question"=some (.ref f1)∧mg "are_pairs"=some (.ref f2))∧(∃f0 f1 f2:Addr,(∀H,SqT K H t5 [.ref f0,.ref f1,.ref f2])∧mg "may_be_question"=some (.ref f0)∧mg "are_group_names"=some (.ref f1)∧mg "are_sums"=some (.ref f2))∧(∃f0 f1 f2:Addr,(∀H,SqT K H t6 [.ref f0,.ref f1,.ref f2])∧mg "may_be_question"=some (.ref f0)∧mg "are_keys"=some (.ref f1)∧mg "is_many"=some (.ref f2))
 nM:∃f o,(∃u,mg "is_name"=some u∧RelV (.ref f) u)∧K.lookup f=some o∧o.cls=.type "function"
 aD5:∃f o,(∃u,mg "is_test"=some u∧RelV (.ref f) u)∧K.lookup f=some o∧o.cls=.type "function"
 aEc:∃f o,(∃u,mg "is_pair"=some u∧RelV (.ref f) u)∧K.lookup f=some o∧o.cls=.type "function"
 aH9:∃f o,(∃u,mg "is_sum"=some u∧RelV (.ref f) u)∧K.lookup f=some o∧o.cls=.type "function"
 aJq:∃f o,(∃u,mg "is_key"=some u∧RelV (.ref f) u)∧K.lookup f=some o∧o.cls=.type "function"
 aK3:Dn K mg "is_whole" vD ["thing"]
 aPg:Dn K mg "is_word" zF ["thing"]
 aIh:Dn K mg "is_one_of" tU ["thing","texts"]
 aDj:Dn K mg "is_tuple_of" lZ ["thing","least","most","is_part"]
 aF5:Dn K mg "are_unlike" qW ["names"]
 aLh:Dn K mg "names_of" vU ["head"]
 aO0:Dn K mg "is_name" zQ ["thing"]
 aL7:Dn K mg "is_value" vC ["thing"]
 aOs:Dn K mg "kind_of" zT ["value"]
 aKw:Dn K mg "is_other" vH ["thing"]
 aO7:Dn K mg "is_test" zW ["thing"]
 aOk:Dn K mg "is_pair" zE ["thing"]
 aS6:Dn K mg "is_sum" aCg ["thing"]
 aQp:Dn K mg "is_key" aB7 ["thing"]
 aOp:Dn K mg "is_many" zP ["thing"]
 aJh:Dn K mg "are_tests" tG ["thing"]
 aHq:Dn K mg "are_names" tL ["thing"]
 yI:Dn K mg "are_group_names" jL ["thing"]
 aJ4:Dn K mg "are_pairs" tV ["thing"]
 aLq:Dn K mg "are_sums" vX ["thing"]
 aKv:Dn K mg "are_keys" vI ["thing"]
 yH:Dn K mg "may_be_question" jW ["thing"]
 aMg:Dn K mg "has_form" uZ ["thing"]
 aBp:Dn K mg "questions_in" nU ["question"]
 yO:Dn K mg "with_questions" lK ["question","inner"]
 aKo:Dn K mg "own_size" vK ["question"]
 aPo:Dn K mg "checked" zH ["thing"]
 aPa:Dn K mg "kind_in" yL ["head","name"]
 xU:Dn K mg "need_like_kinds" jU ["kinds","others"]
 aDg:Dn K mg "need_unlike" pU ["names"]
 aGa:Dn K mg "table_head" qT ["heads","name"]
 aE7:Dn K mg "other_kind" qR ["head","other"]
 aF6:Dn K mg "where_head" lA ["head","tests"]
 aI3:Dn K mg "keep_head" pK ["head","names"]
 aGq:Dn K mg "named_head" rH ["head","names"]
 aH4:Dn K mg "join_head" jG ["head","other","pairs"]
 aMd:Dn K mg "sum_kind" vR ["head","part"]
 aFc:Dn K mg "group_head" mV ["head","names","sums"]
 aGy:Dn K mg "first_head" qY ["head","keys"]
 aIj:Dn K mg "head_here" sH ["heads","question","inner"]
 uY:Dn K mg "head_within" lY ["heads","question"]
 aP4:Dn K mg "head_of" yV ["heads","question"]
 aGk:Dn K mg "columns_of" rO ["test"]
 aOm:Dn K mg "renamed" zY ["test","names"]
 aJf:Dn K mg "are_among" pC ["columns","names"]
 aBc:Dn K mg "side_of_join" jM ["heads","question","columns"]
 aLe:Dn K mg "side_for" vJ ["heads","question","columns"]
 zX:Dn K mg "by_inner_names" lF ["heads","question","test"]
 aSe:Dn K mg "sunk" aK4 ["heads","question","test"]
 aMx:Dn K mg "moved" aBb ["heads","question"]
 aUb:Dn K mg "early" aGx ["heads","question"]
 aKb:Dn K mg "_law_seed" tW ["_law_script"]
 aHn:Dn K mg "_law_begin" rC ["_law_script"]
 aIt:Dn K mg "_law_next" tE ["_law_state","_law_many"]
 aFy:Dn K mg "_law_words" rF []
 aG1:Dn K mg "_law_names" mW ["_law_state","_law_many"]
 aGu:Dn K mg "_law_great" rM ["_law_state"]
 aFf:Dn K mg "_law_value" rE ["_law_state","_law_kind"]
 aJj:Dn K mg "_law_head" tO ["_law_state","_law_names_here"]
 aHc:Dn K mg "_law_tests" nA ["_law_state","_law_head_here","_law_most"]
 aKi:Dn K mg "_law_some" pD ["_law_state","_law_head_here","_law_least"]
 aIx:Dn K mg "_law_sums" sG ["_law_state","_law_head_here","_law_fresh_here"]
 aFu:Dn K mg "_law_group" mX ["_law_state","_law_question_here","_law_head_here","_law_names_here"]
 aJ7:Dn K mg "_law_keys" pB ["_law_state","_law_head_here"]
 aG5:Dn K mg "_law_fresh" jT ["_law_question_here","_law_head_here","_law_own","_law_names_here"]
 aGo:Dn K mg "_law_pairs" mZ ["_law_state","_law_head_here","_law_other"]
 aIp:Dn K mg "_law_join" mH ["_law_state","_law_question_here","_law_head_here","_law_other","_law_other_head","_law_names_here"]
 rZ:Dn K mg "_law_question" gB ["_law_state","_law_heads","_law_names_here","_law_deep"]
 aBu:Dn K mg "_law_columns" oA ["_law_test"]
 aDl:Dn K mg "_law_within" lQ ["_law_test","_law_names_here"]
 aBk:Dn K mg "_law_renamed" oE ["_law_test","_law_names_here","_law_others"]
 rW:Dn K mg "_law_names_of" iY ["_law_heads","_law_question_here"]
 aAi:Dn K mg "_law_sunk" pF ["_law_heads","_law_question_here","_law_test"]
 yJ:Dn K mg "_law_early" rB ["_law_heads","_law_question_here"]
 aZr:Dn K mg "law" aNh ["_law_script"]
abbrev abc:Str:="abcdefghijklmnopqrstuvwxyz"
abbrev words:List V:=[.str "and",.str "by",.str "count",.str "down",.str "first",.str "group",.str "join",.str "keep",.str "least",.str "most",.str "named",.str "on",.str "sum",.str "table",.str "up",.str "where",.str "with"]
def Th (K:PySem.W.Frag) (H:Hp) (v:V):Prop:=(∃x,v=.str x∧x.length≤1000)∨(∃i,v=.int i)∨(∃b,v=.bl b)∨∃k,Rk K H v k
theorem Th.same {K:PySem.W.Frag} {H H':Hp} {v:V} (e:Same H H') (h:Th K H v):Th K H' v:=by
 rcases h with h|h|h|⟨k,h⟩
 ·exact .inl h
 ·exact .inr (.inl h)
 ·exact .inr (.inr (.inl h))
 ·exact .inr (.inr (.inr ⟨k,h.same e⟩))
def aU0:V→String→Bool
 |.int _,T=>T == "int"
 |.str _,T=>T == "str"
 |.bl _,T=>T == "int" || T == "bool"
 |_,_=>false
def isS:V→Bool
 |.str _=>true
 |_=>false
def whole:V→Bool
 |.int _=>true
 |_=>false
theorem xR {K:PySem.W.Frag} {H:Hp} {v:V} {T:String} {Q:VK} (hv:Th K H v) (hT:T = "int"∨T = "bool"∨T = "str") (q:Q (.bl (aU0 v T)) H):aZj [v,.ty T] H Q∨aVo K [v,.ty T] H Q:=by
 rcases hv with ⟨x,rfl,_⟩|⟨i,rfl⟩|⟨b,rfl⟩|⟨k,h⟩
 ·refine .inl ⟨_,_,_,rfl,?_,q⟩
  rcases hT with rfl|rfl|rfl <;> simp [aKz,aU0]
 ·refine .inl ⟨_,_,_,rfl,?_,q⟩
  rcases hT with rfl|rfl|rfl <;> simp [aKz,aU0]
 ·refine .inl ⟨_,_,_,rfl,?_,q⟩
  rcases hT with rfl|rfl|rfl <;> simp [aKz,aU0]
 ·refine .inr ⟨_,_,_,rfl,h,hT,?_⟩
  cases h <;> exact q
def inA (y:Str):Bool:=!(Builtin.Str.occurrences abc y 0 abc.length 1).isEmpty
def allIn (x:Str):Bool:=((List.range x.cps.size).map fun i=>inA (sgn x i)).all id
def sU (l:Nat):V→Bool
 |.str x=>decide (l≤x.length) && (decide (x.length≤8) && allIn x)
 |_=>false
def nameB (v:V):Bool:=sU 1 v && !inV v words
def aHu (v:V):Bool:=whole v || sU 0 v
def xQ (K:PySem.W.Frag):Sp:=fun vs H Q _=>∃v,vs=[v]∧Th K H v∧Q (.bl (whole v)) H
def aBo (K:PySem.W.Frag) (f:V→Bool):Sp:=fun vs H Q _=>∃v,vs=[v]∧Th K H v∧∀H',Same H H'→Q (.bl (f v)) H'
def aNn (K:PySem.W.Frag):Sp:=fun vs H Q _=>∃v,vs=[v]∧Th K H v∧Q (.str (if whole v then "number" else "word")) H
def aF1 (K:PySem.W.Frag):Sp:=fun vs H Q _=>∃(a:Addr) (ns:List Int),vs=[.ref a]∧SqL K H a (ns.map V.int)∧ns.length≤63∧∀H',Q (.bl true) H'
theorem aPw {K:PySem.W.Frag} {H:Hp} {a:Addr} {ns:List Int} (h:ns.length≤63) (hS:SqL K H a (ns.map V.int)):aF1 K [.ref a] H (fun v _=>v=.bl true) fun _ _ _=>False:=
 ⟨a,ns,rfl,hS,h,fun _=>rfl⟩
theorem aIa:aR ["thing"] ["thing"] (aG vD):=by trivial
theorem aL9:aR ["thing"] ["thing"] (aG zF):=by trivial
theorem aFe:aR ["thing","texts"] ["thing","texts"] (aG tU):=by trivial
theorem aCf:aR ["thing","least","most","is_part"] ["thing","least","most","is_part"] (aG lZ):=by trivial
theorem aC9:aR ["names"] ["names"] (aG qW):=by trivial
theorem aI5:aR ["head"] ["head"] (aG vU):=by trivial
theorem aKs:aR ["thing"] ["thing"] (aG zQ):=by trivial
theorem aJz:aR ["thing"] ["thing"] (aG vC):=by trivial
theorem aKp:aR ["value"] ["value"] (aG zT):=by trivial
theorem aJv:aR ["thing"] ["thing"] (aG vH):=by trivial
theorem aMc:aR ["thing"] ["thing"] (aG zW):=by trivial
theorem aL8:aR ["thing"] ["thing"] (aG zE):=by trivial
theorem aOy:aR ["thing"] ["thing"] (aG aCg):=by trivial
theorem aOr:aR ["thing"] ["thing"] (aG aB7):=by trivial
theorem aMf:aR ["thing"] ["thing"] (aG zP):=by trivial
theorem aE0:aR ["thing"] ["thing"] (aG tG):=by trivial
theorem aE1:aR ["thing"] ["thing"] (aG tL):=by trivial
theorem vZ:aR ["thing"] ["thing"] (aG jL):=by trivial
theorem aGh:aR ["thing"] ["thing"] (aG tV):=by trivial
theorem aJy:aR ["thing"] ["thing"] (aG vX):=by trivial
theorem aH2:aR ["thing"] ["thing"] (aG vI):=by trivial
theorem vW:aR ["thing"] ["thing"] (aG jW):=by trivial
theorem aAd:aR ["thing","form"] ["thing"] (aG uZ):=by trivial
theorem aAt:aR ["question"] ["question"] (aG nU):=by trivial
theorem xP:aR ["question","inner"] ["question","inner"] (aG lK):=by trivial
theorem aIn:aR ["question"] ["question"] (aG vK):=by trivial
theorem nQ:aR ["thing","size","waiting","part"] ["thing"] (aG zH):=by trivial
theorem aCh:aR ["head","name","column"] ["head","name"] (aG yL):=by trivial
theorem wF:aR ["kinds","others"] ["kinds","others"] (aG jU):=by trivial
theorem aBj:aR ["names"] ["names"] (aG pU):=by trivial
theorem aDw:aR ["heads","name"] ["heads","name"] (aG qT):=by trivial
theorem aDd:aR ["head","other"] ["head","other"] (aG qR):=by trivial
theorem aDi:aR ["head","tests"] ["head","tests"] (aG lA):=by trivial
theorem aE8:aR ["head","names"] ["head","names"] (aG pK):=by trivial
theorem aDb:aR ["head","names"] ["head","names"] (aG rH):=by trivial
theorem rK:aR ["head","other","pairs","here","there"] ["head","other","pairs"] (aG jG):=by trivial
theorem aIy:aR ["head","part"] ["head","part"] (aG vR):=by trivial
theorem iT:aR ["head","names","sums","kept","made","part","column"] ["head","names","sums"] (aG mV):=by trivial
theorem uU:aR ["head","keys","names"] ["head","keys"] (aG qY):=by trivial
theorem wJ:aR ["heads","question","inner","sort"] ["heads","question","inner"] (aG sH):=by trivial
theorem kO:aR ["heads","question","inner","head"] ["heads","question"] (aG lY):=by trivial
theorem aLu:aR ["heads","question"] ["heads","question"] (aG yV):=by trivial
theorem aC7:aR ["test"] ["test"] (aG rO):=by trivial
theorem aBz:aR ["test","names","other"] ["test","names"] (aG zY):=by trivial
theorem aG6:aR ["columns","names"] ["columns","names"] (aG pC):=by trivial
theorem mL:aR ["heads","question","columns","paired","seen"] ["heads","question","columns"] (aG jM):=by trivial
theorem aAa:aR ["heads","question","columns","sort"] ["heads","question","columns"] (aG vJ):=by trivial
theorem pL:aR ["heads","question","test","old_names"] ["heads","question","test"] (aG lF):=by trivial
theorem aA8:aR ["heads","question","test","side","inner"] ["heads","question","test"] (aG aK4):=by trivial
theorem qJ:aR ["heads","question","inner","become","test"] ["heads","question"] (aG aBb):=by trivial
theorem aQd:aR ["heads","question"] ["heads","question"] (aG aGx):=by trivial
theorem jN:aR ["_law_script","_law_seed_here","_law_k","_law_cell"] ["_law_script"] (aG tW):=by trivial
theorem pQ:aR ["_law_script","_law_digits"] ["_law_script"] (aG rC):=by trivial
theorem wZ:aR ["_law_state","_law_many","_law_digit"] ["_law_state","_law_many"] (aG tE):=by trivial
theorem uT:aR ["_law_words_here"] [] (aG rF):=by trivial
theorem cR:aR ["_law_state","_law_many","_law_small","_law_odd","_law_base","_law_k","_law_at","_law_names_here"] ["_law_state","_law_many"] (aG mW):=by trivial
theorem lU:aR ["_law_state","_law_number","_law_k"] ["_law_state"] (aG rM):=by trivial
theorem iQ:aR ["_law_state","_law_kind","_law_way","_law_word","_law_k"] ["_law_state","_law_kind"] (aG rE):=by trivial
theorem kJ:aR ["_law_state","_law_names_here","_law_start","_law_head_here","_law_k","_law_kind"] ["_law_state","_law_names_here"] (aG tO):=by trivial
theorem dU:aR ["_law_state","_law_head_here","_law_most","_law_tests_here","_law_k","_law_name","_law_kind","_law_other","_law_alike"] ["_law_state","_law_head_here","_law_most"] (aG nA):=by trivial
theorem rP:aR ["_law_state","_law_head_here","_law_least","_law_some_here"] ["_law_state","_law_head_here","_law_least"] (aG pD):=by trivial
theorem eV:aR ["_law_state","_law_head_here","_law_fresh_here","_law_sums_here","_law_k","_law_name","_law_kind","_law_many","_law_word"] ["_law_state","_law_head_here","_law_fresh_here"] (aG sG):=by trivial
theorem cT:aR ["_law_state","_law_question_here","_law_head_here","_law_names_here","_law_those","_law_some_here","_law_fresh_here","_law_sums_here","_law_word","_law_name","_law_new","_law_kind"] ["_law_state","_law_question_here","_law_head_here","_law_names_here"] (aG mX):=by trivial
theorem yF:aR ["_law_state","_law_head_here","_law_some_here"] ["_law_state","_law_head_here"] (aG pB):=by trivial
theorem gH:aR ["_law_question_here","_law_head_here","_law_own","_law_names_here","_law_used","_law_fresh_here","_law_made"] ["_law_question_here","_law_head_here","_law_own","_law_names_here"] (aG jT):=by trivial
theorem dW:aR ["_law_state","_law_head_here","_law_other","_law_turn","_law_left","_law_pairs_here","_law_c","_law_kind","_law_some_here","_law_column"] ["_law_state","_law_head_here","_law_other"] (aG mZ):=by trivial
theorem dN:aR ["_law_state","_law_question_here","_law_head_here","_law_other","_law_other_head","_law_names_here","_law_pairs_here","_law_left","_law_own","_law_fresh_here"] ["_law_state","_law_question_here","_law_head_here","_law_other","_law_other_head","_law_names_here"] (aG mH):=by trivial
theorem bT:aR ["_law_state","_law_heads","_law_names_here","_law_deep","_law_name","_law_way","_law_question_here","_law_head_here","_law_some_here","_law_turn","_law_fresh_here","_law_those","_law_other","_law_other_head"] ["_law_state","_law_heads","_law_names_here","_law_deep"] (aG gB):=by trivial
theorem aAu:aR ["_law_test"] ["_law_test"] (aG oA):=by trivial
theorem aCo:aR ["_law_test","_law_names_here"] ["_law_test","_law_names_here"] (aG lQ):=by trivial
theorem gA:aR ["_law_test","_law_names_here","_law_others","_law_name","_law_sign","_law_other"] ["_law_test","_law_names_here","_law_others"] (aG oE):=by trivial
theorem dY:aR ["_law_heads","_law_question_here","_law_sort","_law_names_here","_law_gone"] ["_law_heads","_law_question_here"] (aG iY):=by trivial
theorem jY:aR ["_law_heads","_law_question_here","_law_test","_law_sort","_law_inner","_law_gone"] ["_law_heads","_law_question_here","_law_test"] (aG pF):=by trivial
theorem gJ:aR ["_law_heads","_law_question_here","_law_sort","_law_inner","_law_test"] ["_law_heads","_law_question_here"] (aG rB):=by trivial
theorem iJ:aR ["_law_script","_law_state","_law_names_here","_law_heads","_law_k","_law_question_here","_law_head_here","_law_way","_law_some_here","_law_handed","_law_due","_law_found"] ["_law_script"] (aG aNh):=by trivial
section
variable {P:Program} {w:World} {K:PySem.W.Frag} {mg:Str→Option Value} {base:Heap}
theorem aJ5 (T:Txt w K mg):Ok P w K mg base 1 "is_whole" ["thing"] (xQ K):=by
 refine Ok.ofV T.aK3 aIa (fun vs H Q E h=>?_) (fun f cdv A outer s H vs Q E hr h=>?_)
 ·obtain ⟨v,rfl,_⟩:=h;rfl
 obtain ⟨v,rfl,hv,q⟩:=h
 refine ⟨_,(aF (aL (pR (aY (xM.or uE) (by rfl) T.cV cM (aB (vv 0) (aB (jX (v:=.ty "int") (by rfl) T.aD8 zZ rfl) aA))) (rA (aXw (aY (xM.or uE) (by rfl) T.cV cM (aB (vv 0) (aB (jX (v:=.ty "bool") (by rfl) T.aWb aUe rfl) aA)))))))),?_⟩
 refine ⟨_,rfl,xR hv (.inl rfl) ⟨_,rfl,?_⟩⟩
 rcases id hv with ⟨x,rfl,_⟩|⟨i,rfl⟩|⟨b,rfl⟩|⟨k,h⟩
 ·exact aZ q
 ·exact cA ⟨_,rfl,xR hv (.inr (.inl rfl)) ⟨_,rfl,q⟩⟩
 ·exact cA ⟨_,rfl,xR hv (.inr (.inl rfl)) ⟨_,rfl,q⟩⟩
 ·cases h <;> exact aZ q
theorem aRi (x:Str):(((List.range x.cps.size).map fun i=>V.str (sgn x i)).map fun v=>match v with|.str y=>V.bl (inA y)|_=>.bl false)=(((List.range x.cps.size).map fun i=>inA (sgn x i)).map V.bl):=by
 rw [List.map_map,List.map_map]
 rfl
theorem aLt (T:Txt w K mg):Ok P w K mg base 1 "is_word" ["thing"] (aBo K (sU 0)):=by
 refine Ok.ofV T.aPg aL9 (fun vs H Q E h=>?_) (fun f cdv A outer s H vs Q E hr h=>?_)
 ·obtain ⟨v,rfl,_⟩:=h;rfl
 obtain ⟨v,rfl,hv,q⟩:=h
 refine ⟨_,(aC (bJ (VW.pt (qN (jE (eG (aY (xM.or uE) (by rfl) T.cV cM (aB (vv 0) (aB (jX (v:=.ty "str") (by rfl) T.aVb aS3 rfl) aA))))) (oJ (aP aNw (aY yK (by rfl) T.dG cJ (aB (vv 0) aA)) (gQ (by rfl) T.aB8) (aX _))))) (aF (aL tQ)) aW) (aF (aL (aY (uA rfl) (by rfl) T.aIo aBi (aB (bZ (N:=["sign"]) (by trivial) (dF (by decide +kernel)) rfl (aWn (vv 0)) (fun cl s' H' fp=>⟨(aN (i:=0) (show (["sign"]:List Str).Nodup from by decide +kernel) rfl (Or.inl rfl)),cI,(fH aPm (vv 0) (gQ (by rfl) T.aPb) (by with_unfolding_all rfl))⟩)) aA))))),?_⟩
 refine ⟨_,rfl,xR hv (.inr (.inr rfl)) ⟨_,rfl,?_⟩⟩
 have no:isS v=false→Q (.bl false) H:=fun e=>by
  have z:sU 0 v=false:=by cases v <;> first|rfl|cases e
  rw [←z];exact q H (Same.refl H)
 rcases id hv with ⟨x,rfl,hx⟩|⟨i,rfl⟩|⟨b,rfl⟩|⟨k,h⟩
 ·refine aZ ⟨_,rfl,_,rfl,small hx,_,_,rfl,rfl,_,rfl,?_⟩
  refine jJ (fun c=>?_) (fun c=>?_)
  ·have c':(8:Int)<x.length:=of_decide_eq_true c
   have z:sU 0 (.str x)=false:=by
    show (decide (0≤x.length) && (decide (x.length≤8) && allIn x))=false
    rw [decide_eq_false (p:=x.length≤8) (by lia)]
    simp
   rw [←z];exact q H (Same.refl H)
  ·have c':¬ (8:Int)<x.length:=of_decide_eq_false (Bool.eq_false_iff.mpr c)
   dsimp only [rU,aAs,tCB,fP]
   refine aPn ((List.range x.cps.size).map fun i=>V.str (sgn x i)) (fun v=>match v with|.str y=>V.bl (inA y)|_=>.bl false) [none] nO ?_
    (fun R r=>aV4 (z:=x) (fun R' r'=>⟨_,rfl,r'⟩) R r) (fun v hv' H' R l sm r=>?_) rfl fun D hD=>?_
   ·rw [List.length_map,List.length_range];exact small hx
   ·obtain ⟨i,_,rfl⟩:=List.mem_map.mp hv'
    exact ⟨_,rfl,_,_,rfl,rfl,r⟩
   ·refine ⟨D,(List.range x.cps.size).map fun i=>inA (sgn x i),rfl,SqL.of (by rw [aU,aRi]),?_⟩
    have z:sU 0 (.str x)=allIn x:=by
     show (decide (0≤x.length) && (decide (x.length≤8) && allIn x))=allIn x
     rw [decide_eq_true (p:=x.length≤8) (by lia)]
     simp
    show Q (.bl (allIn x)) _
    rw [←z]
    exact q _ (bR hD _)
 ·exact cA (no rfl)
 ·exact cA (no rfl)
 ·cases h <;> exact cA (no rfl)
theorem aA1 {v:V} {l:Nat} (h:sU l v=true):∃x,v=.str x∧l≤x.length∧x.length≤8∧allIn x=true:=by
 cases v with
 |str x=>
  have h:(decide (l≤x.length) && (decide (x.length≤8) && allIn x))=true:=h
  rw [Bool.and_eq_true,Bool.and_eq_true] at h
  exact ⟨x,rfl,of_decide_eq_true h.1,of_decide_eq_true h.2.1,h.2.2⟩
 |_=>cases h
theorem aD2 {x:Str}:x=("":Str)↔x.length=0:=by
 constructor
 ·rintro rfl;decide +kernel
 ·intro h
  obtain ⟨cps⟩:=x
  have h:cps.size=0:=h
  rw [Array.size_eq_zero_iff] at h
  subst h
  decide +kernel
theorem aB0:words.all lC=true:=rfl
theorem aLb (T:Txt w K mg) (zU:Ok P w K mg base 1 "is_word" ["thing"] (aBo K (sU 0))):Ok P w K mg base 2 "is_name" ["thing"] (aBo K nameB):=by
 refine Ok.ofV T.aO0 aKs (fun vs H Q E h=>?_) (fun f cdv A outer s H vs Q E hr h=>?_)
 ·obtain ⟨v,rfl,_⟩:=h;rfl
 obtain ⟨v,rfl,hv,q⟩:=h
 obtain ⟨qa,mq,hqa⟩:=T.lE
 have lE:∃u,mg "QUESTION_WORDS"=some u∧RelV (.ref qa) u:=⟨_,mq,rfl⟩
 refine ⟨_,(aF (aL (pR (aJ (zU.mono (by decide)) hr (by rfl) (aB (vv 0) aA)) (pR (fH uW (vv 0) aQ (aX _)) (rA (fH xO (vv 0) (gQ (by rfl) lE) (by with_unfolding_all rfl))))))),?_⟩
 refine ⟨_,rfl,_,rfl,hv,fun H1 s1=>⟨_,rfl,?_⟩⟩
 refine jJ (fun c=>?_) (fun c=>?_)
 ·obtain ⟨x,rfl,_,h8,ha⟩:=aA1 c
  refine ⟨_,rfl,rfl,_,rfl,?_⟩
  by_cases e:x.length=0
  ·have ex:=aD2.mpr e
   subst ex
   refine aZ ?_
   have z:nameB (.str "")=false:=by decide +kernel
   rw [←z];exact q H1 s1
  ·have ne:¬ (V.str x=V.str ""):=fun z=>e (aD2.mp (V.str.inj z))
   have e2:(!decide (V.str x=V.str ""))=true:=by rw [decide_eq_false ne];rfl
   rw [e2]
   refine cA ⟨_,rfl,qa,words,rfl,.inr (hqa _),rfl,aB0,?_⟩
   have z:nameB (.str x)=!inV (.str x) words:=by
    show ((decide (1≤x.length) && (decide (x.length≤8) && allIn x)) && !inV (.str x) words)=!inV (.str x) words
    rw [decide_eq_true (p:=1≤x.length) (by lia),decide_eq_true h8,ha]
    rfl
   show Q (.bl (!inV (.str x) words)) H1
   rw [←z];exact q H1 s1
 ·have z:nameB v=false:=by
   show (sU 1 v && !inV v words)=false
   cases hv1:sU 1 v with
   |false=>rfl
   |true=>
    obtain ⟨x,rfl,h1,h8,ha⟩:=aA1 hv1
    refine absurd ?_ c
    show (decide (0≤x.length) && (decide (x.length≤8) && allIn x))=true
    rw [decide_eq_true h8,ha,decide_eq_true (Nat.zero_le _)]
    rfl
  rw [←z];exact q H1 s1
theorem aIi (T:Txt w K mg) (oH:Ok P w K mg base 1 "is_whole" ["thing"] (xQ K)) (zU:Ok P w K mg base 1 "is_word" ["thing"] (aBo K (sU 0))) :
  Ok P w K mg base 2 "is_value" ["thing"] (aBo K aHu):=by
 refine Ok.ofV T.aL7 aJz (fun vs H Q E h=>?_) (fun f cdv A outer s H vs Q E hr h=>?_)
 ·obtain ⟨v,rfl,_⟩:=h;rfl
 obtain ⟨v,rfl,hv,q⟩:=h
 refine ⟨_,(aF (aL (aYw (aJ (oH.mono (by decide)) hr (by rfl) (aB (vv 0) aA)) (rA (aJ (zU.mono (by decide)) hr (by rfl) (aB (vv 0) aA)))))),?_⟩
 refine ⟨_,rfl,_,rfl,hv,_,rfl,?_⟩
 cases hw:whole v with
 |true=>
  refine cA ?_
  have z:aHu v=true:=by show (whole v || sU 0 v)=true;rw [hw];rfl
  rw [←z];exact q H (Same.refl H)
 |false=>
  refine aZ ⟨_,rfl,_,rfl,hv,fun H1 s1=>?_⟩
  have z:aHu v=sU 0 v:=by show (whole v || sU 0 v)=sU 0 v;rw [hw];rfl
  rw [←z];exact q H1 s1
theorem aKq (T:Txt w K mg) (oH:Ok P w K mg base 1 "is_whole" ["thing"] (xQ K)):Ok P w K mg base 2 "kind_of" ["value"] (aNn K):=by
 refine Ok.ofV T.aOs aKp (fun vs H Q E h=>?_) (fun f cdv A outer s H vs Q E hr h=>?_)
 ·obtain ⟨v,rfl,_⟩:=h;rfl
 obtain ⟨v,rfl,hv,q⟩:=h
 refine ⟨_,(aF (aL (gZ (eG (aJ (oH.mono (by decide)) hr (by rfl) (aB (vv 0) aA))) aQ aQ))),?_⟩
 refine ⟨_,rfl,_,rfl,hv,_,rfl,?_⟩
 cases hw:whole v with
 |true=>rw [hw] at q;exact cA q
 |false=>rw [hw] at q;exact aZ q
theorem at0 (x:V) (r:List V):atI (x::r) 0=some x:=by
 unfold atI ixN
 simp
theorem at1 (x y:V) (r:List V):atI (x::y::r) 1=some y:=by
 unfold atI ixN
 simp only [List.length_cons]
 rw [if_pos (by lia),if_pos (by lia)]
 rfl
structure Tells (R:Hp→V→Bool→Prop):Prop where
 same:∀{H H' v b},Same H H'→R H v b→R H' v b
def iZ (R:Hp→V→Bool→Prop):Sp:=fun vs H Q _=>∃v b,vs=[v]∧R H v b∧∀H',Same H H'→Q (.bl b) H'
inductive aEa (K:PySem.W.Frag) (R:Hp→V→Bool→Prop) (lo hi:Nat) (H:Hp):V→Bool→Prop
 |no {v}:Tk K H v false→aEa K R lo hi H v false
 |len {a xs}:SqT K H a xs→¬ (lo≤xs.length∧xs.length≤hi)→aEa K R lo hi H (.ref a) false
 |yes {a xs} (f:V→Bool):SqT K H a xs→lo≤xs.length→xs.length≤hi→(∀x∈xs,R H x (f x))→aEa K R lo hi H (.ref a) (xs.all f)
def zL (K:PySem.W.Frag):Sp:=fun vs H Q _=>∃v a xs,vs=[v,.ref a]∧Th K H v∧SqT K H a xs∧xs.all lC=true∧Q (.bl (isS v && inV v xs)) H
def mG (P:Program) (w:World) (K:PySem.W.Frag) (mg:Str→Option Value) (base:Heap) (k:Nat):Sp:=fun vs H Q _=>∃v lo hi f ps R b,vs=[v,.int (lo:Nat),.int (hi:Nat),.ref f]∧hi≤1000∧Held P w K mg base k f ps (iZ R)∧Tells R∧aEa K R lo hi H v b∧∀H',Same H H'→Q (.bl b) H'
def aEe (K:PySem.W.Frag):Sp:=fun vs H Q _=>∃a ss,vs=[.ref a]∧SqL K H a (ss.map V.str)∧ss.length≤1000∧∀H',Same H H'→Q (.bl (decide ((qH ss).length=ss.length))) H'
theorem aFq (T:Txt w K mg):Ok P w K mg base 1 "is_one_of" ["thing","texts"] (zL K):=by
 refine Ok.ofV T.aIh aFe (fun vs H Q E h=>?_) (fun f cdv A outer s H vs Q E hr h=>?_)
 ·obtain ⟨v,a,xs,rfl,_⟩:=h;rfl
 obtain ⟨v,a,xs,rfl,hv,ha,hf,q⟩:=h
 refine ⟨_,(aF (aL (pR (aY (xM.or uE) (by rfl) T.cV cM (aB (vv 0) (aB (jX (v:=.ty "str") (by rfl) T.aVb aS3 rfl) aA))) (rA (fH nP (vv 0) (vv 1) (by with_unfolding_all rfl)))))),?_⟩
 refine ⟨_,rfl,xR hv (.inr (.inr rfl)) ⟨_,rfl,?_⟩⟩
 rcases id hv with ⟨x,rfl,_⟩|⟨i,rfl⟩|⟨b,rfl⟩|⟨k,h⟩
 ·exact cA ⟨_,rfl,_,rfl,a,xs,rfl,.inr ha,rfl,hf,q⟩
 ·exact aZ q
 ·exact aZ q
 ·cases h <;> exact aZ q
theorem eE {k:Nat} (T:Txt w K mg):Ok P w K mg base (k+1) "is_tuple_of" ["thing","least","most","is_part"] (mG P w K mg base k):=by
 refine Ok.ofV T.aDj aCf (fun vs H Q E h=>?_) (fun f cdv A outer s H vs Q E hr h=>?_)
 ·obtain ⟨v,lo,hi,f,ps,R,b,rfl,_⟩:=h;rfl
 obtain ⟨v,lo,hi,g,ps,R,b,rfl,h1000,hg,hR,hv,q⟩:=h
 refine ⟨_,(aC (bJ (VW.pt (qN (jE (eG (aY lJ (by rfl) T.cV cM (aB (vv 0) (aB (jX (v:=.ty "tuple") (by rfl) T.cB bQ rfl) aA))))) (oJ (jE (aIz aEb aEb (vv 1) (aY bB (by rfl) T.dG cJ (aB (vv 0) aA)) (vv 2)))))) (aF (aL tQ)) aW) (aF (aL (aY (uA rfl) (by rfl) T.aIo aBi (aB (bZ (N:=["part","is_part"]) (by trivial) (cX (aG lZ) rfl (by decide +kernel)) rfl (dC (vv 0)) (fun cl s' H' fp=>⟨(aN (i:=0) (show (["part","is_part"]:List Str).Nodup from by decide +kernel) rfl (Or.inl rfl)),cI,(aHt (P:=P) (w:=w) (K:=K) (mg:=mg) (base:=base) hr (vv 1) (aB (vv 0) aA))⟩)) aA))))),?_⟩
 cases hv with
 |no h=>
  exact ⟨_,rfl,_,_,rfl,h,_,rfl,cA (q H (Same.refl H))⟩
 |@len a xs ha hn=>
  refine ⟨_,rfl,_,_,rfl,.tup ha,_,rfl,aZ ?_⟩
  refine ⟨_,rfl,_,rfl,_,_,rfl,.inr ha,_,_,rfl,rfl,_,rfl,?_⟩
  refine jJ (fun c=>⟨_,rfl,_,_,rfl,rfl,_,rfl,?_⟩) (fun c=>⟨_,rfl,cA (q H (Same.refl H))⟩)
  have c':(lo:Int)≤xs.length:=of_decide_eq_true c
  have e:decide ((xs.length:Int)≤(hi:Int))=false:=decide_eq_false fun z=>hn ⟨by lia,by lia⟩
  rw [e]
  exact cA (q H (Same.refl H))
 |@yes a xs t ha h1 h2 hx=>
  refine ⟨_,rfl,_,_,rfl,.tup ha,_,rfl,aZ ?_⟩
  refine ⟨_,rfl,_,rfl,_,_,rfl,.inr ha,_,_,rfl,rfl,_,rfl,?_⟩
  have e1:decide ((lo:Int)≤(xs.length:Int))=true:=decide_eq_true (by lia)
  have e2:decide ((xs.length:Int)≤(hi:Int))=true:=decide_eq_true (by lia)
  rw [e1]
  refine cA ⟨_,rfl,_,_,rfl,rfl,_,rfl,?_⟩
  rw [e2]
  refine aZ ?_
  dsimp only [rU,aAs,tCB,fP]
  refine aOc xs (fun x=>.bl (t x)) [none,some (.ref g)] ?_ (small (by lia)) (fun R r=>lG ha (fun R' r'=>⟨_,rfl,r'⟩) R r) (fun x hx' H' R l sm r=>?_) rfl fun D H' sm hD=>?_
  ·exact cY 3 (by decide +kernel) rfl rfl (by trivial)
  ·exact ⟨_,rfl,g,ps,_,rfl,hg,_,rfl,x,t x,rfl,hR.same sm (hx x hx'),r⟩
  ·refine ⟨D,xs.map t,rfl,SqL.of (by rw [hD,List.map_map];rfl),?_⟩
   rw [List.all_map]
   exact q H' sm
theorem aDk (T:Txt w K mg):Ok P w K mg base 1 "are_unlike" ["names"] (aEe K):=by
 refine Ok.ofV T.aF5 aC9 (fun vs H Q E h=>?_) (fun f cdv A outer s H vs Q E hr h=>?_)
 ·obtain ⟨a,ss,rfl,_⟩:=h;rfl
 obtain ⟨a,ss,rfl,ha,hl,q⟩:=h
 refine ⟨_,(aF (aL (fH bY (aY aLg (by rfl) T.dG cJ (aB (bD (aL2 rfl) (by rfl) T.aYx aWm (aB (vv 0) aA)) aA)) (aY bB (by rfl) T.dG cJ (aB (vv 0) aA)) (aX _)))),?_⟩
 refine ⟨_,rfl,a,ss,rfl,ha,hl,fun D hD=>⟨D,ss,rfl,aU,_,rfl,a,_,rfl,.inl ((bR hD _).seq ha),rfl,?_⟩⟩
 have e:decide (V.int ((qH ss).length:Nat)=V.int (ss.map V.str).length)=decide ((qH ss).length=ss.length):=by
  rw [List.length_map]
  by_cases z:(qH ss).length=ss.length
  ·rw [z];simp
  ·rw [decide_eq_false z,decide_eq_false (by intro y;apply z;have:=V.int.inj y;lia)]
 rw [e]
 exact q _ (bR hD _)
theorem at2 (x y z:V) (r:List V):atI (x::y::z::r) 2=some z:=by
 unfold atI ixN
 simp only [List.length_cons]
 rw [if_pos (by lia),if_pos (by lia)]
 rfl
theorem pN {K:PySem.W.Frag} {H:Hp} {x:Str} (h:x.length≤8):Th K H (.str x):=.inl ⟨x,rfl,by lia⟩
def Nm (x:Str):Prop:=nameB (.str x)=true
theorem aSz {x:Str} (h:nameB (.str x)=true):x.length≤8:=by
 have h:(sU 1 (.str x) && !inV (.str x) words)=true:=h
 rw [Bool.and_eq_true] at h
 obtain ⟨y,e,_,h8,_⟩:=aA1 h.1
 cases e
 exact h8
theorem Nm.th {K:PySem.W.Frag} {H:Hp} {x:Str} (h:Nm x):Th K H (.str x):=pN (aSz h)
abbrev signs:List V:=[.str "=",.str "<",.str ">",.str "!"]
abbrev aCx:List V:=[.str "count",.str "sum",.str "least",.str "most"]
abbrev aI0:List V:=[.str "up",.str "down"]
inductive Oth where
 |val (x:V)
 |col (d:Str)
structure Tst where
 c:Str
 sg:Str
 o:Oth
structure Sm where
 wd:Str
 c:Option Str
 new:Str
def IsO (K:PySem.W.Frag) (H:Hp) (v:V):Oth→Prop
 |.val x=>∃a,v=.ref a∧SqT K H a [.str "value",x]∧Th K H x∧aHu x=true
 |.col d=>∃a,v=.ref a∧SqT K H a [.str "column",.str d]∧Nm d
def aY2 (x:Str):Prop:=x = "="∨x = "<"∨x = ">"∨x = "!"
def IsT (K:PySem.W.Frag) (H:Hp) (v:V) (t:Tst):Prop:=∃a w,v=.ref a∧SqT K H a [.str t.c,.str t.sg,w]∧Nm t.c∧aY2 t.sg∧IsO K H w t.o
def lB (K:PySem.W.Frag) (H:Hp) (v:V) (p:Str × Str):Prop:=∃a,v=.ref a∧SqT K H a [.str p.1,.str p.2]∧Nm p.1∧Nm p.2
def oF (K:PySem.W.Frag) (H:Hp) (v:V) (p:Str × Str):Prop:=∃a,v=.ref a∧SqT K H a [.str p.1,.str p.2]∧Nm p.1∧(p.2 = "up"∨p.2 = "down")
def aWt (x:Str):Prop:=x = "sum"∨x = "least"∨x = "most"
def lL (K:PySem.W.Frag) (H:Hp) (v:V) (s:Sm):Prop:=∃a,v=.ref a∧Nm s.new∧((s.wd = "count"∧s.c=none∧SqT K H a [.str "count",.non,.str s.new])∨(∃c,s.c=some c∧Nm c∧aWt s.wd∧SqT K H a [.str s.wd,.str c,.str s.new]))
def IsN (v:V) (x:Str):Prop:=v=.str x∧Nm x
inductive bO {α β:Type} (R:α→β→Prop):List α→List β→Prop
 |nil:bO R [] []
 |cons {a b as bs}:R a b→bO R as bs→bO R (a::as) (b::bs)
theorem bO.len {α β:Type} {R:α→β→Prop} {as:List α} {bs:List β} (h:bO R as bs):as.length=bs.length:=by
 induction h with
 |nil=>rfl
 |cons _ _ ih=>rw [List.length_cons,List.length_cons,ih]
theorem bO.imp {α β:Type} {R S:α→β→Prop} {as:List α} {bs:List β} (h:bO R as bs) (k:∀a b,R a b→S a b):bO S as bs:=by
 induction h with
 |nil=>exact .nil
 |cons r _ ih=>exact .cons (k _ _ r) ih
theorem bO.mem {α β:Type} {R:α→β→Prop} {as:List α} {bs:List β} (h:bO R as bs) {a:α} (m:a∈as):∃b,b∈bs∧R a b:=by
 induction h with
 |nil=>cases m
 |cons r _ ih=>
  rcases List.mem_cons.mp m with rfl|m
  ·exact ⟨_,List.mem_cons_self ..,r⟩
  ·obtain ⟨b,hb,q⟩:=ih m
   exact ⟨b,List.mem_cons_of_mem _ hb,q⟩
theorem bO.app {α β:Type} {R:α→β→Prop} {as cs:List α} {bs ds:List β} (h:bO R as bs) (k:bO R cs ds):bO R (as++cs) (bs++ds):=by
 induction h with
 |nil=>exact k
 |cons r _ ih=>exact .cons r ih
def vM {α:Type} (K:PySem.W.Frag) (H:Hp) (R:V→α→Prop) (v:V) (xs:List α):Prop:=∃a vs,v=.ref a∧SqT K H a vs∧bO R vs xs
theorem vM.same {α:Type} {K:PySem.W.Frag} {H H':Hp} {R S:V→α→Prop} {v:V} {xs:List α} (e:Same H H') (k:∀a b,R a b→S a b) (h:vM K H R v xs):vM K H' S v xs:=by
 obtain ⟨a,vs,rfl,ha,hr⟩:=h
 exact ⟨a,vs,rfl,e.aH ha,hr.imp k⟩
theorem IsO.same {K:PySem.W.Frag} {H H':Hp} {v:V} {o:Oth} (e:Same H H') (h:IsO K H v o):IsO K H' v o:=by
 cases o with
 |val x=>obtain ⟨a,rfl,ha,hx,hv⟩:=h;exact ⟨a,rfl,e.aH ha,hx.same e,hv⟩
 |col d=>obtain ⟨a,rfl,ha,hd⟩:=h;exact ⟨a,rfl,e.aH ha,hd⟩
theorem IsT.same {K:PySem.W.Frag} {H H':Hp} {v:V} {t:Tst} (e:Same H H') (h:IsT K H v t):IsT K H' v t:=by
 obtain ⟨a,w,rfl,ha,h1,h2,h3⟩:=h
 exact ⟨a,w,rfl,e.aH ha,h1,h2,h3.same e⟩
theorem lB.same {K:PySem.W.Frag} {H H':Hp} {v:V} {t:Str × Str} (e:Same H H') (h:lB K H v t):lB K H' v t:=by
 obtain ⟨a,rfl,ha,h1⟩:=h
 exact ⟨a,rfl,e.aH ha,h1⟩
theorem oF.same {K:PySem.W.Frag} {H H':Hp} {v:V} {t:Str × Str} (e:Same H H') (h:oF K H v t):oF K H' v t:=by
 obtain ⟨a,rfl,ha,h1⟩:=h
 exact ⟨a,rfl,e.aH ha,h1⟩
theorem lL.same {K:PySem.W.Frag} {H H':Hp} {v:V} {t:Sm} (e:Same H H') (h:lL K H v t):lL K H' v t:=by
 obtain ⟨a,rfl,hn,h1⟩:=h
 refine ⟨a,rfl,hn,?_⟩
 rcases h1 with ⟨x,y,z⟩|⟨c,x,y,z,u⟩
 ·exact .inl ⟨x,y,e.aH z⟩
 ·exact .inr ⟨c,x,y,z,e.aH u⟩
def iG {α:Type} (K:PySem.W.Frag) (S:PySem.W.Frag→Hp→V→α→Prop):Hp→V→Bool→Prop:=fun H v b=>b=true∧∃t,S K H v t
theorem lN {α:Type} {K:PySem.W.Frag} {S:PySem.W.Frag→Hp→V→α→Prop} (st:∀{H H' v t},Same H H'→S K H v t→S K H' v t):Tells (iG K S):=⟨fun e h=>⟨h.1,let ⟨t,q⟩:=h.2;⟨t,st e q⟩⟩⟩
def fC (_:PySem.W.Frag) (_:Hp) (v:V) (x:Str):Prop:=IsN v x
theorem tupof {α:Type} {S:PySem.W.Frag→Hp→V→α→Prop} {lo hi:Nat} {H:Hp} {v:V} {xs:List α} (h:vM K H (S K H) v xs) (h1:lo≤xs.length) (h2:xs.length≤hi):aEa K (iG K S) lo hi H v true:=by
 obtain ⟨a,vs,rfl,ha,hr⟩:=h
 have z:=aEa.yes (K:=K) (R:=iG K S) (lo:=lo) (hi:=hi) (fun _=>true) ha (by rw [hr.len];exact h1) (by rw [hr.len];exact h2) (fun x hx=>by
  obtain ⟨b,_,q⟩:=hr.mem hx
  exact ⟨rfl,b,q⟩)
 have e:vs.all (fun _=>true)=true:=by rw [List.all_eq_true];intro _ _;rfl
 rw [e] at z
 exact z
def gY {α:Type} (S:PySem.W.Frag→Hp→V→α→Prop) (lo hi:Nat):PySem.W.Frag→Hp→V→List α→Prop:=fun K H v xs=>vM K H (S K H) v xs∧lo≤xs.length∧xs.length≤hi
theorem aJr (T:Txt w K mg) (dR:Ok P w K mg base 1 "is_one_of" ["thing","texts"] (zL K)) (aKl:Ok P w K mg base 2 "is_value" ["thing"] (aBo K aHu)) (dH:Ok P w K mg base 2 "is_name" ["thing"] (aBo K nameB)) :
  Ok P w K mg base 3 "is_other" ["thing"] (iZ (iG K IsO)):=by
 refine Ok.ofV T.aKw aJv (fun vs H Q E h=>?_) (fun f cdv A outer s H vs Q E hr h=>?_)
 ·obtain ⟨v,b,rfl,_⟩:=h;rfl
 obtain ⟨v,b,rfl,⟨rfl,o,ho⟩,q⟩:=h
 refine ⟨_,(aC (bJ (VW.pt (qN (jE (eG (aY lJ (by rfl) T.cV cM (aB (vv 0) (aB (jX (v:=.ty "tuple") (by rfl) T.cB bQ rfl) aA))))) (oJ (aP uW (aY bB (by rfl) T.dG cJ (aB (vv 0) aA)) aD (aX _))))) (aF (aL tQ)) aW) (aC (bJ (eG (aJ (dR.mono (by decide)) hr (by rfl) (aB (aK aO (vv 0) aD (fun _ _=>rfl)) (aB (bC (aB aQ aA)) aA)))) (aF (aL (aJ (aKl.mono (by decide)) hr (by rfl) (aB (aK aO (vv 0) aD (fun _ _=>rfl)) aA)))) aW) (aF (aL (pR (aJ (dR.mono (by decide)) hr (by rfl) (aB (aK aO (vv 0) aD (fun _ _=>rfl)) (aB (bC (aB aQ aA)) aA))) (rA (aJ (dH.mono (by decide)) hr (by rfl) (aB (aK aO (vv 0) aD (fun _ _=>rfl)) aA)))))))),?_⟩
 cases o with
 |val x=>
  obtain ⟨a,rfl,ha,hx,hv⟩:=ho
  refine ⟨_,rfl,_,_,rfl,.tup ha,_,rfl,aZ ?_⟩
  refine ⟨_,rfl,_,_,rfl,.inr ha,rfl,_,rfl,aZ ?_⟩
  refine ⟨_,rfl,a,_,0,_,rfl,rfl,ha,at0 _ _,(by show 1≤sizeLine;decide),fun p1 H1 _ s1 g1=>⟨_,p1,_,rfl,pN (by decide +kernel),SqT.of g1,rfl,_,rfl,cA ?_⟩⟩
  refine ⟨_,rfl,a,_,1,_,rfl,rfl,s1.aH ha,at1 _ _ _,x,rfl,hx.same s1,fun H2 s2=>?_⟩
  rw [hv]
  exact q H2 (s1.trans s2)
 |col d=>
  obtain ⟨a,rfl,ha,hd⟩:=ho
  refine ⟨_,rfl,_,_,rfl,.tup ha,_,rfl,aZ ?_⟩
  refine ⟨_,rfl,_,_,rfl,.inr ha,rfl,_,rfl,aZ ?_⟩
  refine ⟨_,rfl,a,_,0,_,rfl,rfl,ha,at0 _ _,(by show 1≤sizeLine;decide),fun p1 H1 _ s1 g1=>⟨_,p1,_,rfl,pN (by decide +kernel),SqT.of g1,rfl,_,rfl,aZ ?_⟩⟩
  refine ⟨_,rfl,a,_,0,_,rfl,rfl,s1.aH ha,at0 _ _,(by show 1≤sizeLine;decide),fun p2 H2 _ s2 g2=>⟨_,p2,_,rfl,pN (by decide +kernel),SqT.of g2,rfl,_,rfl,cA ?_⟩⟩
  refine ⟨_,rfl,a,_,1,_,rfl,rfl,s2.aH (s1.aH ha),at1 _ _ _,_,rfl,hd.th,fun H3 s3=>?_⟩
  rw [show nameB (.str d)=true from hd]
  exact q H3 (s1.trans (s2.trans s3))
theorem aVd {x:Str} (h:aY2 x):(isS (.str x) && inV (.str x) signs)=true∧x.length≤8:=by
 rcases h with rfl|rfl|rfl|rfl <;> exact ⟨by decide +kernel,by decide +kernel⟩
theorem aL3 (T:Txt w K mg) (dR:Ok P w K mg base 1 "is_one_of" ["thing","texts"] (zL K)) (dH:Ok P w K mg base 2 "is_name" ["thing"] (aBo K nameB)) (aK9:Ok P w K mg base 3 "is_other" ["thing"] (iZ (iG K IsO))) :
  Ok P w K mg base 4 "is_test" ["thing"] (iZ (iG K IsT)):=by
 refine Ok.ofV T.aO7 aMc (fun vs H Q E h=>?_) (fun f cdv A outer s H vs Q E hr h=>?_)
 ·obtain ⟨v,b,rfl,_⟩:=h;rfl
 obtain ⟨v,b,rfl,⟨rfl,t,a,o,rfl,ha,hc,hs,ho⟩,q⟩:=h
 obtain ⟨ka,mk,hka⟩:=T.aHl
 have aHl:∃u,mg "SIGNS"=some u∧RelV (.ref ka) u:=⟨_,mk,rfl⟩
 refine ⟨_,(aC (bJ (VW.pt (qN (jE (eG (aY lJ (by rfl) T.cV cM (aB (vv 0) (aB (jX (v:=.ty "tuple") (by rfl) T.cB bQ rfl) aA))))) (oJ (aP uW (aY bB (by rfl) T.dG cJ (aB (vv 0) aA)) aD (aX _))))) (aF (aL tQ)) aW) (aF (aL (pR (aJ (dH.mono (by decide)) hr (by rfl) (aB (aK aO (vv 0) aD (fun _ _=>rfl)) aA)) (pR (aJ (dR.mono (by decide)) hr (by rfl) (aB (aK aO (vv 0) aD (fun _ _=>rfl)) (aB (gQ (by rfl) aHl) aA))) (rA (aJ (aK9.mono (by decide)) hr (by rfl) (aB (aK aO (vv 0) aD (fun _ _=>rfl)) aA)))))))),?_⟩
 refine ⟨_,rfl,_,_,rfl,.tup ha,_,rfl,aZ ?_⟩
 refine ⟨_,rfl,_,_,rfl,.inr ha,rfl,_,rfl,aZ ?_⟩
 refine ⟨_,rfl,a,_,0,_,rfl,rfl,ha,at0 _ _,_,rfl,hc.th,fun H1 s1=>⟨_,rfl,?_⟩⟩
 rw [show nameB (.str t.c)=true from hc]
 refine cA ⟨_,rfl,a,_,1,_,rfl,rfl,s1.aH ha,at1 _ _ _,_,ka,signs,rfl,pN (aVd hs).2,hka _,rfl,_,rfl,?_⟩
 rw [(aVd hs).1]
 refine cA ⟨_,rfl,a,_,2,_,rfl,rfl,s1.aH ha,at2 _ _ _ _,o,true,rfl,⟨rfl,_,ho.same s1⟩,fun H2 s2=>q H2 (s1.trans s2)⟩
theorem aLl (T:Txt w K mg) (dH:Ok P w K mg base 2 "is_name" ["thing"] (iZ (iG K fC))) (cF:Ok P w K mg base 3 "is_tuple_of" ["thing","least","most","is_part"] (mG P w K mg base 2)) :
  Ok P w K mg base 4 "is_pair" ["thing"] (iZ (iG K lB)):=by
 refine Ok.ofV T.aOk aL8 (fun vs H Q E h=>?_) (fun f cdv A outer s H vs Q E hr h=>?_)
 ·obtain ⟨v,b,rfl,_⟩:=h;rfl
 obtain ⟨v,b,rfl,⟨rfl,p,a,rfl,ha,h1,h2⟩,q⟩:=h
 obtain ⟨fa,mf,hf⟩:=dH.held
 have nM:∃u,mg "is_name"=some u∧RelV (.ref fa) u:=⟨_,mf,rfl⟩
 refine ⟨_,(aF (aL (aJ (cF.mono (by decide)) hr (by rfl) (aB (vv 0) (aB aD (aB aD (aB (gQ (by rfl) nM) aA))))))),?_⟩
 exact ⟨_,rfl,_,2,2,fa,_,_,_,rfl,by decide,hf,lN (S:=fC) (fun _ h=>h),tupof (S:=fC) (xs:=[p.1,p.2]) ⟨a,_,rfl,ha,.cons ⟨rfl,h1⟩ (.cons ⟨rfl,h2⟩ .nil)⟩ (Nat.le_refl _) (Nat.le_refl _),fun H1 s1=>q H1 s1⟩
theorem aOf (T:Txt w K mg) (dR:Ok P w K mg base 1 "is_one_of" ["thing","texts"] (zL K)) (dH:Ok P w K mg base 2 "is_name" ["thing"] (aBo K nameB)):Ok P w K mg base 3 "is_key" ["thing"] (iZ (iG K oF)):=by
 refine Ok.ofV T.aQp aOr (fun vs H Q E h=>?_) (fun f cdv A outer s H vs Q E hr h=>?_)
 ·obtain ⟨v,b,rfl,_⟩:=h;rfl
 obtain ⟨v,b,rfl,⟨rfl,⟨c,wy⟩,a,rfl,ha,hc,hw⟩,q⟩:=h
 obtain ⟨ka,mk,hka⟩:=T.aMl
 have aMl:∃u,mg "WAYS"=some u∧RelV (.ref ka) u:=⟨_,mk,rfl⟩
 refine ⟨_,(aC (bJ (VW.pt (qN (jE (eG (aY lJ (by rfl) T.cV cM (aB (vv 0) (aB (jX (v:=.ty "tuple") (by rfl) T.cB bQ rfl) aA))))) (oJ (aP uW (aY bB (by rfl) T.dG cJ (aB (vv 0) aA)) aD (aX _))))) (aF (aL tQ)) aW) (aF (aL (pR (aJ (dH.mono (by decide)) hr (by rfl) (aB (aK aO (vv 0) aD (fun _ _=>rfl)) aA)) (rA (aJ (dR.mono (by decide)) hr (by rfl) (aB (aK aO (vv 0) aD (fun _ _=>rfl)) (aB (gQ (by rfl) aMl) aA)))))))),?_⟩
 refine ⟨_,rfl,_,_,rfl,.tup ha,_,rfl,aZ ?_⟩
 refine ⟨_,rfl,_,_,rfl,.inr ha,rfl,_,rfl,aZ ?_⟩
 refine ⟨_,rfl,a,_,0,_,rfl,rfl,ha,at0 _ _,_,rfl,hc.th,fun H1 s1=>⟨_,rfl,?_⟩⟩
 rw [show nameB (.str c)=true from hc]
 have e:(isS (.str wy) && inV (.str wy) aI0)=true∧wy.length≤8:=by
  rcases hw with e|e <;> (have e:wy=_:=e;subst e;exact ⟨by decide +kernel,by decide +kernel⟩)
 refine cA ⟨_,rfl,a,_,1,_,rfl,rfl,s1.aH ha,at1 _ _ _,_,ka,aI0,rfl,pN e.2,hka _,rfl,?_⟩
 show Q (.bl (isS (.str wy) && inV (.str wy) aI0)) H1
 rw [e.1]
 exact q H1 s1
theorem aP2 (T:Txt w K mg) (dR:Ok P w K mg base 1 "is_one_of" ["thing","texts"] (zL K)) (dH:Ok P w K mg base 2 "is_name" ["thing"] (aBo K nameB)):Ok P w K mg base 3 "is_sum" ["thing"] (iZ (iG K lL)):=by
 refine Ok.ofV T.aS6 aOy (fun vs H Q E h=>?_) (fun f cdv A outer s H vs Q E hr h=>?_)
 ·obtain ⟨v,b,rfl,_⟩:=h;rfl
 obtain ⟨v,b,rfl,⟨rfl,⟨wd,oc,new⟩,a,rfl,hn,hs⟩,q⟩:=h
 obtain ⟨ka,mk,hka⟩:=T.tD
 have tD:∃u,mg "SUM_WORDS"=some u∧RelV (.ref ka) u:=⟨_,mk,rfl⟩
 refine ⟨_,(aC (bJ (VW.pt (qN (jE (eG (aY lJ (by rfl) T.cV cM (aB (vv 0) (aB (jX (v:=.ty "tuple") (by rfl) T.cB bQ rfl) aA))))) (oJ (aP uW (aY bB (by rfl) T.dG cJ (aB (vv 0) aA)) aD (aX _))))) (aF (aL tQ)) aW) (aC (bJ (VW.pt (qN (jE (eG (aJ (dR.mono (by decide)) hr (by rfl) (aB (aK aO (vv 0) aD (fun _ _=>rfl)) (aB (gQ (by rfl) tD) aA))))) (oJ (jE (eG (aJ (dH.mono (by decide)) hr (by rfl) (aB (aK aO (vv 0) aD (fun _ _=>rfl)) aA))))))) (aF (aL tQ)) aW) (aF (aL (gZ (aP bY (aK aO (vv 0) aD (fun _ _=>rfl)) aQ (aX _)) (fH aSd (aK aO (vv 0) aD (fun _ _=>rfl)) zB (aX _)) (aJ (dH.mono (by decide)) hr (by rfl) (aB (aK aO (vv 0) aD (fun _ _=>rfl)) aA))))))),?_⟩
 have hn':nameB (.str new)=true:=hn
 rcases hs with ⟨e,_,ha⟩|⟨c,e,hc,hw,ha⟩
 ·refine ⟨_,rfl,_,_,rfl,.tup ha,_,rfl,aZ ?_⟩
  refine ⟨_,rfl,_,_,rfl,.inr ha,rfl,_,rfl,aZ ?_⟩
  refine ⟨_,rfl,a,_,0,_,rfl,rfl,ha,at0 _ _,_,ka,aCx,rfl,pN (by decide +kernel),hka _,rfl,_,rfl,aZ ?_⟩
  refine ⟨_,rfl,a,_,2,_,rfl,rfl,ha,at2 _ _ _ _,_,rfl,hn.th,fun H1 s1=>⟨_,rfl,?_⟩⟩
  rw [hn']
  refine aZ ⟨_,rfl,a,_,0,_,rfl,rfl,s1.aH ha,at0 _ _,rfl,_,rfl,cA ?_⟩
  exact ⟨_,rfl,a,_,1,_,rfl,rfl,s1.aH ha,at1 _ _ _,rfl,q H1 s1⟩
 ·have ew:(isS (.str wd) && inV (.str wd) aCx)=true∧wd.length≤8∧decide (V.str wd=V.str "count")=false:=by
   rcases hw with e|e|e <;> (have e:wd=_:=e;subst e;exact ⟨by decide +kernel,by decide +kernel,by decide +kernel⟩)
  refine ⟨_,rfl,_,_,rfl,.tup ha,_,rfl,aZ ?_⟩
  refine ⟨_,rfl,_,_,rfl,.inr ha,rfl,_,rfl,aZ ?_⟩
  refine ⟨_,rfl,a,_,0,_,rfl,rfl,ha,at0 _ _,_,ka,aCx,rfl,pN ew.2.1,hka _,rfl,_,rfl,?_⟩
  rw [ew.1]
  refine aZ ⟨_,rfl,a,_,2,_,rfl,rfl,ha,at2 _ _ _ _,_,rfl,hn.th,fun H1 s1=>⟨_,rfl,?_⟩⟩
  rw [hn']
  refine aZ ⟨_,rfl,a,_,0,_,rfl,rfl,s1.aH ha,at0 _ _,rfl,_,rfl,?_⟩
  rw [ew.2.2]
  refine aZ ⟨_,rfl,a,_,1,_,rfl,rfl,s1.aH ha,at1 _ _ _,_,rfl,hc.th,fun H2 s2=>?_⟩
  rw [show nameB (.str c)=true from hc]
  exact q H2 (s1.trans s2)
def aVw (_:PySem.W.Frag) (_:Hp) (v:V) (n:Nat):Prop:=v=.int n∧n≤60
theorem aK0 (T:Txt w K mg) (oH:Ok P w K mg base 1 "is_whole" ["thing"] (xQ K)):Ok P w K mg base 2 "is_many" ["thing"] (iZ (iG K aVw)):=by
 refine Ok.ofV T.aOp aMf (fun vs H Q E h=>?_) (fun f cdv A outer s H vs Q E hr h=>?_)
 ·obtain ⟨v,b,rfl,_⟩:=h;rfl
 obtain ⟨v,b,rfl,⟨rfl,n,rfl,hn⟩,q⟩:=h
 refine ⟨_,(aF (aL (pR (aJ (oH.mono (by decide)) hr (by rfl) (aB (vv 0) aA)) (rA (aS5 aEb aEb aD (vv 0) (gQ (by rfl) T.aKa)))))),?_⟩
 refine ⟨_,rfl,_,rfl,.inr (.inl ⟨_,rfl⟩),_,rfl,cA ?_⟩
 refine ⟨_,rfl,_,_,rfl,rfl,_,rfl,?_⟩
 have e1:decide ((0:Int)≤(n:Int))=true:=decide_eq_true (by lia)
 have e2:decide ((n:Int)≤60)=true:=decide_eq_true (by lia)
 rw [e1]
 refine cA ⟨_,_,rfl,rfl,?_⟩
 show Q (.bl (decide ((n:Int)≤60))) H
 rw [e2]
 exact q H (Same.refl H)
theorem vN (T:Txt w K mg):Ok P w K mg base 1 "may_be_question" ["thing"] (fun vs H Q _=>∃v,vs=[v]∧Q (.bl true) H):=by
 refine Ok.ofV T.yH vW (fun vs H Q E h=>?_) (fun f cdv A outer s H vs Q E hr h=>?_)
 ·obtain ⟨v,rfl,_⟩:=h;rfl
 obtain ⟨v,rfl,q⟩:=h
 exact ⟨_,(aF (aL tQ)),q⟩
theorem aV2 {k:Nat} {x:Str} {ps:List Str} {sp sp':Sp} (G:Ok P w K mg base k x ps sp) (h:∀vs H Q E,sp' vs H Q E→sp vs H Q E):Ok P w K mg base k x ps sp':=
 let ⟨f,fd,h1,h2,h3,h4⟩:=G;⟨f,fd,h1,h2,h3,h4.imp h⟩
theorem aQl (G:Ok P w K mg base 2 "is_name" ["thing"] (aBo K nameB)):Ok P w K mg base 2 "is_name" ["thing"] (iZ (iG K fC)):=
 aV2 G fun vs H Q E h=>by
  obtain ⟨v,b,rfl,⟨rfl,x,rfl,hx⟩,q⟩:=h
  exact ⟨_,rfl,Nm.th hx,fun H' s'=>by rw [show nameB (.str x)=true from hx];exact q H' s'⟩
theorem aE4 (T:Txt w K mg) (aOx:Ok P w K mg base 4 "is_test" ["thing"] (iZ (iG K IsT))) (cF:Ok P w K mg base 5 "is_tuple_of" ["thing","least","most","is_part"] (mG P w K mg base 4)) :
  Ok P w K mg base 6 "are_tests" ["thing"] (iZ (iG K (gY IsT 1 3))):=by
 refine Ok.ofV T.aJh aE0 (fun vs H Q E h=>?_) (fun f cdv A outer s H vs Q E hr h=>?_)
 ·obtain ⟨v,b,rfl,_⟩:=h;rfl
 obtain ⟨v,b,rfl,⟨rfl,xs,hx,l1,l2⟩,q⟩:=h
 obtain ⟨fa,mf,hf⟩:=aOx.held
 have aD5:∃u,mg "is_test"=some u∧RelV (.ref fa) u:=⟨_,mf,rfl⟩
 refine ⟨_,(aF (aL (aJ (cF.mono (by decide)) hr (by rfl) (aB (vv 0) (aB aD (aB (gQ (by rfl) T.aG2) (aB (gQ (by rfl) aD5) aA))))))),?_⟩
 exact ⟨_,rfl,_,1,3,fa,_,_,_,rfl,by decide,hf,lN (S:=IsT) (fun e h=>h.same e),tupof (S:=IsT) hx l1 l2,fun H1 s1=>q H1 s1⟩
theorem aF8 (T:Txt w K mg) (dH:Ok P w K mg base 2 "is_name" ["thing"] (iZ (iG K fC))) (cF:Ok P w K mg base 3 "is_tuple_of" ["thing","least","most","is_part"] (mG P w K mg base 2)) :
  Ok P w K mg base 4 "are_names" ["thing"] (iZ (iG K (gY fC 1 8))):=by
 refine Ok.ofV T.aHq aE1 (fun vs H Q E h=>?_) (fun f cdv A outer s H vs Q E hr h=>?_)
 ·obtain ⟨v,b,rfl,_⟩:=h;rfl
 obtain ⟨v,b,rfl,⟨rfl,xs,hx,l1,l2⟩,q⟩:=h
 obtain ⟨fa,mf,hf⟩:=dH.held
 have nM:∃u,mg "is_name"=some u∧RelV (.ref fa) u:=⟨_,mf,rfl⟩
 refine ⟨_,(aF (aL (aJ (cF.mono (by decide)) hr (by rfl) (aB (vv 0) (aB aD (aB (gQ (by rfl) T.xW) (aB (gQ (by rfl) nM) aA))))))),?_⟩
 exact ⟨_,rfl,_,1,8,fa,_,_,_,rfl,by decide,hf,lN (S:=fC) (fun e h=>h),tupof (S:=fC) hx l1 l2,fun H1 s1=>q H1 s1⟩
theorem vB (T:Txt w K mg) (dH:Ok P w K mg base 2 "is_name" ["thing"] (iZ (iG K fC))) (cF:Ok P w K mg base 3 "is_tuple_of" ["thing","least","most","is_part"] (mG P w K mg base 2)) :
  Ok P w K mg base 4 "are_group_names" ["thing"] (iZ (iG K (gY fC 0 8))):=by
 refine Ok.ofV T.yI vZ (fun vs H Q E h=>?_) (fun f cdv A outer s H vs Q E hr h=>?_)
 ·obtain ⟨v,b,rfl,_⟩:=h;rfl
 obtain ⟨v,b,rfl,⟨rfl,xs,hx,l1,l2⟩,q⟩:=h
 obtain ⟨fa,mf,hf⟩:=dH.held
 have nM:∃u,mg "is_name"=some u∧RelV (.ref fa) u:=⟨_,mf,rfl⟩
 refine ⟨_,(aF (aL (aJ (cF.mono (by decide)) hr (by rfl) (aB (vv 0) (aB aD (aB (gQ (by rfl) T.xW) (aB (gQ (by rfl) nM) aA))))))),?_⟩
 exact ⟨_,rfl,_,0,8,fa,_,_,_,rfl,by decide,hf,lN (S:=fC) (fun e h=>h),tupof (S:=fC) hx l1 l2,fun H1 s1=>q H1 s1⟩
theorem aF3 (T:Txt w K mg) (aO9:Ok P w K mg base 4 "is_pair" ["thing"] (iZ (iG K lB))) (cF:Ok P w K mg base 5 "is_tuple_of" ["thing","least","most","is_part"] (mG P w K mg base 4)) :
  Ok P w K mg base 6 "are_pairs" ["thing"] (iZ (iG K (gY lB 1 3))):=by
 refine Ok.ofV T.aJ4 aGh (fun vs H Q E h=>?_) (fun f cdv A outer s H vs Q E hr h=>?_)
 ·obtain ⟨v,b,rfl,_⟩:=h;rfl
 obtain ⟨v,b,rfl,⟨rfl,xs,hx,l1,l2⟩,q⟩:=h
 obtain ⟨fa,mf,hf⟩:=aO9.held
 have aEc:∃u,mg "is_pair"=some u∧RelV (.ref fa) u:=⟨_,mf,rfl⟩
 refine ⟨_,(aF (aL (aJ (cF.mono (by decide)) hr (by rfl) (aB (vv 0) (aB aD (aB (gQ (by rfl) T.aGg) (aB (gQ (by rfl) aEc) aA))))))),?_⟩
 exact ⟨_,rfl,_,1,3,fa,_,_,_,rfl,by decide,hf,lN (S:=lB) (fun e h=>h.same e),tupof (S:=lB) hx l1 l2,fun H1 s1=>q H1 s1⟩
theorem aH0 (T:Txt w K mg) (aRc:Ok P w K mg base 3 "is_sum" ["thing"] (iZ (iG K lL))) (cF:Ok P w K mg base 4 "is_tuple_of" ["thing","least","most","is_part"] (mG P w K mg base 3)) :
  Ok P w K mg base 5 "are_sums" ["thing"] (iZ (iG K (gY lL 0 4))):=by
 refine Ok.ofV T.aLq aJy (fun vs H Q E h=>?_) (fun f cdv A outer s H vs Q E hr h=>?_)
 ·obtain ⟨v,b,rfl,_⟩:=h;rfl
 obtain ⟨v,b,rfl,⟨rfl,xs,hx,l1,l2⟩,q⟩:=h
 obtain ⟨fa,mf,hf⟩:=aRc.held
 have aH9:∃u,mg "is_sum"=some u∧RelV (.ref fa) u:=⟨_,mf,rfl⟩
 refine ⟨_,(aF (aL (aJ (cF.mono (by decide)) hr (by rfl) (aB (vv 0) (aB aD (aB (gQ (by rfl) T.aJi) (aB (gQ (by rfl) aH9) aA))))))),?_⟩
 exact ⟨_,rfl,_,0,4,fa,_,_,_,rfl,by decide,hf,lN (S:=lL) (fun e h=>h.same e),tupof (S:=lL) hx l1 l2,fun H1 s1=>q H1 s1⟩
theorem aJt (T:Txt w K mg) (aRt:Ok P w K mg base 3 "is_key" ["thing"] (iZ (iG K oF))) (cF:Ok P w K mg base 4 "is_tuple_of" ["thing","least","most","is_part"] (mG P w K mg base 3)) :
  Ok P w K mg base 5 "are_keys" ["thing"] (iZ (iG K (gY oF 0 3))):=by
 refine Ok.ofV T.aKv aH2 (fun vs H Q E h=>?_) (fun f cdv A outer s H vs Q E hr h=>?_)
 ·obtain ⟨v,b,rfl,_⟩:=h;rfl
 obtain ⟨v,b,rfl,⟨rfl,xs,hx,l1,l2⟩,q⟩:=h
 obtain ⟨fa,mf,hf⟩:=aRt.held
 have aJq:∃u,mg "is_key"=some u∧RelV (.ref fa) u:=⟨_,mf,rfl⟩
 refine ⟨_,(aF (aL (aJ (cF.mono (by decide)) hr (by rfl) (aB (vv 0) (aB aD (aB (gQ (by rfl) T.aHz) (aB (gQ (by rfl) aJq) aA))))))),?_⟩
 exact ⟨_,rfl,_,0,3,fa,_,_,_,rfl,by decide,hf,lN (S:=oF) (fun e h=>h.same e),tupof (S:=oF) hx l1 l2,fun H1 s1=>q H1 s1⟩
inductive Qn where
 |table (T:Str)
 |whr (q:Qn) (ts:List Tst)
 |keep (q:Qn) (ns:List Str)
 |nmd (q:Qn) (ns:List Str)
 |join (q r:Qn) (ps:List (Str × Str))
 |group (q:Qn) (ns:List Str) (ss:List Sm)
 |first (q:Qn) (ks:List (Str × Str)) (m:Nat)
inductive IsQ (K:PySem.W.Frag) (H:Hp):V→Qn→Prop
 |table {a T}:SqT K H a [.str "table",.str T]→Nm T→IsQ K H (.ref a) (.table T)
 |whr {a v q w ts}:SqT K H a [.str "where",v,w]→IsQ K H v q→gY IsT 1 3 K H w ts→IsQ K H (.ref a) (.whr q ts)
 |keep {a v q w ns}:SqT K H a [.str "keep",v,w]→IsQ K H v q→gY fC 1 8 K H w ns→IsQ K H (.ref a) (.keep q ns)
 |nmd {a v q w ns}:SqT K H a [.str "named",v,w]→IsQ K H v q→gY fC 1 8 K H w ns→IsQ K H (.ref a) (.nmd q ns)
 |join {a v q u r w ps}:SqT K H a [.str "join",v,u,w]→IsQ K H v q→IsQ K H u r→gY lB 1 3 K H w ps→IsQ K H (.ref a) (.join q r ps)
 |group {a v q w ns u ss}:SqT K H a [.str "group",v,w,u]→IsQ K H v q→gY fC 0 8 K H w ns→gY lL 0 4 K H u ss→IsQ K H (.ref a) (.group q ns ss)
 |first {a v q w ks m}:SqT K H a [.str "first",v,w,.int (m:Nat)]→IsQ K H v q→gY oF 0 3 K H w ks→m≤60→IsQ K H (.ref a) (.first q ks m)
theorem gY.same {α:Type} {S:PySem.W.Frag→Hp→V→α→Prop} {lo hi:Nat} {K:PySem.W.Frag} {H H':Hp} {v:V} {xs:List α} (e:Same H H') (k:∀{v t},S K H v t→S K H' v t) (h:gY S lo hi K H v xs):gY S lo hi K H' v xs:=
 ⟨h.1.same e fun _ _=>k,h.2⟩
theorem IsQ.same {K:PySem.W.Frag} {H H':Hp} {v:V} {q:Qn} (e:Same H H') (h:IsQ K H v q):IsQ K H' v q:=by
 induction h with
 |table a b=>exact .table (e.aH a) b
 |whr a _ c ih=>exact .whr (e.aH a) ih (c.same e fun h=>h.same e)
 |keep a _ c ih=>exact .keep (e.aH a) ih (c.same e fun h=>h)
 |nmd a _ c ih=>exact .nmd (e.aH a) ih (c.same e fun h=>h)
 |join a _ _ c ih1 ih2=>exact .join (e.aH a) ih1 ih2 (c.same e fun h=>h.same e)
 |group a _ c d ih=>exact .group (e.aH a) ih (c.same e fun h=>h) (d.same e fun h=>h.same e)
 |first a _ c d ih=>exact .first (e.aH a) ih (c.same e fun h=>h.same e) d
def Part (P:Program) (w:World) (K:PySem.W.Frag) (mg:Str→Option Value) (base:Heap) (H:Hp) (f x:V):Prop:=∃fa ps sp,f=.ref fa∧Held P w K mg base 6 fa ps sp∧∀H' Q,Same H H'→(∀H2,Same H' H2→Q (.bl true) H2)→sp [x] H' Q E0
theorem kY {k:Nat} {x:Str} {ps:List Str} {α:Type} {S:PySem.W.Frag→Hp→V→α→Prop} {f:Addr} {H:Hp} {v:V} {t:α} (G:Ok P w K mg base k x ps (iZ (iG K S))) (hk:k≤6) (m:mg x=some (.ref f)) (st:∀{H H' v t},Same H H'→S K H v t→S K H' v t) (h:S K H v t):Part P w K mg base H (.ref f) v:=
 ⟨f,_,_,rfl,(G.aQ0 m).mono hk,fun H' Q s' q=>⟨v,true,rfl,⟨rfl,t,st s' h⟩,q⟩⟩
abbrev forms:List Str:=["table","where","keep","named","join","group","first"]
def aYz (K:PySem.W.Frag):Sp:=fun vs H Q _=>∃v q,vs=[v]∧IsQ K H v q∧∀H',Same H H'→Q (.bl true) H'
theorem oG {f:Addr} {H:Hp} {v:V} (G:Ok P w K mg base 1 "may_be_question" ["thing"] (fun vs H Q _=>∃v,vs=[v]∧Q (.bl true) H)) (m:mg "may_be_question"=some (.ref f)):Part P w K mg base H (.ref f) v:=
 ⟨f,_,_,rfl,(G.aQ0 m).mono (by decide),fun H' Q s' q=>⟨v,rfl,q H' (Same.refl H')⟩⟩
structure Forms (P:Program) (w:World) (K:PySem.W.Frag) (mg:Str→Option Value) (base:Heap):Prop where
 name:Ok P w K mg base 2 "is_name" ["thing"] (iZ (iG K fC))
 any:Ok P w K mg base 1 "may_be_question" ["thing"] (fun vs H Q _=>∃v,vs=[v]∧Q (.bl true) H)
 tests:Ok P w K mg base 6 "are_tests" ["thing"] (iZ (iG K (gY IsT 1 3)))
 names:Ok P w K mg base 4 "are_names" ["thing"] (iZ (iG K (gY fC 1 8)))
 gnames:Ok P w K mg base 4 "are_group_names" ["thing"] (iZ (iG K (gY fC 0 8)))
 pairs:Ok P w K mg base 6 "are_pairs" ["thing"] (iZ (iG K (gY lB 1 3)))
 sums:Ok P w K mg base 5 "are_sums" ["thing"] (iZ (iG K (gY lL 0 4)))
 keys:Ok P w K mg base 5 "are_keys" ["thing"] (iZ (iG K (gY oF 0 3)))
 many:Ok P w K mg base 2 "is_many" ["thing"] (iZ (iG K aVw))
theorem aUj (T:Txt w K mg) (F:Forms P w K mg base):∃d kvs,mg "FORMS"=some (.ref d)∧aTg w K d kvs∧kvs.length≤1000∧(kvs.map fun q=>V.str q.1).all lC=true ∧
  ∀H v q,IsQ K H v q→∃a k xs t fs,v=.ref a∧SqT K H a (.str k::xs)∧k.length≤8∧inV (.str k) (kvs.map fun q=>V.str q.1)=true∧(kvs.find? fun z=>decide (z.1=k)).map (·.2)=some t∧(∀H,SqT K H t fs)∧fs.length≤8∧bO (Part P w K mg base H) fs xs:=by
 obtain ⟨d,t0,t1,t2,t3,t4,t5,t6,md,hd,⟨f00,h0,m00⟩,⟨f10,f11,h1,m10,m11⟩,⟨f20,f21,h2,m20,m21⟩,⟨f30,f31,h3,m30,m31⟩,⟨f40,f41,f42,h4,m40,m41,m42⟩,⟨f50,f51,f52,h5,m50,m51,m52⟩,⟨f60,f61,f62,h6,m60,m61,m62⟩⟩:=T.aA7
 refine ⟨d,_,md,hd,(by show 7≤1000;decide),rfl,fun H v q hq=>?_⟩
 cases hq with
 |table a b=>exact ⟨_,_,_,t0,_,rfl,a,by decide +kernel,(by show inV (.str "table") (forms.map V.str)=true;decide +kernel),rfl,h0,(by show 1≤8;decide),.cons (kY F.name (by decide) m00 (fun _ h=>h) ⟨rfl,b⟩) .nil⟩
 |whr a _ c=>exact ⟨_,_,_,t1,_,rfl,a,by decide +kernel,(by show inV (.str "where") (forms.map V.str)=true;decide +kernel),rfl,h1,(by show 2≤8;decide),.cons (oG F.any m10) (.cons (kY F.tests (by decide) m11 (fun e h=>h.same e fun q=>q.same e) c) .nil)⟩
 |keep a _ c=>exact ⟨_,_,_,t2,_,rfl,a,by decide +kernel,(by show inV (.str "keep") (forms.map V.str)=true;decide +kernel),rfl,h2,(by show 2≤8;decide),.cons (oG F.any m20) (.cons (kY F.names (by decide) m21 (fun e h=>h.same e fun q=>q) c) .nil)⟩
 |nmd a _ c=>exact ⟨_,_,_,t3,_,rfl,a,by decide +kernel,(by show inV (.str "named") (forms.map V.str)=true;decide +kernel),rfl,h3,(by show 2≤8;decide),.cons (oG F.any m30) (.cons (kY F.names (by decide) m31 (fun e h=>h.same e fun q=>q) c) .nil)⟩
 |join a _ _ c=>exact ⟨_,_,_,t4,_,rfl,a,by decide +kernel,(by show inV (.str "join") (forms.map V.str)=true;decide +kernel),rfl,h4,(by show 3≤8;decide),.cons (oG F.any m40) (.cons (oG F.any m41) (.cons (kY F.pairs (by decide) m42 (fun e h=>h.same e fun q=>q.same e) c) .nil))⟩
 |group a _ c e=>exact ⟨_,_,_,t5,_,rfl,a,by decide +kernel,(by show inV (.str "group") (forms.map V.str)=true;decide +kernel),rfl,h5,(by show 3≤8;decide),.cons (oG F.any m50) (.cons (kY F.gnames (by decide) m51 (fun e h=>h.same e fun q=>q) c) (.cons (kY F.sums (by decide) m52 (fun e h=>h.same e fun q=>q.same e) e) .nil))⟩
 |first a _ c e=>exact ⟨_,_,_,t6,_,rfl,a,by decide +kernel,(by show inV (.str "first") (forms.map V.str)=true;decide +kernel),rfl,h6,(by show 3≤8;decide),.cons (oG F.any m60) (.cons (kY F.keys (by decide) m61 (fun e h=>h.same e fun q=>q.same e) c) (.cons (kY F.many (by decide) m62 (fun _ h=>h) ⟨rfl,e⟩) .nil))⟩
theorem mF {α β:Type} {R:α→β→Prop}:∀{as:List α} {bs:List β},bO R as bs→∀{i:Nat} {a:α} {b:β},as[i]?=some a→bs[i]?=some b→R a b
 |_,_,.cons r t,0,_,_,h1,h2=>by cases h1;cases h2;exact r
 |_,_,.cons r t,i+1,a,b,h1,h2=>mF t (i:=i) (by simpa using h1) (by simpa using h2)
theorem aTq {xs ys:List V}:(List.zipWith (fun _ _:V=>V.bl true) xs ys)=(List.zipWith (fun _ _:V=>true) xs ys).map V.bl:=by
 rw [List.map_zipWith]
theorem aRh:∀(xs ys:List V),((List.zipWith (fun _ _:V=>true) xs ys).all id)=true
 |[],_=>by simp
 |_::_,[]=>by simp
 |x::xs,y::ys=>by rw [List.zipWith_cons_cons,List.all_cons,aRh xs ys];rfl
theorem aZy (x:V) (xs:List V):qX (x::xs) (some 1) none=xs:=by
 unfold qX
 have e:HT.sIx (x::xs).length 0 (some 1)=1:=by
  rw [show (1:Int)=((1:Nat):Int) from rfl,HT.aA2,List.length_cons]
  lia
 rw [e,HT.aCs,List.length_cons]
 simp
theorem nw1 (x:V) (xs:List V):¬ (HT.sIx (x::xs).length 0 (some 1)=0∧HT.sIx (x::xs).length (x::xs).length none=(x::xs).length):=by
 rw [show (1:Int)=((1:Nat):Int) from rfl,HT.aA2,List.length_cons]
 lia
theorem aJm (T:Txt w K mg) (F:Forms P w K mg base) (dR:Ok P w K mg base 1 "is_one_of" ["thing","texts"] (zL K)):Ok P w K mg base 7 "has_form" ["thing"] (aYz K):=by
 refine Ok.ofV T.aMg aAd (fun vs H Q E h=>?_) (fun f cdv A outer s H vs Q E hr h=>?_)
 ·obtain ⟨v,q,rfl,_⟩:=h;rfl
 obtain ⟨v,q0,rfl,hq,q⟩:=h
 obtain ⟨d,kvs,md,hd,hl,hfl,hat⟩:=aUj T F
 have aA7:∃u,mg "FORMS"=some u∧RelV (.ref d) u:=⟨_,md,rfl⟩
 obtain ⟨a,k,xs,t,fs,rfl,ha,hk8,hin,hf,ht,hf8,hp⟩:=hat H v q0 hq
 have hlen:=hp.len
 refine ⟨_,(aC (bJ (VW.pt (qN (jE (eG (aY lJ (by rfl) T.cV cM (aB (vv 0) (aB (jX (v:=.ty "tuple") (by rfl) T.cB bQ rfl) aA))))) (qN (aP bY (aY bB (by rfl) T.dG cJ (aB (vv 0) aA)) aD (aX _)) (oJ (jE (eG (aJ (dR.mono (by decide)) hr (by rfl) (aB (aK aO (vv 0) aD (fun _ _=>rfl)) (aB (bD (aOd rfl) (by rfl) T.cB bQ (aB (gQ (by rfl) aA7) aA)) aA))))))))) (aF (aL tQ)) aW) (aC (aV (i:=1) aAd.nd rfl (by trivial) (aK aT0 (gQ (by rfl) aA7) (aK aO (vv 0) aD (fun _ _=>rfl)) (fun _ _=>rfl))) (aC (bJ (aP uW (aY bB (by rfl) T.dG cJ (aB (vv 0) aA)) (bU eY (aY bB (by rfl) T.dG cJ (aB (vv 1) aA)) aD) (aX _)) (aF (aL tQ)) aW) (aF (aL (aY (uA rfl) (by rfl) T.aIo aBi (aB (bZ (N:=["is_part","part"]) (by trivial) (dF (by decide +kernel)) rfl (aHo (by rfl) T.aNl (aB (vv 1) (aB (dD aFw (vv 0) (dJ aD) fZ) aA))) (fun cl s' H' fp=>⟨(iB (K:=K) (n:=2) rfl (bA (aN (i:=0) (show (["is_part","part"]:List Str).Nodup from by decide +kernel) rfl (Or.inl rfl)) (bA (aN (i:=1) (show (["is_part","part"]:List Str).Nodup from by decide +kernel) rfl (Or.inl rfl)) cO))),cI,(aHt (P:=P) (w:=w) (K:=K) (mg:=mg) (base:=base) hr (vv 0) (aB (vv 1) aA))⟩)) aA))))))),?_⟩
 refine ⟨_,rfl,_,_,rfl,.tup ha,_,rfl,aZ ?_⟩
 refine ⟨_,rfl,_,_,rfl,.inr ha,rfl,_,rfl,?_⟩
 have e0:decide (V.int (((V.str k::xs).length:Nat):Int)=V.int 0)=false:=decide_eq_false (by intro z;have:=V.int.inj z;rw [List.length_cons] at this;lia)
 rw [e0]
 refine aZ ⟨_,rfl,a,_,0,_,rfl,rfl,ha,at0 _ _,d,kvs,rfl,hd,hl,fun p1 H1 s1 g1=>⟨_,p1,_,rfl,pN hk8,SqT.of g1,hfl,_,rfl,?_⟩⟩
 have e1:(isS (.str k) && inV (.str k) (kvs.map fun q=>V.str q.1))=true:=by rw [hin];rfl
 rw [e1]
 refine aZ ⟨_,rfl,a,_,0,_,rfl,rfl,s1.aH ha,at0 _ _,d,kvs,k,t,rfl,rfl,hd,hf,?_⟩
 refine ⟨_,rfl,_,_,rfl,.inr (s1.aH ha),_,rfl,_,_,rfl,.inr (ht _),_,_,rfl,rfl,rfl,_,rfl,?_⟩
 have e2:(!decide (V.int (((V.str k::xs).length:Nat):Int)=V.int ((fs.length:Nat)+1:Int)))=false:=by rw [List.length_cons,hlen];simp
 rw [e2]
 refine aZ ?_
 dsimp only [rU,aAs,tCB,fP]
 refine aO6 fs xs (fun _ _=>.bl true) [none,none] gM (small (by lia)) hlen (fun R r=>⟨_,rfl,_,rfl,_,rfl,a,_,rfl,s1.aH ha,nw1 _ _,fun p2 H2 s2 g2=>?_⟩) (fun i fv x ef ex H' R l1 l2 sm r=>?_) rfl rfl fun D H' sm hD=>?_
 ·rw [aZy] at g2
  exact r t p2 H2 s2 (ht _) (SqT.of g2)
 ·obtain ⟨fa,ps,sp,rfl,hh,hc⟩:=mF hp ef ex
  exact ⟨_,rfl,fa,ps,sp,rfl,hh,_,rfl,hc H' R (s1.trans sm) fun H2 s2=>r H2 s2⟩
 ·refine ⟨D,List.zipWith (fun _ _=>true) fs xs,rfl,SqL.of (by rw [hD,aTq]),?_⟩
  rw [aRh]
  exact q H' (s1.trans sm)
def kids:Qn→List Qn
 |.table _=>[]
 |.whr q _=>[q]
 |.keep q _=>[q]
 |.nmd q _=>[q]
 |.join q r _=>[q,r]
 |.group q _ _=>[q]
 |.first q _ _=>[q]
def own:Qn→Nat
 |.whr _ ts=>ts.length
 |_=>1
def size:Qn→Nat
 |.table _=>1
 |.whr q ts=>size q+ts.length
 |.keep q _=>size q+1
 |.nmd q _=>size q+1
 |.join q r _=>size q+size r+1
 |.group q _ _=>size q+1
 |.first q _ _=>size q+1
def sizes (qs:List Qn):Nat:=(qs.map size).sum
theorem jQ (q:Qn):size q=own q+sizes (kids q):=by
 cases q <;> simp [size,own,sizes,kids] <;> lia
theorem nG {K:PySem.W.Frag} {H:Hp} {v:V} {q:Qn} (h:IsQ K H v q):1≤own q:=by
 cases h with
 |whr _ _ c=>exact c.2.1
 |_=>exact Nat.le_refl _
def aKd (K:PySem.W.Frag):Sp:=fun vs H Q _=>∃v q H0,vs=[v]∧Same H0 H∧IsQ K H0 v q∧∀D H' us,H D=none→Same H H'→H' D=some (.lst us)→bO (IsQ K H0) us (kids q)→Q (.ref D) H'
theorem sE (T:Txt w K mg):Ok P w K mg base 1 "questions_in" ["question"] (aKd K):=by
 refine Ok.ofV T.aBp aAt (fun vs H Q E h=>?_) (fun f cdv A outer s H vs Q E hr h=>?_)
 ·obtain ⟨v,q,H0,rfl,_⟩:=h;rfl
 obtain ⟨v,q0,H0,rfl,e,hq,q⟩:=h
 refine ⟨_,(aC (bJ (aP bY (aK aO (vv 0) aD (fun _ _=>rfl)) aQ (aX _)) (aF (aL (cP aA))) aW) (aF (aL (gZ (aP bY (aK aO (vv 0) aD (fun _ _=>rfl)) aQ (aX _)) (bD oN (by rfl) T.yX uM (aB (dD aFw (vv 0) (dJ aD) (dJ aD)) aA)) (cP (aB (aK aO (vv 0) aD (fun _ _=>rfl)) aA)))))),?_⟩
 cases hq with
 |table a b=>exact ⟨_,rfl,_,_,0,_,rfl,rfl,(e.aH a),at0 _ _,rfl,_,rfl,cA ⟨(by show 0≤sizeLine;decide),fun D H' f s' g=>q D H' _ f s' g .nil⟩⟩
 |whr a b c=>exact ⟨_,rfl,_,_,0,_,rfl,rfl,(e.aH a),at0 _ _,rfl,_,rfl,aZ ⟨_,rfl,_,_,0,_,rfl,rfl,(e.aH a),at0 _ _,rfl,_,rfl,aZ ⟨_,rfl,_,_,1,_,rfl,rfl,(e.aH a),at1 _ _ _,(by show 1≤sizeLine;decide),fun D H' f s' g=>q D H' _ f s' g (.cons b .nil)⟩⟩⟩
 |keep a b c=>exact ⟨_,rfl,_,_,0,_,rfl,rfl,(e.aH a),at0 _ _,rfl,_,rfl,aZ ⟨_,rfl,_,_,0,_,rfl,rfl,(e.aH a),at0 _ _,rfl,_,rfl,aZ ⟨_,rfl,_,_,1,_,rfl,rfl,(e.aH a),at1 _ _ _,(by show 1≤sizeLine;decide),fun D H' f s' g=>q D H' _ f s' g (.cons b .nil)⟩⟩⟩
 |nmd a b c=>exact ⟨_,rfl,_,_,0,_,rfl,rfl,(e.aH a),at0 _ _,rfl,_,rfl,aZ ⟨_,rfl,_,_,0,_,rfl,rfl,(e.aH a),at0 _ _,rfl,_,rfl,aZ ⟨_,rfl,_,_,1,_,rfl,rfl,(e.aH a),at1 _ _ _,(by show 1≤sizeLine;decide),fun D H' f s' g=>q D H' _ f s' g (.cons b .nil)⟩⟩⟩
 |group a b c d=>exact ⟨_,rfl,_,_,0,_,rfl,rfl,(e.aH a),at0 _ _,rfl,_,rfl,aZ ⟨_,rfl,_,_,0,_,rfl,rfl,(e.aH a),at0 _ _,rfl,_,rfl,aZ ⟨_,rfl,_,_,1,_,rfl,rfl,(e.aH a),at1 _ _ _,(by show 1≤sizeLine;decide),fun D H' f s' g=>q D H' _ f s' g (.cons b .nil)⟩⟩⟩
 |first a b c d=>exact ⟨_,rfl,_,_,0,_,rfl,rfl,(e.aH a),at0 _ _,rfl,_,rfl,aZ ⟨_,rfl,_,_,0,_,rfl,rfl,(e.aH a),at0 _ _,rfl,_,rfl,aZ ⟨_,rfl,_,_,1,_,rfl,rfl,(e.aH a),at1 _ _ _,(by show 1≤sizeLine;decide),fun D H' f s' g=>q D H' _ f s' g (.cons b .nil)⟩⟩⟩
 |join a b c d=>
  refine ⟨_,rfl,_,_,0,_,rfl,rfl,(e.aH a),at0 _ _,rfl,_,rfl,aZ ⟨_,rfl,_,_,0,_,rfl,rfl,(e.aH a),at0 _ _,rfl,_,rfl,cA ⟨_,rfl,_,rfl,_,rfl,_,_,rfl,(e.aH a),(by show ¬ (HT.sIx 4 0 (some 1)=0∧HT.sIx 4 4 (some 3)=4);decide),fun p H1 s1 g1=>⟨p,_,rfl,.inr (SqT.of g1),fun D H' f s' g=>q D H' _ (s1.free f) (s1.trans s') g (.cons b (.cons c .nil))⟩⟩⟩⟩
def aSl (K:PySem.W.Frag):Sp:=fun vs H Q _=>∃v q,vs=[v]∧IsQ K H v q∧Q (.int (own q:Nat)) H
theorem aH3 (T:Txt w K mg):Ok P w K mg base 1 "own_size" ["question"] (aSl K):=by
 refine Ok.ofV T.aKo aIn (fun vs H Q E h=>?_) (fun f cdv A outer s H vs Q E hr h=>?_)
 ·obtain ⟨v,q,rfl,_⟩:=h;rfl
 obtain ⟨v,q0,rfl,hq,q⟩:=h
 refine ⟨_,(aF (aL (gZ (aP bY (aK aO (vv 0) aD (fun _ _=>rfl)) aQ (aX _)) (aY bB (by rfl) T.dG cJ (aB (aK aO (vv 0) aD (fun _ _=>rfl)) aA)) aD))),?_⟩
 cases hq with
 |whr a b c=>
  obtain ⟨⟨p,us,rfl,hp,hr'⟩,_⟩:=c
  refine ⟨_,rfl,_,_,0,_,rfl,rfl,a,at0 _ _,rfl,_,rfl,cA ⟨_,rfl,_,_,2,_,rfl,rfl,a,at2 _ _ _ _,_,_,rfl,.inr hp,?_⟩⟩
  rw [hr'.len]
  exact q
 |table a b=>exact ⟨_,rfl,_,_,0,_,rfl,rfl,a,at0 _ _,rfl,_,rfl,aZ q⟩
 |keep a b c=>exact ⟨_,rfl,_,_,0,_,rfl,rfl,a,at0 _ _,rfl,_,rfl,aZ q⟩
 |nmd a b c=>exact ⟨_,rfl,_,_,0,_,rfl,rfl,a,at0 _ _,rfl,_,rfl,aZ q⟩
 |group a b c d=>exact ⟨_,rfl,_,_,0,_,rfl,rfl,a,at0 _ _,rfl,_,rfl,aZ q⟩
 |first a b c d=>exact ⟨_,rfl,_,_,0,_,rfl,rfl,a,at0 _ _,rfl,_,rfl,aZ q⟩
 |join a b c d=>exact ⟨_,rfl,_,_,0,_,rfl,rfl,a,at0 _ _,rfl,_,rfl,aZ q⟩
def aQi (K:PySem.W.Frag):Sp:=fun vs H Q _=>∃v q,vs=[v]∧IsQ K H v q∧size q≤20∧∀H',Same H H'→Q v H'
theorem aPl {α β:Type} {R:α→β→Prop} {as:List α} {bs:List β} (h:bO R as bs) (ne:as≠[]):∃as' a bs' b,as=as'++[a]∧bs=bs'++[b]∧bO R as' bs'∧R a b:=by
 induction h with
 |nil=>exact absurd rfl ne
 |@cons a b as bs r t ih=>
  cases t with
  |nil=>exact ⟨[],a,[],b,rfl,rfl,.nil,r⟩
  |cons r' t'=>
   obtain ⟨as',x,bs',y,e1,e2,h1,h2⟩:=ih (by simp)
   exact ⟨a::as',x,b::bs',y,by rw [e1];rfl,by rw [e2];rfl,.cons r h1,h2⟩
theorem yW (xs ys:List Qn):sizes (xs++ys)=sizes xs+sizes ys:=by unfold sizes;rw [List.map_append,List.sum_append]
theorem aPk {K:PySem.W.Frag} {H:Hp} {us:List V} {qs:List Qn} (h:bO (IsQ K H) us qs):us.length≤sizes qs:=by
 induction h with
 |nil=>exact Nat.le_refl _
 |@cons v q us qs r _ ih=>
  have:=nG r
  have e:=jQ q
  show us.length+1≤(((q::qs).map size).sum)
  rw [List.map_cons,List.sum_cons]
  unfold sizes at ih
  lia
theorem aLa (T:Txt w K mg) (aLn:Ok P w K mg base 7 "has_form" ["thing"] (aYz K)) (cL:Ok P w K mg base 1 "questions_in" ["question"] (aKd K)) (aK5:Ok P w K mg base 1 "own_size" ["question"] (aSl K)):Ok P w K mg base 8 "checked" ["thing"] (aQi K):=by
 refine Ok.ofV T.aPo nQ (fun vs H Q E h=>?_) (fun f cdv A outer s H vs Q E hr h=>?_)
 ·obtain ⟨v,q,rfl,_⟩:=h;rfl
 obtain ⟨v,q0,rfl,hq,h20,q⟩:=h
 refine ⟨_,(aC (aV (i:=1) nQ.nd rfl (by trivial) aD) (aC (aV (i:=2) nQ.nd rfl (by trivial) (cP (aB (vv 0) aA))) (aC (aQr PassesOwn.never (aRv (vv 2)) (aC (aV (i:=3) nQ.nd rfl (by trivial) (aL6 PySem.F.plainAttrs_list PySem.F.slot_list_pop PySem.F.type_list_pop aTk (vv 2))) (aC (bJ (jE (eG (aJ (aLn.mono (by decide)) hr (by rfl) (aB (vv 3) aA)))) (aF jP) aW) (aC (aV (i:=1) nQ.nd rfl (by trivial) (bU eY (vv 1) (aJ (aK5.mono (by decide)) hr (by rfl) (aB (vv 3) aA)))) (aC (bJ (aP aNw (vv 1) (gQ (by rfl) T.aJk) (aX _)) (aF jP) aW) (aF (eF (uX PySem.F.plainAttrs_list PySem.F.slot_list_extend PySem.F.type_list_extend aLx (vv 2) (aB (aJ (cL.mono (by decide)) hr (by rfl) (aB (vv 3) aA)) aA))))))))) (aF (aL (vv 0)))))),?_⟩
 refine ⟨_,rfl,(by show 1≤sizeLine;decide),fun W H1 fW s1 g1=>?_⟩
 refine ⟨fun m σ H'=>∃sz us qs l,σ=[some v,some (.int (sz:Nat)),some (.ref W),l]∧Same H H'∧H' W=some (.lst us)∧bO (IsQ K H) us qs∧sz+sizes qs=size q0∧m=sizes qs,⟨_,0,_,[q0],_,rfl,s1,g1,.cons hq .nil,by simp [sizes],rfl⟩,?_⟩
 rintro m σ H' ⟨sz,us,qs,l,rfl,sm,eW,hu,hs,rfl⟩
 by_cases hne:us=[]
 ·subst hne
  refine ⟨_,rfl,false,.inl ⟨[],SqL.of eW,rfl⟩,?_⟩
  refine aZ ?_
  exact ⟨_,rfl,q H' sm⟩
 ·obtain ⟨us',u,qs',p,rfl,rfl,hu',hp⟩:=aPl hu hne
  refine ⟨_,rfl,true,.inl ⟨_,SqL.of eW,by cases us' <;> rfl⟩,?_⟩
  refine cA ?_
  have hso:=jQ p
  have hop:=nG hp
  have hsz:sizes (qs'++[p])=sizes qs'+size p:=by rw [yW];simp [sizes]
  refine ⟨fun σ' H''=>∃m',m'<sizes (qs'++[p])∧∃sz us qs l,σ'=[some v,some (.int (sz:Nat)),some (.ref W),l]∧Same H H''∧H'' W=some (.lst us)∧bO (IsQ K H) us qs∧sz+sizes qs=size q0∧m'=sizes qs,fun σ' H'' h=>h,?_⟩
  refine ⟨_,rfl,.inl ⟨rfl,_,SqL.of eW⟩,W,_,u,rfl,rfl,eW,?_,?_⟩
  ·rw [List.length_append,List.length_singleton,Nat.add_sub_cancel,List.getElem?_append_right (Nat.le_refl _),Nat.sub_self]
   rfl
  rw [List.dropLast_concat]
  have sx:Same H (upd H' W (.lst us')):=xH fW sm
  have ex:upd H' W (.lst us') W=some (.lst us'):=aU
  generalize upd H' W (.lst us')=Hx at sx ex
  refine ⟨_,rfl,u,p,rfl,hp.same sx,fun H2 s2=>⟨_,rfl,aZ ?_⟩⟩
  refine ⟨_,rfl,_,rfl,u,p,rfl,hp.same (sx.trans s2),_,_,rfl,rfl,?_⟩
  refine ⟨_,rfl,_,_,rfl,rfl,_,rfl,?_⟩
  have e20:decide ((20:Int)<(sz:Int)+(own p:Int))=false:=decide_eq_false (by lia)
  rw [e20]
  refine aZ ?_
  refine ⟨_,rfl,.inl ⟨rfl,_,SqL.of (s2 _ _ ex)⟩,?_⟩
  refine ⟨_,rfl,u,p,H,rfl,sx.trans s2,hp,fun D H3 ws fD s3 gD hw=>?_⟩
  have lw:=hw.len
  have lu:=aPk hu'
  have lk:(kids p).length≤2:=by cases p <;> simp [kids]
  refine ⟨W,D,_,_,rfl,rfl,s3 _ _ (s2 _ _ ex),gD,small (by lia),?_⟩
  refine ⟨_,?_,sz+own p,us'++ws,qs'++kids p,some u,?_,xH fW (sx.trans (s2.trans s3)),aU,hu'.app hw,?_,rfl⟩
  ·rw [yW];lia
  ·rw [show ((sz+own p:Nat):Int)=(sz:Int)+(own p:Int) from by lia];rfl
  ·rw [yW];lia
abbrev Hdr:=List (Str × Str)
def IsC (K:PySem.W.Frag) (H:Hp) (v:V) (c:Str × Str):Prop:=∃p,v=.ref p∧SqT K H p [.str c.1,.str c.2]
theorem IsC.same {K:PySem.W.Frag} {H H':Hp} {v:V} {c:Str × Str} (e:Same H H') (h:IsC K H v c):IsC K H' v c:=by
 obtain ⟨p,rfl,hp⟩:=h
 exact ⟨p,rfl,e.aH hp⟩
def dB (K:PySem.W.Frag) (H:Hp) (v:V) (hd:Hdr):Prop:=vM K H (IsC K H) v hd
theorem dB.same {K:PySem.W.Frag} {H H':Hp} {v:V} {hd:Hdr} (e:Same H H') (h:dB K H v hd):dB K H' v hd:=vM.same e (fun _ _ q=>q.same e) h
def look (hd:Hdr) (n:Str):Option Str:=(hd.find? fun c=>decide (c.1=n)).map (·.2)
theorem aA9 {n k:Str}:∀{hd:Hdr},look hd n=some k→∃i,hd[i]?=some (n,k)∧∀(j:Nat) (c:Str × Str),j<i→hd[j]?=some c→c.1≠n
 |[],h=>by cases h
 |(m,j)::r,h=>by
  unfold look at h
  rw [List.find?_cons] at h
  by_cases e:m=n
  ·rw [decide_eq_true (p:=(m,j).1=n) e] at h
   have h':j=k:=Option.some.inj h
   subst e h'
   exact ⟨0,rfl,fun j c hj=>absurd hj (Nat.not_lt_zero _)⟩
  ·rw [decide_eq_false (p:=(m,j).1=n) e] at h
   obtain ⟨i,h1,h2⟩:=aA9 (hd:=r) h
   refine ⟨i+1,by simpa using h1,fun j' c hj hc=>?_⟩
   cases j' with
   |zero=>cases hc;exact e
   |succ j'=>exact h2 j' c (by lia) (by simpa using hc)
theorem bN {α β:Type} {R:α→β→Prop}:∀{as:List α} {bs:List β},bO R as bs→∀{i:Nat} {a:α},as[i]?=some a→∃b,bs[i]?=some b∧R a b
 |_,_,.cons r t,0,_,h1=>by cases h1;exact ⟨_,rfl,r⟩
 |_,_,.cons r t,i+1,a,h1=>by
  obtain ⟨b,e,q⟩:=bN t (i:=i) (a:=a) (by simpa using h1)
  exact ⟨b,by simpa using e,q⟩
theorem aA0 {α β:Type} {R:α→β→Prop}:∀{as:List α} {bs:List β},as.length=bs.length→(∀(i:Nat) (a:α) (b:β),as[i]?=some a→bs[i]?=some b→R a b)→bO R as bs
 |[],[],_,_=>.nil
 |a::as,b::bs,hl,h=>.cons (h 0 a b rfl rfl) (aA0 (by simpa using hl) fun i x y h1 h2=>h (i+1) x y (by simpa using h1) (by simpa using h2))
theorem aHh {us:List V} {ns:List Str} (h:bO (fC K H) us ns):us=ns.map V.str:=by
 induction h with
 |nil=>rfl
 |cons r _ ih=>rw [List.map_cons,ih,r.1]
def yS (K:PySem.W.Frag):Sp:=fun vs H Q _=>∃vh n hd k,vs=[vh,.str n]∧dB K H vh hd∧look hd n=some k∧Q (.str k) H
theorem aLr (T:Txt w K mg):Ok P w K mg base 1 "kind_in" ["head","name"] (yS K):=by
 refine Ok.ofV T.aPa aCh (fun vs H Q E h=>?_) (fun f cdv A outer s H vs Q E hr h=>?_)
 ·obtain ⟨vh,n,hd,k,rfl,_⟩:=h;rfl
 obtain ⟨vh,n,hd,k,rfl,⟨a,us,rfl,ha,hu⟩,hk,q⟩:=h
 refine ⟨_,(aC (jA PassesOwn.never rfl (dC (vv 0)) (aN (i:=2) aCh.nd rfl (by trivial)) (aF (bJ (aP bY (aK (cZ (K:=K)) (vv 2) aD (fun _ _=>rfl)) (vv 1) (aX _)) (aF (aL (aK (cZ (K:=K)) (vv 2) aD (fun _ _=>rfl)))) aW))) (aF jP)),?_⟩
 obtain ⟨i0,h0,hf⟩:=aA9 hk
 have hi0:i0<us.length:=by rw [hu.len];exact (List.getElem?_eq_some_iff.mp h0).1
 refine ⟨_,rfl,a,rfl,⟨_,ha⟩,xJ (xs:=us) (fun i σ H'=>H'=H∧i≤i0∧∃l,σ=[some (.ref a),some (.str n),l]) ⟨rfl,Nat.zero_le _,_,rfl⟩ (fun i σ H' _ ⟨e,_⟩=>by rw [e];exact ha) ?_ ?_⟩
 ·rintro i x σ H' hx ⟨rfl,hi,l,rfl⟩
  obtain ⟨c,hc,p,rfl,hp⟩:=bN hu hx
  refine ⟨_,rfl,p,_,0,_,rfl,rfl,hp,at0 _ _,_,rfl,rfl,_,rfl,?_⟩
  by_cases e:i=i0
  ·subst e
   rw [h0] at hc
   cases hc
   rw [decide_eq_true rfl]
   exact cA ⟨_,rfl,p,_,1,_,rfl,rfl,hp,at1 _ _ _,q⟩
  ·have hn:=hf i c (by lia) hc
   rw [decide_eq_false (by intro z;exact hn (V.str.inj z))]
   exact aZ ⟨rfl,by lia,_,rfl⟩
 ·rintro σ H' ⟨rfl,hi,_⟩
  lia
def aFa (K:PySem.W.Frag):Sp:=fun vs H Q _=>∃(a b:Addr) (xs:List Str),vs=[.ref a,.ref b]∧SqL K H a (xs.map V.str)∧SqL K H b (xs.map V.str)∧Q .non H
theorem wC (T:Txt w K mg):Ok P w K mg base 1 "need_like_kinds" ["kinds","others"] (aFa K):=by
 refine Ok.ofV T.xU wF (fun vs H Q E h=>?_) (fun f cdv A outer s H vs Q E hr h=>?_)
 ·obtain ⟨a,b,xs,rfl,_⟩:=h;rfl
 obtain ⟨a,b,xs,rfl,ha,hb,q⟩:=h
 have hu:=wI hr
 exact ⟨_,(aF (bJ (aP (aXq (Nat.lt_of_succ_lt hu)) (vv 0) (vv 1) (aX _)) (aF jP) aW)),⟨_,rfl,_,rfl,a,b,xs,rfl,rfl,ha,hb,_,rfl,aZ q⟩⟩
def aGz (K:PySem.W.Frag):Sp:=fun vs H Q _=>∃(a:Addr) (ss:List Str),vs=[.ref a]∧SqL K H a (ss.map V.str)∧ss.length≤1000∧ss.Nodup∧∀H',Same H H'→Q .non H'
theorem aB6 (T:Txt w K mg) (aFn:Ok P w K mg base 1 "are_unlike" ["names"] (aEe K)):Ok P w K mg base 2 "need_unlike" ["names"] (aGz K):=by
 refine Ok.ofV T.aDg aBj (fun vs H Q E h=>?_) (fun f cdv A outer s H vs Q E hr h=>?_)
 ·obtain ⟨a,ss,rfl,_⟩:=h;rfl
 obtain ⟨a,ss,rfl,ha,hl,nd,q⟩:=h
 refine ⟨_,(aF (bJ (jE (eG (aJ (aFn.mono (by decide)) hr (by rfl) (aB (vv 0) aA)))) (aF jP) aW)),?_⟩
 refine ⟨_,rfl,a,ss,rfl,ha,hl,fun H1 s1=>⟨_,rfl,?_⟩⟩
 rw [decide_eq_true ((aUp ss).mpr nd)]
 exact aZ (q H1 s1)
def aVj:Sp:=fun vs H Q _=>∃d n v kvs,vs=[.ref d,.str n]∧H d=some (.dK kvs)∧mC kvs (Sum.inr n)=some v∧Q v H
theorem aC2 (T:Txt w K mg):Ok P w K mg base 1 "table_head" ["heads","name"] aVj:=by
 refine Ok.ofV T.aGa aDw (fun vs H Q E h=>?_) (fun f cdv A outer s H vs Q E hr h=>?_)
 ·obtain ⟨d,n,v,kvs,rfl,_⟩:=h;rfl
 obtain ⟨d,n,v,kvs,rfl,hd,hv,q⟩:=h
 have hu:=wI hr
 refine ⟨_,(aC (bJ (aO5 hu (vv 1) (vv 0)) (aF jP) aW) (aF (aL (uN hu (vv 0) (vv 1) (fun _ _=>rfl))))),?_⟩
 have g:=vA.k (k:=Sum.inr n) hd
 rw [hv] at g
 exact ⟨_,rfl,_,rfl,d,_,rfl,g,_,rfl,aZ ⟨_,rfl,_,rfl,d,v,rfl,g,q⟩⟩
def kindS (v:V):Str:=if whole v then "number" else "word"
def aSw (hd:Hdr):Oth→Option Str
 |.val x=>some (kindS x)
 |.col d=>look hd d
def aQs (K:PySem.W.Frag):Sp:=fun vs H Q _=>∃vh u hd o k,vs=[vh,u]∧dB K H vh hd∧IsO K H u o∧aSw hd o=some k∧Q (.str k) H
theorem aDy (T:Txt w K mg) (aO8:Ok P w K mg base 2 "kind_of" ["value"] (aNn K)) (gG:Ok P w K mg base 1 "kind_in" ["head","name"] (yS K)):Ok P w K mg base 3 "other_kind" ["head","other"] (aQs K):=by
 refine Ok.ofV T.aE7 aDd (fun vs H Q E h=>?_) (fun f cdv A outer s H vs Q E hr h=>?_)
 ·obtain ⟨vh,u,hd,o,k,rfl,_⟩:=h;rfl
 obtain ⟨vh,u,hd,o,k,rfl,hh,ho,hk,q⟩:=h
 refine ⟨_,(aF (aL (gZ (aP bY (aK aO (vv 1) aD (fun _ _=>rfl)) aQ (aX _)) (aJ (aO8.mono (by decide)) hr (by rfl) (aB (aK aO (vv 1) aD (fun _ _=>rfl)) aA)) (aJ (gG.mono (by decide)) hr (by rfl) (aB (vv 0) (aB (aK aO (vv 1) aD (fun _ _=>rfl)) aA)))))),?_⟩
 cases o with
 |val x=>
  obtain ⟨a,rfl,ha,hx,_⟩:=ho
  cases hk
  exact ⟨_,rfl,a,_,0,_,rfl,rfl,ha,at0 _ _,rfl,_,rfl,cA ⟨_,rfl,a,_,1,_,rfl,rfl,ha,at1 _ _ _,x,rfl,hx,q⟩⟩
 |col d=>
  obtain ⟨a,rfl,ha,_⟩:=ho
  exact ⟨_,rfl,a,_,0,_,rfl,rfl,ha,at0 _ _,rfl,_,rfl,aZ ⟨_,rfl,_,rfl,a,_,1,_,rfl,rfl,ha,at1 _ _ _,_,_,hd,k,rfl,hh,hk,q⟩⟩
def eX (hd:Hdr) (t:Tst):Prop:=∃k,look hd t.c=some k∧aSw hd t.o=some k
def aVc (K:PySem.W.Frag):Sp:=fun vs H Q _=>∃vh u hd ts,vs=[vh,u]∧dB K H vh hd∧vM K H (IsT K H) u ts∧ts.length≤8∧(∀t∈ts,eX hd t)∧∀H',Same H H'→Q vh H'
theorem kinds_of {α:Type} {p:α→Str→Prop}:∀{ts:List α},(∀t∈ts,∃k,p t k)→∃ks,bO p ts ks
 |[],_=>⟨[],.nil⟩
 |t::r,h=>by
  obtain ⟨k,hk⟩:=h t (List.mem_cons_self ..)
  obtain ⟨ks,hks⟩:=kinds_of (ts:=r) fun u hu=>h u (List.mem_cons_of_mem _ hu)
  exact ⟨k::ks,.cons hk hks⟩
theorem eO {α:Type} {f:α→V} {xs:List α} {i:Nat} {y:V} (h:(xs.map f)[i]?=some y):∃x,xs[i]?=some x∧y=f x:=by
 rw [List.getElem?_map] at h
 cases e:xs[i]? with
 |none=>rw [e] at h;cases h
 |some x=>rw [e] at h;cases h;exact ⟨x,rfl,rfl⟩
theorem aDf (T:Txt w K mg) (kZ:Ok P w K mg base 1 "need_like_kinds" ["kinds","others"] (aFa K)) (gG:Ok P w K mg base 1 "kind_in" ["head","name"] (yS K)) (aGd:Ok P w K mg base 3 "other_kind" ["head","other"] (aQs K)) :
  Ok P w K mg base 4 "where_head" ["head","tests"] (aVc K):=by
 refine Ok.ofV T.aF6 aDi (fun vs H Q E h=>?_) (fun f cdv A outer s H vs Q E hr h=>?_)
 ·obtain ⟨vh,u,hd,ts,rfl,_⟩:=h;rfl
 obtain ⟨vh,u,hd,ts,rfl,hh,⟨a,us,rfl,ha,hu⟩,hl8,hok,q⟩:=h
 refine ⟨_,(aC (eF (aJ (kZ.mono (by decide)) hr (by rfl) (aB (bZ (N:=["test","head"]) (by trivial) (cX (aG lA) rfl (by decide +kernel)) rfl (dC (vv 1)) (fun cl s' H' fp=>⟨(aN (i:=0) (show (["test","head"]:List Str).Nodup from by decide +kernel) rfl (Or.inl rfl)),cI,(aJ (gG.mono (by decide)) hr (by rfl) (aB (vv 1) (aB (aK (cZ (K:=K)) (vv 0) aD (fun _ _=>rfl)) aA)))⟩)) (aB (bZ (N:=["test","head"]) (by trivial) (cX (aG lA) rfl (by decide +kernel)) rfl (dC (vv 1)) (fun cl s' H' fp=>⟨(aN (i:=0) (show (["test","head"]:List Str).Nodup from by decide +kernel) rfl (Or.inl rfl)),cI,(aJ (aGd.mono (by decide)) hr (by rfl) (aB (vv 1) (aB (aK (cZ (K:=K)) (vv 0) aD (fun _ _=>rfl)) aA)))⟩)) aA)))) (aF (aL (vv 0)))),?_⟩
 obtain ⟨ks,hks⟩:=kinds_of hok
 have l1:=hu.len
 have l2:=hks.len
 dsimp only [iR,aNb,rY,fP]
 refine iV us (ks.map V.str) (by rw [List.length_map];lia) [none,some vh] ?_ (small (by lia)) (fun R r=>lG ha (fun R' r'=>⟨_,rfl,r'⟩) R r) (fun i x y ex ey H' R l sm r=>?_) rfl fun D1 H1 s1 g1=>?_
 ·exact cY 0 (by decide +kernel) rfl rfl (by trivial)
 ·obtain ⟨t,ht,p,w',rfl,hp,_,_,ho⟩:=bN hu ex
  obtain ⟨k,hk,rfl⟩:=eO ey
  have hq:=mF hks ht hk
  exact ⟨_,rfl,_,rfl,p,_,0,_,rfl,rfl,sm.aH hp,at0 _ _,_,_,hd,k,rfl,hh.same sm,hq.1,r H' (Same.refl H')⟩
 refine iV us (ks.map V.str) (by rw [List.length_map];lia) [none,some vh] ?_ (small (by lia)) (fun R r=>lG (s1.aH ha) (fun R' r'=>⟨_,rfl,r'⟩) R r) (fun i x y ex ey H' R l sm r=>?_) rfl fun D2 H2 s2 g2=>?_
 ·exact cY 0 (by decide +kernel) rfl rfl (by trivial)
 ·obtain ⟨t,ht,p,w',rfl,hp,_,_,ho⟩:=bN hu ex
  obtain ⟨k,hk,rfl⟩:=eO ey
  have hq:=mF hks ht hk
  exact ⟨_,rfl,_,rfl,p,_,2,_,rfl,rfl,sm.aH (s1.aH hp),at2 _ _ _ _,_,_,hd,t.o,k,rfl,hh.same (s1.trans sm),ho.same (s1.trans sm),hq.2,r H' (Same.refl H')⟩
 exact ⟨D1,D2,ks,rfl,SqL.of (s2 _ _ g1),SqL.of g2,⟨_,rfl,q H2 (s1.trans s2)⟩⟩
def aHx (K:PySem.W.Frag) (H:Hp) (v:V) (ns:List Str):Prop:=∃a,v=.ref a∧(SqL K H a (ns.map V.str)∨SqT K H a (ns.map V.str))
theorem aMi {lo hi:Nat} {H:Hp} {v:V} {ns:List Str} (h:gY fC lo hi K H v ns):aHx K H v ns:=by
 obtain ⟨⟨a,us,rfl,ha,hr⟩,_⟩:=h
 rw [aHh hr] at ha
 exact ⟨a,rfl,.inr ha⟩
def Looks (hd:Hdr) (ns ks:List Str):Prop:=bO (fun n k=>look hd n=some k) ns ks
def aMr (K:PySem.W.Frag):Sp:=fun vs H Q _=>∃vh u hd ns ks,vs=[vh,u]∧dB K H vh hd∧aHx K H u ns∧ns.length≤1000∧Looks hd ns ks∧∀v H',Same H H'→dB K H' v (ns.zip ks)→Q v H'
theorem aWz {K:PySem.W.Frag} {a:Addr} {xs:List V} {tl:TE} {σ:L2.St} {H:Hp} (hS:SqL K H a xs∨SqT K H a xs) (h:∀R:VK,R (.ref a) H→tl σ H R) (R:It→Hp→Prop)
  (q:∀J:It,(∀H' i x,Same H H'→xs[i]?=some x→J.go i H'∧∀y H2,J.yld i H' y H2→H2=H'∧y=x)→(∀H',Same H H'→J.stop xs.length H')→R J H):tR K tl σ H R∨aGc K tl σ H R:=by
 rcases hS with hS|hS
 ·exact .inl (aA3 (fun H' sm=>sm.seq hS) h R q)
 ·exact .inr (lG hS h R q)
def eN (K:PySem.W.Frag) (cs:Hdr):Nat→Hp→V→Prop:=fun i H y=>∃c p,cs[i]?=some c∧y=.ref p∧H p=some (.tup [.str c.1,.str c.2])
theorem eN.st {cs:Hdr} {i:Nat} {H1 H2:Hp} {y:V} (e:Same H1 H2) (h:eN K cs i H1 y):eN K cs i H2 y:=by
 obtain ⟨c,p,h1,h2,h3⟩:=h
 exact ⟨c,p,h1,h2,e _ _ h3⟩
theorem eN.su {cs:Hdr} {i:Nat} {H1:Hp} {D:Addr} {ys zs:List V} {y:V} (hD:H1 D=some (.lst ys)) (h:eN K cs i H1 y):eN K cs i (upd H1 D (.lst zs)) y:=by
 obtain ⟨c,p,h1,h2,h3⟩:=h
 exact ⟨c,p,h1,h2,by rw [bH (xF h3 hD (by intro z;cases z))];exact h3⟩
theorem wU {cs:Hdr} {H:Hp} {a:Addr} {ys:List V} (ha:SqT K H a ys) (hl:ys.length=cs.length) (h:∀(i:Nat) (y:V),ys[i]?=some y→eN K cs i H y):dB K H (.ref a) cs:=by
 refine ⟨a,ys,rfl,ha,aA0 hl fun i y c e1 e2=>?_⟩
 obtain ⟨c',p,h1,h2,h3⟩:=h i y e1
 rw [e2] at h1
 cases h1
 exact ⟨p,h2,SqT.of h3⟩
theorem aMe {ns ks:List Str} {i:Nat} {n k:Str} (h1:ns[i]?=some n) (h2:ks[i]?=some k):(ns.zip ks)[i]?=some (n,k):=by
 rw [List.zip,List.getElem?_zipWith,h1,h2]
theorem aG4 (T:Txt w K mg) (gG:Ok P w K mg base 1 "kind_in" ["head","name"] (yS K)):Ok P w K mg base 2 "keep_head" ["head","names"] (aMr K):=by
 refine Ok.ofV T.aI3 aE8 (fun vs H Q E h=>?_) (fun f cdv A outer s H vs Q E hr h=>?_)
 ·obtain ⟨vh,u,hd,ns,ks,rfl,_⟩:=h;rfl
 obtain ⟨vh,u,hd,ns,ks,rfl,hh,⟨a,rfl,ha⟩,hl,hk,q⟩:=h
 refine ⟨_,(aF (aL (bD bI (by rfl) T.cB bQ (aB (bZ (N:=["name","head"]) (by trivial) (cX (aG pK) rfl (by decide +kernel)) rfl (aW6 (vv 1)) (fun cl s' H' fp=>⟨(aN (i:=0) (show (["name","head"]:List Str).Nodup from by decide +kernel) rfl (Or.inl rfl)),cI,(bC (aB (vv 0) (aB (aJ (gG.mono (by decide)) hr (by rfl) (aB (vv 1) (aB (vv 0) aA))) aA)))⟩)) aA)))),?_⟩
 have hln:=hk.len
 dsimp only [aAs,tCB,fP]
 refine qI (ns.map V.str) (eN K (ns.zip ks)) eN.st eN.su [none,some vh] ?_ (small (by rw [List.length_map];exact hl)) (fun R r=>aWz ha (fun R' r'=>⟨_,rfl,r'⟩) R r) (fun i x ex H' R l sm r=>?_) rfl fun D H' ys sm hD hly hR=>?_
 ·exact cY 0 (by decide +kernel) rfl rfl (by trivial)
 ·obtain ⟨n,hn,rfl⟩:=eO ex
  obtain ⟨k,hkk,hlk⟩:=bN hk hn
  exact ⟨_,rfl,_,rfl,_,rfl,_,_,hd,k,rfl,hh.same sm,hlk,(by show 2≤sizeLine;decide),fun p H2 _ s2 g2=>r _ _ s2 ⟨(n,k),p,aMe hn hkk,rfl,g2⟩⟩
 ·refine ⟨D,_,rfl,SqL.of hD,fun t H2 _ s2 g2=>q _ _ (sm.trans s2) (wU (SqT.of g2) ?_ fun i y e=>(hR i y e).st s2)⟩
  rw [hly,List.length_map,List.length_zip]
  lia
def aQj (K:PySem.W.Frag):Sp:=fun vs H Q _=>∃vh u hd ns,vs=[vh,u]∧dB K H vh hd∧(∃a,u=.ref a∧SqT K H a (ns.map V.str))∧ns.length≤1000∧ns.length=hd.length∧∀v H',Same H H'→dB K H' v (List.zipWith (fun n c=>(n,c.2)) ns hd)→Q v H'
theorem aC4 (T:Txt w K mg):Ok P w K mg base 1 "named_head" ["head","names"] (aQj K):=by
 refine Ok.ofV T.aGq aDb (fun vs H Q E h=>?_) (fun f cdv A outer s H vs Q E hr h=>?_)
 ·obtain ⟨vh,u,hd,ns,rfl,_⟩:=h;rfl
 obtain ⟨vh,u,hd,ns,rfl,⟨b,us,rfl,hb,hu⟩,⟨a,rfl,ha⟩,hl,hle,q⟩:=h
 refine ⟨_,(aC (bJ (aP uW (aY bB (by rfl) T.dG cJ (aB (vv 1) aA)) (aY bB (by rfl) T.dG cJ (aB (vv 0) aA)) (aX _)) (aF jP) aW) (aF (aL (bD bI (by rfl) T.cB bQ (aB (bZ (N:=["name","column"]) (by trivial) (dF (by decide +kernel)) rfl (aHo (by rfl) T.aNl (aB (vv 1) (aB (vv 0) aA))) (fun cl s' H' fp=>⟨(iB (K:=K) (n:=2) rfl (bA (aN (i:=0) (show (["name","column"]:List Str).Nodup from by decide +kernel) rfl (Or.inl rfl)) (bA (aN (i:=1) (show (["name","column"]:List Str).Nodup from by decide +kernel) rfl (Or.inl rfl)) cO))),cI,(bC (aB (vv 0) (aB (aK (cZ (K:=K)) (vv 1) aD (fun _ _=>rfl)) aA)))⟩)) aA))))),?_⟩
 have hlu:=hu.len
 refine ⟨_,rfl,_,_,rfl,.inr ha,_,rfl,_,_,rfl,.inr hb,rfl,_,rfl,?_⟩
 have e:(!decide (V.int ((ns.map V.str).length:Nat)=V.int (us.length:Nat)))=false:=by rw [List.length_map,hle,hlu];simp
 rw [e]
 refine aZ ?_
 dsimp only [rU,aAs,tCB,fP]
 refine aP3 (ns.map V.str) us (eN K (List.zipWith (fun n c=>(n,c.2)) ns hd)) eN.st eN.su [none,none] gM (small (by rw [List.length_map];exact hl)) (by rw [List.length_map];lia) (fun R r=>⟨_,rfl,_,rfl,r a b H (Same.refl H) ha hb⟩) (fun i x y ex ey H' R l1 l2 sm r=>?_) rfl rfl fun D H' zs sm hD hlz hR=>?_
 ·obtain ⟨n,hn,rfl⟩:=eO ex
  obtain ⟨c,hc,p,rfl,hp⟩:=bN hu ey
  refine ⟨_,rfl,_,rfl,p,_,1,_,rfl,rfl,sm.aH hp,at1 _ _ _,(by show 2≤sizeLine;decide),fun t H2 _ s2 g2=>r _ _ s2 ⟨(n,c.2),t,?_,rfl,g2⟩⟩
  rw [List.getElem?_zipWith,hn,hc]
 ·refine ⟨D,_,rfl,SqL.of hD,fun t H2 _ s2 g2=>q _ _ (sm.trans s2) (wU (SqT.of g2) ?_ fun i y e=>(hR i y e).st s2)⟩
  rw [hlz,List.length_map,List.length_zipWith]
  lia
def aVv (K:PySem.W.Frag):Sp:=fun vs H Q _=>∃vh vo u hd ho ps ks,vs=[vh,vo,u]∧dB K H vh hd∧dB K H vo ho∧vM K H (lB K H) u ps∧ps.length≤8∧hd.length≤100∧ho.length≤100∧bO (fun p k=>look hd p.1=some k∧look ho p.2=some k) ps ks∧(ps.map (·.1)).Nodup∧(ps.map (·.2)).Nodup ∧
 ∀v H',Same H H'→dB K H' v (hd++ho.filter fun c=>!decide (c.1∈ps.map (·.2)))→Q v H'
theorem nH {n:Str} {ss:List Str}:inV (.str n) (ss.map V.str)=decide (n∈ss):=by
 unfold inV
 rw [Bool.eq_iff_iff,List.any_eq_true,decide_eq_true_eq]
 constructor
 ·rintro ⟨v,hv,e⟩
  obtain ⟨z,hz,rfl⟩:=List.mem_map.mp hv
  have e2:(z == n)=true:=e
  have e3:z=n:=by simpa using e2
  rw [←e3];exact hz
 ·intro h
  refine ⟨.str n,List.mem_map.mpr ⟨n,h,rfl⟩,?_⟩
  show (n == n)=true
  simp
theorem kE {ss:List Str}:(ss.map V.str).all lC=true:=by
 rw [List.all_eq_true]
 intro v hv
 obtain ⟨z,_,rfl⟩:=List.mem_map.mp hv
 rfl
theorem nZ {α:Type} {p:Nat→Bool} {p':α→Bool}:∀{k:Nat} {xs:List α},(∀(i:Nat) (x:α),xs[i]?=some x→p (k+i)=p' x)→sel p k xs=xs.filter p'
 |_,[],_=>rfl
 |k,x::r,h=>by
  have h0:=h 0 x rfl
  rw [Nat.add_zero] at h0
  show (if p k then x::sel p (k+1) r else sel p (k+1) r)=_
  rw [List.filter_cons,h0,nZ (k:=k+1) (xs:=r) fun i y e=>by rw [show k+1+i=k+(i+1) by lia];exact h (i+1) y (by simpa using e)]
theorem aJ6 {α β:Type} {R:α→β→Prop} {p:Nat→Bool} {as:List α} {bs:List β} (h:bO R as bs):∀k,bO R (sel p k as) (sel p k bs):=by
 induction h with
 |nil=>exact fun _=>.nil
 |@cons a b as bs r _ ih=>
  intro k
  show bO R (if p k then a::sel p (k+1) as else sel p (k+1) as) (if p k then b::sel p (k+1) bs else sel p (k+1) bs)
  split
  ·exact .cons r (ih _)
  ·exact ih _
def aEw (ho:Hdr) (ss:List Str) (i:Nat):Bool:=match ho[i]? with
 |some c=>!decide (c.1∈ss)
 |none=>false
theorem aFt (T:Txt w K mg) (kZ:Ok P w K mg base 1 "need_like_kinds" ["kinds","others"] (aFa K)) (gG:Ok P w K mg base 1 "kind_in" ["head","name"] (yS K)) (eZ:Ok P w K mg base 2 "need_unlike" ["names"] (aGz K)) :
  Ok P w K mg base 3 "join_head" ["head","other","pairs"] (aVv K):=by
 refine Ok.ofV T.aH4 rK (fun vs H Q E h=>?_) (fun f cdv A outer s H vs Q E hr h=>?_)
 ·obtain ⟨vh,vo,u,hd,ho,ps,ks,rfl,_⟩:=h;rfl
 obtain ⟨vh,vo,u,hd,ho,ps,ks,rfl,hh,hho,⟨a,us,rfl,ha,hu⟩,hl8,hl1,hl2,hks,nd1,nd2,q⟩:=h
 refine ⟨_,(aC (kW (i0:=3) rK.nd rfl (by trivial) (N:=["pair"]) (by trivial) (dF (by decide +kernel)) rfl (dC (vv 2)) (fun cl s' H' fp=>⟨(aN (i:=0) (show (["pair"]:List Str).Nodup from by decide +kernel) rfl (Or.inl rfl)),cI,(aK (cZ (K:=K)) (vv 0) aD (fun _ _=>rfl))⟩)) (aC (aV (i:=4) rK.nd rfl (by trivial) (bZ (N:=["pair"]) (by trivial) (dF (by decide +kernel)) rfl (dC (vv 2)) (fun cl s' H' fp=>⟨(aN (i:=0) (show (["pair"]:List Str).Nodup from by decide +kernel) rfl (Or.inl rfl)),cI,(aK (cZ (K:=K)) (vv 0) aD (fun _ _=>rfl))⟩))) (aC (eF (aJ (kZ.mono (by decide)) hr (by rfl) (aB (bZ (N:=["name","head"]) (by trivial) (cX (aG jG) rfl (by decide +kernel)) rfl (fJ (vv 3)) (fun cl s' H' fp=>⟨(aN (i:=0) (show (["name","head"]:List Str).Nodup from by decide +kernel) rfl (Or.inl rfl)),cI,(aJ (gG.mono (by decide)) hr (by rfl) (aB (vv 1) (aB (vv 0) aA)))⟩)) (aB (bZ (N:=["name","other"]) (by trivial) (cX (aG jG) rfl (by decide +kernel)) rfl (fJ (vv 4)) (fun cl s' H' fp=>⟨(aN (i:=0) (show (["name","other"]:List Str).Nodup from by decide +kernel) rfl (Or.inl rfl)),cI,(aJ (gG.mono (by decide)) hr (by rfl) (aB (vv 1) (aB (vv 0) aA)))⟩)) aA)))) (aC (eF (aJ (eZ.mono (by decide)) hr (by rfl) (aB (vv 3) aA))) (aC (eF (aJ (eZ.mono (by decide)) hr (by rfl) (aB (vv 4) aA))) (aF (aL (bU pI (vv 0) (bD bI (by rfl) T.cB bQ (aB (bZ (N:=["column","there"]) (by trivial) (cX (aG jG) rfl (by decide +kernel)) rfl (dC (vv 1)) (fun cl s' H' fp=>⟨(aN (i:=0) (show (["column","there"]:List Str).Nodup from by decide +kernel) rfl (Or.inl rfl)),(pX (aP (gO (K:=K)) (aK (cZ (K:=K)) (vv 0) aD (fun _ _=>rfl)) (vv 1) (by with_unfolding_all rfl))),(vv 0)⟩)) aA)))))))))),?_⟩
 have lu:=hu.len
 have lk:=hks.len
 dsimp only [iR,jK]
 refine iV us ((ps.map (·.1)).map V.str) (by rw [List.length_map,List.length_map];lia) [none] nO (small (by lia)) (fun R r=>lG ha (fun R' r'=>⟨_,rfl,r'⟩) R r) (fun i x y ex ey H' R l sm r=>?_) rfl fun D1 H1 s1 g1=>?_
 ·obtain ⟨p,hp,b,rfl,hb,_⟩:=bN hu ex
  obtain ⟨n,hn,rfl⟩:=eO ey
  rw [List.getElem?_map,hp] at hn
  cases hn
  exact ⟨_,rfl,b,_,0,_,rfl,rfl,sm.aH hb,at0 _ _,r H' (Same.refl H')⟩
 dsimp only [bK,iR,jK]
 refine iV us ((ps.map (·.2)).map V.str) (by rw [List.length_map,List.length_map];lia) [none] nO (small (by lia)) (fun R r=>lG (s1.aH ha) (fun R' r'=>⟨_,rfl,r'⟩) R r) (fun i x y ex ey H' R l sm r=>?_) rfl fun D2 H2 s2 g2=>?_
 ·obtain ⟨p,hp,b,rfl,hb,_⟩:=bN hu ex
  obtain ⟨n,hn,rfl⟩:=eO ey
  rw [List.getElem?_map,hp] at hn
  cases hn
  exact ⟨_,rfl,b,_,1,_,rfl,rfl,sm.aH (s1.aH hb),at1 _ _ _,r H' (Same.refl H')⟩
 dsimp only [bK,iR,jK,aNb,rY,fP]
 refine iV ((ps.map (·.1)).map V.str) (ks.map V.str) (by rw [List.length_map,List.length_map,List.length_map];lia) [none,some vh] ?_ (small (by rw [List.length_map,List.length_map];lia)) (fun R r=>aA3 (fun H' sm=>SqL.of (sm _ _ (s2 _ _ g1))) (fun R' r'=>⟨_,rfl,r'⟩) R r) (fun i x y ex ey H' R l sm r=>?_) rfl fun D3 H3 s3 g3=>?_
 ·exact cY 0 (by decide +kernel) rfl rfl (by trivial)
 ·obtain ⟨n,hn,rfl⟩:=eO ex
  obtain ⟨k,hk,rfl⟩:=eO ey
  obtain ⟨p,hp,rfl⟩:∃p,ps[i]?=some p∧n=p.1:=by
   rw [List.getElem?_map] at hn
   cases e:ps[i]? with
   |none=>rw [e] at hn;cases hn
   |some p=>rw [e] at hn;cases hn;exact ⟨p,rfl,rfl⟩
  exact ⟨_,rfl,_,rfl,_,_,hd,k,rfl,hh.same (s1.trans (s2.trans sm)),(mF hks hp hk).1,r H' (Same.refl H')⟩
 refine iV ((ps.map (·.2)).map V.str) (ks.map V.str) (by rw [List.length_map,List.length_map,List.length_map];lia) [none,some vo] ?_ (small (by rw [List.length_map,List.length_map];lia)) (fun R r=>aA3 (fun H' sm=>SqL.of (sm _ _ (s3 _ _ g2))) (fun R' r'=>⟨_,rfl,r'⟩) R r) (fun i x y ex ey H' R l sm r=>?_) rfl fun D4 H4 s4 g4=>?_
 ·exact cY 1 (by decide +kernel) rfl rfl (by trivial)
 ·obtain ⟨n,hn,rfl⟩:=eO ex
  obtain ⟨k,hk,rfl⟩:=eO ey
  obtain ⟨p,hp,rfl⟩:∃p,ps[i]?=some p∧n=p.2:=by
   rw [List.getElem?_map] at hn
   cases e:ps[i]? with
   |none=>rw [e] at hn;cases hn
   |some p=>rw [e] at hn;cases hn;exact ⟨p,rfl,rfl⟩
  exact ⟨_,rfl,_,rfl,_,_,ho,k,rfl,hho.same (s1.trans (s2.trans (s3.trans sm))),(mF hks hp hk).2,r H' (Same.refl H')⟩
 refine ⟨D3,D4,ks,rfl,SqL.of (s4 _ _ g3),SqL.of g4,?_⟩
 have t4:=s1.trans (s2.trans (s3.trans s4))
 refine ⟨_,rfl,D1,_,rfl,SqL.of ((s2.trans (s3.trans s4)) _ _ g1),(by rw [List.length_map];lia),nd1,fun H5 s5=>?_⟩
 refine ⟨_,rfl,D2,_,rfl,SqL.of ((s3.trans (s4.trans s5)) _ _ g2),(by rw [List.length_map];lia),nd2,fun H6 s6=>?_⟩
 have t6:=t4.trans (s5.trans s6)
 have g6:=(s3.trans (s4.trans (s5.trans s6))) _ _ g2
 obtain ⟨b,ws,rfl,hb,hw⟩:=hho
 obtain ⟨c,zs,rfl,hc,hz⟩:=hh
 have lw:=hw.len
 have lz:=hz.len
 refine ⟨_,rfl,?_⟩
 dsimp only [iR,tCB,fP]
 refine aIu ws (aEw ho (ps.map (·.2))) [none,some (.ref D2)] ?_ (small (by lia)) (fun R r=>lG (t6.aH hb) (fun R' r'=>⟨_,rfl,r'⟩) R r) (fun i x ex H' R l sm r=>?_) rfl fun D7 H7 s7 g7=>?_
 ·exact cY 4 (by decide +kernel) rfl rfl (by trivial)
 ·obtain ⟨d,hd',p,rfl,hp⟩:=bN hw ex
  refine ⟨_,rfl,p,_,0,_,rfl,rfl,sm.aH (t6.aH hp),at0 _ _,_,rfl,D2,_,rfl,.inl (SqL.of (sm _ _ g6)),rfl,kE,_,rfl,?_⟩
  have e:aEw ho (ps.map (·.2)) i=!decide (d.1∈ps.map (·.2)):=by unfold aEw;rw [hd']
  rw [nH]
  rw [e] at r
  exact r H' (Same.refl H')
 refine ⟨D7,_,rfl,SqL.of g7,fun t H8 _ s8 g8=>?_⟩
 have t8:=t6.trans (s7.trans s8)
 have lsel:=uJ (aEw ho (ps.map (·.2))) 0 ws
 refine ⟨c,t,_,_,rfl,rfl,t8.aH hc,SqT.of g8,small (by lia),fun r H9 s9 g9=>?_⟩
 refine q _ _ (t8.trans s9) ⟨r,_,rfl,g9,(hz.imp fun _ _ h=>h.same (t8.trans s9)).app ?_⟩
 have e:sel (aEw ho (ps.map (·.2))) 0 ho=ho.filter fun c=>!decide (c.1∈ps.map (·.2)):=nZ fun i x ex=>by
  unfold aEw
  rw [Nat.zero_add,ex]
 rw [←e]
 exact (aJ6 hw 0).imp fun _ _ h=>h.same (t8.trans s9)
def smK (hd:Hdr) (s:Sm):Option Str:=match s.c with
 |none=>some "number"
 |some c=>look hd c
def aVy (K:PySem.W.Frag):Sp:=fun vs H Q _=>∃vh u hd s k,vs=[vh,u]∧dB K H vh hd∧lL K H u s∧smK hd s=some k∧Q (.str k) H
theorem aZk {x:Str} (h:aWt x):decide (V.str x=V.str "count")=false:=by
 rcases h with rfl|rfl|rfl <;> decide +kernel
theorem aIr (T:Txt w K mg) (gG:Ok P w K mg base 1 "kind_in" ["head","name"] (yS K)):Ok P w K mg base 2 "sum_kind" ["head","part"] (aVy K):=by
 refine Ok.ofV T.aMd aIy (fun vs H Q E h=>?_) (fun f cdv A outer s H vs Q E hr h=>?_)
 ·obtain ⟨vh,u,hd,s,k,rfl,_⟩:=h;rfl
 obtain ⟨vh,u,hd,sm,k,rfl,hh,⟨a,rfl,hn,hs⟩,hk,q⟩:=h
 refine ⟨_,(aF (aL (gZ (aP bY (aK aO (vv 1) aD (fun _ _=>rfl)) aQ (aX _)) aQ (aJ (gG.mono (by decide)) hr (by rfl) (aB (vv 0) (aB (aK aO (vv 1) aD (fun _ _=>rfl)) aA)))))),?_⟩
 rcases hs with ⟨e,ec,ha⟩|⟨c,ec,hc,hw,ha⟩
 ·have ek:k = "number":=by
   unfold smK at hk
   rw [ec] at hk
   exact (Option.some.inj hk).symm
  subst ek
  exact ⟨_,rfl,a,_,0,_,rfl,rfl,ha,at0 _ _,rfl,_,rfl,cA q⟩
 ·have hk':look hd c=some k:=by
   unfold smK at hk
   rw [ec] at hk
   exact hk
  refine ⟨_,rfl,a,_,0,_,rfl,rfl,ha,at0 _ _,rfl,_,rfl,?_⟩
  rw [aZk hw]
  exact aZ ⟨_,rfl,_,rfl,a,_,1,_,rfl,rfl,ha,at1 _ _ _,_,_,hd,k,rfl,hh,hk',q⟩
theorem aVk {H:Hp} {u:V} {s:Sm} (h:lL K H u s):∃a x,u=.ref a∧SqT K H a [.str s.wd,x,.str s.new]:=by
 obtain ⟨a,rfl,hn,hs⟩:=h
 rcases hs with ⟨e,ec,ha⟩|⟨c,ec,hc,hw,ha⟩
 ·exact ⟨a,_,rfl,by rw [e];exact ha⟩
 ·exact ⟨a,_,rfl,ha⟩
def zA (hd:Hdr) (ss:List Sm) (js:List Str):Prop:=bO (fun s j=>smK hd s=some j∧(s.wd = "sum"→j≠"word")) ss js
def aVx (K:PySem.W.Frag):Sp:=fun vs H Q _=>∃vh u x hd ns ss ks js,vs=[vh,u,x]∧dB K H vh hd∧aHx K H u ns∧ns.length≤100∧vM K H (lL K H) x ss∧ss.length≤100∧Looks hd ns ks∧zA hd ss js ∧
 ∀v H',Same H H'→dB K H' v (ns.zip ks++(ss.map Sm.new).zip js)→Q v H'
theorem aD0 (T:Txt w K mg) (mD:Ok P w K mg base 2 "keep_head" ["head","names"] (aMr K)) (aMo:Ok P w K mg base 2 "sum_kind" ["head","part"] (aVy K)):Ok P w K mg base 3 "group_head" ["head","names","sums"] (aVx K):=by
 refine Ok.ofV T.aFc iT (fun vs H Q E h=>?_) (fun f cdv A outer s H vs Q E hr h=>?_)
 ·obtain ⟨vh,u,x,hd,ns,ss,ks,js,rfl,_⟩:=h;rfl
 obtain ⟨vh,u,x,hd,ns,ss,ks,js,rfl,hh,hns,hl,⟨a,us,rfl,ha,hu⟩,hl2,hks,hjs,q⟩:=h
 refine ⟨_,(aC (aV (i:=3) iT.nd rfl (by trivial) (aJ (mD.mono (by decide)) hr (by rfl) (aB (vv 0) (aB (vv 1) aA)))) (aC (aV (i:=4) iT.nd rfl (by trivial) (bD bI (by rfl) T.cB bQ (aB (bZ (N:=["part","head"]) (by trivial) (cX (aG mV) rfl (by decide +kernel)) rfl (dC (vv 2)) (fun cl s' H' fp=>⟨(aN (i:=0) (show (["part","head"]:List Str).Nodup from by decide +kernel) rfl (Or.inl rfl)),cI,(bC (aB (aK (cZ (K:=K)) (vv 0) aD (fun _ _=>rfl)) (aB (aJ (aMo.mono (by decide)) hr (by rfl) (aB (vv 1) (aB (vv 0) aA))) aA)))⟩)) aA))) (aC (jA PassesOwn.never rfl (aHo (by rfl) T.aNl (aB (vv 2) (aB (vv 4) aA))) (lM rfl (bA (aN (i:=5) iT.nd rfl (by trivial)) (bA (aN (i:=6) iT.nd rfl (by trivial)) cO))) (aF (bJ (VW.pt (aCi (aP bY (aK aO (vv 5) aD (fun _ _=>rfl)) aQ (aX _)) (aAx (aP bY (aK aO (vv 6) aD (fun _ _=>rfl)) aQ (aX _))))) (aF jP) aW))) (aF (aL (bU pI (vv 3) (vv 4))))))),?_⟩
 have lu:=hu.len
 have lj:=hjs.len
 have lk:=hks.len
 refine ⟨_,rfl,_,rfl,vh,u,hd,ns,ks,rfl,hh,hns,by lia,hks,fun kept H1 s1 hkept=>?_⟩
 dsimp only [bK,iR,jK,tCB,fP]
 refine qI us (eN K ((ss.map Sm.new).zip js)) eN.st eN.su [none,some vh] ?_ (small (by lia)) (fun R r=>lG (s1.aH ha) (fun R' r'=>⟨_,rfl,r'⟩) R r) (fun i y ey H' R l sm r=>?_) rfl fun D H2 ys s2 hD hly hR=>?_
 ·exact cY 0 (by decide +kernel) rfl rfl (by trivial)
 ·obtain ⟨p,hp,hsm⟩:=bN hu ey
  obtain ⟨j,hj,hjk,_⟩:=bN hjs hp
  obtain ⟨b,z,rfl,hb⟩:=aVk hsm
  refine ⟨_,rfl,b,_,2,_,rfl,rfl,sm.aH (s1.aH hb),at2 _ _ _ _,_,rfl,_,rfl,_,_,hd,p,j,rfl,hh.same (s1.trans sm),hsm.same (s1.trans sm),hjk,(by show 2≤sizeLine;decide),fun t H3 _ s3 g3=>r _ _ s3 ⟨(p.new,j),t,aMe (by rw [List.getElem?_map,hp];rfl) hj,rfl,g3⟩⟩
 refine ⟨D,_,rfl,SqL.of hD,fun t H3 _ s3 g3=>?_⟩
 have lz:((ss.map Sm.new).zip js).length=ss.length:=by rw [List.length_zip,List.length_map];lia
 have hmade:dB K H3 (.ref t) ((ss.map Sm.new).zip js):=wU (SqT.of g3) (by rw [hly,lz];exact lu) fun i y e=>(hR i y e).st s3
 have t3:=s1.trans (s2.trans s3)
 dsimp only [bK,iR]
 refine ⟨_,rfl,_,rfl,a,t,us,ys,rfl,t3.aH ha,SqT.of g3,aUu (fun i σ H'=>Same H3 H'∧∃l5 l6,σ=[some vh,some u,some (.ref a),some kept,some (.ref t),l5,l6]) (by rw [hly]) ⟨Same.refl _,_,_,rfl⟩ (fun i σ H' _ ⟨e,_⟩=>⟨e.aH (t3.aH ha),e.aH (SqT.of g3)⟩) ?_ ?_⟩
 ·rintro i σ H' x y Tp H'' ex ey ⟨sm,l5,l6,rfl⟩ hT rfl
  have s4:Same H' (upd H' Tp (.tup [x,y])):=bR hT _
  have t4:=sm.trans s4
  obtain ⟨p,hp,hsm⟩:=bN hu ex
  obtain ⟨j,hj,hjk,hjw⟩:=bN hjs hp
  obtain ⟨b,z,rfl,hb⟩:=aVk hsm
  obtain ⟨c,p2,e1,rfl,g5⟩:=hR i y ey
  have ec:c=(p.new,j):=by
   rw [aMe (n:=p.new) (k:=j) (by rw [List.getElem?_map,hp];rfl) hj] at e1
   exact (Option.some.inj e1).symm
  subst ec
  refine ⟨Tp,_,rfl,SqT.of aU,rfl,_,_,rfl,_,_,rfl,rfl,?_⟩
  refine ⟨_,rfl,b,_,0,_,rfl,rfl,t4.aH (t3.aH hb),at0 _ _,rfl,_,rfl,?_⟩
  refine jJ (fun cs=>?_) (fun cs=>aZ ⟨t4,_,_,rfl⟩)
  have ew:p.wd = "sum":=V.str.inj (of_decide_eq_true cs)
  refine ⟨_,rfl,p2,_,1,_,rfl,rfl,SqT.of (t4 _ _ (s3 _ _ g5)),at1 _ _ _,rfl,_,rfl,?_⟩
  rw [decide_eq_false (by intro zz;exact hjw ew (V.str.inj zz))]
  exact aZ ⟨t4,_,_,rfl⟩
 ·rintro σ H' ⟨sm,l5,l6,rfl⟩
  obtain ⟨c,zs,rfl,hc,hz⟩:=hkept
  obtain ⟨c2,zs2,e2,hc2,hz2⟩:=hmade
  cases e2
  have l1:=hz.len
  have l2:=hz2.len
  have l3:(ns.zip ks).length≤100:=by rw [List.length_zip];lia
  refine ⟨_,rfl,_,rfl,c,t,_,_,rfl,rfl,(s2.trans (s3.trans sm)).aH hc,sm.aH hc2,small (by lia),fun r H5 s5 g5=>?_⟩
  refine q _ _ (t3.trans (sm.trans s5)) ⟨r,_,rfl,g5,(hz.imp fun _ _ h=>h.same (s2.trans (s3.trans (sm.trans s5)))).app (hz2.imp fun _ _ h=>h.same (sm.trans s5))⟩
def aVl (K:PySem.W.Frag):Sp:=fun vs H Q _=>∃vh u hd ps ks,vs=[vh,u]∧dB K H vh hd∧vM K H (oF K H) u ps∧ps.length≤100∧Looks hd (ps.map (·.1)) ks∧(ps.map (·.1)).Nodup∧∀H',Same H H'→Q vh H'
theorem aCz (T:Txt w K mg) (mD:Ok P w K mg base 2 "keep_head" ["head","names"] (aMr K)) (eZ:Ok P w K mg base 2 "need_unlike" ["names"] (aGz K)):Ok P w K mg base 3 "first_head" ["head","keys"] (aVl K):=by
 refine Ok.ofV T.aGy uU (fun vs H Q E h=>?_) (fun f cdv A outer s H vs Q E hr h=>?_)
 ·obtain ⟨vh,u,hd,ps,ks,rfl,_⟩:=h;rfl
 obtain ⟨vh,u,hd,ps,ks,rfl,hh,⟨a,us,rfl,ha,hu⟩,hl,hks,nd,q⟩:=h
 refine ⟨_,(aC (kW (i0:=2) uU.nd rfl (by trivial) (N:=["key"]) (by trivial) (dF (by decide +kernel)) rfl (dC (vv 1)) (fun cl s' H' fp=>⟨(aN (i:=0) (show (["key"]:List Str).Nodup from by decide +kernel) rfl (Or.inl rfl)),cI,(aK (cZ (K:=K)) (vv 0) aD (fun _ _=>rfl))⟩)) (aC (eF (aJ (mD.mono (by decide)) hr (by rfl) (aB (vv 0) (aB (vv 2) aA)))) (aC (eF (aJ (eZ.mono (by decide)) hr (by rfl) (aB (vv 2) aA))) (aF (aL (vv 0)))))),?_⟩
 have lu:=hu.len
 dsimp only [bK,iR,jK]
 refine iV us ((ps.map (·.1)).map V.str) (by rw [List.length_map,List.length_map];lia) [none] nO (small (by lia)) (fun R r=>lG ha (fun R' r'=>⟨_,rfl,r'⟩) R r) (fun i x y ex ey H' R l sm r=>?_) rfl fun D1 H1 s1 g1=>?_
 ·obtain ⟨p,hp,b,rfl,hb,_⟩:=bN hu ex
  obtain ⟨n,hn,rfl⟩:=eO ey
  rw [List.getElem?_map,hp] at hn
  cases hn
  exact ⟨_,rfl,b,_,0,_,rfl,rfl,sm.aH hb,at0 _ _,r H' (Same.refl H')⟩
 refine ⟨_,rfl,_,rfl,vh,_,hd,_,ks,rfl,hh.same s1,⟨D1,rfl,.inl (SqL.of g1)⟩,by rw [List.length_map];lia,hks,fun v H2 s2 _=>?_⟩
 refine ⟨_,rfl,D1,_,rfl,SqL.of (s2 _ _ g1),by rw [List.length_map];lia,nd,fun H3 s3=>?_⟩
 exact ⟨_,rfl,q H3 (s1.trans (s2.trans s3))⟩
def Good (hd:Hdr):Prop:=(hd.map (·.1)).Nodup∧1≤hd.length∧hd.length≤8
inductive HH (hs:Str→Option Hdr):Qn→List Hdr→Hdr→Prop
 |table {T hd}:hs T=some hd→HH hs (.table T) [] hd
 |whr {q ts hd}:(∀t∈ts,eX hd t)→HH hs (.whr q ts) [hd] hd
 |keep {q ns hd ks}:Looks hd ns ks→HH hs (.keep q ns) [hd] (ns.zip ks)
 |nmd {q ns hd}:ns.length=hd.length→HH hs (.nmd q ns) [hd] (List.zipWith (fun n c=>(n,c.2)) ns hd)
 |join {q r ps hd ho ks}:bO (fun p k=>look hd p.1=some k∧look ho p.2=some k) ps ks→(ps.map (·.1)).Nodup→(ps.map (·.2)).Nodup→HH hs (.join q r ps) [hd,ho] (hd++ho.filter fun c=>!decide (c.1∈ps.map (·.2)))
 |group {q ns ss hd ks js}:Looks hd ns ks→zA hd ss js→HH hs (.group q ns ss) [hd] (ns.zip ks++(ss.map Sm.new).zip js)
 |first {q ps m hd ks}:Looks hd (ps.map (·.1)) ks→(ps.map (·.1)).Nodup→HH hs (.first q ps m) [hd] hd
def fG (K:PySem.W.Frag) (H:Hp) (d:Addr) (hs:Str→Option Hdr):Prop:=∃kvs,H d=some (.dK kvs)∧∀n hd,hs n=some hd→∃v,mC kvs (Sum.inr n)=some v∧dB K H v hd
theorem fG.same {H H':Hp} {d:Addr} {hs:Str→Option Hdr} (e:Same H H') (h:fG K H d hs):fG K H' d hs:=by
 obtain ⟨kvs,hd,hh⟩:=h
 refine ⟨kvs,e _ _ hd,fun n hd hn=>?_⟩
 obtain ⟨v,h1,h2⟩:=hh n hd hn
 exact ⟨v,h1,h2.same e⟩
def aVp (K:PySem.W.Frag):Sp:=fun vs H Q _=>∃d v x us hs q ihds hd,vs=[.ref d,v,.ref x]∧fG K H d hs∧IsQ K H v q∧SqL K H x us∧bO (dB K H) us ihds∧(∀h∈ihds,h.length≤100)∧HH hs q ihds hd∧∀v' H',Same H H'→dB K H' v' hd→Q v' H'
theorem aFj (T:Txt w K mg) (aFo:Ok P w K mg base 1 "table_head" ["heads","name"] aVj) (aE3:Ok P w K mg base 4 "where_head" ["head","tests"] (aVc K)) (mD:Ok P w K mg base 2 "keep_head" ["head","names"] (aMr K))
  (aGw:Ok P w K mg base 1 "named_head" ["head","names"] (aQj K)) (aIb:Ok P w K mg base 3 "join_head" ["head","other","pairs"] (aVv K)) (aF9:Ok P w K mg base 3 "group_head" ["head","names","sums"] (aVx K))
  (aHk:Ok P w K mg base 3 "first_head" ["head","keys"] (aVl K)):Ok P w K mg base 5 "head_here" ["heads","question","inner"] (aVp K):=by
 refine Ok.ofV T.aIj wJ (fun vs H Q E h=>?_) (fun f cdv A outer s H vs Q E hr h=>?_)
 ·obtain ⟨d,v,x,us,hs,q,ihds,hd,rfl,_⟩:=h;rfl
 obtain ⟨d,v,x,us,hs,q0,ihds,hd,rfl,hds,hq,hx,hu,hlen,hh,q⟩:=h
 refine ⟨_,(aC (aV (i:=3) wJ.nd rfl (by trivial) (aK aO (vv 1) aD (fun _ _=>rfl))) (aC (bJ (aP bY (vv 3) aQ (aX _)) (aF (aL (aJ (aFo.mono (by decide)) hr (by rfl) (aB (vv 0) (aB (aK aO (vv 1) aD (fun _ _=>rfl)) aA))))) aW) (aC (bJ (aP bY (vv 3) aQ (aX _)) (aF (aL (aJ (aE3.mono (by decide)) hr (by rfl) (aB (aK cG (vv 2) aD (fun _ _=>rfl)) (aB (aK aO (vv 1) aD (fun _ _=>rfl)) aA))))) aW) (aC (bJ (aP bY (vv 3) aQ (aX _)) (aF (aL (aJ (mD.mono (by decide)) hr (by rfl) (aB (aK cG (vv 2) aD (fun _ _=>rfl)) (aB (aK aO (vv 1) aD (fun _ _=>rfl)) aA))))) aW) (aC (bJ (aP bY (vv 3) aQ (aX _)) (aF (aL (aJ (aGw.mono (by decide)) hr (by rfl) (aB (aK cG (vv 2) aD (fun _ _=>rfl)) (aB (aK aO (vv 1) aD (fun _ _=>rfl)) aA))))) aW) (aC (bJ (aP bY (vv 3) aQ (aX _)) (aF (aL (aJ (aIb.mono (by decide)) hr (by rfl) (aB (aK cG (vv 2) aD (fun _ _=>rfl)) (aB (aK cG (vv 2) aD (fun _ _=>rfl)) (aB (aK aO (vv 1) aD (fun _ _=>rfl)) aA)))))) aW) (aC (bJ (aP bY (vv 3) aQ (aX _)) (aF (aL (aJ (aF9.mono (by decide)) hr (by rfl) (aB (aK cG (vv 2) aD (fun _ _=>rfl)) (aB (aK aO (vv 1) aD (fun _ _=>rfl)) (aB (aK aO (vv 1) aD (fun _ _=>rfl)) aA)))))) aW) (aF (aL (aJ (aHk.mono (by decide)) hr (by rfl) (aB (aK cG (vv 2) aD (fun _ _=>rfl)) (aB (aK aO (vv 1) aD (fun _ _=>rfl)) aA)))))))))))),?_⟩
 cases hh with
 |table hT=>
  cases hq with
  |table a b=>
   obtain ⟨kvs,hd',hmem⟩:=hds
   obtain ⟨v',hv',hI⟩:=hmem _ _ hT
   refine ⟨_,rfl,_,_,0,_,rfl,rfl,a,at0 _ _,?_⟩
   exact ⟨_,rfl,rfl,_,rfl,cA ⟨_,rfl,_,rfl,_,_,1,_,rfl,rfl,a,at1 _ _ _,d,_,v',kvs,rfl,hd',hv',q _ _ (Same.refl H) hI⟩⟩
 |whr ht=>
  cases hq with
  |whr a b c=>
   cases hu with
   |cons h1 t1=>
    cases t1
    refine ⟨_,rfl,_,_,0,_,rfl,rfl,a,at0 _ _,?_⟩
    refine ⟨_,rfl,rfl,_,rfl,aZ ⟨_,rfl,rfl,_,rfl,cA ?_⟩⟩
    exact ⟨_,rfl,x,_,0,_,rfl,rfl,hx,at0 _ _,_,rfl,_,_,2,_,rfl,rfl,a,at2 _ _ _ _,_,_,_,_,rfl,h1,c.1,by have:=c.2.2;lia,ht,fun H' s'=>q _ _ s' (h1.same s')⟩
 |keep hk=>
  cases hq with
  |keep a b c=>
   cases hu with
   |cons h1 t1=>
    cases t1
    refine ⟨_,rfl,_,_,0,_,rfl,rfl,a,at0 _ _,?_⟩
    refine ⟨_,rfl,rfl,_,rfl,aZ ⟨_,rfl,rfl,_,rfl,aZ ⟨_,rfl,rfl,_,rfl,cA ?_⟩⟩⟩
    exact ⟨_,rfl,x,_,0,_,rfl,rfl,hx,at0 _ _,_,rfl,_,_,2,_,rfl,rfl,a,at2 _ _ _ _,_,_,_,_,_,rfl,h1,aMi c,by have:=c.2.2;lia,hk,fun v' H' s' h'=>q _ _ s' h'⟩
 |nmd hl=>
  cases hq with
  |nmd a b c=>
   cases hu with
   |cons h1 t1=>
    cases t1
    obtain ⟨⟨n,ws,rfl,hn,hw⟩,c1,c2⟩:=c
    rw [aHh hw] at hn
    refine ⟨_,rfl,_,_,0,_,rfl,rfl,a,at0 _ _,?_⟩
    refine ⟨_,rfl,rfl,_,rfl,aZ ⟨_,rfl,rfl,_,rfl,aZ ⟨_,rfl,rfl,_,rfl,aZ ⟨_,rfl,rfl,_,rfl,cA ?_⟩⟩⟩⟩
    exact ⟨_,rfl,x,_,0,_,rfl,rfl,hx,at0 _ _,_,rfl,_,_,2,_,rfl,rfl,a,at2 _ _ _ _,_,_,_,_,rfl,h1,⟨n,rfl,hn⟩,by lia,hl,fun v' H' s' h'=>q _ _ s' h'⟩
 |join hk n1 n2=>
  cases hq with
  |join a b c e=>
   cases hu with
   |cons h1 t1=>
    cases t1 with
    |cons h2 t2=>
     cases t2
     refine ⟨_,rfl,_,_,0,_,rfl,rfl,a,at0 _ _,?_⟩
     refine ⟨_,rfl,rfl,_,rfl,aZ ⟨_,rfl,rfl,_,rfl,aZ ⟨_,rfl,rfl,_,rfl,aZ ⟨_,rfl,rfl,_,rfl,aZ ⟨_,rfl,rfl,_,rfl,cA ?_⟩⟩⟩⟩⟩
     exact ⟨_,rfl,x,_,0,_,rfl,rfl,hx,at0 _ _,_,rfl,x,_,1,_,rfl,rfl,hx,at1 _ _ _,_,rfl,_,_,3,_,rfl,rfl,a,cD (j:=3) rfl,_,_,_,_,_,_,_,rfl,h1,h2,e.1,by have:=e.2.2;lia,hlen _ (by simp),hlen _ (by simp),hk,n1,n2,fun v' H' s' h'=>q _ _ s' h'⟩
 |group hk hj=>
  cases hq with
  |group a b c e=>
   cases hu with
   |cons h1 t1=>
    cases t1
    refine ⟨_,rfl,_,_,0,_,rfl,rfl,a,at0 _ _,?_⟩
    refine ⟨_,rfl,rfl,_,rfl,aZ ⟨_,rfl,rfl,_,rfl,aZ ⟨_,rfl,rfl,_,rfl,aZ ⟨_,rfl,rfl,_,rfl,aZ ⟨_,rfl,rfl,_,rfl,aZ ⟨_,rfl,rfl,_,rfl,cA ?_⟩⟩⟩⟩⟩⟩
    exact ⟨_,rfl,x,_,0,_,rfl,rfl,hx,at0 _ _,_,rfl,_,_,2,_,rfl,rfl,a,at2 _ _ _ _,_,rfl,_,_,3,_,rfl,rfl,a,cD (j:=3) rfl,_,_,_,_,_,_,_,_,rfl,h1,aMi c,by have:=c.2.2;lia,e.1,by have:=e.2.2;lia,hk,hj,fun v' H' s' h'=>q _ _ s' h'⟩
 |first hk nd=>
  cases hq with
  |first a b c e=>
   cases hu with
   |cons h1 t1=>
    cases t1
    refine ⟨_,rfl,_,_,0,_,rfl,rfl,a,at0 _ _,?_⟩
    refine ⟨_,rfl,rfl,_,rfl,aZ ⟨_,rfl,rfl,_,rfl,aZ ⟨_,rfl,rfl,_,rfl,aZ ⟨_,rfl,rfl,_,rfl,aZ ⟨_,rfl,rfl,_,rfl,aZ ⟨_,rfl,rfl,_,rfl,aZ ?_⟩⟩⟩⟩⟩⟩
    exact ⟨_,rfl,x,_,0,_,rfl,rfl,hx,at0 _ _,_,rfl,_,_,2,_,rfl,rfl,a,at2 _ _ _ _,_,_,_,_,_,rfl,h1,c.1,by have:=c.2.2;lia,hk,nd,fun H' s'=>q _ _ s' (h1.same s')⟩
inductive HQ (hs:Str→Option Hdr):Qn→Hdr→Prop
 |mk0 {q hd}:kids q=[]→HH hs q [] hd→Good hd→HQ hs q hd
 |mk1 {q k h1 hd}:kids q=[k]→HQ hs k h1→HH hs q [h1] hd→Good hd→HQ hs q hd
 |mk2 {q k l h1 h2 hd}:kids q=[k,l]→HQ hs k h1→HQ hs l h2→HH hs q [h1,h2] hd→Good hd→HQ hs q hd
theorem HQ.good {hs:Str→Option Hdr} {q:Qn} {hd:Hdr} (h:HQ hs q hd):Good hd:=by cases h <;> assumption
theorem HQ.in {hs:Str→Option Hdr} {q:Qn} {hd:Hdr} (h:HQ hs q hd):∃ihds,bO (HQ hs) (kids q) ihds∧HH hs q ihds hd∧Good hd:=by
 cases h with
 |mk0 e a b=>exact ⟨[],by rw [e];exact .nil,a,b⟩
 |mk1 e k a b=>exact ⟨[_],by rw [e];exact .cons k .nil,a,b⟩
 |mk2 e k l a b=>exact ⟨[_,_],by rw [e];exact .cons k (.cons l .nil),a,b⟩
def aHm (K:PySem.W.Frag):Sp:=fun vs H Q _=>∃v hd,vs=[v]∧dB K H v hd∧hd.length≤1000∧∀D H',Same H H'→H' D=some (.lst ((hd.map (·.1)).map V.str))→Q (.ref D) H'
theorem wG (T:Txt w K mg):Ok P w K mg base 1 "names_of" ["head"] (aHm K):=by
 refine Ok.ofV T.aLh aI5 (fun vs H Q E h=>?_) (fun f cdv A outer s H vs Q E hr h=>?_)
 ·obtain ⟨v,hd,rfl,_⟩:=h;rfl
 obtain ⟨v,hd,rfl,⟨a,us,rfl,ha,hu⟩,hl,q⟩:=h
 refine ⟨_,(aF (aL (bZ (N:=["column"]) (by trivial) (dF (by decide +kernel)) rfl (dC (vv 0)) (fun cl s' H' fp=>⟨(aN (i:=0) (show (["column"]:List Str).Nodup from by decide +kernel) rfl (Or.inl rfl)),cI,(aK (cZ (K:=K)) (vv 0) aD (fun _ _=>rfl))⟩)))),?_⟩
 have lu:=hu.len
 refine iV us ((hd.map (·.1)).map V.str) (by rw [List.length_map,List.length_map];lia) [none] nO (small (by lia)) (fun R r=>lG ha (fun R' r'=>⟨_,rfl,r'⟩) R r) (fun i x y ex ey H' R l sm r=>?_) rfl fun D H' sm hD=>q D H' sm hD
 obtain ⟨c,hc,p,rfl,hp⟩:=bN hu ex
 obtain ⟨n,hn,rfl⟩:=eO ey
 rw [List.getElem?_map,hc] at hn
 cases hn
 exact ⟨_,rfl,p,_,0,_,rfl,rfl,sm.aH hp,at0 _ _,r H' (Same.refl H')⟩
def aVm (K:PySem.W.Frag) (n:Nat):Sp:=fun vs H Q _=>∃d v hs q hd,vs=[.ref d,v]∧fG K H d hs∧IsQ K H v q∧size q≤n∧HQ hs q hd∧∀v' H',Same H H'→dB K H' v' hd→Q v' H'
theorem aEq {k:Qn}:∀{qs:List Qn},k∈qs→size k≤sizes qs
 |q::qs,h=>by
  show size k≤(((q::qs).map size).sum)
  rw [List.map_cons,List.sum_cons]
  rcases List.mem_cons.mp h with rfl|h
  ·lia
  ·have:=aEq h
   unfold sizes at this
   lia
theorem cQ {q k:Qn} (h:k∈kids q) {K:PySem.W.Frag} {H:Hp} {v:V} (hq:IsQ K H v q):size k<size q:=by
 have e:=jQ q
 have o:=nG hq
 have:size k≤sizes (kids q):=by
  exact aEq h
 lia
theorem aCj {α:Type} {l:List α} {i:Nat} {x:α} (h:l[i]?=some x):x∈l:=List.mem_of_getElem? h
theorem tK (T:Txt w K mg) (cL:Ok P w K mg base 1 "questions_in" ["question"] (aKd K)) (aAj:Ok P w K mg base 5 "head_here" ["heads","question","inner"] (aVp K)) (eZ:Ok P w K mg base 2 "need_unlike" ["names"] (aGz K)) (jB:Ok P w K mg base 1 "names_of" ["head"] (aHm K)) :
  ∀n:Nat,Ok P w K mg base (n+6) "head_within" ["heads","question"] (aVm K n)
 |0=>by
  refine Ok.ofV T.uY kO (fun vs H Q E h=>?_) (fun f cdv A outer s H vs Q E hr h=>?_)
  ·obtain ⟨d,v,hs,q,hd,rfl,_⟩:=h;rfl
  ·obtain ⟨d,v,hs,q,hd,rfl,_,hq,hz,_⟩:=h
   have e:=jQ q
   have o:=nG hq
   lia
 |n+1=>by
  have pO:=tK T cL aAj eZ jB n
  refine Ok.ofV T.uY kO (fun vs H Q E h=>?_) (fun f cdv A outer s H vs Q E hr h=>?_)
  ·obtain ⟨d,v,hs,q,hd,rfl,_⟩:=h;rfl
  obtain ⟨d,v,hs,q0,hd,rfl,hds,hq,hz,hh,q⟩:=h
  obtain ⟨ihds,hin,hone,hgood⟩:=hh.in
  refine ⟨_,(aC (kW (i0:=2) kO.nd rfl (by trivial) (N:=["part","heads"]) (by trivial) (cX (aG lY) rfl (by decide +kernel)) rfl (fJ (aJ (cL.mono (by lia)) hr (by rfl) (aB (vv 1) aA))) (fun cl s' H' fp=>⟨(aN (i:=0) (show (["part","heads"]:List Str).Nodup from by decide +kernel) rfl (Or.inl rfl)),cI,(aJ (pO.mono (by lia)) hr (by rfl) (aB (vv 1) (aB (vv 0) aA)))⟩)) (aC (aV (i:=3) kO.nd rfl (by trivial) (aJ (aAj.mono (by lia)) hr (by rfl) (aB (vv 0) (aB (vv 1) (aB (vv 2) aA))))) (aC (eF (aJ (eZ.mono (by lia)) hr (by rfl) (aB (aJ (jB.mono (by lia)) hr (by rfl) (aB (vv 3) aA)) aA))) (aC (bJ (jE (aIz aEb aEb aD (aY bB (by rfl) T.dG cJ (aB (vv 3) aA)) (gQ (by rfl) T.aCe))) (aF jP) aW) (aF (aL (vv 3))))))),?_⟩
  have l2:=hin.len
  have lk:(kids q0).length≤2:=by cases q0 <;> simp [kids]
  dsimp only [iR,jK]
  refine uH (K:=K) (fun us=>bO (IsQ K H) us (kids q0)) (fun i H y=>∃h,ihds[i]?=some h∧dB K H y h) (fun e h=>?_) (fun e h=>?_) [none,some (.ref d)] ?_ rfl (fun R r=>⟨_,rfl,v,q0,H,rfl,Same.refl H,hq,fun D H1 us fD s1 gD hus=>r D H1 us s1 gD hus⟩) (fun us hus=>small (by have:=hus.len;lia)) (fun us hus i x ex H' R l sm r=>?_) fun us hus D2 H2 ys t2 g2 hly hR=>?_
  ·obtain ⟨h,h1,h2⟩:=h
   exact ⟨h,h1,h2.same e⟩
  ·obtain ⟨h,h1,⟨a,vs,rfl,ha,hv⟩⟩:=h
   exact ⟨h,h1,a,vs,rfl,ha.dO e,hv.imp fun _ _ ⟨p,ep,hp⟩=>⟨p,ep,hp.dO e⟩⟩
  ·exact cY 0 (by decide +kernel) rfl rfl (by trivial)
  ·obtain ⟨k,hk,hkq⟩:=bN hus ex
   obtain ⟨h,hh',hkh⟩:=bN hin hk
   have hkz:=cQ (aCj hk) hq
   exact ⟨_,rfl,_,rfl,d,x,hs,k,h,rfl,hds.same sm,hkq.same sm,by lia,hkh,fun v' H3 s3 h3=>r _ _ s3 ⟨h,hh',h3⟩⟩
  have l1:=hus.len
  have hall:bO (dB K H2) ys ihds:=aA0 (by lia) fun i y h e1 e2=>by
   obtain ⟨h',e3,q3⟩:=hR i y e1
   rw [e2] at e3
   cases e3
   exact q3
  have hl100:∀h∈ihds,h.length≤100:=fun h hm=>by
   obtain ⟨i,hi,e⟩:=List.getElem_of_mem hm
   have hi':i<(kids q0).length:=by lia
   have:=(mF hin (List.getElem?_eq_getElem hi') (by rw [List.getElem?_eq_getElem hi,e])).good
   have:=this.2.2
   lia
  refine ⟨_,rfl,_,rfl,_,rfl,d,v,D2,ys,hs,q0,ihds,hd,rfl,hds.same t2,hq.same t2,SqL.of g2,hall,hl100,hone,fun v' H3 s3 h3=>?_⟩
  obtain ⟨g1,g2',g3⟩:=hgood
  refine ⟨_,rfl,v',hd,rfl,h3,by lia,fun D4 H4 s4 g4=>?_⟩
  refine ⟨D4,hd.map (·.1),rfl,SqL.of g4,(by rw [List.length_map];lia),g1,fun H5 s5=>?_⟩
  obtain ⟨a,zs,rfl,ha,hz'⟩:=h3
  have lz:=hz'.len
  refine ⟨_,rfl,_,_,rfl,.inr ((s4.trans s5).aH ha),_,_,rfl,rfl,_,rfl,?_⟩
  have e1:decide ((1:Int)≤(zs.length:Int))=true:=decide_eq_true (by lia)
  have e2:decide ((zs.length:Int)≤8)=true:=decide_eq_true (by lia)
  rw [e1]
  refine cA ⟨_,_,rfl,rfl,_,rfl,?_⟩
  rw [e2]
  exact aZ ⟨_,rfl,q _ _ (t2.trans (s3.trans (s4.trans s5))) ⟨a,zs,rfl,(s4.trans s5).aH ha,hz'.imp fun _ _ h=>h.same (s4.trans s5)⟩⟩
def aJb (K:PySem.W.Frag):Sp:=fun vs H Q _=>∃d v hs q hd,vs=[.ref d,v]∧fG K H d hs∧IsQ K H v q∧size q≤20∧HQ hs q hd∧∀v' H',Same H H'→dB K H' v' hd→Q v' H'
theorem aK2 (T:Txt w K mg) (pO:Ok P w K mg base 26 "head_within" ["heads","question"] (aVm K 20)) (aPx:Ok P w K mg base 8 "checked" ["thing"] (aQi K)):Ok P w K mg base 27 "head_of" ["heads","question"] (aJb K):=by
 refine Ok.ofV T.aP4 aLu (fun vs H Q E h=>?_) (fun f cdv A outer s H vs Q E hr h=>?_)
 ·obtain ⟨d,v,hs,q,hd,rfl,_⟩:=h;rfl
 obtain ⟨d,v,hs,q0,hd,rfl,hds,hq,hz,hh,q⟩:=h
 refine ⟨_,(aF (aL (aJ (pO.mono (by decide)) hr (by rfl) (aB (vv 0) (aB (aJ (aPx.mono (by decide)) hr (by rfl) (aB (vv 1) aA)) aA))))),?_⟩
 exact ⟨_,rfl,_,rfl,v,q0,rfl,hq,hz,fun H1 s1=>⟨d,v,hs,q0,hd,rfl,hds.same s1,hq.same s1,hz,hh,fun v' H2 s2 h2=>q _ _ (s1.trans s2) h2⟩⟩
theorem iU:∀{ns:List Str} {hd:Hdr},ns.length=hd.length→(List.zipWith (fun n c=>(n,c.2)) ns hd).map (·.1)=ns
 |[],[],_=>rfl
 |n::ns,c::hd,h=>by rw [List.zipWith_cons_cons,List.map_cons,iU (by simpa using h)]
theorem aBl:∀{ns:List Str} {hd:Hdr} {x:Str × Str},x∈List.zipWith (fun n c=>(n,c.2)) ns hd→x.1∈ns∧∃c∈hd,x.2=c.2
 |[],_,x,h=>by simp at h
 |_::_,[],x,h=>by simp at h
 |n::ns,c::hd,x,h=>by
  rw [List.zipWith_cons_cons] at h
  rcases List.mem_cons.mp h with rfl|h
  ·exact ⟨List.mem_cons_self ..,c,List.mem_cons_self ..,rfl⟩
  ·obtain ⟨h1,c',h2,h3⟩:=aBl h
   exact ⟨List.mem_cons_of_mem _ h1,c',List.mem_cons_of_mem _ h2,h3⟩
theorem jO {hd:Hdr} (nd:(hd.map (·.1)).Nodup) {c:Str × Str} (h:c∈hd):look hd c.1=some c.2:=by
 induction hd with
 |nil=>cases h
 |cons x r ih=>
  rw [List.map_cons,List.nodup_cons] at nd
  unfold look
  rw [List.find?_cons]
  rcases List.mem_cons.mp h with rfl|h
  ·rw [decide_eq_true rfl];rfl
  ·have ne:¬ x.1=c.1:=fun z=>nd.1 (by rw [z];exact List.mem_map.mpr ⟨c,h,rfl⟩)
   rw [decide_eq_false ne]
   exact ih nd.2 h
def bL (t:Tst):List Str:=match t.o with
 |.col d=>[t.c,d]
 |.val _=>[t.c]
def aYk (f:Str→Str):Oth→Oth
 |.col d=>.col (f d)
 |.val v=>.val v
def aL4 (f:Str→Str) (t:Tst):Tst:=⟨f t.c,t.sg,aYk f t.o⟩
def oW (hs:Str→Option Hdr):Qn→Hdr
 |.table T=>(hs T).getD []
 |.whr q _=>oW hs q
 |.keep q ns=>ns.map fun n=>(n,(look (oW hs q) n).getD "")
 |.nmd q ns=>List.zipWith (fun n c=>(n,c.2)) ns (oW hs q)
 |.join q r ps=>oW hs q++(oW hs r).filter fun c=>!decide (c.1∈ps.map (·.2))
 |.group q ns ss=>(ns.map fun n=>(n,(look (oW hs q) n).getD ""))++ss.map fun s=>(s.new,(smK (oW hs q) s).getD "")
 |.first q _ _=>oW hs q
def cH (hs:Str→Option Hdr) (q:Qn):List Str:=(oW hs q).map (·.1)
theorem aEs {hd:Hdr} {ns ks:List Str} (h:Looks hd ns ks):ns.zip ks=ns.map fun n=>(n,(look hd n).getD ""):=by
 induction h with
 |nil=>rfl
 |cons r _ ih=>
  rw [List.zip_cons_cons,List.map_cons,ih,r]
  rfl
theorem aQw {hd:Hdr} {ss:List Sm} {js:List Str} (h:zA hd ss js):(ss.map Sm.new).zip js=ss.map fun s=>(s.new,(smK hd s).getD ""):=by
 induction h with
 |nil=>rfl
 |cons r _ ih=>
  rw [List.map_cons,List.zip_cons_cons,List.map_cons,ih,r.1]
  rfl
theorem iD {hs:Str→Option Hdr}:∀{q:Qn} {hd:Hdr},HQ hs q hd→oW hs q=hd:=by
 intro q
 induction q with
 |table T=>
  intro hd h
  obtain ⟨ihds,hk,hh,_⟩:=h.in
  cases hk
  cases hh with
  |table e=>show (hs T).getD []=_;rw [e];rfl
 |whr q ts ih=>
  intro hd h
  obtain ⟨ihds,hk,hh,_⟩:=h.in
  cases hk with
  |cons r t=>
   cases t
   cases hh
   exact ih r
 |keep q ns ih=>
  intro hd h
  obtain ⟨ihds,hk,hh,_⟩:=h.in
  cases hk with
  |cons r t=>
   cases t
   cases hh with
   |keep l=>show (ns.map fun n=>(n,(look (oW hs q) n).getD ""))=_;rw [ih r,aEs l]
 |nmd q ns ih=>
  intro hd h
  obtain ⟨ihds,hk,hh,_⟩:=h.in
  cases hk with
  |cons r t=>
   cases t
   cases hh with
   |nmd l=>show List.zipWith _ ns (oW hs q)=_;rw [ih r]
 |join q r ps ih1 ih2=>
  intro hd h
  obtain ⟨ihds,hk,hh,_⟩:=h.in
  cases hk with
  |cons r1 t=>
   cases t with
   |cons r2 t2=>
    cases t2
    cases hh with
    |join l n1 n2=>show oW hs q++_=_;rw [ih1 r1,ih2 r2]
 |group q ns ss ih=>
  intro hd h
  obtain ⟨ihds,hk,hh,_⟩:=h.in
  cases hk with
  |cons r t=>
   cases t
   cases hh with
   |group l j=>show (ns.map fun n=>(n,(look (oW hs q) n).getD ""))++(ss.map fun s=>(s.new,(smK (oW hs q) s).getD ""))=_;rw [ih r,aEs l,aQw j]
 |first q ks m ih=>
  intro hd h
  obtain ⟨ihds,hk,hh,_⟩:=h.in
  cases hk with
  |cons r t=>
   cases t
   cases hh
   exact ih r
def sub (cs ns:List Str):Bool:=cs.all fun x=>decide (x∈ns)
def elder (ns os:List Str) (n:Str):Str:=(((ns.zip os).find? fun x=>decide (x.1=n)).map (·.2)).getD ""
def seenOf (hs:Str→Option Hdr) (r:Qn) (ps:List (Str × Str)):List Str:=(cH hs r).filter fun n=>!decide (n∈ps.map (·.2))
def sink (hs:Str→Option Hdr):Qn→Tst→Qn
 |.whr q ts,t=>.whr (sink hs q t) ts
 |.keep q ns,t=>.keep (sink hs q t) ns
 |.nmd q ns,t=>.nmd (sink hs q (aL4 (elder ns (cH hs q)) t)) ns
 |.join q r ps,t=>if sub (bL t) (cH hs q) then .join (sink hs q t) r ps else if sub (bL t) (seenOf hs r ps) then .join q (sink hs r t) ps else .whr (.join q r ps) [t]
 |.group q ns ss,t=>if sub (bL t) ns then .group (sink hs q t) ns ss else .whr (.group q ns ss) [t]
 |.table T,t=>.whr (.table T) [t]
 |.first q ks m,t=>.whr (.first q ks m) [t]
def move (hs:Str→Option Hdr):Qn→Qn
 |.whr q ts=>ts.foldl (fun b t=>sink hs b t) (move hs q)
 |.keep q ns=>.keep (move hs q) ns
 |.nmd q ns=>.nmd (move hs q) ns
 |.join q r ps=>.join (move hs q) (move hs r) ps
 |.group q ns ss=>.group (move hs q) ns ss
 |.table T=>.table T
 |.first q ks m=>.first (move hs q) ks m
theorem aEf (hs:Str→Option Hdr):∀(q:Qn) (t:Tst),size (sink hs q t)=size q+1:=by
 intro q
 induction q with
 |table T=>intro t;rfl
 |whr q ts ih=>intro t;show size (sink hs q t)+ts.length=size q+ts.length+1;rw [ih];lia
 |keep q ns ih=>intro t;show size (sink hs q t)+1=size q+1+1;rw [ih]
 |nmd q ns ih=>intro t;show size (sink hs q _)+1=size q+1+1;rw [ih]
 |join q r ps ih1 ih2=>
  intro t
  show size (if sub (bL t) (cH hs q) then .join (sink hs q t) r ps else if sub (bL t) (seenOf hs r ps) then .join q (sink hs r t) ps else .whr (.join q r ps) [t])=size q+size r+1+1
  split
  ·show size (sink hs q t)+size r+1=_;rw [ih1];lia
  ·split
   ·show size q+size (sink hs r t)+1=_;rw [ih2];lia
   ·rfl
 |group q ns ss ih=>
  intro t
  show size (if sub (bL t) ns then .group (sink hs q t) ns ss else .whr (.group q ns ss) [t])=size q+1+1
  split
  ·show size (sink hs q t)+1=_;rw [ih]
  ·rfl
 |first q ks m ih=>intro t;rfl
theorem uG (hs:Str→Option Hdr):∀q:Qn,size (move hs q)=size q:=by
 have fold:∀(ts:List Tst) (b:Qn),size (ts.foldl (fun b t=>sink hs b t) b)=size b+ts.length:=by
  intro ts
  induction ts with
  |nil=>intro b;rfl
  |cons t r ih=>intro b;rw [List.foldl_cons,ih,aEf,List.length_cons];lia
 intro q
 induction q with
 |table T=>rfl
 |whr q ts ih=>show size (ts.foldl _ (move hs q))=size q+ts.length;rw [fold,ih]
 |keep q ns ih=>show size (move hs q)+1=_;rw [ih];rfl
 |nmd q ns ih=>show size (move hs q)+1=_;rw [ih];rfl
 |join q r ps ih1 ih2=>show size (move hs q)+size (move hs r)+1=_;rw [ih1,ih2];rfl
 |group q ns ss ih=>show size (move hs q)+1=_;rw [ih];rfl
 |first q ks m ih=>show size (move hs q)+1=_;rw [ih];rfl
theorem pH {hd:Hdr} {n k:Str} (h:look hd n=some k):(n,k)∈hd:=by
 obtain ⟨i,h1,_⟩:=aA9 h
 exact List.mem_of_getElem? h1
theorem aAg {hd:Hdr} {t:Tst} (h:eX hd t):∀n∈bL t,∃k,look hd n=some k:=by
 obtain ⟨k,h1,h2⟩:=h
 intro n hn
 unfold bL at hn
 cases ho:t.o with
 |val v=>
  rw [ho] at hn
  rw [List.mem_singleton.mp hn]
  exact ⟨k,h1⟩
 |col d=>
  rw [ho] at hn h2
  rcases List.mem_cons.mp hn with e|hn
  ·rw [e];exact ⟨k,h1⟩
  ·rw [List.mem_singleton.mp hn];exact ⟨k,h2⟩
theorem vQ {hd hd':Hdr} {t:Tst} (f:Str→Str) (h:eX hd t) (e:∀n∈bL t,∀k,look hd n=some k→look hd' (f n)=some k):eX hd' (aL4 f t):=by
 obtain ⟨k,h1,h2⟩:=h
 have m1:t.c∈bL t:=by unfold bL;cases t.o <;> simp
 refine ⟨k,e _ m1 k h1,?_⟩
 show aSw hd' (aYk f t.o)=some k
 cases ho:t.o with
 |val v=>rw [ho] at h2;exact h2
 |col d=>
  rw [ho] at h2
  exact e d (by unfold bL;rw [ho];simp) k h2
theorem aXo (t:Tst):aL4 id t=t:=by
 cases t with
 |mk c sg o=>cases o <;> rfl
theorem gW {hd hd':Hdr} {t:Tst} (h:eX hd t) (e:∀n∈bL t,∀k,look hd n=some k→look hd' n=some k):eX hd' t:=by
 have:=vQ id h e
 rw [aXo] at this
 exact this
theorem uL {h1 h2:Hdr} {n:Str} (h:n∈h1.map (·.1)):look (h1++h2) n=look h1 n:=by
 unfold look
 rw [List.find?_append]
 obtain ⟨c,hc,e⟩:=List.mem_map.mp h
 have:(h1.find? fun c=>decide (c.1=n)).isSome:=List.find?_isSome.mpr ⟨c,hc,decide_eq_true e⟩
 obtain ⟨x,hx⟩:=Option.isSome_iff_exists.mp this
 rw [hx]
 rfl
theorem aCl {h1 h2:Hdr} {n:Str} (h:n∉h1.map (·.1)):look (h1++h2) n=look h2 n:=by
 unfold look
 rw [List.find?_append]
 have:(h1.find? fun c=>decide (c.1=n))=none:=List.find?_eq_none.mpr fun c hc e=>h (List.mem_map.mpr ⟨c,hc,of_decide_eq_true e⟩)
 rw [this]
 rfl
theorem aAc {hd:Hdr} {n:Str} {ds:List Str} (h:n∉ds):look (hd.filter fun c=>!decide (c.1∈ds)) n=look hd n:=by
 induction hd with
 |nil=>rfl
 |cons c hd ih=>
  by_cases e:c.1=n
  ·have e2:¬ c.1∈ds:=by rw [e];exact h
   rw [List.filter_cons_of_pos (by simpa using e2)]
   unfold look
   rw [List.find?_cons,List.find?_cons,decide_eq_true e]
  ·by_cases e2:c.1∈ds
   ·rw [List.filter_cons_of_neg (by simpa using e2),ih]
    unfold look
    rw [List.find?_cons,decide_eq_false e]
   ·rw [List.filter_cons_of_pos (by simpa using e2)]
    unfold look at ih ⊢
    rw [List.find?_cons,List.find?_cons,decide_eq_false e]
    exact ih
theorem rR {hd:Hdr} {n k:Str} (h:look hd n=some k):n∈hd.map (·.1):=List.mem_map.mpr ⟨_,pH h,rfl⟩
theorem wX {hd:Hdr} {ns ks:List Str} (h:Looks hd ns ks) {n k:Str} (e:(n,k)∈ns.zip ks):look hd n=some k:=by
 induction h with
 |nil=>simp at e
 |cons r _ ih=>
  rw [List.zip_cons_cons] at e
  rcases List.mem_cons.mp e with e|e
  ·cases e;exact r
  ·exact ih e
theorem aJ9:∀{ns os:List Str} {i:Nat} {n o:Str},ns.Nodup→ns[i]?=some n→os[i]?=some o→elder ns os n=o
 |m::ns,p::os,0,n,o,_,h1,h2=>by
  cases h1
  cases h2
  unfold elder
  rw [List.zip_cons_cons,List.find?_cons,decide_eq_true rfl]
  rfl
 |m::ns,p::os,i+1,n,o,nd,h1,h2=>by
  rw [List.nodup_cons] at nd
  have h1':ns[i]?=some n:=by simpa using h1
  have h2':os[i]?=some o:=by simpa using h2
  have ne:¬ m=n:=fun e=>nd.1 (by rw [e];exact List.mem_of_getElem? h1')
  have ih:=aJ9 nd.2 h1' h2'
  unfold elder at ih ⊢
  rw [List.zip_cons_cons,List.find?_cons,decide_eq_false ne]
  exact ih
 |[],_,i,n,o,_,h1,_=>by simp at h1
 |_::_,[],i,n,o,_,_,h2=>by simp at h2
theorem aGv {ns:List Str} {hd:Hdr} {n k:Str} (hl:ns.length=hd.length) (nd:ns.Nodup) (h:look (List.zipWith (fun n c=>(n,c.2)) ns hd) n=some k):∃o,elder ns (hd.map (·.1)) n=o∧(o,k)∈hd:=by
 obtain ⟨i,h1,_⟩:=aA9 h
 rw [List.getElem?_zipWith] at h1
 cases e1:ns[i]? with
 |none=>rw [e1] at h1;cases h1
 |some m=>
  cases e2:hd[i]? with
  |none=>rw [e1,e2] at h1;cases h1
  |some c=>
   rw [e1,e2] at h1
   cases h1
   exact ⟨c.1,aJ9 nd e1 (by rw [List.getElem?_map,e2];rfl),List.mem_of_getElem? e2⟩
theorem uK {cs ns:List Str} (h:sub cs ns=true):∀n∈cs,n∈ns:=fun n hn=>of_decide_eq_true (List.all_eq_true.mp h n hn)
theorem yG {hd:Hdr} {t:Tst} (h:eX hd t):∀t'∈[t],eX hd t':=fun t' ht=>by rw [List.mem_singleton.mp ht];exact h
theorem aNc {hs:Str→Option Hdr}:∀{q:Qn} {hd:Hdr} {t:Tst},HQ hs q hd→eX hd t→HQ hs (sink hs q t) hd:=by
 intro q
 induction q with
 |table T=>intro hd t h ht;exact .mk1 rfl h (.whr (yG ht)) h.good
 |first q ks m ih=>intro hd t h ht;exact .mk1 rfl h (.whr (yG ht)) h.good
 |whr q ts ih=>
  intro hd t h ht
  obtain ⟨ihds,hk,hh,hg⟩:=h.in
  cases hk with
  |cons r t'=>
   cases t'
   cases hh with
   |whr hts=>exact .mk1 rfl (ih r ht) (.whr hts) hg
 |keep q ns ih=>
  intro hd t h ht
  obtain ⟨ihds,hk,hh,hg⟩:=h.in
  cases hk with
  |cons r t'=>
   cases t'
   cases hh with
   |keep l=>exact .mk1 rfl (ih r (gW ht fun n _ k e=>wX l (pH e))) (.keep l) hg
 |nmd q ns ih=>
  intro hd t h ht
  obtain ⟨ihds,hk,hh,hg⟩:=h.in
  cases hk with
  |cons r t'=>
   cases t'
   cases hh with
   |nmd l=>
    refine .mk1 rfl (ih r ?_) (.nmd l) hg
    have nd:ns.Nodup:=by have:=hg.1;rw [iU l] at this;exact this
    rw [show cH hs q=_ from congrArg (List.map (fun c:Str × Str=>c.1)) (iD r)]
    refine vQ _ ht fun n _ k e=>?_
    obtain ⟨o,e1,e2⟩:=aGv l nd e
    rw [e1]
    exact jO r.good.1 e2
 |join q r ps ih1 ih2=>
  intro hd t h ht
  obtain ⟨ihds,hk,hh,hg⟩:=id h.in
  cases hk with
  |cons r1 t'=>
   cases t' with
   |cons r2 t2=>
    cases t2
    cases hh with
    |join l n1 n2=>
     show HQ hs (if sub (bL t) (cH hs q) then .join (sink hs q t) r ps else if sub (bL t) (seenOf hs r ps) then .join q (sink hs r t) ps else .whr (.join q r ps) [t]) _
     rename_i h1 h2 ks
     have e1:cH hs q=h1.map (·.1):=congrArg (List.map (fun c:Str × Str=>c.1)) (iD r1)
     have e2:cH hs r=h2.map (·.1):=congrArg (List.map (fun c:Str × Str=>c.1)) (iD r2)
     split
     ·rename_i hsub
      rw [e1] at hsub
      exact .mk2 rfl (ih1 r1 (gW ht fun n hn k e=>by rw [uL (uK hsub n hn)] at e;exact e)) r2 (.join l n1 n2) hg
     ·split
      ·rename_i hsub
       refine .mk2 rfl r1 (ih2 r2 (gW ht fun n hn k e=>?_)) (.join l n1 n2) hg
       have hs':=uK hsub n hn
       unfold seenOf at hs'
       rw [e2] at hs'
       obtain ⟨a1,a2⟩:=List.mem_filter.mp hs'
       have a3:n∉ps.map (·.2):=by simpa using a2
       have nin:n∉h1.map (·.1):=by
        intro z
        have nd:=hg.1
        rw [List.map_append,List.nodup_append] at nd
        obtain ⟨c,hc,rfl⟩:=List.mem_map.mp a1
        exact nd.2.2 _ z _ (List.mem_map.mpr ⟨c,List.mem_filter.mpr ⟨hc,by simpa using a3⟩,rfl⟩) rfl
       rw [aCl nin,aAc a3] at e
       exact e
      ·exact .mk1 rfl h (.whr (yG ht)) hg
 |group q ns ss ih=>
  intro hd t h ht
  obtain ⟨ihds,hk,hh,hg⟩:=id h.in
  cases hk with
  |cons r t'=>
   cases t'
   cases hh with
   |group l j=>
    show HQ hs (if sub (bL t) ns then .group (sink hs q t) ns ss else .whr (.group q ns ss) [t]) _
    split
    ·rename_i hsub
     refine .mk1 rfl (ih r (gW ht fun n hn k e=>?_)) (.group l j) hg
     have hm:=uK hsub n hn
     rw [uL (by rw [List.map_fst_zip (by have:=l.len;lia)];exact hm)] at e
     exact wX l (pH e)
    ·exact .mk1 rfl h (.whr (yG ht)) hg
theorem aHb {hs:Str→Option Hdr}:∀{q:Qn} {hd:Hdr},HQ hs q hd→HQ hs (move hs q) hd:=by
 have fold:∀(ts:List Tst) (b:Qn) (hd:Hdr),HQ hs b hd→(∀t∈ts,eX hd t)→HQ hs (ts.foldl (fun b t=>sink hs b t) b) hd:=by
  intro ts
  induction ts with
  |nil=>intro b hd h _;exact h
  |cons t r ih=>intro b hd h ht;exact ih _ hd (aNc h (ht t (List.mem_cons_self ..))) fun t' h'=>ht t' (List.mem_cons_of_mem _ h')
 intro q
 induction q with
 |table T=>intro hd h;exact h
 |whr q ts ih=>
  intro hd h
  obtain ⟨ihds,hk,hh,hg⟩:=h.in
  cases hk with
  |cons r t'=>
   cases t'
   cases hh with
   |whr hts=>exact fold ts _ _ (ih r) hts
 |keep q ns ih=>
  intro hd h
  obtain ⟨ihds,hk,hh,hg⟩:=h.in
  cases hk with
  |cons r t'=>
   cases t'
   cases hh with
   |keep l=>exact .mk1 rfl (ih r) (.keep l) hg
 |nmd q ns ih=>
  intro hd h
  obtain ⟨ihds,hk,hh,hg⟩:=h.in
  cases hk with
  |cons r t'=>
   cases t'
   cases hh with
   |nmd l=>exact .mk1 rfl (ih r) (.nmd l) hg
 |join q r ps ih1 ih2=>
  intro hd h
  obtain ⟨ihds,hk,hh,hg⟩:=h.in
  cases hk with
  |cons r1 t'=>
   cases t' with
   |cons r2 t2=>
    cases t2
    cases hh with
    |join l n1 n2=>exact .mk2 rfl (ih1 r1) (ih2 r2) (.join l n1 n2) hg
 |group q ns ss ih=>
  intro hd h
  obtain ⟨ihds,hk,hh,hg⟩:=h.in
  cases hk with
  |cons r t'=>
   cases t'
   cases hh with
   |group l j=>exact .mk1 rfl (ih r) (.group l j) hg
 |first q ks m ih=>
  intro hd h
  obtain ⟨ihds,hk,hh,hg⟩:=h.in
  cases hk with
  |cons r t'=>
   cases t'
   cases hh with
   |first l n=>exact .mk1 rfl (ih r) (.first l n) hg
def NmQ:Qn→Prop
 |.table _=>True
 |.whr q _=>NmQ q
 |.keep q ns=>NmQ q∧∀n∈ns,Nm n
 |.nmd q ns=>NmQ q∧∀n∈ns,Nm n
 |.join q r _=>NmQ q∧NmQ r
 |.group q ns ss=>NmQ q∧(∀n∈ns,Nm n)∧∀s∈ss,Nm s.new
 |.first q _ _=>NmQ q
theorem aB4 {lo hi:Nat} {H:Hp} {v:V} {ns:List Str} (h:gY fC lo hi K H v ns):∀n∈ns,Nm n:=by
 obtain ⟨⟨a,vs,_u,_v,h2⟩,_w⟩:=h
 clear _u _v _w
 induction h2 with
 |nil=>intro n hn;cases hn
 |cons r _ ih=>
  intro n hn
  rcases List.mem_cons.mp hn with rfl|hn
  ·exact r.2
  ·exact ih n hn
theorem aSp {H:Hp} {v:V} {q:Qn} (h:IsQ K H v q):NmQ q:=by
 induction h with
 |table _ _=>trivial
 |whr _ _ _ ih=>exact ih
 |keep _ _ c ih=>exact ⟨ih,aB4 c⟩
 |nmd _ _ c ih=>exact ⟨ih,aB4 c⟩
 |join _ _ _ _ ih1 ih2=>exact ⟨ih1,ih2⟩
 |group _ _ c d ih=>
  refine ⟨ih,aB4 c,?_⟩
  obtain ⟨⟨a,vs,_u,_v,h2⟩,_w⟩:=d
  clear _u _v _w
  intro s hs
  induction h2 with
  |nil=>cases hs
  |cons r _ ih2=>
   rcases List.mem_cons.mp hs with rfl|hs
   ·obtain ⟨_,_,hn,_⟩:=r;exact hn
   ·exact ih2 hs
 |first _ _ _ _ ih=>exact ih
theorem aVr {hs:Str→Option Hdr} (hT:∀T hd,hs T=some hd→∀c∈hd,Nm c.1):∀{q:Qn} {hd:Hdr},NmQ q→HQ hs q hd→∀c∈hd,Nm c.1:=by
 intro q
 induction q with
 |table T=>
  intro hd _ h
  obtain ⟨ihds,hk,hh,hg⟩:=h.in
  cases hk
  cases hh with
  |table e=>exact hT T _ e
 |whr q ts ih=>
  intro hd hn h
  obtain ⟨ihds,hk,hh,hg⟩:=h.in
  cases hk with
  |cons r t'=>
   cases t'
   cases hh
   exact ih hn r
 |keep q ns ih=>
  intro hd hn h
  obtain ⟨ihds,hk,hh,hg⟩:=h.in
  cases hk with
  |cons r t'=>
   cases t'
   cases hh with
   |keep l=>intro c hc;exact hn.2 _ (List.of_mem_zip hc).1
 |nmd q ns ih=>
  intro hd hn h
  obtain ⟨ihds,hk,hh,hg⟩:=h.in
  cases hk with
  |cons r t'=>
   cases t'
   cases hh with
   |nmd l=>intro c hc;exact hn.2 _ (aBl hc).1
 |join q r ps ih1 ih2=>
  intro hd hn h
  obtain ⟨ihds,hk,hh,hg⟩:=h.in
  cases hk with
  |cons r1 t'=>
   cases t' with
   |cons r2 t2=>
    cases t2
    cases hh with
    |join l n1 n2=>
     intro c hc
     rcases List.mem_append.mp hc with hc|hc
     ·exact ih1 hn.1 r1 c hc
     ·exact ih2 hn.2 r2 c (List.mem_filter.mp hc).1
 |group q ns ss ih=>
  intro hd hn h
  obtain ⟨ihds,hk,hh,hg⟩:=h.in
  cases hk with
  |cons r t'=>
   cases t'
   cases hh with
   |group l j=>
    intro c hc
    rcases List.mem_append.mp hc with hc|hc
    ·exact hn.2.1 _ (List.of_mem_zip hc).1
    ·obtain ⟨s,hs',e⟩:=List.mem_map.mp (List.of_mem_zip hc).1
     rw [←e]
     exact hn.2.2 s hs'
 |first q ks m ih=>
  intro hd hn h
  obtain ⟨ihds,hk,hh,hg⟩:=h.in
  cases hk with
  |cons r t'=>
   cases t'
   cases hh
   exact ih hn r
def aA5 (K:PySem.W.Frag):Sp:=fun vs H Q _=>∃v t,vs=[v]∧IsT K H v t∧∀D H',Same H H'→H' D=some (.lst ((bL t).map V.str))→Q (.ref D) H'
theorem aC0 (T:Txt w K mg):Ok P w K mg base 1 "columns_of" ["test"] (aA5 K):=by
 refine Ok.ofV T.aGk aC7 (fun vs H Q E h=>?_) (fun f cdv A outer s H vs Q E hr h=>?_)
 ·obtain ⟨v,t,rfl,_⟩:=h;rfl
 obtain ⟨v,⟨c,sg,o⟩,rfl,⟨a,w,rfl,ha,n1,s1,ho⟩,q⟩:=h
 refine ⟨_,(aF (aL (gZ (aP bY (aK aO (aK aO (vv 0) aD (fun _ _=>rfl)) aD (fun _ _=>rfl)) aQ (aX _)) (cP (aB (aK aO (vv 0) aD (fun _ _=>rfl)) (aB (aK aO (aK aO (vv 0) aD (fun _ _=>rfl)) aD (fun _ _=>rfl)) aA))) (cP (aB (aK aO (vv 0) aD (fun _ _=>rfl)) aA))))),?_⟩
 cases o with
 |val x=>
  obtain ⟨b,rfl,hb,_⟩:=ho
  exact ⟨_,rfl,_,_,2,_,rfl,rfl,ha,at2 _ _ _ _,_,_,0,_,rfl,rfl,hb,at0 _ _,rfl,_,rfl,aZ ⟨_,rfl,_,_,0,_,rfl,rfl,ha,at0 _ _,(by show 1≤sizeLine;decide),fun D H' _ s' g=>q D H' s' g⟩⟩
 |col d=>
  obtain ⟨b,rfl,hb,_⟩:=ho
  exact ⟨_,rfl,_,_,2,_,rfl,rfl,ha,at2 _ _ _ _,_,_,0,_,rfl,rfl,hb,at0 _ _,rfl,_,rfl,cA ⟨_,rfl,_,_,0,_,rfl,rfl,ha,at0 _ _,_,rfl,_,_,2,_,rfl,rfl,ha,at2 _ _ _ _,_,_,1,_,rfl,rfl,hb,at1 _ _ _,(by show 2≤sizeLine;decide),fun D H' _ s' g=>q D H' s' g⟩⟩
def aQ9 (K:PySem.W.Frag):Sp:=fun vs H Q _=>∃v d t kvs,∃f:Str→Str,vs=[v,.ref d]∧IsT K H v t∧H d=some (.dK kvs)∧(∀n∈bL t,mC kvs (Sum.inr n:Key)=some (.str (f n))∧Nm (f n))∧∀v' H',Same H H'→IsT K H' v' (aL4 f t)→Q v' H'
theorem aMh (T:Txt w K mg):Ok P w K mg base 1 "renamed" ["test","names"] (aQ9 K):=by
 refine Ok.ofV T.aOm aBz (fun vs H Q E h=>?_) (fun f cdv A outer s H vs Q E hr h=>?_)
 ·obtain ⟨v,d,t,kvs,f,rfl,_⟩:=h;rfl
 obtain ⟨v,d,⟨c,sg,o⟩,kvs,f,rfl,⟨a,w,rfl,ha,n1,s1,ho⟩,hd,hk,q⟩:=h
 have hu:=wI hr
 refine ⟨_,(aC (aV (i:=2) aBz.nd rfl (by trivial) (gZ (aP bY (aK aO (aK aO (vv 0) aD (fun _ _=>rfl)) aD (fun _ _=>rfl)) aQ (aX _)) (bC (aB aQ (aB (uN hu (vv 1) (aK aO (aK aO (vv 0) aD (fun _ _=>rfl)) aD (fun _ _=>rfl)) (fun _ _=>rfl)) aA))) (aK aO (vv 0) aD (fun _ _=>rfl)))) (aF (aL (bC (aB (uN hu (vv 1) (aK aO (vv 0) aD (fun _ _=>rfl)) (fun _ _=>rfl)) (aB (aK aO (vv 0) aD (fun _ _=>rfl)) (aB (vv 2) aA))))))),?_⟩
 cases o with
 |val x=>
  obtain ⟨b,rfl,hb,hx⟩:=ho
  obtain ⟨k1,k2⟩:=hk c (by simp [bL])
  refine ⟨_,rfl,_,_,2,_,rfl,rfl,ha,at2 _ _ _ _,_,_,0,_,rfl,rfl,hb,at0 _ _,rfl,_,rfl,aZ ⟨_,rfl,_,_,2,_,rfl,rfl,ha,at2 _ _ _ _,?_⟩⟩
  refine ⟨_,rfl,_,rfl,_,_,0,_,rfl,rfl,ha,at0 _ _,d,_,rfl,k1 ▸ vA.k (k:=Sum.inr c) hd,_,rfl,_,_,1,_,rfl,rfl,ha,at1 _ _ _,_,rfl,(by show 3≤sizeLine;decide),fun p H' _ s' g=>q _ _ s' ⟨p,_,rfl,SqT.of g,k2,s1,⟨b,rfl,s'.aH hb,hx.1.same s',hx.2⟩⟩⟩
 |col e=>
  obtain ⟨b,rfl,hb,hx⟩:=ho
  obtain ⟨k1,k2⟩:=hk c (by simp [bL])
  obtain ⟨l1,l2⟩:=hk e (by simp [bL])
  refine ⟨_,rfl,_,_,2,_,rfl,rfl,ha,at2 _ _ _ _,_,_,0,_,rfl,rfl,hb,at0 _ _,rfl,_,rfl,cA ⟨_,rfl,_,rfl,_,_,2,_,rfl,rfl,ha,at2 _ _ _ _,_,_,1,_,rfl,rfl,hb,at1 _ _ _,d,_,rfl,l1 ▸ vA.k (k:=Sum.inr e) hd,(by show 2≤sizeLine;decide),fun r H1 _ s1' g1=>?_⟩⟩
  refine ⟨_,rfl,_,rfl,_,_,0,_,rfl,rfl,s1'.aH ha,at0 _ _,d,_,rfl,k1 ▸ vA.k (k:=Sum.inr c) (s1' _ _ hd),_,rfl,_,_,1,_,rfl,rfl,s1'.aH ha,at1 _ _ _,_,rfl,(by show 3≤sizeLine;decide),fun p H' _ s' g=>q _ _ (s1'.trans s') ⟨p,_,rfl,SqT.of g,k2,s1,⟨r,rfl,SqT.of (s' _ _ g1),l2⟩⟩⟩
def aMm (K:PySem.W.Frag):Sp:=fun vs H Q _=>∃a u cs ns,vs=[.ref a,u]∧SqL K H a (cs.map V.str)∧cs.length≤1000∧aHx K H u ns∧∀H',Same H H'→Q (.bl (sub cs ns)) H'
theorem aE9 (T:Txt w K mg):Ok P w K mg base 1 "are_among" ["columns","names"] (aMm K):=by
 refine Ok.ofV T.aJf aG6 (fun vs H Q E h=>?_) (fun f cdv A outer s H vs Q E hr h=>?_)
 ·obtain ⟨a,u,cs,ns,rfl,_⟩:=h;rfl
 obtain ⟨a,u,cs,ns,rfl,ha,hl,⟨b,rfl,hb⟩,q⟩:=h
 refine ⟨_,(aF (aL (aY (uA rfl) (by rfl) T.aIo aBi (aB (bZ (N:=["column","names"]) (by trivial) (cX (aG pC) rfl (by decide +kernel)) rfl (fJ (vv 0)) (fun cl s' H' fp=>⟨(aN (i:=0) (show (["column","names"]:List Str).Nodup from by decide +kernel) rfl (Or.inl rfl)),cI,(fH (wB (K:=K)) (vv 0) (vv 1) (by with_unfolding_all rfl))⟩)) aA)))),?_⟩
 dsimp only [aAs,tCB,rY,fP]
 refine iV (cs.map V.str) ((cs.map fun x=>decide (x∈ns)).map V.bl) (by rw [List.length_map,List.length_map,List.length_map]) [none,some (.ref b)] ?_ (small (by rw [List.length_map];lia)) (fun R r=>aA3 (fun H' sm=>sm.seq ha) (fun R' r'=>⟨_,rfl,r'⟩) R r) (fun i x y ex ey H' R l sm r=>?_) rfl fun D H' sm hD=>?_
 ·exact cY 1 (by decide +kernel) rfl rfl (by trivial)
 ·obtain ⟨n,hn,rfl⟩:=eO ex
  obtain ⟨z,hz,rfl⟩:=eO ey
  rw [List.getElem?_map,hn] at hz
  cases hz
  refine ⟨_,rfl,_,rfl,b,_,rfl,hb.imp sm.seq sm.aH,rfl,kE,?_⟩
  show R (.bl (inV (.str n) (ns.map V.str))) H'
  rw [nH]
  exact r H' (Same.refl H')
 ·refine ⟨D,_,rfl,SqL.of hD,?_⟩
  rw [List.all_map]
  exact q H' sm
theorem aBw {p:Nat→Bool} {R:Nat→V→Prop}:∀{k:Nat} {l:List Str} {ys:List V},(∀(j:Nat) (n:Str),l[j]?=some n→∀y,R (k+j) y→y=.str n)→mK R (sel p k (List.range' k l.length)) ys→ys=(sel p k l).map V.str
 |k,[],ys,_,h=>by cases h;rfl
 |k,n::r,ys,hR,h=>by
  rw [List.length_cons,List.range'_succ] at h
  have h:mK R (if p k then k::sel p (k+1) (List.range' (k+1) r.length) else sel p (k+1) (List.range' (k+1) r.length)) ys:=h
  have ih:∀{zs:List V},mK R (sel p (k+1) (List.range' (k+1) r.length)) zs→zs=(sel p (k+1) r).map V.str:=fun {zs} hz=>
   aBw (k:=k+1) (l:=r) (fun j m hj y hy=>hR (j+1) m (by simpa using hj) y (by rw [show k+(j+1)=k+1+j by lia];exact hy)) hz
  show ys=(if p k then n::sel p (k+1) r else sel p (k+1) r).map V.str
  split at h
  ·rename_i hp
   rw [if_pos hp]
   cases h with
   |cons r' t=>
    rw [List.map_cons,←ih t,hR 0 n rfl _ r']
  ·rename_i hp
   rw [if_neg hp]
   exact ih h
def frP (l used:List Str) (i:Nat):Bool:=match l[i]? with
 |some n=>!decide (n∈used)
 |none=>false
theorem aCv {X:Cx} {scope:Scope} {Nn:List Str} {tl:TE} {tt:TT} {σ:L2.St} {H:Hp} {Q:VK} {U:V} {ns used:List Str} (hl:ns.length≤1000) (cap:Cap X scope Nn σ [none,some U]) (hw:∀R:VK,(∀p H1,Same H H1→H1 p=some (.lst (ns.map V.str))→R (.ref p) H1)→tl σ H R)
  (ht:∀(n:Str) l H' R,Same H H'→(∀H2,Same H' H2→R (!decide (n∈used)) H2)→tt (([none,some U].set 0 l).set 0 (some (.str n))) H' R)
  (q:∀D H',H D=none→Same H H'→H' D=some (.lst ((ns.filter fun n=>!decide (n∈used)).map V.str))→Q (.ref D) H'):iK X scope Nn (tR K tl) (bK 0) tt (wA 0) σ H Q:=by
 refine tZ [none,some U] cap (hw _ fun p H1 s1 g1=>⟨p,rfl,⟨_,SqL.of g1⟩,wN Same (pJ H1) (ns.map V.str) (frP ns used) (fun i _ y=>∃n,ns[i]?=some n∧y=.str n) (fun _ _ h=>h) (fun _ _ _ h=>h) (fun i σ=>∃n,ns[i]?=some n∧At1 [none,some U] (.str n) σ) (Ps1 [none,some U]) ⟨none,rfl⟩ (small (by rw [List.length_map];lia)) _ (xY fun H' s'=>SqL.of (s' _ _ g1)) (qD fun H' s'=>SqL.of (s' _ _ g1)) (fun i x σ' H' Q' ex hps s' qq=>?_) (fun i x σ2 ex hA H' R s' r=>?_) (fun i x σ2 ex hA _ H' R s' r=>?_) fun D H2 ys s2 fD g2 hys=>?_⟩)
 ·obtain ⟨n,hn',rfl⟩:=eO ex
  exact hg1 (i:=i) hps fun σ2 h1 h2=>qq σ2 h1 ⟨n,hn',h2⟩
 ·obtain ⟨n,hn',l,rfl⟩:=hA
  refine ht n l H' _ (s1.trans s') fun H2 s2=>?_
  have e:frP ns used i=!decide (n∈used):=by unfold frP;rw [hn']
  rw [←e]
  exact r H2 s2
 ·obtain ⟨n,hn',l,rfl⟩:=hA
  exact ⟨_,by cases l <;> rfl,r _ _ (Same.refl H') ⟨n,hn',rfl⟩⟩
 ·rw [List.length_map,List.range_eq_range'] at hys
  have ey:=aBw (k:=0) (l:=ns) (fun j n hj y hy=>by
   obtain ⟨m,hm,e⟩:=hy
   rw [Nat.zero_add,hj] at hm
   cases hm
   exact e) hys
  have es:sel (frP ns used) 0 ns=ns.filter fun n=>!decide (n∈used):=nZ fun i x ex=>by
   unfold frP
   rw [Nat.zero_add,ex]
  rw [ey,es] at g2
  exact q D H2 (s1.free fD) (s1.trans s2) g2
def jZ (hs:Str→Option Hdr) (q r:Qn) (ps:List (Str × Str)) (cs:List Str):V:=if sub cs (cH hs q) then .int 0 else if sub cs (seenOf hs r ps) then .int 1 else .non
def aVh (K:PySem.W.Frag):Sp:=fun vs H Q _=>∃d v a hs q r ps h1 h2 cs,vs=[.ref d,v,.ref a]∧fG K H d hs∧IsQ K H v (.join q r ps)∧size q≤20∧size r≤20∧HQ hs q h1∧HQ hs r h2∧SqL K H a (cs.map V.str)∧cs.length≤1000∧∀H',Same H H'→Q (jZ hs q r ps cs) H'
theorem aAp (T:Txt w K mg) (pA:Ok P w K mg base 1 "are_among" ["columns","names"] (aMm K)) (jB:Ok P w K mg base 1 "names_of" ["head"] (aHm K)) (nJ:Ok P w K mg base 27 "head_of" ["heads","question"] (aJb K)) :
  Ok P w K mg base 28 "side_of_join" ["heads","question","columns"] (aVh K):=by
 refine Ok.ofV T.aBc mL (fun vs H Q E h=>?_) (fun f cdv A outer s H vs Q E hr h=>?_)
 ·obtain ⟨d,v,a,hs,q,r,ps,h1,h2,cs,rfl,_⟩:=h;rfl
 obtain ⟨d,v,c,hs,q0,r0,ps,h1,h2,cs,rfl,hds,hq,z1,z2,k1,k2,hc,lc,q⟩:=h
 refine ⟨_,(aC (bJ (eG (aJ (pA.mono (by decide)) hr (by rfl) (aB (vv 2) (aB (aJ (jB.mono (by decide)) hr (by rfl) (aB (aJ (nJ.mono (by decide)) hr (by rfl) (aB (vv 0) (aB (aK aO (vv 1) aD (fun _ _=>rfl)) aA))) aA)) aA)))) (aF (aL aD)) aW) (aC (aV (i:=3) mL.nd rfl (by trivial) (bZ (N:=["pair"]) (by trivial) (dF (by decide +kernel)) rfl (dC (aK aO (vv 1) aD (fun _ _=>rfl))) (fun cl s' H' fp=>⟨(aN (i:=0) (show (["pair"]:List Str).Nodup from by decide +kernel) rfl (Or.inl rfl)),cI,(aK (cZ (K:=K)) (vv 0) aD (fun _ _=>rfl))⟩))) (aC (kW (i0:=4) mL.nd rfl (by trivial) (N:=["name","paired"]) (by trivial) (cX (aG jM) rfl (by decide +kernel)) rfl (fJ (aJ (jB.mono (by decide)) hr (by rfl) (aB (aJ (nJ.mono (by decide)) hr (by rfl) (aB (vv 0) (aB (aK aO (vv 1) aD (fun _ _=>rfl)) aA))) aA))) (fun cl s' H' fp=>⟨(aN (i:=0) (show (["name","paired"]:List Str).Nodup from by decide +kernel) rfl (Or.inl rfl)),(pX (aP (gO (K:=K)) (vv 0) (vv 1) (by with_unfolding_all rfl))),(vv 0)⟩)) (aF (aL (gZ (eG (aJ (pA.mono (by decide)) hr (by rfl) (aB (vv 2) (aB (vv 4) aA)))) aD zB)))))),?_⟩
 cases hq with
 |join a b e g=>
  have gd1:=k1.good.2.2
  have gd2:=k2.good.2.2
  refine ⟨_,rfl,_,rfl,_,rfl,_,_,1,_,rfl,rfl,a,at1 _ _ _,d,_,hs,q0,h1,rfl,hds,b,z1,k1,fun v1 H1 s1 i1=>⟨v1,h1,rfl,i1,by lia,fun D2 H2 s2 g2=>?_⟩⟩
  have t2:=s1.trans s2
  refine ⟨c,_,cs,h1.map (·.1),rfl,t2.seq hc,lc,⟨D2,rfl,.inl (SqL.of g2)⟩,fun H3 s3=>?_⟩
  have t3:=t2.trans s3
  have e1:cH hs q0=h1.map (·.1):=by unfold cH;rw [iD k1]
  refine ⟨_,rfl,jJ (fun y=>?_) fun y=>?_⟩
  ·have:jZ hs q0 r0 ps cs=.int 0:=by unfold jZ;rw [e1,if_pos y]
   rw [this] at q
   exact q H3 t3
  obtain ⟨⟨p,us,rfl,hp,hu⟩,l1,l2⟩:=g
  have lu:=hu.len
  dsimp only [rU,iR,jK]
  refine iV us ((ps.map (·.2)).map V.str) (by rw [List.length_map,List.length_map];lia) [none] nO (small (by lia)) (fun R r=>lG (t3.aH hp) (fun R' r'=>⟨_,rfl,_,_,3,_,rfl,rfl,t3.aH a,cD (j:=3) rfl,r'⟩) R r) (fun i x y ex ey H' R l sm r=>?_) rfl fun D4 H4 s4 g4=>?_
  ·obtain ⟨p',hp',b',rfl,hb',_⟩:=bN hu ex
   obtain ⟨n,hn,rfl⟩:=eO ey
   rw [List.getElem?_map,hp'] at hn
   cases hn
   exact ⟨_,rfl,b',_,1,_,rfl,rfl,sm.aH (t3.aH hb'),at1 _ _ _,r H' (Same.refl H')⟩
  have t4:=t3.trans s4
  dsimp only [bK,iR,jK]
  refine aCv (used:=ps.map (·.2)) (ns:=h2.map (·.1)) (by rw [List.length_map];lia) (U:=.ref D4) ?_ (fun R r=>⟨_,rfl,_,rfl,_,_,2,_,rfl,rfl,t4.aH a,at2 _ _ _ _,d,_,hs,r0,h2,rfl,hds.same t4,e.same t4,z2,k2,fun v5 H5 s5 i5=>⟨v5,h2,rfl,i5,by lia,fun D6 H6 s6 g6=>r D6 H6 (s5.trans s6) g6⟩⟩) (fun n l H' R s' r=>?_) fun D7 H7 _ s7 g7=>?_
  ·exact cY 3 (by decide +kernel) rfl rfl (by trivial)
  ·refine ⟨_,by cases l <;> rfl,_,by cases l <;> rfl,D4,_,rfl,.inl (SqL.of (s' _ _ g4)),rfl,kE,_,rfl,?_⟩
   rw [nH]
   exact r H' (Same.refl H')
  have e2:seenOf hs r0 ps=(h2.map (·.1)).filter fun n=>!decide (n∈ps.map (·.2)):=by unfold seenOf cH;rw [iD k2]
  refine ⟨_,rfl,_,rfl,c,_,cs,_,rfl,(t4.trans s7).seq hc,lc,⟨D7,rfl,.inl (SqL.of g7)⟩,fun H8 s8=>?_⟩
  have t8:=t4.trans (s7.trans s8)
  refine ⟨_,rfl,jJ (fun y'=>?_) fun y'=>?_⟩
  ·have:jZ hs q0 r0 ps cs=.int 1:=by unfold jZ;rw [e1,if_neg y,e2,if_pos y']
   rw [this] at q
   exact q _ t8
  ·have:jZ hs q0 r0 ps cs=.non:=by unfold jZ;rw [e1,if_neg y,e2,if_neg y']
   rw [this] at q
   exact q _ t8
def aAh (hs:Str→Option Hdr) (cs:List Str):Qn→V
 |.table _=>.non
 |.whr _ _=>.int 0
 |.keep _ _=>.int 0
 |.nmd _ _=>.int 0
 |.join q r ps=>jZ hs q r ps cs
 |.group _ ns _=>if sub cs ns then .int 0 else .non
 |.first _ _ _=>.non
def aVf (K:PySem.W.Frag):Sp:=fun vs H Q _=>∃d v a hs q hd cs,vs=[.ref d,v,.ref a]∧fG K H d hs∧IsQ K H v q∧size q≤20∧HQ hs q hd∧SqL K H a (cs.map V.str)∧cs.length≤1000∧∀H',Same H H'→Q (aAh hs cs q) H'
theorem aHr (T:Txt w K mg) (aB5:Ok P w K mg base 28 "side_of_join" ["heads","question","columns"] (aVh K)) (pA:Ok P w K mg base 1 "are_among" ["columns","names"] (aMm K)) :
  Ok P w K mg base 29 "side_for" ["heads","question","columns"] (aVf K):=by
 refine Ok.ofV T.aLe aAa (fun vs H Q E h=>?_) (fun f cdv A outer s H vs Q E hr h=>?_)
 ·obtain ⟨d,v,a,hs,q,hd,cs,rfl,_⟩:=h;rfl
 obtain ⟨d,v,c,hs,q0,hd,cs,rfl,hds,hq,hz,hh,hc,lc,q⟩:=h
 refine ⟨_,(aC (aV (i:=3) aAa.nd rfl (by trivial) (aK aO (vv 1) aD (fun _ _=>rfl))) (aC (bJ (aP bY (vv 3) aQ (aX _)) (aF (aL (aJ (aB5.mono (by decide)) hr (by rfl) (aB (vv 0) (aB (vv 1) (aB (vv 2) aA)))))) aW) (aC (bJ (aP bY (vv 3) aQ (aX _)) (aF (aL (gZ (eG (aJ (pA.mono (by decide)) hr (by rfl) (aB (vv 2) (aB (aK aO (vv 1) aD (fun _ _=>rfl)) aA)))) aD zB))) aW) (aF (aL (gZ (aP nP (vv 3) (bC (aB aQ (aB aQ (aB aQ aA)))) (by with_unfolding_all rfl)) aD zB)))))),?_⟩
 have hq':=hq
 cases hq with
 |join a b e g=>
  obtain ⟨ihds,hin,hone,_⟩:=hh.in
  cases hin with
  |cons k1 t1=>
   cases t1 with
   |cons k2 t2=>
    cases t2
    refine ⟨_,rfl,_,_,0,_,rfl,rfl,a,at0 _ _,_,rfl,rfl,_,rfl,cA ⟨_,rfl,_,rfl,_,rfl,d,_,c,hs,_,_,_,_,_,cs,rfl,hds,hq',?_,?_,k1,k2,hc,lc,q⟩⟩
    ·have:=hz;simp only [size] at this;lia
    ·have:=hz;simp only [size] at this;lia
 |group a b e g=>
  refine ⟨_,rfl,_,_,0,_,rfl,rfl,a,at0 _ _,_,rfl,rfl,_,rfl,aZ ⟨_,rfl,rfl,_,rfl,cA ⟨_,rfl,_,rfl,_,_,2,_,rfl,rfl,a,at2 _ _ _ _,c,_,cs,_,rfl,hc,lc,aMi e,fun H1 s1=>⟨_,rfl,jJ (fun y=>?_) fun y=>?_⟩⟩⟩⟩
  ·have q1:=q _ s1
   dsimp only [aAh] at q1
   rw [if_pos y] at q1
   exact q1
  ·have q1:=q _ s1
   dsimp only [aAh] at q1
   rw [if_neg y] at q1
   exact q1
 |table a b=>exact ⟨_,rfl,_,_,0,_,rfl,rfl,a,at0 _ _,_,rfl,rfl,_,rfl,aZ ⟨_,rfl,rfl,_,rfl,aZ ⟨_,rfl,(by show 3≤sizeLine;decide),fun p H' _ s' g=>⟨p,_,rfl,.inr (SqT.of g),rfl,rfl,_,rfl,aZ (q _ s')⟩⟩⟩⟩
 |whr a b e=>exact ⟨_,rfl,_,_,0,_,rfl,rfl,a,at0 _ _,_,rfl,rfl,_,rfl,aZ ⟨_,rfl,rfl,_,rfl,aZ ⟨_,rfl,(by show 3≤sizeLine;decide),fun p H' _ s' g=>⟨p,_,rfl,.inr (SqT.of g),rfl,rfl,_,rfl,cA (q _ s')⟩⟩⟩⟩
 |keep a b e=>exact ⟨_,rfl,_,_,0,_,rfl,rfl,a,at0 _ _,_,rfl,rfl,_,rfl,aZ ⟨_,rfl,rfl,_,rfl,aZ ⟨_,rfl,(by show 3≤sizeLine;decide),fun p H' _ s' g=>⟨p,_,rfl,.inr (SqT.of g),rfl,rfl,_,rfl,cA (q _ s')⟩⟩⟩⟩
 |nmd a b e=>exact ⟨_,rfl,_,_,0,_,rfl,rfl,a,at0 _ _,_,rfl,rfl,_,rfl,aZ ⟨_,rfl,rfl,_,rfl,aZ ⟨_,rfl,(by show 3≤sizeLine;decide),fun p H' _ s' g=>⟨p,_,rfl,.inr (SqT.of g),rfl,rfl,_,rfl,cA (q _ s')⟩⟩⟩⟩
 |first a b e g=>exact ⟨_,rfl,_,_,0,_,rfl,rfl,a,at0 _ _,_,rfl,rfl,_,rfl,aZ ⟨_,rfl,rfl,_,rfl,aZ ⟨_,rfl,(by show 3≤sizeLine;decide),fun p H' _ s' g=>⟨p,_,rfl,.inr (SqT.of g),rfl,rfl,_,rfl,aZ (q _ s')⟩⟩⟩⟩
def aCd (hs:Str→Option Hdr) (t:Tst):Qn→Tst
 |.nmd q ns=>aL4 (elder ns (cH hs q)) t
 |_=>t
def aP7:Qn→List Qn→Qn
 |.whr _ ts,k::_=>.whr k ts
 |.keep _ ns,k::_=>.keep k ns
 |.nmd _ ns,k::_=>.nmd k ns
 |.join _ _ ps,k::l::_=>.join k l ps
 |.group _ ns ss,k::_=>.group k ns ss
 |.first _ ks m,k::_=>.first k ks m
 |q,_=>q
theorem aN1 {hs:Str→Option Hdr} {q:Qn} {hd:Hdr} {t:Tst} {i:Int} (h:HQ hs q hd) (ht:eX hd t) (e:aAh hs (bL t) q=.int i) :
  ∃(j:Nat) (k:Qn) (hk:Hdr),i=j∧(kids q)[j]?=some k∧HQ hs k hk∧eX hk (aCd hs t q)∧sink hs q t=aP7 q ((kids q).set j (sink hs k (aCd hs t q))):=by
 obtain ⟨ihds,hk,hh,hg⟩:=id h.in
 cases q with
 |table T=>cases e
 |first q ks m=>cases e
 |whr q ts=>
  cases e
  cases hk with
  |cons r t'=>
   cases t'
   cases hh with
   |whr hts=>exact ⟨0,q,_,rfl,rfl,r,ht,rfl⟩
 |keep q ns=>
  cases e
  cases hk with
  |cons r t'=>
   cases t'
   cases hh with
   |keep l=>exact ⟨0,q,_,rfl,rfl,r,gW ht fun n _ k e=>wX l (pH e),rfl⟩
 |nmd q ns=>
  cases e
  cases hk with
  |cons r t'=>
   cases t'
   cases hh with
   |nmd l=>
    refine ⟨0,q,_,rfl,rfl,r,?_,rfl⟩
    have nd:ns.Nodup:=by have:=hg.1;rw [iU l] at this;exact this
    show eX _ (aL4 (elder ns (cH hs q)) t)
    rw [show cH hs q=_ from congrArg (List.map (fun c:Str × Str=>c.1)) (iD r)]
    refine vQ _ ht fun n _ k e=>?_
    obtain ⟨o,e1,e2⟩:=aGv l nd e
    rw [e1]
    exact jO r.good.1 e2
 |join q r ps=>
  cases hk with
  |cons r1 t'=>
   cases t' with
   |cons r2 t2=>
    cases t2
    cases hh with
    |join l n1 n2=>
     rename_i h1 h2 ks
     have e1:cH hs q=h1.map (·.1):=congrArg (List.map (fun c:Str × Str=>c.1)) (iD r1)
     have e2:cH hs r=h2.map (·.1):=congrArg (List.map (fun c:Str × Str=>c.1)) (iD r2)
     have e:jZ hs q r ps (bL t)=.int i:=e
     have es:sink hs (.join q r ps) t=(if sub (bL t) (cH hs q) then .join (sink hs q t) r ps else if sub (bL t) (seenOf hs r ps) then .join q (sink hs r t) ps else .whr (.join q r ps) [t]):=rfl
     unfold jZ at e
     by_cases y:sub (bL t) (cH hs q)=true
     ·rw [if_pos y] at e es
      cases e
      refine ⟨0,q,_,rfl,rfl,r1,?_,es⟩
      rw [e1] at y
      exact gW ht fun n hn k e=>by rw [uL (uK y n hn)] at e;exact e
     ·rw [if_neg y] at e es
      by_cases y2:sub (bL t) (seenOf hs r ps)=true
      ·rw [if_pos y2] at e es
       cases e
       refine ⟨1,r,_,rfl,rfl,r2,?_,es⟩
       refine gW ht fun n hn k e=>?_
       have hs':=uK y2 n hn
       unfold seenOf at hs'
       rw [e2] at hs'
       obtain ⟨a1,a2⟩:=List.mem_filter.mp hs'
       have a3:n∉ps.map (·.2):=by simpa using a2
       have nin:n∉h1.map (·.1):=by
        intro z
        have nd:=hg.1
        rw [List.map_append,List.nodup_append] at nd
        obtain ⟨c,hc,rfl⟩:=List.mem_map.mp a1
        exact nd.2.2 _ z _ (List.mem_map.mpr ⟨c,List.mem_filter.mpr ⟨hc,by simpa using a3⟩,rfl⟩) rfl
       rw [aCl nin,aAc a3] at e
       exact e
      ·rw [if_neg y2] at e
       cases e
 |group q ns ss=>
  cases hk with
  |cons r t'=>
   cases t'
   cases hh with
   |group l j=>
    have e:(if sub (bL t) ns then V.int 0 else .non)=.int i:=e
    have es:sink hs (.group q ns ss) t=(if sub (bL t) ns then .group (sink hs q t) ns ss else .whr (.group q ns ss) [t]):=rfl
    by_cases y:sub (bL t) ns=true
    ·rw [if_pos y] at e es
     cases e
     refine ⟨0,q,_,rfl,rfl,r,?_,es⟩
     refine gW ht fun n hn k e=>?_
     have hm:=uK y n hn
     rw [uL (by rw [List.map_fst_zip (by have:=l.len;lia)];exact hm)] at e
     exact wX l (pH e)
    ·rw [if_neg y] at e
     cases e
theorem aTa {hs:Str→Option Hdr} {q:Qn} {t:Tst} (e:aAh hs (bL t) q=.non):sink hs q t=.whr q [t]:=by
 cases q with
 |table T=>rfl
 |first q ks m=>rfl
 |whr q ts=>cases e
 |keep q ns=>cases e
 |nmd q ns=>cases e
 |join q r ps=>
  have e:jZ hs q r ps (bL t)=.non:=e
  have es:sink hs (.join q r ps) t=(if sub (bL t) (cH hs q) then .join (sink hs q t) r ps else if sub (bL t) (seenOf hs r ps) then .join q (sink hs r t) ps else .whr (.join q r ps) [t]):=rfl
  unfold jZ at e
  by_cases y:sub (bL t) (cH hs q)=true
  ·rw [if_pos y] at e;cases e
  ·rw [if_neg y] at e es
   by_cases y2:sub (bL t) (seenOf hs r ps)=true
   ·rw [if_pos y2] at e;cases e
   ·rw [if_neg y2] at es;exact es
 |group q ns ss=>
  have e:(if sub (bL t) ns then V.int 0 else .non)=.non:=e
  have es:sink hs (.group q ns ss) t=(if sub (bL t) ns then .group (sink hs q t) ns ss else .whr (.group q ns ss) [t]):=rfl
  by_cases y:sub (bL t) ns=true
  ·rw [if_pos y] at e;cases e
  ·rw [if_neg y] at es;exact es
theorem aR0 (hs:Str→Option Hdr) (cs:List Str) (q:Qn):aAh hs cs q=.non∨∃i,aAh hs cs q=.int i:=by
 cases q with
 |table T=>exact .inl rfl
 |first q ks m=>exact .inl rfl
 |whr q ts=>exact .inr ⟨_,rfl⟩
 |keep q ns=>exact .inr ⟨_,rfl⟩
 |nmd q ns=>exact .inr ⟨_,rfl⟩
 |join q r ps=>show jZ hs q r ps cs=_∨∃i,jZ hs q r ps cs=_;unfold jZ;split;exact .inr ⟨_,rfl⟩;split;exact .inr ⟨_,rfl⟩;exact .inl rfl
 |group q ns ss=>show (if sub cs ns then V.int 0 else .non)=_∨∃i,(if sub cs ns then V.int 0 else .non)=_;split;exact .inr ⟨_,rfl⟩;exact .inl rfl
theorem aJx {H:Hp} {v:V} {q:Qn} (h:IsQ K H v q):∃a xs,v=.ref a∧SqT K H a xs∧2≤xs.length∧xs.length≤5∧(kids q).length+1≤xs.length∧(kids q).length≤2 ∧
  ∀H' p us ks,Same H H'→us.length=(kids q).length→bO (IsQ K H') us ks→SqT K H' p (xs.take 1++us++xs.drop (1+us.length))→IsQ K H' (.ref p) (aP7 q ks):=by
 cases h with
 |table a b=>
  refine ⟨_,_,rfl,a,by show 2≤2;decide,by show 2≤5;decide,by show 1≤2;decide,by show 0≤2;decide,fun H' p us ks s' lu hu hp=>?_⟩
  cases hu with
  |nil=>exact .table hp b
  |cons _ _=>cases lu
 |whr a b c=>
  refine ⟨_,_,rfl,a,by show 2≤3;decide,by show 3≤5;decide,by show 2≤3;decide,by show 1≤2;decide,fun H' p us ks s' lu hu hp=>?_⟩
  cases hu with
  |nil=>cases lu
  |cons r t=>cases t with
   |nil=>exact .whr hp r (c.same s' fun h=>h.same s')
   |cons _ _=>cases lu
 |keep a b c=>
  refine ⟨_,_,rfl,a,by show 2≤3;decide,by show 3≤5;decide,by show 2≤3;decide,by show 1≤2;decide,fun H' p us ks s' lu hu hp=>?_⟩
  cases hu with
  |nil=>cases lu
  |cons r t=>cases t with
   |nil=>exact .keep hp r (c.same s' fun h=>h)
   |cons _ _=>cases lu
 |nmd a b c=>
  refine ⟨_,_,rfl,a,by show 2≤3;decide,by show 3≤5;decide,by show 2≤3;decide,by show 1≤2;decide,fun H' p us ks s' lu hu hp=>?_⟩
  cases hu with
  |nil=>cases lu
  |cons r t=>cases t with
   |nil=>exact .nmd hp r (c.same s' fun h=>h)
   |cons _ _=>cases lu
 |join a b d c=>
  refine ⟨_,_,rfl,a,by show 2≤4;decide,by show 4≤5;decide,by show 3≤4;decide,by show 2≤2;decide,fun H' p us ks s' lu hu hp=>?_⟩
  cases hu with
  |nil=>cases lu
  |cons r t=>cases t with
   |nil=>cases lu
   |cons r2 t2=>cases t2 with
    |nil=>exact .join hp r r2 (c.same s' fun h=>h.same s')
    |cons _ _=>cases lu
 |group a b c d=>
  refine ⟨_,_,rfl,a,by show 2≤4;decide,by show 4≤5;decide,by show 2≤4;decide,by show 1≤2;decide,fun H' p us ks s' lu hu hp=>?_⟩
  cases hu with
  |nil=>cases lu
  |cons r t=>cases t with
   |nil=>exact .group hp r (c.same s' fun h=>h) (d.same s' fun h=>h.same s')
   |cons _ _=>cases lu
 |first a b c d=>
  refine ⟨_,_,rfl,a,by show 2≤4;decide,by show 4≤5;decide,by show 2≤4;decide,by show 1≤2;decide,fun H' p us ks s' lu hu hp=>?_⟩
  cases hu with
  |nil=>cases lu
  |cons r t=>cases t with
   |nil=>exact .first hp r (c.same s' fun h=>h.same s') d
   |cons _ _=>cases lu
def aRj (K:PySem.W.Frag):Sp:=fun vs H Q _=>∃a x xs us,vs=[.ref a,.ref x]∧SqT K H a xs∧SqL K H x us∧us.length+1≤xs.length∧2≤xs.length∧xs.length≤5∧∀p H',Same H H'→SqT K H' p (xs.take 1++us++xs.drop (1+us.length))→Q (.ref p) H'
theorem xK (T:Txt w K mg):Ok P w K mg base 1 "with_questions" ["question","inner"] (aRj K):=by
 refine Ok.ofV T.yO xP (fun vs H Q E h=>?_) (fun f cdv A outer s H vs Q E hr h=>?_)
 ·obtain ⟨a,x,xs,us,rfl,_⟩:=h;rfl
 obtain ⟨a,x,xs,us,rfl,ha,hx,l1,l2,l3,q⟩:=h
 refine ⟨_,(aF (aL (bU pI (bU pI (dD qQ (vv 0) fZ (dJ aD)) (bD bI (by rfl) T.cB bQ (aB (vv 1) aA))) (dD qQ (vv 0) (dJ (bU eY aD (aY bB (by rfl) T.dG cJ (aB (vv 1) aA)))) fZ)))),?_⟩
 refine ⟨_,rfl,_,rfl,a,xs,rfl,ha,fun p1 H1 s1 g1=>⟨_,rfl,x,us,rfl,s1.seq hx,fun l H2 _ s2 g2=>?_⟩⟩
 have lc:=oX xs none (some 1)
 refine ⟨p1,l,_,us,rfl,rfl,s2.aH g1,SqT.of g2,small (by lia),fun p3 H3 s3 g3=>?_⟩
 have t3:=s1.trans (s2.trans s3)
 refine ⟨_,rfl,_,rfl,x,us,rfl,.inl (t3.seq hx),_,_,rfl,rfl,_,rfl,a,xs,rfl,t3.aH ha,fun p4 H4 s4 g4=>?_⟩
 have e1:qX xs none (some 1)=xs.take 1:=rQ xs 1
 have e2:qX xs (some (1+(us.length:Int))) none=xs.drop (1+us.length):=by
  have:=gK xs (1+us.length)
  rw [←this]
  rfl
 have ld:=oX xs (some (1+(us.length:Int))) none
 refine ⟨p3,p4,_,_,rfl,rfl,s4.aH g3,g4,small (by rw [List.length_append];lia),fun p5 H5 s5 g5=>?_⟩
 rw [e1,e2] at g5
 exact q p5 H5 (t3.trans (s4.trans s5)) g5
theorem aEz:∀{ns os:List Str} {n:Str},ns.length=os.length→n∈ns→mC ((ns.zip os).map fun x=>((Sum.inr x.1:Key),V.str x.2)) (Sum.inr n:Key)=some (.str (elder ns os n))
 |m::ns,o::os,n,l,h=>by
  by_cases e:m=n
  ·subst e
   unfold mC elder
   rw [List.zip_cons_cons,List.map_cons,List.find?_cons,List.find?_cons,decide_eq_true rfl,decide_eq_true rfl]
   rfl
  ·have h':n∈ns:=by
    rcases List.mem_cons.mp h with h|h
    ·exact absurd h.symm e
    ·exact h
   have ih:=aEz (ns:=ns) (os:=os) (by simpa using l) h'
   unfold mC elder at ih ⊢
   rw [List.zip_cons_cons,List.map_cons,List.find?_cons,List.find?_cons,decide_eq_false e,decide_eq_false (fun z=>e (Sum.inr.inj z))]
   exact ih
 |[],_,n,_,h=>by cases h
 |_::_,[],n,l,_=>by cases l
theorem aXh {ns os:List Str} (l:ns.length=os.length) (nd:ns.Nodup):(((ns.zip os).map fun x=>((Sum.inr x.1:Key),V.str x.2)).map (·.1)).Nodup:=by
 have e:((ns.zip os).map fun x=>((Sum.inr x.1:Key),V.str x.2)).map (·.1)=ns.map fun n=>(Sum.inr n:Key):=by
  rw [List.map_map]
  show (ns.zip os).map ((fun n=>(Sum.inr n:Key)) ∘ Prod.fst)=_
  rw [←List.map_map,List.map_fst_zip (by lia)]
 rw [e]
 exact List.pairwise_map.mpr (nd.imp fun h z=>h (Sum.inr.inj z))
def aVz (K:PySem.W.Frag):Sp:=fun vs H Q _=>∃d v u hs q hd t,vs=[.ref d,v,u]∧fG K H d hs∧(∀T hd,hs T=some hd→∀c∈hd,Nm c.1)∧IsQ K H v q∧size q≤20∧HQ hs q hd∧IsT K H u t∧eX hd t∧∀v' H',Same H H'→IsT K H' v' (aCd hs t q)→Q v' H'
theorem wW (T:Txt w K mg) (jB:Ok P w K mg base 1 "names_of" ["head"] (aHm K)) (nJ:Ok P w K mg base 27 "head_of" ["heads","question"] (aJb K)) (aOq:Ok P w K mg base 1 "renamed" ["test","names"] (aQ9 K)) :
  Ok P w K mg base 28 "by_inner_names" ["heads","question","test"] (aVz K):=by
 refine Ok.ofV T.zX pL (fun vs H Q E h=>?_) (fun f cdv A outer s H vs Q E hr h=>?_)
 ·obtain ⟨d,v,u,hs,q,hd,t,rfl,_⟩:=h;rfl
 obtain ⟨d,v,u,hs,q0,hd,t,rfl,hds,hT,hq,hz,hh,hu,ht,q⟩:=h
 refine ⟨_,(aC (bJ (aP uW (aK aO (vv 1) aD (fun _ _=>rfl)) aQ (aX _)) (aF (aL (vv 2))) aW) (aC (aV (i:=3) pL.nd rfl (by trivial) (aJ (jB.mono (by decide)) hr (by rfl) (aB (aJ (nJ.mono (by decide)) hr (by rfl) (aB (vv 0) (aB (aK aO (vv 1) aD (fun _ _=>rfl)) aA))) aA))) (aF (aL (aJ (aOq.mono (by decide)) hr (by rfl) (aB (vv 2) (aB (aUs rfl (by rfl) T.aG7 (by rfl) T.aNl (aB (aK aO (vv 1) aD (fun _ _=>rfl)) (aB (vv 3) aA))) aA))))))),?_⟩
 have hq':=hq
 cases hq with
 |nmd a b c=>
  obtain ⟨ihds,hk,hh',hg⟩:=hh.in
  cases hk with
  |cons r t'=>
   cases t'
   cases hh' with
   |nmd l=>
    rename_i q1 wv ns h1
    have nd:ns.Nodup:=by have:=hg.1;rw [iU l] at this;exact this
    have gd:=r.good.2.2
    have gd':=r.good.2.1
    have e1:cH hs q1=h1.map (·.1):=congrArg (List.map (fun c:Str × Str=>c.1)) (iD r)
    obtain ⟨⟨p,us,rfl,hp,hus⟩,c1,c2⟩:=c
    rw [aHh hus] at hp
    refine ⟨_,rfl,_,_,0,_,rfl,rfl,a,at0 _ _,rfl,_,rfl,aZ ⟨_,rfl,_,rfl,_,_,1,_,rfl,rfl,a,at1 _ _ _,d,_,hs,q1,h1,rfl,hds,b,(by have:=hz;simp only [size] at this;lia),r,fun v1 H1 s1 i1=>⟨v1,h1,rfl,i1,by lia,fun D2 H2 s2 g2=>?_⟩⟩⟩
    have t2:=s1.trans s2
    refine ⟨_,rfl,_,rfl,_,_,2,_,rfl,rfl,t2.aH a,at2 _ _ _ _,_,rfl,p,D2,ns,h1.map (·.1),rfl,t2.aH hp,SqL.of g2,(by rw [List.length_map];exact l),(by lia),(by lia),fun m H3 fm s3 g3=>?_⟩
    have t3:=t2.trans s3
    have l':ns.length=(h1.map (·.1)).length:=by rw [List.length_map];exact l
    rw [yZ (aXh l' nd)] at g3
    refine ⟨u,m,t,_,elder ns (h1.map (·.1)),rfl,hu.same t3,g3,fun n hn=>?_,fun v' H4 s4 h4=>?_⟩
    ·obtain ⟨k,hk⟩:=aAg ht n hn
     obtain ⟨o,e3,e4⟩:=aGv l nd hk
     have hin:n∈ns:=by have:=rR hk;rw [iU l] at this;exact this
     refine ⟨aEz l' hin,?_⟩
     rw [e3]
     exact aVr hT (aSp b) r _ e4
    ·have q1:=q v' H4 (t3.trans s4)
     dsimp only [aCd] at q1
     rw [e1] at q1
     exact q1 h4
 |table a b=>exact ⟨_,rfl,_,_,0,_,rfl,rfl,a,at0 _ _,rfl,_,rfl,cA ⟨_,rfl,q _ _ (Same.refl H) hu⟩⟩
 |whr a b c=>exact ⟨_,rfl,_,_,0,_,rfl,rfl,a,at0 _ _,rfl,_,rfl,cA ⟨_,rfl,q _ _ (Same.refl H) hu⟩⟩
 |keep a b c=>exact ⟨_,rfl,_,_,0,_,rfl,rfl,a,at0 _ _,rfl,_,rfl,cA ⟨_,rfl,q _ _ (Same.refl H) hu⟩⟩
 |join a b c e=>exact ⟨_,rfl,_,_,0,_,rfl,rfl,a,at0 _ _,rfl,_,rfl,cA ⟨_,rfl,q _ _ (Same.refl H) hu⟩⟩
 |group a b c e=>exact ⟨_,rfl,_,_,0,_,rfl,rfl,a,at0 _ _,rfl,_,rfl,cA ⟨_,rfl,q _ _ (Same.refl H) hu⟩⟩
 |first a b c e=>exact ⟨_,rfl,_,_,0,_,rfl,rfl,a,at0 _ _,rfl,_,rfl,cA ⟨_,rfl,q _ _ (Same.refl H) hu⟩⟩
theorem aTz {n j:Nat} (h:j<n):ixN n (j:Int)=some j:=by
 unfold ixN
 rw [if_pos (by lia),if_pos (by lia),Int.toNat_natCast]
section
variable {H:Hp} {D:Addr} {ys zs:List V} {v:V}
theorem IsO.dO {o:Oth} (e:H D=some (.lst ys)) (h:IsO K H v o):IsO K (upd H D (.lst zs)) v o:=by
 cases o with
 |val x=>
  obtain ⟨a,rfl,ha,hx,hv⟩:=h
  refine ⟨a,rfl,ha.dO e,?_,hv⟩
  rcases hx with h|h|h|⟨k,h⟩
  ·exact .inl h
  ·exact .inr (.inl h)
  ·exact .inr (.inr (.inl h))
  ·cases h <;> cases hv
 |col d=>obtain ⟨a,rfl,ha,hd⟩:=h;exact ⟨a,rfl,ha.dO e,hd⟩
theorem IsT.dO {t:Tst} (e:H D=some (.lst ys)) (h:IsT K H v t):IsT K (upd H D (.lst zs)) v t:=by
 obtain ⟨a,w,rfl,ha,h1,h2,h3⟩:=h
 exact ⟨a,w,rfl,ha.dO e,h1,h2,h3.dO e⟩
theorem lB.dO {t:Str × Str} (e:H D=some (.lst ys)) (h:lB K H v t):lB K (upd H D (.lst zs)) v t:=by
 obtain ⟨a,rfl,ha,h1⟩:=h
 exact ⟨a,rfl,ha.dO e,h1⟩
theorem oF.dO {t:Str × Str} (e:H D=some (.lst ys)) (h:oF K H v t):oF K (upd H D (.lst zs)) v t:=by
 obtain ⟨a,rfl,ha,h1⟩:=h
 exact ⟨a,rfl,ha.dO e,h1⟩
theorem lL.dO {t:Sm} (e:H D=some (.lst ys)) (h:lL K H v t):lL K (upd H D (.lst zs)) v t:=by
 obtain ⟨a,rfl,hn,h1⟩:=h
 refine ⟨a,rfl,hn,?_⟩
 rcases h1 with ⟨x,y,z⟩|⟨c,x,y,z,u⟩
 ·exact .inl ⟨x,y,z.dO e⟩
 ·exact .inr ⟨c,x,y,z,u.dO e⟩
theorem gY.dO {α:Type} {S:PySem.W.Frag→Hp→V→α→Prop} {lo hi:Nat} {xs:List α} (e:H D=some (.lst ys)) (k:∀{v t},S K H v t→S K (upd H D (.lst zs)) v t) (h:gY S lo hi K H v xs):gY S lo hi K (upd H D (.lst zs)) v xs:=by
 obtain ⟨⟨a,vs,rfl,ha,hr⟩,h2⟩:=h
 exact ⟨⟨a,vs,rfl,ha.dO e,hr.imp fun _ _=>k⟩,h2⟩
theorem IsQ.dO {q:Qn} (e:H D=some (.lst ys)) (h:IsQ K H v q):IsQ K (upd H D (.lst zs)) v q:=by
 induction h with
 |table a b=>exact .table (a.dO e) b
 |whr a _ c ih=>exact .whr (a.dO e) ih (c.dO e fun h=>h.dO e)
 |keep a _ c ih=>exact .keep (a.dO e) ih (c.dO e fun h=>h)
 |nmd a _ c ih=>exact .nmd (a.dO e) ih (c.dO e fun h=>h)
 |join a _ _ c ih1 ih2=>exact .join (a.dO e) ih1 ih2 (c.dO e fun h=>h.dO e)
 |group a _ c d ih=>exact .group (a.dO e) ih (c.dO e fun h=>h) (d.dO e fun h=>h.dO e)
 |first a _ c d ih=>exact .first (a.dO e) ih (c.dO e fun h=>h.dO e) d
end
theorem aIw {α β:Type} {R S:α→β→Prop} {x:α} {y:β}:∀{as:List α} {bs:List β} {j:Nat},(∀a b,R a b→S a b)→S x y→bO R as bs→bO S (as.set j x) (bs.set j y)
 |_,_,_,_,_,.nil=>.nil
 |_,_,0,k,r,.cons _ t=>.cons r (t.imp k)
 |_,_,j+1,k,r,.cons h t=>.cons (k _ _ h) (aIw (j:=j) k r t)
def NmH (hs:Str→Option Hdr):Prop:=∀T hd,hs T=some hd→∀c∈hd,Nm c.1
def aFl (K:PySem.W.Frag) (n:Nat):Sp:=fun vs H Q _=>∃d v u hs q hd t,vs=[.ref d,v,u]∧fG K H d hs∧NmH hs∧IsQ K H v q∧size q≤n∧size q≤20∧HQ hs q hd∧IsT K H u t∧eX hd t∧∀v' H',Same H H'→IsQ K H' v' (sink hs q t)→Q v' H'
theorem aMy (T:Txt w K mg) (aBx:Ok P w K mg base 29 "side_for" ["heads","question","columns"] (aVf K)) (wY:Ok P w K mg base 1 "columns_of" ["test"] (aA5 K)) (cL:Ok P w K mg base 1 "questions_in" ["question"] (aKd K)) (qC:Ok P w K mg base 28 "by_inner_names" ["heads","question","test"] (aVz K)) (fV:Ok P w K mg base 1 "with_questions" ["question","inner"] (aRj K)) :
  ∀n:Nat,Ok P w K mg base (n+30) "sunk" ["heads","question","test"] (aFl K n)
 |0=>by
  refine Ok.ofV T.aSe aA8 (fun vs H Q E h=>?_) (fun f cdv A outer s H vs Q E hr h=>?_)
  ·obtain ⟨d,v,u,hs,q,hd,t,rfl,_⟩:=h;rfl
  ·obtain ⟨d,v,u,hs,q,hd,t,rfl,_,_,hq,hz,_⟩:=h
   have e:=jQ q
   have o:=nG hq
   lia
 |n+1=>by
  have aG3:=aMy T aBx wY cL qC fV n
  refine Ok.ofV T.aSe aA8 (fun vs H Q E h=>?_) (fun f cdv A outer s H vs Q E hr h=>?_)
  ·obtain ⟨d,v,u,hs,q,hd,t,rfl,_⟩:=h;rfl
  obtain ⟨d,v,u,hs,q0,hd,t,rfl,hds,hT,hq,hz,hz2,hh,hu,ht,q⟩:=h
  refine ⟨_,(aC (aV (i:=3) aA8.nd rfl (by trivial) (aJ (aBx.mono (by lia)) hr (by rfl) (aB (vv 0) (aB (vv 1) (aB (aJ (wY.mono (by lia)) hr (by rfl) (aB (vv 2) aA)) aA))))) (aC (bJ (aP aSd (vv 3) zB (aX _)) (aF (aL (bC (aB aQ (aB (vv 1) (aB (bC (aB (vv 2) aA)) aA)))))) aW) (aC (aV (i:=4) aA8.nd rfl (by trivial) (aJ (cL.mono (by lia)) hr (by rfl) (aB (vv 1) aA))) (aC (pP (aJ (aG3.mono (by lia)) hr (by rfl) (aB (vv 0) (aB (aK cG (vv 4) (vv 3) (fun _ _=>rfl)) (aB (aJ (qC.mono (by lia)) hr (by rfl) (aB (vv 0) (aB (vv 1) (aB (vv 2) aA)))) aA)))) (aMb (vv 4) (vv 3) set_list)) (aF (aL (aJ (fV.mono (by lia)) hr (by rfl) (aB (vv 1) (aB (vv 4) aA))))))))),?_⟩
  refine ⟨_,rfl,_,rfl,_,rfl,u,t,rfl,hu,fun D1 H1 s1 g1=>?_⟩
  refine ⟨d,v,D1,hs,q0,hd,bL t,rfl,hds.same s1,hq.same s1,hz2,hh,SqL.of g1,(by unfold bL;cases t.o <;> simp),fun H2 s2=>?_⟩
  have t2:=s1.trans s2
  rcases aR0 hs (bL t) q0 with e|⟨i,e⟩
  ·rw [e]
   refine ⟨_,rfl,rfl,_,rfl,cA ⟨_,rfl,_,rfl,(by show 1≤sizeLine;decide),fun p H3 _ s3 g3=>⟨(by show 3≤sizeLine;decide),fun p2 H4 _ s4 g4=>q _ _ (t2.trans (s3.trans s4)) ?_⟩⟩⟩
   rw [aTa e]
   exact .whr (SqT.of g4) (hq.same (t2.trans (s3.trans s4))) ⟨⟨p,[u],rfl,SqT.of (s4 _ _ g3),.cons (hu.same (t2.trans (s3.trans s4))) .nil⟩,(by show 1≤1;decide),(by show 1≤3;decide)⟩
  ·obtain ⟨j,k,hk,ei,ek,hkq,hkt,es⟩:=aN1 hh ht e
   rw [e]
   subst ei
   refine ⟨_,rfl,rfl,_,rfl,aZ ⟨_,rfl,v,q0,H,rfl,t2,hq,fun D3 H3 us fD s3 g3 hus=>?_⟩⟩
   have t3:=t2.trans s3
   obtain ⟨x,hx,hxq⟩:∃x,us[j]?=some x∧IsQ K H x k:=by
    have lj:j<us.length:=by
     rw [hus.len]
     exact (List.getElem?_eq_some_iff.mp ek).1
    exact ⟨us[j],List.getElem?_eq_getElem lj,mF hus (List.getElem?_eq_getElem lj) ek⟩
   have lj:j<us.length:=(List.getElem?_eq_some_iff.mp hx).1
   have kz:=cQ (aCj ek) hq
   refine ⟨_,rfl,_,rfl,_,rfl,D3,us,_,x,rfl,rfl,SqL.of g3,cD hx,_,rfl,_,rfl,_,rfl,d,v,u,hs,q0,hd,t,rfl,hds.same t3,hT,hq.same t3,hz2,hh,hu.same t3,ht,fun v4 H4 s4 h4=>?_⟩
   have t4:=t3.trans s4
   refine ⟨d,x,v4,hs,k,hk,_,rfl,hds.same t4,hT,hxq.same t4,by lia,by lia,hkq,h4,hkt,fun v5 H5 s5 h5=>?_⟩
   have t5:=t4.trans s5
   have g5:=s5 _ _ (s4 _ _ g3)
   refine ⟨_,rfl,_,rfl,D3,us,_,j,rfl,rfl,g5,aTz lj,?_⟩
   have t6:Same H (upd H5 D3 (.lst (us.set j v5))):=t2.trans (xH fD (s3.trans (s4.trans s5)))
   obtain ⟨a,xs,rfl,ha,l2,l5,lk,lk2,mk⟩:=aJx hq
   have lu:=hus.len
   refine ⟨_,rfl,_,rfl,a,D3,xs,us.set j v5,rfl,t6.aH ha,SqL.of aU,by rw [List.length_set];lia,l2,l5,fun p H7 s7 g7=>q _ _ (t6.trans s7) ?_⟩
   rw [es]
   exact mk H7 p _ _ (t6.trans s7) (by rw [List.length_set];exact lu) (aIw (fun _ _ h=>h.same (t6.trans s7)) ((h5.dO g5).same s7) hus) g7
theorem aPs {hs:Str→Option Hdr} {q:Qn} (h:∀r ts,q≠.whr r ts):move hs q=aP7 q ((kids q).map (move hs)):=by
 cases q with
 |whr q ts=>exact absurd rfl (h q ts)
 |_=>rfl
theorem aGt {hs:Str→Option Hdr} {hd:Hdr}:∀{ts:List Tst} {b:Qn},(∀t∈ts,eX hd t)→HQ hs b hd→HQ hs (ts.foldl (fun b t=>sink hs b t) b) hd
 |[],b,_,h=>h
 |t::ts,b,ht,h=>by
  rw [List.foldl_cons]
  exact aGt (fun t' h'=>ht t' (List.mem_cons_of_mem _ h')) (aNc h (ht t (List.mem_cons_self ..)))
theorem yU (hs:Str→Option Hdr):∀(ts:List Tst) (b:Qn),size (ts.foldl (fun b t=>sink hs b t) b)=size b+ts.length
 |[],b=>rfl
 |t::r,b=>by rw [List.foldl_cons,yU hs r,aEf,List.length_cons];lia
def aMt (K:PySem.W.Frag) (n:Nat):Sp:=fun vs H Q _=>∃d v hs q hd,vs=[.ref d,v]∧fG K H d hs∧NmH hs∧IsQ K H v q∧size q≤n∧size q≤20∧HQ hs q hd∧∀v' H',Same H H'→IsQ K H' v' (move hs q)→Q v' H'
theorem aJe (T:Txt w K mg) (cL:Ok P w K mg base 1 "questions_in" ["question"] (aKd K)) (fV:Ok P w K mg base 1 "with_questions" ["question","inner"] (aRj K)) (aG3:Ok P w K mg base 50 "sunk" ["heads","question","test"] (aFl K 20)) :
  ∀n:Nat,Ok P w K mg base (n+51) "moved" ["heads","question"] (aMt K n)
 |0=>by
  refine Ok.ofV T.aMx qJ (fun vs H Q E h=>?_) (fun f cdv A outer s H vs Q E hr h=>?_)
  ·obtain ⟨d,v,hs,q,hd,rfl,_⟩:=h;rfl
  ·obtain ⟨d,v,hs,q,hd,rfl,_,_,hq,hz,_⟩:=h
   have e:=jQ q
   have o:=nG hq
   lia
 |n+1=>by
  have aG0:=aJe T cL fV aG3 n
  refine Ok.ofV T.aMx qJ (fun vs H Q E h=>?_) (fun f cdv A outer s H vs Q E hr h=>?_)
  ·obtain ⟨d,v,hs,q,hd,rfl,_⟩:=h;rfl
  obtain ⟨d,v,hs,q0,hd,rfl,hds,hT,hq,hz,hz2,hh,q⟩:=h
  obtain ⟨ihds,hin,hone,hgood⟩:=hh.in
  refine ⟨_,(aC (kW (i0:=2) qJ.nd rfl (by trivial) (N:=["part","heads"]) (by trivial) (cX (aG aBb) rfl (by decide +kernel)) rfl (fJ (aJ (cL.mono (by lia)) hr (by rfl) (aB (vv 1) aA))) (fun cl s' H' fp=>⟨(aN (i:=0) (show (["part","heads"]:List Str).Nodup from by decide +kernel) rfl (Or.inl rfl)),cI,(aJ (aG0.mono (by lia)) hr (by rfl) (aB (vv 1) (aB (vv 0) aA)))⟩)) (aC (bJ (aP uW (aK aO (vv 1) aD (fun _ _=>rfl)) aQ (aX _)) (aF (aL (aJ (fV.mono (by lia)) hr (by rfl) (aB (vv 1) (aB (vv 2) aA))))) aW) (aC (aV (i:=3) qJ.nd rfl (by trivial) (aK cG (vv 2) aD (fun _ _=>rfl))) (aC (jA PassesOwn.never rfl (dC (aK aO (vv 1) aD (fun _ _=>rfl))) (aN (i:=4) qJ.nd rfl (by trivial)) (aF (aV (i:=3) qJ.nd rfl (by trivial) (aJ (aG3.mono (by lia)) hr (by rfl) (aB (vv 0) (aB (vv 3) (aB (vv 4) aA))))))) (aF (aL (vv 3))))))),?_⟩
  have lk:(kids q0).length≤2:=by cases q0 <;> simp [kids]
  dsimp only [iR,jK]
  refine uH (K:=K) (fun us=>bO (IsQ K H) us (kids q0)) (fun i H y=>∃k,(kids q0)[i]?=some k∧IsQ K H y (move hs k)) (fun e h=>?_) (fun e h=>?_) [none,some (.ref d)] ?_ rfl (fun R r=>⟨_,rfl,v,q0,H,rfl,Same.refl H,hq,fun D H1 us fD s1 gD hus=>r D H1 us s1 gD hus⟩) (fun us hus=>small (by have:=hus.len;lia)) (fun us hus i x ex H' R l sm r=>?_) fun us hus D2 H2 ys t2 g2 hly hR=>?_
  ·obtain ⟨k,h1,h2⟩:=h
   exact ⟨k,h1,h2.same e⟩
  ·obtain ⟨k,h1,h2⟩:=h
   exact ⟨k,h1,h2.dO e⟩
  ·exact cY 0 (by decide +kernel) rfl rfl (by trivial)
  ·obtain ⟨k,hk,hkq⟩:=bN hus ex
   obtain ⟨h,hh',hkh⟩:=bN hin hk
   have hkz:=cQ (aCj hk) hq
   exact ⟨_,rfl,_,rfl,d,x,hs,k,h,rfl,hds.same sm,hT,hkq.same sm,by lia,by lia,hkh,fun v' H3 s3 h3=>r _ _ s3 ⟨k,hk,h3⟩⟩
  have l1:=hus.len
  have hall:bO (IsQ K H2) ys ((kids q0).map (move hs)):=aA0 (by rw [List.length_map];lia) fun i y h e1 e2=>by
   obtain ⟨k,e3,q3⟩:=hR i y e1
   rw [List.getElem?_map,e3] at e2
   cases e2
   exact q3
  obtain ⟨a0,xs,rfl,ha,l2,l5,lk1,lk2,mk⟩:=aJx hq
  have wq:(∀r ts,q0≠.whr r ts)→∀p H3,Same H2 H3→SqT K H3 p (xs.take 1++ys++xs.drop (1+ys.length))→Q (.ref p) H3:=fun hne p H3 s3 g3=>by
   refine q _ _ (t2.trans s3) ?_
   rw [aPs hne]
   exact mk H3 p ys _ (t2.trans s3) (by lia) (hall.imp fun _ _ h=>h.same s3) g3
  have hl:ys.length+1≤xs.length:=by lia
  cases hq with
  |whr a b c=>
   rename_i q1 wv ts
   cases hin with
   |cons r1 tl=>
    cases tl
    cases hone with
    |whr hts=>
     obtain ⟨⟨p,us,rfl,hp,hus'⟩,c1,c2⟩:=c
     have hall':bO (IsQ K H2) ys [move hs q1]:=hall
     cases hall' with
     |cons y1 tl2=>
      cases tl2
      have sz:size (move hs q1)+ts.length≤20:=by rw [uG];exact hz2
      refine ⟨_,rfl,_,_,0,_,rfl,rfl,t2.aH a,at0 _ _,rfl,_,rfl,aZ ⟨_,rfl,D2,_,0,_,rfl,rfl,SqL.of g2,at0 _ _,_,rfl,_,_,2,_,rfl,rfl,t2.aH a,at2 _ _ _ _,p,rfl,⟨_,t2.aH hp⟩,xJ (xs:=us) (fun i σ H'=>Same H2 H'∧∃y l,IsQ K H' y ((ts.take i).foldl (fun b t=>sink hs b t) (move hs q1))∧σ=[some (.ref d),some (.ref a0),some (.ref D2),some y,l]) ⟨Same.refl H2,_,_,y1,rfl⟩ (fun i σ H' _ ⟨e,_⟩=>e.aH (t2.aH hp)) ?_ ?_⟩⟩
      ·rintro i x σ H' hx ⟨s3,y,l,hy,rfl⟩
       obtain ⟨t,ht,hxt⟩:=bN hus' hx
       have li:i<ts.length:=(List.getElem?_eq_some_iff.mp ht).1
       have hsz:=yU hs (ts.take i) (move hs q1)
       rw [List.length_take] at hsz
       refine ⟨_,rfl,_,rfl,_,rfl,d,y,x,hs,_,hd,t,rfl,hds.same (t2.trans s3),hT,hy,by lia,by lia,aGt (fun t' h'=>hts t' (List.mem_of_mem_take h')) (aHb r1),hxt.same (t2.trans s3),hts t (aCj ht),fun v' H4 s4 h4=>⟨s3.trans s4,v',_,?_,rfl⟩⟩
       rw [List.take_add_one,ht,Option.toList,List.foldl_append]
       exact h4
      ·rintro σ H' ⟨s3,y,l,hy,rfl⟩
       rw [hus'.len,List.take_length] at hy
       exact ⟨_,rfl,q _ _ (t2.trans s3) hy⟩
  |table a b=>exact ⟨_,rfl,_,_,0,_,rfl,rfl,t2.aH a,at0 _ _,rfl,_,rfl,cA ⟨_,rfl,_,rfl,_,D2,xs,ys,rfl,t2.aH ha,SqL.of g2,hl,l2,l5,wq (fun _ _ z=>by cases z)⟩⟩
  |keep a b c=>exact ⟨_,rfl,_,_,0,_,rfl,rfl,t2.aH a,at0 _ _,rfl,_,rfl,cA ⟨_,rfl,_,rfl,_,D2,xs,ys,rfl,t2.aH ha,SqL.of g2,hl,l2,l5,wq (fun _ _ z=>by cases z)⟩⟩
  |nmd a b c=>exact ⟨_,rfl,_,_,0,_,rfl,rfl,t2.aH a,at0 _ _,rfl,_,rfl,cA ⟨_,rfl,_,rfl,_,D2,xs,ys,rfl,t2.aH ha,SqL.of g2,hl,l2,l5,wq (fun _ _ z=>by cases z)⟩⟩
  |join a b c e=>exact ⟨_,rfl,_,_,0,_,rfl,rfl,t2.aH a,at0 _ _,rfl,_,rfl,cA ⟨_,rfl,_,rfl,_,D2,xs,ys,rfl,t2.aH ha,SqL.of g2,hl,l2,l5,wq (fun _ _ z=>by cases z)⟩⟩
  |group a b c e=>exact ⟨_,rfl,_,_,0,_,rfl,rfl,t2.aH a,at0 _ _,rfl,_,rfl,cA ⟨_,rfl,_,rfl,_,D2,xs,ys,rfl,t2.aH ha,SqL.of g2,hl,l2,l5,wq (fun _ _ z=>by cases z)⟩⟩
  |first a b c e=>exact ⟨_,rfl,_,_,0,_,rfl,rfl,t2.aH a,at0 _ _,rfl,_,rfl,cA ⟨_,rfl,_,rfl,_,D2,xs,ys,rfl,t2.aH ha,SqL.of g2,hl,l2,l5,wq (fun _ _ z=>by cases z)⟩⟩
def aRs (K:PySem.W.Frag):Sp:=fun vs H Q _=>∃d v hs q hd,vs=[.ref d,v]∧fG K H d hs∧NmH hs∧IsQ K H v q∧size q≤20∧HQ hs q hd∧∀v' H',Same H H'→IsQ K H' v' (move hs q)→Q v' H'
theorem aRe (T:Txt w K mg) (nJ:Ok P w K mg base 27 "head_of" ["heads","question"] (aJb K)) (aG0:Ok P w K mg base 71 "moved" ["heads","question"] (aMt K 20)):Ok P w K mg base 72 "early" ["heads","question"] (aRs K):=by
 refine Ok.ofV T.aUb aQd (fun vs H Q E h=>?_) (fun f cdv A outer s H vs Q E hr h=>?_)
 ·obtain ⟨d,v,hs,q,hd,rfl,_⟩:=h;rfl
 obtain ⟨d,v,hs,q0,hd,rfl,hds,hT,hq,hz,hh,q⟩:=h
 refine ⟨_,(aC (eF (aJ (nJ.mono (by decide)) hr (by rfl) (aB (vv 0) (aB (vv 1) aA)))) (aF (aL (aJ (aG0.mono (by decide)) hr (by rfl) (aB (vv 0) (aB (vv 1) aA)))))),?_⟩
 exact ⟨_,rfl,_,rfl,d,v,hs,q0,hd,rfl,hds,hq,hz,hh,fun v1 H1 s1 _=>⟨_,rfl,_,rfl,d,v,hs,q0,hd,rfl,hds.same s1,hT,hq.same s1,hz,hz,hh,fun v' H2 s2 h2=>q _ _ (s1.trans s2) h2⟩⟩
theorem aN2 {z:Str} {j:Int} (h0:0≤j) (h1:j<z.length):∃c,z.cps[j.toNat]?=some c:=
 ⟨_,Array.getElem?_eq_getElem (by show j.toNat<z.length;lia)⟩
theorem aGp (x y:Str):(x++y).length=x.length+y.length:=by
 show (x.cps++y.cps).size=_
 rw [Array.size_append]
 rfl
theorem at_of {xs:List V} {j:Int} (h0:0≤j) (h1:j<xs.length):∃v,atI xs j=some v∧v∈xs:=by
 have hj:j.toNat<xs.length:=by lia
 refine ⟨xs[j.toNat],?_,List.getElem_mem hj⟩
 have e2:atI xs ((j.toNat:Nat):Int)=some xs[j.toNat]:=cD (List.getElem?_eq_getElem hj)
 rw [show ((j.toNat:Nat):Int)=j by lia] at e2
 exact e2
def Lets (x:Str):Prop:=∀c∈x.cps,97≤c∧c≤122
theorem aTd:∀k:_root_.Fin 26,inA ⟨#[97+k.val]⟩=true:=by decide +kernel
theorem aX1 {c:Nat} (h1:97≤c) (h2:c≤122):inA ⟨#[c]⟩=true:=by
 have:=aTd ⟨c - 97,by lia⟩
 simp only at this
 rw [show 97+(c - 97)=c by lia] at this
 exact this
theorem allIn_of {x:Str} (h:Lets x):allIn x=true:=by
 unfold allIn
 rw [List.all_eq_true]
 intro b hb
 obtain ⟨i,hi,rfl⟩:=List.mem_map.mp hb
 have hi':i<x.cps.size:=List.mem_range.mp hi
 have e:x.cps.getD i 0=x.cps[i]:=by rw [Array.getD_eq_getD_getElem?,Array.getElem?_eq_getElem hi'];rfl
 obtain ⟨h1,h2⟩:=h _ (Array.getElem_mem hi')
 show inA (sgn x i)=true
 unfold sgn
 rw [e]
 exact aX1 h1 h2
theorem Lets.add {x y:Str} (hx:Lets x) (hy:Lets y):Lets (x++y):=fun c hc=>by
 have hc:c∈x.cps++y.cps:=hc
 rcases Array.mem_append.mp hc with h|h
 ·exact hx c h
 ·exact hy c h
theorem Lets.one {z:Str} {i c:Nat} (hz:Lets z) (h:z.cps[i]?=some c):Lets ⟨#[c]⟩:=fun d hd=>by
 have hd:d∈#[c]:=hd
 have e:d=c:=by simpa using hd
 subst e
 exact hz _ (Array.mem_of_getElem? h)
theorem aKf:Lets abc:=by
 have h:(abc.cps.all fun c=>decide (97≤c) && decide (c≤122))=true:=by decide +kernel
 intro c hc
 have:=(Array.all_eq_true_iff_forall_mem.mp h) c hc
 rw [Bool.and_eq_true] at this
 exact ⟨of_decide_eq_true this.1,of_decide_eq_true this.2⟩
inductive aBy:Str→V→Prop
 |num {i}:aBy "number" (.int i)
 |wrd {x}:Lets x→x.length≤8→aBy "word" (.str x)
def aGr (K:PySem.W.Frag):Sp:=fun vs H Q _=>∃(a:Addr) (ns:List Int),vs=[.ref a]∧SqL K H a (ns.map V.int)∧ns.length≤63∧∀c H',Same H H'→0≤c→c<M61→Q (.int c) H'
theorem aFv (T:Txt w K mg):Ok P w K mg base 1 "_law_seed" ["_law_script"] (aGr K):=by
 refine Ok.ofV T.aKb jN (fun vs H Q E h=>?_) (fun f cdv A outer s H vs Q E hr h=>?_)
 ·obtain ⟨a,ns,rfl,_⟩:=h;rfl
 obtain ⟨a,ns,rfl,ha,h63,q⟩:=h
 refine ⟨_,(aC (aV (i:=1) jN.nd rfl (by trivial) aD) (aC (jA PassesOwn.never rfl (aUh (by rfl) T.aJ0 (aB (vv 0) aA)) (lM rfl (bA (aN (i:=2) jN.nd rfl (by trivial)) (bA (aN (i:=3) jN.nd rfl (by trivial)) cO))) (aF (aV (i:=1) jN.nd rfl (by trivial) (bU tX (bU eY (bU eY (bU eY (bU aCw (vv 1) aD) (bU tX (vv 3) (bU aLi aD aD))) (bU aCw aD (vv 2))) aD) aD)))) (aF (aL (vv 1))))),?_⟩
 refine ⟨_,rfl,a,ns.map V.int,rfl,ha,aSj (fun i σ H'=>Same H H'∧∃(c:Int) (l2 l3:Option V),0≤c∧c<M61∧σ=[some (.ref a),some (.int c),l2,l3]) ⟨Same.refl H,7,_,_,by decide,by decide,rfl⟩ (fun i σ H' _ ⟨e,_⟩=>e.seq ha) ?_ ?_⟩
 ·rintro i σ H' x Tp H'' ex ⟨sm,c,l2,l3,c0,c1,rfl⟩ hT rfl
  obtain ⟨z,hz,rfl⟩:=eO ex
  refine ⟨Tp,_,rfl,SqT.of aU,rfl,_,_,rfl,_,_,rfl,rfl,?_⟩
  refine ⟨_,rfl,_,_,rfl,rfl,.inr ⟨by decide,by decide⟩,_,rfl,_,_,rfl,rfl,⟨by decide,by decide,by decide⟩,_,_,rfl,rfl,(by show (0:Int)<10 ^ 30;decide),_,_,rfl,rfl,_,rfl,_,_,rfl,rfl,.inl ⟨by decide,by decide⟩,_,_,rfl,rfl,_,_,rfl,rfl,_,_,rfl,rfl,(by show (0:Int)<2305843009213693951;decide),?_⟩
  exact ⟨sm.trans (bR hT _),_,_,_,Int.emod_nonneg _ (by decide),Int.emod_lt_of_pos _ (by decide),rfl⟩
 ·rintro σ H' ⟨sm,c,l2,l3,c0,c1,rfl⟩
  exact ⟨_,rfl,q c H' sm c0 c1⟩
def iC:Sp:=fun vs H Q _=>∃(a:Addr) (m:Int),vs=[.ref a,.int m]∧mJ H a∧(0<m∧m<2 ^ 64)∧∀c H',Fx a H H'→0≤c→c<m→Q (.int c) H'
theorem aFi (T:Txt w K mg):Ok P w K mg base 1 "_law_next" ["_law_state","_law_many"] iC:=by
 refine Ok.ofV T.aIt wZ (fun vs H Q E h=>?_) (fun f cdv A outer s H vs Q E hr h=>?_)
 ·obtain ⟨a,m,rfl,_⟩:=h;rfl
 obtain ⟨a,m,rfl,⟨st,dg,hs,s0,d0⟩,⟨hm,hm2⟩,q⟩:=h
 refine ⟨_,(aC (bJ (aP aNw (aK cG (vv 0) aD (fun _ _=>rfl)) aD (aX _)) (aC (pP (aY aOe (by rfl) T.aRq aP0 (aB (aK cG (vv 0) aD (fun _ _=>rfl)) (aB (vv 1) aA))) (lM rfl (bA (aMb (vv 0) aD set_list) (bA (aN (i:=2) wZ.nd rfl (by trivial)) cO)))) (aF (aL (vv 2)))) aW) (aC (pP (bU tX (bU eY (bU aCw (aK cG (vv 0) aD (fun _ _=>rfl)) aD) aD) aD) (aMb (vv 0) aD set_list)) (aF (aL (bU tX (bU aN4 (aK cG (vv 0) aD (fun _ _=>rfl)) aD) (vv 1)))))),?_⟩
 refine ⟨_,rfl,a,_,1,_,rfl,rfl,SqL.of hs,at1 _ _ _,_,_,rfl,rfl,_,rfl,jJ (fun c=>?_) fun c=>?_⟩
 ·refine ⟨_,rfl,a,_,1,_,rfl,rfl,SqL.of hs,at1 _ _ _,_,rfl,_,_,rfl,⟨hm,hm2⟩,fun p H1 fp s1 g1=>?_⟩
  refine ⟨p,_,rfl,SqT.of g1,rfl,_,_,rfl,⟨_,rfl,a,_,1,1,rfl,rfl,s1 _ _ hs,rfl,?_⟩⟩
  refine ⟨_,_,rfl,rfl,_,rfl,?_⟩
  exact q _ _ ⟨fun b o n h=>by rw [bH n];exact s1 _ _ h,st,dg / m,aU,s0,Int.ediv_nonneg d0 (by lia)⟩ (Int.emod_nonneg _ (by lia)) (Int.emod_lt_of_pos _ hm)
 ·refine ⟨_,rfl,a,_,0,_,rfl,rfl,SqL.of hs,at0 _ _,_,_,rfl,rfl,.inr ⟨by decide,by decide⟩,_,_,rfl,rfl,_,_,rfl,rfl,(by show (0:Int)<2305843009213693951;decide),?_⟩
  refine ⟨_,rfl,a,_,0,0,rfl,rfl,hs,rfl,?_⟩
  refine ⟨_,rfl,a,[.int ((st * 1181783497276652981+12345678910987) % 2305843009213693951),.int dg],0,_,rfl,rfl,SqL.of aU,at0 _ _,_,_,rfl,rfl,⟨by decide,by decide⟩,_,rfl,_,_,rfl,rfl,hm,?_⟩
  exact q _ _ ⟨fun b o n h=>by rw [bH n];exact h,(st * 1181783497276652981+12345678910987) % 2305843009213693951,dg,aU,⟨Int.emod_nonneg _ (by decide),Int.emod_lt_of_pos _ (by decide)⟩,d0⟩ (Int.emod_nonneg _ (by lia)) (Int.emod_lt_of_pos _ hm)
def aIf (K:PySem.W.Frag):Sp:=fun vs H Q _=>∃(a:Addr) (ns:List Int),vs=[.ref a]∧SqL K H a (ns.map V.int)∧ns.length≤63∧∀p H',H p=none→Same H H'→mJ H' p→Q (.ref p) H'
theorem aDn (T:Txt w K mg) (aIg:Ok P w K mg base 1 "_law_seed" ["_law_script"] (aGr K)):Ok P w K mg base 2 "_law_begin" ["_law_script"] (aIf K):=by
 refine Ok.ofV T.aHn pQ (fun vs H Q E h=>?_) (fun f cdv A outer s H vs Q E hr h=>?_)
 ·obtain ⟨a,ns,rfl,_⟩:=h;rfl
 obtain ⟨a,ns,rfl,ha,h63,q⟩:=h
 refine ⟨_,(aC (aV (i:=1) pQ.nd rfl (by trivial) aD) (aC (bJ (VW.pt (aCi (aP aNw (aY bB (by rfl) T.dG cJ (aB (vv 0) aA)) aD (aX _)) (aAx (aP bY (bU tX (aK cG (vv 0) aD (fun _ _=>rfl)) aD) aD (aX _))))) (aF (aV (i:=1) pQ.nd rfl (by trivial) (bU aN4 (aY aRl (by rfl) T.aYm aX5 (aB (aK cG (vv 0) aD (fun _ _=>rfl)) aA)) aD))) aW) (aF (aL (cP (aB (aJ (aIg.mono (by decide)) hr (by rfl) (aB (vv 0) aA)) (aB (vv 1) aA))))))),?_⟩
 have fin:∀dg:Int,0≤dg→∀(σ:L2.St),σ=[some (.ref a),some (.int dg)]→(aAs (aVu (fP (rY (aGr K) [] E0 (fP (wA 0) aKk)) (fP (wA 1) aKk)))) { nx:=fun _ H'=>Q V.non H',rt:=Q } σ H:=by
  rintro dg d0 σ rfl
  exact ⟨_,rfl,a,ns,rfl,ha,h63,fun c H1 s1 c0 c1=>⟨_,rfl,(by show 2≤sizeLine;decide),fun p H2 fp s2 g2=>q p H2 (s1.free fp) (s1.trans s2) ⟨c,dg,g2,⟨c0,c1⟩,d0⟩⟩⟩
 refine ⟨_,rfl,a,_,rfl,.inl ha,_,_,rfl,rfl,_,rfl,?_⟩
 cases ns with
 |nil=>exact aZ (fin 0 (by decide) _ rfl)
 |cons n r=>
  have e1:decide ((0:Int)<((n::r).map V.int).length)=true:=decide_eq_true (by simp)
  rw [show (decide (((((n::r).map V.int).length:Nat):Int) > 0))=true from e1]
  refine cA ⟨_,rfl,a,_,0,.int n,rfl,rfl,ha,at0 _ _,_,_,rfl,rfl,(by show (0:Int)<2;decide),rfl,_,rfl,jJ (fun c=>?_) fun c=>?_⟩
  ·exact ⟨_,rfl,a,_,0,.int n,rfl,rfl,ha,at0 _ _,_,rfl,_,_,rfl,rfl,⟨by decide,by decide⟩,fin _ (Int.ediv_nonneg (by split <;> lia) (by decide)) _ rfl⟩
  ·exact fin 0 (by decide) _ rfl
def aJl:Sp:=fun vs H Q _=>∃a:Addr,vs=[.ref a]∧mJ H a∧∀i H',Fx a H H'→Q (.int i) H'
theorem aDs (T:Txt w K mg) (aM:Ok P w K mg base 1 "_law_next" ["_law_state","_law_many"] iC):Ok P w K mg base 2 "_law_great" ["_law_state"] aJl:=by
 refine Ok.ofV T.aGu lU (fun vs H Q E h=>?_) (fun f cdv A outer s H vs Q E hr h=>?_)
 ·obtain ⟨a,rfl,_⟩:=h;rfl
 obtain ⟨a,rfl,hs,q⟩:=h
 refine ⟨_,(aC (aV (i:=1) lU.nd rfl (by trivial) aD) (aC (jA PassesOwn.never rfl (fK (by rfl) T.kI (aB aD aA)) (aN (i:=2) lU.nd rfl (by trivial)) (aF (aV (i:=1) lU.nd rfl (by trivial) (bU eY (bU aCw (vv 1) (bU aLi aD aD)) (aJ (aM.mono (by decide)) hr (by rfl) (aB (vv 0) (aB (bU aLi aD aD) aA))))))) (aF (aL (aK cG (cP (aB (vv 1) (aB (bU aBf aD (vv 1)) aA))) (aJ (aM.mono (by decide)) hr (by rfl) (aB (vv 0) (aB aD aA))) (fun _ _=>rfl)))))),?_⟩
 refine ⟨_,rfl,by decide,by decide,jF (n:=4) (fun i σ H'=>Fx a H H'∧∃(c:Int) (l2:Option V),σ=[some (.ref a),some (.int c),l2]) ⟨.refl hs,0,_,rfl⟩ ?_ ?_⟩
 ·rintro i σ H' hi ⟨fx,c,l2,rfl⟩
  refine ⟨_,rfl,_,_,rfl,rfl,⟨by decide,by decide,by decide⟩,_,_,rfl,rfl,.inr ⟨by decide,by decide⟩,_,rfl,_,_,rfl,rfl,⟨by decide,by decide,by decide⟩,a,_,rfl,fx.st,(by show (0:Int)<10 ^ 15∧(10:Int) ^ 15<2 ^ 64;decide),fun d H1 f1 _ _=>?_⟩
  exact ⟨_,_,rfl,rfl,fx.trans f1,_,_,rfl⟩
 ·rintro σ H' ⟨fx,c,l2,rfl⟩
  refine ⟨_,rfl,_,rfl,_,_,rfl,rfl,(by show 2≤sizeLine;decide),fun p H1 fp s1 g1=>?_⟩
  refine ⟨_,rfl,a,2,rfl,fx.st.same s1,by decide,fun d H2 f2 d0 d1=>?_⟩
  obtain ⟨v,hv,mv⟩:=at_of (xs:=[.int c,.int (0 - c)]) d0 (by show d<2;lia)
  refine ⟨p,_,_,v,rfl,rfl,SqL.of (f2.same _ _ (fx.st.ne fp) g1),hv,?_⟩
  simp only [List.mem_cons,List.not_mem_nil,or_false] at mv
  rcases mv with rfl|rfl
  ·exact q _ _ ((fx.sm s1).trans f2)
  ·exact q _ _ ((fx.sm s1).trans f2)
abbrev aL1:List V:=[.str "",.str "a",.str "b",.str "ab"]
def zM (k:Str):Prop:=k = "number"∨k = "word"
def aNs:Sp:=fun vs H Q _=>∃(a:Addr) (kd:Str),vs=[.ref a,.str kd]∧mJ H a∧zM kd∧∀v H',Fx a H H'→aBy kd v→Q v H'
theorem aL5 {v:V} (h:v∈aL1):aBy "word" v:=by
 simp only [aL1,List.mem_cons,List.not_mem_nil,or_false] at h
 have le:∀x:Str,(x.cps.all fun c=>decide (97≤c) && decide (c≤122))=true→Lets x:=fun x hx c hc=>by
  have:=(Array.all_eq_true_iff_forall_mem.mp hx) c hc
  rw [Bool.and_eq_true] at this
  exact ⟨of_decide_eq_true this.1,of_decide_eq_true this.2⟩
 rcases h with rfl|rfl|rfl|rfl
 ·exact .wrd (le _ (by decide +kernel)) (by decide +kernel)
 ·exact .wrd (le _ (by decide +kernel)) (by decide +kernel)
 ·exact .wrd (le _ (by decide +kernel)) (by decide +kernel)
 ·exact .wrd (le _ (by decide +kernel)) (by decide +kernel)
theorem aDm (T:Txt w K mg) (aM:Ok P w K mg base 1 "_law_next" ["_law_state","_law_many"] iC) (aHp:Ok P w K mg base 2 "_law_great" ["_law_state"] aJl):Ok P w K mg base 3 "_law_value" ["_law_state","_law_kind"] aNs:=by
 refine Ok.ofV T.aFf iQ (fun vs H Q E h=>?_) (fun f cdv A outer s H vs Q E hr h=>?_)
 ·obtain ⟨a,kd,rfl,_⟩:=h;rfl
 obtain ⟨a,kd,rfl,hs,hk,q⟩:=h
 refine ⟨_,(aC (aV (i:=2) iQ.nd rfl (by trivial) (aJ (aM.mono (by decide)) hr (by rfl) (aB (vv 0) (aB aD aA)))) (aC (bJ (aP bY (vv 1) aQ (aX _)) (aF (aL (aK cG (cP (aB (bU aBf (aJ (aM.mono (by decide)) hr (by rfl) (aB (vv 0) (aB aD aA))) aD) (aB (aJ (aHp.mono (by decide)) hr (by rfl) (aB (vv 0) aA)) aA))) (bD pZ (by rfl) T.aD8 zZ (aB (fH bY (vv 2) aD (aX _)) aA)) (fun _ _=>rfl)))) aW) (aC (bJ (aP aNf (vv 2) aD (aX _)) (aF (aL (aK cG (cP (aB aQ (aB aQ (aB aQ (aB aQ aA))))) (bU tX (vv 2) aD) (fun _ _=>rfl)))) aW) (aC (aV (i:=3) iQ.nd rfl (by trivial) aQ) (aC (jA PassesOwn.never rfl (fK (by rfl) T.kI (aB (aJ (aM.mono (by decide)) hr (by rfl) (aB (vv 0) (aB aD aA))) aA)) (aN (i:=4) iQ.nd rfl (by trivial)) (aF (aV (i:=3) iQ.nd rfl (by trivial) (bU qZ (vv 3) (pG aQ (aJ (aM.mono (by decide)) hr (by rfl) (aB (vv 0) (aB aD aA))) (fun _ _=>rfl)))))) (aF (aL (vv 3)))))))),?_⟩
 refine ⟨_,rfl,a,10,rfl,hs,by decide,fun way H1 f1 w0 w1=>?_⟩
 rcases hk with rfl|rfl
 ·refine ⟨_,rfl,rfl,_,rfl,cA ?_⟩
  refine ⟨_,rfl,a,4,rfl,f1.st,by decide,fun d H2 f2 d0 d1=>?_⟩
  refine ⟨_,_,rfl,rfl,_,rfl,a,rfl,f2.st,fun g H3 f3=>?_⟩
  refine ⟨(by show 2≤sizeLine;decide),fun p H4 _ s4 g4=>?_⟩
  have fx:=(f1.trans (f2.trans f3)).sm s4
  refine ⟨_,rfl,rfl,.inr ⟨_,rfl,?_⟩⟩
  by_cases e:way=9
  ·rw [decide_eq_true (congrArg V.int e)]
   exact ⟨p,_,_,_,rfl,rfl,SqL.of g4,cD (j:=1) rfl,q _ _ fx .num⟩
  ·rw [decide_eq_false (by intro z;exact e (V.int.inj z))]
   exact ⟨p,_,_,_,rfl,rfl,SqL.of g4,cD (j:=0) rfl,q _ _ fx .num⟩
 ·refine ⟨_,rfl,rfl,_,rfl,aZ ?_⟩
  refine ⟨_,rfl,_,_,rfl,rfl,_,rfl,jJ (fun _=>?_) (fun _=>?_)⟩
  ·refine ⟨(by show 4≤sizeLine;decide),fun p H4 _ s4 g4=>?_⟩
   obtain ⟨v,hv,mv⟩:=at_of (xs:=aL1) (j:=way % 4) (by lia) (by show way % 4<4;lia)
   exact ⟨_,rfl,_,_,rfl,rfl,(by show (0:Int)<4;decide),p,_,_,v,rfl,rfl,SqL.of g4,hv,q _ _ (f1.sm s4) (aL5 mv)⟩
  ·refine ⟨_,rfl,a,9,rfl,f1.st,by decide,fun n H2 f2 n0 n1=>?_⟩
   refine ⟨_,rfl,by lia,by lia,jF (n:=n.toNat) (fun i σ H'=>Fx a H H'∧∃(x:Str) (l4:Option V),σ=[some (.ref a),some (.str "word"),some (.int way),some (.str x),l4]∧x.length≤i∧Lets x) ⟨f1.trans f2,_,_,rfl,by decide +kernel,fun d hd=>by simp [show (("":Str).cps)=#[] from rfl] at hd⟩ ?_ ?_⟩
   ·rintro i σ H' hi ⟨fx,x,l4,rfl,hl,hx⟩
    have al:abc.length=26:=by decide +kernel
    refine ⟨_,rfl,_,rfl,a,26,rfl,fx.st,by decide,fun d H3 f3 d0 d1=>?_⟩
    obtain ⟨ch,hch⟩:=aN2 (z:=abc) d0 (by rw [al];exact d1)
    refine ⟨_,_,_,rfl,rfl,d0,(by lia),(by rw [al];exact d1),hch,_,_,rfl,rfl,?_,fx.trans f3,_,_,rfl,?_,hx.add (aKf.one hch)⟩
    ·show x.length+1≤sizeLine
     exact small (by lia)
    ·rw [aGp]
     show x.length+1≤i+1
     lia
   ·rintro σ H' ⟨fx,x,l4,rfl,hl,hx⟩
    exact ⟨_,rfl,q _ _ fx (.wrd hx (by lia))⟩
def aD4:Sp:=fun vs H Q _=>vs=[]∧∀p H',H p=none→Same H H'→H' p=some (.lst words)→Q (.ref p) H'
theorem aDr (T:Txt w K mg):Ok P w K mg base 1 "_law_words" [] aD4:=by
 refine Ok.ofV T.aFy uT (fun vs H Q E h=>?_) (fun f cdv A outer s H vs Q E hr h=>?_)
 ·obtain ⟨rfl,_⟩:=h;rfl
 obtain ⟨rfl,q⟩:=h
 refine ⟨_,(aC (aV (i:=0) uT.nd rfl (by trivial) (cP (aB aQ (aB aQ (aB aQ (aB aQ (aB aQ (aB aQ (aB aQ (aB aQ (aB aQ aA))))))))))) (aF (aL (bU aB2 (vv 0) (cP (aB aQ (aB aQ (aB aQ (aB aQ (aB aQ (aB aQ (aB aQ (aB aQ aA))))))))))))),?_⟩
 refine ⟨(by show 9≤sizeLine;decide),fun p1 H1 _ s1 g1=>?_⟩
 refine ⟨_,rfl,(by show 8≤sizeLine;decide),fun p2 H2 _ s2 g2=>?_⟩
 exact ⟨p1,p2,_,_,rfl,rfl,s2 _ _ g1,g2,(by show 9+8≤sizeLine;decide),fun p H3 f3 s3 g3=>q p H3 ((s1.trans s2).free f3) (s1.trans (s2.trans s3)) g3⟩
def mR (ns:List Str):Prop:=ns.length=17∧(∀n∈ns,Nm n)∧ns.Nodup
theorem mR.rev {ns:List Str} (h:mR ns):mR ns.reverse:=⟨by rw [List.length_reverse];exact h.1,fun n hn=>h.2.1 n (List.mem_reverse.mp hn),List.pairwise_reverse.mpr (h.2.2.imp fun q=>Ne.symm q)⟩
theorem aWe:∀j:_root_.Fin 26,abc.cps[j.val]?=some (97+j.val):=by decide +kernel
theorem aUo {j:Nat} (h:j<26):abc.cps[j]?=some (97+j):=aWe ⟨j,h⟩
def sgl (o:Nat):List Str:=(List.range 17).map fun k=>⟨#[97+(o+k)]⟩
theorem aNx:∀o:_root_.Fin 10,((sgl o.val).all fun n=>nameB (.str n))=true∧(Txt.slice abc (some (o.val:Int)) (some ((o.val:Int)+17))).cps.size=17∧((List.range 17).all fun i=>decide (sgn (Txt.slice abc (some (o.val:Int)) (some ((o.val:Int)+17))) i=⟨#[97+(o.val+i)]⟩))=true:=by decide +kernel
theorem aQq {a b:Nat} (h:(⟨#[a]⟩:Str)=⟨#[b]⟩):a=b:=by
 have:=congrArg (fun x:Str=>x.cps.toList) h
 simpa using this
theorem aRb {o:Nat} (h:o<10):mR (sgl o):=by
 refine ⟨by simp [sgl],fun n hn=>?_,?_⟩
 ·have:=(aNx ⟨o,h⟩).1
  rw [List.all_eq_true] at this
  exact this n hn
 ·refine List.pairwise_map.mpr (List.Pairwise.imp_of_mem ?_ List.nodup_range)
  intro k l _ _ ne e
  have:=aQq e
  exact ne (by lia)
theorem aTf {o:Nat} (h:o<10):((List.range (Txt.slice abc (some (o:Int)) (some ((o:Int)+17))).cps.size).map fun i=>V.str (sgn (Txt.slice abc (some (o:Int)) (some ((o:Int)+17))) i))=(sgl o).map V.str:=by
 obtain ⟨_,h2,h3⟩:=aNx ⟨o,h⟩
 have h2:(Txt.slice abc (some (o:Int)) (some ((o:Int)+17))).cps.size=17:=h2
 rw [h2]
 unfold sgl
 rw [List.map_map]
 refine List.map_congr_left fun i hi=>?_
 rw [List.all_eq_true] at h3
 have:=of_decide_eq_true (h3 i hi)
 show V.str _=V.str _
 exact congrArg V.str this
def stm (b:Str) (a o:Nat):Nat→List Str:=fun i=>(List.range i).map fun k=>put b a (97+(o+k))
theorem aV1 {b:Str} {a o:Nat} (hb:Lets b) (hl:b.length≤7) (ha:a≤b.length) (ho:o<10) (hw:∀w∈words,inV w ((stm b a o 17).map V.str)=false):mR (stm b a o 17):=by
 refine ⟨by simp [stm],fun n hn=>?_,?_⟩
 ·obtain ⟨k,hk,rfl⟩:=List.mem_map.mp hn
  have hk:=List.mem_range.mp hk
  have hin:inV (.str (put b a (97+(o+k)))) words=false:=by
   cases e:inV (.str (put b a (97+(o+k)))) words with
   |false=>rfl
   |true=>
    exfalso
    unfold inV at e
    rw [List.any_eq_true] at e
    obtain ⟨v,hv,ev⟩:=e
    have hvs:∃z:Str,v=.str z:=by
     simp only [words,List.mem_cons,List.not_mem_nil,or_false] at hv
     rcases hv with rfl|rfl|rfl|rfl|rfl|rfl|rfl|rfl|rfl|rfl|rfl|rfl|rfl|rfl|rfl|rfl|rfl <;> exact ⟨_,rfl⟩
    obtain ⟨z,rfl⟩:=hvs
    have e2:(z == put b a (97+(o+k)))=true:=ev
    have e3:z=put b a (97+(o+k)):=by simpa using e2
    have:=hw _ hv
    rw [nH,decide_eq_false_iff_not] at this
    exact this (by rw [e3];exact hn)
  show ((decide (1≤(put b a (97+(o+k))).length) && (decide ((put b a (97+(o+k))).length≤8) && allIn (put b a (97+(o+k))))) && !inV (.str (put b a (97+(o+k)))) words)=true
  have hL:Lets (put b a (97+(o+k))):=fun c hc=>by
   rcases aTj ha hc with rfl|z
   ·lia
   ·exact hb c z
  rw [aUa ha,decide_eq_true (p:=1≤b.length+1) (by lia),decide_eq_true (p:=b.length+1≤8) (by lia),allIn_of hL,hin]
  rfl
 ·refine List.pairwise_map.mpr (List.Pairwise.imp_of_mem ?_ List.nodup_range)
  intro k l _ _ ne e
  have:=aT3 ha e
  exact ne (by lia)
def aQg:Sp:=fun vs H Q _=>∃a:Addr,vs=[.ref a,.int 17]∧mJ H a∧∀p H' ns,Fx a H H'→H p=none→H' p=some (.lst (ns.map V.str))→mR ns→Q (.ref p) H'
theorem aDv (T:Txt w K mg) (aM:Ok P w K mg base 1 "_law_next" ["_law_state","_law_many"] iC) (aGs:Ok P w K mg base 1 "_law_words" [] aD4):Ok P w K mg base 2 "_law_names" ["_law_state","_law_many"] aQg:=by
 refine Ok.ofV T.aG1 cR (fun vs H Q E h=>?_) (fun f cdv A outer s H vs Q E hr h=>?_)
 ·obtain ⟨a,rfl,_⟩:=h;rfl
 obtain ⟨a,rfl,hs,q⟩:=h
 refine ⟨_,(aC (aV (i:=2) cR.nd rfl (by trivial) aQ) (aC (aV (i:=3) cR.nd rfl (by trivial) (aJ (aM.mono (by decide)) hr (by rfl) (aB (vv 0) (aB (bU aBf aD (vv 1)) aA)))) (aC (aV (i:=4) cR.nd rfl (by trivial) aQ) (aC (jA PassesOwn.never rfl (fK (by rfl) T.kI (aB (aJ (aM.mono (by decide)) hr (by rfl) (aB (vv 0) (aB aD aA))) aA)) (aN (i:=5) cR.nd rfl (by trivial)) (aF (aV (i:=4) cR.nd rfl (by trivial) (bU qZ (vv 4) (pG (vv 2) (aJ (aM.mono (by decide)) hr (by rfl) (aB (vv 0) (aB aD aA))) (fun _ _=>rfl)))))) (aC (aV (i:=6) cR.nd rfl (by trivial) (aJ (aM.mono (by decide)) hr (by rfl) (aB (vv 0) (aB (bU eY (aY yK (by rfl) T.dG cJ (aB (vv 4) aA)) aD) aA)))) (aC (aV (i:=7) cR.nd rfl (by trivial) (cP aA)) (aC (jA PassesOwn.never rfl (fK (by rfl) T.kI (aB (vv 1) aA)) (aN (i:=5) cR.nd rfl (by trivial)) (aF (eF (uX PySem.F.plainAttrs_list PySem.F.slot_list_append PySem.F.type_list_append lO (vv 7) (aB (bU qZ (bU qZ (dD aFh (vv 4) fZ (dJ (vv 6))) (pG (vv 2) (bU eY (vv 3) (vv 5)) (fun _ _=>rfl))) (dD aFh (vv 4) (dJ (vv 6)) fZ)) aA))))) (aC (bJ (eG (aY (aQk rfl) (by rfl) T.aY1 aW1 (aB (bZ (N:=["_law_word","_law_names_here"]) (by trivial) (cX (aG mW) rfl (by decide +kernel)) rfl (fJ (aW3 (aGs.mono (by decide)) hr (by rfl))) (fun cl s' H' fp=>⟨(aN (i:=0) (show (["_law_word","_law_names_here"]:List Str).Nodup from by decide +kernel) rfl (Or.inl rfl)),cI,(fH (wB (K:=K)) (vv 0) (vv 1) (by with_unfolding_all rfl))⟩)) aA))) (aF (aV (i:=7) cR.nd rfl (by trivial) (bD (aMp rfl) (by rfl) T.yX uM (aB (dD aFh (vv 2) (dJ (vv 3)) (dJ (bU eY (vv 3) (vv 1)))) aA)))) aW) (aC (bJ (aP bY (aJ (aM.mono (by decide)) hr (by rfl) (aB (vv 0) (aB aD aA))) aD (aX _)) (aF (eF (aL6 PySem.F.plainAttrs_list PySem.F.slot_list_reverse PySem.F.type_list_reverse aAe (vv 7)))) aW) (aF (aL (vv 7)))))))))))),?_⟩
 have al:abc.length=26:=by decide +kernel
 refine ⟨_,rfl,_,rfl,_,_,rfl,rfl,a,10,rfl,hs,by decide,fun od H1 f1 o0 o1=>?_⟩
 obtain ⟨o,rfl⟩:∃o:Nat,od=o:=⟨od.toNat,by lia⟩
 have ho:o<10:=by lia
 refine ⟨_,rfl,a,8,rfl,f1.st,by decide,fun n H2 f2 n0 n1=>?_⟩
 refine ⟨_,rfl,by lia,by lia,jF (n:=n.toNat) (fun i σ H'=>Fx a H H'∧∃(x:Str) (l5:Option V),σ=[some (.ref a),some (.int 17),some (.str abc),some (.int (o:Nat)),some (.str x),l5,none,none]∧x.length≤i∧Lets x) ⟨f1.trans f2,_,_,rfl,by decide +kernel,fun d hd=>by simp [show (("":Str).cps)=#[] from rfl] at hd⟩ ?_ ?_⟩
 ·rintro i σ H' hi ⟨fx,x,l5,rfl,hl,hx⟩
  refine ⟨_,rfl,_,rfl,_,rfl,a,26,rfl,fx.st,by decide,fun d H3 f3 d0 d1=>?_⟩
  obtain ⟨ch,hch⟩:=aN2 (z:=abc) d0 (by rw [al];exact d1)
  refine ⟨_,_,_,rfl,rfl,d0,(by lia),(by rw [al];exact d1),hch,_,_,rfl,rfl,?_,fx.trans f3,_,_,rfl,?_,hx.add (aKf.one hch)⟩
  ·show x.length+1≤sizeLine
   exact small (by lia)
  ·rw [aGp]
   show x.length+1≤i+1
   lia
 rintro σ H3 ⟨f3,b,l5,rfl,hl,hb⟩
 have hb7:b.length≤7:=by lia
 refine ⟨_,rfl,_,rfl,_,rfl,small (by lia),_,_,rfl,rfl,a,_,rfl,f3.st,(by show (0:Int)<(b.length:Int)+1∧(b.length:Int)+1<2 ^ 64;lia),fun ai H4 f4 a0 a1=>?_⟩
 obtain ⟨at',rfl⟩:∃at':Nat,ai=at':=⟨ai.toNat,by lia⟩
 have ha:at'≤b.length:=by
  have:(at':Int)<(b.length:Int)+1:=a1
  lia
 have fx4:=f3.trans f4
 refine ⟨(by show 0≤sizeLine;decide),fun p H5 fp s5 g5=>?_⟩
 have fp0:H p=none:=fx4.free fp
 have npa:p≠a:=hs.ne fp0
 refine ⟨_,rfl,_,rfl,by decide,by decide,jF (n:=17) (fun i σ H'=>Fx a H H'∧H' p=some (.lst ((stm b at' o i).map V.str))∧∃l5,σ=[some (.ref a),some (.int 17),some (.str abc),some (.int (o:Nat)),some (.str b),l5,some (.int (at':Nat)),some (.ref p)]) ⟨fx4.sm s5,g5,_,rfl⟩ ?_ ?_⟩
 ·rintro i σ H' hi ⟨fx,gp,l5,rfl⟩
  have s1:=Txt.slice_le b none (some ((at':Nat):Int))
  have s2:=Txt.slice_le b (some ((at':Nat):Int)) none
  have ej:((o:Int)+(0+(i:Int))).toNat=o+i:=by lia
  have hch:abc.cps[((o:Int)+(0+(i:Int))).toNat]?=some (97+(o+i)):=by rw [ej];exact aUo (by lia)
  refine ⟨_,rfl,.inl ⟨rfl,_,SqL.of gp⟩,_,rfl,_,rfl,_,rfl,_,rfl,small (by lia),_,rfl,_,rfl,_,rfl,_,_,rfl,rfl,_,_,_,rfl,rfl,(by show 0≤(o:Int)+(0+(i:Int));lia),(by show (o:Int)+(0+(i:Int))<2 ^ 63;lia),(by rw [al];show (o:Int)+(0+(i:Int))<26;lia),hch,_,_,rfl,rfl,?_,_,rfl,_,rfl,_,rfl,_,rfl,small (by lia),_,_,rfl,rfl,?_,?_⟩
  ·show (Txt.slice b none (some ((at':Nat):Int))).length+1≤sizeLine
   exact small (by lia)
  ·rw [aGp]
   show (Txt.slice b none (some ((at':Nat):Int))).length+1+_≤sizeLine
   exact small (by lia)
  refine ⟨p,_,_,rfl,rfl,gp,?_,fx.upd fp0 npa,?_,_,rfl⟩
  ·rw [List.length_map]
   exact fQ (by simp [stm];lia)
  ·rw [aU]
   unfold stm
   rw [List.range_succ,List.map_append,List.map_append]
   rfl
 rintro σ H6 ⟨f6,g6,l5',rfl⟩
 dsimp only [iR,aLw,tB,tCB,fP]
 refine uH (K:=K) (fun us=>us=words) (fun i _ y=>∃w',words[i]?=some w'∧y=.bl (inV w' ((stm b at' o 17).map V.str))) (fun _ h=>h) (fun _ h=>h) [none,some (.ref p)] ?_ rfl (fun R r=>⟨rfl,fun W H7 _ s7 g7=>r W H7 _ s7 g7 rfl⟩) (fun us e=>by subst e;exact small (by decide)) (fun us e i x ex H' R l sm r=>?_) fun us e D H7 ys s7 g7 hly hR=>?_
 ·exact cY 7 (by decide +kernel) rfl rfl (by trivial)
 ·subst e
  have fl:lC x=true:=by
   have:=aB0
   rw [List.all_eq_true] at this
   exact this x (List.mem_of_getElem? ex)
  exact ⟨_,rfl,_,rfl,p,_,rfl,.inl (SqL.of (sm _ _ g6)),fl,kE,r _ _ (Same.refl _) ⟨x,ex,rfl⟩⟩
 subst e
 have ey:ys=(words.map fun w'=>inV w' ((stm b at' o 17).map V.str)).map V.bl:=by
  rw [List.map_map]
  refine List.ext_getElem? fun i=>?_
  by_cases hi:i<ys.length
  ·obtain ⟨w',h1,h2⟩:=hR i ys[i] (List.getElem?_eq_getElem hi)
   rw [List.getElem?_eq_getElem hi,List.getElem?_map,h1,h2]
   rfl
  ·rw [List.getElem?_eq_none (by lia),List.getElem?_eq_none (by rw [List.length_map];lia)]
 rw [ey] at g7
 refine ⟨D,_,rfl,SqL.of g7,_,rfl,?_⟩
 have f7:=f6.sm s7
 refine jJ (fun c=>?_) (fun c=>?_)
 ·refine ⟨_,rfl,_,rfl,_,rfl,_,rfl,_,rfl,_,_,rfl,rfl,_,rfl,abc,rfl,small (by rw [al];decide),?_⟩
  refine ⟨_,rfl,?_,fun p2 H8 fp2 s8 g8=>?_⟩
  ·have:=Txt.slice_le abc (some (o:Int)) (some ((o:Int)+17))
   rw [al] at this
   exact Nat.le_trans this (by decide)
  have g8':H8 p2=some (.lst ((sgl o).map V.str)):=by rw [g8];exact congrArg (fun z=>some (HO.lst z)) (aTf ho)
  have f8:=f7.sm s8
  have fp20:H p2=none:=f7.free fp2
  refine ⟨_,rfl,a,2,rfl,f8.st,by decide,fun d H9 f9 d0 d1=>?_⟩
  have g9:=f9.same _ _ (hs.ne fp20) g8'
  refine ⟨rfl,_,rfl,jJ (fun _=>?_) (fun _=>?_)⟩
  ·refine ⟨_,rfl,.inl ⟨rfl,_,SqL.of g9⟩,p2,_,rfl,rfl,g9,?_⟩
   refine ⟨_,rfl,q p2 _ (sgl o).reverse ((f8.trans f9).upd fp20 (hs.ne fp20)) fp20 ?_ (aRb ho).rev⟩
   rw [aU,List.map_reverse]
  ·exact ⟨_,rfl,q p2 _ (sgl o) (f8.trans f9) fp20 g9 (aRb ho)⟩
 ·have hw:∀w'∈words,inV w' ((stm b at' o 17).map V.str)=false:=fun w' hw'=>by
   cases e:inV w' ((stm b at' o 17).map V.str) with
   |false=>rfl
   |true=>
    exfalso
    apply c
    rw [List.any_eq_true]
    exact ⟨true,List.mem_map.mpr ⟨w',hw',e⟩,rfl⟩
  have hn:=aV1 hb hb7 ha ho hw
  refine ⟨_,rfl,a,2,rfl,f7.st,by decide,fun d H9 f9 d0 d1=>?_⟩
  have g9:=f9.same _ _ npa (s7 _ _ g6)
  refine ⟨rfl,_,rfl,jJ (fun _=>?_) (fun _=>?_)⟩
  ·refine ⟨_,rfl,.inl ⟨rfl,_,SqL.of g9⟩,p,_,rfl,rfl,g9,?_⟩
   refine ⟨_,rfl,q p _ (stm b at' o 17).reverse ((f7.trans f9).upd fp0 npa) fp0 ?_ hn.rev⟩
   rw [aU,List.map_reverse]
  ·exact ⟨_,rfl,q p _ (stm b at' o 17) (f7.trans f9) fp0 g9 hn⟩
def rN (hd:Hdr):Prop:=Good hd∧∀c∈hd,Nm c.1∧zM c.2
def aH5 (K:PySem.W.Frag):Sp:=fun vs H Q _=>∃(a N:Addr) (ns:List Str),vs=[.ref a,.ref N]∧mJ H a∧H N=some (.lst (ns.map V.str))∧N≠a∧mR ns∧∀v H' hd,Fx a H H'→dB K H' v hd→rN hd→hd.length≤7→Q v H'
theorem aKn {α:Type} {l:List α} (h:l.Nodup) {i j:Nat} {x:α} (h1:l[i]?=some x) (h2:l[j]?=some x):i=j:=by
 have hp:=List.pairwise_iff_getElem.mp h
 obtain ⟨hi,e1⟩:=List.getElem?_eq_some_iff.mp h1
 obtain ⟨hj,e2⟩:=List.getElem?_eq_some_iff.mp h2
 rcases Nat.lt_trichotomy i j with q|q|q
 ·exact absurd (e1.trans e2.symm) (hp i j hi hj q)
 ·exact q
 ·exact absurd (e2.trans e1.symm) (hp j i hj hi q)
theorem aZh {α:Type} {l:List α} (h:∀(i j:Nat) (x:α),l[i]?=some x→l[j]?=some x→i=j):l.Nodup:=by
 refine List.pairwise_iff_getElem.mpr fun i j hi hj hij e=>?_
 have:=h i j l[i] (List.getElem?_eq_getElem hi) (by rw [List.getElem?_eq_getElem hj,e])
 lia
theorem aSa {ns:List Str} (hn:mR ns) {st:Nat} {hd:Hdr} (hl:hd.length≤8) (h:∀(j:Nat) (c:Str × Str),hd[j]?=some c→ns[3+(st+j) % 8]?=some c.1):(hd.map (·.1)).Nodup:=by
 refine aZh fun i j x h1 h2=>?_
 have g:∀k,(hd.map (·.1))[k]?=some x→k<hd.length∧ns[3+(st+k) % 8]?=some x:=fun k hk=>by
  rw [List.getElem?_map] at hk
  cases e:hd[k]? with
  |none=>rw [e] at hk;cases hk
  |some c=>
   rw [e] at hk
   cases hk
   exact ⟨(List.getElem?_eq_some_iff.mp e).1,h k c e⟩
 obtain ⟨l1,g1⟩:=g i h1
 obtain ⟨l2,g2⟩:=g j h2
 have:=aKn hn.2.2 g1 g2
 lia
theorem aHa (T:Txt w K mg) (aM:Ok P w K mg base 1 "_law_next" ["_law_state","_law_many"] iC):Ok P w K mg base 2 "_law_head" ["_law_state","_law_names_here"] (aH5 K):=by
 refine Ok.ofV T.aJj kJ (fun vs H Q E h=>?_) (fun f cdv A outer s H vs Q E hr h=>?_)
 ·obtain ⟨a,N,ns,rfl,_⟩:=h;rfl
 obtain ⟨a,N,ns,rfl,hs,hN,nN,hn,q⟩:=h
 refine ⟨_,(aC (aV (i:=2) kJ.nd rfl (by trivial) (aJ (aM.mono (by decide)) hr (by rfl) (aB (vv 0) (aB aD aA)))) (aC (aV (i:=3) kJ.nd rfl (by trivial) (cP aA)) (aC (jA PassesOwn.never rfl (fK (by rfl) T.kI (aB (bU eY aD (bU aCw (aJ (aM.mono (by decide)) hr (by rfl) (aB (vv 0) (aB aD aA))) (bU eY aD (bD pZ (by rfl) T.aD8 zZ (aB (fH bY (aJ (aM.mono (by decide)) hr (by rfl) (aB (vv 0) (aB aD aA))) aD (aX _)) aA))))) aA)) (aN (i:=4) kJ.nd rfl (by trivial)) (aC (aV (i:=5) kJ.nd rfl (by trivial) (aK cG (cP (aB aQ (aB aQ (aB aQ aA)))) (aJ (aM.mono (by decide)) hr (by rfl) (aB (vv 0) (aB aD aA))) (fun _ _=>rfl))) (aF (eF (uX PySem.F.plainAttrs_list PySem.F.slot_list_append PySem.F.type_list_append lO (vv 3) (aB (bC (aB (aK cG (vv 1) (bU eY aD (bU tX (bU eY (vv 2) (vv 4)) aD)) (fun _ _=>rfl)) (aB (vv 5) aA))) aA)))))) (aF (aL (bD bI (by rfl) T.cB bQ (aB (vv 3) aA))))))),?_⟩
 have l17:=hn.1
 refine ⟨_,rfl,a,8,rfl,hs,by decide,fun st0 H1 f1 st00 st01=>?_⟩
 obtain ⟨st,rfl⟩:∃st:Nat,st0=st:=⟨st0.toNat,by lia⟩
 refine ⟨(by show 0≤sizeLine;decide),fun p H2 fp s2 g2=>?_⟩
 have f2:=f1.sm s2
 have fp0:H p=none:=f1.free fp
 have npa:p≠a:=hs.ne fp0
 refine ⟨_,rfl,a,4,rfl,f2.st,by decide,fun m H3 f3 m0 m1=>?_⟩
 refine ⟨_,rfl,a,8,rfl,f3.st,by decide,fun e H4 f4 e0 e1=>?_⟩
 have f4':=f2.trans (f3.trans f4)
 have g4:=f4.same _ _ npa (f3.same _ _ npa g2)
 refine ⟨rfl,.inr ⟨_,rfl,?_⟩⟩
 have bnd:∃z:Nat,1+m * (1+(if decide (V.int e=V.int 0) then 1 else 0))=(z:Int)∧1≤z∧z≤7:=by
  cases decide (V.int e=V.int 0)
  ·exact ⟨(1+m).toNat,by simp;lia,by lia,by lia⟩
  ·exact ⟨(1+m * 2).toNat,by simp;lia,by lia,by lia⟩
 obtain ⟨z,ez,z1,z7⟩:=bnd
 refine ⟨_,_,rfl,rfl,_,_,rfl,rfl,.inl ⟨by lia,by lia⟩,_,_,rfl,rfl,?_⟩
 refine ⟨(z:Int),?_,by lia,by lia,?_⟩
 ·show [V.int (1+m * (1+(if decide (V.int e=V.int 0) then 1 else 0)))]=_
  rw [ez]
 rw [Int.toNat_natCast]
 refine jF (n:=z) (fun i σ H'=>Fx a H H'∧∃(us:List V) (hd:Hdr) (l4 l5:Option V),H' p=some (.lst us)∧hd.length=i∧bO (IsC K H') us hd∧(∀(j:Nat) (c:Str × Str),hd[j]?=some c→ns[3+(st+j) % 8]?=some c.1∧zM c.2)∧σ=[some (.ref a),some (.ref N),some (.int (st:Nat)),some (.ref p),l4,l5]) ⟨f4',[],[],_,_,g4,rfl,.nil,fun j c h=>by simp at h,rfl⟩ ?_ ?_
 ·rintro i σ H' hi ⟨fx,us,hd,l4,l5,gp,hl,hu,hc,rfl⟩
  have lu:=hu.len
  refine ⟨(by show 3≤sizeLine;decide),fun p1 H5 fp1 s5 g5=>?_⟩
  refine ⟨_,rfl,a,3,rfl,fx.st.same s5,by decide,fun d H6 f6 d0 d1=>?_⟩
  obtain ⟨kv,hkv,mkv⟩:=at_of (xs:=[.str "number",.str "number",.str "word"]) d0 (by show d<3;lia)
  obtain ⟨kd,rfl,hkd⟩:∃kd:Str,kv=.str kd∧zM kd:=by
   simp only [List.mem_cons,List.not_mem_nil,or_false] at mkv
   rcases mkv with rfl|rfl|rfl
   ·exact ⟨_,rfl,.inl rfl⟩
   ·exact ⟨_,rfl,.inl rfl⟩
   ·exact ⟨_,rfl,.inr rfl⟩
  have f6':=(fx.sm s5).trans f6
  refine ⟨p1,_,_,_,rfl,rfl,SqL.of (f6.same _ _ (fx.st.ne fp1) g5),hkv,?_⟩
  have gp6:=f6.same _ _ npa (s5 _ _ gp)
  have hN6:=f6'.same _ _ nN hN
  have hu6:bO (IsC K H6) us hd:=hu.imp fun _ _ ⟨p',ep,hp⟩=>⟨p',ep,f6.aH (fx.st.same s5) (s5.aH hp)⟩
  have hix:3+(st+i) % 8<ns.length:=by lia
  refine ⟨_,rfl,.inl ⟨rfl,_,SqL.of gp6⟩,?_⟩
  refine ⟨_,rfl,_,rfl,_,rfl,_,_,rfl,rfl,_,_,rfl,rfl,(by show (0:Int)<8;decide),_,_,rfl,rfl,N,_,_,.str ns[3+(st+i) % 8],rfl,rfl,SqL.of hN6,?_,_,rfl,(by show 2≤sizeLine;decide),fun t H7 ft s7 g7=>?_⟩
  ·have e8:(3:Int)+((st:Int)+(0+(i:Int))) % 8=((3+(st+i) % 8:Nat):Int):=by lia
   show atI (ns.map V.str) ((3:Int)+((st:Int)+(0+(i:Int))) % 8)=_
   rw [e8]
   exact cD (by rw [List.getElem?_map,List.getElem?_eq_getElem hix];rfl)
  refine ⟨p,_,_,rfl,rfl,s7 _ _ gp6,fQ (by lia),?_⟩
  have ntp:t≠p:=(bF gp6 ft).symm
  refine ⟨(f6'.sm s7).upd fp0 npa,us++[.ref t],hd++[(ns[3+(st+i) % 8],kd)],_,_,aU,by rw [List.length_append,hl];rfl,?_,fun j c h=>?_,rfl⟩
  ·refine (hu6.imp fun _ _ ⟨p',ep,hp⟩=>⟨p',ep,(s7.aH hp).dO (s7 _ _ gp6)⟩).app (.cons ⟨t,rfl,SqT.of (by rw [bH ntp];exact g7)⟩ .nil)
  ·by_cases hj:j<hd.length
   ·rw [List.getElem?_append_left hj] at h
    exact hc j c h
   ·rw [List.getElem?_append_right (by lia)] at h
    have hj0:j - hd.length=0:=by
     by_cases z0:j - hd.length=0
     ·exact z0
     ·rw [List.getElem?_eq_none (by simp;lia)] at h;cases h
    rw [hj0] at h
    cases h
    have:j=i:=by lia
    subst this
    exact ⟨List.getElem?_eq_getElem hix,hkd⟩
 ·rintro σ H' ⟨fx,us,hd,l4,l5,gp,hl,hu,hc,rfl⟩
  refine ⟨_,rfl,p,us,rfl,SqL.of gp,fun t H5 _ s5 g5=>q _ _ hd (fx.sm s5) ⟨t,us,rfl,SqT.of g5,hu.imp fun _ _ h=>h.same s5⟩ ⟨⟨aSa hn (by lia) fun j c h=>(hc j c h).1,by lia,by lia⟩,fun c hcm=>?_⟩ (by lia)⟩
  obtain ⟨j,hj,e⟩:=List.getElem_of_mem hcm
  have h2:=hc j c (by rw [List.getElem?_eq_getElem hj,e])
  exact ⟨hn.2.1 _ (List.mem_of_getElem? h2.1),h2.2⟩
def TK (K:PySem.W.Frag) (H H':Hp):Prop:=∀p xs,SqT K H p xs→SqT K H' p xs
theorem _root_.L2.Fx.tk {K:PySem.W.Frag} {a:Addr} {H H':Hp} (f:Fx a H H') (h:mJ H a):TK K H H':=fun _ _ e=>f.aH h e
theorem IsC.tk {K:PySem.W.Frag} {H H':Hp} {v:V} {c:Str × Str} (e:TK K H H') (h:IsC K H v c):IsC K H' v c:=by
 obtain ⟨p,rfl,hp⟩:=h
 exact ⟨p,rfl,e _ _ hp⟩
theorem aNt {α:Type} {K:PySem.W.Frag} {H H':Hp} {R S:V→α→Prop} {v:V} {xs:List α} (e:TK K H H') (k:∀a b,R a b→S a b) (h:vM K H R v xs):vM K H' S v xs:=by
 obtain ⟨a,vs,rfl,ha,hr⟩:=h
 exact ⟨a,vs,rfl,e _ _ ha,hr.imp k⟩
theorem dB.tk {K:PySem.W.Frag} {H H':Hp} {v:V} {hd:Hdr} (e:TK K H H') (h:dB K H v hd):dB K H' v hd:=aNt e (fun _ _ q=>q.tk e) h
theorem aS4 {K:PySem.W.Frag} {H:Hp} {x:V} (h:aHu x=true):Th K H x:=by
 cases x with
 |int i=>exact .inr (.inl ⟨i,rfl⟩)
 |str z=>
  have h:(false || sU 0 (.str z))=true:=h
  rw [Bool.false_or] at h
  obtain ⟨y,e,_,h8,_⟩:=aA1 h
  cases e
  exact pN h8
 |_=>cases h
theorem IsO.tk {K:PySem.W.Frag} {H H':Hp} {v:V} {o:Oth} (e:TK K H H') (h:IsO K H v o):IsO K H' v o:=by
 cases o with
 |val x=>obtain ⟨a,rfl,ha,hx,hv⟩:=h;exact ⟨a,rfl,e _ _ ha,aS4 hv,hv⟩
 |col d=>obtain ⟨a,rfl,ha,hd⟩:=h;exact ⟨a,rfl,e _ _ ha,hd⟩
theorem IsT.tk {K:PySem.W.Frag} {H H':Hp} {v:V} {t:Tst} (e:TK K H H') (h:IsT K H v t):IsT K H' v t:=by
 obtain ⟨a,w,rfl,ha,h1,h2,h3⟩:=h
 exact ⟨a,w,rfl,e _ _ ha,h1,h2,h3.tk e⟩
theorem lB.tk {K:PySem.W.Frag} {H H':Hp} {v:V} {t:Str × Str} (e:TK K H H') (h:lB K H v t):lB K H' v t:=by
 obtain ⟨a,rfl,ha,h1⟩:=h
 exact ⟨a,rfl,e _ _ ha,h1⟩
theorem oF.tk {K:PySem.W.Frag} {H H':Hp} {v:V} {t:Str × Str} (e:TK K H H') (h:oF K H v t):oF K H' v t:=by
 obtain ⟨a,rfl,ha,h1⟩:=h
 exact ⟨a,rfl,e _ _ ha,h1⟩
theorem lL.tk {K:PySem.W.Frag} {H H':Hp} {v:V} {t:Sm} (e:TK K H H') (h:lL K H v t):lL K H' v t:=by
 obtain ⟨a,rfl,hn,h1⟩:=h
 refine ⟨a,rfl,hn,?_⟩
 rcases h1 with ⟨x,y,z⟩|⟨c,x,y,z,u⟩
 ·exact .inl ⟨x,y,e _ _ z⟩
 ·exact .inr ⟨c,x,y,z,e _ _ u⟩
theorem gY.tk {α:Type} {S:PySem.W.Frag→Hp→V→α→Prop} {lo hi:Nat} {K:PySem.W.Frag} {H H':Hp} {v:V} {xs:List α} (e:TK K H H') (k:∀{v t},S K H v t→S K H' v t) (h:gY S lo hi K H v xs):gY S lo hi K H' v xs:=
 ⟨aNt e (fun _ _=>k) h.1,h.2⟩
theorem IsQ.tk {K:PySem.W.Frag} {H H':Hp} {v:V} {q:Qn} (e:TK K H H') (h:IsQ K H v q):IsQ K H' v q:=by
 induction h with
 |table a b=>exact .table (e _ _ a) b
 |whr a _ c ih=>exact .whr (e _ _ a) ih (c.tk e fun h=>h.tk e)
 |keep a _ c ih=>exact .keep (e _ _ a) ih (c.tk e fun h=>h)
 |nmd a _ c ih=>exact .nmd (e _ _ a) ih (c.tk e fun h=>h)
 |join a _ _ c ih1 ih2=>exact .join (e _ _ a) ih1 ih2 (c.tk e fun h=>h.tk e)
 |group a _ c d ih=>exact .group (e _ _ a) ih (c.tk e fun h=>h) (d.tk e fun h=>h.tk e)
 |first a _ c d ih=>exact .first (e _ _ a) ih (c.tk e fun h=>h.tk e) d
theorem aK8 {k:Str} {x:V} (h:aBy k x):aHu x=true∧kindS x=k:=by
 cases h with
 |num=>exact ⟨rfl,rfl⟩
 |@wrd y hx hl=>
  refine ⟨?_,rfl⟩
  show (false || (decide (0≤y.length) && (decide (y.length≤8) && allIn y)))=true
  rw [decide_eq_true (Nat.zero_le _),decide_eq_true hl,allIn_of hx]
  rfl
def kp (hd:Hdr) (k:Str) (i:Nat):Bool:=match hd[i]? with
 |some c=>decide (c.2=k)
 |none=>false
abbrev sgs:Str:="=<>!"
theorem aVe:∀j:_root_.Fin 4,∃c,sgs.cps[j.val]?=some c∧((⟨#[c]⟩:Str) = "="∨(⟨#[c]⟩:Str) = "<"∨(⟨#[c]⟩:Str) = ">"∨(⟨#[c]⟩:Str) = "!"):=by
 intro j
 match j with
 |⟨0,_⟩=>exact ⟨61,(by show sgs.cps[0]?=some 61;decide +kernel),.inl (by decide +kernel)⟩
 |⟨1,_⟩=>exact ⟨60,(by show sgs.cps[1]?=some 60;decide +kernel),.inr (.inl (by decide +kernel))⟩
 |⟨2,_⟩=>exact ⟨62,(by show sgs.cps[2]?=some 62;decide +kernel),.inr (.inr (.inl (by decide +kernel)))⟩
 |⟨3,_⟩=>exact ⟨33,(by show sgs.cps[3]?=some 33;decide +kernel),.inr (.inr (.inr (by decide +kernel)))⟩
 |⟨n+4,h⟩=>exact absurd h (by lia)
def zG (K:PySem.W.Frag):Sp:=fun vs H Q _=>∃(a:Addr) (vh:V) (hd:Hdr) (mst:Nat),vs=[.ref a,vh,.int (mst:Nat)]∧mJ H a∧dB K H vh hd∧rN hd∧(1≤mst∧mst≤3)∧∀v H' ts,Fx a H H'→gY IsT 1 mst K H' v ts→(∀t∈ts,eX hd t)→Q v H'
theorem aSr {R:Nat→V→Prop} {is:List Nat} {ys:List V} (h:mK R is ys):∀y∈ys,∃i∈is,R i y:=by
 induction h with
 |nil=>intro y hy;cases hy
 |cons r _ ih=>
  intro z hz
  rcases List.mem_cons.mp hz with rfl|hz
  ·exact ⟨_,List.mem_cons_self ..,r⟩
  ·obtain ⟨i,hi,q⟩:=ih z hz
   exact ⟨i,List.mem_cons_of_mem _ hi,q⟩
theorem aFr {p:Nat→Bool}:∀{k n:Nat} {i:Nat},i∈sel p k (List.range' k n)→p i=true∧k≤i∧i<k+n
 |k,0,i,h=>by cases h
 |k,n+1,i,h=>by
  rw [List.range'_succ] at h
  have h:i∈(if p k then k::sel p (k+1) (List.range' (k+1) n) else sel p (k+1) (List.range' (k+1) n)):=h
  split at h
  ·rcases List.mem_cons.mp h with rfl|h
   ·exact ⟨by assumption,by lia,by lia⟩
   ·obtain ⟨a,b,c⟩:=aFr h;exact ⟨a,by lia,by lia⟩
  ·obtain ⟨a,b,c⟩:=aFr h;exact ⟨a,by lia,by lia⟩
theorem aM3 {p:Nat→Bool}:∀{k n:Nat} {i:Nat},p i=true→k≤i→i<k+n→i∈sel p k (List.range' k n)
 |k,0,i,_,_,_=>by lia
 |k,n+1,i,h,h1,h2=>by
  rw [List.range'_succ]
  show i∈(if p k then k::sel p (k+1) (List.range' (k+1) n) else sel p (k+1) (List.range' (k+1) n))
  by_cases e:i=k
  ·subst e
   rw [if_pos h]
   exact List.mem_cons_self ..
  ·have:=aM3 (k:=k+1) (n:=n) h (by lia) (by lia)
   split
   ·exact List.mem_cons_of_mem _ this
   ·exact this
theorem aDq (T:Txt w K mg) (aM:Ok P w K mg base 1 "_law_next" ["_law_state","_law_many"] iC) (aHj:Ok P w K mg base 3 "_law_value" ["_law_state","_law_kind"] aNs):Ok P w K mg base 4 "_law_tests" ["_law_state","_law_head_here","_law_most"] (zG K):=by
 refine Ok.ofV T.aHc dU (fun vs H Q E h=>?_) (fun f cdv A outer s H vs Q E hr h=>?_)
 ·obtain ⟨a,vh,hd,mst,rfl,_⟩:=h;rfl
 obtain ⟨a,vh,hd,mst,rfl,hs,⟨b,us,rfl,hb,hu⟩,⟨⟨nd,l1,l8⟩,hc⟩,⟨m1',m3'⟩,q⟩:=h
 refine ⟨_,(aC (aV (i:=3) dU.nd rfl (by trivial) (cP aA)) (aC (jA PassesOwn.never rfl (fK (by rfl) T.kI (aB (bU eY aD (aJ (aM.mono (by decide)) hr (by rfl) (aB (vv 0) (aB (vv 2) aA)))) aA)) (aN (i:=4) dU.nd rfl (by trivial)) (aC (pP (aK aO (vv 1) (aJ (aM.mono (by decide)) hr (by rfl) (aB (vv 0) (aB (aY bB (by rfl) T.dG cJ (aB (vv 1) aA)) aA))) (fun _ _=>rfl)) (lM rfl (bA (aN (i:=5) dU.nd rfl (by trivial)) (bA (aN (i:=6) dU.nd rfl (by trivial)) cO)))) (aC (aV (i:=7) dU.nd rfl (by trivial) (bC (aB aQ (aB (aJ (aHj.mono (by decide)) hr (by rfl) (aB (vv 0) (aB (vv 6) aA))) aA)))) (aC (kW (i0:=8) dU.nd rfl (by trivial) (N:=["_law_column","_law_sort","_law_kind"]) (by trivial) (cX (aG nA) rfl (by decide +kernel)) rfl (dC (vv 1)) (fun cl s' H' fp=>⟨(iB (K:=K) (n:=2) rfl (bA (aN (i:=0) (show (["_law_column","_law_sort","_law_kind"]:List Str).Nodup from by decide +kernel) rfl (Or.inl rfl)) (bA (aN (i:=1) (show (["_law_column","_law_sort","_law_kind"]:List Str).Nodup from by decide +kernel) rfl (Or.inl rfl)) cO))),(pX (aP bY (vv 1) (vv 2) (aX _))),(vv 0)⟩)) (aC (bJ (aP bY (aJ (aM.mono (by decide)) hr (by rfl) (aB (vv 0) (aB aD aA))) aD (aX _)) (aF (aV (i:=7) dU.nd rfl (by trivial) (bC (aB aQ (aB (aK cG (vv 8) (aJ (aM.mono (by decide)) hr (by rfl) (aB (vv 0) (aB (aY bB (by rfl) T.dG cJ (aB (vv 8) aA)) aA))) (fun _ _=>rfl)) aA))))) aW) (aF (eF (uX PySem.F.plainAttrs_list PySem.F.slot_list_append PySem.F.type_list_append lO (vv 3) (aB (bC (aB (vv 5) (aB (pG aQ (aJ (aM.mono (by decide)) hr (by rfl) (aB (vv 0) (aB aD aA))) (fun _ _=>rfl)) (aB (vv 7) aA)))) aA))))))))) (aF (aL (bD bI (by rfl) T.cB bQ (aB (vv 3) aA)))))),?_⟩
 have lu:=hu.len
 refine ⟨(by show 0≤sizeLine;decide),fun p H1 fp s1 g1=>?_⟩
 have f1:=Fx.of hs s1
 have npa:p≠a:=hs.ne fp
 refine ⟨_,rfl,_,rfl,a,(mst:Int),rfl,f1.st,by lia,fun m H2 f2 m0 m1=>?_⟩
 have f2':=f1.trans f2
 have g2:=f2.same _ _ npa g1
 refine ⟨_,_,rfl,rfl,_,rfl,(by show -(2 ^ 62)≤1+m;lia),(by show 1+m<2 ^ 62;lia),?_⟩
 refine jF (n:=(1+m).toNat) (fun i σ H'=>Fx a H H'∧∃(ws:List V) (ts:List Tst) (l3 l4 l5 l6 l7:Option V),H' p=some (.lst ws)∧ts.length=i∧bO (IsT K H') ws ts∧(∀t∈ts,eX hd t)∧σ=[some (.ref a),some (.ref b),some (.int (mst:Nat)),some (.ref p),l3,l4,l5,l6,l7]) ⟨f2',[],[],_,_,_,_,_,g2,rfl,.nil,(fun t h=>by cases h),rfl⟩ ?_ ?_
 ·rintro i σ H' hi ⟨fx,ws,ts,l3,l4,l5,l6,l7,gp,hl,hw,hts,rfl⟩
  have lw:=hw.len
  have tk0:TK K H H':=fx.tk hs
  refine ⟨_,rfl,_,rfl,_,rfl,_,_,rfl,.inr (tk0 _ _ hb),a,_,rfl,fx.st,(by show (0:Int)<(us.length:Int)∧(us.length:Int)<2 ^ 64;lia),fun d H3 f3 d0 d1=>?_⟩
  obtain ⟨u,hat,hmem⟩:=at_of (xs:=us) d0 d1
  obtain ⟨c,hcm,pc,rfl,hpc⟩:=hu.mem hmem
  obtain ⟨hcn,hck⟩:=hc c hcm
  have fl3:=f3
  have fx3:=fx.trans f3
  have tk3:TK K H H3:=fx3.tk hs
  refine ⟨b,_,_,_,rfl,rfl,tk3 _ _ hb,hat,pc,_,rfl,tk3 _ _ hpc,rfl,_,_,rfl,_,_,rfl,rfl,?_⟩
  refine ⟨_,rfl,_,rfl,a,c.2,rfl,fx3.st,hck,fun v H4 f4 hv=>?_⟩
  refine ⟨(by show 2≤sizeLine;decide),fun t1 H5 ft1 s5 g5=>?_⟩
  have fl5:=(f3.trans f4).sm s5
  have fx5:=(fx3.trans f4).sm s5
  have tk5:TK K H H5:=fx5.tk hs
  have hO1:IsO K H5 (.ref t1) (.val v):=⟨t1,rfl,SqT.of g5,aS4 (aK8 hv).1,(aK8 hv).1⟩
  have hT1:aSw hd (.val v)=some c.2:=by
   show some (kindS v)=some c.2
   rw [(aK8 hv).2]
  have gp5:=s5 _ _ (f4.same _ _ npa (f3.same _ _ npa gp))
  dsimp only [iR,jK,bK]
  refine sS [none,none,some (.str c.2)] ?_ ⟨_,rfl,b,rfl,⟨_,tk5 _ _ hb⟩,wN Same (pJ H5) us (kp hd c.2) (fun i _ y=>∃c',hd[i]?=some c'∧y=.str c'.1) (fun _ _ h=>h) (fun _ _ _ h=>h) (fun i σ=>∃c',hd[i]?=some c'∧At2 [none,none,some (.str c.2)] (.str c'.1) (.str c'.2) σ) (Ps2 [none,none,some (.str c.2)]) ⟨none,none,rfl⟩ (small (by lia)) _ (aCn fun H' s'=>s'.aH (tk5 _ _ hb)) (sI fun H' s'=>s'.aH (tk5 _ _ hb)) (fun i x σ' H' Q' ex hps s' qq=>?_) (fun i x σ2 ex hA H' R s' r=>?_) (fun i x σ2 ex hA hp H' R s' r=>?_) fun D H6 ys s6 fD g6 hys=>?_⟩
  ·refine ⟨rfl,fun i y v h1 h2=>?_⟩
   match i,h1,h2 with
   |0,_,h2=>cases h2
   |1,_,h2=>cases h2
   |2,h1,h2=>cases h1;cases h2;exact ⟨by decide +kernel,6,rfl,rfl,by trivial⟩
   |i+3,h1,_=>cases h1
  ·obtain ⟨c',hc',p',rfl,hp'⟩:=bN hu ex
   exact hg2 (s'.aH (tk5 _ _ hp')) hps fun σ2 h1 h2=>qq σ2 h1 ⟨c',hc',h2⟩
  ·obtain ⟨c',hc',rfl⟩:=hA
   refine ⟨_,rfl,_,rfl,rfl,_,rfl,?_⟩
   have e:kp hd c.2 i=decide (V.str c'.2=V.str c.2):=by
    unfold kp
    rw [hc']
    exact decide_eq_decide.mpr ⟨fun z=>congrArg V.str z,fun z=>V.str.inj z⟩
   rw [←e]
   exact r H' (Same.refl H')
  ·obtain ⟨c',hc',rfl⟩:=hA
   exact ⟨_,rfl,r _ _ (Same.refl H') ⟨c',hc',rfl⟩⟩
  have fl6:=fl5.sm s6
  have fx6:=fx5.sm s6
  have tk6:TK K H H6:=fx6.tk hs
  have nDa:D≠a:=fx5.st.ne fD
  obtain ⟨j0,hj0,ej0⟩:=List.getElem_of_mem hcm
  have hne:0<ys.length:=by
   have hin:j0∈sel (kp hd c.2) 0 (List.range us.length):=by
    rw [List.range_eq_range']
    refine aM3 ?_ (Nat.zero_le _) (by lia)
    unfold kp
    rw [List.getElem?_eq_getElem hj0,ej0]
    exact decide_eq_true rfl
   rw [←hys.len]
   exact List.length_pos_of_mem hin
  have hyk:∀y∈ys,∃c'∈hd,y=.str c'.1∧c'.2=c.2:=fun y hy=>by
   obtain ⟨i,hi,c',hc',rfl⟩:=aSr hys y hy
   rw [List.range_eq_range'] at hi
   have hp:=(aFr hi).1
   unfold kp at hp
   rw [hc'] at hp
   exact ⟨c',List.mem_of_getElem? hc',rfl,of_decide_eq_true hp⟩
  have lys:ys.length≤8:=by
   have:=uJ (kp hd c.2) 0 (List.range us.length)
   rw [List.length_range,hys.len] at this
   lia
  have lcc:look hd c.1=some c.2:=jO nd hcm
  refine ⟨_,rfl,a,3,rfl,fx6.st,by decide,fun d3 H7 f7 _ _=>⟨rfl,_,rfl,?_⟩⟩
  have fl7:=fl6.trans f7
  have fx7:=fx6.trans f7
  have gp7:=f7.same _ _ npa (s6 _ _ gp5)
  have gD7:=f7.same _ _ nDa g6
  refine jJ (fun _=>?_) (fun _=>?_)
  ·refine ⟨_,rfl,_,rfl,_,rfl,D,_,rfl,.inl (SqL.of gD7),a,_,rfl,fx7.st,(by show (0:Int)<(ys.length:Int)∧(ys.length:Int)<2 ^ 64;lia),fun d8 H8 f8 d80 d81=>?_⟩
   obtain ⟨y,hy,my⟩:=at_of (xs:=ys) d80 d81
   obtain ⟨c',hcm',rfl,hck'⟩:=hyk y my
   refine ⟨D,_,_,_,rfl,rfl,SqL.of (f8.same _ _ nDa gD7),hy,(by show 2≤sizeLine;decide),fun t2 H9 ft2 s9 g9=>?_⟩
   have fl9:=(fl7.trans f8).sm s9
   have fx9:=(fx7.trans f8).sm s9
   have hO2:IsO K H9 (.ref t2) (.col c'.1):=⟨t2,rfl,SqT.of g9,(hc c' hcm').1⟩
   have hT2:aSw hd (.col c'.1)=some c.2:=by
    show look hd c'.1=some c.2
    rw [jO nd hcm',hck']
   have gp9:=s9 _ _ (f8.same _ _ npa gp7)
   refine ⟨_,rfl,.inl ⟨rfl,_,SqL.of gp9⟩,_,rfl,_,rfl,a,4,rfl,fl9.st,by decide,fun dz Hz fz dz0 dz1=>?_⟩
   obtain ⟨ch,hch,hsg⟩:=aVe ⟨dz.toNat,by lia⟩
   have sl:sgs.length=4:=by decide +kernel
   refine ⟨_,_,_,rfl,rfl,dz0,(by lia),(by rw [sl];exact dz1),hch,_,rfl,(by show 3≤sizeLine;decide),fun tz Hy ftz sy gy=>?_⟩
   have flz:=(fl9.trans fz).sm sy
   have gpy:=sy _ _ (fz.same _ _ npa gp9)
   have ntp:tz≠p:=(bF (fz.same _ _ npa gp9) ftz).symm
   have tku:∀zs,TK K Hy (upd Hy p (.lst zs)):=fun zs _ _ e=>e.dO gpy
   have hOy:=(hO2.tk (fun _ _ e=>sy.aH (fz.aH fl9.st e))).tk (tku (ws++[.ref tz]))
   refine ⟨p,_,_,rfl,rfl,gpy,fQ (by lia),?_⟩
   refine ⟨(fx.trans flz).upd fp npa,ws++[.ref tz],ts++[⟨c.1,⟨#[ch]⟩,(.col c'.1)⟩],_,_,_,_,_,aU,by rw [List.length_append,hl];rfl,(hw.imp fun _ _ h=>(h.tk (flz.tk fx.st)).tk (tku _)).app (.cons (b:=(⟨c.1,⟨#[ch]⟩,.col c'.1⟩:Tst)) ⟨tz,_,rfl,SqT.of (by rw [bH ntp];exact gy),hcn,hsg,hOy⟩ .nil),fun t ht=>?_,rfl⟩
   rcases List.mem_append.mp ht with ht|ht
   ·exact hts t ht
   ·rw [List.mem_singleton.mp ht]
    exact ⟨c.2,lcc,hT2⟩
  ·have hO3:IsO K H7 (.ref t1) (.val v):=hO1.tk fun _ _ e=>f7.aH fx6.st (s6.aH e)
   refine ⟨_,rfl,.inl ⟨rfl,_,SqL.of gp7⟩,_,rfl,_,rfl,a,4,rfl,fl7.st,by decide,fun dz Hz fz dz0 dz1=>?_⟩
   obtain ⟨ch,hch,hsg⟩:=aVe ⟨dz.toNat,by lia⟩
   have sl:sgs.length=4:=by decide +kernel
   refine ⟨_,_,_,rfl,rfl,dz0,(by lia),(by rw [sl];exact dz1),hch,_,rfl,(by show 3≤sizeLine;decide),fun tz Hy ftz sy gy=>?_⟩
   have flz:=(fl7.trans fz).sm sy
   have gpy:=sy _ _ (fz.same _ _ npa gp7)
   have ntp:tz≠p:=(bF (fz.same _ _ npa gp7) ftz).symm
   have tku:∀zs,TK K Hy (upd Hy p (.lst zs)):=fun zs _ _ e=>e.dO gpy
   have hOy:=(hO3.tk (fun _ _ e=>sy.aH (fz.aH fl7.st e))).tk (tku (ws++[.ref tz]))
   refine ⟨p,_,_,rfl,rfl,gpy,fQ (by lia),?_⟩
   refine ⟨(fx.trans flz).upd fp npa,ws++[.ref tz],ts++[⟨c.1,⟨#[ch]⟩,(.val v)⟩],_,_,_,_,_,aU,by rw [List.length_append,hl];rfl,(hw.imp fun _ _ h=>(h.tk (flz.tk fx.st)).tk (tku _)).app (.cons (b:=(⟨c.1,⟨#[ch]⟩,.val v⟩:Tst)) ⟨tz,_,rfl,SqT.of (by rw [bH ntp];exact gy),hcn,hsg,hOy⟩ .nil),fun t ht=>?_,rfl⟩
   rcases List.mem_append.mp ht with ht|ht
   ·exact hts t ht
   ·rw [List.mem_singleton.mp ht]
    exact ⟨c.2,lcc,hT1⟩
 ·rintro σ H' ⟨fx,ws,ts,l3,l4,l5,l6,l7,gp,hl,hw,hts,rfl⟩
  exact ⟨_,rfl,p,ws,rfl,SqL.of gp,fun t H5 _ s5 g5=>q _ _ ts (fx.sm s5) ⟨⟨t,ws,rfl,SqT.of g5,hw.imp fun _ _ h=>h.same s5⟩,by lia,by lia⟩ hts⟩
theorem aQ1 {α:Type} (l:List α):∀n,(List.range n).filterMap (fun i=>l[i]?)=l.take n
 |0=>by simp
 |n+1=>by
  rw [List.range_succ,List.filterMap_append,aQ1 l n,List.take_add_one]
  cases e:l[n]? with
  |none=>simp [e]
  |some x=>simp [e]
theorem aPc {H:Hp} {us:List V} {hd:Hdr} (hu:bO (IsC K H) us hd) {is:List Nat} {ys:List V} (h:mK (fun i y=>us[i]?=some y) is ys):bO (IsC K H) ys (is.filterMap fun i=>hd[i]?):=by
 induction h with
 |nil=>exact .nil
 |@cons i y is ys r _ ih=>
  obtain ⟨c,hc,q⟩:=bN hu r
  rw [List.filterMap_cons,hc]
  exact .cons q ih
theorem aQ5 {α β:Type} {R:α→β→Prop} {as:List α} {bs:List β} (h:bO R as bs):bO R as.reverse bs.reverse:=by
 induction h with
 |nil=>exact .nil
 |cons r _ ih=>
  rw [List.reverse_cons,List.reverse_cons]
  exact ih.app (.cons r .nil)
theorem uI {α β:Type} {R:α→β→Prop} {as:List α} {bs:List β} (h:bO R as bs):∀n,bO R (as.take n) (bs.take n):=by
 induction h with
 |nil=>intro n;rw [List.take_nil,List.take_nil];exact .nil
 |cons r _ ih=>
  intro n
  cases n with
  |zero=>exact .nil
  |succ n=>exact .cons r (ih n)
def aB9 (hd' hd:Hdr):Prop:=(∀c∈hd',c∈hd)∧(hd'.map (·.1)).Nodup∧hd'.length≤hd.length
theorem aJ1 {hd' hd:Hdr} (h:hd'.Sublist hd) (nd:(hd.map (·.1)).Nodup):aB9 hd' hd:=⟨fun c hc=>h.subset hc,nd.sublist (h.map _),h.length_le⟩
theorem aB9.rev {hd' hd:Hdr} (h:aB9 hd' hd):aB9 hd'.reverse hd:=⟨fun c hc=>h.1 c (List.mem_reverse.mp hc),by
 rw [List.map_reverse];exact List.pairwise_reverse.mpr (h.2.1.imp fun q=>Ne.symm q),by rw [List.length_reverse];exact h.2.2⟩
theorem aB9.take {hd' hd:Hdr} (h:aB9 hd' hd) (n:Nat):aB9 (hd'.take n) hd:=⟨fun c hc=>h.1 c (List.mem_of_mem_take hc),h.2.1.sublist ((List.take_sublist n hd').map _),by have:=h.2.2;rw [List.length_take];lia⟩
def xG (K:PySem.W.Frag):Sp:=fun vs H Q _=>∃(a:Addr) (vh:V) (hd:Hdr) (n:Nat),vs=[.ref a,vh,.int (n:Nat)]∧mJ H a∧dB K H vh hd∧Good hd∧n≤1 ∧
 ∀D H' us hd',Fx a H H'→H D=none→H' D=some (.lst us)→bO (IsC K H') us hd'→aB9 hd' hd→n≤hd'.length→Q (.ref D) H'
theorem aGj (T:Txt w K mg) (aM:Ok P w K mg base 1 "_law_next" ["_law_state","_law_many"] iC):Ok P w K mg base 2 "_law_some" ["_law_state","_law_head_here","_law_least"] (xG K):=by
 refine Ok.ofV T.aKi rP (fun vs H Q E h=>?_) (fun f cdv A outer s H vs Q E hr h=>?_)
 ·obtain ⟨a,vh,hd,n,rfl,_⟩:=h;rfl
 obtain ⟨a,vh,hd,n,rfl,hs,⟨b,us,rfl,hb,hu⟩,⟨nd,l1,l8⟩,hn,q⟩:=h
 refine ⟨_,(aC (kW (i0:=3) rP.nd rfl (by trivial) (N:=["_law_column","_law_state"]) (by trivial) (cX (aG pD) rfl (by decide +kernel)) rfl (dC (vv 1)) (fun cl s' H' fp=>⟨(aN (i:=0) (show (["_law_column","_law_state"]:List Str).Nodup from by decide +kernel) rfl (Or.inl rfl)),(pX (aP bY (aJ (aM.mono (by decide)) hr (by rfl) (aB (vv 1) (aB aD aA))) aD (aX _))),(vv 0)⟩)) (aC (bJ (aP aNf (aY bB (by rfl) T.dG cJ (aB (vv 3) aA)) (vv 2) (aX _)) (aF (aV (i:=3) rP.nd rfl (by trivial) (cP (aB (aK aO (vv 1) (aJ (aM.mono (by decide)) hr (by rfl) (aB (vv 0) (aB (aY bB (by rfl) T.dG cJ (aB (vv 1) aA)) aA))) (fun _ _=>rfl)) aA)))) aW) (aC (bJ (aP bY (aJ (aM.mono (by decide)) hr (by rfl) (aB (vv 0) (aB aD aA))) aD (aX _)) (aF (eF (aL6 PySem.F.plainAttrs_list PySem.F.slot_list_reverse PySem.F.type_list_reverse aAe (vv 3)))) aW) (aF (aL (vv 3)))))),?_⟩
 have lu:=hu.len
 have fin:∀D H' zs hd',Fx a H H'→H D=none→H' D=some (.lst zs)→bO (IsC K H') zs hd'→aB9 hd' hd→n≤hd'.length→∀H2,Fx a H' H2→Q (.ref D) H2∧Q (.ref D) (upd H2 D (.lst zs.reverse)):=by
  intro D H' zs hd' fx hD gD hz hsub hle H2 f2
  have nDa:D≠a:=hs.ne hD
  have g2:=f2.same _ _ nDa gD
  have hz2:bO (IsC K H2) zs hd':=hz.imp fun _ _ h=>h.tk (f2.tk fx.st)
  refine ⟨q D H2 zs hd' (fx.trans f2) hD g2 hz2 hsub hle,q D _ zs.reverse hd'.reverse ((fx.trans f2).upd hD nDa) hD aU ?_ hsub.rev (by rw [List.length_reverse];exact hle)⟩
  exact aQ5 (hz2.imp fun _ _ h=>h.tk fun _ _ e=>e.dO g2)
 dsimp only [iR,jK]
 refine sS [none,some (.ref a)] ?_ ⟨_,rfl,b,rfl,⟨_,hb⟩,aYp (Fx a) (aVi hs) us (fun i _ y=>us[i]?=some y) (fun _ _ h=>h) (fun _ _ _ h=>h) (fun i σ=>∃x,us[i]?=some x∧At1 [none,some (.ref a)] x σ) (Ps1 [none,some (.ref a)]) ⟨none,rfl⟩ (small (by lia)) _ (aCn fun H' f'=>f'.aH hs hb) (sI fun H' f'=>f'.aH hs hb) (fun i x σ' H' Q' ex hps s' qq=>hg1 (i:=i) hps fun σ2 h1 h2=>qq σ2 h1 ⟨x,ex,h2⟩) (fun i x σ2 ex hA H' R s' r=>?_) (fun i x σ2 ex hA H' R s' r=>?_) fun D H1 ys f1 fD g1 hys=>?_⟩
 ·exact cY 0 (by decide +kernel) rfl rfl (by trivial)
 ·obtain ⟨x',_,l,rfl⟩:=hA
  exact ⟨_,rfl,a,2,rfl,s'.st,by decide,fun d H2 f2 _ _=>⟨rfl,_,rfl,r _ _ f2⟩⟩
 ·obtain ⟨x',hx',l,rfl⟩:=hA
  rw [ex] at hx'
  cases hx'
  exact ⟨_,rfl,r _ _ (.refl s'.st) ex⟩
 obtain ⟨is,hsub,hys⟩:=hys
 have hu1:bO (IsC K H1) us hd:=hu.imp fun _ _ h=>h.tk (f1.tk hs)
 have hcol:=aPc hu1 hys
 have hsubH:aB9 (is.filterMap fun i=>hd[i]?) hd:=by
  refine aJ1 ?_ nd
  have:=hsub.filterMap (fun i=>hd[i]?)
  rw [aQ1,lu,List.take_length] at this
  exact this
 have lcol:=hcol.len
 dsimp only [bK]
 refine ⟨_,rfl,D,_,rfl,.inl (SqL.of g1),_,rfl,_,_,rfl,rfl,_,rfl,jJ (fun c=>?_) (fun c=>?_)⟩
 ·refine ⟨_,rfl,_,rfl,_,rfl,_,_,rfl,.inr (f1.aH hs hb),a,_,rfl,f1.st,(by show (0:Int)<(us.length:Int)∧(us.length:Int)<2 ^ 64;lia),fun d H2 f2 d0 d1=>?_⟩
  obtain ⟨u,hat,hm⟩:=at_of (xs:=us) d0 d1
  obtain ⟨cc,hcm,hcc⟩:=hu.mem hm
  have fx2:=f1.trans f2
  refine ⟨b,_,_,u,rfl,rfl,fx2.aH hs hb,hat,(by show 1≤sizeLine;decide),fun p H3 fp s3 g3=>?_⟩
  have fx3:=fx2.sm s3
  have fp0:H p=none:=fx2.free fp
  have key:=fin p H3 [u] [cc] fx3 fp0 g3 (.cons (hcc.tk (fx3.tk hs)) .nil) ⟨fun c' hc'=>by rw [List.mem_singleton.mp hc'];exact hcm,by simp,by show 1≤hd.length;exact l1⟩ (by show n≤1;exact hn)
  refine ⟨_,rfl,a,2,rfl,fx3.st,by decide,fun e H4 f4 _ _=>⟨rfl,_,rfl,?_⟩⟩
  refine jJ (fun _=>?_) (fun _=>⟨_,rfl,(key H4 f4).1⟩)
  have g4:=f4.same _ _ (hs.ne fp0) g3
  exact ⟨_,rfl,.inl ⟨rfl,_,SqL.of g4⟩,p,_,rfl,rfl,g4,_,rfl,(key H4 f4).2⟩
 ·have c':¬ (ys.length:Int)<(n:Int):=of_decide_eq_false (Bool.eq_false_iff.mpr c)
  have key:=fin D H1 ys _ f1 fD g1 hcol hsubH (by lia)
  refine ⟨_,rfl,a,2,rfl,f1.st,by decide,fun e H4 f4 _ _=>⟨rfl,_,rfl,?_⟩⟩
  refine jJ (fun _=>?_) (fun _=>⟨_,rfl,(key H4 f4).1⟩)
  have g4:=f4.same _ _ (hs.ne fD) g1
  exact ⟨_,rfl,.inl ⟨rfl,_,SqL.of g4⟩,D,_,rfl,rfl,g4,_,rfl,(key H4 f4).2⟩
theorem uC {hd hd':Hdr} (nd:(hd.map (·.1)).Nodup) (h:∀c∈hd',c∈hd):Looks hd (hd'.map (·.1)) (hd'.map (·.2)):=by
 induction hd' with
 |nil=>exact .nil
 |cons c r ih=>exact .cons (jO nd (h c (List.mem_cons_self ..))) (ih fun x hx=>h x (List.mem_cons_of_mem _ hx))
def aB1 (K:PySem.W.Frag):Sp:=fun vs H Q _=>∃(a:Addr) (vh:V) (hd:Hdr),vs=[.ref a,vh]∧mJ H a∧dB K H vh hd∧rN hd∧∀v H' ps ks,Fx a H H'→gY oF 0 3 K H' v ps→Looks hd (ps.map (·.1)) ks→(ps.map (·.1)).Nodup→Q v H'
theorem qM {α:Type}:∀(k:Nat) (xs:List α),sel (fun _=>true) k xs=xs
 |_,[]=>rfl
 |k,x::r=>by
  show (if true=true then x::sel (fun _=>true) (k+1) r else _)=_
  rw [if_pos rfl,qM (k+1) r]
theorem oM {R:Nat→V→Prop} {n:Nat} {ys:List V} (h:mK R (List.range n) ys):ys.length=n∧∀(i:Nat) (y:V),ys[i]?=some y→R i y:=by
 have aux:∀{is:List Nat} {ys:List V},mK R is ys→∀(i:Nat) (y:V),ys[i]?=some y→∃j,is[i]?=some j∧R j y:=by
  intro is ys h
  induction h with
  |nil=>intro i y e;simp at e
  |cons r _ ih=>
   intro i y e
   cases i with
   |zero=>cases e;exact ⟨_,rfl,r⟩
   |succ i=>obtain ⟨j,h1,h2⟩:=ih i y (by simpa using e);exact ⟨j,by simpa using h1,h2⟩
 have l:=h.len
 rw [List.length_range] at l
 refine ⟨l.symm,fun i y e=>?_⟩
 obtain ⟨j,h1,h2⟩:=aux h i y e
 have hi:i<n:=by
  have:=(List.getElem?_eq_some_iff.mp e).1
  lia
 rw [List.getElem?_range hi] at h1
 cases h1
 exact h2
theorem aFs (T:Txt w K mg) (aM:Ok P w K mg base 1 "_law_next" ["_law_state","_law_many"] iC) (fY:Ok P w K mg base 2 "_law_some" ["_law_state","_law_head_here","_law_least"] (xG K)):Ok P w K mg base 3 "_law_keys" ["_law_state","_law_head_here"] (aB1 K):=by
 refine Ok.ofV T.aJ7 yF (fun vs H Q E h=>?_) (fun f cdv A outer s H vs Q E hr h=>?_)
 ·obtain ⟨a,vh,hd,rfl,_⟩:=h;rfl
 obtain ⟨a,vh,hd,rfl,hs,hh,⟨hg,hc⟩,q⟩:=h
 refine ⟨_,(aC (aV (i:=2) yF.nd rfl (by trivial) (dD sX (aJ (fY.mono (by decide)) hr (by rfl) (aB (vv 0) (aB (vv 1) (aB aD aA)))) fZ (dJ aD))) (aF (aL (bD bI (by rfl) T.cB bQ (aB (bZ (N:=["_law_name","_law_kind","_law_state"]) (by trivial) (cX (aG pB) rfl (by decide +kernel)) rfl (fJ (vv 2)) (fun cl s' H' fp=>⟨(iB (K:=K) (n:=2) rfl (bA (aN (i:=0) (show (["_law_name","_law_kind","_law_state"]:List Str).Nodup from by decide +kernel) rfl (Or.inl rfl)) (bA (aN (i:=1) (show (["_law_name","_law_kind","_law_state"]:List Str).Nodup from by decide +kernel) rfl (Or.inl rfl)) cO))),cI,(bC (aB (vv 0) (aB (aK (tY (K:=K)) (cP (aB aQ (aB aQ aA))) (aJ (aM.mono (by decide)) hr (by rfl) (aB (vv 2) (aB aD aA))) (fun _ _=>rfl)) aA)))⟩)) aA))))),?_⟩
 refine ⟨_,rfl,_,rfl,a,vh,hd,0,rfl,hs,hh,hg,by decide,fun D H1 us hd' f1 fD g1 hu hsub _=>?_⟩
 refine ⟨_,rfl,D,_,rfl,SqL.of g1,fun p H2 fp s2 g2=>?_⟩
 rw [show (3:Int)=((3:Nat):Int) from rfl,rQ] at g2
 have fx2:=f1.sm s2
 have hu2:bO (IsC K H2) (us.take 3) (hd'.take 3):=uI (hu.imp fun _ _ h=>h.same s2) 3
 have hsub3:=hsub.take 3
 have fp0:H p=none:=f1.free fp
 have npa:p≠a:=hs.ne fp0
 generalize us.take 3=zs at g2 hu2
 have l3:(hd'.take 3).length≤3:=by rw [List.length_take];lia
 generalize hd'.take 3=hz at hu2 hsub3 l3
 have lz:=hu2.len
 dsimp only [bK,aAs,tCB,fP]
 refine tZ [none,none,some (.ref a)] ?_ ⟨_,rfl,p,rfl,⟨_,SqL.of g2⟩,wN (Fx a) (aVi fx2.st) zs (fun _=>true) (fun i H y=>∃c wy t,hz[i]?=some c∧y=.ref t∧SqT K H t [.str c.1,.str wy]∧(wy = "up"∨wy = "down")) (fun e1 e2 h=>?_) (fun _ _ e h=>?_) (fun i σ=>∃c,hz[i]?=some c∧At2 [none,none,some (.ref a)] (.str c.1) (.str c.2) σ) (Ps2 [none,none,some (.ref a)]) ⟨none,none,rfl⟩ (small (by lia)) _ (xY fun H' f'=>SqL.of (f'.same _ _ npa g2)) (qD fun H' f'=>SqL.of (f'.same _ _ npa g2)) (fun i x σ' H' Q' ex hps s' qq=>?_) (fun i x σ2 ex hA H' R s' r=>r _ (.refl s'.st)) (fun i x σ2 ex hA _ H' R s' r=>?_) fun D2 H3 ys f3 fD2 g3 hys=>?_⟩
 ·refine ⟨rfl,fun i y v h1 h2=>?_⟩
  match i,h1,h2 with
  |0,_,h2=>cases h2
  |1,_,h2=>cases h2
  |2,h1,h2=>cases h1;cases h2;exact ⟨by decide +kernel,0,rfl,rfl,by trivial⟩
  |i+3,h1,_=>cases h1
 ·obtain ⟨c,wy,t,h1,h2,h3,h4⟩:=h
  exact ⟨c,wy,t,h1,h2,e2.aH e1.st h3,h4⟩
 ·obtain ⟨c,wy,t,h1,h2,h3,h4⟩:=h
  exact ⟨c,wy,t,h1,h2,h3.dO e,h4⟩
 ·obtain ⟨c,hc',p',rfl,hp'⟩:=bN hu2 ex
  exact hg2 (s'.aH fx2.st hp') hps fun σ2 h1 h2=>qq σ2 h1 ⟨c,hc',h2⟩
 ·obtain ⟨c,hc',rfl⟩:=hA
  refine ⟨_,rfl,(by show 2≤sizeLine;decide),fun l1 H4 fl1 s4 g4=>?_⟩
  refine ⟨_,rfl,a,2,rfl,s'.st.same s4,by decide,fun d H5 f5 d0 d1=>?_⟩
  obtain ⟨v,hv,mv⟩:=at_of (xs:=aI0) d0 (by show d<2;lia)
  obtain ⟨wy,rfl,hwy⟩:∃wy:Str,v=.str wy∧(wy = "up"∨wy = "down"):=by
   simp only [aI0,List.mem_cons,List.not_mem_nil,or_false] at mv
   rcases mv with rfl|rfl
   ·exact ⟨_,rfl,.inl rfl⟩
   ·exact ⟨_,rfl,.inr rfl⟩
  refine ⟨l1,_,_,_,rfl,rfl,SqL.of (f5.same _ _ (s'.st.ne fl1) g4),hv,(by show 2≤sizeLine;decide),fun t H6 _ s6 g6=>?_⟩
  exact r _ _ (((Fx.of s'.st s4).trans f5).sm s6) ⟨c,wy,t,hc',rfl,SqT.of g6,hwy⟩
 rw [qM] at hys
 obtain ⟨lys,hget⟩:=oM hys
 have hpz:∃ps:List (Str × Str),bO (oF K H3) ys ps∧ps.map (·.1)=hz.map (·.1):=by
  have aux:∀(n:Nat) (ys:List V) (hz:Hdr),ys.length=hz.length→(∀c∈hz,Nm c.1)→(∀(i:Nat) (y:V),ys[i]?=some y→∃c wy t,hz[i]?=some c∧y=.ref t∧SqT K H3 t [.str c.1,.str wy]∧(wy = "up"∨wy = "down"))→∃ps:List (Str × Str),bO (oF K H3) ys ps∧ps.map (·.1)=hz.map (·.1):=by
   intro n ys
   induction ys with
   |nil=>intro hz hl _ _;cases hz with
    |nil=>exact ⟨[],.nil,rfl⟩
    |cons _ _=>simp at hl
   |cons y ys ih=>
    intro hz hl hnm hget
    cases hz with
    |nil=>simp at hl
    |cons c hz=>
     obtain ⟨c',wy,t,h1,h2,h3,h4⟩:=hget 0 y rfl
     cases h1
     obtain ⟨ps,h5,h6⟩:=ih hz (by simpa using hl) (fun d hd=>hnm d (List.mem_cons_of_mem _ hd)) fun i z e=>hget (i+1) z (by simpa using e)
     exact ⟨(c.1,wy)::ps,.cons ⟨t,h2,h3,hnm c (List.mem_cons_self ..),h4⟩ h5,by rw [List.map_cons,h6];rfl⟩
  exact aux 0 ys hz (by lia) (fun c hcm=>(hc c (hsub3.1 c hcm)).1) hget
 obtain ⟨ps,hps,epz⟩:=hpz
 have lps:=hps.len
 refine ⟨D2,_,rfl,SqL.of g3,fun t H4 _ s4 g4=>q _ _ ps (hz.map (·.2)) ((fx2.trans f3).sm s4) ⟨⟨t,ys,rfl,SqT.of g4,hps.imp fun _ _ h=>h.same s4⟩,Nat.zero_le _,by lia⟩ ?_ ?_⟩
 ·rw [epz]
  exact uC hg.1 hsub3.1
 ·rw [epz]
  exact hsub3.2.1
abbrev bAc:List V:=[.str "count",.str "least",.str "most",.str "sum"]
def aJu (K:PySem.W.Frag):Sp:=fun vs H Q _=>∃(a F:Addr) (vh:V) (hd:Hdr) (fs:List Str),vs=[.ref a,vh,.ref F]∧mJ H a∧dB K H vh hd∧rN hd∧H F=some (.lst (fs.map V.str))∧F≠a∧2≤fs.length∧(∀n∈fs,Nm n) ∧
 ∀v H' ss js,Fx a H H'→gY lL 1 2 K H' v ss→zA hd ss js→ss.map Sm.new=fs.take ss.length→(∀(s:Sm) (j:Str),(s,j)∈ss.zip js→zM j)→Q v H'
theorem aT4 {w:Int} (h0:0≤w) (h1:w<4):∃x:Str,atI bAc w=some (.str x)∧((w=0∧x = "count")∨(w=1∧x = "least")∨(w=2∧x = "most")∨(w=3∧x = "sum")):=by
 obtain ⟨n,rfl⟩:∃n:Nat,w=n:=⟨w.toNat,by lia⟩
 match n,h1 with
 |0,_=>exact ⟨_,cD (j:=0) rfl,.inl ⟨rfl,rfl⟩⟩
 |1,_=>exact ⟨_,cD (j:=1) rfl,.inr (.inl ⟨rfl,rfl⟩)⟩
 |2,_=>exact ⟨_,cD (j:=2) rfl,.inr (.inr (.inl ⟨rfl,rfl⟩))⟩
 |3,_=>exact ⟨_,cD (j:=3) rfl,.inr (.inr (.inr ⟨rfl,rfl⟩))⟩
 |n+4,h=>lia
theorem aIe {α β:Type}:∀{as:List α} {bs:List β} {a:α} {b:β},as.length=bs.length→(as++[a]).zip (bs++[b])=as.zip bs++[(a,b)]
 |[],[],_,_,_=>rfl
 |x::as,y::bs,a,b,h=>by
  rw [List.cons_append,List.cons_append,List.zip_cons_cons,List.zip_cons_cons,aIe (by simpa using h)]
  rfl
theorem aGl (T:Txt w K mg) (aM:Ok P w K mg base 1 "_law_next" ["_law_state","_law_many"] iC):Ok P w K mg base 2 "_law_sums" ["_law_state","_law_head_here","_law_fresh_here"] (aJu K):=by
 refine Ok.ofV T.aIx eV (fun vs H Q E h=>?_) (fun f cdv A outer s H vs Q E hr h=>?_)
 ·obtain ⟨a,F,vh,hd,fs,rfl,_⟩:=h;rfl
 obtain ⟨a,F,vh,hd,fs,rfl,hs,⟨b,us,rfl,hb,hu⟩,⟨⟨nd,l1,l8⟩,hc⟩,hF,nF,lf,hfn,q⟩:=h
 refine ⟨_,(aC (aV (i:=3) eV.nd rfl (by trivial) (cP aA)) (aC (jA PassesOwn.never rfl (fK (by rfl) T.kI (aB (bU eY aD (aJ (aM.mono (by decide)) hr (by rfl) (aB (vv 0) (aB aD aA)))) aA)) (aN (i:=4) eV.nd rfl (by trivial)) (aC (pP (aK aO (vv 1) (aJ (aM.mono (by decide)) hr (by rfl) (aB (vv 0) (aB (aY bB (by rfl) T.dG cJ (aB (vv 1) aA)) aA))) (fun _ _=>rfl)) (lM rfl (bA (aN (i:=5) eV.nd rfl (by trivial)) (bA (aN (i:=6) eV.nd rfl (by trivial)) cO)))) (aC (aV (i:=7) eV.nd rfl (by trivial) (bU eY aD (bD pZ (by rfl) T.aD8 zZ (aB (fH bY (vv 6) aQ (aX _)) aA)))) (aC (aV (i:=8) eV.nd rfl (by trivial) (aK cG (cP (aB aQ (aB aQ (aB aQ (aB aQ aA))))) (aJ (aM.mono (by decide)) hr (by rfl) (aB (vv 0) (aB (vv 7) aA))) (fun _ _=>rfl))) (aC (bJ (aP bY (vv 8) aQ (aX _)) (aF (aV (i:=5) eV.nd rfl (by trivial) zB)) aW) (aF (eF (uX PySem.F.plainAttrs_list PySem.F.slot_list_append PySem.F.type_list_append lO (vv 3) (aB (bC (aB (vv 8) (aB (vv 5) (aB (aK cG (vv 2) (vv 4) (fun _ _=>rfl)) aA)))) aA))))))))) (aF (aL (bD bI (by rfl) T.cB bQ (aB (vv 3) aA)))))),?_⟩
 have lu:=hu.len
 refine ⟨(by show 0≤sizeLine;decide),fun p H1 fp s1 g1=>?_⟩
 have f1:=Fx.of hs s1
 have npa:p≠a:=hs.ne fp
 refine ⟨_,rfl,a,2,rfl,f1.st,by decide,fun m H2 f2 m0 m1=>?_⟩
 have f2':=f1.trans f2
 have g2:=f2.same _ _ npa g1
 refine ⟨_,_,rfl,rfl,_,rfl,(by show -(2 ^ 62)≤1+m;lia),(by show 1+m<2 ^ 62;lia),?_⟩
 refine jF (n:=(1+m).toNat) (fun i σ H'=>Fx a H H'∧∃(ws:List V) (ss:List Sm) (js:List Str) (l4 l5 l6 l7 l8:Option V),H' p=some (.lst ws)∧ss.length=i∧bO (lL K H') ws ss∧zA hd ss js∧ss.map Sm.new=fs.take i∧(∀(s:Sm) (j:Str),(s,j)∈ss.zip js→zM j)∧σ=[some (.ref a),some (.ref b),some (.ref F),some (.ref p),l4,l5,l6,l7,l8]) ⟨f2',[],[],[],_,_,_,_,_,g2,rfl,.nil,.nil,rfl,(fun s j h=>by cases h),rfl⟩ ?_ ?_
 ·rintro i σ H' hi ⟨fx,ws,ss,js,l4,l5,l6,l7,l8,gp,hl,hw,hsj,hnw,hkj,rfl⟩
  have lw:=hw.len
  have lj:=hsj.len
  have tk0:TK K H H':=fx.tk hs
  refine ⟨_,rfl,_,rfl,_,rfl,_,_,rfl,.inr (tk0 _ _ hb),a,_,rfl,fx.st,(by show (0:Int)<(us.length:Int)∧(us.length:Int)<2 ^ 64;lia),fun d H3 f3 d0 d1=>?_⟩
  obtain ⟨u,hat,hmem⟩:=at_of (xs:=us) d0 d1
  obtain ⟨c,hcm,pc,rfl,hpc⟩:=hu.mem hmem
  obtain ⟨hcn,hck⟩:=hc c hcm
  have fx3:=fx.trans f3
  have tk3:TK K H H3:=fx3.tk hs
  refine ⟨b,_,_,_,rfl,rfl,tk3 _ _ hb,hat,pc,_,rfl,tk3 _ _ hpc,rfl,_,_,rfl,_,_,rfl,rfl,?_⟩
  have lcc:look hd c.1=some c.2:=jO nd hcm
  have hif:fs.take (i+1)=fs.take i++[fs[i]'(by lia)]:=by rw [List.take_add_one,List.getElem?_eq_getElem (by lia)];rfl
  have hni:Nm (fs[i]'(by lia)):=hfn _ (List.getElem_mem _)
  have hat':∀Hz,Fx a H Hz→SqL K Hz F (fs.map V.str):=fun Hz fz=>SqL.of (fz.same _ _ nF hF)
  have hix:atI (fs.map V.str) (0+(i:Int))=some (.str (fs[i]'(by lia))):=by
   rw [Int.zero_add]
   exact cD (by rw [List.getElem?_map,List.getElem?_eq_getElem (by lia)];rfl)
  refine ⟨_,rfl,rfl,.inr ⟨_,rfl,_,_,rfl,rfl,?_⟩⟩
  obtain ⟨mn,emn,hmn,hm3⟩:∃mn:Int,(3+(if decide (V.str c.2=V.str "number") then 1 else 0):Int)=mn∧3≤mn∧(mn≤3∨(mn=4∧c.2 = "number")):=by
   by_cases e:c.2 = "number"
   ·exact ⟨4,by rw [decide_eq_true (congrArg V.str e)];rfl,by decide,.inr ⟨rfl,e⟩⟩
   ·exact ⟨3,by rw [decide_eq_false (by intro z;exact e (V.str.inj z))];rfl,by decide,.inl (by decide)⟩
  dsimp only [bK]
  rw [emn]
  refine ⟨(by show 4≤sizeLine;decide),fun p4 H4 fp4 s4 g4=>?_⟩
  have fx4:=fx3.sm s4
  refine ⟨_,rfl,_,rfl,a,mn,rfl,fx4.st,by lia,fun w' H5 f5 w0 w1=>?_⟩
  have fx5:=fx4.trans f5
  have fl5:Fx a H' H5:=(f3.sm s4).trans f5
  have gp5:=f5.same _ _ npa (s4 _ _ (f3.same _ _ npa gp))
  obtain ⟨x,hx,hxc⟩:=aT4 w0 (show w'<4 by lia)
  refine ⟨p4,_,_,_,rfl,rfl,SqL.of (f5.same _ _ (fx3.st.ne fp4) g4),hx,?_⟩
  have rest:∀(nv:V) (sm:Sm) (j:Str),(∀Hz tz,SqT K Hz tz [.str x,nv,.str (fs[i]'(by lia))]→lL K Hz (.ref tz) sm)→sm.new=fs[i]'(by lia)→smK hd sm=some j→(sm.wd = "sum"→j≠"word")→zM j→∀tz Hy,H5 tz=none→Same H5 Hy→Hy tz=some (.tup [.str x,nv,.str (fs[i]'(by lia))]) →
    Hy p=some (.lst ws)∧(Fx a H (upd Hy p (.lst (ws++[.ref tz])))∧bO (lL K (upd Hy p (.lst (ws++[.ref tz])))) (ws++[.ref tz]) (ss++[sm])∧zA hd (ss++[sm]) (js++[j])∧(ss++[sm]).map Sm.new=fs.take (i+1)∧∀(s:Sm) (j':Str),(s,j')∈(ss++[sm]).zip (js++[j])→zM j'):=by
   intro nv sm j hsm hnew hk hsum hkd tz Hy ftz sy gy
   have gpy:=sy _ _ gp5
   have ntp:tz≠p:=(bF gp5 ftz).symm
   refine ⟨gpy,(fx5.sm sy).upd fp npa,?_,?_,?_,?_⟩
   ·exact (hw.imp fun _ _ h=>(h.tk ((fl5.sm sy).tk fx.st)).tk fun _ _ e=>e.dO gpy).app (.cons (hsm _ tz (SqT.of (by rw [bH ntp];exact gy))) .nil)
   ·exact bO.app hsj (.cons ⟨hk,hsum⟩ .nil)
   ·rw [List.map_append,hnw,hif,List.map_singleton,hnew]
   ·intro s j' hm
    rw [aIe (by lia)] at hm
    rcases List.mem_append.mp hm with hm|hm
    ·exact hkj s j' hm
    ·cases List.mem_singleton.mp hm
     exact hkd
  refine ⟨_,rfl,rfl,_,rfl,?_⟩
  by_cases ec:x = "count"
  ·subst ec
   rw [decide_eq_true rfl]
   refine cA ?_
   refine ⟨_,rfl,.inl ⟨rfl,_,SqL.of gp5⟩,_,rfl,_,rfl,_,rfl,_,rfl,F,_,_,_,rfl,rfl,hat' _ fx5,hix,(by show 3≤sizeLine;decide),fun tz Hy ftz sy gy=>?_⟩
   obtain ⟨k1,k2,k3,k4,k5,k6⟩:=rest .non ⟨"count",none,fs[i]'(by lia)⟩ "number" (fun Hz tz h=>⟨tz,rfl,hni,.inl ⟨rfl,rfl,h⟩⟩) rfl rfl (fun _=>by decide +kernel) (.inl rfl) tz Hy ftz sy gy
   exact ⟨p,_,_,rfl,rfl,k1,fQ (by lia),k2,_,_,_,_,_,_,_,_,aU,by rw [List.length_append,hl];rfl,k3,k4,k5,k6,rfl⟩
  ·rw [decide_eq_false (by intro z;exact ec (V.str.inj z))]
   refine aZ ?_
   have hwd:aWt x:=by
    rcases hxc with ⟨_,e⟩|⟨_,e⟩|⟨_,e⟩|⟨_,e⟩
    ·exact absurd e ec
    ·exact .inr (.inl e)
    ·exact .inr (.inr e)
    ·exact .inl e
   have hsum:x = "sum"→c.2≠"word":=fun e=>by
    rcases hxc with ⟨_,e'⟩|⟨_,e'⟩|⟨_,e'⟩|⟨e3,e'⟩
    ·exact absurd e' ec
    ·rw [e] at e';exact absurd e' (by decide +kernel)
    ·rw [e] at e';exact absurd e' (by decide +kernel)
    ·rcases hm3 with z|⟨_,z⟩
     ·lia
     ·rw [z];decide +kernel
   refine ⟨_,rfl,.inl ⟨rfl,_,SqL.of gp5⟩,_,rfl,_,rfl,_,rfl,_,rfl,F,_,_,_,rfl,rfl,hat' _ fx5,hix,(by show 3≤sizeLine;decide),fun tz Hy ftz sy gy=>?_⟩
   obtain ⟨k1,k2,k3,k4,k5,k6⟩:=rest (.str c.1) ⟨x,some c.1,fs[i]'(by lia)⟩ c.2 (fun Hz tz h=>⟨tz,rfl,hni,.inr ⟨c.1,rfl,hcn,hwd,h⟩⟩) rfl lcc hsum hck tz Hy ftz sy gy
   exact ⟨p,_,_,rfl,rfl,k1,fQ (by lia),k2,_,_,_,_,_,_,_,_,aU,by rw [List.length_append,hl];rfl,k3,k4,k5,k6,rfl⟩
 ·rintro σ H' ⟨fx,ws,ss,js,l4,l5,l6,l7,l8,gp,hl,hw,hsj,hnw,hkj,rfl⟩
  exact ⟨_,rfl,p,ws,rfl,SqL.of gp,fun t H5 _ s5 g5=>q _ _ ss js (fx.sm s5) ⟨⟨t,ws,rfl,SqT.of g5,hw.imp fun _ _ h=>h.same s5⟩,by lia,by lia⟩ hsj (by rw [hnw,hl]) hkj⟩
theorem aNp {n:Str}:∀{l:List Str},l.Nodup→l.length≤(l.filter fun x=>!decide (x=n)).length+1
 |[],_=>by simp
 |x::r,h=>by
  rw [List.nodup_cons] at h
  rw [List.filter_cons,List.length_cons]
  by_cases e:x=n
  ·subst e
   rw [decide_eq_true rfl]
   have:r.filter (fun y=>!decide (y=x))=r:=List.filter_eq_self.mpr fun y hy=>by
    rw [decide_eq_false (fun z=>h.1 (by rw [←z];exact hy))]
    rfl
   simp [this]
  ·rw [decide_eq_false e]
   have:=aNp (n:=n) h.2
   simp only [Bool.not_false,if_true,List.length_cons]
   lia
theorem aJ8 {l:List Str} (h:l.Nodup):∀S:List Str,l.length≤(l.filter fun x=>!decide (x∈S)).length+S.length
 |[]=>by
  have e:(l.filter fun x=>!decide (x∈([]:List Str)))=l:=List.filter_eq_self.mpr (by intro x _;simp)
  rw [e]
  exact Nat.le_add_right _ _
 |s::S=>by
  have e:(l.filter fun x=>!decide (x∈s::S))=(l.filter fun x=>!decide (x∈S)).filter fun x=>!decide (x=s):=by
   rw [List.filter_filter]
   refine List.filter_congr fun x _=>?_
   by_cases a:x=s <;> by_cases b:x∈S <;> simp [a,b]
  have h1:=aJ8 h S
  have h2:=aNp (n:=s) (h.sublist (List.filter_sublist (p:=fun x=>!decide (x∈S))))
  rw [e,List.length_cons]
  lia
theorem aJo {ys:List V} {cs:Hdr} (hl:ys.length=cs.length) (h:∀(i:Nat) (y:V),ys[i]?=some y→∃c,cs[i]?=some c∧y=.str c.1):ys=(cs.map (·.1)).map V.str:=by
 rw [List.map_map]
 refine List.ext_getElem? fun i=>?_
 by_cases hi:i<ys.length
 ·obtain ⟨c,h1,h2⟩:=h i ys[i] (List.getElem?_eq_getElem hi)
  rw [List.getElem?_eq_getElem hi,List.getElem?_map,h1,h2]
  rfl
 ·rw [List.getElem?_eq_none (by lia),List.getElem?_eq_none (by rw [List.length_map];lia)]
theorem qP {X:Cx} {scope:Scope} {N:List Str} {tl:TE} {σ:L2.St} {H:Hp} {Q:VK} {b:Addr} {us:List V} {cs:Hdr} (hb:SqT K H b us) (hu:bO (IsC K H) us cs) (h8:cs.length≤100) (cap:Cap X scope N σ [none,none]) (hw:∀R:VK,R (.ref b) H→tl σ H R)
  (q:∀D H',H D=none→Same H H'→H' D=some (.lst ((cs.map (·.1)).map V.str))→Q (.ref D) H'):iK X scope N (aGc K tl) (aCk K 2 (gR (bK 0) (gR (bK 1) xZ))) pY (wA 0) σ H Q:=by
 have lu:=hu.len
 refine sS [none,none] cap (hw _ ⟨b,rfl,⟨_,hb⟩,wN Same (pJ H) us (fun _=>true) (fun i _ y=>∃c,cs[i]?=some c∧y=.str c.1) (fun _ _ h=>h) (fun _ _ _ h=>h) (fun i σ=>∃c,cs[i]?=some c∧At2 [none,none] (.str c.1) (.str c.2) σ) (Ps2 [none,none]) ⟨none,none,rfl⟩ (small (by lia)) _ (aCn fun H' s'=>s'.aH hb) (sI fun H' s'=>s'.aH hb) (fun i x σ' H' Q' ex hps s' qq=>?_) (fun i x σ2 ex hA H' R s' r=>r _ (Same.refl _)) (fun i x σ2 ex hA _ H' R s' r=>?_) fun D H1 ys s1 fD g1 hys=>?_⟩)
 ·obtain ⟨c,hc,p,rfl,hp⟩:=bN hu ex
  exact hg2 (s'.aH hp) hps fun σ2 h1 h2=>qq σ2 h1 ⟨c,hc,h2⟩
 ·obtain ⟨c,hc,rfl⟩:=hA
  exact ⟨_,rfl,r _ _ (Same.refl H') ⟨c,hc,rfl⟩⟩
 ·rw [qM] at hys
  obtain ⟨l,hg⟩:=oM hys
  rw [aJo (by lia) hg] at g1
  exact q D H1 fD s1 g1
def lW (ns used:List Str):List Str:=(ns.drop 3).filter fun n=>!decide (n∈used)
theorem aI9 {ns used:List Str} (h:mR ns):(lW ns used).Nodup∧(∀n∈lW ns used,Nm n∧n∉used)∧14≤(lW ns used).length+used.length∧(lW ns used).length≤14:=by
 have hd:(ns.drop 3).Nodup:=h.2.2.sublist (List.drop_sublist 3 ns)
 have hl:(ns.drop 3).length=14:=by rw [List.length_drop,h.1]
 refine ⟨hd.sublist List.filter_sublist,fun n hn=>?_,?_,?_⟩
 ·obtain ⟨h1,h2⟩:=List.mem_filter.mp hn
  exact ⟨h.2.1 n (List.mem_of_mem_drop h1),by simpa using h2⟩
 ·have:=aJ8 hd used
  unfold lW
  lia
 ·have:=List.length_filter_le (fun n=>!decide (n∈used)) (ns.drop 3)
  unfold lW
  lia
theorem aCp {X:Cx} {scope:Scope} {Nn:List Str} {tl:TE} {tt:TT} {σ:L2.St} {H:Hp} {Q:VK} {U:V} {ns used:List Str} (hn:mR ns) (cap:Cap X scope Nn σ [none,some U]) (hw:∀R:VK,(∀p H1,H p=none→Same H H1→H1 p=some (.lst ((ns.drop 3).map V.str))→R (.ref p) H1)→tl σ H R)
  (ht:∀(n:Str) l H' R,Same H H'→(∀H2,Same H' H2→R (!decide (n∈used)) H2)→tt (([none,some U].set 0 l).set 0 (some (.str n))) H' R)
  (q:∀D H',H D=none→Same H H'→H' D=some (.lst ((lW ns used).map V.str))→Q (.ref D) H'):iK X scope Nn (tR K tl) (bK 0) tt (wA 0) σ H Q:=by
 have hl:(ns.drop 3).length=14:=by rw [List.length_drop,hn.1]
 refine tZ [none,some U] cap (hw _ fun p H1 fp s1 g1=>⟨p,rfl,⟨_,SqL.of g1⟩,wN Same (pJ H1) ((ns.drop 3).map V.str) (frP (ns.drop 3) used) (fun i _ y=>∃n,(ns.drop 3)[i]?=some n∧y=.str n) (fun _ _ h=>h) (fun _ _ _ h=>h) (fun i σ=>∃n,(ns.drop 3)[i]?=some n∧At1 [none,some U] (.str n) σ) (Ps1 [none,some U]) ⟨none,rfl⟩ (small (by rw [List.length_map];lia)) _ (xY fun H' s'=>SqL.of (s' _ _ g1)) (qD fun H' s'=>SqL.of (s' _ _ g1)) (fun i x σ' H' Q' ex hps s' qq=>?_) (fun i x σ2 ex hA H' R s' r=>?_) (fun i x σ2 ex hA _ H' R s' r=>?_) fun D H2 ys s2 fD g2 hys=>?_⟩)
 ·obtain ⟨n,hn',rfl⟩:=eO ex
  exact hg1 (i:=i) hps fun σ2 h1 h2=>qq σ2 h1 ⟨n,hn',h2⟩
 ·obtain ⟨n,hn',l,rfl⟩:=hA
  refine ht n l H' _ (s1.trans s') fun H2 s2=>?_
  have e:frP (ns.drop 3) used i=!decide (n∈used):=by unfold frP;rw [hn']
  rw [←e]
  exact r H2 s2
 ·obtain ⟨n,hn',l,rfl⟩:=hA
  exact ⟨_,by cases l <;> rfl,r _ _ (Same.refl H') ⟨n,hn',rfl⟩⟩
 ·rw [List.length_map,List.range_eq_range'] at hys
  have ey:=aBw (k:=0) (l:=ns.drop 3) (fun j n hj y hy=>by
   obtain ⟨m,hm,e⟩:=hy
   rw [Nat.zero_add,hj] at hm
   cases hm
   exact e) hys
  have es:sel (frP (ns.drop 3) used) 0 (ns.drop 3)=lW ns used:=nZ fun i x ex=>by
   unfold frP
   rw [Nat.zero_add,ex]
  rw [ey,es] at g2
  exact q D H2 (s1.free fD) (s1.trans s2) g2
theorem zip_fst_snd:∀(hd:Hdr),(hd.map (·.1)).zip (hd.map (·.2))=hd
 |[]=>rfl
 |c::r=>by rw [List.map_cons,List.map_cons,List.zip_cons_cons,zip_fst_snd r]
theorem jC {lo hi:Nat} {H:Hp} {t:Addr} {ns:List Str} (h:SqT K H t (ns.map V.str)) (hn:∀n∈ns,Nm n) (l1:lo≤ns.length) (l2:ns.length≤hi):gY fC lo hi K H (.ref t) ns:=by
 refine ⟨⟨t,_,rfl,h,?_⟩,l1,l2⟩
 clear h l1 l2
 induction ns with
 |nil=>exact .nil
 |cons n r ih=>exact .cons ⟨rfl,hn n (List.mem_cons_self ..)⟩ (ih fun m hm=>hn m (List.mem_cons_of_mem _ hm))
def aIq (K:PySem.W.Frag):Sp:=fun vs H Q _=>∃(vq vh vo:V) (N:Addr) (q:Qn) (hd ow:Hdr) (ns:List Str) (hs:Str→Option Hdr),vs=[vq,vh,vo,.ref N]∧IsQ K H vq q∧dB K H vh hd∧rN hd∧HQ hs q hd∧dB K H vo ow∧rN ow∧H N=some (.lst (ns.map V.str))∧mR ns ∧
 ∀p H' v1 v2 q' hd',Same H H'→H' p=some (.tup [v1,v2])→IsQ K H' v1 q'→dB K H' v2 hd'→HQ hs q' hd'→rN hd'→(∀c∈hd',c.1∉ow.map (·.1))→size q'=size q+2→hd'.length+ow.length≤9→(∃q1,q'=.nmd q1 (hd'.map (·.1)))→Q (.ref p) H'
theorem aDc (T:Txt w K mg):Ok P w K mg base 1 "_law_fresh" ["_law_question_here","_law_head_here","_law_own","_law_names_here"] (aIq K):=by
 refine Ok.ofV T.aG5 gH (fun vs H Q E h=>?_) (fun f cdv A outer s H vs Q E hr h=>?_)
 ·obtain ⟨vq,vh,vo,N,q,hd,ow,ns,hs,rfl,_⟩:=h;rfl
 obtain ⟨vq,vh,vo,N,q0,hd,ow,ns,hs,rfl,hq,⟨b,us,rfl,hb,hu⟩,⟨⟨nd,l1,l8⟩,hc⟩,hHQ,⟨o,zs,rfl,ho,hz⟩,⟨⟨ndo,lo1,lo8⟩,hco⟩,hN,hn,q⟩:=h
 refine ⟨_,(aC (aV (i:=4) gH.nd rfl (by trivial) (bZ (N:=["_law_column","_law_kind"]) (by trivial) (dF (by decide +kernel)) rfl (dC (vv 2)) (fun cl s' H' fp=>⟨(iB (K:=K) (n:=2) rfl (bA (aN (i:=0) (show (["_law_column","_law_kind"]:List Str).Nodup from by decide +kernel) rfl (Or.inl rfl)) (bA (aN (i:=1) (show (["_law_column","_law_kind"]:List Str).Nodup from by decide +kernel) rfl (Or.inl rfl)) cO))),cI,(vv 0)⟩))) (aC (aV (i:=5) gH.nd rfl (by trivial) (bZ (N:=["_law_name","_law_used"]) (by trivial) (cX (aG jT) rfl (by decide +kernel)) rfl (fJ (dD sX (vv 3) (dJ aD) fZ)) (fun cl s' H' fp=>⟨(aN (i:=0) (show (["_law_name","_law_used"]:List Str).Nodup from by decide +kernel) rfl (Or.inl rfl)),(pX (aP (gO (K:=K)) (vv 0) (vv 1) (by with_unfolding_all rfl))),(vv 0)⟩))) (aC (aV (i:=1) gH.nd rfl (by trivial) (dD qQ (vv 1) fZ (dJ (aY (aN6 rfl) (by rfl) T.aY4 aX8 (aB (aY bB (by rfl) T.dG cJ (aB (vv 5) aA)) (aB (bU aBf aD (aY bB (by rfl) T.dG cJ (aB (vv 2) aA))) aA)))))) (aC (aV (i:=0) gH.nd rfl (by trivial) (bC (aB aQ (aB (vv 0) (aB (bD bI (by rfl) T.cB bQ (aB (bZ (N:=["_law_name","_law_kind"]) (by trivial) (dF (by decide +kernel)) rfl (dC (vv 1)) (fun cl s' H' fp=>⟨(iB (K:=K) (n:=2) rfl (bA (aN (i:=0) (show (["_law_name","_law_kind"]:List Str).Nodup from by decide +kernel) rfl (Or.inl rfl)) (bA (aN (i:=1) (show (["_law_name","_law_kind"]:List Str).Nodup from by decide +kernel) rfl (Or.inl rfl)) cO))),cI,(vv 0)⟩)) aA)) aA))))) (aC (kW (i0:=6) gH.nd rfl (by trivial) (N:=["_law_k","_law_fresh_here","_law_head_here"]) (by trivial) (cX (aG jT) rfl (by decide +kernel)) rfl (fK (by rfl) T.kI (aB (aY bB (by rfl) T.dG cJ (aB (vv 1) aA)) aA)) (fun cl s' H' fp=>⟨(aN (i:=0) (show (["_law_k","_law_fresh_here","_law_head_here"]:List Str).Nodup from by decide +kernel) rfl (Or.inl rfl)),cI,(bC (aB (aK (tY (K:=K)) (vv 1) (vv 0) (fun _ _=>rfl)) (aB (aK (cZ (K:=K)) (aK (cZ (K:=K)) (vv 2) (vv 0) (fun _ _=>rfl)) aD (fun _ _=>rfl)) aA)))⟩)) (aF (aL (bC (aB (bC (aB aQ (aB (vv 0) (aB (bD bI (by rfl) T.cB bQ (aB (dD sX (vv 5) fZ (dJ (aY bB (by rfl) T.dG cJ (aB (vv 1) aA)))) aA)) aA)))) (aB (bD bI (by rfl) T.cB bQ (aB (vv 6) aA)) aA)))))))))),?_⟩
 have lu:=hu.len
 have lz:=hz.len
 try dsimp only [iR,jK]
 refine qP ho hz (by omega) gM (fun R r=>⟨_,rfl,r⟩) fun U H1 fU s1 gU=>?_
 try dsimp only [bK,iR,jK]
 refine aCp (K:=K) (U:=.ref U) (used:=ow.map (·.1)) hn ?_ (fun R r=>?_) (fun n l H' R s' r=>?_) fun F H2 fF s2 gF=>?_
 ·exact cY 4 (by decide +kernel) rfl rfl (by trivial)
 ·refine ⟨_,rfl,_,rfl,N,_,rfl,SqL.of (s1 _ _ hN),fun p H' fp s' g'=>r p H' fp s' ?_⟩
  rw [g',show (3:Int)=((3:Nat):Int) from rfl,gK,List.map_drop]
 ·refine ⟨_,rfl,_,rfl,U,_,rfl,.inl (SqL.of (s' _ _ gU)),rfl,kE,_,rfl,?_⟩
  rw [nH]
  exact r H' (Same.refl H')
 obtain ⟨fnd,fnm,flen,flen2⟩:=aI9 (used:=ow.map (·.1)) hn
 rw [List.length_map] at flen
 generalize hfr:lW ns (ow.map (·.1))=fr at gF fnd fnm flen flen2
 have t2:=s1.trans s2
 try dsimp only [bK]
 refine ⟨_,rfl,_,rfl,F,_,rfl,.inl (SqL.of gF),_,rfl,o,_,rfl,.inr (t2.aH ho),_,_,rfl,rfl,_,_,rfl,_,rfl,b,_,rfl,t2.aH hb,fun h1 H3 s3 g3=>?_⟩
 obtain ⟨k,ek,hk⟩:∃k:Nat,(if ((9:Int) - (zs.length:Int))<(((fr.map V.str).length:Nat):Int) then ((9:Int) - (zs.length:Int)) else (((fr.map V.str).length:Nat):Int))=(k:Int)∧k=min fr.length (9 - zs.length):=by
  rw [List.length_map]
  refine ⟨min fr.length (9 - zs.length),?_,rfl⟩
  split <;> omega
 have g3':SqT K H3 h1 (us.take k):=by
  have e:=rQ us k
  rw [←ek] at e
  rw [←e]
  exact g3
 have t3:=t2.trans s3
 have hu3:bO (IsC K H3) (us.take k) (hd.take k):=uI (hu.imp fun _ _ h=>h.same t3) k
 have hsub:aB9 (hd.take k) hd:=aJ1 (List.take_sublist k hd) nd
 have hlk:(hd.take k).length=min k hd.length:=List.length_take
 have hk1:1≤k:=by omega
 generalize ehk:hd.take k=hd1 at hu3 hsub hlk
 generalize us.take k=us1 at g3' hu3
 have lu1:=hu3.len
 have hc1:∀c∈hd1,Nm c.1∧zM c.2:=fun c h=>hc c (hsub.1 c h)
 try dsimp only [bK]
 refine ⟨_,rfl,?_⟩
 try dsimp only [tCB,fP]
 refine qP g3' hu3 (by omega) gM (fun R r=>⟨_,rfl,r⟩) fun D4 H4 _ s4 g4=>?_
 refine ⟨D4,_,rfl,SqL.of g4,fun t4 H5 _ s5 g5=>?_⟩
 refine ⟨(by show 3≤sizeLine;decide),fun qk H6 _ s6 g6=>?_⟩
 have t6:=t3.trans (s4.trans (s5.trans s6))
 have t36:=s4.trans (s5.trans s6)
 have hQk:IsQ K H6 (.ref qk) (.keep q0 (hd1.map (·.1))):=.keep (SqT.of g6) (hq.same t6) (jC (SqT.of (s6 _ _ g5)) (fun n hn'=>by
  obtain ⟨c,hcm,rfl⟩:=List.mem_map.mp hn'
  exact (hc1 c hcm).1) (by rw [List.length_map];omega) (by rw [List.length_map];omega))
 have gF6:=(s3.trans t36) _ _ gF
 have hu6:bO (IsC K H6) us1 hd1:=hu3.imp fun _ _ h=>h.same t36
 have g6':=t36.aH g3'
 try dsimp only [bK,iR,jK]
 refine qI ((List.range hd1.length).map fun i:Nat=>V.int (0+(i:Int))) (eN K (List.zipWith (fun n c=>(n,c.2)) (fr.take hd1.length) hd1)) eN.st eN.su [none,some (.ref F),some (.ref h1)] ?_ (small (by rw [List.length_map,List.length_range];omega)) (fun R r=>aGf hd1.length (fun R' r'=>⟨_,rfl,h1,_,rfl,.inr g6',by rw [←lu1] at r';exact r'⟩) (by omega) R r) (fun i x ex H' R l sm r=>?_) rfl fun D7 H7 ys s7 g7 hly hR=>?_
 ·refine ⟨rfl,fun i y v h1 h2=>?_⟩
  match i,h1,h2 with
  |0,_,h2=>cases h2
  |1,h1,h2=>cases h1;cases h2;exact ⟨by decide +kernel,5,rfl,rfl,by trivial⟩
  |2,h1,h2=>cases h1;cases h2;exact ⟨by decide +kernel,1,rfl,rfl,by trivial⟩
  |i+3,h1,_=>cases h1
 ·have hi:i<hd1.length:=by
   have:=(List.getElem?_eq_some_iff.mp ex).1
   rw [List.length_map,List.length_range] at this
   exact this
  have exx:x=.int (0+(i:Int)):=by
   rw [List.getElem?_map,List.getElem?_range hi] at ex
   exact (Option.some.inj ex).symm
  subst exx
  obtain ⟨p',hp',hpc⟩:∃p',us1[i]?=some (.ref p')∧SqT K H6 p' [.str (hd1[i]'hi).1,.str (hd1[i]'hi).2]:=by
   have hi':i<us1.length:=by omega
   obtain ⟨c,hc',p',e1,e2⟩:=bN hu6 (List.getElem?_eq_getElem hi')
   rw [List.getElem?_eq_getElem hi] at hc'
   cases hc'
   exact ⟨p',by rw [List.getElem?_eq_getElem hi',e1],e2⟩
  have hif:i<fr.length:=by omega
  have a1:atI (fr.map V.str) (0+(i:Int))=some (.str (fr[i]'hif)):=by
   rw [Int.zero_add]
   exact cD (by rw [List.getElem?_map,List.getElem?_eq_getElem hif];rfl)
  have a2:atI us1 (0+(i:Int))=some (.ref p'):=by
   rw [Int.zero_add]
   exact cD hp'
  refine ⟨_,rfl,_,rfl,F,_,_,_,rfl,rfl,SqL.of (sm _ _ gF6),a1,_,rfl,_,rfl,h1,_,_,_,rfl,rfl,sm.aH g6',a2,p',_,1,_,rfl,rfl,sm.aH hpc,at1 _ _ _,(by show 2≤sizeLine;decide),fun t H8 _ s8 g8=>r _ _ s8 ⟨(fr[i]'hif,(hd1[i]'hi).2),t,?_,rfl,g8⟩⟩
  rw [List.getElem?_zipWith,List.getElem?_take,if_pos hi,List.getElem?_eq_getElem hif,List.getElem?_eq_getElem hi]
 rw [List.length_map,List.length_range] at hly
 have lft:(fr.take hd1.length).length=hd1.length:=by rw [List.length_take];omega
 have lzw:(List.zipWith (fun n c=>(n,c.2)) (fr.take hd1.length) hd1).length=hd1.length:=by rw [List.length_zipWith,lft,Nat.min_self]
 try dsimp only [bK]
 refine ⟨_,rfl,?_⟩
 try dsimp only [tCB,fP]
 refine ⟨_,rfl,_,rfl,h1,_,rfl,.inr (s7.aH g6'),_,rfl,F,_,rfl,SqL.of (s7 _ _ gF6),fun p8 H8 _ s8 g8=>?_⟩
 rw [lu1,rQ,←List.map_take] at g8
 refine ⟨p8,_,rfl,SqL.of g8,fun t9 H9 _ s9 g9=>?_⟩
 refine ⟨(by show 3≤sizeLine;decide),fun qn H10 _ s10 g10=>?_⟩
 refine ⟨_,rfl,D7,_,rfl,SqL.of ((s8.trans (s9.trans s10)) _ _ g7),fun t11 H11 _ s11 g11=>?_⟩
 refine ⟨(by show 2≤sizeLine;decide),fun p12 H12 _ s12 g12=>?_⟩
 have t712:=s8.trans (s9.trans (s10.trans (s11.trans s12)))
 have hnt:∀n∈fr.take hd1.length,Nm n∧n∉ow.map (·.1):=fun n h=>fnm n (List.mem_of_mem_take h)
 have ndt:(fr.take hd1.length).Nodup:=fnd.sublist (List.take_sublist _ _)
 have hgk:Good hd1:=⟨hsub.2.1,by omega,by omega⟩
 have hgn:Good (List.zipWith (fun n c=>(n,c.2)) (fr.take hd1.length) hd1):=⟨by rw [iU lft];exact ndt,by omega,by omega⟩
 have hHQk:HQ hs (.keep q0 (hd1.map (·.1))) hd1:=by
  have h:=HH.keep (hs:=hs) (q:=q0) (uC nd hsub.1)
  rw [zip_fst_snd] at h
  exact .mk1 rfl hHQ h hgk
 have hHQn:HQ hs (.nmd (.keep q0 (hd1.map (·.1))) (fr.take hd1.length)) (List.zipWith (fun n c=>(n,c.2)) (fr.take hd1.length) hd1):=.mk1 rfl hHQk (.nmd lft) hgn
 refine q p12 H12 (.ref qn) (.ref t11) (.nmd (.keep q0 (hd1.map (·.1))) (fr.take hd1.length)) _ (t6.trans (s7.trans t712)) g12 ?_ ?_ hHQn ⟨hgn,fun x hx=>?_⟩ (fun x hx=>?_) rfl ?_ ⟨_,by rw [iU lft]⟩
 ·refine .nmd (SqT.of ((s11.trans s12) _ _ g10)) (hQk.same (s7.trans t712)) (jC (SqT.of ((s10.trans (s11.trans s12)) _ _ g9)) (fun n h=>(hnt n h).1) (by omega) (by omega))
 ·exact wU (SqT.of (s12 _ _ g11)) (by omega) fun i y e=>(hR i y e).st t712
 ·obtain ⟨h1',c,hcm,e⟩:=aBl hx
  exact ⟨(hnt _ h1').1,by rw [e];exact (hc1 c hcm).2⟩
 ·exact (hnt _ (aBl hx).1).2
 ·rw [lzw]
  omega
def hdK (hd:Hdr):List (Key × V):=hd.map fun c=>((Sum.inr c.1:Key),V.str c.2)
theorem aR8 {H:Hp} {us:List V} {hd:Hdr} (h:bO (IsC K H) us hd):aS2 K H us (hdK hd):=by
 induction h with
 |nil=>exact .nil
 |cons r _ ih=>
  obtain ⟨p,rfl,hp⟩:=r
  exact .cons ⟨p,rfl,hp⟩ ih
theorem aQ8 {hd:Hdr} (h:(hd.map (·.1)).Nodup):((hdK hd).map (·.1)).Nodup:=by
 unfold hdK
 rw [List.map_map]
 have e:((fun x:Key × V=>x.1) ∘ fun c:Str × Str=>((Sum.inr c.1:Key),V.str c.2))=(fun n:Str=>(Sum.inr n:Key)) ∘ fun c:Str × Str=>c.1:=rfl
 rw [e,←List.map_map]
 exact List.pairwise_map.mpr (h.imp fun ne z=>ne (Sum.inr.inj z))
theorem aNv (n:Str):∀hd:Hdr,mC (hdK hd) (Sum.inr n)=(look hd n).map V.str
 |[]=>rfl
 |c::r=>by
  show mC (((Sum.inr c.1:Key),V.str c.2)::hdK r) (Sum.inr n)=_
  unfold look
  rw [List.find?_cons]
  by_cases e:c.1=n
  ·rw [sV (by rw [e]),decide_eq_true e]
   rfl
  ·rw [sZ (by intro z;exact e (Sum.inr.inj z)),decide_eq_false e]
   exact aNv n r
theorem aAf {X:Cx} {scope:Scope} {N:List Str} {tl:TE} {σ:L2.St} {H:Hp} {Q:VK} {b:Addr} {us:List V} {cs:Hdr} (hb:H b=some (.lst us)) (hu:bO (IsC K H) us cs) (h8:cs.length≤100) (cap:Cap X scope N σ [none,none]) (hw:∀R:VK,R (.ref b) H→tl σ H R)
  (q:∀D H',H D=none→Same H H'→H' D=some (.lst ((cs.map (·.1)).map V.str))→Q (.ref D) H'):iK X scope N (tR K tl) (aCk K 2 (gR (bK 0) (gR (bK 1) xZ))) pY (wA 0) σ H Q:=by
 have lu:=hu.len
 refine tZ [none,none] cap (hw _ ⟨b,rfl,⟨_,SqL.of hb⟩,wN Same (pJ H) us (fun _=>true) (fun i _ y=>∃c,cs[i]?=some c∧y=.str c.1) (fun _ _ h=>h) (fun _ _ _ h=>h) (fun i σ=>∃c,cs[i]?=some c∧At2 [none,none] (.str c.1) (.str c.2) σ) (Ps2 [none,none]) ⟨none,none,rfl⟩ (small (by lia)) _ (xY fun H' s'=>SqL.of (s' _ _ hb)) (qD fun H' s'=>SqL.of (s' _ _ hb)) (fun i x σ' H' Q' ex hps s' qq=>?_) (fun i x σ2 ex hA H' R s' r=>r _ (Same.refl _)) (fun i x σ2 ex hA _ H' R s' r=>?_) fun D H1 ys s1 fD g1 hys=>?_⟩)
 ·obtain ⟨c,hc,p,rfl,hp⟩:=bN hu ex
  exact hg2 (s'.aH hp) hps fun σ2 h1 h2=>qq σ2 h1 ⟨c,hc,h2⟩
 ·obtain ⟨c,hc,rfl⟩:=hA
  exact ⟨_,rfl,r _ _ (Same.refl H') ⟨c,hc,rfl⟩⟩
 ·rw [qM] at hys
  obtain ⟨l,hg⟩:=oM hys
  rw [aJo (by lia) hg] at g1
  exact q D H1 fD s1 g1
def aEk (K:PySem.W.Frag):Sp:=fun vs H Q _=>∃(a N:Addr) (vq vh:V) (q:Qn) (hd:Hdr) (ns:List Str) (hs:Str→Option Hdr),vs=[.ref a,vq,vh,.ref N]∧mJ H a∧N≠a∧IsQ K H vq q∧dB K H vh hd∧rN hd∧HQ hs q hd∧H N=some (.lst (ns.map V.str))∧mR ns ∧
 ∀p H' v1 v2 q' hd',Fx a H H'→H' p=some (.tup [v1,v2])→IsQ K H' v1 q'→dB K H' v2 hd'→HQ hs q' hd'→rN hd'→size q'≤size q+1→Q (.ref p) H'
abbrev lmW:List V:=[.str "least",.str "most"]
theorem aDt (T:Txt w K mg) (fY:Ok P w K mg base 2 "_law_some" ["_law_state","_law_head_here","_law_least"] (xG K)) (aHs:Ok P w K mg base 2 "_law_sums" ["_law_state","_law_head_here","_law_fresh_here"] (aJu K)) :
  Ok P w K mg base 3 "_law_group" ["_law_state","_law_question_here","_law_head_here","_law_names_here"] (aEk K):=by
 refine Ok.ofV T.aFu cT (fun vs H Q E h=>?_) (fun f cdv A outer s H vs Q E hr h=>?_)
 ·obtain ⟨a,N,vq,vh,q,hd,ns,hs,rfl,_⟩:=h;rfl
 obtain ⟨a,N,vq,vh,q0,hd,ns,hs,rfl,hst,nNa,hq,hh,hok,hHQ,hN,hn,q⟩:=h
 have hu:=wI hr
 refine ⟨_,(aC (aV (i:=4) cT.nd rfl (by trivial) (dD sX (aJ (fY.mono (by decide)) hr (by rfl) (aB (vv 0) (aB (vv 2) (aB aD aA)))) fZ (dJ aD))) (aC (aV (i:=5) cT.nd rfl (by trivial) (bD bI (by rfl) T.cB bQ (aB (bZ (N:=["_law_name","_law_kind"]) (by trivial) (dF (by decide +kernel)) rfl (fJ (vv 4)) (fun cl s' H' fp=>⟨(iB (K:=K) (n:=2) rfl (bA (aN (i:=0) (show (["_law_name","_law_kind"]:List Str).Nodup from by decide +kernel) rfl (Or.inl rfl)) (bA (aN (i:=1) (show (["_law_name","_law_kind"]:List Str).Nodup from by decide +kernel) rfl (Or.inl rfl)) cO))),cI,(vv 0)⟩)) aA))) (aC (kW (i0:=6) cT.nd rfl (by trivial) (N:=["_law_name","_law_some_here"]) (by trivial) (cX (aG mX) rfl (by decide +kernel)) rfl (fJ (dD sX (vv 3) (dJ aD) fZ)) (fun cl s' H' fp=>⟨(aN (i:=0) (show (["_law_name","_law_some_here"]:List Str).Nodup from by decide +kernel) rfl (Or.inl rfl)),(pX (aP (gO (K:=K)) (vv 0) (vv 1) (by with_unfolding_all rfl))),(vv 0)⟩)) (aC (aV (i:=7) cT.nd rfl (by trivial) (aJ (aHs.mono (by decide)) hr (by rfl) (aB (vv 0) (aB (vv 2) (aB (vv 6) aA))))) (aC (jA PassesOwn.never rfl (dC (vv 7)) (lM rfl (bA (aN (i:=8) cT.nd rfl (by trivial)) (bA (aN (i:=9) cT.nd rfl (by trivial)) (bA (aN (i:=10) cT.nd rfl (by trivial)) cO)))) (aC (aV (i:=11) cT.nd rfl (by trivial) aQ) (aC (bJ (aP nP (vv 8) (bC (aB aQ (aB aQ aA))) (by with_unfolding_all rfl)) (aF (aV (i:=11) cT.nd rfl (by trivial) (uN hu (bD (aCr rfl) (by rfl) T.aG7 aA6 (aB (vv 2) aA)) (vv 9) (fun _ _=>rfl)))) aW) (aF (eF (uX PySem.F.plainAttrs_list PySem.F.slot_list_append PySem.F.type_list_append lO (vv 4) (aB (bC (aB (vv 10) (aB (vv 11) aA))) aA))))))) (aF (aL (bC (aB (bC (aB aQ (aB (vv 1) (aB (vv 5) (aB (vv 7) aA))))) (aB (bD bI (by rfl) T.cB bQ (aB (vv 4) aA)) aA)))))))))),?_⟩
 obtain ⟨⟨nd,l1,l8⟩,hc⟩:=id hok
 refine ⟨_,rfl,_,rfl,a,vh,hd,0,rfl,hst,hh,⟨nd,l1,l8⟩,by decide,fun D H1 us hd' f1 fD g1 hus hsub _=>?_⟩
 refine ⟨_,rfl,D,_,rfl,SqL.of g1,fun p H2 fp s2 g2=>?_⟩
 rw [show (6:Int)=((6:Nat):Int) from rfl,rQ] at g2
 have fx2:=f1.sm s2
 have hu2:bO (IsC K H2) (us.take 6) (hd'.take 6):=uI (hus.imp fun _ _ h=>h.same s2) 6
 have hsub6:=hsub.take 6
 have fp0:H p=none:=f1.free fp
 have npa:p≠a:=hst.ne fp0
 generalize us.take 6=zs at g2 hu2
 have l6:(hd'.take 6).length≤6:=by rw [List.length_take];lia
 generalize hd'.take 6=hz at hu2 hsub6 l6
 have lz:=hu2.len
 have hcz:∀c∈hz,Nm c.1∧zM c.2:=fun c h=>hc c (hsub6.1 c h)
 try dsimp only [bK,iR,jK,tCB,fP]
 refine aAf g2 hu2 (by lia) gM (fun R r=>⟨_,rfl,r⟩) fun D3 H3 fD3 s3 g3=>?_
 refine ⟨D3,_,rfl,SqL.of g3,fun t4 H4 ft4 s4 g4=>?_⟩
 have fx4:=(fx2.sm s3).sm s4
 have gp4:=(s3.trans s4) _ _ g2
 try dsimp only [bK,iR,jK]
 refine aCp (K:=K) (U:=.ref t4) (used:=hz.map (·.1)) hn ?_ (fun R r=>?_) (fun n l H' R s' r=>?_) fun F H5 fF s5 gF=>?_
 ·exact cY 5 (by decide +kernel) rfl rfl (by trivial)
 ·refine ⟨_,rfl,_,rfl,N,_,rfl,SqL.of (fx4.same _ _ nNa hN),fun p' H' fp' s' g'=>r p' H' fp' s' ?_⟩
  rw [g',show (3:Int)=((3:Nat):Int) from rfl,gK,List.map_drop]
 ·refine ⟨_,rfl,_,rfl,t4,_,rfl,.inr (SqT.of (s' _ _ g4)),rfl,kE,_,rfl,?_⟩
  rw [nH]
  exact r H' (Same.refl H')
 obtain ⟨fnd,fnm,flen,flen2⟩:=aI9 (used:=hz.map (·.1)) hn
 rw [List.length_map] at flen
 generalize hfr:lW ns (hz.map (·.1))=fr at gF fnd fnm flen flen2
 have fx5:=fx4.sm s5
 have nFa:F≠a:=fx4.st.ne fF
 try dsimp only [bK]
 refine ⟨_,rfl,_,rfl,_,rfl,a,F,vh,hd,fr,rfl,fx5.st,hh.tk (fx5.tk hst),hok,gF,nFa,by lia,fun n h=>(fnm n h).1,fun vsm H6 ss js f6 hsm hsj hnew hkj=>?_⟩
 obtain ⟨⟨sa,xs,rfl,hxs,hx2⟩,ls1,ls2⟩:=hsm
 have lxs:=hx2.len
 have ljs:=hsj.len
 have fx6:=fx5.trans f6
 have gp6:=f6.same _ _ npa (s5 _ _ gp4)
 obtain ⟨hb0,hus0,rfl,hhb,hhu⟩:=id hh
 have lhu:=hhu.len
 refine ⟨_,rfl,sa,rfl,⟨_,hxs⟩,xJ (xs:=xs) (fun i σ H'=>(Fx a H H'∧TK K H6 H')∧∃(ws:List V) (l8 l9 l10 l11:Option V),H' p=some (.lst (zs++ws))∧ws.length=i∧bO (IsC K H') ws (((ss.map Sm.new).zip js).take i)∧σ=[some (.ref a),some vq,some (.ref hb0),some (.ref N),some (.ref p),some (.ref t4),some (.ref F),some (.ref sa),l8,l9,l10,l11]) ⟨⟨fx6,fun _ _ e=>e⟩,[],_,_,_,_,by rw [List.append_nil];exact gp6,rfl,.nil,rfl⟩ (fun i σ H' _ ⟨e,_⟩=>e.2 _ _ hxs) ?_ ?_⟩
 ·rintro i x σ H' hx ⟨⟨fl,tk6⟩,ws,l8',l9,l10,l11,gp,lws,hws,rfl⟩
  obtain ⟨sm,hsmi,hism⟩:=bN hx2 hx
  obtain ⟨j,hji,hjk,hjw⟩:=bN hsj hsmi
  have hi:i<ss.length:=(List.getElem?_eq_some_iff.mp hsmi).1
  have hkd:zM j:=hkj sm j (List.mem_of_getElem? (List.getElem?_zip_eq_some.mpr ⟨hsmi,hji⟩))
  obtain ⟨b,rfl,hnm,hcase⟩:=hism
  have hzi:((ss.map Sm.new).zip js).take (i+1)=((ss.map Sm.new).zip js).take i++[(sm.new,j)]:=by
   have e:((ss.map Sm.new).zip js)[i]?=some (sm.new,j):=List.getElem?_zip_eq_some.mpr ⟨by rw [List.getElem?_map,hsmi];rfl,hji⟩
   rw [List.take_add_one,e]
   rfl
  have key:∀Hc,Fx a H' Hc→∀tz Hy,Hc tz=none→Same Hc Hy→Hy tz=some (.tup [.str sm.new,.str j])→Hy p=some (.lst (zs++ws))∧(Fx a H (upd Hy p (.lst (zs++ws++[V.ref tz])))∧TK K H6 (upd Hy p (.lst (zs++ws++[V.ref tz]))))∧(ws++[V.ref tz]).length=i+1∧bO (IsC K (upd Hy p (.lst (zs++ws++[V.ref tz])))) (ws++[V.ref tz]) (((ss.map Sm.new).zip js).take (i+1)):=by
   intro Hc fc tz Hy ftz sy gy
   have gpc:=fc.same _ _ npa gp
   have gpy:=sy _ _ gpc
   have ntp:tz≠p:=(bF gpc ftz).symm
   refine ⟨gpy,⟨((fl.trans fc).sm sy).upd fp0 npa,fun _ _ e=>(sy.aH (fc.aH fl.st (tk6 _ _ e))).dO gpy⟩,by rw [List.length_append,lws];rfl,?_⟩
   ·rw [hzi]
    exact (hws.imp fun _ _ h=>(h.tk ((fc.sm sy).tk fl.st)).tk fun _ _ e=>e.dO gpy).app (.cons ⟨tz,rfl,SqT.of (by rw [bH ntp];exact gy)⟩ .nil)
  have hkey:∃cv,SqT K H6 b [.str sm.wd,cv,.str sm.new]∧((inV (.str sm.wd) lmW=true∧∃c,cv=.str c∧look hd c=some j)∨(inV (.str sm.wd) lmW=false∧j = "number")):=by
   rcases hcase with ⟨e,ec,hb⟩|⟨c,ec,hcn,hwd,hb⟩
   ·refine ⟨_,by rw [e];exact hb,.inr ⟨by rw [e];decide +kernel,?_⟩⟩
    unfold smK at hjk
    rw [ec] at hjk
    exact (Option.some.inj hjk).symm
   ·have hlk:look hd c=some j:=by
     unfold smK at hjk
     rw [ec] at hjk
     exact hjk
    refine ⟨_,hb,?_⟩
    rcases hwd with e|e|e
    ·refine .inr ⟨by rw [e];decide +kernel,?_⟩
     rcases hkd with z|z
     ·exact z
     ·exact absurd z (hjw e)
    ·exact .inl ⟨by rw [e];decide +kernel,c,rfl,hlk⟩
    ·exact .inl ⟨by rw [e];decide +kernel,c,rfl,hlk⟩
  obtain ⟨cv,hb,hcv⟩:=hkey
  refine ⟨b,_,rfl,tk6 _ _ hb,rfl,_,_,rfl,_,_,rfl,_,_,rfl,rfl,?_⟩
  refine ⟨_,rfl,(by show 2≤sizeLine;decide),fun tt Ht ftt st gt=>⟨tt,lmW,rfl,.inr (SqT.of gt),rfl,rfl,_,rfl,?_⟩⟩
  have flt:Fx a H' Ht:=.of fl.st st
  rcases hcv with ⟨ew,c,rfl,hlk⟩|⟨ew,rfl⟩
  ·show if inV (.str sm.wd) lmW=true then _ else _
   rw [ew]
   refine cA ?_
   have hhu':bO (IsC K Ht) hus0 hd:=hhu.imp fun _ _ h=>h.tk fun _ _ e=>st.aH (tk6 _ _ (fx6.tk hst _ _ e))
   refine ⟨_,rfl,hb0,_,_,rfl,st.aH (tk6 _ _ (fx6.tk hst _ _ hhb)),aR8 hhu',by lia,fun dd Hd fdd sd gd=>?_⟩
   rw [yZ (aQ8 nd)] at gd
   refine ⟨_,rfl,dd,.str j,rfl,?_,?_⟩
   ·have hg:=vA.k (k:=(Sum.inr c:Key)) gd
    rw [aNv,hlk] at hg
    exact hg
   ·have flc:Fx a H' Hd:=flt.sm sd
    refine ⟨_,rfl,.inl ⟨rfl,_,SqL.of (flc.same _ _ npa gp)⟩,_,rfl,_,rfl,(by show 2≤sizeLine;decide),fun tz Hy ftz sy gy=>?_⟩
    obtain ⟨k1,k2,k3,k4⟩:=key Hd flc tz Hy ftz sy gy
    exact ⟨p,_,_,rfl,rfl,k1,fQ (by rw [List.length_append];lia),k2,ws++[V.ref tz],_,_,_,_,by rw [←List.append_assoc];exact aU,k3,k4,rfl⟩
  ·show if inV (.str sm.wd) lmW=true then _ else _
   rw [ew]
   refine aZ ?_
   refine ⟨_,rfl,.inl ⟨rfl,_,SqL.of (flt.same _ _ npa gp)⟩,_,rfl,_,rfl,(by show 2≤sizeLine;decide),fun tz Hy ftz sy gy=>?_⟩
   obtain ⟨k1,k2,k3,k4⟩:=key Ht flt tz Hy ftz sy gy
   exact ⟨p,_,_,rfl,rfl,k1,fQ (by rw [List.length_append];lia),k2,ws++[V.ref tz],_,_,_,_,by rw [←List.append_assoc];exact aU,k3,k4,rfl⟩
 ·rintro σ H' ⟨⟨fl,tk6⟩,ws,l8',l9,l10,l11,gp,lws,hws,rfl⟩
  have lzj:((ss.map Sm.new).zip js).length=ss.length:=by rw [List.length_zip,List.length_map];lia
  rw [List.take_of_length_le (by lia)] at hws
  have hfst:((ss.map Sm.new).zip js).map (·.1)=ss.map Sm.new:=List.map_fst_zip (by rw [List.length_map];lia)
  have hgd:Good (hz++(ss.map Sm.new).zip js):=by
   refine ⟨?_,by rw [List.length_append];lia,by rw [List.length_append];lia⟩
   rw [List.map_append,hfst,hnew,List.nodup_append]
   refine ⟨hsub6.2.1,fnd.sublist (List.take_sublist _ _),fun x hx y hy e=>?_⟩
   subst e
   exact (fnm x (List.mem_of_mem_take hy)).2 hx
  refine ⟨_,rfl,_,rfl,_,rfl,(by show 4≤sizeLine;decide),fun qj H7 _ s7 g7=>⟨_,rfl,p,_,rfl,SqL.of (s7 _ _ gp),fun t8 H8 _ s8 g8=>⟨(by show 2≤sizeLine;decide),fun p9 H9 _ s9 g9=>?_⟩⟩⟩
  have t9:=s7.trans (s8.trans s9)
  have fx9:=fl.sm t9
  have tk9:TK K H H9:=fx9.tk hst
  have tk69:TK K H6 H9:=fun _ _ e=>t9.aH (tk6 _ _ e)
  have tk29:TK K H2 H9:=fun _ _ e=>tk69 _ _ (f6.aH fx5.st (s5.aH (s4.aH (s3.aH e))))
  have tk49:TK K H4 H9:=fun _ _ e=>tk69 _ _ (f6.aH fx5.st (s5.aH e))
  refine q p9 H9 _ _ (.group q0 (hz.map (·.1)) ss) (hz++(ss.map Sm.new).zip js) fx9 g9 ?_ ?_ ?_ ⟨hgd,fun c hcm=>?_⟩ (Nat.le_refl _)
  ·refine .group (SqT.of ((s8.trans s9) _ _ g7)) (hq.tk tk9) (jC (tk49 _ _ (SqT.of g4)) (fun n hn'=>?_) (Nat.zero_le _) (by rw [List.length_map];lia)) ⟨⟨sa,xs,rfl,tk69 _ _ hxs,hx2.imp fun _ _ h=>h.tk tk69⟩,Nat.zero_le _,by lia⟩
   obtain ⟨c,hcm,rfl⟩:=List.mem_map.mp hn'
   exact (hcz c hcm).1
  ·exact ⟨t8,_,rfl,SqT.of (s9 _ _ g8),(hu2.imp fun _ _ h=>h.tk tk29).app (hws.imp fun _ _ h=>h.same t9)⟩
  ·have h:=HH.group (hs:=hs) (q:=q0) (uC nd hsub6.1) hsj
   rw [zip_fst_snd] at h
   exact .mk1 rfl hHQ h hgd
  ·rcases List.mem_append.mp hcm with hcm|hcm
   ·exact hcz c hcm
   ·refine ⟨(fnm c.1 (List.mem_of_mem_take (l:=fr) (i:=ss.length) ?_)).1,?_⟩
    ·rw [←hnew,←hfst]
     exact List.mem_map.mpr ⟨c,hcm,rfl⟩
    ·rw [List.zip_map_left] at hcm
     obtain ⟨⟨s',j'⟩,hm,rfl⟩:=List.mem_map.mp hcm
     exact hkj s' j' hm
theorem iI {H:Hp}:∀(n m:Nat) {x y:V},n≤m→DEq K H n x y→DEq K H m x y
 |0,0,x,y,_,h=>h
 |0,m+1,x,y,_,h=>.inl h
 |n+1,0,x,y,l,_=>by lia
 |n+1,m+1,x,y,l,h=>by
  rcases h with h|⟨a,b,xs,ys,e1,e2,ha,hb,h⟩
  ·exact .inl h
  refine .inr ⟨a,b,xs,ys,e1,e2,ha,hb,?_⟩
  clear ha hb e1 e2
  induction h with
  |nil=>exact .nil
  |cons r _ ih=>exact .cons (iI n m (by lia) r) ih
theorem rD {α:Type} {H:Hp} {n:Nat} {R:V→α→Prop} {v u:V} {ts:List α} (k:∀a b t,R a t→R b t→DEq K H n a b) (h:vM K H R v ts) (h':vM K H R u ts):DEq K H (n+1) v u:=by
 obtain ⟨a,vs,rfl,ha,h1⟩:=h
 obtain ⟨b,us,rfl,hb,h2⟩:=h'
 refine .inr ⟨a,b,vs,us,rfl,rfl,ha,hb,?_⟩
 clear ha hb
 induction h1 generalizing us with
 |nil=>cases h2;exact .nil
 |cons r _ ih=>
  cases h2 with
  |cons r2 t2=>exact .cons (k _ _ _ r r2) (ih _ t2)
theorem bW {H:Hp} {n:Nat} {v:V} (h:lC v=true):DEq K H n v v:=by
 cases n with
 |zero=>exact ⟨h,rfl⟩
 |succ n=>exact .inl ⟨h,rfl⟩
theorem aR2 {v:V} (h:aHu v=true):lC v=true:=by
 cases v <;> first|rfl|cases h
theorem aZc {H:Hp} {v u:V} {o:Oth} (h:IsO K H v o) (h':IsO K H u o):DEq K H 1 v u:=by
 cases o with
 |val x=>
  obtain ⟨a,rfl,ha,hx,hv⟩:=h
  obtain ⟨b,rfl,hb,_⟩:=h'
  exact .inr ⟨a,b,_,_,rfl,rfl,ha,hb,.cons (bW rfl) (.cons (bW (aR2 hv)) .nil)⟩
 |col d=>
  obtain ⟨a,rfl,ha,_⟩:=h
  obtain ⟨b,rfl,hb,_⟩:=h'
  exact .inr ⟨a,b,_,_,rfl,rfl,ha,hb,.cons (bW rfl) (.cons (bW rfl) .nil)⟩
theorem aZm {H:Hp} {v u:V} {t:Tst} (h:IsT K H v t) (h':IsT K H u t):DEq K H 2 v u:=by
 obtain ⟨a,w,rfl,ha,_,_,ho⟩:=h
 obtain ⟨b,w',rfl,hb,_,_,ho'⟩:=h'
 exact .inr ⟨a,b,_,_,rfl,rfl,ha,hb,.cons (bW rfl) (.cons (bW rfl) (.cons (aZc ho ho') .nil))⟩
theorem aWk {H:Hp} {v u:V} {t:Str × Str} (h:lB K H v t) (h':lB K H u t):DEq K H 2 v u:=by
 obtain ⟨a,rfl,ha,_⟩:=h
 obtain ⟨b,rfl,hb,_⟩:=h'
 exact .inr ⟨a,b,_,_,rfl,rfl,ha,hb,.cons (bW rfl) (.cons (bW rfl) .nil)⟩
theorem aWv {H:Hp} {v u:V} {t:Str × Str} (h:oF K H v t) (h':oF K H u t):DEq K H 2 v u:=by
 obtain ⟨a,rfl,ha,_⟩:=h
 obtain ⟨b,rfl,hb,_⟩:=h'
 exact .inr ⟨a,b,_,_,rfl,rfl,ha,hb,.cons (bW rfl) (.cons (bW rfl) .nil)⟩
theorem aWg {H:Hp} {v u:V} {t:Sm} (h:lL K H v t) (h':lL K H u t):DEq K H 2 v u:=by
 obtain ⟨a,rfl,_,h⟩:=h
 obtain ⟨b,rfl,_,h'⟩:=h'
 rcases h with ⟨x,y,z⟩|⟨c,x,y,z,g⟩
 ·rcases h' with ⟨x',y',z'⟩|⟨c',x',y',z',g'⟩
  ·exact .inr ⟨a,b,_,_,rfl,rfl,z,z',.cons (bW rfl) (.cons (bW rfl) (.cons (bW rfl) .nil))⟩
  ·rw [y] at x';cases x'
 ·rcases h' with ⟨x',y',z'⟩|⟨c',x',y',z',g'⟩
  ·rw [y'] at x;cases x
  ·rw [x] at x';cases x'
   exact .inr ⟨a,b,_,_,rfl,rfl,g,g',.cons (bW rfl) (.cons (bW rfl) (.cons (bW rfl) .nil))⟩
theorem aRw {H:Hp} {v u:V} {t:Str} (h:fC K H v t) (h':fC K H u t):DEq K H 2 v u:=by
 obtain ⟨rfl,_⟩:=h
 obtain ⟨rfl,_⟩:=h'
 exact bW rfl
theorem aPy {H:Hp} {v:V} {q:Qn} (h:IsQ K H v q):∀{u:V},IsQ K H u q→∃a b xs ys,v=.ref a∧u=.ref b∧SqT K H a xs∧SqT K H b ys∧Al2 (DEq K H (size q+3)) xs ys:=by
 have go:∀{v u:V} {q:Qn},(∃a b xs ys,v=.ref a∧u=.ref b∧SqT K H a xs∧SqT K H b ys∧Al2 (DEq K H (size q+3)) xs ys)→DEq K H (size q+4) v u:=fun ⟨a,b,xs,ys,e1,e2,ha,hb,h⟩=>.inr ⟨a,b,xs,ys,e1,e2,ha,hb,h⟩
 induction h with
 |table a _=>
  intro u hu
  cases hu with
  |table a' _=>exact ⟨_,_,_,_,rfl,rfl,a,a',.cons (bW rfl) (.cons (bW rfl) .nil)⟩
 |whr a _ c ih=>
  intro u hu
  cases hu with
  |whr a' b' c'=>
   have:=c.2.1
   exact ⟨_,_,_,_,rfl,rfl,a,a',.cons (bW rfl) (.cons (iI (size _+4) _ (by simp only [size];lia) (go (ih b'))) (.cons (iI 3 _ (by lia) (rD (n:=2) (R:=IsT K H) (fun _ _ _=>aZm) c.1 c'.1)) .nil))⟩
 |keep a _ c ih=>
  intro u hu
  cases hu with
  |keep a' b' c'=>exact ⟨_,_,_,_,rfl,rfl,a,a',.cons (bW rfl) (.cons (iI (size _+4) _ (by simp only [size];lia) (go (ih b'))) (.cons (iI 3 _ (by lia) (rD (n:=2) (R:=fC K H) (fun _ _ _=>aRw) c.1 c'.1)) .nil))⟩
 |nmd a _ c ih=>
  intro u hu
  cases hu with
  |nmd a' b' c'=>exact ⟨_,_,_,_,rfl,rfl,a,a',.cons (bW rfl) (.cons (iI (size _+4) _ (by simp only [size];lia) (go (ih b'))) (.cons (iI 3 _ (by lia) (rD (n:=2) (R:=fC K H) (fun _ _ _=>aRw) c.1 c'.1)) .nil))⟩
 |join a _ _ c ih1 ih2=>
  intro u hu
  cases hu with
  |join a' b' d' c'=>exact ⟨_,_,_,_,rfl,rfl,a,a',.cons (bW rfl) (.cons (iI (size _+4) _ (by simp only [size];lia) (go (ih1 b'))) (.cons (iI (size _+4) _ (by simp only [size];lia) (go (ih2 d'))) (.cons (iI 3 _ (by lia) (rD (n:=2) (R:=lB K H) (fun _ _ _=>aWk) c.1 c'.1)) .nil)))⟩
 |group a _ c d ih=>
  intro u hu
  cases hu with
  |group a' b' c' d'=>exact ⟨_,_,_,_,rfl,rfl,a,a',.cons (bW rfl) (.cons (iI (size _+4) _ (by simp only [size];lia) (go (ih b'))) (.cons (iI 3 _ (by lia) (rD (n:=2) (R:=fC K H) (fun _ _ _=>aRw) c.1 c'.1)) (.cons (iI 3 _ (by lia) (rD (n:=2) (R:=lL K H) (fun _ _ _=>aWg) d.1 d'.1)) .nil)))⟩
 |first a _ c d ih=>
  intro u hu
  cases hu with
  |first a' b' c' d'=>exact ⟨_,_,_,_,rfl,rfl,a,a',.cons (bW rfl) (.cons (iI (size _+4) _ (by simp only [size];lia) (go (ih b'))) (.cons (iI 3 _ (by lia) (rD (n:=2) (R:=oF K H) (fun _ _ _=>aWv) c.1 c'.1)) (.cons (bW rfl) .nil)))⟩
theorem aKx {H:Hp} {v u:V} {q:Qn} (h:IsQ K H v q) (h':IsQ K H u q) (hz:size q≤37):∃a b xs ys,v=.ref a∧u=.ref b∧SqT K H a xs∧SqT K H b ys∧Al2 (DEq K H 40) xs ys:=by
 obtain ⟨a,b,xs,ys,e1,e2,ha,hb,h⟩:=aPy h h'
 refine ⟨a,b,xs,ys,e1,e2,ha,hb,?_⟩
 clear ha hb e1 e2
 induction h with
 |nil=>exact .nil
 |cons r _ ih=>exact .cons (iI _ _ (by lia) r) ih
theorem aAw (T:Txt w K mg):Ok P w K mg base 1 "_law_columns" ["_law_test"] (aA5 K):=by
 refine Ok.ofV T.aBu aAu (fun vs H Q E h=>?_) (fun f cdv A outer s H vs Q E hr h=>?_)
 ·obtain ⟨v,t,rfl,_⟩:=h;rfl
 obtain ⟨v,⟨c,sg,o⟩,rfl,⟨a,w,rfl,ha,n1,s1,ho⟩,q⟩:=h
 refine ⟨_,(aC (bJ (aP bY (aK aO (aK aO (vv 0) aD (fun _ _=>rfl)) aD (fun _ _=>rfl)) aQ (aX _)) (aF (aL (cP (aB (aK aO (vv 0) aD (fun _ _=>rfl)) (aB (aK aO (aK aO (vv 0) aD (fun _ _=>rfl)) aD (fun _ _=>rfl)) aA))))) aW) (aF (aL (cP (aB (aK aO (vv 0) aD (fun _ _=>rfl)) aA))))),?_⟩
 cases o with
 |val x=>
  obtain ⟨b,rfl,hb,_⟩:=ho
  exact ⟨_,rfl,_,_,2,_,rfl,rfl,ha,at2 _ _ _ _,_,_,0,_,rfl,rfl,hb,at0 _ _,rfl,_,rfl,aZ ⟨_,rfl,_,_,0,_,rfl,rfl,ha,at0 _ _,(by show 1≤sizeLine;decide),fun D H' _ s' g=>q D H' s' g⟩⟩
 |col d=>
  obtain ⟨b,rfl,hb,_⟩:=ho
  exact ⟨_,rfl,_,_,2,_,rfl,rfl,ha,at2 _ _ _ _,_,_,0,_,rfl,rfl,hb,at0 _ _,rfl,_,rfl,cA ⟨_,rfl,_,_,0,_,rfl,rfl,ha,at0 _ _,_,rfl,_,_,2,_,rfl,rfl,ha,at2 _ _ _ _,_,_,1,_,rfl,rfl,hb,at1 _ _ _,(by show 2≤sizeLine;decide),fun D H' _ s' g=>q D H' s' g⟩⟩
theorem aSb (t:Tst):(bL t).length≤2:=by unfold bL;cases t.o <;> simp
def aVg (K:PySem.W.Frag):Sp:=fun vs H Q _=>∃v u t ns,vs=[v,u]∧IsT K H v t∧aHx K H u ns∧∀H',Same H H'→Q (.bl (sub (bL t) ns)) H'
theorem aBs (T:Txt w K mg) (aBq:Ok P w K mg base 1 "_law_columns" ["_law_test"] (aA5 K)):Ok P w K mg base 2 "_law_within" ["_law_test","_law_names_here"] (aVg K):=by
 refine Ok.ofV T.aDl aCo (fun vs H Q E h=>?_) (fun f cdv A outer s H vs Q E hr h=>?_)
 ·obtain ⟨v,u,t,ns,rfl,_⟩:=h;rfl
 obtain ⟨v,u,t,ns,rfl,hv,⟨b,rfl,hb⟩,q⟩:=h
 refine ⟨_,(aF (aL (aY (uA rfl) (by rfl) T.aIo aBi (aB (bZ (N:=["_law_name","_law_names_here"]) (by trivial) (cX (aG lQ) rfl (by decide +kernel)) rfl (fJ (aJ (aBq.mono (by decide)) hr (by rfl) (aB (vv 0) aA))) (fun cl s' H' fp=>⟨(aN (i:=0) (show (["_law_name","_law_names_here"]:List Str).Nodup from by decide +kernel) rfl (Or.inl rfl)),cI,(fH (wB (K:=K)) (vv 0) (vv 1) (by with_unfolding_all rfl))⟩)) aA)))),?_⟩
 have lc:=aSb t
 dsimp only [aAs,tCB,rY,fP]
 refine uH (K:=K) (fun us=>us=(bL t).map V.str) (fun i _ y=>∃n,(bL t)[i]?=some n∧y=.bl (decide (n∈ns))) (fun _ h=>h) (fun _ h=>h) [none,some (.ref b)] ?_ rfl (fun R r=>⟨_,rfl,v,t,rfl,hv,fun D H1 s1 g1=>r D H1 _ s1 g1 rfl⟩) (fun us hus=>by subst hus;exact small (by rw [List.length_map];lia)) (fun us hus i x ex H' R l sm r=>?_) fun us hus D2 H2 ys t2 g2 hly hR=>?_
 ·exact cY 1 (by decide +kernel) rfl rfl (by trivial)
 ·subst hus
  obtain ⟨n,hn,rfl⟩:=eO ex
  refine ⟨_,rfl,_,rfl,b,_,rfl,hb.imp sm.seq sm.aH,rfl,kE,?_⟩
  show R (.bl (inV (.str n) (ns.map V.str))) H'
  rw [nH]
  exact r _ H' (Same.refl H') ⟨n,hn,rfl⟩
 ·subst hus
  have ey:ys=((bL t).map fun n=>decide (n∈ns)).map V.bl:=by
   refine List.ext_getElem? fun i=>?_
   rw [List.getElem?_map,List.getElem?_map]
   rw [List.length_map] at hly
   by_cases hi:i<ys.length
   ·obtain ⟨n,hn,e⟩:=hR i ys[i] (List.getElem?_eq_getElem hi)
    rw [List.getElem?_eq_getElem hi,hn,e]
    rfl
   ·rw [List.getElem?_eq_none (by lia),List.getElem?_eq_none (by lia)]
    rfl
  rw [ey] at g2
  refine ⟨D2,_,rfl,SqL.of g2,?_⟩
  rw [List.all_map]
  exact q H2 t2
theorem aBt:∀{ns os:List Str} {n:Str},ns.length=os.length→n∈ns→∃j:Nat,ns[j]?=some n∧os[j]?=some (elder ns os n)∧∀(m:Nat) (t':Str),m<j→ns[m]?=some t'→t'≠n
 |m::ns,o::os,n,l,h=>by
  by_cases e:m=n
  ·subst e
   refine ⟨0,rfl,?_,fun m t' h=>by lia⟩
   unfold elder
   rw [List.zip_cons_cons,List.find?_cons,decide_eq_true rfl]
   rfl
  ·have h':n∈ns:=by
    rcases List.mem_cons.mp h with h|h
    ·exact absurd h.symm e
    ·exact h
   obtain ⟨j,h1,h2,h3⟩:=aBt (ns:=ns) (os:=os) (by simpa using l) h'
   refine ⟨j+1,by simpa using h1,?_,fun i t' hi ht=>?_⟩
   ·unfold elder at h2 ⊢
    rw [List.zip_cons_cons,List.find?_cons,decide_eq_false e]
    simpa using h2
   ·cases i with
    |zero=>cases ht;exact e
    |succ i=>exact h3 i t' (by lia) (by simpa using ht)
 |[],_,n,_,h=>by cases h
 |_::_,[],n,l,_=>by cases l
def aNg (K:PySem.W.Frag):Sp:=fun vs H Q _=>∃v a b t ns os,vs=[v,.ref a,.ref b]∧IsT K H v t∧SqL K H a (ns.map V.str)∧SqL K H b (os.map V.str)∧ns.length=os.length∧(∀n∈bL t,n∈ns)∧(∀o∈os,Nm o)∧∀v' H',Same H H'→IsT K H' v' (aL4 (elder ns os) t)→Q v' H'
theorem aAv (T:Txt w K mg):Ok P w K mg base 1 "_law_renamed" ["_law_test","_law_names_here","_law_others"] (aNg K):=by
 refine Ok.ofV T.aBk gA (fun vs H Q E h=>?_) (fun f cdv A outer s H vs Q E hr h=>?_)
 ·obtain ⟨v,a,b,t,ns,os,rfl,_⟩:=h;rfl
 obtain ⟨v,a,b,⟨c,sg,o⟩,ns,os,rfl,⟨p,w,rfl,hp,n1,s1,ho⟩,ha,hb,hl,hc,hN,q⟩:=h
 refine ⟨_,(aC (pP (vv 0) (lM rfl (bA (aN (i:=3) gA.nd rfl (by trivial)) (bA (aN (i:=4) gA.nd rfl (by trivial)) (bA (aN (i:=5) gA.nd rfl (by trivial)) cO))))) (aC (bJ (aP bY (aK aO (vv 5) aD (fun _ _=>rfl)) aQ (aX _)) (aF (aV (i:=5) gA.nd rfl (by trivial) (bC (aB aQ (aB (aK cG (vv 2) (uX PySem.F.plainAttrs_list PySem.F.slot_list_index PySem.F.type_list_index aD9 (vv 1) (aB (aK aO (vv 5) aD (fun _ _=>rfl)) aA)) (fun _ _=>rfl)) aA))))) aW) (aF (aL (bC (aB (aK cG (vv 2) (uX PySem.F.plainAttrs_list PySem.F.slot_list_index PySem.F.type_list_index aD9 (vv 1) (aB (vv 3) aA)) (fun _ _=>rfl)) (aB (vv 4) (aB (vv 5) aA)))))))),?_⟩
 obtain ⟨j,j1,j2,j3⟩:=aBt hl (hc c (by cases o <;> simp [bL]))
 have jo:(os.map V.str)[j]?=some (.str (elder ns os c)):=by rw [List.getElem?_map,j2];rfl
 cases o with
 |val x=>
  obtain ⟨b',rfl,hb',hx⟩:=ho
  refine ⟨_,rfl,p,_,rfl,hp,rfl,_,_,rfl,_,_,rfl,_,_,rfl,rfl,?_⟩
  refine ⟨_,rfl,_,_,0,_,rfl,rfl,hb',at0 _ _,rfl,_,rfl,aZ ?_⟩
  exact ⟨_,rfl,_,rfl,.inl ⟨rfl,_,ha⟩,_,rfl,a,ns,c,j,rfl,rfl,ha,j1,j3,b,_,_,_,rfl,rfl,hb,cD jo,_,rfl,_,rfl,(by show 3≤sizeLine;decide),fun r H' _ s' g=>q _ _ s' ⟨r,_,rfl,SqT.of g,hN _ (List.mem_of_getElem? j2),s1,⟨b',rfl,s'.aH hb',hx.1.same s',hx.2⟩⟩⟩
 |col e=>
  obtain ⟨b',rfl,hb',hx⟩:=ho
  obtain ⟨i,i1,i2,i3⟩:=aBt hl (hc e (by simp [bL]))
  have io:(os.map V.str)[i]?=some (.str (elder ns os e)):=by rw [List.getElem?_map,i2];rfl
  refine ⟨_,rfl,p,_,rfl,hp,rfl,_,_,rfl,_,_,rfl,_,_,rfl,rfl,?_⟩
  refine ⟨_,rfl,_,_,0,_,rfl,rfl,hb',at0 _ _,rfl,_,rfl,cA ?_⟩
  refine ⟨_,rfl,_,rfl,.inl ⟨rfl,_,ha⟩,_,rfl,_,_,1,_,rfl,rfl,hb',at1 _ _ _,a,ns,e,i,rfl,rfl,ha,i1,i3,b,_,_,_,rfl,rfl,hb,cD io,(by show 2≤sizeLine;decide),fun z H1 _ s1' g1=>?_⟩
  exact ⟨_,rfl,_,rfl,.inl ⟨rfl,_,s1'.seq ha⟩,_,rfl,a,ns,c,j,rfl,rfl,s1'.seq ha,j1,j3,b,_,_,_,rfl,rfl,s1'.seq hb,cD jo,_,rfl,_,rfl,(by show 3≤sizeLine;decide),fun r H' _ s' g=>q _ _ (s1'.trans s') ⟨r,_,rfl,SqT.of g,hN _ (List.mem_of_getElem? j2),s1,⟨z,rfl,SqT.of (s' _ _ g1),hN _ (List.mem_of_getElem? i2)⟩⟩⟩
def rot {α:Type} (k:Nat) (l:List α):List α:=l.drop k++l.take k
theorem aB3 {α:Type} (k:Nat) (l:List α):(rot k l).Perm l:=List.perm_append_comm.trans (by rw [List.take_append_drop])
theorem aU3 {α β:Type} (f:α→β) (k:Nat) (l:List α):(rot k l).map f=rot k (l.map f):=by
 unfold rot
 rw [List.map_append,List.map_drop,List.map_take]
theorem aM6 {α:Type} (k:Nat) (l:List α):(rot k l).length=l.length:=(aB3 k l).length_eq
theorem aOh {α β:Type} {R:α→β→Prop} {as:List α} {bs:List β} (h:bO R as bs):∀n,bO R (as.drop n) (bs.drop n):=by
 induction h with
 |nil=>intro n;rw [List.drop_nil,List.drop_nil];exact .nil
 |cons r t ih=>
  intro n
  cases n with
  |zero=>exact .cons r t
  |succ n=>exact ih n
theorem aQm {α β:Type} {R:α→β→Prop} {as:List α} {bs:List β} (h:bO R as bs) (k:Nat):bO R (rot k as) (rot k bs):=(aOh h k).app (uI h k)
theorem aK6 {α β:Type} {R:α→β→Prop} {as:List α} {bs:List β} (h:bO R as bs):∀n,bO R (as.eraseIdx n) (bs.eraseIdx n):=by
 induction h with
 |nil=>intro n;exact .nil
 |cons r t ih=>
  intro n
  cases n with
  |zero=>exact t
  |succ n=>exact .cons r (ih n)
def aSq (hd ho:Hdr) (ps:List (Str × Str)):Prop:=(∃ks,bO (fun p k=>look hd p.1=some k∧look ho p.2=some k) ps ks)∧(ps.map (·.1)).Nodup∧(ps.map (·.2)).Nodup
structure aBh (hd ho hr:Hdr) (i:Nat) (hl:Hdr) (ps:List (Str × Str)):Prop where
 sub:hl.Sublist ho
 mem:∀p∈ps,∃kd,(p.1,kd)∈hd∧(p.2,kd)∈ho∧p.2∉hl.map (·.1)∧p.1∈(hr.take i).map (·.1)
 n1:(ps.map (·.1)).Nodup
 n2:(ps.map (·.2)).Nodup
 len:ps.length≤3
theorem aYn {hd ho hr:Hdr}:aBh hd ho hr 0 ho []:=⟨List.Sublist.refl _,fun p h=>absurd h (by simp),List.nodup_nil,List.nodup_nil,by simp⟩
theorem aEn {hr:Hdr} {i:Nat} {n:Str} (h:n∈(hr.take i).map (·.1)):n∈(hr.take (i+1)).map (·.1):=by
 rw [List.take_add_one,List.map_append]
 exact List.mem_append_left _ h
theorem aBh.next {hd ho hr hl:Hdr} {i:Nat} {ps:List (Str × Str)} (h:aBh hd ho hr i hl ps):aBh hd ho hr (i+1) hl ps:=⟨h.sub,fun p hp=>by
 obtain ⟨kd,h1,h2,h3,h4⟩:=h.mem p hp
 exact ⟨kd,h1,h2,h3,aEn h4⟩,h.n1,h.n2,h.len⟩
theorem aS7 {hl:Hdr} (nd:(hl.map (·.1)).Nodup) {i j:Nat} {c d:Str × Str} (hc:hl[i]?=some c) (hd:hl[j]?=some d) (e:c.1=d.1):i=j:=by
 have h1:(hl.map (·.1))[i]?=some c.1:=by rw [List.getElem?_map,hc];rfl
 have h2:(hl.map (·.1))[j]?=some c.1:=by rw [List.getElem?_map,hd,e];rfl
 have hi:i<(hl.map (·.1)).length:=(List.getElem?_eq_some_iff.mp h1).1
 exact (List.getElem?_inj hi nd).mp (h1.trans h2.symm)
theorem aXr {hl:Hdr} (nd:(hl.map (·.1)).Nodup) {j:Nat} {d:Str × Str} (hd:hl[j]?=some d):d.1∉(hl.eraseIdx j).map (·.1):=by
 intro h
 obtain ⟨x,hx,e⟩:=List.mem_map.mp h
 obtain ⟨i,hi,hi2⟩:=List.mem_eraseIdx_iff_getElem?.mp hx
 exact hi (aS7 nd hi2 hd e)
theorem aTn {hr:Hdr} (nd:(hr.map (·.1)).Nodup) {i:Nat} {d:Str × Str} (hd:hr[i]?=some d):d.1∉(hr.take i).map (·.1):=by
 intro h
 obtain ⟨x,hx,e⟩:=List.mem_map.mp h
 obtain ⟨j,hj⟩:=List.getElem?_of_mem hx
 rw [List.getElem?_take] at hj
 split at hj
 ·rename_i hlt
  have:=aS7 nd hj hd e
  lia
 ·cases hj
theorem aBh.add {hd ho hr hl:Hdr} {i j:Nat} {ps:List (Str × Str)} {c cx:Str × Str} (h:aBh hd ho hr i hl ps) (nd:(hr.map (·.1)).Nodup) (nd2:(ho.map (·.1)).Nodup) (pm:∀c∈hr,c∈hd) (hc:hr[i]?=some c) (hx:hl[j]?=some cx) (e:cx.2=c.2) (l3:ps.length<3) :
  aBh hd ho hr (i+1) (hl.eraseIdx j) (ps++[(c.1,cx.1)]):=by
 have ndl:(hl.map (·.1)).Nodup:=nd2.sublist (h.sub.map _)
 refine ⟨(List.eraseIdx_sublist hl j).trans h.sub,fun p hp=>?_,?_,?_,?_⟩
 ·rcases List.mem_append.mp hp with hp|hp
  ·obtain ⟨kd,h1,h2,h3,h4⟩:=h.mem p hp
   exact ⟨kd,h1,h2,fun z=>h3 (((List.eraseIdx_sublist hl j).map _).subset z),aEn h4⟩
  ·rw [List.mem_singleton] at hp
   subst hp
   refine ⟨c.2,pm c (List.mem_of_getElem? hc),?_,aXr ndl hx,?_⟩
   ·rw [←e]
    exact h.sub.subset (List.mem_of_getElem? hx)
   ·rw [List.take_add_one,hc,List.map_append]
    exact List.mem_append_right _ (by simp)
 ·rw [List.map_append,List.nodup_append]
  refine ⟨h.n1,by simp,fun x hx' y hy e'=>?_⟩
  rw [List.map_cons,List.map_nil,List.mem_singleton] at hy
  subst e' hy
  obtain ⟨p,hp,ep⟩:=List.mem_map.mp hx'
  obtain ⟨kd,_,_,_,h4⟩:=h.mem p hp
  rw [ep] at h4
  exact aTn nd hc h4
 ·rw [List.map_append,List.nodup_append]
  refine ⟨h.n2,by simp,fun x hx' y hy e'=>?_⟩
  rw [List.map_cons,List.map_nil,List.mem_singleton] at hy
  subst e' hy
  obtain ⟨p,hp,ep⟩:=List.mem_map.mp hx'
  obtain ⟨kd,_,_,h3,_⟩:=h.mem p hp
  rw [ep] at h3
  exact h3 (List.mem_map.mpr ⟨cx,List.mem_of_getElem? hx,rfl⟩)
 ·rw [List.length_append]
  show ps.length+1≤3
  lia
theorem aBh.fin {hd ho hr hl:Hdr} {i:Nat} {ps:List (Str × Str)} (h:aBh hd ho hr i hl ps) (nd:(hd.map (·.1)).Nodup) (nd2:(ho.map (·.1)).Nodup):aSq hd ho ps:=by
 refine ⟨?_,h.n1,h.n2⟩
 have hm:=h.mem
 clear h
 induction ps with
 |nil=>exact ⟨[],.nil⟩
 |cons p r ih=>
  obtain ⟨ks,hk⟩:=ih fun p hp=>hm p (List.mem_cons_of_mem _ hp)
  obtain ⟨kd,h1,h2,_⟩:=hm p (List.mem_cons_self ..)
  exact ⟨kd::ks,.cons ⟨jO nd h1,jO nd2 h2⟩ hk⟩
theorem aUc {R:Nat→V→Prop} {is:List Nat} {ys:List V} (h:mK R is ys):∀y∈ys,∃i,R i y:=by
 induction h with
 |nil=>intro y hy;cases hy
 |cons r _ ih=>
  intro y hy
  rcases List.mem_cons.mp hy with e|hy
  ·subst e;exact ⟨_,r⟩
  ·exact ih y hy
def kdP (hl:Hdr) (kd:Str) (i:Nat):Bool:=match hl[i]? with
 |some c=>decide (V.str c.2=V.str kd)
 |none=>false
theorem aPj {X:Cx} {scope:Scope} {Nn:List Str} {tl:TE} {σ:L2.St} {H:Hp} {Q:VK} {L:Addr} {vs:List V} {hl:Hdr} {kd:Str} (hL:H L=some (.lst vs)) (hv:bO (IsC K H) vs hl) (h8:hl.length≤100) (cap:Cap X scope Nn σ [none,some (.str kd)]) (hw:∀R:VK,R (.ref L) H→tl σ H R)
  (q:∀D H' ys,H D=none→Same H H'→H' D=some (.lst ys)→(ys.length≤vs.length)→(∀y∈ys,∃(j:Nat) (c:Str × Str),vs[j]?=some y∧hl[j]?=some c∧c.2=kd)→Q (.ref D) H') :
  iK X scope Nn (tR K tl) (bK 0) (aIs (tOp rEq (tOp (aYc K) (wA 0) (tC (.int 1))) (wA 1))) (wA 0) σ H Q:=by
 have lv:=hv.len
 refine tZ [none,some (.str kd)] cap (hw _ ⟨L,rfl,⟨_,SqL.of hL⟩,wN Same (pJ H) vs (kdP hl kd) (fun i _ y=>∃c,vs[i]?=some y∧hl[i]?=some c∧c.2=kd) (fun _ _ h=>h) (fun _ _ _ h=>h) (fun i σ=>∃y,vs[i]?=some y∧At1 [none,some (.str kd)] y σ) (Ps1 [none,some (.str kd)]) ⟨none,rfl⟩ (small (by lia)) _ (xY fun H' s'=>SqL.of (s' _ _ hL)) (qD fun H' s'=>SqL.of (s' _ _ hL)) (fun i x σ' H' Q' ex hps s' qq=>?_) (fun i x σ2 ex hA H' R s' r=>?_) (fun i x σ2 ex hA hp H' R s' r=>?_) fun D H2 ys s2 fD g2 hys=>?_⟩)
 ·exact hg1 (i:=i) hps fun σ2 h1 h2=>qq σ2 h1 ⟨x,ex,h2⟩
 ·obtain ⟨y,hy,l,rfl⟩:=hA
  rw [ex] at hy
  cases hy
  obtain ⟨c,hc,p,rfl,hp⟩:=bN hv ex
  have e:kdP hl kd i=decide (V.str c.2=V.str kd):=by unfold kdP;rw [hc]
  refine ⟨_,by cases l <;> rfl,p,_,1,_,rfl,rfl,s'.aH hp,at1 _ _ _,_,by cases l <;> rfl,rfl,_,rfl,?_⟩
  rw [←e]
  exact r H' (Same.refl H')
 ·obtain ⟨y,hy,l,rfl⟩:=hA
  rw [ex] at hy
  cases hy
  obtain ⟨c,hc,_⟩:=bN hv ex
  unfold kdP at hp
  rw [hc] at hp
  exact ⟨_,by cases l <;> rfl,r _ _ (Same.refl H') ⟨c,ex,hc,V.str.inj (of_decide_eq_true hp)⟩⟩
 ·refine q D H2 ys fD s2 g2 ?_ fun y hy=>?_
  ·rw [←hys.len]
   have:=uJ (kdP hl kd) 0 (List.range vs.length)
   rw [List.length_range] at this
   exact this
  ·obtain ⟨i,c,h1,h2,h3⟩:=aUc hys y hy
   exact ⟨i,c,h1,h2,h3⟩
theorem aZo {c:TT} {t u:TS} {D:Ends} {σ:L2.St} {H:Hp} (Y N:Hp→Prop) (hc:∀R:Bool→Hp→Prop,(∀H8,Y H8→R true H8)→(∀H8,N H8→R false H8)→c σ H R) (go:∀H8,Y H8→t D σ H8) (no:∀H8,N H8→u D σ H8):aLw c t u D σ H:=
 hc _ (fun H8 y=>cA (go H8 y)) (fun H8 y=>aZ (no H8 y))
def aJc (K:PySem.W.Frag):Sp:=fun vs H Q _=>∃(a:Addr) (vh vo:V) (hd ho:Hdr),vs=[.ref a,vh,vo]∧mJ H a∧dB K H vh hd∧rN hd∧dB K H vo ho∧rN ho ∧
 ∀p H' us ps,Fx a H H'→H' p=some (.tup us)→bO (lB K H') us ps→aSq hd ho ps→ps.length≤3→Q (.ref p) H'
theorem aDo (T:Txt w K mg) (aM:Ok P w K mg base 1 "_law_next" ["_law_state","_law_many"] iC) :
  Ok P w K mg base 2 "_law_pairs" ["_law_state","_law_head_here","_law_other"] (aJc K):=by
 refine Ok.ofV T.aGo dW (fun vs H Q E h=>?_) (fun f cdv A outer s H vs Q E hr h=>?_)
 ·obtain ⟨a,vh,vo,hd,ho,rfl,_⟩:=h;rfl
 obtain ⟨a,vh,vo,hd,ho,rfl,hst,⟨b,us,rfl,hb,hus⟩,hok,⟨o,os,rfl,hO,hos⟩,hok2,q⟩:=h
 have hu:=wI hr
 have hU:=hr.units
 refine ⟨_,(aC (aV (i:=3) dW.nd rfl (by trivial) (aJ (aM.mono (by decide)) hr (by rfl) (aB (vv 0) (aB (aY bB (by rfl) T.dG cJ (aB (vv 1) aA)) aA)))) (aC (aV (i:=4) dW.nd rfl (by trivial) (bD oN (by rfl) T.yX uM (aB (vv 2) aA))) (aC (aV (i:=5) dW.nd rfl (by trivial) (cP aA)) (aC (jA PassesOwn.never rfl (dC (bU pI (dD qQ (vv 1) (dJ (vv 3)) fZ) (dD qQ (vv 1) fZ (dJ (vv 3))))) (lM rfl (bA (aN (i:=6) dW.nd rfl (by trivial)) (bA (aN (i:=7) dW.nd rfl (by trivial)) cO))) (aC (kW (i0:=8) dW.nd rfl (by trivial) (N:=["_law_column","_law_kind"]) (by trivial) (cX (aG mZ) rfl (by decide +kernel)) rfl (fJ (vv 4)) (fun cl s' H' fp=>⟨(aN (i:=0) (show (["_law_column","_law_kind"]:List Str).Nodup from by decide +kernel) rfl (Or.inl rfl)),(pX (aP bY (aK (cZ (K:=K)) (vv 0) aD (fun _ _=>rfl)) (vv 1) (aX _))),(vv 0)⟩)) (aF (bJ (VW.pt (aCi (aP (aXd (Nat.lt_of_succ_lt hu)) (vv 8) (cP aA) (aX _)) (aCi (aP aNf (aY bB (by rfl) T.dG cJ (aB (vv 5) aA)) aD (aX _)) (aAx (VW.pt (qN (aP (aYe (Nat.lt_of_succ_lt hu)) (vv 5) (cP aA) (aX _)) (oJ (aP bY (aJ (aM.mono (by decide)) hr (by rfl) (aB (vv 0) (aB aD aA))) aD (aX _))))))))) (aC (aV (i:=9) dW.nd rfl (by trivial) (aK cG (vv 8) (aJ (aM.mono (by decide)) hr (by rfl) (aB (vv 0) (aB (aY bB (by rfl) T.dG cJ (aB (vv 8) aA)) aA))) (fun _ _=>rfl))) (aC (eF (uX PySem.F.plainAttrs_list PySem.F.slot_list_remove PySem.F.type_list_remove (aP1 hU) (vv 4) (aB (vv 9) aA))) (aF (eF (uX PySem.F.plainAttrs_list PySem.F.slot_list_append PySem.F.type_list_append lO (vv 5) (aB (bC (aB (vv 6) (aB (aK aO (vv 9) aD (fun _ _=>rfl)) aA))) aA)))))) aW)))) (aF (aL (bD bI (by rfl) T.cB bQ (aB (vv 5) aA)))))))),?_⟩
 obtain ⟨⟨nd,l1,l8⟩,hc⟩:=id hok
 obtain ⟨⟨nd2,m1,m8⟩,hc2⟩:=id hok2
 have lu:=hus.len
 have lo:=hos.len
 refine ⟨_,rfl,_,rfl,b,_,rfl,.inr hb,a,_,rfl,hst,(by show (0:Int)<(us.length:Int)∧(us.length:Int)<2 ^ 64;lia),fun t H1 f1 t0 t1=>?_⟩
 obtain ⟨k,rfl⟩:∃k:Nat,t=k:=⟨t.toNat,by lia⟩
 refine ⟨_,rfl,o,_,rfl,.inr (f1.aH hst hO),fun L H2 fL s2 g2=>?_⟩
 refine ⟨(by show 0≤sizeLine;decide),fun D H3 fD s3 g3=>?_⟩
 have f3:Fx a H H3:=(f1.sm s2).sm s3
 have tk3:TK K H H3:=f3.tk hst
 have fL0:H L=none:=f1.free fL
 have fD0:H D=none:=(f1.sm s2).free fD
 have nLa:L≠a:=hst.ne fL0
 have nDa:D≠a:=hst.ne fD0
 have nLD:L≠D:=bF g2 fD
 refine ⟨_,rfl,_,rfl,_,rfl,b,_,rfl,tk3 _ _ hb,fun p4 H4 s4 g4=>⟨_,rfl,_,rfl,_,rfl,b,_,rfl,s4.aH (tk3 _ _ hb),fun p5 H5 s5 g5=>⟨p4,p5,_,_,rfl,rfl,s5.aH g4,g5,?_,fun p6 H6 s6 g6=>?_⟩⟩⟩
 ·rw [gK,rQ,←List.length_append]
  show (rot k us).length≤_
  rw [aM6]
  exact small (by lia)
 rw [gK,rQ] at g6
 have g6:SqT K H6 p6 (rot k us):=g6
 have s36:=s4.trans (s5.trans s6)
 have f6:Fx a H H6:=f3.sm s36
 have tk6:TK K H H6:=f6.tk hst
 have hus6:bO (IsC K H6) (rot k us) (rot k hd):=aQm (hus.imp fun _ _ h=>h.tk tk6) k
 have ndr:((rot k hd).map (·.1)).Nodup:=by rw [aU3];exact ((aB3 k _).nodup_iff).mpr nd
 have pm:∀c∈rot k hd,c∈hd:=fun c h=>(aB3 k hd).mem_iff.mp h
 have lr:=aM6 k us
 refine ⟨p6,rfl,⟨_,g6⟩,xJ (xs:=rot k us) (fun i σ H'=>(Fx a H H'∧TK K H6 H')∧∃(vs ws:List V) (hl:Hdr) (ps:List (Str × Str)) (l6 l7 l8 l9:Option V),H' L=some (.lst vs)∧H' D=some (.lst ws)∧bO (IsC K H') vs hl∧bO (lB K H') ws ps∧aBh hd ho (rot k hd) i hl ps∧σ=[some (.ref a),some (.ref b),some (.ref o),some (.int k),some (.ref L),some (.ref D),l6,l7,l8,l9]) ⟨⟨f6,fun _ _ e=>e⟩,_,_,ho,[],_,_,_,_,s36 _ _ (s3 _ _ g2),s36 _ _ g3,hos.imp fun _ _ h=>h.tk tk6,.nil,aYn,rfl⟩ (fun i σ H' _ ⟨e,_⟩=>e.2 _ _ g6) ?_ ?_⟩
 ·rintro i x σ H' hx ⟨⟨fl,tk'⟩,vs,ws,hl,ps,l6,l7,l8',l9,gL,gD,hvs,hws,pi,rfl⟩
  obtain ⟨c,hci,bx,rfl,hbx⟩:=bN hus6 hx
  have lv:=hvs.len
  have lw:=hws.len
  have lh:=pi.sub.length_le
  have ndl:(hl.map (·.1)).Nodup:=nd2.sublist (pi.sub.map _)
  refine ⟨bx,_,rfl,tk' _ _ hbx,rfl,_,_,rfl,_,_,rfl,rfl,?_⟩
  dsimp only [bK,iR,jK]
  refine aPj (kd:=c.2) gL hvs (by lia) ?_ (fun R r=>⟨_,rfl,r⟩) fun S H7 ys fS s7 g7 ly hy=>?_
  ·exact cY 7 (by decide +kernel) rfl rfl (by trivial)
  have no:∀H8,Fx a H7 H8→(Fx a H H8∧TK K H6 H8)∧∃(vs ws:List V) (hl:Hdr) (ps:List (Str × Str)) (m6 m7 m8 m9:Option V),H8 L=some (.lst vs)∧H8 D=some (.lst ws)∧bO (IsC K H8) vs hl∧bO (lB K H8) ws ps∧aBh hd ho (rot k hd) (i+1) hl ps∧[some (.ref a),some (.ref b),some (.ref o),some (.int k),some (.ref L),some (.ref D),some (.str c.1),some (.str c.2),some (.ref S),l9]=[some (V.ref a),some (.ref b),some (.ref o),some (.int k),some (.ref L),some (.ref D),m6,m7,m8,m9]:=by
   intro H8 f8
   have f78:Fx a H' H8:=(Fx.of fl.st s7).trans f8
   have t78:TK K H' H8:=f78.tk fl.st
   exact ⟨⟨fl.trans f78,fun _ _ e=>t78 _ _ (tk' _ _ e)⟩,vs,ws,hl,ps,_,_,_,_,f78.same _ _ nLa gL,f78.same _ _ nDa gD,hvs.imp fun _ _ h=>h.tk t78,hws.imp fun _ _ h=>h.tk t78,pi.next,rfl⟩
  refine aZo (fun H8=>Fx a H7 H8∧1≤ys.length∧ps.length<3) (fun H8=>Fx a H7 H8) (fun R y n=>?_) (fun H8 hY=>?_) (fun H8 f8=>no H8 f8)
  ·have st7:=fl.st.same s7
   refine ⟨_,rfl,(by show 0≤sizeLine;decide),fun E8 H8 _ s8 g8=>⟨S,E8,ys,rfl,rfl,SqL.of (s8 _ _ g7),SqL.of g8,_,rfl,jJ (fun c1=>?_) (fun _=>n H8 (.of st7 s8))⟩⟩
   have ly1:1≤ys.length:=by
    cases ys with
    |nil=>cases c1
    |cons _ _=>rw [List.length_cons];lia
   refine ⟨_,rfl,D,_,rfl,.inl (SqL.of (s8 _ _ (s7 _ _ gD))),_,_,rfl,rfl,_,rfl,jJ (fun c2=>?_) (fun _=>n H8 (.of st7 s8))⟩
   have lw3:ps.length<3:=by
    have:=of_decide_eq_true c2
    lia
   refine ⟨_,rfl,(by show 0≤sizeLine;decide),fun E9 H9 _ s9 g9=>⟨D,E9,ws,rfl,rfl,SqL.of (s9 _ _ (s8 _ _ (s7 _ _ gD))),SqL.of g9,_,rfl,jJ (fun _=>y H9 ⟨.of st7 (s8.trans s9),ly1,lw3⟩) (fun _=>?_)⟩⟩
   refine ⟨_,rfl,a,3,rfl,st7.same (s8.trans s9),by decide,fun d H10 f10 d0 d1=>⟨rfl,_,rfl,?_⟩⟩
   have f:=(Fx.of st7 (s8.trans s9)).trans f10
   cases e:decide (V.int d=V.int 0) with
   |true=>exact y H10 ⟨f,ly1,lw3⟩
   |false=>exact n H10 f
  ·obtain ⟨f8,ly1,lw3⟩:=hY
   have f78:Fx a H' H8:=(Fx.of fl.st s7).trans f8
   have t78:TK K H' H8:=f78.tk fl.st
   have nSa:S≠a:=fl.st.ne fS
   refine ⟨_,rfl,_,rfl,_,rfl,S,_,rfl,.inl (SqL.of (f8.same _ _ nSa g7)),a,_,rfl,f8.st,(by show (0:Int)<(ys.length:Int)∧(ys.length:Int)<2 ^ 64;lia),fun d H9 f9 d0 d1=>?_⟩
   obtain ⟨m,rfl⟩:∃m:Nat,d=m:=⟨d.toNat,by lia⟩
   have f89:Fx a H' H9:=f78.trans f9
   have t89:TK K H' H9:=f89.tk fl.st
   have hm:m<ys.length:=by lia
   obtain ⟨j,cx,hj,hcx,ek⟩:=hy ys[m] (List.getElem_mem hm)
   obtain ⟨cx',hcx',px,epx,hpx⟩:=bN hvs hj
   rw [hcx] at hcx'
   cases hcx'
   have hym:ys[m]?=some (.ref px):=by rw [List.getElem?_eq_getElem hm,epx]
   rw [epx] at hj
   refine ⟨S,_,_,_,rfl,rfl,SqL.of (f9.same _ _ nSa (f8.same _ _ nSa g7)),cD hym,?_⟩
   have gL9:=f89.same _ _ nLa gL
   have gD9:=f89.same _ _ nDa gD
   have hpx9:=t89 _ _ hpx
   refine ⟨_,rfl,.inl ⟨rfl,_,SqL.of gL9⟩,_,rfl,L,vs,_,j,_,rfl,rfl,gL9,hj,.inr ⟨px,px,_,_,rfl,rfl,hpx9,hpx9,.cons (bW rfl) (.cons (bW rfl) .nil)⟩,fun m' z' hm' hz'=>?_,?_⟩
   ·obtain ⟨cz,hcz,pz,rfl,hpz⟩:=bN hvs hz'
    refine ⟨pz,px,cz,cx,rfl,rfl,t89 _ _ hpz,hpx9,fun e=>?_⟩
    have:=aS7 ndl hcz hcx e
    lia
   have gD10:(upd H9 L (.lst (vs.eraseIdx j))) D=some (.lst ws):=by rw [bH nLD.symm];exact gD9
   refine ⟨_,rfl,.inl ⟨rfl,_,SqL.of gD10⟩,_,rfl,_,rfl,px,_,0,_,rfl,rfl,hpx9.dO gL9,at0 _ _,(by show 2≤sizeLine;decide),fun tz Hy ftz sy gy=>?_⟩
   have gDy:=sy _ _ gD10
   have gLy:Hy L=some (.lst (vs.eraseIdx j)):=sy _ _ aU
   have ntD:tz≠D:=(bF gD10 ftz).symm
   have tky:TK K H' (upd Hy D (.lst (ws++[.ref tz]))):=fun _ _ e=>(sy.aH ((t89 _ _ e).dO gL9)).dO gDy
   refine ⟨D,_,_,rfl,rfl,gDy,fQ (by lia),⟨?_,fun _ _ e=>tky _ _ (tk' _ _ e)⟩,vs.eraseIdx j,ws++[.ref tz],hl.eraseIdx j,ps++[(c.1,cx.1)],_,_,_,_,by rw [bH nLD];exact gLy,aU,(aK6 hvs j).imp fun _ _ h=>h.tk tky,(hws.imp fun _ _ h=>h.tk tky).app (.cons ⟨tz,rfl,SqT.of (by rw [bH ntD];exact gy),(hc c (pm c (List.mem_of_getElem? hci))).1,(hc2 cx (pi.sub.subset (List.mem_of_getElem? hcx))).1⟩ .nil),pi.add ndr nd2 pm hci hcx ek lw3,rfl⟩
   exact (((fl.trans f89).upd fL0 nLa).sm sy).upd fD0 nDa
 ·rintro σ H' ⟨⟨fl,tk'⟩,vs,ws,hl,ps,l6,l7,l8',l9,gL,gD,hvs,hws,pi,rfl⟩
  refine ⟨_,rfl,D,_,rfl,SqL.of gD,fun p9 H9 _ s9 g9=>?_⟩
  exact q p9 H9 ws ps (fl.sm s9) g9 (hws.imp fun _ _ h=>h.same s9) (pi.fin nd nd2) pi.len
theorem bO.aZ1 {α β:Type} {R:α→β→Prop} {as:List α} {bs:List β} (h:bO R as bs) {a:α} (m:a∈as):∃b,b∈bs∧R a b:=by
 obtain ⟨i,hi⟩:=List.getElem?_of_mem m
 obtain ⟨b,h1,h2⟩:=bN h hi
 exact ⟨b,List.mem_of_getElem? h1,h2⟩
def oV (d own n:Str):Str:=if n=d then own else n
def zV (d own:Str) (h:Hdr):Hdr:=h.map fun c=>(oV d own c.1,c.2)
theorem aJw (d own:Str) (h:Hdr):(zV d own h).map (·.1)=(h.map (·.1)).map (oV d own):=by
 unfold zV
 rw [List.map_map,List.map_map]
 rfl
theorem aJa (d own:Str):∀(f:List Str) (hk:Hdr),List.zipWith (fun n c=>(n,c.2)) (f.map (oV d own)) hk=zV d own (List.zipWith (fun n c=>(n,c.2)) f hk)
 |[],_=>rfl
 |_::_,[]=>rfl
 |n::f,c::hk=>by
  show (oV d own n,c.2)::_=(oV d own n,c.2)::_
  rw [aJa d own f hk]
  rfl
theorem aNe {d own:Str} {f:List Str} (nd:f.Nodup) (ho:own∉f):(f.map (oV d own)).Nodup:=by
 refine List.pairwise_map.mpr (nd.imp_of_mem fun {x y} hx hy ne e=>?_)
 unfold oV at e
 split at e
 ·rename_i ex
  split at e
  ·rename_i ey
   exact ne (ex.trans ey.symm)
  ·exact ho (by rw [e];exact hy)
 ·split at e
  ·exact ho (by rw [←e];exact hx)
  ·exact ne e
theorem aTl {d own n:Str} (h:n≠d):oV d own n=n:=if_neg h
theorem aXv {hd h1:Hdr} {p0:Str × Str} {ps:List (Str × Str)} {own:Str} (nd1:(h1.map (·.1)).Nodup) (h:aSq hd h1 (p0::ps)) (ho:own∉h1.map (·.1)):aSq hd (zV p0.2 own h1) ((p0.1,own)::ps):=by
 obtain ⟨⟨ks,hk⟩,n1,n2⟩:=h
 have ndr:((zV p0.2 own h1).map (·.1)).Nodup:=by rw [aJw];exact aNe nd1 ho
 have key:∀c:Str × Str,c∈h1→look (zV p0.2 own h1) (oV p0.2 own c.1)=some c.2:=fun c hc=>jO ndr (c:=(oV p0.2 own c.1,c.2)) (List.mem_map.mpr ⟨c,hc,rfl⟩)
 rw [List.map_cons,List.nodup_cons] at n2
 cases hk with
 |@cons _ k0 _ ks r t=>
  have a0:=key _ (pH r.2)
  have e0:oV p0.2 own p0.2=own:=if_pos rfl
  refine ⟨⟨k0::ks,.cons ⟨r.1,by rw [e0] at a0;exact a0⟩ ?_⟩,n1,?_⟩
  ·have n2':=n2.1
   clear n1 n2 r a0
   induction t with
   |nil=>exact .nil
   |@cons p k ps ks r t ih=>
    rw [List.map_cons,List.mem_cons,not_or] at n2'
    have a:=key _ (pH r.2)
    rw [aTl (fun z=>n2'.1 z.symm)] at a
    exact .cons ⟨r.1,a⟩ (ih n2'.2)
  ·rw [List.map_cons,List.nodup_cons]
   refine ⟨fun z=>?_,n2.2⟩
   obtain ⟨p,hp,e⟩:=List.mem_map.mp z
   obtain ⟨k,_,hk⟩:=t.aZ1 hp
   have:=rR hk.2
   rw [e] at this
   exact ho this
theorem aQn {h1:Hdr} {p0:Str × Str} {ps:List (Str × Str)} {own:Str} (ho:own∉h1.map (·.1)):(zV p0.2 own h1).filter (fun c=>!decide (c.1∈((p0.1,own)::ps).map (·.2)))=h1.filter fun c=>!decide (c.1∈(p0::ps).map (·.2)):=by
 induction h1 with
 |nil=>rfl
 |cons c r ih=>
  rw [List.map_cons,List.mem_cons,not_or] at ho
  show List.filter _ ((oV p0.2 own c.1,c.2)::zV p0.2 own r)=_
  rw [List.filter_cons,List.filter_cons,ih ho.2]
  by_cases e:c.1=p0.2
  ·have e1:oV p0.2 own c.1=own:=if_pos e
   rw [e1]
   simp [e]
  ·have e1:oV p0.2 own c.1=c.1:=if_neg e
   have e2:¬ c.1=own:=fun z=>ho.1 z.symm
   rw [e1]
   simp only [List.map_cons,List.mem_cons,e,e2,false_or]
theorem aLs {hs:Str→Option Hdr} {q:Qn} {ns:List Str} {h:Hdr} (k:HQ hs (.nmd q ns) h):∃hk,HQ hs q hk∧ns.length=hk.length∧h=List.zipWith (fun n c=>(n,c.2)) ns hk:=by
 obtain ⟨ih,h1,h2,h3⟩:=k.in
 cases h1 with
 |cons r t=>
  cases t
  cases h2 with
  |nmd e=>exact ⟨_,r,e,rfl⟩
theorem aRu {h1:Hdr} {p0:Str × Str} {ps:List (Str × Str)} {k:Str} (h:look h1 p0.2=some k):(h1.filter fun c=>!decide (c.1∈(p0::ps).map (·.2))).length+1≤h1.length:=by
 have hm:=pH h
 have e:h1.length=(h1.filter fun c=>!decide (c.1∈(p0::ps).map (·.2))).length+(h1.filter fun c=>!(!decide (c.1∈(p0::ps).map (·.2)))).length:=by
  have:=List.length_eq_countP_add_countP (l:=h1) (fun c=>!decide (c.1∈(p0::ps).map (·.2)))
  rw [List.countP_eq_length_filter,List.countP_eq_length_filter] at this
  rw [this]
  congr 2
  refine List.filter_congr fun x _=>?_
  simp
 have hp:0<(h1.filter fun c=>!(!decide (c.1∈(p0::ps).map (·.2)))).length:=List.length_pos_of_mem (List.mem_filter.mpr ⟨hm,by simp⟩)
 lia
def leJ (ho:Hdr) (ds:List Str) (i:Nat):Bool:=match ho[i]? with
 |some c=>!decide (c.1∈ds)
 |none=>false
theorem aLv {H:Hp} {us:List V} {ps:List (Str × Str)} (h:bO (lB K H) us ps):bO (IsC K H) us ps:=h.imp fun _ _ ⟨a,e,g,_⟩=>⟨a,e,g⟩
theorem aRo (ps:List (Str × Str)):(hdK ps).map (·.2)=(ps.map (·.2)).map V.str:=by
 unfold hdK
 rw [List.map_map,List.map_map]
 rfl
theorem qK {H:Hp} {ws:List V} {ns:List Str} (h:bO (fC K H) ws ns):ws=ns.map V.str:=by
 induction h with
 |nil=>rfl
 |cons r _ ih=>rw [List.map_cons,ih,show _=_ from r.1]
theorem aW5 {n d own:Str}:atI [V.str n,V.str own] (if decide (V.str n=V.str d)=true then 1 else 0)=some (.str (oV d own n)):=by
 by_cases e:n=d
 ·have e1:oV d own n=own:=if_pos e
  rw [if_pos (decide_eq_true (by rw [e])),e1]
  exact at1 _ _ _
 ·have e1:oV d own n=n:=if_neg e
  rw [if_neg (fun z=>e (V.str.inj (of_decide_eq_true z))),e1]
  exact at0 _ _
theorem uP {S R:TS} {D:Ends} {σ:L2.St} {H:Hp} (h:∀N,R D=N→S { D with nx:=N } σ H):iR S R D σ H:=h _ rfl
def aI1 (K:PySem.W.Frag):Sp:=fun vs H Q _=>∃(a N:Addr) (vq vh vo voh:V) (q qo:Qn) (hd ho:Hdr) (ns:List Str) (hs:Str→Option Hdr),vs=[.ref a,vq,vh,vo,voh,.ref N]∧mJ H a∧N≠a∧IsQ K H vq q∧dB K H vh hd∧rN hd∧HQ hs q hd∧IsQ K H vo qo∧dB K H voh ho∧rN ho∧HQ hs qo ho∧H N=some (.lst (ns.map V.str))∧mR ns ∧
 ∀p H' v1 v2 q' hd',Fx a H H'→H' p=some (.tup [v1,v2])→IsQ K H' v1 q'→dB K H' v2 hd'→HQ hs q' hd'→rN hd'→size q'≤size q+size qo+3→Q (.ref p) H'
theorem aFk (T:Txt w K mg) (aM:Ok P w K mg base 1 "_law_next" ["_law_state","_law_many"] iC) (aFp:Ok P w K mg base 1 "_law_fresh" ["_law_question_here","_law_head_here","_law_own","_law_names_here"] (aIq K)) (aFg:Ok P w K mg base 2 "_law_pairs" ["_law_state","_law_head_here","_law_other"] (aJc K)) :
  Ok P w K mg base 3 "_law_join" ["_law_state","_law_question_here","_law_head_here","_law_other","_law_other_head","_law_names_here"] (aI1 K):=by
 refine Ok.ofV T.aIp dN (fun vs H Q E h=>?_) (fun f cdv A outer s H vs Q E hr h=>?_)
 ·obtain ⟨a,N,vq,vh,vo,voh,q,qo,hd,ho,ns,hs,rfl,_⟩:=h;rfl
 obtain ⟨a,N,vq,vh,vo,voh,q0,qo,hd,ho,ns,hs,rfl,hst,nNa,hq,hh,hok,hHQ,hqo,hho,hoko,hHQo,hN,hn,q⟩:=h
 have hu:=wI hr
 refine ⟨_,(aC (pP (aJ (aFp.mono (by decide)) hr (by rfl) (aB (vv 3) (aB (vv 4) (aB (vv 2) (aB (vv 5) aA))))) (lM rfl (bA (aN (i:=3) dN.nd rfl (by trivial)) (bA (aN (i:=4) dN.nd rfl (by trivial)) cO)))) (aC (aV (i:=6) dN.nd rfl (by trivial) (aJ (aFg.mono (by decide)) hr (by rfl) (aB (vv 0) (aB (vv 2) (aB (vv 4) aA))))) (aC (bJ (aP (aV7 (Nat.lt_of_succ_lt hu)) (vv 6) (bC aA) (aX _)) (aF (aL (bC (aB (vv 1) (aB (vv 2) aA))))) aW) (aC (aV (i:=7) dN.nd rfl (by trivial) (bD bI (by rfl) T.cB bQ (aB (bZ (N:=["_law_column","_law_pairs_here"]) (by trivial) (cX (aG mH) rfl (by decide +kernel)) rfl (dC (vv 4)) (fun cl s' H' fp=>⟨(aN (i:=0) (show (["_law_column","_law_pairs_here"]:List Str).Nodup from by decide +kernel) rfl (Or.inl rfl)),(pX (aOi rfl (aK (cZ (K:=K)) (vv 0) aD (fun _ _=>rfl)) (bD (aKj (K:=K) rfl) (by rfl) T.aG7 aA6 (aB (vv 1) aA)))),(vv 0)⟩)) aA))) (aC (aV (i:=8) dN.nd rfl (by trivial) (aK aO (aK aO (vv 2) (aJ (aM.mono (by decide)) hr (by rfl) (aB (vv 0) (aB (aY bB (by rfl) T.dG cJ (aB (vv 2) aA)) aA))) (fun _ _=>rfl)) aD (fun _ _=>rfl))) (aC (bJ (aP bY (aJ (aM.mono (by decide)) hr (by rfl) (aB (vv 0) (aB aD aA))) aD (aX _)) (aC (aV (i:=9) dN.nd rfl (by trivial) (bD bI (by rfl) T.cB bQ (aB (bZ (N:=["_law_name","_law_own","_law_pairs_here"]) (by trivial) (cX (aG mH) rfl (by decide +kernel)) rfl (dC (aK aO (vv 3) aD (fun _ _=>rfl))) (fun cl s' H' fp=>⟨(aN (i:=0) (show (["_law_name","_law_own","_law_pairs_here"]:List Str).Nodup from by decide +kernel) rfl (Or.inl rfl)),cI,(aK (tY (K:=K)) (cP (aB (vv 0) (aB (vv 1) aA))) (bD pZ (by rfl) T.aD8 zZ (aB (fH bY (vv 0) (aK (cZ (K:=K)) (aK (cZ (K:=K)) (vv 2) aD (fun _ _=>rfl)) aD (fun _ _=>rfl)) (aX _)) aA)) (fun _ _=>rfl))⟩)) aA))) (aC (aV (i:=3) dN.nd rfl (by trivial) (bC (aB aQ (aB (aK aO (vv 3) aD (fun _ _=>rfl)) (aB (vv 9) aA))))) (aF (aV (i:=6) dN.nd rfl (by trivial) (bU pI (bC (aB (bC (aB (aK aO (aK (cZ (K:=K)) (vv 6) aD (fun _ _=>rfl)) aD (fun _ _=>rfl)) (aB (vv 8) aA))) aA)) (dD qQ (vv 6) (dJ aD) fZ)))))) aW) (aF (aL (bC (aB (bC (aB aQ (aB (vv 1) (aB (vv 3) (aB (vv 6) aA))))) (aB (bU pI (vv 2) (vv 7)) aA))))))))))),?_⟩
 obtain ⟨⟨nd,l1,l8⟩,hc⟩:=id hok
 refine uP fun N1 hN1=>?_
 refine ⟨_,rfl,_,rfl,_,rfl,_,rfl,vo,voh,vh,N,qo,ho,hd,ns,hs,rfl,hqo,hho,hoko,hHQo,hh,hok,hN,hn,fun r H1 v1 v2 q1 h1 s1 g1 hq1 hh1 hHQ1 hok1 hdis hsz hl9 hnm=>?_⟩
 obtain ⟨⟨nd1,ll1,ll8⟩,hc1⟩:=id hok1
 refine ⟨r,_,rfl,SqT.of g1,rfl,_,_,rfl,_,_,rfl,rfl,?_⟩
 subst hN1
 have hst1:=hst.same s1
 try dsimp only [gR,bK,xZ]
 refine uP fun N1 hN1=>?_
 refine ⟨_,rfl,_,rfl,_,rfl,a,vh,v2,hd,h1,rfl,hst1,hh.same s1,hok,hh1,hok1,fun p H2 us ps f2 g2 hus hpk lp3=>?_⟩
 subst hN1
 have fx2:Fx a H H2:=(Fx.of hst s1).trans f2
 try dsimp only [bK]
 refine uP fun N1 hN1=>?_
 have lup:=hus.len
 refine ⟨_,rfl,(by show 0≤sizeLine;decide),fun e3 H3 _ s3 g3=>⟨p,e3,us,rfl,rfl,SqT.of (s3 _ _ g2),SqT.of g3,_,rfl,?_⟩⟩
 have fx3:=fx2.sm s3
 have tk3:TK K H H3:=fx3.tk hst
 have tk13:TK K H1 H3:=fun _ _ e=>s3.aH (f2.aH hst1 e)
 cases ps with
 |nil=>
  cases hus
  refine cA ?_
  clear hN1
  exact ⟨_,rfl,_,rfl,(by show 2≤sizeLine;decide),fun p5 H5 _ s5 g5=>q p5 H5 _ _ q0 hd (fx3.sm s5) g5 ((hq.tk tk3).same s5) ((hh.tk tk3).same s5) hHQ hok (by lia)⟩
 |cons p0 ps=>
  cases hus with
  |@cons u0 _ us _ r0 hus=>
   refine aZ ?_
   show N1 _ _
   subst hN1
   try dsimp only [gR,bK,xZ]
   refine uP fun N1 hN1=>?_
   obtain ⟨b0,rfl,hb0,hn01,hn02⟩:=id r0
   obtain ⟨b,hus0,rfl,hb,hbs⟩:=id hh
   obtain ⟨o,zs,rfl,ho1,hzs⟩:=hh1
   have lbs:=hbs.len
   have lzs:=hzs.len
   have gp3:=s3 _ _ g2
   have hpr3:bO (lB K H3) (.ref b0::us) (p0::ps):=.cons (r0.same s3) (hus.imp fun _ _ h=>h.same s3)
   dsimp only [rU,bK,iR,jK,tCB,fP]
   refine aIu zs (leJ h1 ((p0::ps).map (·.2))) [none,some (.ref p)] ?_ (small (by lia)) (fun R rr=>lG (tk13 _ _ ho1) (fun R' r'=>⟨_,rfl,r'⟩) R rr) (fun i x ex H' R l sm' rr=>?_) rfl fun D H6 s6 g6=>?_
   ·exact cY 6 (by decide +kernel) rfl rfl (by trivial)
   ·obtain ⟨c',hc',p',rfl,hp'⟩:=bN hzs ex
    refine ⟨_,rfl,p',_,0,_,rfl,rfl,sm'.aH (tk13 _ _ hp'),at0 _ _,_,rfl,p,_,_,rfl,SqT.of (sm' _ _ gp3),aR8 (aLv (hpr3.imp fun _ _ h=>h.same sm')),?_,fun dd Hd fdd sd gd=>?_⟩
    ·rw [List.length_cons] at lup lp3
     rw [List.length_cons]
     have:=hus.len
     lia
    rw [yZ (aQ8 hpk.2.1)] at gd
    refine ⟨dd,_,(p0::ps).map (·.2),c'.1,rfl,rfl,gd,aRo _,_,rfl,?_⟩
    have e:leJ h1 ((p0::ps).map (·.2)) i=!decide (c'.1∈(p0::ps).map (·.2)):=by
     unfold leJ
     rw [hc']
    rw [←e]
    exact rr _ sd
   refine ⟨D,_,rfl,SqL.of g6,fun t7 H7 _ s7 g7=>?_⟩
   subst hN1
   try dsimp only [gR,bK,xZ]
   refine uP fun N1 hN1=>?_
   have es:sel (leJ h1 ((p0::ps).map (·.2))) 0 h1=h1.filter fun c=>!decide (c.1∈(p0::ps).map (·.2)):=nZ fun i x ex=>by
    unfold leJ
    rw [Nat.zero_add,ex]
   have hl2:=aJ6 (p:=leJ h1 ((p0::ps).map (·.2))) hzs 0
   rw [es] at hl2
   have lsel:=hl2.len
   obtain ⟨k0,hk0⟩:∃k,look h1 p0.2=some k:=by
    obtain ⟨⟨ks,hk⟩,_⟩:=hpk
    cases hk with
    |cons r t=>exact ⟨_,r.2⟩
   have lfd:=aRu (ps:=ps) hk0
   have fx7:Fx a H H7:=fx3.sm (s6.trans s7)
   have done:∀(H9:Hp) (vO vP:V) (qO:Qn) (hO:Hdr) (ps':List (Str × Str)),Fx a H H9→TK K H1 H9→IsQ K H9 vO qO→HQ hs qO hO→aSq hd hO ps'→(hO.filter fun c=>!decide (c.1∈ps'.map (·.2)))=(h1.filter fun c=>!decide (c.1∈(p0::ps).map (·.2)))→gY lB 1 3 K H9 vP ps'→size qO=size qo+2 →
     ∀p11 H11 qj t10,Same H9 H11→SqT K H11 qj [.str "join",vq,vO,vP]→SqT K H11 t10 (hus0++sel (leJ h1 ((p0::ps).map (·.2))) 0 zs)→H11 p11=some (.tup [.ref qj,.ref t10])→Q (.ref p11) H11:=by
    intro H9 vO vP qO hO ps' fx9 tk19 hO1 hO2 hO3 hO4 hO5 hO6 p11 H11 qj t10 s911 hqj ht10 g11
    have tk11:TK K H H11:=(fx9.sm s911).tk hst
    have tk111:TK K H1 H11:=fun _ _ e=>s911.aH (tk19 _ _ e)
    have hgj:Good (hd++h1.filter fun c=>!decide (c.1∈(p0::ps).map (·.2))):=by
     refine ⟨?_,by rw [List.length_append];lia,by rw [List.length_append];lia⟩
     rw [List.map_append,List.nodup_append]
     refine ⟨nd,nd1.sublist (List.filter_sublist.map _),fun x hx y hy e=>?_⟩
     subst e
     obtain ⟨c',hc',rfl⟩:=List.mem_map.mp hy
     exact hdis c' (List.mem_filter.mp hc').1 hx
    refine q p11 H11 _ _ (.join q0 qO ps') (hd++h1.filter fun c=>!decide (c.1∈(p0::ps).map (·.2))) (fx9.sm s911) g11 ?_ ?_ ?_ ⟨hgj,fun c' hc'=>?_⟩ ?_
    ·exact .join hqj (hq.tk tk11) (hO1.same s911) (hO5.same s911 fun h=>h.same s911)
    ·exact ⟨t10,_,rfl,ht10,(hbs.imp fun _ _ h=>h.tk tk11).app (hl2.imp fun _ _ h=>h.tk tk111)⟩
    ·obtain ⟨⟨ks,hks⟩,n1,n2⟩:=hO3
     have:=HH.join (hs:=hs) (q:=q0) (r:=qO) hks n1 n2
     rw [hO4] at this
     exact .mk2 rfl hHQ hO2 this hgj
    ·rcases List.mem_append.mp hc' with hc'|hc'
     ·exact hc c' hc'
     ·exact hc1 c' (List.mem_filter.mp hc').1
    ·show size q0+size qO+1≤_
     lia
   have tk17:TK K H1 H7:=fun _ _ e=>(s6.trans s7).aH (tk13 _ _ e)
   refine ⟨_,rfl,_,rfl,_,rfl,b,_,rfl,.inr ((fx7.tk hst) _ _ hb),a,_,rfl,fx7.st,(by show (0:Int)<(hus0.length:Int)∧(hus0.length:Int)<2 ^ 64;lia),fun d H8 f8 d0 d1=>?_⟩
   obtain ⟨u,hat,hum⟩:=at_of (xs:=hus0) d0 d1
   obtain ⟨cw,hcw,pw,rfl,hpw⟩:=hbs.mem hum
   have fx8:=fx7.trans f8
   refine ⟨b,_,_,_,rfl,rfl,(fx8.tk hst) _ _ hb,hat,pw,_,0,_,rfl,rfl,(fx8.tk hst) _ _ hpw,at0 _ _,?_⟩
   subst hN1
   try dsimp only [gR,bK,xZ]
   refine uP fun N1 hN1=>?_
   refine ⟨_,rfl,a,2,rfl,fx8.st,by decide,fun d2 H9 f9 e0 e1=>⟨rfl,_,rfl,?_⟩⟩
   have f79:Fx a H7 H9:=f8.trans f9
   have fx9:=fx7.trans f79
   have tk9:TK K H H9:=fx9.tk hst
   have tk79:TK K H7 H9:=f79.tk fx7.st
   have tk19:TK K H1 H9:=fun _ _ e=>tk79 _ _ (tk17 _ _ e)
   have tk39:TK K H3 H9:=fun _ _ e=>tk79 _ _ ((s6.trans s7).aH e)
   have hpr9:bO (lB K H9) (.ref b0::us) (p0::ps):=hpr3.imp fun _ _ h=>h.tk tk39
   have gp9:SqT K H9 p (.ref b0::us):=tk39 _ _ (SqT.of gp3)
   have g79:SqT K H9 t7 _:=tk79 _ _ (SqT.of g7)
   have lcat:hus0.length+(sel (leJ h1 ((p0::ps).map (·.2))) 0 zs).length≤sizeLine:=small (by lia)
   have hps1:1≤(p0::ps).length:=by rw [List.length_cons];lia
   have hown:Nm cw.1:=(hc cw hcw).1
   have hnot:cw.1∉h1.map (·.1):=fun z=>by
    obtain ⟨c',hc',e⟩:=List.mem_map.mp z
    exact hdis c' hc' (by rw [e];exact List.mem_map.mpr ⟨cw,hcw,rfl⟩)
   refine jJ (fun _=>?_) (fun _=>?_)
   ·obtain ⟨qk,rfl⟩:=hnm
    obtain ⟨hk,hHQk,lk,ek⟩:=aLs hHQ1
    cases hq1 with
    |@nmd a1 vk _ w _ ha1 hk1 hc1'=>
     obtain ⟨⟨wa,ws,rfl,hwa,hws⟩,w1,w8⟩:=hc1'
     have ews:=qK hws
     have lw:=hws.len
     rw [List.length_map] at w1 w8 lw
     dsimp only [rU,bK,iR,jK,tCB,fP]
     refine iV ws (((h1.map (·.1)).map (oV p0.2 cw.1)).map V.str) (by rw [List.length_map,List.length_map,List.length_map,lw]) [none,some (.str cw.1),some (.ref p)] ?_ (small (by lia)) (fun R rr=>lG (tk19 _ _ hwa) (fun R' r'=>⟨_,rfl,_,_,2,_,rfl,rfl,tk19 _ _ ha1,at2 _ _ _ _,r'⟩) R rr) (fun i x y ex ey H' R l sm' rr=>?_) rfl fun D2 H10 s10 g10=>?_
     ·refine ⟨rfl,fun i y v h1 h2=>?_⟩
      match i,h1,h2 with
      |0,_,h2=>cases h2
      |1,h1,h2=>cases h1;cases h2;exact ⟨by decide +kernel,8,rfl,rfl,by trivial⟩
      |2,h1,h2=>cases h1;cases h2;exact ⟨by decide +kernel,6,rfl,rfl,by trivial⟩
      |i+3,h1,_=>cases h1
     ·rw [ews] at ex
      obtain ⟨n,hn',rfl⟩:=eO ex
      obtain ⟨n2,hn2,rfl⟩:=eO ey
      rw [List.getElem?_map,hn'] at hn2
      cases hn2
      refine ⟨_,rfl,_,rfl,(by show 2≤sizeLine;decide),fun L2' H2' _ s2' g2'=>⟨_,rfl,_,rfl,p,_,0,_,rfl,rfl,s2'.aH (sm'.aH gp9),at0 _ _,b0,_,1,_,rfl,rfl,s2'.aH (sm'.aH (tk39 _ _ (s3.aH hb0))),at1 _ _ _,rfl,.inr ⟨_,rfl,L2',_,_,_,rfl,rfl,SqL.of g2',aW5,rr _ s2'⟩⟩⟩
     refine ⟨D2,_,rfl,SqL.of g10,fun t11 H11 _ s11 g11=>?_⟩
     have s911:=s10.trans s11
     refine ⟨_,rfl,a1,_,1,_,rfl,rfl,s911.aH (tk19 _ _ ha1),at1 _ _ _,_,rfl,(by show 3≤sizeLine;decide),fun q12 H12 _ s12 g12=>?_⟩
     have s912:=s911.trans s12
     refine ⟨_,rfl,p,_,0,_,rfl,rfl,s912.aH gp9,at0 _ _,b0,_,0,_,rfl,rfl,s912.aH (tk39 _ _ (s3.aH hb0)),at0 _ _,_,rfl,(by show 2≤sizeLine;decide),fun r13 H13 _ s13 g13=>⟨(by show 1≤sizeLine;decide),fun r14 H14 _ s14 g14=>?_⟩⟩
     have s914:=s912.trans (s13.trans s14)
     refine ⟨_,rfl,_,rfl,p,_,rfl,s914.aH gp9,fun r15 H15 s15 g15=>?_⟩
     rw [show (1:Int)=((1:Nat):Int) from rfl,gK] at g15
     have g15:SqT K H15 r15 us:=g15
     have lus:=hus.len
     rw [List.length_cons] at lp3
     refine ⟨r14,r15,_,_,rfl,rfl,SqT.of (s15 _ _ g14),g15,small (by show 1+us.length≤1000;lia),fun r16 H16 s16 g16=>?_⟩
     have g16:SqT K H16 r16 (.ref r13::us):=g16
     subst hN1
     have s1216:=s13.trans (s14.trans (s15.trans s16))
     have s916:=s912.trans s1216
     have hpr16:bO (lB K H16) (.ref r13::us) ((p0.1,cw.1)::ps):=.cons ⟨r13,rfl,SqT.of ((s14.trans (s15.trans s16)) _ _ g13),hn01,hown⟩ (hus.imp fun _ _ h=>((h.same s3).tk tk39).same s916)
     refine ⟨_,rfl,_,rfl,_,rfl,(by show 4≤sizeLine;decide),fun qj H17 _ s17 g17=>?_⟩
     refine ⟨_,rfl,_,rfl,b,t7,_,_,rfl,rfl,(s916.trans s17).aH (tk9 _ _ hb),(s916.trans s17).aH g79,lcat,fun t18 H18 s18 g18=>?_⟩
     refine ⟨(by show 2≤sizeLine;decide),fun p19 H19 _ s19 g19=>?_⟩
     have tk116:TK K H1 H16:=fun _ _ e=>s916.aH (tk19 _ _ e)
     have hgn:Good (zV p0.2 cw.1 h1):=⟨by rw [aJw];exact aNe nd1 hnot,by unfold zV;rw [List.length_map];lia,by unfold zV;rw [List.length_map];lia⟩
     have hHQn:HQ hs (.nmd qk ((h1.map (·.1)).map (oV p0.2 cw.1))) (zV p0.2 cw.1 h1):=by
      have:=HH.nmd (hs:=hs) (q:=qk) (ns:=(h1.map (·.1)).map (oV p0.2 cw.1)) (hd:=hk) (by rw [List.length_map,lk])
      rw [aJa,←ek] at this
      exact .mk1 rfl hHQk this hgn
     refine done H16 (.ref q12) (.ref r16) (.nmd qk ((h1.map (·.1)).map (oV p0.2 cw.1))) (zV p0.2 cw.1 h1) ((p0.1,cw.1)::ps) (fx9.sm s916) tk116 ?_ hHQn (aXv nd1 hpk hnot) (aQn hnot) ⟨⟨r16,_,rfl,g16,hpr16⟩,by rw [List.length_cons];lia,by rw [List.length_cons];lia⟩ hsz p19 H19 qj t18 (s17.trans (s18.trans s19)) (SqT.of ((s18.trans s19) _ _ g17)) (s19.aH g18) g19
     refine .nmd (SqT.of (s1216 _ _ g12)) (hk1.tk tk116) (jC (SqT.of ((s12.trans s1216) _ _ g11)) (fun n hn'=>?_) (by rw [List.length_map,List.length_map];lia) (by rw [List.length_map,List.length_map];lia))
     obtain ⟨n1,hn1,rfl⟩:=List.mem_map.mp hn'
     obtain ⟨c',hc',rfl⟩:=List.mem_map.mp hn1
     unfold oV
     split
     ·exact hown
     ·exact (hc1 c' hc').1
   ·show N1 _ _
    subst hN1
    refine ⟨_,rfl,_,rfl,_,rfl,(by show 4≤sizeLine;decide),fun qj H10 _ s10 g10=>?_⟩
    refine ⟨_,rfl,_,rfl,b,t7,_,_,rfl,rfl,s10.aH (tk9 _ _ hb),s10.aH g79,lcat,fun t10 H11 s11 g11=>?_⟩
    refine ⟨(by show 2≤sizeLine;decide),fun p12 H12 _ s12 g12=>?_⟩
    exact done H9 v1 (.ref p) q1 h1 (p0::ps) fx9 tk19 (hq1.tk tk19) hHQ1 hpk rfl ⟨⟨p,_,rfl,gp9,hpr9⟩,hps1,lp3⟩ hsz p12 H12 qj t10 (s10.trans (s11.trans s12)) (SqT.of ((s11.trans s12) _ _ g10)) (s12.aH g11) g12
def gC (ts:List (Str × Hdr)) (n:Str):Option Hdr:=(ts.find? fun t=>decide (t.1=n)).map (·.2)
def aF4 (K:PySem.W.Frag) (H:Hp) (d:Addr) (ts:List (Str × Hdr)):Prop:=∃kvs,H d=some (.dK kvs)∧bO (fun (kv:Key × V) (t:Str × Hdr)=>kv.1=Sum.inr t.1∧dB K H kv.2 t.2) kvs ts
structure aWo (ts:List (Str × Hdr)):Prop where
 nd:(ts.map (·.1)).Nodup
 nm:∀t∈ts,Nm t.1∧rN t.2
 l1:1≤ts.length
 l3:ts.length≤3
theorem aF4.fx {H H':Hp} {a d:Addr} {ts:List (Str × Hdr)} (h:aF4 K H d ts) (hs:mJ H a) (f:Fx a H H'):aF4 K H' d ts:=by
 obtain ⟨kvs,hd,h2⟩:=h
 obtain ⟨st,dg,h1,_⟩:=id hs
 exact ⟨kvs,f.same d _ (xF hd h1 (by intro z;cases z)) hd,h2.imp fun _ _ q=>⟨q.1,q.2.tk (f.tk hs)⟩⟩
theorem zR {H:Hp} {kvs:List (Key × V)} {ts:List (Str × Hdr)} (h:bO (fun (kv:Key × V) (t:Str × Hdr)=>kv.1=Sum.inr t.1∧dB K H kv.2 t.2) kvs ts):kvs.map (·.1)=(ts.map (·.1)).map fun n=>(Sum.inr n:Key):=by
 induction h with
 |nil=>rfl
 |cons r _ ih=>rw [List.map_cons,List.map_cons,List.map_cons,ih,r.1]
theorem aBg {H:Hp} {kvs:List (Key × V)} {ts:List (Str × Hdr)} (h:bO (fun (kv:Key × V) (t:Str × Hdr)=>kv.1=Sum.inr t.1∧dB K H kv.2 t.2) kvs ts) (n:Str) (hd:Hdr):gC ts n=some hd→∃v,mC kvs (Sum.inr n)=some v∧dB K H v hd:=by
 induction h with
 |nil=>intro e;cases e
 |@cons kv t kvs ts r _ ih=>
  intro e
  unfold gC at e
  rw [List.find?_cons] at e
  by_cases en:t.1=n
  ·rw [decide_eq_true en] at e
   have e:t.2=hd:=Option.some.inj e
   exact ⟨kv.2,sV (by rw [r.1,en]),by rw [←e];exact r.2⟩
  ·rw [decide_eq_false en] at e
   rw [sZ (by rw [r.1];intro z;exact en (Sum.inr.inj z))]
   exact ih e
theorem uF {ts:List (Str × Hdr)} (nd:(ts.map (·.1)).Nodup) {t:Str × Hdr} (h:t∈ts):gC ts t.1=some t.2:=by
 induction ts with
 |nil=>cases h
 |cons x r ih=>
  rw [List.map_cons,List.nodup_cons] at nd
  unfold gC
  rw [List.find?_cons]
  rcases List.mem_cons.mp h with rfl|h
  ·rw [decide_eq_true rfl];rfl
  ·rw [decide_eq_false (fun z=>nd.1 (by rw [z];exact List.mem_map.mpr ⟨t,h,rfl⟩))]
   exact ih nd.2 h
theorem aF4.heads {H:Hp} {d:Addr} {ts:List (Str × Hdr)} (h:aF4 K H d ts):fG K H d (gC ts):=by
 obtain ⟨kvs,hd,h2⟩:=h
 exact ⟨kvs,hd,fun n hd' e=>aBg h2 n hd' e⟩
def bnd:Nat→Nat
 |0=>1
 |1=>5
 |2=>13
 |_=>17
theorem aN0:∀m,1≤bnd m
 |0=>by decide
 |1=>by decide
 |2=>by decide
 |_+3=>by show 1≤17;decide
theorem aSn:∀{m},m≤2→bnd m+4≤bnd (m+1)
 |0,_=>by decide
 |1,_=>by decide
 |2,_=>by decide
 |_+3,h=>by lia
def aVq (K:PySem.W.Frag) (n:Nat):Sp:=fun vs H Q _=>∃(a d N:Addr) (m:Nat) (ts:List (Str × Hdr)) (ns:List Str),vs=[.ref a,.ref d,.ref N,.int (m:Nat)]∧m<n∧m≤3∧mJ H a∧N≠a∧aF4 K H d ts∧aWo ts∧H N=some (.lst (ns.map V.str))∧mR ns ∧
 ∀p H' v1 v2 q' hd',Fx a H H'→H' p=some (.tup [v1,v2])→IsQ K H' v1 q'→dB K H' v2 hd'→HQ (gC ts) q' hd'→rN hd'→size q'≤bnd m→Q (.ref p) H'
def turned (ns:List Str) (t n:Nat):List Str:=(List.range n).map fun i=>ns.getD (3+(t+i) % 14) ""
theorem aPp {ns:List Str} (h:mR ns) (t:Nat) {n:Nat} (hn:n≤14):(turned ns t n).Nodup∧∀x∈turned ns t n,Nm x:=by
 have hg:∀i,ns.getD (3+(t+i) % 14) ""∈ns∧ns[3+(t+i) % 14]?=some (ns.getD (3+(t+i) % 14) ""):=fun i=>by
  have hi:3+(t+i) % 14<ns.length:=by rw [h.1];lia
  rw [List.getD_eq_getElem?_getD,List.getElem?_eq_getElem hi]
  exact ⟨List.getElem_mem hi,rfl⟩
 refine ⟨?_,fun x hx=>?_⟩
 ·refine List.pairwise_map.mpr (List.Pairwise.imp_of_mem ?_ List.nodup_range)
  intro i j hi hj ne e
  have hi:=List.mem_range.mp hi
  have hj:=List.mem_range.mp hj
  have h1:=(hg i).2
  have h2:=(hg j).2
  rw [←e] at h2
  have:=aKn h.2.2 h1 h2
  lia
 ·obtain ⟨i,_,rfl⟩:=List.mem_map.mp hx
  exact h.2.1 _ (hg i).1
theorem aOl {ns:List Str} (h:mR ns) {t n i:Nat} {x:Str} (e:(turned ns t n)[i]?=some x):ns[3+(t+i) % 14]?=some x:=by
 have hi:i<n:=by
  have:=(List.getElem?_eq_some_iff.mp e).1
  simpa [turned] using this
 unfold turned at e
 rw [List.getElem?_map,List.getElem?_range hi] at e
 have e:ns.getD (3+(t+i) % 14) ""=x:=Option.some.inj e
 have hl:3+(t+i) % 14<ns.length:=by rw [h.1];lia
 rw [List.getD_eq_getElem?_getD,List.getElem?_eq_getElem hl] at e
 rw [List.getElem?_eq_getElem hl]
 exact congrArg some e
theorem aQu {n i:Nat} {x:V} (e:((List.range n).map fun i:Nat=>V.int (0+(i:Int)))[i]?=some x):i<n∧x=.int (0+(i:Int)):=by
 have hi:i<n:=by
  have:=(List.getElem?_eq_some_iff.mp e).1
  rw [List.length_map,List.length_range] at this
  exact this
 rw [List.getElem?_map,List.getElem?_range hi] at e
 exact ⟨hi,(Option.some.inj e).symm⟩
theorem qG (T:Txt w K mg) (aM:Ok P w K mg base 1 "_law_next" ["_law_state","_law_many"] iC) (fY:Ok P w K mg base 2 "_law_some" ["_law_state","_law_head_here","_law_least"] (xG K)) (pM:Ok P w K mg base 3 "_law_keys" ["_law_state","_law_head_here"] (aB1 K))
  (mU:Ok P w K mg base 4 "_law_tests" ["_law_state","_law_head_here","_law_most"] (zG K)) (wR:Ok P w K mg base 3 "_law_group" ["_law_state","_law_question_here","_law_head_here","_law_names_here"] (aEk K))
  (aAb:Ok P w K mg base 3 "_law_join" ["_law_state","_law_question_here","_law_head_here","_law_other","_law_other_head","_law_names_here"] (aI1 K)) :
  ∀n:Nat,Ok P w K mg base (n+6) "_law_question" ["_law_state","_law_heads","_law_names_here","_law_deep"] (aVq K n)
 |0=>by
  refine Ok.ofV T.rZ bT (fun vs H Q E h=>?_) (fun f cdv A outer s H vs Q E hr h=>?_)
  ·obtain ⟨a,d,N,m,ts,ns,rfl,_⟩:=h;rfl
  ·obtain ⟨a,d,N,m,ts,ns,rfl,hm,_⟩:=h
   lia
 |n+1=>by
  have iW:=qG T aM fY pM mU wR aAb n
  refine Ok.ofV T.rZ bT (fun vs H Q E h=>?_) (fun f cdv A outer s H vs Q E hr h=>?_)
  ·obtain ⟨a,d,N,m,ts,ns,rfl,_⟩:=h;rfl
  obtain ⟨a,d,N,m,ts,ns,rfl,hmn,hm2,hst,nNa,hD,hts,hN,hn,q⟩:=h
  have hu:=wI hr
  refine ⟨_,(aC (bJ (VW.pt (qN (aP bY (vv 3) aD (aX _)) (oJ (aP bY (aJ (aM.mono (by lia)) hr (by rfl) (aB (vv 0) (aB aD aA))) aD (aX _))))) (aC (aV (i:=4) bT.nd rfl (by trivial) (aK cG (aY (aKu rfl) (by rfl) T.aRr aN7 (aB (vv 1) aA)) (aJ (aM.mono (by lia)) hr (by rfl) (aB (vv 0) (aB (aY aOz (by rfl) T.dG cJ (aB (vv 1) aA)) aA))) (fun _ _=>rfl))) (aF (aL (bC (aB (bC (aB aQ (aB (vv 4) aA))) (aB (uN hu (vv 1) (vv 4) (fun _ _=>rfl)) aA)))))) aW) (aC (aV (i:=5) bT.nd rfl (by trivial) (aJ (aM.mono (by lia)) hr (by rfl) (aB (vv 0) (aB aD aA)))) (aC (pP (aJ (iW.mono (by lia)) hr (by rfl) (aB (vv 0) (aB (vv 1) (aB (vv 2) (aB (bU aBf (vv 3) aD) aA))))) (lM rfl (bA (aN (i:=6) bT.nd rfl (by trivial)) (bA (aN (i:=7) bT.nd rfl (by trivial)) cO)))) (aC (bJ (aP bY (vv 5) aD (aX _)) (aF (aL (bC (aB (bC (aB aQ (aB (vv 6) (aB (aJ (mU.mono (by lia)) hr (by rfl) (aB (vv 0) (aB (vv 7) (aB aD aA)))) aA)))) (aB (vv 7) aA))))) aW) (aC (bJ (aP bY (vv 5) aD (aX _)) (aC (aV (i:=8) bT.nd rfl (by trivial) (aJ (fY.mono (by lia)) hr (by rfl) (aB (vv 0) (aB (vv 7) (aB aD aA))))) (aF (aL (bC (aB (bC (aB aQ (aB (vv 6) (aB (bD bI (by rfl) T.cB bQ (aB (bZ (N:=["_law_name","_law_kind"]) (by trivial) (dF (by decide +kernel)) rfl (fJ (vv 8)) (fun cl s' H' fp=>⟨(iB (K:=K) (n:=2) rfl (bA (aN (i:=0) (show (["_law_name","_law_kind"]:List Str).Nodup from by decide +kernel) rfl (Or.inl rfl)) (bA (aN (i:=1) (show (["_law_name","_law_kind"]:List Str).Nodup from by decide +kernel) rfl (Or.inl rfl)) cO))),cI,(vv 0)⟩)) aA)) aA)))) (aB (bD bI (by rfl) T.cB bQ (aB (vv 8) aA)) aA)))))) aW) (aC (bJ (aP bY (vv 5) aD (aX _)) (aC (aV (i:=9) bT.nd rfl (by trivial) (aJ (aM.mono (by lia)) hr (by rfl) (aB (vv 0) (aB aD aA)))) (aC (aV (i:=10) bT.nd rfl (by trivial) (bZ (N:=["_law_k","_law_names_here","_law_turn"]) (by trivial) (cX (aG gB) rfl (by decide +kernel)) rfl (fK (by rfl) T.kI (aB (aY bB (by rfl) T.dG cJ (aB (vv 7) aA)) aA)) (fun cl s' H' fp=>⟨(aN (i:=0) (show (["_law_k","_law_names_here","_law_turn"]:List Str).Nodup from by decide +kernel) rfl (Or.inl rfl)),cI,(aK (tY (K:=K)) (vv 1) (bU eY aD (bU tX (bU eY (vv 2) (vv 0)) aD)) (fun _ _=>rfl))⟩))) (aC (kW (i0:=11) bT.nd rfl (by trivial) (N:=["_law_k","_law_fresh_here","_law_head_here"]) (by trivial) (cX (aG gB) rfl (by decide +kernel)) rfl (fK (by rfl) T.kI (aB (aY bB (by rfl) T.dG cJ (aB (vv 7) aA)) aA)) (fun cl s' H' fp=>⟨(aN (i:=0) (show (["_law_k","_law_fresh_here","_law_head_here"]:List Str).Nodup from by decide +kernel) rfl (Or.inl rfl)),cI,(bC (aB (aK (tY (K:=K)) (vv 1) (vv 0) (fun _ _=>rfl)) (aB (aK (cZ (K:=K)) (aK (cZ (K:=K)) (vv 2) (vv 0) (fun _ _=>rfl)) aD (fun _ _=>rfl)) aA)))⟩)) (aF (aL (bC (aB (bC (aB aQ (aB (vv 6) (aB (bD bI (by rfl) T.cB bQ (aB (vv 10) aA)) aA)))) (aB (bD bI (by rfl) T.cB bQ (aB (vv 11) aA)) aA)))))))) aW) (aC (bJ (aP bY (vv 5) aD (aX _)) (aC (pP (aJ (iW.mono (by lia)) hr (by rfl) (aB (vv 0) (aB (vv 1) (aB (vv 2) (aB (bD pZ (by rfl) T.aD8 zZ (aB (fH bY (vv 3) aD (aX _)) aA)) aA))))) (lM rfl (bA (aN (i:=12) bT.nd rfl (by trivial)) (bA (aN (i:=13) bT.nd rfl (by trivial)) cO)))) (aF (aL (aJ (aAb.mono (by lia)) hr (by rfl) (aB (vv 0) (aB (vv 6) (aB (vv 7) (aB (vv 12) (aB (vv 13) (aB (vv 2) aA)))))))))) aW) (aC (bJ (aP bY (vv 5) aD (aX _)) (aF (aL (aJ (wR.mono (by lia)) hr (by rfl) (aB (vv 0) (aB (vv 6) (aB (vv 7) (aB (vv 2) aA))))))) aW) (aF (aL (bC (aB (bC (aB aQ (aB (vv 6) (aB (aJ (pM.mono (by lia)) hr (by rfl) (aB (vv 0) (aB (vv 7) aA))) (aB (aJ (aM.mono (by lia)) hr (by rfl) (aB (vv 0) (aB aD aA))) aA))))) (aB (vv 7) aA))))))))))))),?_⟩
  refine ⟨_,rfl,rfl,_,rfl,?_⟩
  by_cases em:m=0
  ·have e:decide (V.int (m:Int)=V.int 0)=true:=by rw [em];rfl
   rw [e]
   refine cA ?_
   have f1:Fx a H H:=.refl hst
   obtain ⟨kvs,hdk,hkv⟩:=hD.fx hst f1
   have lkv:=hkv.len
   obtain ⟨tl1,tl3⟩:=And.intro hts.l1 hts.l3
   refine ⟨_,rfl,d,kvs,_,rfl,hdk,zR hkv,by lia,fun B H2 ss fB s2 hp g2=>⟨_,rfl,_,rfl,d,kvs,rfl,s2 _ _ hdk,a,_,rfl,f1.st.same s2,(by show (0:Int)<(kvs.length:Int)∧(kvs.length:Int)<2 ^ 64;lia),fun k H3 f3 k0 k1=>?_⟩⟩
   have lss:=hp.length_eq
   rw [List.length_map] at lss
   obtain ⟨u,hat,hum⟩:=at_of (xs:=ss.map V.str) k0 (by rw [List.length_map,lss,←lkv];exact k1)
   obtain ⟨nm,hnm,rfl⟩:=List.mem_map.mp hum
   obtain ⟨t,htm,rfl⟩:=List.mem_map.mp (hp.mem_iff.mp hnm)
   have nBa:B≠a:=f1.st.ne fB
   refine ⟨B,_,_,_,rfl,rfl,SqL.of (f3.same _ _ nBa g2),hat,?_⟩
   have fx3:=(f1.sm s2).trans f3
   obtain ⟨kvs3,hdk3,hkv3⟩:=hD.fx hst fx3
   obtain ⟨v,hv,hvh⟩:=aBg hkv3 t.1 t.2 (uF hts.nd htm)
   refine ⟨_,rfl,(by show 2≤sizeLine;decide),fun t4 H4 _ s4 g4=>⟨_,rfl,_,rfl,d,v,rfl,?_,(by show 2≤sizeLine;decide),fun p5 H5 _ s5 g5=>?_⟩⟩
   ·have hg:=vA.k (k:=(Sum.inr t.1:Key)) (s4 _ _ hdk3)
    rw [hv] at hg
    exact hg
   ·exact q p5 H5 _ _ (.table t.1) t.2 (fx3.sm (s4.trans s5)) g5 (.table (SqT.of (s5 _ _ g4)) (hts.nm t htm).1) (hvh.same (s4.trans s5)) (.mk0 rfl (.table (uF hts.nd htm)) (hts.nm t htm).2.1) (hts.nm t htm).2 (aN0 m)
  have e:decide (V.int (m:Int)=V.int 0)=false:=decide_eq_false (by intro z;have:=V.int.inj z;lia)
  rw [e]
  refine aZ ?_
  refine ⟨_,rfl,a,6,rfl,hst,by decide,fun d0 H1 f1 _ _=>⟨rfl,_,rfl,?_⟩⟩
  refine jJ (fun _=>?_) (fun _=>?_)
  ·obtain ⟨kvs,hdk,hkv⟩:=hD.fx hst f1
   have lkv:=hkv.len
   obtain ⟨tl1,tl3⟩:=And.intro hts.l1 hts.l3
   refine ⟨_,rfl,d,kvs,_,rfl,hdk,zR hkv,by lia,fun B H2 ss fB s2 hp g2=>⟨_,rfl,_,rfl,d,kvs,rfl,s2 _ _ hdk,a,_,rfl,f1.st.same s2,(by show (0:Int)<(kvs.length:Int)∧(kvs.length:Int)<2 ^ 64;lia),fun k H3 f3 k0 k1=>?_⟩⟩
   have lss:=hp.length_eq
   rw [List.length_map] at lss
   obtain ⟨u,hat,hum⟩:=at_of (xs:=ss.map V.str) k0 (by rw [List.length_map,lss,←lkv];exact k1)
   obtain ⟨nm,hnm,rfl⟩:=List.mem_map.mp hum
   obtain ⟨t,htm,rfl⟩:=List.mem_map.mp (hp.mem_iff.mp hnm)
   have nBa:B≠a:=f1.st.ne fB
   refine ⟨B,_,_,_,rfl,rfl,SqL.of (f3.same _ _ nBa g2),hat,?_⟩
   have fx3:=(f1.sm s2).trans f3
   obtain ⟨kvs3,hdk3,hkv3⟩:=hD.fx hst fx3
   obtain ⟨v,hv,hvh⟩:=aBg hkv3 t.1 t.2 (uF hts.nd htm)
   refine ⟨_,rfl,(by show 2≤sizeLine;decide),fun t4 H4 _ s4 g4=>⟨_,rfl,_,rfl,d,v,rfl,?_,(by show 2≤sizeLine;decide),fun p5 H5 _ s5 g5=>?_⟩⟩
   ·have hg:=vA.k (k:=(Sum.inr t.1:Key)) (s4 _ _ hdk3)
    rw [hv] at hg
    exact hg
   ·exact q p5 H5 _ _ (.table t.1) t.2 (fx3.sm (s4.trans s5)) g5 (.table (SqT.of (s5 _ _ g4)) (hts.nm t htm).1) (hvh.same (s4.trans s5)) (.mk0 rfl (.table (uF hts.nd htm)) (hts.nm t htm).2.1) (hts.nm t htm).2 (aN0 m)
  refine ⟨_,rfl,a,6,rfl,f1.st,by decide,fun way H2 f2 w0 w1=>?_⟩
  have fx2:=f1.trans f2
  obtain ⟨m',rfl⟩:∃m',m=m'+1:=⟨m - 1,by lia⟩
  have em':(((m'+1:Nat):Int) - 1)=(m':Nat):=by lia
  refine ⟨_,rfl,_,rfl,_,rfl,_,rfl,_,_,rfl,rfl,a,d,N,m',ts,ns,?_,by lia,by lia,fx2.st,nNa,hD.fx hst fx2,hts,fx2.same _ _ nNa hN,hn,fun r H3 v1 v2 q1 h1 f3 g3 hq1 hh1 hHQ1 hok1 hz1=>?_⟩
  ·exact congrArg (fun z=>[V.ref a,V.ref d,V.ref N,V.int z]) em'
  have fx3:=fx2.trans f3
  refine ⟨r,_,rfl,SqT.of g3,rfl,_,_,rfl,_,_,rfl,rfl,?_⟩
  obtain ⟨⟨nd1,l1,l8⟩,hc1⟩:=id hok1
  have hm1:m'≤2:=by lia
  have hbn:=aSn hm1
  refine ⟨_,rfl,rfl,_,rfl,jJ (fun _=>?_) (fun _=>?_)⟩
  ·refine ⟨_,rfl,_,rfl,_,rfl,a,v2,h1,3,rfl,fx3.st,hh1,hok1,(by decide),fun vt H4 ts' f4 hts' htok=>⟨(by show 3≤sizeLine;decide),fun t5 H5 _ s5 g5=>⟨_,rfl,(by show 2≤sizeLine;decide),fun p6 H6 _ s6 g6=>?_⟩⟩⟩
   have s46:=s5.trans s6
   have tk36:TK K H3 H6:=fun _ _ e=>s46.aH (f4.aH fx3.st e)
   have tk46:TK K H4 H6:=fun _ _ e=>s46.aH e
   refine q p6 H6 _ _ (.whr q1 ts') h1 ((fx3.trans f4).sm s46) g6 (.whr (SqT.of (s6 _ _ g5)) (hq1.tk tk36) ?_) (hh1.tk tk36) (.mk1 rfl hHQ1 (.whr htok) hok1.1) hok1 ?_
   ·obtain ⟨x1,x2,x3⟩:=hts'.tk tk46 (fun h=>h.tk tk46)
    exact ⟨x1,x2,by lia⟩
   ·show size q1+ts'.length≤_
    have:=hts'.2.2
    lia
  refine ⟨_,rfl,rfl,_,rfl,jJ (fun _=>?_) (fun _=>?_)⟩
  ·refine ⟨_,rfl,_,rfl,a,v2,h1,1,rfl,fx3.st,hh1,hok1.1,by decide,fun D H4 us hd' f4 fD g4 hus hsub hle=>?_⟩
   have lus:=hus.len
   have hl8:=hsub.2.2
   refine ⟨_,rfl,?_⟩
   try dsimp only [tCB,fP]
   refine aAf g4 hus (by lia) gM (fun R r=>⟨_,rfl,r⟩) fun D5 H5 _ s5 g5=>⟨D5,_,rfl,SqL.of g5,fun t6 H6 _ s6 g6=>⟨(by show 3≤sizeLine;decide),fun q7 H7 _ s7 g7=>⟨_,rfl,D,_,rfl,SqL.of ((s5.trans (s6.trans s7)) _ _ g4),fun t8 H8 _ s8 g8=>⟨(by show 2≤sizeLine;decide),fun p9 H9 _ s9 g9=>?_⟩⟩⟩⟩
   have s49:=s5.trans (s6.trans (s7.trans (s8.trans s9)))
   have tk39:TK K H3 H9:=fun _ _ e=>s49.aH (f4.aH fx3.st e)
   have hgd:Good hd':=⟨hsub.2.1,hle,by lia⟩
   have hcd:∀c∈hd',Nm c.1∧zM c.2:=fun c h=>hc1 c (hsub.1 c h)
   refine q p9 H9 _ _ (.keep q1 (hd'.map (·.1))) hd' ((fx3.trans f4).sm s49) g9 (.keep (SqT.of ((s8.trans s9) _ _ g7)) (hq1.tk tk39) (jC (SqT.of ((s7.trans (s8.trans s9)) _ _ g6)) (fun n hn'=>?_) (by rw [List.length_map];exact hle) (by rw [List.length_map];lia))) ⟨t8,us,rfl,SqT.of (s9 _ _ g8),hus.imp fun _ _ h=>h.same s49⟩ ?_ ⟨hgd,hcd⟩ (by show size q1+1≤_;lia)
   ·obtain ⟨c,hcm,rfl⟩:=List.mem_map.mp hn'
    exact (hcd c hcm).1
   ·have h:=HH.keep (hs:=gC ts) (q:=q1) (uC nd1 hsub.1)
    rw [zip_fst_snd] at h
    exact .mk1 rfl hHQ1 h hgd
  refine ⟨_,rfl,rfl,_,rfl,jJ (fun _=>?_) (fun _=>?_)⟩
  ·refine ⟨_,rfl,a,14,rfl,fx3.st,by decide,fun tz H4 f4 t0 t1=>?_⟩
   obtain ⟨tn,rfl⟩:∃tn:Nat,tz=tn:=⟨tz.toNat,by lia⟩
   have fx4:=fx3.trans f4
   obtain ⟨hb,us,rfl,hhb,hus⟩:=id hh1
   have lus:=hus.len
   have tk34:TK K H3 H4:=f4.tk fx3.st
   have hhb4:=tk34 _ _ hhb
   have lfr:(turned ns tn h1.length).length=h1.length:=by simp [turned]
   obtain ⟨tnd,tnm⟩:=aPp hn tn (n:=h1.length) (by lia)
   try dsimp only [bK,iR,jK]
   refine iV ((List.range h1.length).map fun i:Nat=>V.int (0+(i:Int))) ((turned ns tn h1.length).map V.str) (by rw [List.length_map,List.length_map,List.length_range,lfr]) [none,some (.ref N),some (.int (tn:Nat))] ?_ (small (by rw [List.length_map,List.length_range];lia)) (fun R r=>aGf h1.length (fun R' r'=>⟨_,rfl,hb,_,rfl,.inr hhb4,by rw [←lus] at r';exact r'⟩) (by lia) R r) (fun i x y ex ey H' R l sm r=>?_) rfl fun F H5 s5 g5=>?_
   ·refine ⟨rfl,fun i y v h1 h2=>?_⟩
    match i,h1,h2 with
    |0,_,h2=>cases h2
    |1,h1,h2=>cases h1;cases h2;exact ⟨by decide +kernel,2,rfl,rfl,by trivial⟩
    |2,h1,h2=>cases h1;cases h2;exact ⟨by decide +kernel,9,rfl,rfl,by trivial⟩
    |i+3,h1,_=>cases h1
   ·obtain ⟨hi,rfl⟩:=aQu ex
    obtain ⟨fn,hfn,rfl⟩:=eO ey
    have hfi:ns[3+(tn+i) % 14]?=some fn:=aOl hn hfn
    refine ⟨_,rfl,_,rfl,_,rfl,_,_,rfl,rfl,_,_,rfl,rfl,(by show (0:Int)<14;decide),_,_,rfl,rfl,N,_,_,_,rfl,rfl,SqL.of (sm _ _ (fx4.same _ _ nNa hN)),?_,r _ (Same.refl H')⟩
    have e:(3+((tn:Int)+(0+(i:Int))) % 14)=((3+(tn+i) % 14:Nat):Int):=by lia
    rw [e]
    exact cD (by rw [List.getElem?_map,hfi];rfl)
   have hus5:bO (IsC K H5) us h1:=hus.imp fun _ _ h=>(h.tk tk34).same s5
   have hhb5:=s5.aH hhb4
   generalize hfrs:turned ns tn h1.length=fr at g5 lfr tnd tnm
   try dsimp only [bK,iR,jK]
   refine qI ((List.range h1.length).map fun i:Nat=>V.int (0+(i:Int))) (eN K (List.zipWith (fun n c=>(n,c.2)) fr h1)) eN.st eN.su [none,some (.ref F),some (.ref hb)] ?_ (small (by rw [List.length_map,List.length_range];lia)) (fun R r=>aGf h1.length (fun R' r'=>⟨_,rfl,hb,_,rfl,.inr hhb5,by rw [←lus] at r';exact r'⟩) (by lia) R r) (fun i x ex H' R l sm r=>?_) rfl fun D7 H7 ys s7 g7 hly hR=>?_
   ·refine ⟨rfl,fun i y v h1 h2=>?_⟩
    match i,h1,h2 with
    |0,_,h2=>cases h2
    |1,h1,h2=>cases h1;cases h2;exact ⟨by decide +kernel,10,rfl,rfl,by trivial⟩
    |2,h1,h2=>cases h1;cases h2;exact ⟨by decide +kernel,7,rfl,rfl,by trivial⟩
    |i+3,h1,_=>cases h1
   ·obtain ⟨hi,rfl⟩:=aQu ex
    obtain ⟨p',hp',hpc⟩:∃p',us[i]?=some (.ref p')∧SqT K H5 p' [.str (h1[i]'hi).1,.str (h1[i]'hi).2]:=by
     have hi':i<us.length:=by lia
     obtain ⟨c,hc',p',e1,e2⟩:=bN hus5 (List.getElem?_eq_getElem hi')
     rw [List.getElem?_eq_getElem hi] at hc'
     cases hc'
     exact ⟨p',by rw [List.getElem?_eq_getElem hi',e1],e2⟩
    have hif:i<fr.length:=by lia
    have a1:atI (fr.map V.str) (0+(i:Int))=some (.str (fr[i]'hif)):=by
     rw [Int.zero_add]
     exact cD (by rw [List.getElem?_map,List.getElem?_eq_getElem hif];rfl)
    have a2:atI us (0+(i:Int))=some (.ref p'):=by
     rw [Int.zero_add]
     exact cD hp'
    refine ⟨_,rfl,_,rfl,F,_,_,_,rfl,rfl,SqL.of (sm _ _ g5),a1,_,rfl,_,rfl,hb,_,_,_,rfl,rfl,sm.aH hhb5,a2,p',_,1,_,rfl,rfl,sm.aH hpc,at1 _ _ _,(by show 2≤sizeLine;decide),fun t H8 _ s8 g8=>r _ _ s8 ⟨(fr[i]'hif,(h1[i]'hi).2),t,?_,rfl,g8⟩⟩
    rw [List.getElem?_zipWith,List.getElem?_eq_getElem hif,List.getElem?_eq_getElem hi]
   rw [List.length_map,List.length_range] at hly
   have lzw:(List.zipWith (fun n c=>(n,c.2)) fr h1).length=h1.length:=by rw [List.length_zipWith,lfr,Nat.min_self]
   try dsimp only [bK]
   refine ⟨_,rfl,_,rfl,F,_,rfl,SqL.of (s7 _ _ g5),fun t8 H8 _ s8 g8=>⟨(by show 3≤sizeLine;decide),fun q9 H9 _ s9 g9=>⟨_,rfl,D7,_,rfl,SqL.of ((s8.trans s9) _ _ g7),fun t10 H10 _ s10 g10=>⟨(by show 2≤sizeLine;decide),fun p11 H11 _ s11 g11=>?_⟩⟩⟩⟩
   have s711:=s8.trans (s9.trans (s10.trans s11))
   have s411:=s5.trans (s7.trans s711)
   have tk311:TK K H3 H11:=fun _ _ e=>s411.aH (tk34 _ _ e)
   have hgn:Good (List.zipWith (fun n c=>(n,c.2)) fr h1):=⟨by rw [iU lfr];exact tnd,by lia,by lia⟩
   refine q p11 H11 (.ref q9) (.ref t10) (.nmd q1 fr) _ (fx4.sm s411) g11 (.nmd (SqT.of ((s10.trans s11) _ _ g9)) (hq1.tk tk311) (jC (SqT.of ((s9.trans (s10.trans s11)) _ _ g8)) tnm (by lia) (by lia))) (wU (SqT.of (s11 _ _ g10)) (by lia) fun i y e=>(hR i y e).st s711) (.mk1 rfl hHQ1 (.nmd lfr) hgn) ⟨hgn,fun x hx=>?_⟩ (by show size q1+1≤_;lia)
   obtain ⟨h1',c,hcm,e⟩:=aBl hx
   exact ⟨tnm _ h1',by rw [e];exact (hc1 c hcm).2⟩
  refine ⟨_,rfl,rfl,_,rfl,jJ (fun _=>?_) (fun _=>?_)⟩
  ·obtain ⟨k,ek,hk1,hkb⟩:∃k:Nat,(if decide (V.int ((m'+1:Nat):Int)=V.int 2)=true then (1:Int) else 0)=(k:Nat)∧k≤m'∧bnd m'+bnd k+3≤bnd (m'+1):=by
    match m',hm1 with
    |0,_=>exact ⟨0,by rw [decide_eq_false (by intro z;have:=V.int.inj z;lia)];rfl,Nat.le_refl _,by decide⟩
    |1,_=>exact ⟨1,by rw [decide_eq_true (show V.int ((1+1:Nat):Int)=V.int 2 from rfl)];rfl,Nat.le_refl _,by decide⟩
    |2,_=>exact ⟨0,by rw [decide_eq_false (by intro z;have:=V.int.inj z;lia)];rfl,Nat.zero_le _,by decide⟩
   refine ⟨_,rfl,_,rfl,_,rfl,_,rfl,rfl,.inr ⟨_,rfl,a,d,N,k,ts,ns,?_,by lia,by lia,fx3.st,nNa,hD.fx hst fx3,hts,fx3.same _ _ nNa hN,hn,fun r2 H4 vo voh qo ho f4 g4 hqo hho hHQo hoko hzo=>?_⟩⟩
   ·exact congrArg (fun z=>[V.ref a,V.ref d,V.ref N,V.int z]) ek
   have fx4:=fx3.trans f4
   refine ⟨r2,_,rfl,SqT.of g4,rfl,_,_,rfl,_,_,rfl,rfl,?_⟩
   have tk34:TK K H3 H4:=f4.tk fx3.st
   refine ⟨_,rfl,_,rfl,_,rfl,_,rfl,_,rfl,_,rfl,a,N,v1,v2,vo,voh,q1,qo,h1,ho,ns,gC ts,rfl,fx4.st,nNa,hq1.tk tk34,hh1.tk tk34,hok1,hHQ1,hqo,hho,hoko,hHQo,fx4.same _ _ nNa hN,hn,fun p H' w1 w2 q' hd' f' g' hq' hh' hHQ' hok' hz'=>q p H' _ _ q' hd' (fx4.trans f') g' hq' hh' hHQ' hok' (by lia)⟩
  refine ⟨_,rfl,rfl,_,rfl,jJ (fun _=>?_) (fun _=>?_)⟩
  ·exact ⟨_,rfl,_,rfl,_,rfl,_,rfl,a,N,v1,v2,q1,h1,ns,gC ts,rfl,fx3.st,nNa,hq1,hh1,hok1,hHQ1,fx3.same _ _ nNa hN,hn,fun p H' w1 w2 q' hd' f' g' hq' hh' hHQ' hok' hz'=>q p H' _ _ q' hd' (fx3.trans f') g' hq' hh' hHQ' hok' (by lia)⟩
  ·refine ⟨_,rfl,_,rfl,_,rfl,a,v2,h1,rfl,fx3.st,hh1,hok1,fun vk H4 ps ks f4 hps hlk hndp=>⟨_,rfl,a,7,rfl,(fx3.trans f4).st,by decide,fun mm H5 f5 m0 m1=>⟨(by show 4≤sizeLine;decide),fun t6 H6 _ s6 g6=>⟨_,rfl,(by show 2≤sizeLine;decide),fun p7 H7 _ s7 g7=>?_⟩⟩⟩⟩
   obtain ⟨mn,rfl⟩:∃mn:Nat,mm=mn:=⟨mm.toNat,by lia⟩
   have f35:=f4.trans f5
   have s57:=s6.trans s7
   have tk37:TK K H3 H7:=fun _ _ e=>s57.aH (f35.aH fx3.st e)
   have tk47:TK K H4 H7:=fun _ _ e=>s57.aH (f5.aH (fx3.trans f4).st e)
   refine q p7 H7 _ _ (.first q1 ps mn) h1 ((fx3.trans f35).sm s57) g7 (.first (SqT.of (s7 _ _ g6)) (hq1.tk tk37) (hps.tk tk47 fun h=>h.tk tk47) (by lia)) (hh1.tk tk37) (.mk1 rfl hHQ1 (.first hlk hndp) hok1.1) hok1 (by show size q1+1≤_;lia)
def At3 (σ0:L2.St) (a b c:V) (σ:L2.St):Prop:=σ=((σ0.set 0 (some a)).set 1 (some b)).set 2 (some c)
def Ps3 (σ0:L2.St) (σ:L2.St):Prop:=∃l m n,σ=((σ0.set 0 l).set 1 m).set 2 n
theorem hg3 {σ0:L2.St} {p:Addr} {a b c:V} {σ':L2.St} {H':Hp} {Q':L2.St→Hp→Prop} (hp:SqT K H' p [a,b,c]) (h:Ps3 σ0 σ') (q:∀σ2,Ps3 σ0 σ2→At3 σ0 a b c σ2→Q' σ2 H'):aCk K 3 (gR (bK 0) (gR (bK 1) (gR (bK 2) xZ))) (.ref p) σ' H' Q':=by
 obtain ⟨l,m,n,rfl⟩:=h
 have e:(((((σ0.set 0 l).set 1 m).set 2 n).set 0 (some a)).set 1 (some b)).set 2 (some c)=((σ0.set 0 (some a)).set 1 (some b)).set 2 (some c):=by
  rw [List.set_comm _ _ (show (2:Nat)≠0 by decide),List.set_comm _ _ (show (2:Nat)≠1 by decide),List.set_set,List.set_comm _ _ (show (1:Nat)≠0 by decide),List.set_set,List.set_set]
 refine ⟨p,_,rfl,hp,rfl,_,_,rfl,_,_,rfl,_,_,rfl,rfl,?_⟩
 show Q' ((((((σ0.set 0 l).set 1 m).set 2 n).set 0 (some a)).set 1 (some b)).set 2 (some c)) H'
 rw [e]
 exact q _ ⟨some a,some b,some c,rfl⟩ rfl
theorem aPh {X:Cx} {scope:Scope} {x y z:Str} {σ:L2.St}:Cap X scope [x,y,z] σ [none,none,none]:=⟨rfl,fun i z u h1 h2=>by
  match i,h1,h2 with
  |0,_,h2=>cases h2
  |1,_,h2=>cases h2
  |2,_,h2=>cases h2
  |i+3,h1,_=>cases h1⟩
theorem aNo {α:Type} {f:α→Str} {ys:List V} {cs:List α} (hl:ys.length=cs.length) (h:∀(i:Nat) (y:V),ys[i]?=some y→∃c,cs[i]?=some c∧y=.str (f c)):ys=(cs.map f).map V.str:=by
 rw [List.map_map]
 refine List.ext_getElem? fun i=>?_
 by_cases hi:i<ys.length
 ·obtain ⟨c,h1,h2⟩:=h i ys[i] (List.getElem?_eq_getElem hi)
  rw [List.getElem?_eq_getElem hi,List.getElem?_map,h1,h2]
  rfl
 ·rw [List.getElem?_eq_none (by lia),List.getElem?_eq_none (by rw [List.length_map];lia)]
theorem aOj {X:Cx} {scope:Scope} {N:List Str} {tl:TE} {σ:L2.St} {H:Hp} {Q:VK} {b:Addr} {us:List V} {ss:List Sm} (hb:SqT K H b us) (hu:bO (lL K H) us ss) (h8:ss.length≤100) (cap:Cap X scope N σ [none,none,none]) (hw:∀R:VK,R (.ref b) H→tl σ H R)
  (q:∀D H',H D=none→Same H H'→H' D=some (.lst ((ss.map Sm.new).map V.str))→Q (.ref D) H'):iK X scope N (aGc K tl) (aCk K 3 (gR (bK 0) (gR (bK 1) (gR (bK 2) xZ)))) pY (wA 2) σ H Q:=by
 have lu:=hu.len
 refine sS [none,none,none] cap (hw _ ⟨b,rfl,⟨_,hb⟩,wN Same (pJ H) us (fun _=>true) (fun i _ y=>∃c,ss[i]?=some c∧y=.str c.new) (fun _ _ h=>h) (fun _ _ _ h=>h) (fun i σ=>∃c x y,ss[i]?=some c∧At3 [none,none,none] x y (.str c.new) σ) (Ps3 [none,none,none]) ⟨none,none,none,rfl⟩ (small (by lia)) _ (aCn fun H' s'=>s'.aH hb) (sI fun H' s'=>s'.aH hb) (fun i x σ' H' Q' ex hps s' qq=>?_) (fun i x σ2 ex hA H' R s' r=>r _ (Same.refl _)) (fun i x σ2 ex hA _ H' R s' r=>?_) fun D H1 ys s1 fD g1 hys=>?_⟩)
 ·obtain ⟨c,hc,p,rfl,_,hp|⟨cc,_,_,_,hp⟩⟩:=bN hu ex
  ·exact hg3 (s'.aH hp.2.2) hps fun σ2 h1 h2=>qq σ2 h1 ⟨c,_,_,hc,h2⟩
  ·exact hg3 (s'.aH hp) hps fun σ2 h1 h2=>qq σ2 h1 ⟨c,_,_,hc,h2⟩
 ·obtain ⟨c,_,_,hc,rfl⟩:=hA
  exact ⟨_,rfl,r _ _ (Same.refl H') ⟨c,hc,rfl⟩⟩
 ·rw [qM] at hys
  obtain ⟨l,hg⟩:=oM hys
  rw [aNo (f:=Sm.new) (by lia) hg] at g1
  exact q D H1 fD s1 g1
theorem aEj {X:Cx} {scope:Scope} {N:List Str} {tl:TE} {σ:L2.St} {H:Hp} {Q:VK} {b:Addr} {us:List V} {cs:List (Str × Str)} (hb:SqT K H b us) (hu:bO (IsC K H) us cs) (h8:cs.length≤100) (cap:Cap X scope N σ [none,none]) (hw:∀R:VK,R (.ref b) H→tl σ H R)
  (q:∀D H',H D=none→Same H H'→H' D=some (.lst ((cs.map (·.2)).map V.str))→Q (.ref D) H'):iK X scope N (aGc K tl) (aCk K 2 (gR (bK 0) (gR (bK 1) xZ))) pY (wA 1) σ H Q:=by
 have lu:=hu.len
 refine sS [none,none] cap (hw _ ⟨b,rfl,⟨_,hb⟩,wN Same (pJ H) us (fun _=>true) (fun i _ y=>∃c,cs[i]?=some c∧y=.str c.2) (fun _ _ h=>h) (fun _ _ _ h=>h) (fun i σ=>∃c,cs[i]?=some c∧At2 [none,none] (.str c.1) (.str c.2) σ) (Ps2 [none,none]) ⟨none,none,rfl⟩ (small (by lia)) _ (aCn fun H' s'=>s'.aH hb) (sI fun H' s'=>s'.aH hb) (fun i x σ' H' Q' ex hps s' qq=>?_) (fun i x σ2 ex hA H' R s' r=>r _ (Same.refl _)) (fun i x σ2 ex hA _ H' R s' r=>?_) fun D H1 ys s1 fD g1 hys=>?_⟩)
 ·obtain ⟨c,hc,p,rfl,hp⟩:=bN hu ex
  exact hg2 (s'.aH hp) hps fun σ2 h1 h2=>qq σ2 h1 ⟨c,hc,h2⟩
 ·obtain ⟨c,hc,rfl⟩:=hA
  exact ⟨_,rfl,r _ _ (Same.refl H') ⟨c,hc,rfl⟩⟩
 ·rw [qM] at hys
  obtain ⟨l,hg⟩:=oM hys
  rw [aNo (f:=fun c:Str × Str=>c.2) (by lia) hg] at g1
  exact q D H1 fD s1 g1
theorem aQe (hs:Str→Option Hdr) (q:Qn) (ns:List Str):cH hs (.keep q ns)=ns:=by
 show (ns.map fun n=>(n,(look (oW hs q) n).getD "")).map (·.1)=ns
 rw [List.map_map]
 exact List.map_id' ns
theorem aOw (hs:Str→Option Hdr) (q:Qn) (ns:List Str) (ss:List Sm):cH hs (.group q ns ss)=ns++ss.map Sm.new:=by
 show ((ns.map fun n=>(n,(look (oW hs q) n).getD ""))++ss.map fun s=>(s.new,(smK (oW hs q) s).getD "")).map (·.1)=_
 rw [List.map_append,List.map_map,List.map_map]
 congr 1
 exact List.map_id' ns
theorem aNk {hs:Str→Option Hdr} {q:Qn} {ns:List Str} {h:Hdr} (k:HQ hs (.nmd q ns) h):cH hs (.nmd q ns)=ns∧ns.length=(cH hs q).length:=by
 obtain ⟨hk,h1,h2,h3⟩:=aLs k
 have e:=iD h1
 have l:ns.length=(oW hs q).length:=by rw [e,h2]
 refine ⟨?_,by unfold cH;rw [List.length_map,l]⟩
 show (List.zipWith (fun n c=>(n,c.2)) ns (oW hs q)).map (·.1)=ns
 exact iU l
theorem aQb (hs:Str→Option Hdr) (q r:Qn) (ps:List (Str × Str)):cH hs (.join q r ps)=cH hs q++seenOf hs r ps:=by
 show (oW hs q++(oW hs r).filter fun c=>!decide (c.1∈ps.map (·.2))).map (·.1)=_
 rw [List.map_append]
 congr 1
 unfold seenOf cH
 rw [List.filter_map]
 rfl
theorem aA4 {hs:Str→Option Hdr} {q:Qn} {h:Hdr} (k:HQ hs q h):(cH hs q).length≤8:=by
 unfold cH
 rw [iD k,List.length_map]
 exact k.good.2.2
abbrev knW:List V:=[.str "keep",.str "named"]
def aR3 (K:PySem.W.Frag) (n:Nat):Sp:=fun vs H Q _=>∃d v hs q hd,vs=[.ref d,v]∧fG K H d hs∧IsQ K H v q∧size q≤n∧HQ hs q hd∧∀D H',H D=none→Same H H'→H' D=some (.lst ((cH hs q).map V.str))→Q (.ref D) H'
theorem qF (T:Txt w K mg):∀n:Nat,Ok P w K mg base (n+1) "_law_names_of" ["_law_heads","_law_question_here"] (aR3 K n)
 |0=>by
  refine Ok.ofV T.rW dY (fun vs H Q E h=>?_) (fun f cdv A outer s H vs Q E hr h=>?_)
  ·obtain ⟨d,v,hs,q,hd,rfl,_⟩:=h;rfl
  ·obtain ⟨d,v,hs,q,hd,rfl,_,hq,hz,_⟩:=h
   have e:=jQ q
   have o:=nG hq
   lia
 |n+1=>by
  have dI:=qF T n
  refine Ok.ofV T.rW dY (fun vs H Q E h=>?_) (fun f cdv A outer s H vs Q E hr h=>?_)
  ·obtain ⟨d,v,hs,q,hd,rfl,_⟩:=h;rfl
  obtain ⟨d,v,hs,q0,hd,rfl,hds,hq,hz,hh,q⟩:=h
  have hu:=wI hr
  refine ⟨_,(aC (aV (i:=2) dY.nd rfl (by trivial) (aK aO (vv 1) aD (fun _ _=>rfl))) (aC (bJ (aP bY (vv 2) aQ (aX _)) (aF (aL (bZ (N:=["_law_name","_law_kind"]) (by trivial) (dF (by decide +kernel)) rfl (dC (uN hu (vv 0) (aK aO (vv 1) aD (fun _ _=>rfl)) (fun _ _=>rfl))) (fun cl s' H' fp=>⟨(iB (K:=K) (n:=2) rfl (bA (aN (i:=0) (show (["_law_name","_law_kind"]:List Str).Nodup from by decide +kernel) rfl (Or.inl rfl)) (bA (aN (i:=1) (show (["_law_name","_law_kind"]:List Str).Nodup from by decide +kernel) rfl (Or.inl rfl)) cO))),cI,(vv 0)⟩)))) aW) (aC (bJ (aP nP (vv 2) (bC (aB aQ (aB aQ aA))) (by with_unfolding_all rfl)) (aF (aL (bD oN (by rfl) T.yX uM (aB (aK aO (vv 1) aD (fun _ _=>rfl)) aA)))) aW) (aC (bJ (aP bY (vv 2) aQ (aX _)) (aF (aL (bU aB2 (bD oN (by rfl) T.yX uM (aB (aK aO (vv 1) aD (fun _ _=>rfl)) aA)) (bZ (N:=["_law_word","_law_name","_law_new"]) (by trivial) (dF (by decide +kernel)) rfl (dC (aK aO (vv 1) aD (fun _ _=>rfl))) (fun cl s' H' fp=>⟨(iB (K:=K) (n:=3) rfl (bA (aN (i:=0) (show (["_law_word","_law_name","_law_new"]:List Str).Nodup from by decide +kernel) rfl (Or.inl rfl)) (bA (aN (i:=1) (show (["_law_word","_law_name","_law_new"]:List Str).Nodup from by decide +kernel) rfl (Or.inl rfl)) (bA (aN (i:=2) (show (["_law_word","_law_name","_law_new"]:List Str).Nodup from by decide +kernel) rfl (Or.inl rfl)) cO)))),cI,(vv 2)⟩))))) aW) (aC (aV (i:=3) dY.nd rfl (by trivial) (aJ (dI.mono (by lia)) hr (by rfl) (aB (vv 0) (aB (aK aO (vv 1) aD (fun _ _=>rfl)) aA)))) (aC (bJ (aP bY (vv 2) aQ (aX _)) (aC (aV (i:=4) dY.nd rfl (by trivial) (bZ (N:=["_law_c","_law_d"]) (by trivial) (dF (by decide +kernel)) rfl (dC (aK aO (vv 1) aD (fun _ _=>rfl))) (fun cl s' H' fp=>⟨(iB (K:=K) (n:=2) rfl (bA (aN (i:=0) (show (["_law_c","_law_d"]:List Str).Nodup from by decide +kernel) rfl (Or.inl rfl)) (bA (aN (i:=1) (show (["_law_c","_law_d"]:List Str).Nodup from by decide +kernel) rfl (Or.inl rfl)) cO))),cI,(vv 1)⟩))) (aF (aV (i:=3) dY.nd rfl (by trivial) (bU aB2 (vv 3) (bZ (N:=["_law_name","_law_gone"]) (by trivial) (cX (aG iY) rfl (by decide +kernel)) rfl (fJ (aJ (dI.mono (by lia)) hr (by rfl) (aB (vv 0) (aB (aK aO (vv 1) aD (fun _ _=>rfl)) aA)))) (fun cl s' H' fp=>⟨(aN (i:=0) (show (["_law_name","_law_gone"]:List Str).Nodup from by decide +kernel) rfl (Or.inl rfl)),(pX (aP (gO (K:=K)) (vv 0) (vv 1) (by with_unfolding_all rfl))),(vv 0)⟩)))))) aW) (aF (aL (vv 3))))))))),?_⟩
  obtain ⟨ihds,hin,hone,hgood⟩:=hh.in
  cases hq with
  |@table a0 T0 a b=>
   cases hone with
   |table hT=>
    obtain ⟨kvs,hdk,hmem⟩:=hds
    obtain ⟨v',hv',hI⟩:=hmem _ _ hT
    obtain ⟨hb,us,rfl,hhb,hus⟩:=hI
    have g8:=hgood.2.2
    refine ⟨_,rfl,_,_,0,_,rfl,rfl,a,at0 _ _,_,rfl,rfl,_,rfl,cA ?_⟩
    dsimp only [aAs]
    refine qP hhb hus (by lia) gM (fun R r=>⟨_,rfl,_,rfl,_,_,1,_,rfl,rfl,a,at1 _ _ _,d,_,rfl,?_,r⟩) fun D1 H1 f1 s1 g1=>?_
    ·have hg:=vA.k (k:=(Sum.inr T0:Key)) hdk
     rw [hv'] at hg
     exact hg
    ·have e:cH hs (.table T0)=hd.map (·.1):=by unfold cH;rw [iD hh]
     rw [e] at q
     exact q D1 H1 f1 s1 g1
  |keep a b c=>
   obtain ⟨⟨wa,ws,rfl,hwa,hws⟩,w1,w8⟩:=c
   have ew:=qK hws
   rw [aQe] at q
   refine ⟨_,rfl,_,_,0,_,rfl,rfl,a,at0 _ _,_,rfl,rfl,_,rfl,aZ ?_⟩
   refine ⟨_,rfl,(by show 2≤sizeLine;decide),fun tt Ht ftt st gt=>⟨tt,knW,rfl,.inr (SqT.of gt),rfl,rfl,_,rfl,?_⟩⟩
   refine cA ⟨_,rfl,_,_,2,_,rfl,rfl,st.aH a,at2 _ _ _ _,wa,_,rfl,.inr (st.aH hwa),fun D1 H1 f1 s1 g1=>?_⟩
   rw [ew] at g1
   exact q D1 H1 (st.free f1) (st.trans s1) g1
  |nmd a b c=>
   obtain ⟨⟨wa,ws,rfl,hwa,hws⟩,w1,w8⟩:=c
   have ew:=qK hws
   rw [(aNk hh).1] at q
   refine ⟨_,rfl,_,_,0,_,rfl,rfl,a,at0 _ _,_,rfl,rfl,_,rfl,aZ ?_⟩
   refine ⟨_,rfl,(by show 2≤sizeLine;decide),fun tt Ht ftt st gt=>⟨tt,knW,rfl,.inr (SqT.of gt),rfl,rfl,_,rfl,?_⟩⟩
   refine cA ⟨_,rfl,_,_,2,_,rfl,rfl,st.aH a,at2 _ _ _ _,wa,_,rfl,.inr (st.aH hwa),fun D1 H1 f1 s1 g1=>?_⟩
   rw [ew] at g1
   exact q D1 H1 (st.free f1) (st.trans s1) g1
  |group a b c e=>
   obtain ⟨⟨wa,ws,rfl,hwa,hws⟩,w1,w8⟩:=c
   obtain ⟨⟨sa,zs,rfl,hsa,hzs⟩,z1,z4⟩:=e
   have ew:=qK hws
   rw [aOw] at q
   refine ⟨_,rfl,_,_,0,_,rfl,rfl,a,at0 _ _,_,rfl,rfl,_,rfl,aZ ?_⟩
   refine ⟨_,rfl,(by show 2≤sizeLine;decide),fun tt Ht ftt st gt=>⟨tt,knW,rfl,.inr (SqT.of gt),rfl,rfl,_,rfl,?_⟩⟩
   refine aZ ⟨_,rfl,rfl,_,rfl,cA ?_⟩
   refine ⟨_,rfl,_,_,2,_,rfl,rfl,st.aH a,at2 _ _ _ _,wa,_,rfl,.inr (st.aH hwa),fun D1 H1 f1 s1 g1=>?_⟩
   rw [ew] at g1
   have t1:=st.trans s1
   refine aOj (t1.aH hsa) (hzs.imp fun _ _ h=>h.same t1) (by lia) aPh (fun R r=>⟨_,rfl,_,_,3,_,rfl,rfl,t1.aH a,cD (j:=3) rfl,r⟩) fun D2 H2 f2 s2 g2=>?_
   refine ⟨D1,D2,_,_,rfl,rfl,s2 _ _ g1,g2,small (by rw [List.length_map,List.length_map,List.length_map];lia),fun D3 H3 f3 s3 g3=>q D3 H3 ((t1.trans s2).free f3) (t1.trans (s2.trans s3)) ?_⟩
   rw [List.map_append]
   exact g3
  |whr a b c=>
   have b':=b
   refine ⟨_,rfl,_,_,0,_,rfl,rfl,a,at0 _ _,_,rfl,rfl,_,rfl,aZ ?_⟩
   refine ⟨_,rfl,(by show 2≤sizeLine;decide),fun tt Ht ftt st gt=>⟨tt,knW,rfl,.inr (SqT.of gt),rfl,rfl,_,rfl,?_⟩⟩
   refine aZ ⟨_,rfl,rfl,_,rfl,aZ ?_⟩
   cases hin with
   |cons r tl=>
    have kz:=cQ (List.mem_cons_self ..) (IsQ.whr a b c)
    refine ⟨_,rfl,_,rfl,_,_,1,_,rfl,rfl,st.aH a,at1 _ _ _,d,_,hs,_,_,rfl,hds.same st,b.same st,by lia,r,fun D1 H1 f1 s1 g1=>⟨_,rfl,rfl,_,rfl,aZ ⟨_,rfl,q D1 H1 (st.free f1) (st.trans s1) g1⟩⟩⟩
  |first a b c e=>
   refine ⟨_,rfl,_,_,0,_,rfl,rfl,a,at0 _ _,_,rfl,rfl,_,rfl,aZ ?_⟩
   refine ⟨_,rfl,(by show 2≤sizeLine;decide),fun tt Ht ftt st gt=>⟨tt,knW,rfl,.inr (SqT.of gt),rfl,rfl,_,rfl,?_⟩⟩
   refine aZ ⟨_,rfl,rfl,_,rfl,aZ ?_⟩
   cases hin with
   |cons r tl=>
    have kz:=cQ (List.mem_cons_self ..) (IsQ.first a b c e)
    refine ⟨_,rfl,_,rfl,_,_,1,_,rfl,rfl,st.aH a,at1 _ _ _,d,_,hs,_,_,rfl,hds.same st,b.same st,by lia,r,fun D1 H1 f1 s1 g1=>⟨_,rfl,rfl,_,rfl,aZ ⟨_,rfl,q D1 H1 (st.free f1) (st.trans s1) g1⟩⟩⟩
  |@join a0 v0 q1 u0 r1 w0 ps a b c e=>
   refine ⟨_,rfl,_,_,0,_,rfl,rfl,a,at0 _ _,_,rfl,rfl,_,rfl,aZ ?_⟩
   refine ⟨_,rfl,(by show 2≤sizeLine;decide),fun tt Ht ftt st gt=>⟨tt,knW,rfl,.inr (SqT.of gt),rfl,rfl,_,rfl,?_⟩⟩
   refine aZ ⟨_,rfl,rfl,_,rfl,aZ ?_⟩
   cases hin with
   |cons r tl=>
    cases tl with
    |cons r2 tl2=>
     have kz:=cQ (List.mem_cons_self ..) (IsQ.join a b c e)
     have kz2:=cQ (List.mem_cons_of_mem _ (List.mem_cons_self ..)) (IsQ.join a b c e)
     obtain ⟨⟨wa,ws,rfl,hwa,hws⟩,w1,w3⟩:=e
     refine ⟨_,rfl,_,rfl,_,_,1,_,rfl,rfl,st.aH a,at1 _ _ _,d,_,hs,_,_,rfl,hds.same st,b.same st,by lia,r,fun D1 H1 f1 s1 g1=>⟨_,rfl,rfl,_,rfl,cA ?_⟩⟩
     have t1:=st.trans s1
     dsimp only [rU,iR,jK]
     refine aEj (t1.aH hwa) (aLv (hws.imp fun _ _ h=>h.same t1)) (by lia) gM (fun R r=>⟨_,rfl,_,_,3,_,rfl,rfl,t1.aH a,cD (j:=3) rfl,r⟩) fun D2 H2 f2 s2 g2=>?_
     have t2:=t1.trans s2
     refine ⟨_,rfl,?_⟩
     refine aCv (used:=ps.map (·.2)) (ns:=cH hs r1) (by have:=aA4 r2;lia) (U:=.ref D2) ?_ (fun R rr=>⟨_,rfl,_,rfl,_,_,2,_,rfl,rfl,t2.aH a,at2 _ _ _ _,d,_,hs,_,_,rfl,hds.same t2,c.same t2,by lia,r2,fun D3 H3 f3 s3 g3=>rr D3 H3 s3 g3⟩) (fun n l H' R s' rr=>?_) fun D4 H4 f4 s4 g4=>?_
     ·exact cY 4 (by decide +kernel) rfl rfl (by trivial)
     ·refine ⟨_,by cases l <;> rfl,_,by cases l <;> rfl,D2,_,rfl,.inl (SqL.of (s' _ _ g2)),rfl,kE,_,rfl,?_⟩
      rw [nH]
      exact rr H' (Same.refl H')
     have l1:=aA4 r
     have l2:=aA4 r2
     refine ⟨D1,D4,_,_,rfl,rfl,s4 _ _ (s2 _ _ g1),g4,small ?_,fun D5 H5 f5 s5 g5=>?_⟩
     ·rw [List.length_map,List.length_map]
      have:=List.length_filter_le (fun n=>!decide (n∈List.map (fun x=>x.2) ps)) (cH hs r1)
      lia
     ·refine ⟨_,rfl,q D5 H5 ((t2.trans s4).free f5) (t2.trans (s4.trans s5)) ?_⟩
      rw [aQb,List.map_append]
      exact g5
abbrev wkW:List V:=[.str "where",.str "keep"]
theorem wM {H H4:Hp} {v u:V} {q:Qn} {t:Tst} {p p2:Addr} (s:Same H H4) (hq:IsQ K H v q) (hu:IsT K H u t) (g3:SqT K H4 p [u]) (g4:SqT K H4 p2 [.str "where",v,.ref p]):IsQ K H4 (.ref p2) (.whr q [t]):=
 .whr g4 (hq.same s) ⟨⟨p,[u],rfl,g3,.cons (hu.same s) .nil⟩,(by show 1≤1;decide),(by show 1≤3;decide)⟩
theorem yR {hs:Str→Option Hdr} {q k0:Qn} {hd:Hdr} {t:Tst} {m:Nat} (h:HQ hs q hd) (ht:eX hd t) (e:aAh hs (bL t) q=.int (m:Nat)) (ek0:(kids q)[m]?=some k0):∃hk,HQ hs k0 hk∧eX hk (aCd hs t q):=by
 obtain ⟨j,k,hk,ei,ek,h1,h2,_⟩:=aN1 h ht e
 have:m=j:=by lia
 subst this
 rw [ek] at ek0
 cases ek0
 exact ⟨hk,h1,h2⟩
theorem wV (T:Txt w K mg) (uB:Ok P w K mg base 1 "_law_renamed" ["_law_test","_law_names_here","_law_others"] (aNg K)) (lX:Ok P w K mg base 2 "_law_within" ["_law_test","_law_names_here"] (aVg K)) (dI:Ok P w K mg base 21 "_law_names_of" ["_law_heads","_law_question_here"] (aR3 K 20)) :
  ∀n:Nat,Ok P w K mg base (n+22) "_law_sunk" ["_law_heads","_law_question_here","_law_test"] (aFl K n)
 |0=>by
  refine Ok.ofV T.aAi jY (fun vs H Q E h=>?_) (fun f cdv A outer s H vs Q E hr h=>?_)
  ·obtain ⟨d,v,u,hs,q,hd,t,rfl,_⟩:=h;rfl
  ·obtain ⟨d,v,u,hs,q,hd,t,rfl,_,_,hq,hz,_⟩:=h
   have e:=jQ q
   have o:=nG hq
   lia
 |n+1=>by
  have fX:=wV T uB lX dI n
  refine Ok.ofV T.aAi jY (fun vs H Q E h=>?_) (fun f cdv A outer s H vs Q E hr h=>?_)
  ·obtain ⟨d,v,u,hs,q,hd,t,rfl,_⟩:=h;rfl
  obtain ⟨d,v,u,hs,q0,hd,t,rfl,hds,hT,hq,hz,hz2,hh,hu,ht,q⟩:=h
  refine ⟨_,(aC (aV (i:=3) jY.nd rfl (by trivial) (aK aO (vv 1) aD (fun _ _=>rfl))) (aC (bJ (aP nP (vv 3) (bC (aB aQ (aB aQ aA))) (by with_unfolding_all rfl)) (aF (aL (bC (aB (vv 3) (aB (aJ (fX.mono (by lia)) hr (by rfl) (aB (vv 0) (aB (aK aO (vv 1) aD (fun _ _=>rfl)) (aB (vv 2) aA)))) (aB (aK aO (vv 1) aD (fun _ _=>rfl)) aA)))))) aW) (aC (bJ (aP bY (vv 3) aQ (aX _)) (aC (aV (i:=4) jY.nd rfl (by trivial) (aJ (uB.mono (by lia)) hr (by rfl) (aB (vv 2) (aB (bD oN (by rfl) T.yX uM (aB (aK aO (vv 1) aD (fun _ _=>rfl)) aA)) (aB (aJ (dI.mono (by lia)) hr (by rfl) (aB (vv 0) (aB (aK aO (vv 1) aD (fun _ _=>rfl)) aA))) aA))))) (aF (aL (bC (aB (vv 3) (aB (aJ (fX.mono (by lia)) hr (by rfl) (aB (vv 0) (aB (aK aO (vv 1) aD (fun _ _=>rfl)) (aB (vv 4) aA)))) (aB (aK aO (vv 1) aD (fun _ _=>rfl)) aA))))))) aW) (aC (bJ (VW.pt (aCi (aP bY (vv 3) aQ (aX _)) (aAx (eG (aJ (lX.mono (by lia)) hr (by rfl) (aB (vv 2) (aB (aK aO (vv 1) aD (fun _ _=>rfl)) aA))))))) (aF (aL (bC (aB (vv 3) (aB (aJ (fX.mono (by lia)) hr (by rfl) (aB (vv 0) (aB (aK aO (vv 1) aD (fun _ _=>rfl)) (aB (vv 2) aA)))) (aB (aK aO (vv 1) aD (fun _ _=>rfl)) (aB (aK aO (vv 1) aD (fun _ _=>rfl)) aA))))))) aW) (aC (bJ (aP bY (vv 3) aQ (aX _)) (aC (aV (i:=5) jY.nd rfl (by trivial) (bZ (N:=["_law_c","_law_d"]) (by trivial) (dF (by decide +kernel)) rfl (dC (aK aO (vv 1) aD (fun _ _=>rfl))) (fun cl s' H' fp=>⟨(iB (K:=K) (n:=2) rfl (bA (aN (i:=0) (show (["_law_c","_law_d"]:List Str).Nodup from by decide +kernel) rfl (Or.inl rfl)) (bA (aN (i:=1) (show (["_law_c","_law_d"]:List Str).Nodup from by decide +kernel) rfl (Or.inl rfl)) cO))),cI,(vv 1)⟩))) (aC (bJ (eG (aJ (lX.mono (by lia)) hr (by rfl) (aB (vv 2) (aB (aJ (dI.mono (by lia)) hr (by rfl) (aB (vv 0) (aB (aK aO (vv 1) aD (fun _ _=>rfl)) aA))) aA)))) (aF (aL (bC (aB (vv 3) (aB (aJ (fX.mono (by lia)) hr (by rfl) (aB (vv 0) (aB (aK aO (vv 1) aD (fun _ _=>rfl)) (aB (vv 2) aA)))) (aB (aK aO (vv 1) aD (fun _ _=>rfl)) (aB (aK aO (vv 1) aD (fun _ _=>rfl)) aA))))))) aW) (aF (bJ (eG (aJ (lX.mono (by lia)) hr (by rfl) (aB (vv 2) (aB (bZ (N:=["_law_name","_law_gone"]) (by trivial) (cX (aG pF) rfl (by decide +kernel)) rfl (fJ (aJ (dI.mono (by lia)) hr (by rfl) (aB (vv 0) (aB (aK aO (vv 1) aD (fun _ _=>rfl)) aA)))) (fun cl s' H' fp=>⟨(aN (i:=0) (show (["_law_name","_law_gone"]:List Str).Nodup from by decide +kernel) rfl (Or.inl rfl)),(pX (aP (gO (K:=K)) (vv 0) (vv 1) (by with_unfolding_all rfl))),(vv 0)⟩)) aA)))) (aF (aL (bC (aB (vv 3) (aB (aK aO (vv 1) aD (fun _ _=>rfl)) (aB (aJ (fX.mono (by lia)) hr (by rfl) (aB (vv 0) (aB (aK aO (vv 1) aD (fun _ _=>rfl)) (aB (vv 2) aA)))) (aB (aK aO (vv 1) aD (fun _ _=>rfl)) aA))))))) aW)))) aW) (aF (aL (bC (aB aQ (aB (vv 1) (aB (bC (aB (vv 2) aA)) aA))))))))))),?_⟩
  cases hq with
  |table a b=>
   refine ⟨_,rfl,_,_,0,_,rfl,rfl,a,at0 _ _,?_⟩
   refine ⟨_,rfl,(by show 2≤sizeLine;decide),fun tt Ht ftt st gt=>⟨tt,wkW,rfl,.inr (SqT.of gt),rfl,rfl,_,rfl,aZ ?_⟩⟩
   refine ⟨_,rfl,rfl,_,rfl,aZ ⟨_,rfl,rfl,_,rfl,aZ (aZ ⟨_,rfl,rfl,_,rfl,aZ ?_⟩)⟩⟩
   exact ⟨_,rfl,_,rfl,(by show 1≤sizeLine;decide),fun p H3 _ s3 g3=>⟨(by show 3≤sizeLine;decide),fun p2 H4 _ s4 g4=>q _ _ (st.trans (s3.trans s4)) (wM (st.trans (s3.trans s4)) (.table a b) hu (SqT.of (s4 _ _ g3)) (SqT.of g4))⟩⟩
  |first a b c e=>
   refine ⟨_,rfl,_,_,0,_,rfl,rfl,a,at0 _ _,?_⟩
   refine ⟨_,rfl,(by show 2≤sizeLine;decide),fun tt Ht ftt st gt=>⟨tt,wkW,rfl,.inr (SqT.of gt),rfl,rfl,_,rfl,aZ ?_⟩⟩
   refine ⟨_,rfl,rfl,_,rfl,aZ ⟨_,rfl,rfl,_,rfl,aZ (aZ ⟨_,rfl,rfl,_,rfl,aZ ?_⟩)⟩⟩
   exact ⟨_,rfl,_,rfl,(by show 1≤sizeLine;decide),fun p H3 _ s3 g3=>⟨(by show 3≤sizeLine;decide),fun p2 H4 _ s4 g4=>q _ _ (st.trans (s3.trans s4)) (wM (st.trans (s3.trans s4)) (.first a b c e) hu (SqT.of (s4 _ _ g3)) (SqT.of g4))⟩⟩
  |whr a b c=>
   have kz:=cQ (List.mem_cons_self ..) (IsQ.whr a b c)
   obtain ⟨hk,h1,h2⟩:=yR (m:=0) hh ht rfl rfl
   refine ⟨_,rfl,_,_,0,_,rfl,rfl,a,at0 _ _,?_⟩
   refine ⟨_,rfl,(by show 2≤sizeLine;decide),fun tt Ht ftt st gt=>⟨tt,wkW,rfl,.inr (SqT.of gt),rfl,rfl,_,rfl,cA ?_⟩⟩
   refine ⟨_,rfl,_,rfl,_,rfl,_,_,1,_,rfl,rfl,st.aH a,at1 _ _ _,_,rfl,d,_,u,hs,_,hk,t,rfl,hds.same st,hT,b.same st,by lia,by lia,h1,hu.same st,h2,fun v1 H1 s1 i1=>?_⟩
   have t1:=st.trans s1
   exact ⟨_,rfl,_,_,2,_,rfl,rfl,t1.aH a,at2 _ _ _ _,(by show 3≤sizeLine;decide),fun p H2 _ s2 g2=>q _ _ (t1.trans s2) (.whr (SqT.of g2) (i1.same s2) (c.same (t1.trans s2) fun h=>h.same (t1.trans s2)))⟩
  |keep a b c=>
   have kz:=cQ (List.mem_cons_self ..) (IsQ.keep a b c)
   obtain ⟨hk,h1,h2⟩:=yR (m:=0) hh ht rfl rfl
   refine ⟨_,rfl,_,_,0,_,rfl,rfl,a,at0 _ _,?_⟩
   refine ⟨_,rfl,(by show 2≤sizeLine;decide),fun tt Ht ftt st gt=>⟨tt,wkW,rfl,.inr (SqT.of gt),rfl,rfl,_,rfl,cA ?_⟩⟩
   refine ⟨_,rfl,_,rfl,_,rfl,_,_,1,_,rfl,rfl,st.aH a,at1 _ _ _,_,rfl,d,_,u,hs,_,hk,t,rfl,hds.same st,hT,b.same st,by lia,by lia,h1,hu.same st,h2,fun v1 H1 s1 i1=>?_⟩
   have t1:=st.trans s1
   exact ⟨_,rfl,_,_,2,_,rfl,rfl,t1.aH a,at2 _ _ _ _,(by show 3≤sizeLine;decide),fun p H2 _ s2 g2=>q _ _ (t1.trans s2) (.keep (SqT.of g2) (i1.same s2) (c.same (t1.trans s2) fun h=>h))⟩
  |@nmd a0 v0 q1 w0 ns a b c=>
   have kz:=cQ (List.mem_cons_self ..) (IsQ.nmd a b c)
   obtain ⟨hk,h1,h2⟩:=yR (m:=0) hh ht rfl rfl
   obtain ⟨hk',r1,lk,ek⟩:=aLs hh
   obtain ⟨en,ln⟩:=aNk hh
   obtain ⟨⟨wa,ws,rfl,hwa,hws⟩,w1,w8⟩:=id c
   have ew:=qK hws
   have hcol:∀n∈bL t,n∈ns:=fun n hn=>by
    obtain ⟨k,hk⟩:=aAg ht n hn
    have:=rR hk
    rw [ek,iU lk] at this
    exact this
   have hnm:∀o∈cH hs q1,Nm o:=fun o ho=>by
    unfold cH at ho
    rw [iD r1] at ho
    obtain ⟨cc,hcc,rfl⟩:=List.mem_map.mp ho
    exact aVr hT (aSp b) r1 cc hcc
   refine ⟨_,rfl,_,_,0,_,rfl,rfl,a,at0 _ _,?_⟩
   refine ⟨_,rfl,(by show 2≤sizeLine;decide),fun tt Ht ftt st gt=>⟨tt,wkW,rfl,.inr (SqT.of gt),rfl,rfl,_,rfl,aZ ?_⟩⟩
   refine ⟨_,rfl,rfl,_,rfl,cA ?_⟩
   refine ⟨_,rfl,_,rfl,_,_,2,_,rfl,rfl,st.aH a,at2 _ _ _ _,wa,_,rfl,.inr (st.aH hwa),fun D1 H1 f1 s1 g1=>?_⟩
   rw [ew] at g1
   have t1:=st.trans s1
   refine ⟨_,rfl,_,rfl,_,_,1,_,rfl,rfl,t1.aH a,at1 _ _ _,d,_,hs,q1,hk',rfl,hds.same t1,b.same t1,by lia,r1,fun D2 H2 f2 s2 g2=>?_⟩
   have t2:=t1.trans s2
   refine ⟨u,D1,D2,t,ns,cH hs q1,rfl,hu.same t2,SqL.of (s2 _ _ g1),SqL.of g2,ln,hcol,hnm,fun v3 H3 s3 i3=>?_⟩
   have t3:=t2.trans s3
   refine ⟨_,rfl,_,rfl,_,rfl,_,_,1,_,rfl,rfl,t3.aH a,at1 _ _ _,_,rfl,d,_,v3,hs,q1,hk,_,rfl,hds.same t3,hT,b.same t3,by lia,by lia,h1,i3,h2,fun v4 H4 s4 i4=>?_⟩
   have t4:=t3.trans s4
   exact ⟨_,rfl,_,_,2,_,rfl,rfl,t4.aH a,at2 _ _ _ _,(by show 3≤sizeLine;decide),fun p H5 _ s5 g5=>q _ _ (t4.trans s5) (.nmd (SqT.of g5) (i4.same s5) (c.same (t4.trans s5) fun h=>h))⟩
  |@group a0 v0 q1 w0 ns u0 ss a b c e=>
   have kz:=cQ (List.mem_cons_self ..) (IsQ.group a b c e)
   obtain ⟨⟨wa,ws,rfl,hwa,hws⟩,w1,w8⟩:=id c
   have ew:=qK hws
   rw [ew] at hwa
   refine ⟨_,rfl,_,_,0,_,rfl,rfl,a,at0 _ _,?_⟩
   refine ⟨_,rfl,(by show 2≤sizeLine;decide),fun tt Ht ftt st gt=>⟨tt,wkW,rfl,.inr (SqT.of gt),rfl,rfl,_,rfl,aZ ?_⟩⟩
   refine ⟨_,rfl,rfl,_,rfl,aZ ⟨_,rfl,rfl,_,rfl,cA ?_⟩⟩
   refine ⟨_,rfl,_,rfl,_,_,2,_,rfl,rfl,st.aH a,at2 _ _ _ _,u,_,t,ns,rfl,hu.same st,⟨wa,rfl,.inr (st.aH hwa)⟩,fun H1 s1=>⟨_,rfl,?_⟩⟩
   have t1:=st.trans s1
   by_cases hb:sub (bL t) ns=true
   ·rw [hb]
    obtain ⟨hk,h1,h2⟩:=yR (m:=0) (k0:=q1) hh ht (by show (if sub (bL t) ns then V.int 0 else .non)=_;rw [hb];rfl) rfl
    have es:sink hs (.group q1 ns ss) t=.group (sink hs q1 t) ns ss:=by
     show (if sub (bL t) ns then _ else _)=_
     rw [hb]
     rfl
    rw [es] at q
    refine cA ⟨_,rfl,_,rfl,_,rfl,_,_,1,_,rfl,rfl,t1.aH a,at1 _ _ _,_,rfl,d,_,u,hs,q1,hk,t,rfl,hds.same t1,hT,b.same t1,by lia,by lia,h1,hu.same t1,h2,fun v4 H4 s4 i4=>?_⟩
    have t4:=t1.trans s4
    exact ⟨_,rfl,_,_,2,_,rfl,rfl,t4.aH a,at2 _ _ _ _,_,rfl,_,_,3,_,rfl,rfl,t4.aH a,cD (j:=3) rfl,(by show 4≤sizeLine;decide),fun p H5 _ s5 g5=>q _ _ (t4.trans s5) (.group (SqT.of g5) (i4.same s5) (c.same (t4.trans s5) fun h=>h) (e.same (t4.trans s5) fun h=>h.same (t4.trans s5)))⟩
   ·have hb':sub (bL t) ns=false:=by simpa using hb
    rw [hb']
    have es:sink hs (.group q1 ns ss) t=.whr (.group q1 ns ss) [t]:=by
     show (if sub (bL t) ns then _ else _)=_
     rw [hb']
     rfl
    rw [es] at q
    refine aZ ⟨_,rfl,rfl,_,rfl,aZ ?_⟩
    exact ⟨_,rfl,_,rfl,(by show 1≤sizeLine;decide),fun p H3 _ s3 g3=>⟨(by show 3≤sizeLine;decide),fun p2 H4 _ s4 g4=>q _ _ (t1.trans (s3.trans s4)) (wM (t1.trans (s3.trans s4)) (.group a b c e) hu (SqT.of (s4 _ _ g3)) (SqT.of g4))⟩⟩
  |@join a0 v0 q1 u0 r1 w0 ps a b c e=>
   have kz:=cQ (List.mem_cons_self ..) (IsQ.join a b c e)
   have kz2:=cQ (List.mem_cons_of_mem _ (List.mem_cons_self ..)) (IsQ.join a b c e)
   obtain ⟨ihds,hin,hone,hgood⟩:=hh.in
   cases hin with
   |cons r tl=>
    cases tl with
    |cons r2 tl2=>
     clear hone tl2
     obtain ⟨⟨wa,ws,rfl,hwa,hws⟩,w1,w3⟩:=id e
     refine ⟨_,rfl,_,_,0,_,rfl,rfl,a,at0 _ _,?_⟩
     refine ⟨_,rfl,(by show 2≤sizeLine;decide),fun tt Ht ftt st gt=>⟨tt,wkW,rfl,.inr (SqT.of gt),rfl,rfl,_,rfl,aZ ?_⟩⟩
     refine ⟨_,rfl,rfl,_,rfl,aZ ⟨_,rfl,rfl,_,rfl,aZ (aZ ⟨_,rfl,rfl,_,rfl,cA ?_⟩)⟩⟩
     dsimp only [rU,iR,jK]
     refine aEj (st.aH hwa) (aLv (hws.imp fun _ _ h=>h.same st)) (by lia) gM (fun R r=>⟨_,rfl,_,_,3,_,rfl,rfl,st.aH a,cD (j:=3) rfl,r⟩) fun D1 H1 f1 s1 g1=>?_
     have t1:=st.trans s1
     refine ⟨_,rfl,_,rfl,_,rfl,_,_,1,_,rfl,rfl,t1.aH a,at1 _ _ _,d,_,hs,q1,_,rfl,hds.same t1,b.same t1,by lia,r,fun D2 H2 f2 s2 g2=>?_⟩
     have t2:=t1.trans s2
     refine ⟨u,_,t,cH hs q1,rfl,hu.same t2,⟨D2,rfl,.inl (SqL.of g2)⟩,fun H3 s3=>⟨_,rfl,?_⟩⟩
     have t3:=t2.trans s3
     by_cases hb:sub (bL t) (cH hs q1)=true
     ·rw [hb]
      obtain ⟨hk,h1,h2⟩:=yR (m:=0) (k0:=q1) hh ht (by show jZ hs q1 r1 ps (bL t)=_;unfold jZ;rw [hb];rfl) rfl
      have es:sink hs (.join q1 r1 ps) t=.join (sink hs q1 t) r1 ps:=by
       show (if sub (bL t) (cH hs q1) then _ else _)=_
       rw [hb]
       rfl
      rw [es] at q
      refine cA ⟨_,rfl,_,rfl,_,rfl,_,_,1,_,rfl,rfl,t3.aH a,at1 _ _ _,_,rfl,d,_,u,hs,q1,hk,t,rfl,hds.same t3,hT,b.same t3,by lia,by lia,h1,hu.same t3,h2,fun v4 H4 s4 i4=>?_⟩
      have t4:=t3.trans s4
      exact ⟨_,rfl,_,_,2,_,rfl,rfl,t4.aH a,at2 _ _ _ _,_,rfl,_,_,3,_,rfl,rfl,t4.aH a,cD (j:=3) rfl,(by show 4≤sizeLine;decide),fun p H5 _ s5 g5=>q _ _ (t4.trans s5) (.join (SqT.of g5) (i4.same s5) (c.same (t4.trans s5)) (e.same (t4.trans s5) fun h=>h.same (t4.trans s5)))⟩
     have hb':sub (bL t) (cH hs q1)=false:=by simpa using hb
     rw [hb']
     refine aZ ⟨_,rfl,?_⟩
     dsimp only [rU,iR,jK,rY,fP]
     refine aCv (used:=ps.map (·.2)) (ns:=cH hs r1) (by have:=aA4 r2;lia) (U:=.ref D1) ?_ (fun R rr=>⟨_,rfl,_,rfl,_,_,2,_,rfl,rfl,t3.aH a,at2 _ _ _ _,d,_,hs,_,_,rfl,hds.same t3,c.same t3,by lia,r2,fun D4 H4 f4 s4 g4=>rr D4 H4 s4 g4⟩) (fun n l H' R s' rr=>?_) fun D5 H5 f5 s5 g5=>?_
     ·exact cY 5 (by decide +kernel) rfl rfl (by trivial)
     ·refine ⟨_,by cases l <;> rfl,_,by cases l <;> rfl,D1,_,rfl,.inl (SqL.of (s' _ _ (s3 _ _ (s2 _ _ g1)))),rfl,kE,_,rfl,?_⟩
      rw [nH]
      exact rr H' (Same.refl H')
     have t5:=t3.trans s5
     refine ⟨u,_,t,seenOf hs r1 ps,rfl,hu.same t5,⟨D5,rfl,.inl (SqL.of g5)⟩,fun H6 s6=>⟨_,rfl,?_⟩⟩
     have t6:=t5.trans s6
     by_cases hd':sub (bL t) (seenOf hs r1 ps)=true
     ·rw [hd']
      obtain ⟨hk,h1,h2⟩:=yR (m:=1) (k0:=r1) hh ht (by show jZ hs q1 r1 ps (bL t)=_;unfold jZ;rw [hb',hd'];rfl) rfl
      have es:sink hs (.join q1 r1 ps) t=.join q1 (sink hs r1 t) ps:=by
       show (if sub (bL t) (cH hs q1) then _ else if sub (bL t) (seenOf hs r1 ps) then _ else _)=_
       rw [hb',hd']
       rfl
      rw [es] at q
      refine cA ⟨_,rfl,_,rfl,_,_,1,_,rfl,rfl,t6.aH a,at1 _ _ _,_,rfl,_,rfl,_,_,2,_,rfl,rfl,t6.aH a,at2 _ _ _ _,_,rfl,d,_,u,hs,r1,hk,t,rfl,hds.same t6,hT,c.same t6,by lia,by lia,h1,hu.same t6,h2,fun v7 H7 s7 i7=>?_⟩
      have t7:=t6.trans s7
      exact ⟨_,rfl,_,_,3,_,rfl,rfl,t7.aH a,cD (j:=3) rfl,(by show 4≤sizeLine;decide),fun p H8 _ s8 g8=>q _ _ (t7.trans s8) (.join (SqT.of g8) (b.same (t7.trans s8)) (i7.same s8) (e.same (t7.trans s8) fun h=>h.same (t7.trans s8)))⟩
     ·have hd2:sub (bL t) (seenOf hs r1 ps)=false:=by simpa using hd'
      rw [hd2]
      have es:sink hs (.join q1 r1 ps) t=.whr (.join q1 r1 ps) [t]:=by
       show (if sub (bL t) (cH hs q1) then _ else if sub (bL t) (seenOf hs r1 ps) then _ else _)=_
       rw [hb',hd2]
       rfl
      rw [es] at q
      refine aZ ?_
      exact ⟨_,rfl,_,rfl,(by show 1≤sizeLine;decide),fun p H8 _ s8 g8=>⟨(by show 3≤sizeLine;decide),fun p2 H9 _ s9 g9=>q _ _ (t6.trans (s8.trans s9)) (wM (t6.trans (s8.trans s9)) (.join a b c e) hu (SqT.of (s9 _ _ g8)) (SqT.of g9))⟩⟩
theorem uV (T:Txt w K mg) (fX:Ok P w K mg base 42 "_law_sunk" ["_law_heads","_law_question_here","_law_test"] (aFl K 20)) :
  ∀n:Nat,Ok P w K mg base (n+43) "_law_early" ["_law_heads","_law_question_here"] (aMt K n)
 |0=>by
  refine Ok.ofV T.yJ gJ (fun vs H Q E h=>?_) (fun f cdv A outer s H vs Q E hr h=>?_)
  ·obtain ⟨d,v,hs,q,hd,rfl,_⟩:=h;rfl
  ·obtain ⟨d,v,hs,q,hd,rfl,_,_,hq,hz,_⟩:=h
   have e:=jQ q
   have o:=nG hq
   lia
 |n+1=>by
  have jR:=uV T fX n
  refine Ok.ofV T.yJ gJ (fun vs H Q E h=>?_) (fun f cdv A outer s H vs Q E hr h=>?_)
  ·obtain ⟨d,v,hs,q,hd,rfl,_⟩:=h;rfl
  obtain ⟨d,v,hs,q0,hd,rfl,hds,hT,hq,hz,hz2,hh,q⟩:=h
  obtain ⟨ihds,hin,hone,hgood⟩:=hh.in
  refine ⟨_,(aC (aV (i:=2) gJ.nd rfl (by trivial) (aK aO (vv 1) aD (fun _ _=>rfl))) (aC (bJ (aP bY (vv 2) aQ (aX _)) (aF (aL (vv 1))) aW) (aC (aV (i:=3) gJ.nd rfl (by trivial) (aJ (jR.mono (by lia)) hr (by rfl) (aB (vv 0) (aB (aK aO (vv 1) aD (fun _ _=>rfl)) aA)))) (aC (bJ (aP bY (vv 2) aQ (aX _)) (aF (aL (bC (aB (vv 2) (aB (vv 3) (aB (aJ (jR.mono (by lia)) hr (by rfl) (aB (vv 0) (aB (aK aO (vv 1) aD (fun _ _=>rfl)) aA))) (aB (aK aO (vv 1) aD (fun _ _=>rfl)) aA))))))) aW) (aC (bJ (aP uW (vv 2) aQ (aX _)) (aF (aL (bU pI (bC (aB (vv 2) (aB (vv 3) aA))) (dD qQ (vv 1) (dJ aD) fZ)))) aW) (aC (jA PassesOwn.never rfl (dC (aK aO (vv 1) aD (fun _ _=>rfl))) (aN (i:=4) gJ.nd rfl (by trivial)) (aF (aV (i:=3) gJ.nd rfl (by trivial) (aJ (fX.mono (by lia)) hr (by rfl) (aB (vv 0) (aB (vv 3) (aB (vv 4) aA))))))) (aF (aL (vv 3))))))))),?_⟩
  cases hq with
  |table a b=>exact ⟨_,rfl,_,_,0,_,rfl,rfl,a,at0 _ _,_,rfl,rfl,_,rfl,cA ⟨_,rfl,q _ _ (Same.refl H) (.table a b)⟩⟩
  |@join a0 v0 q1 u0 r1 w0 ps a b c e=>
   have kz:=cQ (List.mem_cons_self ..) (IsQ.join a b c e)
   have kz2:=cQ (List.mem_cons_of_mem _ (List.mem_cons_self ..)) (IsQ.join a b c e)
   cases hin with
   |cons r tl=>
    cases tl with
    |cons r2 tl2=>
     refine ⟨_,rfl,_,_,0,_,rfl,rfl,a,at0 _ _,_,rfl,rfl,_,rfl,aZ ?_⟩
     refine ⟨_,rfl,_,rfl,_,_,1,_,rfl,rfl,a,at1 _ _ _,d,_,hs,q1,_,rfl,hds,hT,b,by lia,by lia,r,fun v1 H1 s1 i1=>⟨_,rfl,rfl,_,rfl,cA ?_⟩⟩
     refine ⟨_,rfl,_,rfl,_,rfl,_,rfl,_,_,2,_,rfl,rfl,s1.aH a,at2 _ _ _ _,d,_,hs,r1,_,rfl,hds.same s1,hT,c.same s1,by lia,by lia,r2,fun v2 H2 s2 i2=>?_⟩
     have t2:=s1.trans s2
     exact ⟨_,rfl,_,_,3,_,rfl,rfl,t2.aH a,cD (j:=3) rfl,(by show 4≤sizeLine;decide),fun p H3 _ s3 g3=>q _ _ (t2.trans s3) (.join (SqT.of g3) (i1.same (s2.trans s3)) (i2.same s3) (e.same (t2.trans s3) fun h=>h.same (t2.trans s3)))⟩
  |@whr a0 v0 q1 w0 ts a b c=>
   have kz:=cQ (List.mem_cons_self ..) (IsQ.whr a b c)
   cases hin with
   |cons r1 tl=>
    cases tl
    cases hone with
    |whr hts=>
     obtain ⟨⟨p,us,rfl,hp,hus'⟩,c1,c2⟩:=c
     have sz:size (move hs q1)+ts.length≤20:=by rw [uG];exact hz2
     refine ⟨_,rfl,_,_,0,_,rfl,rfl,a,at0 _ _,_,rfl,rfl,_,rfl,aZ ?_⟩
     refine ⟨_,rfl,_,rfl,_,_,1,_,rfl,rfl,a,at1 _ _ _,d,_,hs,q1,_,rfl,hds,hT,b,by lia,by lia,r1,fun v1 H1 s1 i1=>⟨_,rfl,rfl,_,rfl,aZ ⟨_,rfl,rfl,_,rfl,aZ ?_⟩⟩⟩
     refine ⟨_,rfl,_,_,2,_,rfl,rfl,s1.aH a,at2 _ _ _ _,p,rfl,⟨_,s1.aH hp⟩,xJ (xs:=us) (fun i σ H'=>Same H1 H'∧∃y l,IsQ K H' y ((ts.take i).foldl (fun b t=>sink hs b t) (move hs q1))∧σ=[some (.ref d),some (.ref a0),some (.str "where"),some y,l]) ⟨Same.refl H1,_,_,i1,rfl⟩ (fun i σ H' _ ⟨e,_⟩=>e.aH (s1.aH hp)) ?_ ?_⟩
     ·rintro i x σ H' hx ⟨s3,y,l,hy,rfl⟩
      obtain ⟨t,ht,hxt⟩:=bN hus' hx
      have li:i<ts.length:=(List.getElem?_eq_some_iff.mp ht).1
      have hsz:=yU hs (ts.take i) (move hs q1)
      rw [List.length_take] at hsz
      refine ⟨_,rfl,_,rfl,_,rfl,d,y,x,hs,_,hd,t,rfl,hds.same (s1.trans s3),hT,hy,by lia,by lia,aGt (fun t' h'=>hts t' (List.mem_of_mem_take h')) (aHb r1),hxt.same (s1.trans s3),hts t (aCj ht),fun v' H4 s4 h4=>⟨s3.trans s4,v',_,?_,rfl⟩⟩
      rw [List.take_add_one,ht,Option.toList,List.foldl_append]
      exact h4
     ·rintro σ H' ⟨s3,y,l,hy,rfl⟩
      rw [hus'.len,List.take_length] at hy
      exact ⟨_,rfl,q _ _ (s1.trans s3) hy⟩
  |keep a b c=>
   have kz:=cQ (List.mem_cons_self ..) (IsQ.keep a b c)
   cases hin with
   |cons r tl=>
    refine ⟨_,rfl,_,_,0,_,rfl,rfl,a,at0 _ _,_,rfl,rfl,_,rfl,aZ ?_⟩
    refine ⟨_,rfl,_,rfl,_,_,1,_,rfl,rfl,a,at1 _ _ _,d,_,hs,_,_,rfl,hds,hT,b,by lia,by lia,r,fun v1 H1 s1 i1=>⟨_,rfl,rfl,_,rfl,aZ ⟨_,rfl,rfl,_,rfl,cA ?_⟩⟩⟩
    refine ⟨_,rfl,_,rfl,(by show 2≤sizeLine;decide),fun p2 H2 _ s2 g2=>⟨_,rfl,_,rfl,_,_,rfl,(s1.trans s2).aH a,fun p3 H3 s3 g3=>?_⟩⟩
    rw [show (2:Int)=((2:Nat):Int) from rfl,gK] at g3
    have t3:=s1.trans (s2.trans s3)
    exact ⟨p2,p3,_,_,rfl,rfl,SqT.of (s3 _ _ g2),g3,(by show 3≤sizeLine;decide),fun p4 H4 s4 g4=>q _ _ (t3.trans s4) (.keep g4 (i1.same (s2.trans (s3.trans s4))) (c.same (t3.trans s4) fun h=>h))⟩
  |nmd a b c=>
   have kz:=cQ (List.mem_cons_self ..) (IsQ.nmd a b c)
   cases hin with
   |cons r tl=>
    refine ⟨_,rfl,_,_,0,_,rfl,rfl,a,at0 _ _,_,rfl,rfl,_,rfl,aZ ?_⟩
    refine ⟨_,rfl,_,rfl,_,_,1,_,rfl,rfl,a,at1 _ _ _,d,_,hs,_,_,rfl,hds,hT,b,by lia,by lia,r,fun v1 H1 s1 i1=>⟨_,rfl,rfl,_,rfl,aZ ⟨_,rfl,rfl,_,rfl,cA ?_⟩⟩⟩
    refine ⟨_,rfl,_,rfl,(by show 2≤sizeLine;decide),fun p2 H2 _ s2 g2=>⟨_,rfl,_,rfl,_,_,rfl,(s1.trans s2).aH a,fun p3 H3 s3 g3=>?_⟩⟩
    rw [show (2:Int)=((2:Nat):Int) from rfl,gK] at g3
    have t3:=s1.trans (s2.trans s3)
    exact ⟨p2,p3,_,_,rfl,rfl,SqT.of (s3 _ _ g2),g3,(by show 3≤sizeLine;decide),fun p4 H4 s4 g4=>q _ _ (t3.trans s4) (.nmd g4 (i1.same (s2.trans (s3.trans s4))) (c.same (t3.trans s4) fun h=>h))⟩
  |group a b c e=>
   have kz:=cQ (List.mem_cons_self ..) (IsQ.group a b c e)
   cases hin with
   |cons r tl=>
    refine ⟨_,rfl,_,_,0,_,rfl,rfl,a,at0 _ _,_,rfl,rfl,_,rfl,aZ ?_⟩
    refine ⟨_,rfl,_,rfl,_,_,1,_,rfl,rfl,a,at1 _ _ _,d,_,hs,_,_,rfl,hds,hT,b,by lia,by lia,r,fun v1 H1 s1 i1=>⟨_,rfl,rfl,_,rfl,aZ ⟨_,rfl,rfl,_,rfl,cA ?_⟩⟩⟩
    refine ⟨_,rfl,_,rfl,(by show 2≤sizeLine;decide),fun p2 H2 _ s2 g2=>⟨_,rfl,_,rfl,_,_,rfl,(s1.trans s2).aH a,fun p3 H3 s3 g3=>?_⟩⟩
    rw [show (2:Int)=((2:Nat):Int) from rfl,gK] at g3
    have t3:=s1.trans (s2.trans s3)
    exact ⟨p2,p3,_,_,rfl,rfl,SqT.of (s3 _ _ g2),g3,(by show 4≤sizeLine;decide),fun p4 H4 s4 g4=>q _ _ (t3.trans s4) (.group g4 (i1.same (s2.trans (s3.trans s4))) (c.same (t3.trans s4) fun h=>h) (e.same (t3.trans s4) fun h=>h.same (t3.trans s4)))⟩
  |first a b c e=>
   have kz:=cQ (List.mem_cons_self ..) (IsQ.first a b c e)
   cases hin with
   |cons r tl=>
    refine ⟨_,rfl,_,_,0,_,rfl,rfl,a,at0 _ _,_,rfl,rfl,_,rfl,aZ ?_⟩
    refine ⟨_,rfl,_,rfl,_,_,1,_,rfl,rfl,a,at1 _ _ _,d,_,hs,_,_,rfl,hds,hT,b,by lia,by lia,r,fun v1 H1 s1 i1=>⟨_,rfl,rfl,_,rfl,aZ ⟨_,rfl,rfl,_,rfl,cA ?_⟩⟩⟩
    refine ⟨_,rfl,_,rfl,(by show 2≤sizeLine;decide),fun p2 H2 _ s2 g2=>⟨_,rfl,_,rfl,_,_,rfl,(s1.trans s2).aH a,fun p3 H3 s3 g3=>?_⟩⟩
    rw [show (2:Int)=((2:Nat):Int) from rfl,gK] at g3
    have t3:=s1.trans (s2.trans s3)
    exact ⟨p2,p3,_,_,rfl,rfl,SqT.of (s3 _ _ g2),g3,(by show 4≤sizeLine;decide),fun p4 H4 s4 g4=>q _ _ (t3.trans s4) (.first g4 (i1.same (s2.trans (s3.trans s4))) (c.same (t3.trans s4) fun h=>h.same (t3.trans s4)) e)⟩
theorem aF0 {S R:TS} {D:Ends} {σ:L2.St} {H:Hp} (J:L2.St→Hp→Prop) (h1:∀N:L2.St→Hp→Prop,(∀σ' H',J σ' H'→N σ' H')→S { D with nx:=N } σ H) (h2:∀σ' H',J σ' H'→R D σ' H'):iR S R D σ H:=h1 _ h2
theorem aQt {ts:List (Str × Hdr)} (h:aWo ts):NmH (gC ts):=by
 intro T hd e c hc
 unfold gC at e
 obtain ⟨t,ht,rfl⟩:=Option.map_eq_some_iff.mp e
 exact ((h.nm t (List.mem_of_find?_eq_some ht)).2.2 c hc).1
theorem aYb {f:Addr} {fd:FuncData} (F:Fun K "law" "law" aNh f fd) (T:Txt w K mg) (aE6:Ok P w K mg base 2 "_law_begin" ["_law_script"] (aIf K)) (aM:Ok P w K mg base 1 "_law_next" ["_law_state","_law_many"] iC)
  (aF7:Ok P w K mg base 2 "_law_names" ["_law_state","_law_many"] aQg) (aI2:Ok P w K mg base 2 "_law_head" ["_law_state","_law_names_here"] (aH5 K))
  (iW:Ok P w K mg base 10 "_law_question" ["_law_state","_law_heads","_law_names_here","_law_deep"] (aVq K 4)) (fY:Ok P w K mg base 2 "_law_some" ["_law_state","_law_head_here","_law_least"] (xG K)) (pM:Ok P w K mg base 3 "_law_keys" ["_law_state","_law_head_here"] (aB1 K))
  (mU:Ok P w K mg base 4 "_law_tests" ["_law_state","_law_head_here","_law_most"] (zG K)) (jR:Ok P w K mg base 63 "_law_early" ["_law_heads","_law_question_here"] (aMt K 20)) (aHi:Ok P w K mg base 72 "early" ["heads","question"] (aRs K)) :
  rJ P w K mg base CX0 73 f fd ["_law_script"] (aF1 K):=by
 refine Fun.okV F iJ (fun vs H Q E h=>?_) (fun cdv A outer s H vs Q E hr h=>?_)
 ·obtain ⟨a,ns,rfl,_⟩:=h;rfl
 obtain ⟨sc,sn,rfl,hS,h63,q⟩:=h
 have hu:=wI hr
 have hU:=hr.units
 refine ⟨_,(aC (aV (i:=1) iJ.nd rfl (by trivial) (aJ (aE6.mono (by decide)) hr (by rfl) (aB (vv 0) aA))) (aC (aV (i:=2) iJ.nd rfl (by trivial) (aJ (aF7.mono (by decide)) hr (by rfl) (aB (vv 1) (aB aD aA)))) (aC (aV (i:=3) iJ.nd rfl (by trivial) aQ2) (aC (jA PassesOwn.never rfl (fK (by rfl) T.kI (aB (bU eY aD (aJ (aM.mono (by decide)) hr (by rfl) (aB (vv 1) (aB aD aA)))) aA)) (aN (i:=4) iJ.nd rfl (by trivial)) (aF (aTe hu (vv 3) (aK cG (vv 2) (vv 4) (fun _ _=>rfl)) (aJ (aI2.mono (by decide)) hr (by rfl) (aB (vv 1) (aB (vv 2) aA)))))) (aC (pP (aJ (iW.mono (by decide)) hr (by rfl) (aB (vv 1) (aB (vv 3) (aB (vv 2) (aB aD aA))))) (lM rfl (bA (aN (i:=5) iJ.nd rfl (by trivial)) (bA (aN (i:=6) iJ.nd rfl (by trivial)) cO)))) (aC (aV (i:=7) iJ.nd rfl (by trivial) (aJ (aM.mono (by decide)) hr (by rfl) (aB (vv 1) (aB aD aA)))) (aC (bJ (aP bY (vv 7) aD (aX _)) (aC (aV (i:=8) iJ.nd rfl (by trivial) (bD bI (by rfl) T.cB bQ (aB (aJ (fY.mono (by decide)) hr (by rfl) (aB (vv 1) (aB (vv 6) (aB aD aA)))) aA))) (aC (aV (i:=5) iJ.nd rfl (by trivial) (bC (aB aQ (aB (vv 5) (aB (bD bI (by rfl) T.cB bQ (aB (bZ (N:=["_law_name","_law_kind"]) (by trivial) (dF (by decide +kernel)) rfl (dC (vv 8)) (fun cl s' H' fp=>⟨(iB (K:=K) (n:=2) rfl (bA (aN (i:=0) (show (["_law_name","_law_kind"]:List Str).Nodup from by decide +kernel) rfl (Or.inl rfl)) (bA (aN (i:=1) (show (["_law_name","_law_kind"]:List Str).Nodup from by decide +kernel) rfl (Or.inl rfl)) cO))),cI,(vv 0)⟩)) aA)) aA))))) (aF (aV (i:=6) iJ.nd rfl (by trivial) (vv 8))))) aW) (aC (bJ (aP bY (vv 7) aD (aX _)) (aF (aV (i:=5) iJ.nd rfl (by trivial) (bC (aB aQ (aB (vv 5) (aB (aJ (pM.mono (by decide)) hr (by rfl) (aB (vv 1) (aB (vv 6) aA))) (aB (aJ (aM.mono (by decide)) hr (by rfl) (aB (vv 1) (aB aD aA))) aA))))))) aW) (aC (bJ (aP aNf (vv 7) aD (aX _)) (aF (aV (i:=5) iJ.nd rfl (by trivial) (bC (aB aQ (aB (vv 5) (aB (aJ (mU.mono (by decide)) hr (by rfl) (aB (vv 1) (aB (vv 6) (aB aD aA)))) aA)))))) aW) (aC (aV (i:=9) iJ.nd rfl (by trivial) (bD aKy (by rfl) T.aG7 aA6 (aB (vv 3) aA))) (aC (aV (i:=10) iJ.nd rfl (by trivial) (aJ (jR.mono (by decide)) hr (by rfl) (aB (vv 3) (aB (vv 5) aA)))) (aC (aV (i:=11) iJ.nd rfl (by trivial) (aJ (aHi.mono (by decide)) hr (by rfl) (aB (vv 9) (aB (vv 5) aA)))) (aC (bJ (VW.pt (qN (jE (eG (aY lJ (by rfl) T.cV cM (aB (vv 11) (aB (jX (v:=.ty "tuple") (by rfl) T.cB bQ rfl) aA))))) (qN (aP (aX6 hU) (vv 11) (vv 10) (aX _)) (oJ (aP (aWi (Nat.lt_of_succ_lt hu)) (vv 9) (vv 3) (aX _)))))) (aF (aL tQ)) aW) (aF (aL (pR (fH (aSs hU) (aJ (aHi.mono (by decide)) hr (by rfl) (aB (vv 9) (aB (vv 5) aA))) (vv 10) (aX _)) (rA (fH (aSs hU) (aJ (aHi.mono (by decide)) hr (by rfl) (aB (vv 3) (aB (vv 10) aA))) (aJ (jR.mono (by decide)) hr (by rfl) (aB (vv 3) (aB (vv 10) aA))) (aX _))))))))))))))))))),?_⟩
 refine ⟨_,rfl,sc,sn,rfl,hS,h63,fun a H2 fa s2 hst=>?_⟩
 refine ⟨_,rfl,a,rfl,hst,fun N H3 ns f3 fN g3 hn=>?_⟩
 have nNa:N≠a:=hst.ne fN
 have hst3:=f3.st
 refine fun d H4 fd4 s4 g4=>?_
 have nda:d≠a:=hst3.ne fd4
 refine ⟨_,rfl,a,2,rfl,hst3.same s4,by decide,fun z H5 f5 z0 z1=>?_⟩
 have fx5:Fx a H3 H5:=(Fx.of hst3 s4).trans f5
 refine ⟨_,_,rfl,rfl,_,rfl,(by show -(2 ^ 62)≤2+z;lia),(by show 2+z<2 ^ 62;lia),?_⟩
 refine jF (n:=(2+z).toNat) (fun i σ H'=>Fx a H3 H'∧∃(kvs:List (Key × V)) (ts:List (Str × Hdr)) (l4:Option V),H' d=some (.dK kvs)∧bO (fun (kv:Key × V) (t:Str × Hdr)=>kv.1=Sum.inr t.1∧dB K H' kv.2 t.2) kvs ts∧ts.map (·.1)=ns.take i∧(∀t∈ts,rN t.2)∧σ=[some (.ref sc),some (.ref a),some (.ref N),some (.ref d),l4,none,none,none,none,none,none,none]) ⟨fx5,[],[],_,f5.same _ _ nda g4,.nil,rfl,(fun t h=>by cases h),rfl⟩ ?_ ?_
 ·rintro i σ H' hi ⟨fx,kvs,ts,l4,hdk,hkv,hnm,hok,rfl⟩
  have l17:=hn.1
  have hi3:i<3:=by lia
  have hin:i<ns.length:=by lia
  have lkv:=hkv.len
  have lts:ts.length=i:=by
   have:=congrArg List.length hnm
   rw [List.length_map,List.length_take] at this
   lia
  refine ⟨_,rfl,_,rfl,a,N,ns,rfl,fx.st,fx.same _ _ nNa g3,nNa,hn,fun v H6 hd f6 hh hok6 _=>?_⟩
  have hdk6:=f6.same _ _ nda hdk
  refine ⟨_,rfl,_,rfl,_,rfl,N,_,_,_,rfl,rfl,SqL.of ((fx.trans f6).same _ _ nNa g3),(by rw [Int.zero_add];exact cD (by rw [List.getElem?_map,List.getElem?_eq_getElem hin];rfl)),d,_,rfl,aSk.k (k:=(Sum.inr ns[i]:Key)) hdk6 (fQ (by lia)),?_⟩
  have hnew:mC kvs (Sum.inr ns[i]:Key)=none:=by
   cases e:mC kvs (Sum.inr ns[i]:Key) with
   |none=>rfl
   |some v=>
    exfalso
    have hm:=aNy e
    rw [zR hkv,hnm] at hm
    obtain ⟨n',hn',e'⟩:=List.mem_map.mp hm
    have e':n'=ns[i]:=Sum.inr.inj e'
    obtain ⟨j,hj,ej⟩:=List.getElem_of_mem hn'
    rw [List.length_take] at hj
    rw [List.getElem_take] at ej
    have:=aKn hn.2.2 (List.getElem?_eq_getElem hin) (show ns[j]?=some ns[i] by rw [List.getElem?_eq_getElem (by lia),ej,e'])
    lia
  rw [aHy v hnew]
  have tku:TK K H6 (upd H6 d (.dK (kvs++[((Sum.inr ns[i]:Key),v)]))):=fun _ _ e=>e.aZ5 hdk6
  refine ⟨(fx.trans f6).upd fd4 nda,_,ts++[(ns[i],hd)],_,aU,(hkv.imp fun _ _ h=>⟨h.1,(h.2.tk (f6.tk fx.st)).tk tku⟩).app (.cons ⟨rfl,hh.tk tku⟩ .nil),?_,fun t ht=>?_,rfl⟩
  ·rw [List.map_append,hnm,List.take_add_one,List.getElem?_eq_getElem hin]
   rfl
  ·rcases List.mem_append.mp ht with ht|ht
   ·exact hok t ht
   ·rw [List.mem_singleton.mp ht]
    exact hok6
 rintro σ H6 ⟨fx6,kvs,ts,l4,hdk,hkv,hnm,hok,rfl⟩
 have l17:=hn.1
 have lts:ts.length=(2+z).toNat:=by
  have:=congrArg List.length hnm
  rw [List.length_map,List.length_take] at this
  lia
 have hts:aWo ts:=⟨by rw [hnm];exact hn.2.2.sublist (List.take_sublist _ _),fun t ht=>⟨hn.2.1 _ (List.mem_of_mem_take (i:=(2+z).toNat) (by rw [←hnm];exact List.mem_map.mpr ⟨t,ht,rfl⟩)),hok t ht⟩,by lia,by lia⟩
 have hD6:aF4 K H6 d ts:=⟨kvs,hdk,hkv⟩
 have gN6:=fx6.same _ _ nNa g3
 refine ⟨_,rfl,_,rfl,_,rfl,a,d,N,3,ts,ns,rfl,by lia,by lia,fx6.st,nNa,hD6,hts,gN6,hn,fun r H7 v1 v2 q1 h1 f7 g7 hq1 hh1 hHQ1 hok1 hz1=>?_⟩
 have hz1:size q1≤17:=hz1
 refine ⟨r,_,rfl,SqT.of g7,rfl,_,_,rfl,_,_,rfl,rfl,?_⟩
 refine ⟨_,rfl,a,4,rfl,f7.st,by decide,fun way H8 f8 w0 w1=>?_⟩
 have f68:=f7.trans f8
 have tk78:TK K H7 H8:=f8.tk f7.st
 dsimp only [bK]
 refine aF0 (S:=aLw _ _ _) (fun σ H'=>Fx a H6 H'∧∃(vq vh:V) (qq:Qn) (hd:Hdr) (l8:Option V),σ=[some (.ref sc),some (.ref a),some (.ref N),some (.ref d),l4,some vq,some vh,some (.int way),l8,none,none,none]∧IsQ K H' vq qq∧dB K H' vh hd∧HQ (gC ts) qq hd∧rN hd∧size qq≤18∧(way=2→size qq≤17)) (fun NX hN=>?_) fun σ' H' hJ=>?_
 ·refine ⟨_,rfl,rfl,_,rfl,jJ (fun cw=>?_) (fun _=>hN _ _ ⟨f68,v1,v2,q1,h1,_,rfl,hq1.tk tk78,hh1.tk tk78,hHQ1,hok1,by lia,fun _=>hz1⟩)⟩
  have ew:way=1:=V.int.inj (of_decide_eq_true cw)
  refine ⟨_,rfl,_,rfl,a,v2,h1,1,rfl,f68.st,hh1.tk tk78,hok1.1,by decide,fun D H9 us hd' f9 fD g9 hus hsub hle=>?_⟩
  refine ⟨D,_,rfl,SqL.of g9,fun t10 H10 _ s10 g10=>?_⟩
  have lus:=hus.len
  have hl8:=hsub.2.2
  have hc1:=hok1.2
  have l8':=hok1.1.2.2
  refine ⟨_,rfl,?_⟩
  dsimp only [tCB,fP]
  refine qP (SqT.of g10) (hus.imp fun _ _ h=>h.same s10) (by lia) gM (fun R r=>⟨_,rfl,r⟩) fun D11 H11 _ s11 g11=>⟨D11,_,rfl,SqL.of g11,fun t12 H12 _ s12 g12=>⟨(by show 3≤sizeLine;decide),fun q13 H13 _ s13 g13=>⟨_,rfl,hN _ _ ?_⟩⟩⟩
  have s913:=s10.trans (s11.trans (s12.trans s13))
  have tk713:TK K H7 H13:=fun _ _ e=>s913.aH (f9.aH f68.st (tk78 _ _ e))
  have hgd:Good hd':=⟨hsub.2.1,hle,by lia⟩
  have hcd:∀c∈hd',Nm c.1∧zM c.2:=fun c h=>hc1 c (hsub.1 c h)
  refine ⟨(f68.trans f9).sm s913,.ref q13,.ref t10,.keep q1 (hd'.map (·.1)),hd',_,rfl,.keep (SqT.of g13) (hq1.tk tk713) (jC (SqT.of (s13 _ _ g12)) (fun n hn'=>?_) (by rw [List.length_map];exact hle) (by rw [List.length_map];lia)),⟨t10,us,rfl,SqT.of ((s11.trans (s12.trans s13)) _ _ g10),hus.imp fun _ _ h=>h.same s913⟩,?_,⟨hgd,hcd⟩,by show size q1+1≤18;lia,fun e=>by lia⟩
  ·obtain ⟨c,hcm,rfl⟩:=List.mem_map.mp hn'
   exact (hcd c hcm).1
  ·have h:=HH.keep (hs:=gC ts) (q:=q1) (uC hok1.1.1 hsub.1)
   rw [zip_fst_snd] at h
   exact .mk1 rfl hHQ1 h hgd
 obtain ⟨fx,vq,vh,qq,hd,l8,rfl,hq,hh,hHQ,hok',hz,hzw⟩:=hJ
 clear hq1 hh1 hHQ1 hok1 hz1 tk78
 refine aF0 (S:=aLw _ _ _) (fun σ H'=>Fx a H6 H'∧∃(vq vh:V) (qq:Qn) (hd:Hdr) (l8:Option V),σ=[some (.ref sc),some (.ref a),some (.ref N),some (.ref d),l4,some vq,some vh,some (.int way),l8,none,none,none]∧IsQ K H' vq qq∧dB K H' vh hd∧HQ (gC ts) qq hd∧rN hd∧size qq≤18) (fun NX hN=>?_) fun σ' H'' hJ=>?_
 ·refine ⟨_,rfl,rfl,_,rfl,jJ (fun cw=>?_) (fun _=>hN _ _ ⟨fx,vq,vh,qq,hd,_,rfl,hq,hh,hHQ,hok',hz⟩)⟩
  have ew:way=2:=V.int.inj (of_decide_eq_true cw)
  have hz17:=hzw ew
  refine ⟨_,rfl,_,rfl,_,rfl,a,vh,hd,rfl,fx.st,hh,hok',fun vk H9 ps ks f9 hps hlk hndp=>⟨_,rfl,a,61,rfl,f9.st,by decide,fun mm H10 f10 m0 m1=>⟨(by show 4≤sizeLine;decide),fun t11 H11 _ s11 g11=>hN _ _ ?_⟩⟩⟩
  obtain ⟨mn,rfl⟩:∃mn:Nat,mm=mn:=⟨mm.toNat,by lia⟩
  have f911:=(f9.trans f10).sm s11
  have tk11:TK K H' H11:=f911.tk fx.st
  have tk911:TK K H9 H11:=(f10.sm s11).tk f9.st
  exact ⟨fx.trans f911,.ref t11,vh,.first qq ps mn,hd,_,rfl,.first (SqT.of g11) (hq.tk tk11) (hps.tk tk911 fun h=>h.tk tk911) (by lia),hh.tk tk11,.mk1 rfl hHQ (.first hlk hndp) hok'.1,hok',by show size qq+1≤18;lia⟩
 obtain ⟨fx,vq,vh,qq,hd,l8,rfl,hq,hh,hHQ,hok',hz⟩:=hJ
 refine aF0 (S:=aLw _ _ _) (fun σ H'=>Fx a H6 H'∧∃(vq vh:V) (qq:Qn) (hd:Hdr) (l8:Option V),σ=[some (.ref sc),some (.ref a),some (.ref N),some (.ref d),l4,some vq,some vh,some (.int way),l8,none,none,none]∧IsQ K H' vq qq∧HQ (gC ts) qq hd∧size qq≤20) (fun NX hN=>?_) fun σ' H9 hJ=>?_
 ·refine ⟨_,rfl,_,_,rfl,rfl,_,rfl,jJ (fun _=>?_) (fun _=>hN _ _ ⟨fx,vq,vh,qq,hd,_,rfl,hq,hHQ,by lia⟩)⟩
  refine ⟨_,rfl,_,rfl,_,rfl,a,vh,hd,2,rfl,fx.st,hh,hok',by decide,fun vt H9 ts' f9 hts' htok=>⟨(by show 3≤sizeLine;decide),fun t10 H10 _ s10 g10=>hN _ _ ?_⟩⟩
  have tk10:TK K H'' H10:=(f9.sm s10).tk fx.st
  have tk910:TK K H9 H10:=fun _ _ e=>s10.aH e
  refine ⟨fx.trans (f9.sm s10),.ref t10,vh,.whr qq ts',hd,_,rfl,.whr (SqT.of g10) (hq.tk tk10) ?_,.mk1 rfl hHQ (.whr htok) hok'.1,?_⟩
  ·obtain ⟨x1,x2,x3⟩:=hts'.tk tk910 (fun h=>h.tk tk910)
   exact ⟨x1,x2,by lia⟩
  ·show size qq+ts'.length≤20
   have:=hts'.2.2
   lia
 obtain ⟨fx,vq,vh,qq,hd,l8,rfl,hq,hHQ,hz⟩:=hJ
 have hNm:=aQt hts
 obtain ⟨kvs9,hdk9,hkv9⟩:=hD6.fx fx6.st fx
 refine ⟨_,rfl,d,kvs9,rfl,hdk9,fun e H10 fe s10 g10=>?_⟩
 have hd9:fG K H9 d (gC ts):=aF4.heads ⟨kvs9,hdk9,hkv9⟩
 have he10:fG K H10 e (gC ts):=aF4.heads ⟨kvs9,g10,hkv9.imp fun _ _ h=>⟨h.1,h.2.same s10⟩⟩
 have zm:size (move (gC ts) qq)≤20:=by rw [uG];exact hz
 have hqm:=aHb hHQ
 refine ⟨_,rfl,_,rfl,d,vq,gC ts,qq,hd,rfl,hd9.same s10,hNm,hq.same s10,hz,hz,hHQ,fun vd H11 s11 i11=>?_⟩
 have t11:=s10.trans s11
 refine ⟨_,rfl,_,rfl,e,vq,gC ts,qq,hd,rfl,he10.same s11,hNm,hq.same t11,hz,hHQ,fun vf H12 s12 i12=>?_⟩
 have t12:=t11.trans s12
 obtain ⟨af,ad,xs,ys,rfl,rfl,haf,had,hal⟩:=aKx i12 (i11.same s12) (by lia)
 refine ⟨_,rfl,_,_,rfl,.tup haf,_,rfl,aZ ?_⟩
 refine ⟨_,rfl,_,rfl,af,ad,xs,ys,rfl,rfl,haf,had,hal,_,rfl,aZ ?_⟩
 refine ⟨_,rfl,_,rfl,e,d,kvs9,rfl,rfl,(s11.trans s12) _ _ g10,t12 _ _ hdk9,fun kv hkvm=>?_,_,rfl,aZ ?_⟩
 ·obtain ⟨t,_,_,hv,vs,ev,_⟩:=hkv9.mem hkvm
  exact ⟨hv,ev⟩
 refine ⟨_,rfl,_,rfl,e,vq,gC ts,qq,hd,rfl,he10.same (s11.trans s12),hNm,hq.same t12,hz,hHQ,fun vg H13 s13 i13=>?_⟩
 obtain ⟨ag,ad',xs2,ys2,rfl,e2,hag,had2,hal2⟩:=aKx i13 (i11.same (s12.trans s13)) (by lia)
 cases e2
 refine ⟨_,rfl,ag,ad,xs2,ys2,rfl,rfl,hag,had2,hal2,_,rfl,cA ?_⟩
 have t13:=t12.trans s13
 have i11':=i11.same (s12.trans s13)
 refine ⟨_,rfl,_,rfl,d,_,gC ts,move (gC ts) qq,hd,rfl,hd9.same t13,hNm,i11',zm,hqm,fun vh1 H14 s14 i14=>?_⟩
 refine ⟨_,rfl,_,rfl,d,_,gC ts,move (gC ts) qq,hd,rfl,hd9.same (t13.trans s14),hNm,i11'.same s14,zm,zm,hqm,fun vh2 H15 s15 i15=>?_⟩
 obtain ⟨a5,a6,xs3,ys3,rfl,rfl,h5,h6,hal3⟩:=aKx (i14.same s15) i15 (by rw [uG];lia)
 exact ⟨a5,a6,xs3,ys3,rfl,rfl,h5,h6,hal3,q H15⟩
theorem aKh (T:Txt w K mg):Ok P w K mg base 27 "head_of" ["heads","question"] (aJb K):=by
 have g1:=aJ5 (P:=P) (base:=base) T
 have g2:=aLt (P:=P) (base:=base) T
 have g3:=aLb T g2
 have g4:=aIi T g1 g2
 have g5:=aKq T g1
 have g6:=aFq (P:=P) (base:=base) T
 have g7:=aQl g3
 have fm:Forms P w K mg base:=⟨g7,vN T,aE4 T (aL3 T g6 g3 (aJr T g6 g4 g3)) (eE T),aF8 T g7 (eE T),vB T g7 (eE T),aF3 T (aLl T g7 (eE T)) (eE T),aH0 T (aP2 T g6 g3) (eE T),aJt T (aOf T g6 g3) (eE T),aK0 T g1⟩
 have g8:=sE (P:=P) (base:=base) T
 have g9:=aLr (P:=P) (base:=base) T
 have g10:=wC (P:=P) (base:=base) T
 have g11:=aB6 T (aDk (P:=P) (base:=base) T)
 have g12:=aG4 T g9
 have g13:=aFj T (aC2 T) (aDf T g10 g9 (aDy T g5 g9)) g12 (aC4 T) (aFt T g10 g9 g11) (aD0 T g12 (aIr T g9)) (aCz T g12 g11)
 exact aK2 T (tK T g8 g13 g11 (wG T) 20) (aLa T (aJm T fm g6) g8 (aH3 T))
theorem aOo (T:Txt w K mg):Ok P w K mg base 72 "early" ["heads","question"] (aRs K):=by
 have g1:=aKh (P:=P) (base:=base) T
 have g2:=sE (P:=P) (base:=base) T
 have g3:=wG (P:=P) (base:=base) T
 have g4:=aE9 (P:=P) (base:=base) T
 have g5:=xK (P:=P) (base:=base) T
 exact aRe T g1 (aJe T g2 g5 (aMy T (aHr T (aAp T g4 g3 g1) g4) (aC0 T) g2 (wW T g3 g1 (aMh T)) g5 20) 20)
theorem aWq {fa:Addr} (T:Txt w K mg) (hmg:mg "law"=some (.ref fa)) :
  ∃fd:FuncData,(∀(s:Shared) (u:Value),BindsTo s fd ⟨[u],[]⟩ [("_law_script",u)])∧∀base:Heap,K.In base→base.Ns mainGlobals mg→rJ P w K mg base CX0 73 fa fd ["_law_script"] (aF1 K):=by
 obtain ⟨f,fd,F,B,m⟩:=T.aZr
 have e:fa=f:=by
  rw [m] at hmg
  injection hmg with e
  injection e with e
  exact e.symm
 subst e
 refine ⟨fd,?_,fun base _ _=>?_⟩
 ·obtain ⟨⟨oc,od,kV,doc,pm,an,cdv,ct,osl,rfl,lk,hcd⟩,kp⟩:=F
  exact fun s u=>.of_eq rfl
 ·have n1:=aFi (P:=P) (base:=base) T
  have n2:=aDm T n1 (aDs T n1)
  have n3:=aGj T n1
  have n4:=aFs T n1 n3
  have n5:=aDq T n1 n2
  exact aYb F T (aDn T (aFv T)) n1 (aDv T n1 (aDr T)) (aHa T n1) (qG T n1 n3 n4 n5 (aDt T n3 (aGl T n1)) (aFk T n1 (aDc T) (aDo T n1)) 4) n3 n4 n5 (uV T (wV T (aAv T) (aBs T (aAw T)) (qF T 20) 20) 20) (aOo T)
end
inductive FA (K:PySem.W.Frag) (n:Str) (s:Stmt) (f:Addr):Prop
 |mk {od an:Option Addr} {sl:Array (Option Value)} {kV dc pm cd ct:Value}:PySem.W.nsIn K mainGlobals n=some (some (.ref f))→K.lookup f=some ⟨.type "function",od,.func (PySem.W.fnOf n n (uO s) (lV s) (aG s) .none kV dc pm an cd ct),sl⟩→PySem.W.codeIn K cd n=true→PySem.W.keepIn K (.ref f)=true→FA K n s f
section
variable {K:PySem.W.Frag} {h:Heap} {mg:Str→Option Value} {n:Str} {s:Stmt} {f:Addr} {ps:List Str}
theorem lD (X:K.In h) (G:h.Ns mainGlobals mg) (a:FA K n s f):mg n=some (.ref f):=by
 obtain ⟨a,_,_,_⟩:=a
 exact PySem.W.mg_of X G a
theorem bG (X:K.In h) (G:h.Ns mainGlobals mg) (a:FA K n s f) (b:∀(kV doc pm:Value) (an:Option Addr) (cdv ct:Value) (us:List Value),us.length=ps.length→bindArgs (PySem.W.fnOf n n (uO s) (lV s) (aG s) .none kV doc pm an cdv ct) ⟨us,[]⟩=pure (ps.zip us)):Dn K mg n s ps:=by
 have m:=lD X G a
 obtain ⟨_,l,c,k⟩:=a
 exact ⟨f,_,aQh l c k,(aQh l c k).binds b,m⟩
theorem aJ3 (X:K.In h) (G:h.Ns mainGlobals mg) (a:FA K n s f):∃f o,(∃u,mg n=some u∧RelV (.ref f) u)∧K.lookup f=some o∧o.cls=.type "function":=by
 have m:=lD X G a
 obtain ⟨_,l,c,k⟩:=a
 exact ⟨f,_,⟨_,m,rfl⟩,l,rfl⟩
end
theorem ln0 {P:List Value→Prop} (h:P []):∀us:List Value,us.length=0→P us
 |[],_=>h
theorem ln1 {P:List Value→Prop} (h:∀a0,P [a0]):∀us:List Value,us.length=1→P us
 |[a0],_=>h a0
theorem ln2 {P:List Value→Prop} (h:∀a0 a1,P [a0,a1]):∀us:List Value,us.length=2→P us
 |[a0,a1],_=>h a0 a1
theorem ln3 {P:List Value→Prop} (h:∀a0 a1 a2,P [a0,a1,a2]):∀us:List Value,us.length=3→P us
 |[a0,a1,a2],_=>h a0 a1 a2
theorem ln4 {P:List Value→Prop} (h:∀a0 a1 a2 a3,P [a0,a1,a2,a3]):∀us:List Value,us.length=4→P us
 |[a0,a1,a2,a3],_=>h a0 a1 a2 a3
theorem ln6 {P:List Value→Prop} (h:∀a0 a1 a2 a3 a4 a5,P [a0,a1,a2,a3,a4,a5]):∀us:List Value,us.length=6→P us
 |[a0,a1,a2,a3,a4,a5],_=>h a0 a1 a2 a3 a4 a5
local macro_rules
 |`(tactic| trivial)=>`(tactic| first|exact (fun _ _ _ _ _ _=>ln1 fun _=>rfl)|exact (fun _ _ _ _ _ _=>ln2 fun _ _=>rfl)|exact (fun _ _ _ _ _ _=>ln3 fun _ _ _=>rfl)|exact (fun _ _ _ _ _ _=>ln4 fun _ _ _ _=>rfl)|exact (fun _ _ _ _ _ _=>ln0 rfl)|exact (fun _ _ _ _ _ _=>ln6 fun _ _ _ _ _ _=>rfl))
theorem aXu {K:PySem.W.Frag} {h:Heap} {mg:Str→Option Value} (X:K.In h) (G:h.Ns mainGlobals mg) {w:World} {f0 f1 f2 f3 f4 f5 f6 f7 f8 f9 f10 f11 f12 f13 f14 f15 f16 f17 f18 f19 f20 f21 f22 f23 f24 f25 f26 f27 f28 f29 f30 f31 f32 f33 f34 f35 f36 f37 f38 f39 f40 f41 f42 f43 f44 f45 f46 f47 f48 f49 f50 f51 f52 f53 f54 f55 f56 f57 f58 f59 f60 f61 f62 f63 f64 f65 f66 f67 f68 f69 f70 f71 f72 f73 f74:Addr} {oY:Addr} {gP:Obj} {oZ:Array Value} {wH:Nat} {aLm:Tok} {aAq:Tok} {aAn:Tok} {aKe:Addr} {yC:Obj} {aI8:Array Value} {aSu:Nat} {xV:Addr} {nC:Obj} {wQ:Array Value} {aFb:Nat} {aMw:Addr} {aAy:Obj} {aNj:Array Value} {aT9:Nat} {aC6:Tok} {aC5:Tok} {aD1:Tok} {aFx:Tok} {aGi:Tok} {aGm:Tok} {aE2:Tok} {yE:Addr} {yD:Obj} {aJn:Array DictEntry} {aSv:Nat} {tt14_0:Addr} {to14_0:Obj} {ti14_0:Array Value} {tn14_0:Nat} {tt14_1:Addr} {to14_1:Obj} {ti14_1:Array Value} {tn14_1:Nat} {tt14_2:Addr} {to14_2:Obj} {ti14_2:Array Value} {tn14_2:Nat} {tt14_3:Addr} {to14_3:Obj} {ti14_3:Array Value} {tn14_3:Nat} {tt14_4:Addr} {to14_4:Obj} {ti14_4:Array Value} {tn14_4:Nat} {tt14_5:Addr} {to14_5:Obj} {ti14_5:Array Value} {tn14_5:Nat} {tt14_6:Addr} {to14_6:Obj} {ti14_6:Array Value} {tn14_6:Nat}
  (a0:FA K "is_whole" vD f0)
  (a1:FA K "is_word" zF f1)
  (a2:FA K "is_one_of" tU f2)
  (a3:FA K "is_tuple_of" lZ f3)
  (a4:FA K "are_unlike" qW f4)
  (a5:FA K "names_of" vU f5)
  (a6:FA K "is_name" zQ f6)
  (a7:FA K "is_value" vC f7)
  (a8:FA K "kind_of" zT f8)
  (a9:FA K "is_other" vH f9)
  (a10:FA K "is_test" zW f10)
  (a11:FA K "is_pair" zE f11)
  (a12:FA K "is_sum" aCg f12)
  (a13:FA K "is_key" aB7 f13)
  (a14:FA K "is_many" zP f14)
  (a15:FA K "are_tests" tG f15)
  (a16:FA K "are_names" tL f16)
  (a17:FA K "are_group_names" jL f17)
  (a18:FA K "are_pairs" tV f18)
  (a19:FA K "are_sums" vX f19)
  (a20:FA K "are_keys" vI f20)
  (a21:FA K "may_be_question" jW f21)
  (a22:FA K "has_form" uZ f22)
  (a23:FA K "questions_in" nU f23)
  (a24:FA K "with_questions" lK f24)
  (a25:FA K "own_size" vK f25)
  (a26:FA K "checked" zH f26)
  (a27:FA K "kind_in" yL f27)
  (a28:FA K "need_like_kinds" jU f28)
  (a29:FA K "need_unlike" pU f29)
  (a30:FA K "table_head" qT f30)
  (a31:FA K "other_kind" qR f31)
  (a32:FA K "where_head" lA f32)
  (a33:FA K "keep_head" pK f33)
  (a34:FA K "named_head" rH f34)
  (a35:FA K "join_head" jG f35)
  (a36:FA K "sum_kind" vR f36)
  (a37:FA K "group_head" mV f37)
  (a38:FA K "first_head" qY f38)
  (a39:FA K "head_here" sH f39)
  (a40:FA K "head_within" lY f40)
  (a41:FA K "head_of" yV f41)
  (a42:FA K "columns_of" rO f42)
  (a43:FA K "renamed" zY f43)
  (a44:FA K "are_among" pC f44)
  (a45:FA K "side_of_join" jM f45)
  (a46:FA K "side_for" vJ f46)
  (a47:FA K "by_inner_names" lF f47)
  (a48:FA K "sunk" aK4 f48)
  (a49:FA K "moved" aBb f49)
  (a50:FA K "early" aGx f50)
  (a51:FA K "_law_seed" tW f51)
  (a52:FA K "_law_begin" rC f52)
  (a53:FA K "_law_next" tE f53)
  (a54:FA K "_law_words" rF f54)
  (a55:FA K "_law_names" mW f55)
  (a56:FA K "_law_great" rM f56)
  (a57:FA K "_law_value" rE f57)
  (a58:FA K "_law_head" tO f58)
  (a59:FA K "_law_tests" nA f59)
  (a60:FA K "_law_some" pD f60)
  (a61:FA K "_law_sums" sG f61)
  (a62:FA K "_law_group" mX f62)
  (a63:FA K "_law_keys" pB f63)
  (a64:FA K "_law_fresh" jT f64)
  (a65:FA K "_law_pairs" mZ f65)
  (a66:FA K "_law_join" mH f66)
  (a67:FA K "_law_question" gB f67)
  (a68:FA K "_law_columns" oA f68)
  (a69:FA K "_law_within" lQ f69)
  (a70:FA K "_law_renamed" oE f70)
  (a71:FA K "_law_names_of" iY f71)
  (a72:FA K "_law_sunk" pF f72)
  (a73:FA K "_law_early" rB f73)
  (a74:FA K "law" aNh f74)
  (q0:PySem.W.nsIn K mainGlobals "QUESTION_WORDS"=some (some (.ref oY))) (r0:K.lookup oY=some gP) (t0:gP.cls=.type "tuple") (y0:gP.dict=none) (u0:gP.data=.seq oZ wH) (v0:Vals [.str "and",.str "by",.str "count",.str "down",.str "first",.str "group",.str "join",.str "keep",.str "least",.str "most",.str "named",.str "on",.str "sum",.str "table",.str "up",.str "where",.str "with"] oZ.toList)
  (q1:PySem.W.nsIn K mainGlobals "LETTERS"=some (some (.str "abcdefghijklmnopqrstuvwxyz" aLm)))
  (q2:PySem.W.nsIn K mainGlobals "MOST_LETTERS"=some (some (.int 8 aAq)))
  (q3:PySem.W.nsIn K mainGlobals "MOST_COLUMNS"=some (some (.int 8 aAn)))
  (q4:PySem.W.nsIn K mainGlobals "SIGNS"=some (some (.ref aKe))) (r4:K.lookup aKe=some yC) (t4:yC.cls=.type "tuple") (y4:yC.dict=none) (u4:yC.data=.seq aI8 aSu) (v4:Vals [.str "=",.str "<",.str ">",.str "!"] aI8.toList)
  (q5:PySem.W.nsIn K mainGlobals "SUM_WORDS"=some (some (.ref xV))) (r5:K.lookup xV=some nC) (t5:nC.cls=.type "tuple") (y5:nC.dict=none) (u5:nC.data=.seq wQ aFb) (v5:Vals [.str "count",.str "sum",.str "least",.str "most"] wQ.toList)
  (q6:PySem.W.nsIn K mainGlobals "WAYS"=some (some (.ref aMw))) (r6:K.lookup aMw=some aAy) (t6:aAy.cls=.type "tuple") (y6:aAy.dict=none) (u6:aAy.data=.seq aNj aT9) (v6:Vals [.str "up",.str "down"] aNj.toList)
  (q7:PySem.W.nsIn K mainGlobals "MOST_TESTS"=some (some (.int 3 aC6)))
  (q8:PySem.W.nsIn K mainGlobals "MOST_NAMES"=some (some (.int 8 aC5)))
  (q9:PySem.W.nsIn K mainGlobals "MOST_PAIRS"=some (some (.int 3 aD1)))
  (q10:PySem.W.nsIn K mainGlobals "MOST_SUMS"=some (some (.int 4 aFx)))
  (q11:PySem.W.nsIn K mainGlobals "MOST_KEYS"=some (some (.int 3 aGi)))
  (q12:PySem.W.nsIn K mainGlobals "MOST_ROWS"=some (some (.int 60 aGm)))
  (q13:PySem.W.nsIn K mainGlobals "MOST_SIZE"=some (some (.int 20 aE2)))
  (q14:PySem.W.nsIn K mainGlobals "FORMS"=some (some (.ref yE))) (r14:K.lookup yE=some yD) (x14:yD.ExactDict) (o14:(yE == sysModules)=false) (u14:yD.data=.dict aJn aSv) (h14:∀P:Program,PH P w aJn.toList [("table",Value.ref tt14_0),("where",Value.ref tt14_1),("keep",Value.ref tt14_2),("named",Value.ref tt14_3),("join",Value.ref tt14_4),("group",Value.ref tt14_5),("first",Value.ref tt14_6)])
  (r14_0:K.lookup tt14_0=some to14_0) (t14_0:to14_0.cls=.type "tuple") (y14_0:to14_0.dict=none) (u14_0:to14_0.data=.seq ti14_0 tn14_0) (v14_0:Vals [.ref f6] ti14_0.toList)
  (r14_1:K.lookup tt14_1=some to14_1) (t14_1:to14_1.cls=.type "tuple") (y14_1:to14_1.dict=none) (u14_1:to14_1.data=.seq ti14_1 tn14_1) (v14_1:Vals [.ref f21,.ref f15] ti14_1.toList)
  (r14_2:K.lookup tt14_2=some to14_2) (t14_2:to14_2.cls=.type "tuple") (y14_2:to14_2.dict=none) (u14_2:to14_2.data=.seq ti14_2 tn14_2) (v14_2:Vals [.ref f21,.ref f16] ti14_2.toList)
  (r14_3:K.lookup tt14_3=some to14_3) (t14_3:to14_3.cls=.type "tuple") (y14_3:to14_3.dict=none) (u14_3:to14_3.data=.seq ti14_3 tn14_3) (v14_3:Vals [.ref f21,.ref f16] ti14_3.toList)
  (r14_4:K.lookup tt14_4=some to14_4) (t14_4:to14_4.cls=.type "tuple") (y14_4:to14_4.dict=none) (u14_4:to14_4.data=.seq ti14_4 tn14_4) (v14_4:Vals [.ref f21,.ref f21,.ref f18] ti14_4.toList)
  (r14_5:K.lookup tt14_5=some to14_5) (t14_5:to14_5.cls=.type "tuple") (y14_5:to14_5.dict=none) (u14_5:to14_5.data=.seq ti14_5 tn14_5) (v14_5:Vals [.ref f21,.ref f17,.ref f19] ti14_5.toList)
  (r14_6:K.lookup tt14_6=some to14_6) (t14_6:to14_6.cls=.type "tuple") (y14_6:to14_6.dict=none) (u14_6:to14_6.data=.seq ti14_6 tn14_6) (v14_6:Vals [.ref f21,.ref f20,.ref f14] ti14_6.toList)
  (z0:PySem.W.nsIn K mainGlobals "abs"=some none)
  (z1:PySem.W.nsIn K mainGlobals "all"=some none)
  (z2:PySem.W.nsIn K mainGlobals "any"=some none)
  (z3:PySem.W.nsIn K mainGlobals "bool"=some none)
  (z4:PySem.W.nsIn K mainGlobals "dict"=some none)
  (z5:PySem.W.nsIn K mainGlobals "divmod"=some none)
  (z6:PySem.W.nsIn K mainGlobals "enumerate"=some none)
  (z7:PySem.W.nsIn K mainGlobals "int"=some none)
  (z8:PySem.W.nsIn K mainGlobals "isinstance"=some none)
  (z9:PySem.W.nsIn K mainGlobals "len"=some none)
  (z10:PySem.W.nsIn K mainGlobals "list"=some none)
  (z11:PySem.W.nsIn K mainGlobals "min"=some none)
  (z12:PySem.W.nsIn K mainGlobals "range"=some none)
  (z13:PySem.W.nsIn K mainGlobals "set"=some none)
  (z14:PySem.W.nsIn K mainGlobals "sorted"=some none)
  (z15:PySem.W.nsIn K mainGlobals "str"=some none)
  (z16:PySem.W.nsIn K mainGlobals "tuple"=some none)
  (z17:PySem.W.nsIn K mainGlobals "zip"=some none):Txt w K mg:=
 ⟨PySem.W.mg_none_of X G z0,
  PySem.W.mg_none_of X G z1,
  PySem.W.mg_none_of X G z2,
  PySem.W.mg_none_of X G z3,
  PySem.W.mg_none_of X G z4,
  PySem.W.mg_none_of X G z5,
  PySem.W.mg_none_of X G z6,
  PySem.W.mg_none_of X G z7,
  PySem.W.mg_none_of X G z8,
  PySem.W.mg_none_of X G z9,
  PySem.W.mg_none_of X G z10,
  PySem.W.mg_none_of X G z11,
  PySem.W.mg_none_of X G z12,
  PySem.W.mg_none_of X G z13,
  PySem.W.mg_none_of X G z14,
  PySem.W.mg_none_of X G z15,
  PySem.W.mg_none_of X G z16,
  PySem.W.mg_none_of X G z17,
  ⟨_,PySem.W.mg_of X G q0,fun H=>.inr ⟨_,_,_,r0,t0,y0,u0,by have e:=v0.length;simp only [Array.length_toList] at e;rw [←e];exact small (by decide),v0⟩⟩,
  ⟨_,PySem.W.mg_of X G q1,_,rfl⟩,
  ⟨_,PySem.W.mg_of X G q2,_,rfl⟩,
  ⟨_,PySem.W.mg_of X G q3,_,rfl⟩,
  ⟨_,PySem.W.mg_of X G q4,fun H=>.inr ⟨_,_,_,r4,t4,y4,u4,by have e:=v4.length;simp only [Array.length_toList] at e;rw [←e];exact small (by decide),v4⟩⟩,
  ⟨_,PySem.W.mg_of X G q5,fun H=>.inr ⟨_,_,_,r5,t5,y5,u5,by have e:=v5.length;simp only [Array.length_toList] at e;rw [←e];exact small (by decide),v5⟩⟩,
  ⟨_,PySem.W.mg_of X G q6,fun H=>.inr ⟨_,_,_,r6,t6,y6,u6,by have e:=v6.length;simp only [Array.length_toList] at e;rw [←e];exact small (by decide),v6⟩⟩,
  ⟨_,PySem.W.mg_of X G q7,_,rfl⟩,
  ⟨_,PySem.W.mg_of X G q8,_,rfl⟩,
  ⟨_,PySem.W.mg_of X G q9,_,rfl⟩,
  ⟨_,PySem.W.mg_of X G q10,_,rfl⟩,
  ⟨_,PySem.W.mg_of X G q11,_,rfl⟩,
  ⟨_,PySem.W.mg_of X G q12,_,rfl⟩,
  ⟨_,PySem.W.mg_of X G q13,_,rfl⟩,
  ⟨yE,tt14_0,tt14_1,tt14_2,tt14_3,tt14_4,tt14_5,tt14_6,PySem.W.mg_of X G q14,⟨yD,r14,o14,fun P=>aPf x14 u14 (h14 P) (by show (List.map (fun x:Str × Value=>x.1) [("table",Value.ref tt14_0),("where",Value.ref tt14_1),("keep",Value.ref tt14_2),("named",Value.ref tt14_3),("join",Value.ref tt14_4),("group",Value.ref tt14_5),("first",Value.ref tt14_6)]).Nodup;exact (by decide +kernel:(["table","where","keep","named","join","group","first"]:List Str).Nodup))⟩,⟨f6,fun H=>.inr ⟨_,_,_,r14_0,t14_0,y14_0,u14_0,by have e:=v14_0.length;simp only [Array.length_toList] at e;rw [←e];exact small (by show 1≤1000;decide),v14_0⟩,lD X G a6⟩,⟨f21,f15,fun H=>.inr ⟨_,_,_,r14_1,t14_1,y14_1,u14_1,by have e:=v14_1.length;simp only [Array.length_toList] at e;rw [←e];exact small (by show 2≤1000;decide),v14_1⟩,lD X G a21,lD X G a15⟩,⟨f21,f16,fun H=>.inr ⟨_,_,_,r14_2,t14_2,y14_2,u14_2,by have e:=v14_2.length;simp only [Array.length_toList] at e;rw [←e];exact small (by show 2≤1000;decide),v14_2⟩,lD X G a21,lD X G a16⟩,⟨f21,f16,fun H=>.inr ⟨_,_,_,r14_3,t14_3,y14_3,u14_3,by have e:=v14_3.length;simp only [Array.length_toList] at e;rw [←e];exact small (by show 2≤1000;decide),v14_3⟩,lD X G a21,lD X G a16⟩,⟨f21,f21,f18,fun H=>.inr ⟨_,_,_,r14_4,t14_4,y14_4,u14_4,by have e:=v14_4.length;simp only [Array.length_toList] at e;rw [←e];exact small (by show 3≤1000;decide),v14_4⟩,lD X G a21,lD X G a21,lD X G a18⟩,⟨f21,f17,f19,fun H=>.inr ⟨_,_,_,r14_5,t14_5,y14_5,u14_5,by have e:=v14_5.length;simp only [Array.length_toList] at e;rw [←e];exact small (by show 3≤1000;decide),v14_5⟩,lD X G a21,lD X G a17,lD X G a19⟩,⟨f21,f20,f14,fun H=>.inr ⟨_,_,_,r14_6,t14_6,y14_6,u14_6,by have e:=v14_6.length;simp only [Array.length_toList] at e;rw [←e];exact small (by show 3≤1000;decide),v14_6⟩,lD X G a21,lD X G a20,lD X G a14⟩⟩,
  aJ3 X G a6,
  aJ3 X G a10,
  aJ3 X G a11,
  aJ3 X G a12,
  aJ3 X G a13,
  bG X G a0 (by trivial),
  bG X G a1 (by trivial),
  bG X G a2 (by trivial),
  bG X G a3 (by trivial),
  bG X G a4 (by trivial),
  bG X G a5 (by trivial),
  bG X G a6 (by trivial),
  bG X G a7 (by trivial),
  bG X G a8 (by trivial),
  bG X G a9 (by trivial),
  bG X G a10 (by trivial),
  bG X G a11 (by trivial),
  bG X G a12 (by trivial),
  bG X G a13 (by trivial),
  bG X G a14 (by trivial),
  bG X G a15 (by trivial),
  bG X G a16 (by trivial),
  bG X G a17 (by trivial),
  bG X G a18 (by trivial),
  bG X G a19 (by trivial),
  bG X G a20 (by trivial),
  bG X G a21 (by trivial),
  bG X G a22 (by trivial),
  bG X G a23 (by trivial),
  bG X G a24 (by trivial),
  bG X G a25 (by trivial),
  bG X G a26 (by trivial),
  bG X G a27 (by trivial),
  bG X G a28 (by trivial),
  bG X G a29 (by trivial),
  bG X G a30 (by trivial),
  bG X G a31 (by trivial),
  bG X G a32 (by trivial),
  bG X G a33 (by trivial),
  bG X G a34 (by trivial),
  bG X G a35 (by trivial),
  bG X G a36 (by trivial),
  bG X G a37 (by trivial),
  bG X G a38 (by trivial),
  bG X G a39 (by trivial),
  bG X G a40 (by trivial),
  bG X G a41 (by trivial),
  bG X G a42 (by trivial),
  bG X G a43 (by trivial),
  bG X G a44 (by trivial),
  bG X G a45 (by trivial),
  bG X G a46 (by trivial),
  bG X G a47 (by trivial),
  bG X G a48 (by trivial),
  bG X G a49 (by trivial),
  bG X G a50 (by trivial),
  bG X G a51 (by trivial),
  bG X G a52 (by trivial),
  bG X G a53 (by trivial),
  bG X G a54 (by trivial),
  bG X G a55 (by trivial),
  bG X G a56 (by trivial),
  bG X G a57 (by trivial),
  bG X G a58 (by trivial),
  bG X G a59 (by trivial),
  bG X G a60 (by trivial),
  bG X G a61 (by trivial),
  bG X G a62 (by trivial),
  bG X G a63 (by trivial),
  bG X G a64 (by trivial),
  bG X G a65 (by trivial),
  bG X G a66 (by trivial),
  bG X G a67 (by trivial),
  bG X G a68 (by trivial),
  bG X G a69 (by trivial),
  bG X G a70 (by trivial),
  bG X G a71 (by trivial),
  bG X G a72 (by trivial),
  bG X G a73 (by trivial),
  bG X G a74 (by trivial)⟩
end My
open PySem PySem.W PyProof.Rows
def PySem.W.Fast.tw16897931029124940531:=0
def PySem.W.Fast.tw8158808621761067372:=0
def PySem.W.Fast.tw3497328372197296444:=0
def PySem.W.Fast.tw13417936607726042347:=0
def PySem.W.Fast.tw13801513341400746513:=0
def PySem.W.Fast.tw13384285661452293318:=0
def PySem.W.Fast.tw2625043633127770354:=0
def PySem.W.Fast.tw5853743750328409186:=0
def PySem.W.Fast.tw17937778958331572749:=0
def PySem.W.Fast.tw12111460122245217058:=0
def PySem.W.Fast.tw10965492585457430009:=0
def PySem.W.Fast.tw10240952332736515393:=0
def PySem.W.Fast.tw16696576405074905957:=0
def PySem.W.Fast.tw4187382984919937657:=0
def PySem.W.Fast.tw13251640530957079288:=0
def PySem.W.Fast.tw6940890190296566153:=0
def PySem.W.Fast.tw12496033905760430142:=0
def PySem.W.Fast.tw5164434761574666912:=0
def PySem.W.Fast.tw11281389577909078782:=0
def PySem.W.Fast.tw9379229592463282008:=0
def PySem.W.Fast.tw15600683372127844279:=0
def PySem.W.Fast.tw2297761836613730824:=0
def PySem.W.Fast.tw15783084992135389454:=0
def PySem.W.Fast.tw15446777770966762205:=0
def PySem.W.Fast.tw15096673002645990396:=0
def PySem.W.Fast.tw4581248666871360065:=0
def PySem.W.Fast.tw15897564731417739264:=0
def PySem.W.Fast.tw7313750084598946902:=0
def PySem.W.Fast.tw3365819677521274719:=0
def PySem.W.Fast.tw14054324821594006620:=0
def PySem.W.Fast.tw3874096005387156774:=0
def PySem.W.Fast.tw13059041158687383623:=0
def PySem.W.Fast.tw17813080037972495619:=0
def PySem.W.Fast.tw1771220819981438392:=0
def PySem.W.Fast.tw18110291627777545292:=0
def PySem.W.Fast.tw9694352760716163370:=0
def PySem.W.Fast.tw3231993424421691923:=0
def PySem.W.Fast.tw12346386193501246482:=0
def PySem.W.Fast.tw2918439972295194975:=0
def PySem.W.Fast.tw11261909652971105930:=0
def PySem.W.Fast.tw8193868162425848366:=0
def PySem.W.Fast.tw17248467578720691105:=0
def PySem.W.Fast.tw6562077763019803509:=0
def PySem.W.Fast.tw14502558680234674303:=0
def PySem.W.Fast.tw1300236074327482733:=0
def PySem.W.Fast.tw17874553077535744082:=0
def PySem.W.Fast.tw1779691377937439673:=0
def PySem.W.Fast.tw11742571920487841060:=0
def PySem.W.Fast.tw9066907041041013438:=0
def PySem.W.Fast.tw12605951666746791052:=0
def PySem.W.Fast.tw15473494953733178789:=0
def PySem.W.Fast.tw13706000016366682817:=0
def PySem.W.Fast.tw7966635774189393444:=0
def PySem.W.Fast.tw11040225078406198918:=0
def PySem.W.Fast.tw15420057854442536428:=0
def PySem.W.Fast.tw4869167902794814408:=0
def PySem.W.Fast.tw9842540056598224905:=0
def PySem.W.Fast.tw10581002021606001316:=0
def PySem.W.Fast.tw9374012811027867552:=0
def PySem.W.Fast.tw10188314353867902520:=0
def PySem.W.Fast.tw13446588287505141387:=0
def PySem.W.Fast.tw12368495545756208185:=0
def PySem.W.Fast.tw15916996363179658184:=0
def PySem.W.Fast.tw14637627218641380589:=0
def PySem.W.Fast.tw15570045557676318720:=0
def PySem.W.Fast.tw17593395232857802539:=0
def PySem.W.Fast.tw13135279630164426974:=0
def PySem.W.Fast.tw15694460566986386284:=0
def PySem.W.Fast.tw9815015071259527004:=0
def PySem.W.Fast.tw701248775102926261:=0
def PySem.W.Fast.tw11041681502522736983:=0
def PySem.W.Fast.tw5127424151263896171:=0
def PySem.W.Fast.tw566748864301486575:=0
def PySem.W.Fast.tw14807696394552452317:=0
def PySem.W.Fast.tw2994625010609416914:=0
def PySem.W.Fast.tw5309058738592113584:=0
def PySem.W.Fast.tw12871039096058962735:=0
def PySem.W.Fast.tw5254364426893025783:=0
def PySem.W.Fast.tw14755152120477499233:=0
def PySem.W.Fast.tw4054223861291983695:=0
def PySem.W.Fast.tw15982995588437159040:=0
def PySem.W.Fast.tw2128561262310248430:=0
def PySem.W.Fast.tw1205574644232770698:=0
def PySem.W.Fast.tw4668476542253649133:=0
def PySem.W.Fast.tw5991102059691685826:=0
def PySem.W.Fast.tw1939444095388015080:=0
def PySem.W.Fast.tw17186585574243184508:=0
def PySem.W.Fast.tw2923140116370929341:=0
def PySem.W.Fast.tw10049104737840167736:=0
def PySem.W.Fast.tw4664123616559618812:=0
def PySem.W.Fast.tw9764245802468645888:=0
def PySem.W.Fast.tw9320981011915945665:=0
def PySem.W.Fast.tw11712075292424840671:=0
def PySem.W.Fast.tw6896880954084427523:=0
def PySem.W.Fast.tw8725699485306728797:=0
def PySem.W.Fast.tw7688295474723590947:=0
def PySem.W.Fast.tw291015226370666099:=0
def PySem.W.Fast.tw1084606919101757022:=0
def PySem.W.Fast.tw732771503107214182:=0
def PySem.W.Fast.tw47578132691114546:=0
def PySem.W.Fast.tw5091492064410468695:=0
def PySem.W.Fast.tw15179053602582975315:=0
def PySem.W.Fast.tw3535159892592292840:=0
def PySem.W.Fast.tw13275836752773969153:=0
def PySem.W.Fast.tw17238938753131832315:=0
def PySem.W.Fast.tw6605934186522302682:=0
def PySem.W.Fast.tw10076531916567947911:=0
def PySem.W.Fast.tw9289747437020961780:=0
def PySem.W.Fast.tw5618082356826100696:=0
def PySem.W.Fast.tw14811470122235515725:=0
def PySem.W.Fast.tw13853654305718303061:=0
def PySem.W.Fast.tw1098437214759141844:=0
def PySem.W.Fast.tw9658781349163848217:=0
def PySem.W.Fast.tw13308310151440110666:=0
def PySem.W.Fast.tw9154570244798272048:=0
def PySem.W.Fast.tw17947930108410627239:=0
def PySem.W.Fast.tw14389861302355836462:=0
def PySem.W.Fast.tw16580397137769696257:=0
def PySem.W.Fast.tw8804333800367789510:=0
def PySem.W.Fast.tw10229784425379971721:=0
def PySem.W.Fast.tw10698912066704339691:=0
def PySem.W.Fast.tw1678655617817487124:=0
def PySem.W.Fast.tw6577976192721668263:=0
def PySem.W.Fast.tw3921698682044224329:=0
def PySem.W.Fast.tw11337045859642335608:=0
def PySem.W.Fast.tw8066440168722384968:=0
def PySem.W.Fast.tw17556691340635993224:=0
def PySem.W.Fast.tw14637745194698904847:=0
def PySem.W.Fast.tw17185753293480563192:=0
def PySem.W.Fast.tw17738717283941633201:=0
def PySem.W.Fast.tw15828432918704044670:=0
def PySem.W.Fast.tw5985929293389189626:=0
def PySem.W.Fast.tw1253165010471249517:=0
def PySem.W.Fast.tw1222315369944154108:=0
def PySem.W.Fast.tw15855166890364939106:=0
def PySem.W.Fast.tw18086533760793864026:=0
def PySem.W.Fast.tw7810109916131140277:=0
def PySem.W.Fast.tw4356211110086605624:=0
def PySem.W.Fast.tw6991551577118336190:=0
def PySem.W.Fast.tw1368944135827363608:=0
def PySem.W.Fast.tw15353520177796581100:=0
def PySem.W.Fast.tw4908699251865796167:=0
def PySem.W.Fast.tw3664376206195456171:=0
def PySem.W.Fast.tw17356604196327934364:=0
def PySem.W.Fast.tw4384196964467160577:=0
def PySem.W.Fast.tw6689809767286214061:=0
def PySem.W.Fast.tw14208347972146242146:=0
def PySem.W.Fast.tw4464331752644539891:=0
def PySem.W.Fast.tw4506552236864708924:=0
def PySem.W.Fast.tw3998461671252398009:=0
def PySem.W.Fast.tw6734865604095736697:=0
def PySem.W.Fast.tw4380185638024611244:=0
def PySem.W.Fast.tw6254071907386657986:=0
def PySem.W.Fast.tw14457270534361867632:=0
def PySem.W.Fast.tw10133657757476272740:=0
def PySem.W.Fast.tw17590195608095302355:=0
def PySem.W.Fast.tw9013134454765968287:=0
def PySem.W.Fast.tw11127601701037841027:=0
def PySem.W.Fast.tw15479334945131762647:=0
def PySem.W.Fast.tw12074033615425969779:=0
def PySem.W.Fast.tw2094302372574145996:=0
def PySem.W.Fast.tw1942583266847153990:=0
def PySem.W.Fast.tw6475931580844106527:=0
def PySem.W.Fast.tw8856030196354458083:=0
def PySem.W.Fast.tw3672471049565298168:=0
def PySem.W.Fast.tw1154099336227905923:=0
def PySem.W.Fast.tw2898148785834078002:=0
def PySem.W.Fast.tw14458299983433755089:=0
def PySem.W.Fast.tw8141789162001134222:=0
def PySem.W.Fast.tw18335505436295754431:=0
def PySem.W.Fast.tw6597954901447074967:=0
def PySem.W.Fast.tw1499466710734178947:=0
def PySem.W.Fast.tw13194830309298441328:=0
def PySem.W.Fast.tw15667607490500682791:=0
def PySem.W.Fast.tw5870505146822611456:=0
def PySem.W.Fast.tw3127952140271333394:=0
def PySem.W.Fast.tw5495308690584960726:=0
def PySem.W.Fast.tw11698933626613728358:=0
def PySem.W.Fast.tw16446590570843041268:=0
def PySem.W.Fast.tw13767365596371303267:=0
def PySem.W.Fast.tw10413360744551807409:=0
def PySem.W.Fast.tw5525200052680561560:=0
def PySem.W.Fast.tw12150392942813522069:=0
def PySem.W.Fast.tw17400597259341082320:=0
def PySem.W.Fast.tw18165807609956717265:=0
def PySem.W.Fast.tw2562871682149059706:=0
def PySem.W.Fast.tw54026130882203777:=0
def PySem.W.Fast.tw8811488561788523564:=0
def PySem.W.Fast.tw10137918487222998786:=0
def PySem.W.Fast.tw10981510090662271481:=0
def PySem.W.Fast.tw9613882824587134557:=0
def PySem.W.Fast.tw16124259626974481100:=0
def PySem.W.Fast.tw8082327814133505692:=0
def PySem.W.Fast.tw12179929389320008496:=0
def PySem.W.Fast.tw9461732039610459665:=0
def PySem.W.Fast.tw5786553843442888341:=0
def PySem.W.Fast.tw11306819163182340705:=0
def PySem.W.Fast.tw10552121919776402593:=0
def PySem.W.Fast.tw4353333072286871283:=0
def PySem.W.Fast.tw8040210792882840815:=0
def PySem.W.Fast.tw5540461425022200772:=0
def PySem.W.Fast.tw17827296423512792137:=0
def PySem.W.Fast.tw14755680874070580377:=0
def PySem.W.Fast.tw10701076082979345463:=0
def PySem.W.Fast.tw10357058930174008581:=0
def PySem.W.Fast.tw257582364603323036:=0
def PySem.W.Fast.tw13117560180455200:=0
def PySem.W.Fast.tw14747459530460029743:=0
def PySem.W.Fast.tw5203913521598694554:=0
def PySem.W.Fast.tw7801249784103067908:=0
def PySem.W.Fast.tw17335247178083910623:=0
def PySem.W.Fast.tw5624192694971245586:=0
def PySem.W.Fast.tw16302924308690794305:=0
def PySem.W.Fast.tw1007514684886705871:=0
def PySem.W.Fast.tw4753421043699237422:=0
def PySem.W.Fast.tw8252115700721776920:=0
def PySem.W.Fast.tw6568789915470039224:=0
def PySem.W.Fast.tw10185421497367871858:=0
def PySem.W.Fast.tw16171471249687191608:=0
def PySem.W.Fast.tw12141691520172309390:=0
def PySem.W.Fast.tw9719589709006736635:=0
def PySem.W.Fast.tw10394569059137604812:=0
def PySem.W.Fast.tw15212172398791421814:=0
def PySem.W.Fast.tw7740286362064010246:=0
def PySem.W.Fast.tw17056630527098186110:=0
def PySem.W.Fast.tw12165666418931912791:=0
def PySem.W.Fast.tw11094954091143314184:=0
def PySem.W.Fast.tw9822643681664234165:=0
def PySem.W.Fast.tw12367962262129362349:=0
def PySem.W.Fast.tw2150419296491646104:=0
def PySem.W.Fast.tw4859271383273592429:=0
def PySem.W.Fast.tw3177884118554034924:=0
def PySem.W.Fast.tw3839864322892556940:=0
def PySem.W.Fast.tw865068892349155974:=0
def PySem.W.Fast.tw7355665781631217596:=0
def PySem.W.Fast.tw17812456554237749179:=0
def PySem.W.Fast.tw9827831510928548235:=0
def PySem.W.Fast.tw1815200263527540210:=0
def PySem.W.Fast.tw18137279027066623851:=0
def PySem.W.Fast.tw3268298721768929038:=0
def PySem.W.Fast.tw17972800709270989581:=0
def PySem.W.Fast.tw6368489089400735844:=0
def PySem.W.Fast.tw15031691610534349660:=0
def PySem.W.Fast.tw12710648838117434085:=0
def PySem.W.Fast.tw1184284750247099607:=0
def PySem.W.Fast.tw10425880910015497839:=0
def PySem.W.Fast.tw9910771239256800485:=0
def PySem.W.Fast.tw5096010598671743014:=0
def PySem.W.Fast.tw4420346259739036759:=0
def PySem.W.Fast.tw4173190629168860912:=0
def PySem.W.Fast.tw14892671038759595513:=0
def PySem.W.Fast.tw10413235132194635300:=0
def PySem.W.Fast.tw5059541229983923430:=0
def PySem.W.Fast.tw16742833680411458638:=0
def PySem.W.Fast.tw16421598468062994305:=0
def PySem.W.Fast.tw9820289899064576113:=0
def PySem.W.Fast.tw9611354581034742425:=0
def PySem.W.Fast.tw5628847364006867521:=0
def PySem.W.Fast.tw399665248849718031:=0
def PySem.W.Fast.tw2789767514986718749:=0
def PySem.W.Fast.tw18184713364469000047:=0
def PySem.W.Fast.tw11009188448115361248:=0
def PySem.W.Fast.tw10659429083240722222:=0
def PySem.W.Fast.tw7645312502018780136:=0
def PySem.W.Fast.tw6218933584611507105:=0
def PySem.W.Fast.tw17777960950940536464:=0
def PySem.W.Fast.tw12619412440895337819:=0
def PySem.W.Fast.tw9784958853537872044:=0
def PySem.W.Fast.tw9225356271950399541:=0
def PySem.W.Fast.tw14711466833709067131:=0
def PySem.W.Fast.tw9154221580764631187:=0
def PySem.W.Fast.tw2785712153553747144:=0
def PySem.W.Fast.tw263352460484771892:=0
def PySem.W.Fast.tw17506472875439177329:=0
def PySem.W.Fast.tw15749343828671412239:=0
def PySem.W.Fast.tw12051298493911282733:=0
def PySem.W.Fast.tw11737708313894091746:=0
def PySem.W.Fast.tw11353662324451770563:=0
def PySem.W.Fast.tw5745704122847061635:=0
def PySem.W.Fast.tw2495564526202687366:=0
def PySem.W.Fast.tw16559719667727611359:=0
def PySem.W.Fast.tw16077218378948660132:=0
def PySem.W.Fast.tw12068832898937244102:=0
def PySem.W.Fast.tw13428963462381449855:=0
def PySem.W.Fast.tw9092489585364162071:=0
def PySem.W.Fast.tw8820166212630746115:=0
def PySem.W.Fast.tw8513523924245334198:=0
def PySem.W.Fast.tw5929181747178503739:=0
def PySem.W.Fast.tw2390724835828685069:=0
def PySem.W.Fast.tw18349417275078121538:=0
def PySem.W.Fast.tw15426898457343468620:=0
def PySem.W.Fast.tw10721892106327260122:=0
def PySem.W.Fast.tw9607725081316820342:=0
def PySem.W.Fast.tw8382208622751582874:=0
def PySem.W.Fast.tw5633304137319978053:=0
def PySem.W.Fast.tw9495709134376413866:=0
def PySem.W.Fast.tw9097043608869594058:=0
def PySem.W.Fast.tw6169358084377417994:=0
def PySem.W.Fast.tw8278474734680866980:=0
def PySem.W.Fast.tw14018988535638367090:=0
def PySem.W.Fast.tw15182135804882380853:=0
def PySem.W.Fast.tw9700322315965654545:=0
def PySem.W.Fast.tw9400929696738855422:=0
def PySem.W.Fast.tw4106223925431299527:=0
def PySem.W.Fast.tw3799808961995903763:=0
def PySem.W.Fast.tw1671037726108814512:=0
def PySem.W.Fast.tw3054045549837313953:=0
def PySem.W.Fast.tw14193916312585506579:=0
def PySem.W.Fast.tw12507306578403450073:=0
def PySem.W.Fast.tw5093348106598107182:=0
def PySem.W.Fast.tw15078839822659781427:=0
def PySem.W.Fast.tw4945991859605792777:=0
def PySem.W.Fast.tw895707210848838396:=0
def PySem.W.Fast.tw10169217803289673081:=0
def PySem.W.Fast.tw10606748781779497614:=0
def PySem.W.Fast.tw7526885196869518935:=0
def PySem.W.Fast.tw14829947177266166329:=0
def PySem.W.Fast.tw10616014372273178918:=0
def PySem.W.Fast.tw6238235613661336036:=0
def PySem.W.Fast.tw8895206430840253026:=0
def PySem.W.Fast.tw12748595428648392373:=0
def PySem.W.Fast.tw15866332480211057513:=0
def PySem.W.Fast.tw9834350402808463080:=0
def PySem.W.Fast.tw15191346937450777372:=0
def PySem.W.Fast.tw5139141528789147316:=0
def PySem.W.Fast.tw1570990369557992511:=0
def PySem.W.Fast.tw2416175838624578494:=0
def PySem.W.Fast.tw481760232080180081:=0
def PySem.W.Fast.tw4320432323754990392:=0
def PySem.W.Fast.tw12129548579817806130:=0
def PySem.W.Fast.tw15714068941849889856:=0
def PySem.W.Fast.tw13175373249911787421:=0
def PySem.W.Fast.tw9507578047563472944:=0
def PySem.W.Fast.tw7312822693994057849:=0
def PySem.W.Fast.tw3289038843538255817:=0
def PySem.W.Fast.tw252221158727973093:=0
def PySem.W.Fast.tw2037372791359268487:=0
def PySem.W.Fast.tw13406728297953736032:=0
def PySem.W.Fast.tw1325908530910088465:=0
def PySem.W.Fast.tw10927501906028899156:=0
def PySem.W.Fast.tw10293280339717667610:=0
def PySem.W.Fast.tw6281017586662185601:=0
def PySem.W.Fast.tw17544050778494019778:=0
def PySem.W.Fast.tw11549642525717792791:=0
def PySem.W.Fast.tw4899095081068069190:=0
def PySem.W.Fast.tw7473823683398185203:=0
def PySem.W.Fast.tw12216306535306067820:=0
def PySem.W.Fast.tw17119744054358202550:=0
def PySem.W.Fast.tw18035375556102782280:=0
def PySem.W.Fast.tw13607686818608821155:=0
def PySem.W.Fast.tw11267238872797497194:=0
def PySem.W.Fast.tw9791705906439621750:=0
def PySem.W.Fast.tw9462709739684669398:=0
def PySem.W.Fast.tw792617402301024248:=0
def PySem.W.Fast.tw7843670735800645787:=0
def PySem.W.Fast.tw6754766459197167910:=0
def PySem.W.Fast.tw5482949727008428229:=0
def PySem.W.Fast.tw4295718449300403573:=0
def PySem.W.Fast.tw3112122504516083966:=0
def PySem.W.Fast.tw287755061053177069:=0
def PySem.W.Fast.tw17965941687717926753:=0
def PySem.W.Fast.tw171290434930960671:=0
def PySem.W.Fast.tw17079152827949675556:=0
def PySem.W.Fast.tw15947813737868314952:=0
def PySem.W.Fast.tw15854043027431837014:=0
def PySem.W.Fast.tw15193682204685706942:=0
def PySem.W.Fast.tw14597348150719784114:=0
def PySem.W.Fast.tw14361695156573990443:=0
def PySem.W.Fast.tw12946830599279915725:=0
def PySem.W.Fast.tw11802721384240848904:=0
def PySem.W.Fast.tw16172884859886788366:=0
def PySem.W.Fast.tw12427768815267650933:=0
def PySem.W.Fast.tw6918817374313599612:=0
def PySem.W.Fast.tw5233028741255438129:=0
def PySem.W.Fast.tw4607214156078588833:=0
def PySem.W.Fast.tw3346894482123150640:=0
def PySem.W.Fast.tw17031265587610425840:=0
def PySem.W.Fast.tw12471398438415062791:=0
def PySem.W.Fast.tw10097013867074483399:=0
def PySem.W.Fast.tw12292584959347885562:=0
def PySem.W.Fast.tw6695076997069276924:=0
def PySem.W.Fast.tw4508532735667623676:=0
def PySem.W.Fast.tw17413909418447202081:=0
def PySem.W.Fast.tw15767432043778680781:=0
def PySem.W.Fast.tw11223012958010169248:=0
def PySem.W.Fast.tw1093652305483483485:=0
def PySem.W.Fast.tw10682396458657389988:=0
def PySem.W.Fast.tw3721841743654409252:=0
def PySem.W.Fast.tw7928570272179063976:=0
def PySem.W.Fast.tw12216698821100762631:=0
def PySem.W.Fast.tw15730127760018619847:=0
def PySem.W.Fast.tw9782042871051107200:=0
def PySem.W.Fast.tw715765841464641784:=0
def PySem.W.Fast.tw12278590005119230104:=0
def PySem.W.Fast.tw8670605713870275234:=0
def PySem.W.Fast.tw504824219216883719:=0
def PySem.W.Fast.tw4294266749872517940:=0
def PySem.W.Fast.tw1838782540973508350:=0
def PySem.W.Fast.tw14624932424202308777:=0
def PySem.W.Fast.tw13832014377194639577:=0
def PySem.W.Fast.tw1285091123143693497:=0
def PySem.W.Fast.tw9303267251482478121:=0
def PySem.W.Fast.tw7786927693768959108:=0
def PySem.W.Fast.tw5326943264378199336:=0
def PySem.W.Fast.tw2124274228503801788:=0
def PySem.W.Fast.tw15258386196633803010:=0
def PySem.W.Fast.tw12880582357025627786:=0
def PySem.W.Fast.tw11407442351954920659:=0
def PySem.W.Fast.tw9964140859254140585:=0
def PySem.W.Fast.tw9775085187082612575:=0
def PySem.W.Fast.tw9759441314406570039:=0
def PySem.W.Fast.tw9729035513767067170:=0
def PySem.W.Fast.tw9719894820213978758:=0
def PySem.W.Fast.tw9686963469782327553:=0
def PySem.W.Fast.tw9656804923638970368:=0
def PySem.W.Fast.tw9521961687319591490:=0
def PySem.W.Fast.tw9476725770029125673:=0
def PySem.W.Fast.tw9455349033975345164:=0
def PySem.W.Fast.tw889943096422310983:=0
def PySem.W.Fast.tw8732146507966071769:=0
def PySem.W.Fast.tw859668811854298584:=0
def PySem.W.Fast.tw8165158931082448268:=0
def PySem.W.Fast.tw8139996670659229322:=0
def PySem.W.Fast.tw8061288563141038732:=0
def PySem.W.Fast.tw7990889795557003393:=0
def PySem.W.Fast.tw7739656835988814352:=0
def PySem.W.Fast.tw7688821187774130008:=0
def PySem.W.Fast.tw7640217175887731023:=0
def PySem.W.Fast.tw7499982276334788445:=0
def PySem.W.Fast.tw7469869377636863360:=0
def PySem.W.Fast.tw7376813249150699463:=0
def PySem.W.Fast.tw733655109782088181:=0
def PySem.W.Fast.tw7030653804297146237:=0
def PySem.W.Fast.tw7015941086922567323:=0
def PySem.W.Fast.tw685824121419143936:=0
def PySem.W.Fast.tw6720925251101927283:=0
def PySem.W.Fast.tw6592950993306294158:=0
def PySem.W.Fast.tw648241878764853712:=0
def PySem.W.Fast.tw6407227691275519529:=0
def PySem.W.Fast.tw6044567680970369376:=0
def PySem.W.Fast.tw5992882410763888247:=0
def PySem.W.Fast.tw5934359952527825341:=0
def PySem.W.Fast.tw5441986901401746705:=0
def PySem.W.Fast.tw5274511328306331450:=0
def PySem.W.Fast.tw4939920835722234162:=0
def PySem.W.Fast.tw4695055249083988464:=0
def PySem.W.Fast.tw4672001998920451752:=0
def PySem.W.Fast.tw4670251929370545634:=0
def PySem.W.Fast.tw4644648023666070214:=0
def PySem.W.Fast.tw4463752373085560267:=0
def PySem.W.Fast.tw424359657982775813:=0
def PySem.W.Fast.tw4071873505845169485:=0
def PySem.W.Fast.tw3907638460791175167:=0
def PySem.W.Fast.tw366558406884470241:=0
def PySem.W.Fast.tw3604662517189677262:=0
def PySem.W.Fast.tw3577227127990243679:=0
def PySem.W.Fast.tw3427859829837124205:=0
def PySem.W.Fast.tw3329085871581671415:=0
def PySem.W.Fast.tw3087649192712372532:=0
def PySem.W.Fast.tw288272447409339242:=0
def PySem.W.Fast.tw2719910088658995355:=0
def PySem.W.Fast.tw2693073481847827586:=0
def PySem.W.Fast.tw2689157097746542407:=0
def PySem.W.Fast.tw2606167581695764359:=0
def PySem.W.Fast.tw2565063027212063931:=0
def PySem.W.Fast.tw2498796958757979212:=0
def PySem.W.Fast.tw22388461521058549:=0
def PySem.W.Fast.tw2193311095097914637:=0
def PySem.W.Fast.tw2179021504475191660:=0
def PySem.W.Fast.tw2138368469278443730:=0
def PySem.W.Fast.tw18427423758981759409:=0
def PySem.W.Fast.tw18416859808295517714:=0
def PySem.W.Fast.tw18389952415502453819:=0
def PySem.W.Fast.tw18120553896455045769:=0
def PySem.W.Fast.tw17963529682760117210:=0
def PySem.W.Fast.tw17328325976659332422:=0
def PySem.W.Fast.tw17240755431660913991:=0
def PySem.W.Fast.tw17209199038230968938:=0
def PySem.W.Fast.tw17108692826738747851:=0
def PySem.W.Fast.tw17085617036266443269:=0
def PySem.W.Fast.tw16888174012339057543:=0
def PySem.W.Fast.tw16885493684339797446:=0
def PySem.W.Fast.tw16670171311408485490:=0
def PySem.W.Fast.tw16587125841449204705:=0
def PySem.W.Fast.tw16417495028263709996:=0
def PySem.W.Fast.tw16411007112960930109:=0
def PySem.W.Fast.tw16339248668433910847:=0
def PySem.W.Fast.tw16297730107459048286:=0
def PySem.W.Fast.tw1606430415235322794:=0
def PySem.W.Fast.tw15711516437396820560:=0
def PySem.W.Fast.tw15668285452446101912:=0
def PySem.W.Fast.tw15611280603277979767:=0
def PySem.W.Fast.tw15546802290621744927:=0
def PySem.W.Fast.tw1539514173857303040:=0
def PySem.W.Fast.tw1537033617662152622:=0
def PySem.W.Fast.tw15291175653929113332:=0
def PySem.W.Fast.tw15145646351228293252:=0
def PySem.W.Fast.tw1486344783906789933:=0
def PySem.W.Fast.tw14631348753947603814:=0
def PySem.W.Fast.tw14617447771009973560:=0
def PySem.W.Fast.tw14477589942543230255:=0
def PySem.W.Fast.tw14369233024315922086:=0
def PySem.W.Fast.tw14229889507550584462:=0
def PySem.W.Fast.tw14056986035197801186:=0
def PySem.W.Fast.tw13968262638867524108:=0
def PySem.W.Fast.tw13821705679761495273:=0
def PySem.W.Fast.tw13653365451213738601:=0
def PySem.W.Fast.tw13555061024454149121:=0
def PySem.W.Fast.tw13339334428259883252:=0
def PySem.W.Fast.tw13275790556184735074:=0
def PySem.W.Fast.tw13275504940108355979:=0
def PySem.W.Fast.tw13211721943315153389:=0
def PySem.W.Fast.tw13210010797958655140:=0
def PySem.W.Fast.tw13020524946325828441:=0
def PySem.W.Fast.tw12967389477721154483:=0
def PySem.W.Fast.tw12928600239424731210:=0
def PySem.W.Fast.tw1287424566721147659:=0
def PySem.W.Fast.tw12842713233048696218:=0
def PySem.W.Fast.tw12665134967324682377:=0
def PySem.W.Fast.tw12621125586219231489:=0
def PySem.W.Fast.tw12495039388537754314:=0
def PySem.W.Fast.tw12327332700265541385:=0
def PySem.W.Fast.tw12307893651250159696:=0
def PySem.W.Fast.tw12200331088641795384:=0
def PySem.W.Fast.tw12157320185935750393:=0
def PySem.W.Fast.tw11990934005705961933:=0
def PySem.W.Fast.tw11766868568116586773:=0
def PySem.W.Fast.tw11757314380877169447:=0
def PySem.W.Fast.tw11669381810764699522:=0
def PySem.W.Fast.tw11648079125158273393:=0
def PySem.W.Fast.tw11531845725483722732:=0
def PySem.W.Fast.tw11499180541711458751:=0
def PySem.W.Fast.tw11488185762507045473:=0
def PySem.W.Fast.tw11478210087897538523:=0
def PySem.W.Fast.tw11475818341484668653:=0
def PySem.W.Fast.tw11385935979448477420:=0
def PySem.W.Fast.tw11312417684661598122:=0
def PySem.W.Fast.tw11309212902994228476:=0
def PySem.W.Fast.tw11204040061055025541:=0
def PySem.W.Fast.tw10991040386032815890:=0
def PySem.W.Fast.tw10826235919017216802:=0
def PySem.W.Fast.tw10769220481584906804:=0
def PySem.W.Fast.tw10749949545242516124:=0
def PySem.W.Fast.tw10673334030945542304:=0
def PySem.W.Fast.tw10249365253914831023:=0
def PySem.W.Fast.tw10189814824835130497:=0
def PySem.W.Fast.tw10175037573051640380:=0
set_option maxRecDepth 100000 in
set_option maxHeartbeats 0 in
theorem PySem.Challenge.cw_shardask_k17_early_told_holds : PySem.Challenge.rw_shardask_k17_early_told.Holds := by
 w_on;o_law;k_head;(case hw=>w_witness2)
 k_fill
 refine L2.aS8 (l:=PySem.Challenge.rw_shardask_k17_early_told) (n:=63) (k:=73) (x:="_law_script") (CX:=L2.CX0) (sp:=My.aF1) rfl (by decide) rfl ⟨rfl,by decide,by decide⟩ (fun w h Y=>PySem.W.kIn_of Y) ?F (fun K H a ns hl hO hS=>My.aPw hl hS) (fun _ _ _ _ z=>z)
 case F=>
  intro w mg fa h KX G hmg
  have T:My.Txt w (L2.KOf KX) mg:=by
   dsimp only [L2.KOf]
   refine' My.aXu KX G ?a0 ?a1 ?a2 ?a3 ?a4 ?a5 ?a6 ?a7 ?a8 ?a9 ?a10 ?a11 ?a12 ?a13 ?a14 ?a15 ?a16 ?a17 ?a18 ?a19 ?a20 ?a21 ?a22 ?a23 ?a24 ?a25 ?a26 ?a27 ?a28 ?a29 ?a30 ?a31 ?a32 ?a33 ?a34 ?a35 ?a36 ?a37 ?a38 ?a39 ?a40 ?a41 ?a42 ?a43 ?a44 ?a45 ?a46 ?a47 ?a48 ?a49 ?a50 ?a51 ?a52 ?a53 ?a54 ?a55 ?a56 ?a57 ?a58 ?a59 ?a60 ?a61 ?a62 ?a63 ?a64 ?a65 ?a66 ?a67 ?a68 ?a69 ?a70 ?a71 ?a72 ?a73 ?a74 ?q0 ?r0 ?t0 ?y0 ?u0 ?v0 ?q1 ?q2 ?q3 ?q4 ?r4 ?t4 ?y4 ?u4 ?v4 ?q5 ?r5 ?t5 ?y5 ?u5 ?v5 ?q6 ?r6 ?t6 ?y6 ?u6 ?v6 ?q7 ?q8 ?q9 ?q10 ?q11 ?q12 ?q13 ?q14 ?r14 ?x14 ?o14 ?u14 ?h14 ?r14_0 ?t14_0 ?y14_0 ?u14_0 ?v14_0 ?r14_1 ?t14_1 ?y14_1 ?u14_1 ?v14_1 ?r14_2 ?t14_2 ?y14_2 ?u14_2 ?v14_2 ?r14_3 ?t14_3 ?y14_3 ?u14_3 ?v14_3 ?r14_4 ?t14_4 ?y14_4 ?u14_4 ?v14_4 ?r14_5 ?t14_5 ?y14_5 ?u14_5 ?v14_5 ?r14_6 ?t14_6 ?y14_6 ?u14_6 ?v14_6 ?z0 ?z1 ?z2 ?z3 ?z4 ?z5 ?z6 ?z7 ?z8 ?z9 ?z10 ?z11 ?z12 ?z13 ?z14 ?z15 ?z16 ?z17
   (case a0=>(refine' My.FA.mk ?j0 ?l0 ?c0 ?k0);(case j0=>k_is);(case l0=>k_is);(case c0=>k_is);(case k0=>k_is))
   (case a1=>(refine' My.FA.mk ?j1 ?l1 ?c1 ?k1);(case j1=>k_is);(case l1=>k_is);(case c1=>k_is);(case k1=>k_is))
   (case a2=>(refine' My.FA.mk ?j2 ?l2 ?c2 ?k2);(case j2=>k_is);(case l2=>k_is);(case c2=>k_is);(case k2=>k_is))
   (case a3=>(refine' My.FA.mk ?j3 ?l3 ?c3 ?k3);(case j3=>k_is);(case l3=>k_is);(case c3=>k_is);(case k3=>k_is))
   (case a4=>(refine' My.FA.mk ?j4 ?l4 ?c4 ?k4);(case j4=>k_is);(case l4=>k_is);(case c4=>k_is);(case k4=>k_is))
   (case a5=>(refine' My.FA.mk ?j5 ?l5 ?c5 ?k5);(case j5=>k_is);(case l5=>k_is);(case c5=>k_is);(case k5=>k_is))
   (case a6=>(refine' My.FA.mk ?j6 ?l6 ?c6 ?k6);(case j6=>k_is);(case l6=>k_is);(case c6=>k_is);(case k6=>k_is))
   (case a7=>(refine' My.FA.mk ?j7 ?l7 ?c7 ?k7);(case j7=>k_is);(case l7=>k_is);(case c7=>k_is);(case k7=>k_is))
   (case a8=>(refine' My.FA.mk ?j8 ?l8 ?c8 ?k8);(case j8=>k_is);(case l8=>k_is);(case c8=>k_is);(case k8=>k_is))
   (case a9=>(refine' My.FA.mk ?j9 ?l9 ?c9 ?k9);(case j9=>k_is);(case l9=>k_is);(case c9=>k_is);(case k9=>k_is))
   (case a10=>(refine' My.FA.mk ?j10 ?l10 ?c10 ?k10);(case j10=>k_is);(case l10=>k_is);(case c10=>k_is);(case k10=>k_is))
   (case a11=>(refine' My.FA.mk ?j11 ?l11 ?c11 ?k11);(case j11=>k_is);(case l11=>k_is);(case c11=>k_is);(case k11=>k_is))
   (case a12=>(refine' My.FA.mk ?j12 ?l12 ?c12 ?k12);(case j12=>k_is);(case l12=>k_is);(case c12=>k_is);(case k12=>k_is))
   (case a13=>(refine' My.FA.mk ?j13 ?l13 ?c13 ?k13);(case j13=>k_is);(case l13=>k_is);(case c13=>k_is);(case k13=>k_is))
   (case a14=>(refine' My.FA.mk ?j14 ?l14 ?c14 ?k14);(case j14=>k_is);(case l14=>k_is);(case c14=>k_is);(case k14=>k_is))
   (case a15=>(refine' My.FA.mk ?j15 ?l15 ?c15 ?k15);(case j15=>k_is);(case l15=>k_is);(case c15=>k_is);(case k15=>k_is))
   (case a16=>(refine' My.FA.mk ?j16 ?l16 ?c16 ?k16);(case j16=>k_is);(case l16=>k_is);(case c16=>k_is);(case k16=>k_is))
   (case a17=>(refine' My.FA.mk ?j17 ?l17 ?c17 ?k17);(case j17=>k_is);(case l17=>k_is);(case c17=>k_is);(case k17=>k_is))
   (case a18=>(refine' My.FA.mk ?j18 ?l18 ?c18 ?k18);(case j18=>k_is);(case l18=>k_is);(case c18=>k_is);(case k18=>k_is))
   (case a19=>(refine' My.FA.mk ?j19 ?l19 ?c19 ?k19);(case j19=>k_is);(case l19=>k_is);(case c19=>k_is);(case k19=>k_is))
   (case a20=>(refine' My.FA.mk ?j20 ?l20 ?c20 ?k20);(case j20=>k_is);(case l20=>k_is);(case c20=>k_is);(case k20=>k_is))
   (case a21=>(refine' My.FA.mk ?j21 ?l21 ?c21 ?k21);(case j21=>k_is);(case l21=>k_is);(case c21=>k_is);(case k21=>k_is))
   (case a22=>(refine' My.FA.mk ?j22 ?l22 ?c22 ?k22);(case j22=>k_is);(case l22=>k_is);(case c22=>k_is);(case k22=>k_is))
   (case a23=>(refine' My.FA.mk ?j23 ?l23 ?c23 ?k23);(case j23=>k_is);(case l23=>k_is);(case c23=>k_is);(case k23=>k_is))
   (case a24=>(refine' My.FA.mk ?j24 ?l24 ?c24 ?k24);(case j24=>k_is);(case l24=>k_is);(case c24=>k_is);(case k24=>k_is))
   (case a25=>(refine' My.FA.mk ?j25 ?l25 ?c25 ?k25);(case j25=>k_is);(case l25=>k_is);(case c25=>k_is);(case k25=>k_is))
   (case a26=>(refine' My.FA.mk ?j26 ?l26 ?c26 ?k26);(case j26=>k_is);(case l26=>k_is);(case c26=>k_is);(case k26=>k_is))
   (case a27=>(refine' My.FA.mk ?j27 ?l27 ?c27 ?k27);(case j27=>k_is);(case l27=>k_is);(case c27=>k_is);(case k27=>k_is))
   (case a28=>(refine' My.FA.mk ?j28 ?l28 ?c28 ?k28);(case j28=>k_is);(case l28=>k_is);(case c28=>k_is);(case k28=>k_is))
   (case a29=>(refine' My.FA.mk ?j29 ?l29 ?c29 ?k29);(case j29=>k_is);(case l29=>k_is);(case c29=>k_is);(case k29=>k_is))
   (case a30=>(refine' My.FA.mk ?j30 ?l30 ?c30 ?k30);(case j30=>k_is);(case l30=>k_is);(case c30=>k_is);(case k30=>k_is))
   (case a31=>(refine' My.FA.mk ?j31 ?l31 ?c31 ?k31);(case j31=>k_is);(case l31=>k_is);(case c31=>k_is);(case k31=>k_is))
   (case a32=>(refine' My.FA.mk ?j32 ?l32 ?c32 ?k32);(case j32=>k_is);(case l32=>k_is);(case c32=>k_is);(case k32=>k_is))
   (case a33=>(refine' My.FA.mk ?j33 ?l33 ?c33 ?k33);(case j33=>k_is);(case l33=>k_is);(case c33=>k_is);(case k33=>k_is))
   (case a34=>(refine' My.FA.mk ?j34 ?l34 ?c34 ?k34);(case j34=>k_is);(case l34=>k_is);(case c34=>k_is);(case k34=>k_is))
   (case a35=>(refine' My.FA.mk ?j35 ?l35 ?c35 ?k35);(case j35=>k_is);(case l35=>k_is);(case c35=>k_is);(case k35=>k_is))
   (case a36=>(refine' My.FA.mk ?j36 ?l36 ?c36 ?k36);(case j36=>k_is);(case l36=>k_is);(case c36=>k_is);(case k36=>k_is))
   (case a37=>(refine' My.FA.mk ?j37 ?l37 ?c37 ?k37);(case j37=>k_is);(case l37=>k_is);(case c37=>k_is);(case k37=>k_is))
   (case a38=>(refine' My.FA.mk ?j38 ?l38 ?c38 ?k38);(case j38=>k_is);(case l38=>k_is);(case c38=>k_is);(case k38=>k_is))
   (case a39=>(refine' My.FA.mk ?j39 ?l39 ?c39 ?k39);(case j39=>k_is);(case l39=>k_is);(case c39=>k_is);(case k39=>k_is))
   (case a40=>(refine' My.FA.mk ?j40 ?l40 ?c40 ?k40);(case j40=>k_is);(case l40=>k_is);(case c40=>k_is);(case k40=>k_is))
   (case a41=>(refine' My.FA.mk ?j41 ?l41 ?c41 ?k41);(case j41=>k_is);(case l41=>k_is);(case c41=>k_is);(case k41=>k_is))
   (case a42=>(refine' My.FA.mk ?j42 ?l42 ?c42 ?k42);(case j42=>k_is);(case l42=>k_is);(case c42=>k_is);(case k42=>k_is))
   (case a43=>(refine' My.FA.mk ?j43 ?l43 ?c43 ?k43);(case j43=>k_is);(case l43=>k_is);(case c43=>k_is);(case k43=>k_is))
   (case a44=>(refine' My.FA.mk ?j44 ?l44 ?c44 ?k44);(case j44=>k_is);(case l44=>k_is);(case c44=>k_is);(case k44=>k_is))
   (case a45=>(refine' My.FA.mk ?j45 ?l45 ?c45 ?k45);(case j45=>k_is);(case l45=>k_is);(case c45=>k_is);(case k45=>k_is))
   (case a46=>(refine' My.FA.mk ?j46 ?l46 ?c46 ?k46);(case j46=>k_is);(case l46=>k_is);(case c46=>k_is);(case k46=>k_is))
   (case a47=>(refine' My.FA.mk ?j47 ?l47 ?c47 ?k47);(case j47=>k_is);(case l47=>k_is);(case c47=>k_is);(case k47=>k_is))
   (case a48=>(refine' My.FA.mk ?j48 ?l48 ?c48 ?k48);(case j48=>k_is);(case l48=>k_is);(case c48=>k_is);(case k48=>k_is))
   (case a49=>(refine' My.FA.mk ?j49 ?l49 ?c49 ?k49);(case j49=>k_is);(case l49=>k_is);(case c49=>k_is);(case k49=>k_is))
   (case a50=>(refine' My.FA.mk ?j50 ?l50 ?c50 ?k50);(case j50=>k_is);(case l50=>k_is);(case c50=>k_is);(case k50=>k_is))
   (case a51=>(refine' My.FA.mk ?j51 ?l51 ?c51 ?k51);(case j51=>k_is);(case l51=>k_is);(case c51=>k_is);(case k51=>k_is))
   (case a52=>(refine' My.FA.mk ?j52 ?l52 ?c52 ?k52);(case j52=>k_is);(case l52=>k_is);(case c52=>k_is);(case k52=>k_is))
   (case a53=>(refine' My.FA.mk ?j53 ?l53 ?c53 ?k53);(case j53=>k_is);(case l53=>k_is);(case c53=>k_is);(case k53=>k_is))
   (case a54=>(refine' My.FA.mk ?j54 ?l54 ?c54 ?k54);(case j54=>k_is);(case l54=>k_is);(case c54=>k_is);(case k54=>k_is))
   (case a55=>(refine' My.FA.mk ?j55 ?l55 ?c55 ?k55);(case j55=>k_is);(case l55=>k_is);(case c55=>k_is);(case k55=>k_is))
   (case a56=>(refine' My.FA.mk ?j56 ?l56 ?c56 ?k56);(case j56=>k_is);(case l56=>k_is);(case c56=>k_is);(case k56=>k_is))
   (case a57=>(refine' My.FA.mk ?j57 ?l57 ?c57 ?k57);(case j57=>k_is);(case l57=>k_is);(case c57=>k_is);(case k57=>k_is))
   (case a58=>(refine' My.FA.mk ?j58 ?l58 ?c58 ?k58);(case j58=>k_is);(case l58=>k_is);(case c58=>k_is);(case k58=>k_is))
   (case a59=>(refine' My.FA.mk ?j59 ?l59 ?c59 ?k59);(case j59=>k_is);(case l59=>k_is);(case c59=>k_is);(case k59=>k_is))
   (case a60=>(refine' My.FA.mk ?j60 ?l60 ?c60 ?k60);(case j60=>k_is);(case l60=>k_is);(case c60=>k_is);(case k60=>k_is))
   (case a61=>(refine' My.FA.mk ?j61 ?l61 ?c61 ?k61);(case j61=>k_is);(case l61=>k_is);(case c61=>k_is);(case k61=>k_is))
   (case a62=>(refine' My.FA.mk ?j62 ?l62 ?c62 ?k62);(case j62=>k_is);(case l62=>k_is);(case c62=>k_is);(case k62=>k_is))
   (case a63=>(refine' My.FA.mk ?j63 ?l63 ?c63 ?k63);(case j63=>k_is);(case l63=>k_is);(case c63=>k_is);(case k63=>k_is))
   (case a64=>(refine' My.FA.mk ?j64 ?l64 ?c64 ?k64);(case j64=>k_is);(case l64=>k_is);(case c64=>k_is);(case k64=>k_is))
   (case a65=>(refine' My.FA.mk ?j65 ?l65 ?c65 ?k65);(case j65=>k_is);(case l65=>k_is);(case c65=>k_is);(case k65=>k_is))
   (case a66=>(refine' My.FA.mk ?j66 ?l66 ?c66 ?k66);(case j66=>k_is);(case l66=>k_is);(case c66=>k_is);(case k66=>k_is))
   (case a67=>(refine' My.FA.mk ?j67 ?l67 ?c67 ?k67);(case j67=>k_is);(case l67=>k_is);(case c67=>k_is);(case k67=>k_is))
   (case a68=>(refine' My.FA.mk ?j68 ?l68 ?c68 ?k68);(case j68=>k_is);(case l68=>k_is);(case c68=>k_is);(case k68=>k_is))
   (case a69=>(refine' My.FA.mk ?j69 ?l69 ?c69 ?k69);(case j69=>k_is);(case l69=>k_is);(case c69=>k_is);(case k69=>k_is))
   (case a70=>(refine' My.FA.mk ?j70 ?l70 ?c70 ?k70);(case j70=>k_is);(case l70=>k_is);(case c70=>k_is);(case k70=>k_is))
   (case a71=>(refine' My.FA.mk ?j71 ?l71 ?c71 ?k71);(case j71=>k_is);(case l71=>k_is);(case c71=>k_is);(case k71=>k_is))
   (case a72=>(refine' My.FA.mk ?j72 ?l72 ?c72 ?k72);(case j72=>k_is);(case l72=>k_is);(case c72=>k_is);(case k72=>k_is))
   (case a73=>(refine' My.FA.mk ?j73 ?l73 ?c73 ?k73);(case j73=>k_is);(case l73=>k_is);(case c73=>k_is);(case k73=>k_is))
   (case a74=>(refine' My.FA.mk ?j74 ?l74 ?c74 ?k74);(case j74=>k_is);(case l74=>k_is);(case c74=>k_is);(case k74=>k_is))
   (case q0=>k_is)
   (case r0=>k_is)
   (case t0=>rfl)
   (case y0=>rfl)
   (case u0=>rfl)
   (case v0=>repeat (first|exact L2.dZ|refine L2.bM rfl ?_|refine L2.bM ⟨_,rfl⟩ ?_))
   (case q1=>k_is)
   (case q2=>k_is)
   (case q3=>k_is)
   (case q4=>k_is)
   (case r4=>k_is)
   (case t4=>rfl)
   (case y4=>rfl)
   (case u4=>rfl)
   (case v4=>repeat (first|exact L2.dZ|refine L2.bM rfl ?_|refine L2.bM ⟨_,rfl⟩ ?_))
   (case q5=>k_is)
   (case r5=>k_is)
   (case t5=>rfl)
   (case y5=>rfl)
   (case u5=>rfl)
   (case v5=>repeat (first|exact L2.dZ|refine L2.bM rfl ?_|refine L2.bM ⟨_,rfl⟩ ?_))
   (case q6=>k_is)
   (case r6=>k_is)
   (case t6=>rfl)
   (case y6=>rfl)
   (case u6=>rfl)
   (case v6=>repeat (first|exact L2.dZ|refine L2.bM rfl ?_|refine L2.bM ⟨_,rfl⟩ ?_))
   (case q7=>k_is)
   (case q8=>k_is)
   (case q9=>k_is)
   (case q10=>k_is)
   (case q11=>k_is)
   (case q12=>k_is)
   (case q13=>k_is)
   (case q14=>k_is)
   (case r14=>k_is)
   (case x14=>exact ⟨rfl,rfl,rfl⟩)
   (case o14=>first|rfl|decide +kernel)
   (case u14=>rfl)
   (case h14=>intro P;repeat (first|exact L2.PH.nil|refine L2.PH.cons rfl rfl rfl ?_))
   (case r14_0=>k_is)
   (case t14_0=>rfl)
   (case y14_0=>rfl)
   (case u14_0=>rfl)
   (case v14_0=>repeat (first|exact L2.dZ|refine L2.bM rfl ?_|refine L2.bM ⟨_,rfl⟩ ?_))
   (case r14_1=>k_is)
   (case t14_1=>rfl)
   (case y14_1=>rfl)
   (case u14_1=>rfl)
   (case v14_1=>repeat (first|exact L2.dZ|refine L2.bM rfl ?_|refine L2.bM ⟨_,rfl⟩ ?_))
   (case r14_2=>k_is)
   (case t14_2=>rfl)
   (case y14_2=>rfl)
   (case u14_2=>rfl)
   (case v14_2=>repeat (first|exact L2.dZ|refine L2.bM rfl ?_|refine L2.bM ⟨_,rfl⟩ ?_))
   (case r14_3=>k_is)
   (case t14_3=>rfl)
   (case y14_3=>rfl)
   (case u14_3=>rfl)
   (case v14_3=>repeat (first|exact L2.dZ|refine L2.bM rfl ?_|refine L2.bM ⟨_,rfl⟩ ?_))
   (case r14_4=>k_is)
   (case t14_4=>rfl)
   (case y14_4=>rfl)
   (case u14_4=>rfl)
   (case v14_4=>repeat (first|exact L2.dZ|refine L2.bM rfl ?_|refine L2.bM ⟨_,rfl⟩ ?_))
   (case r14_5=>k_is)
   (case t14_5=>rfl)
   (case y14_5=>rfl)
   (case u14_5=>rfl)
   (case v14_5=>repeat (first|exact L2.dZ|refine L2.bM rfl ?_|refine L2.bM ⟨_,rfl⟩ ?_))
   (case r14_6=>k_is)
   (case t14_6=>rfl)
   (case y14_6=>rfl)
   (case u14_6=>rfl)
   (case v14_6=>repeat (first|exact L2.dZ|refine L2.bM rfl ?_|refine L2.bM ⟨_,rfl⟩ ?_))
   (case z0=>k_is)
   (case z1=>k_is)
   (case z2=>k_is)
   (case z3=>k_is)
   (case z4=>k_is)
   (case z5=>k_is)
   (case z6=>k_is)
   (case z7=>k_is)
   (case z8=>k_is)
   (case z9=>k_is)
   (case z10=>k_is)
   (case z11=>k_is)
   (case z12=>k_is)
   (case z13=>k_is)
   (case z14=>k_is)
   (case z15=>k_is)
   (case z16=>k_is)
   (case z17=>k_is)
  exact My.aWq (P:=PySem.Challenge.rw_shardask_k17_early_told.prog) T hmg
