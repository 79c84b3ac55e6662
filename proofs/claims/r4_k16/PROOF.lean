import PyProof.Rows.All
import Wide.All
import OpenK.AllK
import Wide.FinOn
import Lean
import PyProof.EqAt
import PyProof.EqKinds
import PyProof.TupleCall
import PyProof.CallType
import PyProof.WalkLemmas
import PyProof.StrOps
import PyProof.ForAny
import PyProof.IsInstanceH
import PyProof.IsiFacts
import PyProof.IsiFacts2
import PyProof.FactsAll.object
import PyProof.ListMulRoad
import PyProof.FactsAll.tuple_2
import PyProof.StrLawsIdx
import PyProof.EnumMake
import PyProof.EnumFor
import KE.KDictList
import PyProof.Rows.Range3
import PyProof.CompUse
import PyProof.ListStr
import PyProof.NeKinds
import KE.KDictOf
import KE.KEqDict
import KE.KDictSum
import PyProof.AttrMissHeap
import PyProof.DictWalks
import PySem.Challenge.RW_shardask_k16_tests_sink
set_option Elab.async false
set_option linter.all false
set_option maxRecDepth 100000
set_option maxHeartbeats 6400000
local macro_rules
  | `(tactic| trivial) => `(tactic| first | exact Or.inl rfl | exact Or.inr rfl | exact Or.inr (Or.inl rfl) | exact Or.inr (Or.inr rfl) | exact ⟨rfl, rfl, rfl, by decide +kernel, rfl, by decide +kernel, by decide +kernel⟩ | exact ⟨by decide +kernel, rfl, by decide +kernel, by decide +kernel⟩ | fail)
namespace L2
open PySem PySem.Spec PyProof.Rows
abbrev Key:=Sum Int Str
def aCf:Key→Value→Bool
 |.inl k,v=>Value.isInt k v
 |.inr x,v=>Value.isStrOf x v
def bAm (w:World):Key→Int
 |.inl k=>hashInt k
 |.inr x=>hashStr w x
theorem eU:∀{k:Key} {v:Value},aCf k v=true→(∃i t,k=Sum.inl i∧v=Value.int i t)∨(∃x t,k=Sum.inr x∧v=Value.str x t)
 |.inl i,v,h=>by
  obtain ⟨t,e⟩:=Value.isInt_shape (k:=i) (v:=v) h
  exact .inl ⟨i,t,rfl,e⟩
 |.inr x,v,h=>by
  obtain ⟨t,e⟩:=Value.isStrOf_shape (x:=x) (v:=v) h
  exact .inr ⟨x,t,rfl,e⟩
theorem aOi (i:Int) (t:Tok):aCf (.inl i) (.int i t)=true:=by simp [aCf,Value.isInt]
theorem aO9 (x:Str) (t:Tok):aCf (.inr x) (.str x t)=true:=by simp [aCf,Value.isStrOf]
theorem aWr (a b:Int):decide ((Sum.inl a:Key)=Sum.inl b)=(a == b):=by
 by_cases e:a=b
 ·subst e;simp
 ·have h:¬ (Sum.inl a:Key)=Sum.inl b:=fun q=>e (Sum.inl.inj q)
  rw [decide_eq_false h]
  exact (beq_eq_false_iff_ne.mpr e).symm
theorem aX7 (a b:Str):decide ((Sum.inr a:Key)=Sum.inr b)=decide (a=b):=by
 by_cases e:a=b
 ·subst e;simp
 ·have h:¬ (Sum.inr a:Key)=Sum.inr b:=fun q=>e (Sum.inr.inj q)
  rw [decide_eq_false h,decide_eq_false e]
theorem aYo (a:Int) (b:Str):decide ((Sum.inl a:Key)=Sum.inr b)=false:=decide_eq_false (fun q=>nomatch q)
theorem aXr (a:Str) (b:Int):decide ((Sum.inr a:Key)=Sum.inl b)=false:=decide_eq_false (fun q=>nomatch q)
def cN (prog:Program) (w:World):PySem.KeyKind prog w Key where
 is:=aCf
 hash:=bAm w
 inj:=fun v a b ha hb=>by
  rcases eU ha with ⟨i,t,rfl,rfl⟩|⟨x,t,rfl,rfl⟩
  ·rcases eU hb with ⟨j,u,rfl,e⟩|⟨y,u,rfl,e⟩
   ·injection e with e1 _;rw [e1]
   ·exact nomatch e
  ·rcases eU hb with ⟨j,u,rfl,e⟩|⟨y,u,rfl,e⟩
   ·exact nomatch e
   ·injection e with e1 _;rw [e1]
 byValue:=fun k v h=>by
  rcases eU h with ⟨i,t,rfl,rfl⟩|⟨x,t,rfl,rfl⟩ <;> rfl
 pyHash:=fun hv h=>by
  rcases eU hv with ⟨i,t,rfl,rfl⟩|⟨x,t,rfl,rfl⟩
  ·exact wpAny_pyHash_int h
  ·exact wpAny_pyHash_str h
 eqBool:=fun hu hv h=>by
  rcases eU hu with ⟨i,t,rfl,rfl⟩|⟨x,t,rfl,rfl⟩
  ·rcases eU hv with ⟨j,u,rfl,rfl⟩|⟨y,u,rfl,rfl⟩
   ·rw [aWr] at h;exact wpAny_eqBool_int h
   ·rw [aYo] at h;exact SeqAt.EqAt.int_str i t y u _ _ _ _ h
  ·rcases eU hv with ⟨j,u,rfl,rfl⟩|⟨y,u,rfl,rfl⟩
   ·rw [aXr] at h;exact SeqAt.EqAt.str_int x t j u _ _ _ _ h
   ·rw [aX7] at h;exact wpAny_eqBool_str h
 «strs»:=fun k x t v h=>by
  rcases eU h with ⟨i,u,rfl,e⟩|⟨y,u,rfl,e⟩
  ·exact nomatch e
  ·injection e with e1 _
   subst e1
   cases v <;> rfl
theorem aJu (prog:Program) (w:World) (i:Int) (t:Tok):(cN prog w).is (.inl i) (.int i t)=true:=aOi i t
theorem aJp (prog:Program) (w:World) (x:Str) (t:Tok):(cN prog w).is (.inr x) (.str x t)=true:=aO9 x t
inductive V where
 |non|bl (b:Bool)|int (i:Int)|str (x:Str)|byt (b:Array UInt8)|flt (b:UInt64)|ref (a:Addr)|ty (n:String)
 deriving DecidableEq
def RelV:V→Value→Prop
 |.non,u=>u=Value.none
 |.bl b,u=>u=Value.bool b
 |.int i,u=>∃t,u=Value.int i t
 |.str x,u=>∃t,u=Value.str x t
 |.byt b,u=>∃t,u=Value.bytes b t
 |.flt b,u=>∃t,u=Value.float b t
 |.ref a,u=>u=Value.ref a
 |.ty n,u=>u=Value.type n
abbrev Vals:List V→List Value→Prop:=Paired RelV
theorem Vals.length {xs:List V} {us:List Value} (r:Vals xs us):xs.length=us.length:=Paired.length r
theorem Vals.get:∀{xs:List V} {us:List Value} {i:Nat} {x:V},Vals xs us→xs[i]?=some x→∃u,us[i]?=some u∧RelV x u
 |_,_,_,_,.nil,e=>by simp at e
 |_,_,0,_,.cons r _,e=>by simp at e;subst e;exact ⟨_,rfl,r⟩
 |_,_,i+1,x,.cons _ t,e=>by
  obtain ⟨u,h1,h2⟩:=Vals.get (i:=i) (x:=x) t (by simpa using e)
  exact ⟨u,by simpa using h1,h2⟩
theorem Vals.set {x:V} {u:Value} (r:RelV x u):∀{xs:List V} {us:List Value} (i:Nat),Vals xs us→Vals (xs.set i x) (us.set i u)
 |_,_,_,.nil=>.nil
 |_,_,0,.cons _ t=>.cons r t
 |_,_,i+1,.cons q t=>.cons q (Vals.set r i t)
theorem Vals.append:∀{xs ys:List V} {us ws:List Value},Vals xs us→Vals ys ws→Vals (xs++ys) (us++ws)
 |_,_,_,_,.nil,s=>s
 |_,_,_,_,.cons r t,s=>.cons r (Vals.append t s)
theorem Vals.take:∀{xs:List V} {us:List Value} (n:Nat),Vals xs us→Vals (xs.take n) (us.take n)
 |_,_,0,_=>.nil
 |_,_,_+1,.nil=>.nil
 |_,_,n+1,.cons r t=>.cons r (Vals.take n t)
theorem Vals.drop:∀{xs:List V} {us:List Value} (n:Nat),Vals xs us→Vals (xs.drop n) (us.drop n)
 |_,_,0,r=>r
 |_,_,_+1,.nil=>.nil
 |_,_,n+1,.cons _ t=>Vals.drop n t
def aDm:Option V→Option Value→Prop
 |some v,some u=>RelV v u
 |none,none=>True
 |_,_=>False
def KV {κ:Type}:List (κ × V)→List (κ × Value)→Prop:=Paired fun (p:κ × V) (q:κ × Value)=>p.1=q.1∧RelV p.2 q.2
def kV:Key→V
 |.inl i=>.int i
 |.inr x=>.str x
inductive HO where
  |lst (xs:List V)
  |tup (xs:List V)
  |dK (kvs:List (Key × V))|dT (kvs:List (List Key × V))
  |set (S:Int→Bool) (n:Nat)
  |ins (C dx:Addr) (fs:List (Str × V))
  |own (x:Addr)
  |xd (fs:List (Str × V))
  |met (f x:Addr)
  |rng (lo hi:Int)
  |frz (o:Obj) (u:HO)
  |tbl (ps:Array Value)
  |ext (φ:Heap→Prop)
abbrev Hp:=Addr→Option HO
def upd (H:Hp) (a:Addr) (o:HO):Hp:=fun b=>if b=a then some o else H b
theorem aQ {H:Hp} {a:Addr} {o:HO}:upd H a o a=some o:=by unfold upd;rw [if_pos rfl]
theorem bH {H:Hp} {a b:Addr} {o:HO} (h:b≠a):upd H a o b=H b:=by unfold upd;rw [if_neg h]
theorem aUm {H:Hp} {a:Addr} {o u:HO}:upd (upd H a o) a u=upd H a u:=by
 funext b;unfold upd;split <;> rfl
theorem wV {H:Hp} {a b:Addr} {o u:HO} (h:H a=some o) (h':H b=some u) (d:o≠u):a≠b:=by
 intro e;subst e;rw [h] at h';exact d (Option.some.inj h')
theorem bD {H:Hp} {a b:Addr} {o:HO} (h:H a=some o) (h':H b=none):a≠b:=by
 intro e;subst e;rw [h] at h';cases h'
def zR (h:Heap) (a:Addr) (items:Array Value):Prop:=IsTup h a items∧∀o,h.get? a=some o→o.dict=none
theorem zR.of {h:Heap} {a:Addr} {items:Array Value} {o:Obj} (e:h.get? a=some o) (d:o.dict=none) (x:IsTup h a items):zR h a items:=⟨x,fun o' e'=>by rw [e] at e';cases e';exact d⟩
theorem zR.new (h:Heap) (items:Array Value):zR (h.push { cls:=.type "tuple",data:=.seq items }) h.objs.size items:=.of (Heap.get?_push_size _ rfl) rfl (IsTup.new _ _)
theorem zR.keep {h h':Heap} {a:Addr} {items:Array Value} (x:zR h a items) (k:∀o,h.get? a=some o→h'.get? a=some o):zR h' a items:=by
 obtain ⟨⟨o,e,c⟩,d⟩:=x
 exact .of (k o e) (d o e) ⟨o,k o e,c⟩
section
variable (P:Program) (w:World)
def iM (H:Hp) (h:Heap) (a:Addr):HO→Prop
 |.lst xs=>xs.length≤sizeLine∧∃(its:List Value) (n:Nat),Vals xs its∧h.get? a=some { cls:=.type "list",data:=.seq its.toArray n }
 |.tup xs=>xs.length≤sizeLine∧∃its:List Value,Vals xs its∧zR h a its.toArray
 |.dK kvs=>kvs.length≤sizeLine∧(a == sysModules)=false∧∃vs,KV kvs vs∧h.DictOf (cN P w) a vs
 |.dT kvs=>kvs.length≤sizeLine∧(a == sysModules)=false∧∃xs:List (List Key × Addr × Value),
   Paired (fun (p:List Key × V) (q:List Key × Addr × Value)=>p.1=q.1∧H q.2.1=some (.tup (p.1.map kV))∧RelV p.2 q.2.2) kvs xs ∧
   ∃o es ep,h.get? a=some o∧o.ExactDict∧o.data=.dict es ep∧es.toList=xs.map (entryOfKey (tupleKind (cN P w)))∧(xs.map (·.1)).Nodup
 |.set S n=>h.SetOf (intKind P w) a S n
 |.ins C dx fs=>H dx=some (.own a)∧fs.length≤1000∧dx≠a∧h.get? a=some (PySem.W.instObj C dx) ∧
   ∃mA,h.Ns1 dx mA∧(∀f,aDm (fs.lookup f) (mA f))∧PySem.Within mA (fs.map (·.1))
 |.own _=>∃o,h.get? a=some o
 |.xd fs=>∃mA,h.Ns1 a mA∧∀f,aDm (fs.lookup f) (mA f)
 |.rng lo hi=>∃t u v,h.get? a=some { cls:=.type "range",data:=.fields #[.int lo t,.int hi u,.int 1 v] }
 |.frz o u=>h.get? a=some o∧iM H h a u
 |.tbl ps=>h.get? a=some { cls:=.none,data:=.fields ps }
 |.met f x=>h.get? a=some (PySem.W.methodObj (.ref f) (.ref x))
 |.ext φ=>φ h∧(∃o,h.get? a=some o)∧∀h1 h2:Heap,φ h1→(∀o,h1.get? a=some o→h2.get? a=some o)→φ h2
def HOk (H:Hp) (h:Heap):Prop:=∀a o,H a=some o→iM P w H h a o
end
section
variable {P:Program} {w:World} {H H':Hp} {h h':Heap} {a:Addr} {o:HO}
theorem iM.lt (x:iM P w H h a o):a<h.objs.size:=by
 cases o with
 |lst xs=>obtain ⟨_,_,_,_,e⟩:=x;exact Heap.lt_size e
 |tup xs=>obtain ⟨_,_,_,p⟩:=x;exact p.1.lt
 |dK kvs=>obtain ⟨_,_,_,_,o,_,_,e,_⟩:=x;exact Heap.lt_size e
 |dT kvs=>obtain ⟨_,_,_,_,o,_,_,e,_⟩:=x;exact Heap.lt_size e
 |set S n=>obtain ⟨o,_,_,_,e,_⟩:=x;exact Heap.lt_size e
 |ins C dx fs=>obtain ⟨_,_,_,e,_⟩:=x;exact Heap.lt_size e
 |own y=>obtain ⟨_,e⟩:=x;exact Heap.lt_size e
 |xd fs=>obtain ⟨_,⟨_,_,_,e,_⟩,_⟩:=x;exact Heap.lt_size e
 |rng lo hi=>obtain ⟨_,_,_,e⟩:=x;exact Heap.lt_size e
 |frz ob u=>obtain ⟨e,_⟩:=x;exact Heap.lt_size e
 |tbl ps=>exact Heap.lt_size (show h.get? a=some _ from x)
 |met f y=>exact Heap.lt_size (show h.get? a=some _ from x)
 |ext φ=>obtain ⟨_,⟨_,e⟩,_⟩:=x;exact Heap.lt_size e
theorem Paired.aYt {α β:Type} {F G:α→β→Prop}:∀{l₁:List α} {l₂:List β},Paired F l₁ l₂→(∀a b,F a b→G a b)→Paired G l₁ l₂
 |_,_,.nil,_=>.nil
 |_,_,.cons r t,f=>.cons (f _ _ r) (Paired.aYt t f)
theorem iM.stay (x:iM P w H h a o) (k:∀b u,(b=a∨H b=some (.own a))→h.get? b=some u→h'.get? b=some u)
  (ho:∀b,H b=some (.own a)→H' b=some (.own a)) (ht:∀b xs,H b=some (.tup xs)→H' b=some (.tup xs)):iM P w H' h' a o:=by
 induction o with
 |lst xs=>obtain ⟨z,its,n,r,e⟩:=x;exact ⟨z,its,n,r,k _ _ (.inl rfl) e⟩
 |tup xs=>obtain ⟨z,its,r,p⟩:=x;exact ⟨z,its,r,p.keep fun o e=>k _ _ (.inl rfl) e⟩
 |dK kvs=>obtain ⟨z,y,vs,r,ob,es,ep,e,c⟩:=x;exact ⟨z,y,vs,r,ob,es,ep,k _ _ (.inl rfl) e,c⟩
 |dT kvs=>
  obtain ⟨z,y,xs,r,ob,es,ep,e,c⟩:=x
  exact ⟨z,y,xs,Paired.aYt r fun p q z=>⟨z.1,ht _ _ z.2.1,z.2.2⟩,ob,es,ep,k _ _ (.inl rfl) e,c⟩
 |set S n=>obtain ⟨ob,es,ep,t,e,c⟩:=x;exact ⟨ob,es,ep,t,k _ _ (.inl rfl) e,c⟩
 |ins C dx fs=>
  obtain ⟨d,z,ne,e,mA,⟨od,es,ep,e2,c⟩,r⟩:=x
  exact ⟨ho _ d,z,ne,k _ _ (.inl rfl) e,mA,⟨od,es,ep,k _ _ (.inr d) e2,c⟩,r⟩
 |own y=>obtain ⟨ob,e⟩:=x;exact ⟨ob,k _ _ (.inl rfl) e⟩
 |xd fs=>obtain ⟨mA,⟨od,es,ep,e,c⟩,r⟩:=x;exact ⟨mA,⟨od,es,ep,k _ _ (.inl rfl) e,c⟩,r⟩
 |rng lo hi=>obtain ⟨t,u,v,e⟩:=x;exact ⟨t,u,v,k _ _ (.inl rfl) e⟩
 |frz ob u ih=>obtain ⟨e,q⟩:=x;exact ⟨k _ _ (.inl rfl) e,ih q⟩
 |tbl ps=>
  have e:h.get? a=some { cls:=.none,data:=.fields ps }:=x
  show h'.get? a=some { cls:=.none,data:=.fields ps }
  exact k a _ (.inl rfl) e
 |met f y=>
  have e:h.get? a=some (PySem.W.methodObj (.ref f) (.ref y)):=x
  show h'.get? a=some (PySem.W.methodObj (.ref f) (.ref y))
  exact k a _ (.inl rfl) e
 |ext φ=>obtain ⟨p,⟨o,e⟩,st⟩:=x;exact ⟨st _ _ p fun o q=>k _ _ (.inl rfl) q,⟨o,k _ _ (.inl rfl) e⟩,st⟩
theorem HOk.lt (x:HOk P w H h) (e:H a=some o):a<h.objs.size:=(x a o e).lt
theorem HOk.fresh (x:HOk P w H h) (e:h.objs.size≤a):H a=none:=by
 cases q:H a with
 |none=>rfl
 |some u=>exact absurd (Nat.lt_of_lt_of_le (x.lt q) e) (Nat.lt_irrefl _)
theorem HOk.kept (x:HOk P w H h) (k:∀b u,h.get? b=some u→h'.get? b=some u):HOk P w H h':=fun a o e=>
 (x a o e).stay (fun b u _ q=>k b u q) (fun _ q=>q) fun _ _ q=>q
theorem HOk.laid (x:HOk P w H h) (k:∀b u,h.get? b=some u→h'.get? b=some u) (hp:h.objs.size≤a) (new:iM P w (upd H a o) h' a o):HOk P w (upd H a o) h':=fun b u e=>by
 have hn:=x.fresh hp
 by_cases hb:b=a
 ·subst hb;rw [aQ] at e;cases e;exact new
 ·rw [bH hb] at e
  exact (x b u e).stay (fun c v _ q=>k c v q) (fun c q=>by rw [bH (bD q hn)];exact q) fun c xs q=>by rw [bH (bD q hn)];exact q
end
def Rd (H:Hp) (a:Addr) (u:HO):Prop:=H a=some u∨∃o,H a=some (.frz o u)
theorem Rd.ok {P:Program} {w:World} {H:Hp} {h:Heap} {a:Addr} {u:HO} (r:Rd H a u) (x:HOk P w H h):iM P w H h a u:=by
 rcases r with r|⟨o,r⟩
 ·exact x a u r
 ·obtain ⟨_,q⟩:=x a _ r
  exact q
def Mut:Option HO→Prop
 |some (.lst _)=>True
 |some (.dK _)=>True
 |some (.dT _)=>True
 |some (.set _ _)=>True
 |some (.ins _ _ _)=>True
 |some (.ext _)=>True
 |_=>False
section
variable {P:Program} {w:World} {H:Hp} {h h':Heap} {x e:Addr} {o':HO}
theorem HOk.write (ok:HOk P w H h) (mu:Mut (H x)) (he:e=x∨H e=some (.own x)) (k:∀b u,b≠e→h.get? b=some u→h'.get? b=some u) (heo:∃u,h'.get? e=some u)
  (new:iM P w (upd H x o') h' x o'):HOk P w (upd H x o') h':=fun b u q=>by
 have nown:∀c y,H c=some (.own y)→c≠x:=fun c y r z=>by subst z;rw [r] at mu;exact mu
 have ntup:∀c xs,H c=some (.tup xs)→c≠x:=fun c xs r z=>by subst z;rw [r] at mu;exact mu
 by_cases hb:b=x
 ·subst hb;rw [aQ] at q;cases q;exact new
 ·rw [bH hb] at q
  by_cases hbe:b=e
  ·have q':H b=some (.own x):=by
    rcases he with z|z
    ·exact absurd (hbe.trans z) hb
    ·rw [hbe];exact z
   rw [q] at q';cases q'
   obtain ⟨v,hv⟩:=heo
   exact ⟨v,by rw [hbe];exact hv⟩
  ·refine (ok b u q).stay (fun c v hc r=>k c v ?_ r) (fun c r=>by rw [bH (nown c b r)];exact r) fun c xs r=>by rw [bH (ntup c xs r)];exact r
   rcases hc with rfl|hc
   ·exact hbe
   ·rintro rfl
    rcases he with z|z
    ·exact nown c b hc z
    ·rw [hc] at z;cases z;exact hb rfl
end
structure Un (fs ex:List Addr) (H H':Hp) (h h':Heap):Prop where
 keep:∀b o,h.get? b=some o→H b=none→b∉fs→b∉ex→h'.get? b=some o
 slot:∀b o,h.get? b=some o→H b=none→b∈fs→b∉ex→∃sl,h'.get? b=some { o with slots:=sl }
 free:∀b o,h.get? b=some o→H b=none→b∉ex→H' b=none
 there:∀b o,h.get? b=some o→b∉ex→∃o',h'.get? b=some o'
 tups:∀b xs,H b=some (.tup xs)→H' b=some (.tup xs)
 frzs:∀b o u,H b=some (.frz o u)→H' b=some (.frz o u)
 tbls:∀b ps,H b=some (.tbl ps)→∃more,H' b=some (.tbl (ps++more))
section
variable {fs fs' ex ex':List Addr} {H H1 H2:Hp} {h h1 h2 h':Heap} {a x e:Addr} {o:HO}
theorem Un.any (u:Un fs ex H H1 h h1) {b:Addr} {ob:Obj} (q:h.get? b=some ob) (n:H b=none) (hx:b∉ex):∃sl,h1.get? b=some { ob with slots:=sl }:=by
 by_cases hb:b∈fs
 ·exact u.slot b ob q n hb hx
 ·exact ⟨ob.slots,u.keep b ob q n hb hx⟩
theorem Un.kept (k:∀b u,h.get? b=some u→h'.get? b=some u):Un fs ex H H h h':=
 ⟨fun b ob q _ _ _=>k b ob q,fun b ob q _ _ _=>⟨ob.slots,k b ob q⟩,fun _ _ _ n _=>n,fun b ob q _=>⟨ob,k b ob q⟩,fun _ _ q=>q,fun _ _ _ q=>q,fun _ ps q=>⟨#[],by rw [q];simp⟩⟩
theorem Un.refl:Un fs ex H H h h:=Un.kept fun _ _ q=>q
theorem Un.laid (k:∀b u,h.get? b=some u→h'.get? b=some u) (hp:h.objs.size≤a) (hn:H a=none):Un fs ex H (upd H a o) h h' where
 keep:=fun b u q _ _ _=>k b u q
 slot:=fun b u q _ _ _=>⟨u.slots,k b u q⟩
 free:=fun b u q n _=>by rw [bH (Nat.ne_of_lt (Nat.lt_of_lt_of_le (Heap.lt_size q) hp))];exact n
 there:=fun b u q _=>⟨u,k b u q⟩
 tups:=fun b xs q=>by rw [bH (bD q hn)];exact q
 frzs:=fun b u xs q=>by rw [bH (bD q hn)];exact q
 tbls:=fun b ps q=>⟨#[],by rw [bH (bD q hn),q];simp⟩
theorem Un.write (mu:Mut (H x)) (he:e=x∨H e=some (.own x)) (k:∀b u,b≠e→h.get? b=some u→h'.get? b=some u) (heo:∃u,h'.get? e=some u):Un fs ex H (upd H x o) h h':=by
 have hx:∀b,H b=none→b≠x:=fun b n z=>by subst z;rw [n] at mu;exact mu
 have hb:∀b,H b=none→b≠e:=fun b n z=>by
  subst z
  rcases he with r|r
  ·exact hx b n r
  ·rw [n] at r;cases r
 have hm:∀b u,H b=some u→¬ Mut (some u)→b≠x:=fun b u q nm z=>by subst z;rw [q] at mu;exact nm mu
 refine ⟨fun b u q n _ _=>k b u (hb b n) q,fun b u q n _ _=>⟨u.slots,k b u (hb b n) q⟩,fun b u q n _=>by rw [bH (hx b n)];exact n,fun b u q _=>?_,
  fun b xs q=>by rw [bH (hm b _ q fun z=>z)];exact q,fun b u xs q=>by rw [bH (hm b _ q fun z=>z)];exact q,fun b ps q=>⟨#[],by rw [bH (hm b _ q fun z=>z),q];simp⟩⟩
 by_cases hbe:b=e
 ·subst hbe;exact heo
 ·exact ⟨u,k b u hbe q⟩
end
def trk (h:Heap) (H:Hp):List Addr:=(List.range h.objs.size).filter fun a=>(H a).isSome
def aFe (h:Heap) (H:Hp):Heap:=PySem.W.hideAll h (trk h H)
theorem aPq (h:Heap) (H:Hp):(aFe h H).objs.size=h.objs.size:=PySem.W.hideAll_size _ _
theorem aRj {h:Heap} {H:Hp} {b:Addr} {o:Obj} (e:h.get? b=some o) (n:H b=none):(aFe h H).get? b=some o:=
 PySem.W.hideAll_get _ e fun hm=>by
  have q:(H b).isSome=true:=(List.mem_filter.mp hm).2
  rw [n] at q;simp at q
theorem aU0 {h:Heap} {H:Hp} {b:Addr} {o:Obj} (e:(aFe h H).get? b=some o):h.get? b=some o∧H b=none:=by
 have e':h.get? b=some o:=PySem.W.of_hideAll (trk h H) e
 refine ⟨e',?_⟩
 cases q:H b with
 |none=>rfl
 |some x=>
  have hm:b∈trk h H:=List.mem_filter.mpr ⟨List.mem_range.mpr (Heap.lt_size e'),by simp [q]⟩
  have z:(aFe h H).get? b=none:=PySem.W.hideAll_none (trk h H) hm
  rw [z] at e;cases e
structure Mod (K:PySem.W.Frag) (mg:Str→Option Value) (base:Heap):Prop where
 kin:K.In base
 glob:base.Ns mainGlobals mg
 blt:∃mb,base.Ns builtinsNs mb∧∀x:Str,x≠"__name__"→mb x=bootBuiltins x
 nolimit:base.NoLimit
structure Cx where
 prog:Program
 w:World
 K:PySem.W.Frag
 mg:Str→Option Value
 base:Heap
 A:Around
 N:List Str
 s₀:Shared
 H₀:Hp
 env:Env
 outer:List Env
 stack:List Env
 ex:List Addr
 fn:Str→Bool
 calm:Bool
 pn:List (Addr × Obj)
 xe:Value→Shared→Prop
def frs (l:List Env):List Addr:=l.filterMap (·.frame)
abbrev Cx.fs (X:Cx):List Addr:=frs X.outer
def Vis (sc:Scope) (x:Str):Prop:=sc.names.lookup x=some .local∨sc.names.lookup x=some .cell∨sc.names.lookup x=some .free
def Loc (sc:Scope) (x:Str):Prop:=sc.names.lookup x=some .local∨sc.names.lookup x=some .cell
def Look (env:Env) (h:Heap) (m:Str→Option Value) (x:Str) (u:Value):Prop:=
 (env.kindOf x=some .local∧m x=some u)∨((env.kindOf x=some .cell∨env.kindOf x=some .free)∧∃c,env.cells.lookup x=some c∧h.IsCell c (some u))
structure Cx.Ok (X:Cx):Prop where
 mod:Mod X.K X.mg X.base
 kind:X.env.scope.kind=.function
 glob:X.env.globals=mainGlobals
 blt:X.env.builtins=builtinsNs
 above:X.s₀.heap.objs.size≤X.env.locals
 inj:∀x y c,X.env.cells.lookup x=some c→X.env.cells.lookup y=some c→x=y
 has:∀x,(X.env.kindOf x=some .cell∨X.env.kindOf x=some .free)→∃c,X.env.cells.lookup x=some c
 cab:∀x c,X.fn x=true→X.env.cells.lookup x=some c→X.s₀.heap.objs.size≤c
 hd:X.calm=true→X.A.handled=none
 frames:X.A.frames=some X.stack
 stk:X.stack=X.outer∨(X.stack=X.env::X.outer∧X.env.frame=some X.env.locals)
 exf:∀b∈X.ex,b≠X.env.locals∧∀x c,X.env.cells.lookup x=some c→c≠b
 bs:∀b o,X.base.get? b=some o→X.s₀.heap.get? b=some o∧X.H₀ b=none
 bsz:X.base.objs.size≤X.s₀.heap.objs.size
 noex:∀b o,X.base.get? b=some o→b∉X.ex
 exfs:∀b∈X.ex,b∉X.fs
 funs:X.s₀.heap.FunFrames X.base X.outer
 frf:∀b∈X.fs,X.H₀ b=none
structure Inv (X:Cx) (pins:List (Addr × Obj)) (σ:List (Option V)) (H:Hp) (s:Shared):Prop where
 ok:X.Ok
 os:s.os=X.s₀.os
 bare:AllBare s.gens
 base:Un X.fs X.ex X.H₀ H X.s₀.heap s.heap
 loc:∃m,s.heap.Ns X.env.locals m∧∀(i:Nat) (x:Str) (v:V),X.N[i]?=some x→σ[i]?=some (some v)→Vis X.env.scope x→∃u,RelV v u∧Look X.env s.heap m x u
 cell:∀x c,X.env.cells.lookup x=some c→∃v,s.heap.IsCell c v
 free:H X.env.locals=none
 freeC:∀x c,X.env.cells.lookup x=some c→H c=none
 pin:∀p∈X.pn++pins,s.heap.get? p.1=some p.2∧H p.1=none∧p.1≠X.env.locals∧p.1∉X.fs∧∀v,p.2.data≠.cell v
 hok:HOk X.prog X.w H s.heap
 len:σ.length=X.N.length
section
variable {X:Cx} {pins:List (Addr × Obj)} {σ:List (Option V)} {H H':Hp} {s:Shared} {h':Heap}
theorem Cx.Ok.nofr (ok:X.Ok) {b:Addr} {o:Obj} (e:X.base.get? b=some o):b∉X.fs:=fun hb=>by
 have:=(ok.funs.mem hb).1
 rw [e] at this;cases this
theorem Inv.bs (I:Inv X pins σ H s):∀b o,X.base.get? b=some o→s.heap.get? b=some o∧H b=none:=fun b o e=>
 ⟨I.base.keep b o (I.ok.bs b o e).1 (I.ok.bs b o e).2 (I.ok.nofr e) (I.ok.noex b o e),I.base.free b o (I.ok.bs b o e).1 (I.ok.bs b o e).2 (I.ok.noex b o e)⟩
theorem Inv.bk (I:Inv X pins σ H s):∀b o,X.base.get? b=some o→s.heap.get? b=some o:=fun b o e=>(I.bs b o e).1
theorem Inv.mod (I:Inv X pins σ H s):Mod X.K X.mg X.base:=I.ok.mod
theorem Inv.kIn (I:Inv X pins σ H s):X.K.In s.heap:=I.ok.mod.kin.keeps I.bk
theorem Inv.lt (I:Inv X pins σ H s):X.env.locals<s.heap.objs.size:=let ⟨_,hn,_⟩:=I.loc;hn.lt
theorem Inv.sz (I:Inv X pins σ H s):X.s₀.heap.objs.size≤s.heap.objs.size:=Nat.le_trans I.ok.above (Nat.le_of_lt I.lt)
theorem Inv.nofs (I:Inv X pins σ H s) {a:Addr} (h:s.heap.objs.size≤a):a∉X.fs:=fun hb=>by
 obtain ⟨_,o,ho,_⟩:=I.ok.funs.mem hb
 exact absurd (Nat.lt_of_lt_of_le (Heap.lt_size ho) (Nat.le_trans I.sz h)) (Nat.lt_irrefl _)
theorem Inv.cne (I:Inv X pins σ H s):∀x c,X.env.cells.lookup x=some c→c≠X.env.locals:=fun x c e z=>by
 obtain ⟨v,o,ho,hd⟩:=I.cell x c e
 obtain ⟨m,⟨o',es,ep,ho',hd',_⟩,_⟩:=I.loc
 rw [z,ho'] at ho;cases ho;rw [hd'] at hd;cases hd
theorem Inv.funs (I:Inv X pins σ H s):s.heap.FunFrames X.base X.outer:=by
 have all:∀(l:List Env),(∀b∈frs l,b∈X.fs)→X.s₀.heap.FunFrames X.base l→s.heap.FunFrames X.base l:=by
  intro l
  induction l with
  |nil=>intro _ _;trivial
  |cons env r ih=>
   intro hs hl
   obtain ⟨hk,⟨L,o,hf,hn,ho,hd⟩,hr⟩:=hl
   have hL:L∈X.fs:=hs L (by unfold frs;rw [List.filterMap_cons,hf];exact List.mem_cons_self)
   obtain ⟨sl,e⟩:=I.base.slot L o ho (I.ok.frf L hL) hL fun z=>I.ok.exfs L z hL
   exact ⟨hk,⟨L,_,hf,hn,e,hd⟩,ih (fun b hb=>hs b (by unfold frs;rw [List.filterMap_cons,hf];exact List.mem_cons_of_mem _ hb)) hr⟩
 exact all X.outer (fun _ hb=>hb) I.ok.funs
theorem Inv.stack (I:Inv X pins σ H s):s.heap.FunFrames X.base X.stack:=by
 rcases I.ok.stk with e|⟨e,hf⟩
 ·rw [e];exact I.funs
 ·rw [e]
  obtain ⟨m,hn,_⟩:=I.loc
  refine .cons (by rw [I.ok.kind];decide) hf hn ?_ I.funs
  exact Heap.get?_none_of_le (Nat.le_trans I.ok.bsz I.ok.above)
theorem Inv.aLq (I:Inv X pins σ H s):∀b∈frs X.stack,b∈X.env.locals::X.fs:=fun b hb=>by
 rcases I.ok.stk with e|⟨e,hf⟩
 ·rw [e] at hb;exact List.mem_cons_of_mem _ hb
 ·rw [e] at hb
  unfold frs at hb
  rw [List.filterMap_cons,hf] at hb
  exact hb
theorem Inv.aNi (I:Inv X pins σ H s):∀b∈frs X.stack,H b=none:=fun b hb=>by
 rcases List.mem_cons.mp (I.aLq b hb) with e|hb
 ·rw [e];exact I.free
 ·obtain ⟨_,o,ho,_⟩:=I.ok.funs.mem hb
  exact I.base.free b o ho (I.ok.frf b hb) fun z=>I.ok.exfs b z hb
theorem Inv.step {g':Array GenState} {t':Nat} {d':Drawn} {ch:List Addr} (I:Inv X pins σ H s)
  (hch:∀b∈ch,(b∈X.ex∨X.s₀.heap.objs.size≤b)∧b≠X.env.locals∧(∀x c,X.env.cells.lookup x=some c→c≠b)∧∀p∈X.pn++pins,p.1≠b)
  (keep:∀b o,b≠X.env.locals→b∉X.fs→b∉ch→s.heap.get? b=some o→H b=none→h'.get? b=some o)
  (slot:∀b o,b≠X.env.locals→b∈X.fs→b∉ch→s.heap.get? b=some o→H b=none→∃sl,h'.get? b=some { o with slots:=sl }) (free:∀b o,b∉ch→s.heap.get? b=some o→H b=none→H' b=none)
  (there:∀b o,b∉ch→s.heap.get? b=some o→∃o',h'.get? b=some o')
  (tups:∀b xs,H b=some (.tup xs)→H' b=some (.tup xs)) (frzs:∀b o u,H b=some (.frz o u)→H' b=some (.frz o u)) (tbls:∀b ps,H b=some (.tbl ps)→∃more,H' b=some (.tbl (ps++more)))
  (ns:∀m,s.heap.Ns X.env.locals m→h'.Ns X.env.locals m) (hok:HOk X.prog X.w H' h') (hg:AllBare g') :
  Inv X pins σ H' { s with heap:=h',gens:=g',drawn:=d',toks:=t' }:=by
 have neL:∀b o,X.s₀.heap.get? b=some o→b≠X.env.locals:=fun b o e=>Nat.ne_of_lt (Nat.lt_of_lt_of_le (Heap.lt_size e) I.ok.above)
 have neC:∀b o,X.s₀.heap.get? b=some o→b∉X.ex→b∉ch:=fun b o e hx hb=>by
  rcases (hch b hb).1 with z|z
  ·exact hx z
  ·exact absurd (Nat.lt_of_lt_of_le (Heap.lt_size e) z) (Nat.lt_irrefl _)
 have cellK:∀x c,X.env.cells.lookup x=some c→∀v,s.heap.IsCell c v→h'.IsCell c v:=fun x c e v ⟨o,ho,hd⟩=>by
  have nch:c∉ch:=fun z=>(hch c z).2.2.1 x c e rfl
  by_cases hc:c∈X.fs
  ·obtain ⟨sl,q⟩:=slot c o (I.cne x c e) hc nch ho (I.freeC x c e)
   exact ⟨_,q,hd⟩
  ·exact ⟨o,keep c o (I.cne x c e) hc nch ho (I.freeC x c e),hd⟩
 refine ⟨I.ok,I.os,hg,⟨fun b o e n hb hx=>?_,fun b o e n hb hx=>?_,fun b o e n hx=>?_,fun b o e hx=>?_,fun b xs e=>tups b xs (I.base.tups b xs e),fun b o xs e=>frzs b o xs (I.base.frzs b o xs e),fun b ps e=>?_⟩,?_,fun x c e=>?_,?_,fun x c e=>?_,fun p hp=>?_,hok,I.len⟩
 ·exact keep b o (neL b o e) hb (neC b o e hx) (I.base.keep b o e n hb hx) (I.base.free b o e n hx)
 ·obtain ⟨sl,e1⟩:=I.base.slot b o e n hb hx
  obtain ⟨sl',e2⟩:=slot b _ (neL b o e) hb (neC b o e hx) e1 (I.base.free b o e n hx)
  exact ⟨sl',e2⟩
 ·obtain ⟨o',e1⟩:=I.base.there b o e hx
  exact free b o' (neC b o e hx) e1 (I.base.free b o e n hx)
 ·obtain ⟨o',e1⟩:=I.base.there b o e hx
  exact there b o' (neC b o e hx) e1
 ·obtain ⟨m1,e1⟩:=I.base.tbls b ps e
  obtain ⟨m2,e2⟩:=tbls b _ e1
  exact ⟨m1++m2,by rw [e2,Array.append_assoc]⟩
 ·obtain ⟨m,hn,hl⟩:=I.loc
  refine ⟨m,ns m hn,fun i x v e1 e2 e3=>?_⟩
  obtain ⟨u,r,l⟩:=hl i x v e1 e2 e3
  refine ⟨u,r,?_⟩
  rcases l with l|⟨k,c,e,z⟩
  ·exact .inl l
  ·exact .inr ⟨k,c,e,cellK x c e _ z⟩
 ·obtain ⟨v,z⟩:=I.cell x c e
  exact ⟨v,cellK x c e v z⟩
 ·obtain ⟨m,⟨o,_,_,ho,_⟩,_⟩:=I.loc
  exact free _ o (fun z=>(hch _ z).2.1 rfl) ho I.free
 ·obtain ⟨v,o,ho,hd⟩:=I.cell x c e
  exact free c o (fun z=>(hch c z).2.2.1 x c e rfl) ho (I.freeC x c e)
 ·obtain ⟨e,n,ne,nf,d⟩:=I.pin p hp
  have nch:p.1∉ch:=fun z=>(hch p.1 z).2.2.2 p hp rfl
  exact ⟨keep p.1 p.2 ne nf nch e n,free p.1 p.2 nch e n,ne,nf,d⟩
theorem Inv.un {t':Nat} (I:Inv X pins σ H s) (u:Un X.fs [] H H' s.heap h') (hok:HOk X.prog X.w H' h'):Inv X pins σ H' { s with heap:=h',toks:=t' }:=by
 obtain ⟨m,⟨o,es,ep,ho,r⟩,_⟩:=id I.loc
 obtain ⟨sl,hL⟩:=u.any ho I.free (by simp)
 exact I.step (g':=s.gens) (d':=s.drawn) (ch:=[]) (fun _ z=>nomatch z) (fun b o _ hb _ e n=>u.keep b o e n hb (by simp)) (fun b o _ hb _ e n=>u.slot b o e n hb (by simp)) (fun b o _ e n=>u.free b o e n (by simp)) (fun b o _ e=>u.there b o e (by simp)) u.tups u.frzs u.tbls (fun m' hm=>by
  obtain ⟨o',es',ep',ho',r'⟩:=hm
  rw [ho] at ho';cases ho'
  exact ⟨_,es',ep',hL,r'⟩) hok I.bare
theorem Inv.call {g':Array GenState} {t':Nat} {d':Drawn} {ch:List Addr} (I:Inv X pins σ H s) (u:Un (frs X.stack) ch H H' s.heap h') (hok:HOk X.prog X.w H' h') (hg:AllBare g')
  (hch:∀b∈ch,(b∈X.ex∨X.s₀.heap.objs.size≤b)∧b≠X.env.locals∧(∀x c,X.env.cells.lookup x=some c→c≠b)∧∀p∈X.pn++pins,p.1≠b) :
  Inv X pins σ H' { s with heap:=h',gens:=g',drawn:=d',toks:=t' }:=by
 obtain ⟨m,⟨o,es,ep,ho,r⟩,_⟩:=id I.loc
 obtain ⟨sl,hL⟩:=u.any ho I.free fun z=>(hch _ z).2.1 rfl
 exact I.step (ch:=ch) hch (fun b o hL hb hc e n=>u.keep b o e n (fun z=>(List.mem_cons.mp (I.aLq b z)).elim hL hb) hc) (fun b o _ _ hc e n=>u.any e n hc) (fun b o hc e n=>u.free b o e n hc) (fun b o hc e=>u.there b o e hc) u.tups u.frzs u.tbls (fun m' hm=>by
  obtain ⟨o',es',ep',ho',r'⟩:=hm
  rw [ho] at ho';cases ho'
  exact ⟨_,es',ep',hL,r'⟩) hok hg
theorem Inv.turned {t':Nat} {it:Addr} (I:Inv X pins σ H s) (k:∀b o,b≠it→s.heap.get? b=some o→h'.get? b=some o) (hn:H it=none) (hL:it≠X.env.locals)
  (h1:it∈X.ex∨X.s₀.heap.objs.size≤it) (h2:∀x c,X.env.cells.lookup x=some c→c≠it) (h3:∀p∈X.pn++pins,p.1≠it):Inv X pins σ H { s with heap:=h',toks:=t' }:=by
 have nit:∀b u,H b=some u→b≠it:=fun b u e z=>by rw [z,hn] at e;cases e
 refine I.step (g':=s.gens) (d':=s.drawn) (ch:=[it]) (fun b hb=>?_) (fun b o _ _ hc e _=>k b o (fun z=>hc (by simp [z])) e) (fun b o _ _ hc e _=>⟨o.slots,k b o (fun z=>hc (by simp [z])) e⟩) (fun _ _ _ _ n=>n)
  (fun b o hc e=>⟨o,k b o (fun z=>hc (by simp [z])) e⟩) (fun _ _ e=>e) (fun _ _ _ e=>e) (fun b ps e=>⟨#[],by rw [e];simp⟩) (fun m hm=>?_) (fun b u e=>?_) I.bare
 ·have e:b=it:=by simpa using hb
  subst e
  exact ⟨h1,hL,h2,h3⟩
 ·obtain ⟨o,es,ep,ho,r⟩:=hm
  exact ⟨o,es,ep,k _ o (Ne.symm hL) ho,r⟩
 ·refine (I.hok b u e).stay (fun c v hc q=>k c v ?_ q) (fun _ q=>q) fun _ _ q=>q
  rcases hc with z|z
  ·rw [z];exact nit b u e
  ·exact nit c _ z
theorem Inv.tok (I:Inv X pins σ H s) (t:Nat):Inv X pins σ H { s with toks:=t }:=I.un (h':=s.heap) (t':=t) Un.refl I.hok
theorem Inv.kept {t':Nat} (I:Inv X pins σ H s) (k:∀b u,s.heap.get? b=some u→h'.get? b=some u):Inv X pins σ H { s with heap:=h',toks:=t' }:=I.un (Un.kept k) (I.hok.kept k)
theorem Inv.laid {a:Addr} {o:HO} {t':Nat} (I:Inv X pins σ H s) (k:∀b u,s.heap.get? b=some u→h'.get? b=some u) (hp:s.heap.objs.size≤a) (new:iM X.prog X.w (upd H a o) h' a o) :
  Inv X pins σ (upd H a o) { s with heap:=h',toks:=t' }:=I.un (Un.laid k hp (I.hok.fresh hp)) (I.hok.laid k hp new)
theorem Inv.write {x e:Addr} {o:HO} {t':Nat} (I:Inv X pins σ H s) (mu:Mut (H x)) (he:e=x∨H e=some (.own x)) (k:∀b u,b≠e→s.heap.get? b=some u→h'.get? b=some u) (heo:∃u,h'.get? e=some u)
  (new:iM X.prog X.w (upd H x o) h' x o):Inv X pins σ (upd H x o) { s with heap:=h',toks:=t' }:=I.un (Un.write mu he k heo) (I.hok.write mu he k heo new)
theorem Inv.aN1 {pins':List (Addr × Obj)} (I:Inv X pins σ H s) (h:∀p∈pins',s.heap.get? p.1=some p.2∧H p.1=none∧p.1≠X.env.locals∧p.1∉X.fs∧∀v,p.2.data≠.cell v):Inv X pins' σ H s:=
 ⟨I.ok,I.os,I.bare,I.base,I.loc,I.cell,I.free,I.freeC,fun p hp=>(List.mem_append.mp hp).elim (fun z=>I.pin p (List.mem_append_left _ z)) (h p),I.hok,I.len⟩
theorem aJ7 {N:List Str} (hN:N.Nodup) {i j:Nat} {x:Str} (a:N[i]?=some x) (b:N[j]?=some x):i=j:=by
 obtain ⟨h1,e1⟩:=List.getElem?_eq_some_iff.mp a
 obtain ⟨h2,e2⟩:=List.getElem?_eq_some_iff.mp b
 exact (List.getElem_inj hN).mp (e1.trans e2.symm)
theorem aEs {M:Model} {A:Around} {E:Value→Shared→Prop} {i:Nat} {x:Str} {v:V} {u:Value} {Q:Unit→Shared→Prop} (I:Inv X pins σ H s) (hN:X.N.Nodup) (hi:X.N[i]?=some x) (hx:Loc X.env.scope x) (r:RelV v u)
  (h:∀s',Inv X pins (σ.set i (some v)) H s'→(∃a,Heap.SameBut a s.heap s'.heap∧(a=X.env.locals∨X.env.cells.lookup x=some a))→Q () s') (hf:X.fn x=true∨X.env.scope.names.lookup x=some .local:=by first|exact .inl rfl|exact .inr rfl|assumption):wpAny M A (storeName X.env x u) Q E s:=by
 obtain ⟨m,hn,hl⟩:=id I.loc
 have hcls:(X.env.scope.kind == .class || (X.env.scope.kind == .module && X.env.locals != X.env.globals))=false:=by rw [I.ok.kind];rfl
 have hiσ:i<σ.length:=by rw [I.len];exact (List.getElem?_eq_some_iff.mp hi).1
 have cne:=I.cne
 have tracked:∀{a:Addr} {h':Heap},(∃o,s.heap.get? a=some o∧H a=none)→Heap.SameBut a s.heap h'→HOk X.prog X.w H h':=fun {a h'} ha hs b ob e=>by
  obtain ⟨_,_,hfree⟩:=ha
  refine (I.hok b ob e).stay (fun c w' hc q=>(hs.2 c ?_).trans q) (fun _ q=>q) fun _ _ q=>q
  rintro rfl
  rcases hc with rfl|hc
  ·rw [hfree] at e;cases e
  ·rw [hfree] at hc;cases hc
 rcases hx with hk|hk
 ·refine wpAny_storeName_local hk hn (fun h' hn' hs=>?_) hcls
  obtain ⟨oL,_,_,hoL,_⟩:=id hn
  refine h _ ⟨I.ok,I.os,I.bare,⟨fun b o e n hb hx=>?_,fun b o e n hb hx=>?_,I.base.free,fun b o e hx=>?_,I.base.tups,I.base.frzs,I.base.tbls⟩,⟨_,hn',fun j y v' e1 e2 e3=>?_⟩,fun y c e=>?_,I.free,I.freeC,fun p hp=>?_,tracked ⟨oL,hoL,I.free⟩ hs,by simpa using I.len⟩ ⟨_,hs,.inl rfl⟩
  ·exact (hs.2 b (Nat.ne_of_lt (Nat.lt_of_lt_of_le (Heap.lt_size e) I.ok.above))).trans (I.base.keep b o e n hb hx)
  ·obtain ⟨sl,e1⟩:=I.base.slot b o e n hb hx
   exact ⟨sl,(hs.2 b (Nat.ne_of_lt (Nat.lt_of_lt_of_le (Heap.lt_size e) I.ok.above))).trans e1⟩
  ·obtain ⟨o',e1⟩:=I.base.there b o e hx
   exact ⟨o',(hs.2 b (Nat.ne_of_lt (Nat.lt_of_lt_of_le (Heap.lt_size e) I.ok.above))).trans e1⟩
  ·by_cases hj:j=i
   ·subst hj
    rw [hi] at e1;cases e1
    rw [List.getElem?_set_self hiσ] at e2
    cases e2
    exact ⟨u,r,.inl ⟨hk,by simp⟩⟩
   ·rw [List.getElem?_set_ne (Ne.symm hj)] at e2
    obtain ⟨u',r',q⟩:=hl j y v' e1 e2 e3
    refine ⟨u',r',?_⟩
    rcases q with ⟨k,e⟩|⟨k,c,e,z⟩
    ·refine .inl ⟨k,?_⟩
     have:y≠x:=fun e=>hj (aJ7 hN e1 (e ▸ hi))
     simp [this,e]
    ·exact .inr ⟨k,c,e,z.sameBut hs (cne y c e)⟩
  ·obtain ⟨w',z⟩:=I.cell y c e
   exact ⟨w',z.sameBut hs (cne y c e)⟩
  ·obtain ⟨e,n,ne,nf,d⟩:=I.pin p hp
   exact ⟨(hs.2 p.1 ne).trans e,n,ne,nf,d⟩
 ·have hfn:X.fn x=true:=by
   rcases hf with z|z
   ·exact z
   ·rw [z] at hk;cases hk
  obtain ⟨c,hc⟩:=I.ok.has x (.inl hk)
  obtain ⟨w',z⟩:=I.cell x c hc
  refine wpAny_storeName_cell I.ok.kind hk hc z (fun h' hc' hs=>?_)
  obtain ⟨oc,hoc,hocd⟩:=id z
  refine h { s with heap:=h' } ⟨I.ok,I.os,I.bare,⟨fun b o e n hb hx=>?_,fun b o e n hb hx=>?_,I.base.free,fun b o e hx=>?_,I.base.tups,I.base.frzs,I.base.tbls⟩,⟨m,hn.sameBut hs (Ne.symm (cne x c hc)),fun j y v' e1 e2 e3=>?_⟩,fun y c' e=>?_,I.free,I.freeC,fun p hp=>?_,tracked ⟨oc,hoc,I.freeC x c hc⟩ hs,by simpa using I.len⟩ ⟨c,hs,.inr hc⟩
  ·exact (hs.2 b (Nat.ne_of_lt (Nat.lt_of_lt_of_le (Heap.lt_size e) (I.ok.cab x c hfn hc)))).trans (I.base.keep b o e n hb hx)
  ·obtain ⟨sl,e1⟩:=I.base.slot b o e n hb hx
   exact ⟨sl,(hs.2 b (Nat.ne_of_lt (Nat.lt_of_lt_of_le (Heap.lt_size e) (I.ok.cab x c hfn hc)))).trans e1⟩
  ·obtain ⟨o',e1⟩:=I.base.there b o e hx
   exact ⟨o',(hs.2 b (Nat.ne_of_lt (Nat.lt_of_lt_of_le (Heap.lt_size e) (I.ok.cab x c hfn hc)))).trans e1⟩
  ·by_cases hj:j=i
   ·subst hj
    rw [hi] at e1;cases e1
    rw [List.getElem?_set_self hiσ] at e2
    cases e2
    exact ⟨u,r,.inr ⟨.inl hk,c,hc,hc'⟩⟩
   ·rw [List.getElem?_set_ne (Ne.symm hj)] at e2
    obtain ⟨u',r',q⟩:=hl j y v' e1 e2 e3
    refine ⟨u',r',?_⟩
    rcases q with q|⟨k,c',e,z'⟩
    ·exact .inl q
    ·refine .inr ⟨k,c',e,z'.sameBut hs ?_⟩
     rintro rfl
     exact hj (aJ7 hN e1 (I.ok.inj _ _ _ e hc ▸ hi))
  ·by_cases hcc:c'=c
   ·subst hcc;exact ⟨_,hc'⟩
   ·obtain ⟨w2,z2⟩:=I.cell y c' e
    exact ⟨w2,z2.sameBut hs hcc⟩
  ·obtain ⟨e,n,ne,nf,d⟩:=I.pin p hp
   refine ⟨(hs.2 p.1 ?_).trans e,n,ne,nf,d⟩
   intro q
   rw [q,hoc] at e
   have q':oc=p.2:=Option.some.inj e
   exact d w' (by rw [←q'];exact hocd)
theorem aJ5 {M:Model} {A:Around} {E:Value→Shared→Prop} {i:Nat} {x:Str} {v:V} {u:Value} {Q:Unit→Shared→Prop} (I:Inv X pins σ H s) (hN:X.N.Nodup) (hi:X.N[i]?=some x) (hx:Loc X.env.scope x) (r:RelV v u)
  (h:∀s',Inv X pins (σ.set i (some v)) H s'→Q () s') (hf:X.fn x=true∨X.env.scope.names.lookup x=some .local:=by first|exact .inl rfl|exact .inr rfl|assumption):wpAny M A (storeName X.env x u) Q E s:=
 aEs I hN hi hx r (fun s' I' _=>h s' I') hf
theorem Inv.call' {s':Shared} {ch:List Addr} (I:Inv X pins σ H s) (ho:s'.os=s.os) (u:Un (frs X.stack) ch H H' s.heap s'.heap) (hok:HOk X.prog X.w H' s'.heap) (hg:AllBare s'.gens)
  (hch:∀b∈ch,(b∈X.ex∨X.s₀.heap.objs.size≤b)∧b≠X.env.locals∧(∀x c,X.env.cells.lookup x=some c→c≠b)∧∀p∈X.pn++pins,p.1≠b):Inv X pins σ H' s':=by
 obtain ⟨h',g',d',t',o'⟩:=s'
 have e:o'=s.os:=ho
 subst e
 exact I.call (g':=g') (t':=t') (d':=d') u hok hg hch
end
abbrev XK:=Value→Option Addr→Hp→Prop
abbrev St:=List (Option V)
abbrev VK:=V→Hp→Prop
abbrev TE:=St→Hp→VK→Prop
abbrev TT:=St→Hp→(Bool→Hp→Prop)→Prop
abbrev TA:=St→Hp→(List V→Hp→Prop)→Prop
structure Ends where
 nx:St→Hp→Prop
 rt:VK
 bk:St→Hp→Prop:=fun _ _=>False
 ct:St→Hp→Prop:=fun _ _=>False
abbrev TS:=Ends→St→Hp→Prop
def EP (X:Cx) (pins:List (Addr × Obj)) (σ:St) (Q:VK) (u:Value) (s':Shared):Prop:=∃v H',Inv X pins σ H' s'∧RelV v u∧Q v H'
def TP (X:Cx) (pins:List (Addr × Obj)) (σ:St) (Q:Bool→Hp→Prop) (b:Bool) (s':Shared):Prop:=∃H',Inv X pins σ H' s'∧Q b H'
def AP (X:Cx) (pins:List (Addr × Obj)) (σ:St) (Q:List V→Hp→Prop) (us:List Value) (s':Shared):Prop:=∃vs H',Inv X pins σ H' s'∧Vals vs us∧Q vs H'
def SP (X:Cx) (pins:List (Addr × Obj)) (D:Ends) (f:Flow) (s':Shared):Prop:=
 match f with
 |.next=>∃σ' H',Inv X pins σ' H' s'∧D.nx σ' H'
 |.brk=>∃σ' H',Inv X pins σ' H' s'∧D.bk σ' H'
 |.cont=>∃σ' H',Inv X pins σ' H' s'∧D.ct σ' H'
 |.ret u=>∃v σ' H',Inv X pins σ' H' s'∧RelV v u∧D.rt v H'
def PE (X:Cx) (e:Expr) (t:TE):Prop:=
 ∀(pins:List (Addr × Obj)) (s:Shared) (σ:St) (H:Hp) (Q:VK),Inv X pins σ H s→t σ H Q→wpAny (model X.prog X.w) X.A (eval e X.env) (EP X pins σ Q) X.xe s
def PT (X:Cx) (e:Expr) (t:TT):Prop:=
 ∀(pins:List (Addr × Obj)) (s:Shared) (σ:St) (H:Hp) (Q:Bool→Hp→Prop),Inv X pins σ H s→t σ H Q→wpAny (model X.prog X.w) X.A (isTrue e X.env (eval e X.env)) (TP X pins σ Q) X.xe s
def PW (X:Cx) (e:Expr) (t:TT):Prop:=
 ∀(whole:Sem Value) (pins:List (Addr × Obj)) (s:Shared) (σ:St) (H:Hp) (Q:Bool→Hp→Prop),Inv X pins σ H s→t σ H Q→wpAny (model X.prog X.w) X.A (isTrue e X.env whole) (TP X pins σ Q) X.xe s
theorem PW.pt {X:Cx} {e:Expr} {t:TT} (h:PW X e t):PT X e t:=h _
def PA (X:Cx) (es:List Expr) (t:TA):Prop:=
 ∀(pos:Pos) (pins:List (Addr × Obj)) (s:Shared) (σ:St) (H:Hp) (Q:List V→Hp→Prop),Inv X pins σ H s→t σ H Q→wpAny (model X.prog X.w) X.A (spliced (backTo pos (starEach es X.env))) (AP X pins σ Q) X.xe s
def PS (X:Cx) (st:Stmt) (t:TS):Prop:=
 ∀(pins:List (Addr × Obj)) (s:Shared) (σ:St) (H:Hp) (D:Ends),Inv X pins σ H s→t D σ H→wpAny (model X.prog X.w) X.A (exec st X.env) (SP X pins D) X.xe s
def PSs (X:Cx) (st:List Stmt) (t:TS):Prop:=
 ∀(pins:List (Addr × Obj)) (s:Shared) (σ:St) (H:Hp) (D:Ends),Inv X pins σ H s→t D σ H→wpAny (model X.prog X.w) X.A (execs st X.env) (SP X pins D) X.xe s
theorem thn {α:Type} {t:Sem α} {Q Q':α→Shared→Prop} {M:Model} {A:Around} {E:Value→Shared→Prop} {s:Shared} (h:wpAny M A t Q E s) (hQ:∀a s,Q a s→Q' a s):wpAny M A t Q' E s:=wpAny_mono h hQ fun _ _ x=>x
section
variable {X:Cx}
def uR (i:Nat):TE:=fun σ H Q=>∃v,σ[i]?=some (some v)∧Q v H
def tC (v:V):TE:=fun _ H Q=>Q v H
theorem aXi {i:Nat} {x:Str} {pos:Pos} (hN:X.N[i]?=some x) (hv:Vis X.env.scope x) (hd:(x == ("__debug__":Str))=false:=by decide) (hcd:(x == ("__classdict__":Str))=false:=by decide):PE X (.Name x pos) (uR i):=by
 intro pins s σ H Q I h
 obtain ⟨v,e,h⟩:=h
 obtain ⟨m,hn,hl⟩:=I.loc
 obtain ⟨u,r,l⟩:=hl i x v hN e hv
 have fin:EP X pins σ Q u s:=⟨v,H,I,r,h⟩
 rcases l with ⟨hk,hm⟩|⟨hk,c,hc,hcell⟩
 ·exact wpAny_Name (wpAny_loadName_local I.ok.kind hk hn hm fin) hd
 ·rcases hk with hk|hk
  ·exact wpAny_Name (wpAny_loadName_cell I.ok.kind hk hc hcell fin) hd
  ·exact wpAny_Name (wpAny_loadName_free I.ok.kind hk hc hcell fin hcd) hd
theorem aYk {i j pos}:PE X (.Constant (.int i) j pos) (tC (.int i)):=fun _ _ _ H _ I h=>wpAny_Constant_int ⟨.int i,H,I.tok _,⟨_,rfl⟩,h⟩
theorem aZw {b j pos}:PE X (.Constant (.bool b) j pos) (tC (.bl b)):=fun _ _ _ H _ I h=>Constant_bool ⟨.bl b,H,I,rfl,h⟩
theorem aW0 {j pos}:PE X (.Constant .none j pos) (tC .non):=fun _ _ _ H _ I h=>Constant_none ⟨.non,H,I,rfl,h⟩
theorem aWt {x j pos}:PE X (.Constant (.str x) j pos) (tC (.str x)):=fun _ _ _ H _ I h=>Calls.Constant_str ⟨.str x,H,I.tok _,⟨_,rfl⟩,h⟩
def Gl (X:Cx) (x:Str):Prop:=X.env.kindOf x=some .globalImplicit
theorem aHc {E:Value→Shared→Prop} {pins:List (Addr × Obj)} {s:Shared} {σ:St} {H:Hp} {x:Str} {u:Value} {pos:Pos} {Q:Value→Shared→Prop} (I:Inv X pins σ H s) (hg:Gl X x) (hm:X.mg x=some u) (h:Q u s)
  (hd:(x == ("__debug__":Str))=false:=by decide):wpAny (model X.prog X.w) X.A (eval (.Name x pos) X.env) Q E s:=
 Calls.Name_function_global I.ok.kind hg (Calls.loadGlobal_global (by rw [I.ok.glob];exact I.mod.glob.keeps I.bk) hm h) hd
theorem qT {E:Value→Shared→Prop} {pins:List (Addr × Obj)} {s:Shared} {σ:St} {H:Hp} {x:Str} {u:Value} {pos:Pos} {Q:Value→Shared→Prop} (I:Inv X pins σ H s) (hg:Gl X x) (hm:X.mg x=none) (hv:bootBuiltins x=some u) (h:Q u s)
  (hn:x≠"__name__":=by decide) (hd:(x == ("__debug__":Str))=false:=by decide):wpAny (model X.prog X.w) X.A (eval (.Name x pos) X.env) Q E s:=by
 obtain ⟨mb,h1,h2⟩:=I.mod.blt
 exact Calls.Name_function_global I.ok.kind hg (Calls.loadGlobal_builtin (by rw [I.ok.glob];exact I.mod.glob.keeps I.bk) hm (by rw [I.ok.blt];exact h1.keeps I.bk) ((h2 x hn).trans hv) h) hd
theorem aUa {x:Str} {v:V} {u:Value} {pos:Pos} (hg:Gl X x) (hm:X.mg x=some u) (r:RelV v u) (hd:(x == ("__debug__":Str))=false:=by decide):PE X (.Name x pos) (tC v):=
 fun _ _ _ H _ I h=>aHc I hg hm ⟨v,H,I,r,h⟩ hd
theorem aVi {x:Str} {v:V} {u:Value} {pos:Pos} (hg:Gl X x) (hm:X.mg x=none) (hv:bootBuiltins x=some u) (r:RelV v u) (hn:x≠"__name__":=by decide) (hd:(x == ("__debug__":Str))=false:=by decide):PE X (.Name x pos) (tC v):=
 fun _ _ _ H _ I h=>qT I hg hm hv ⟨v,H,I,r,h⟩ hn hd
variable {a b:Expr} {ta tb:TE} {pos:Pos}
def PC (X:Cx) (op:CmpOp) (a b:Expr) (t:TE):Prop:=
 ∀(pins:List (Addr × Obj)) (s:Shared) (σ:St) (H:Hp) (Q:VK),Inv X pins σ H s→t σ H Q →
  wpAny (model X.prog X.w) X.A (eval a X.env) (fun v s₁=>wpAny (model X.prog X.w) X.A (eval b X.env) (fun u s₂=>wpAny (model X.prog X.w) X.A (compareOp op v u) (EP X pins σ Q) X.xe s₂) X.xe s₁) X.xe s
def tB (t:TE):TT:=fun σ H Q=>t σ H fun x H1=>∃c,x=.bl c∧Q c H1
theorem aR0 {op:CmpOp} {t:TE} (h:PC X op a b t) (h1:behindInMarks op b=false:=by first|exact nobehind _ (by decide) (by decide)|rfl):PT X (.Compare a [op] [b] pos) (tB t):=by
 intro pins s σ H Q I hw
 refine wpAny_isTrue_Compare1 (thn (h pins s σ H _ I hw) fun v s1 h1=>thn h1 fun u s2 h2=>thn h2 fun c s3 ⟨x,H1,I1,r1,q1⟩=>?_) h1
 obtain ⟨d,rfl,q⟩:=q1
 cases r1
 exact wpAny_truthy_bool ⟨H1,I1,q⟩
theorem aYp {e:Expr} {t:TE} (h:PE X e t) (he:∀whole,isTrue e X.env whole=(do let v ←whole;standAt e.pos;holding [v] (truthy v)):=by intro _;rfl):PT X e (tB t):=by
 intro pins s σ H Q I hw
 refine isTrue_plain (thn (h pins s σ H _ I hw) fun v s1 ⟨x,H1,I1,r1,q1⟩=>?_) (he _)
 obtain ⟨d,rfl,q⟩:=q1
 cases r1
 exact wpAny_truthy_bool ⟨H1,I1,q⟩
variable {tA tB':TT} {rest:List Expr}
def aZ8 (t u:TT):TT:=fun σ H Q=>t σ H fun c H1=>if c=true then u σ H1 Q else Q false H1
def tOr (t u:TT):TT:=fun σ H Q=>t σ H fun c H1=>if c=true then Q true H1 else u σ H1 Q
def aZu (t:TT):TT:=fun σ H Q=>t σ H fun c H1=>Q (!c) H1
theorem aVq (ha:PT X a tA):PW X (.BoolOp .And [a] pos) tA:=by
 intro wh pins s σ H Q I h
 refine isTrue_and (thn (ha pins s σ H Q I h) fun c s1 e=>?_)
 cases c with
 |true=>exact isTrue_and_nil e
 |false=>exact e
theorem aWx (ha:PT X a tA):PW X (.BoolOp .Or [a] pos) tA:=by
 intro wh pins s σ H Q I h
 refine isTrue_or (thn (ha pins s σ H Q I h) fun c s1 e=>?_)
 cases c with
 |false=>exact isTrue_or_nil e
 |true=>exact e
theorem aYv (ha:PT X a tA) (hb:PW X (.BoolOp .And (b::rest) pos) tB'):PW X (.BoolOp .And (a::b::rest) pos) (aZ8 tA tB'):=by
 intro wh pins s σ H Q I h
 refine isTrue_and (thn (ha pins s σ H _ I h) fun c s1 ⟨H1,I1,q1⟩=>?_)
 cases c with
 |true=>exact hb wh pins s1 σ H1 Q I1 q1
 |false=>exact ⟨H1,I1,q1⟩
theorem aZm (ha:PT X a tA) (hb:PW X (.BoolOp .Or (b::rest) pos) tB'):PW X (.BoolOp .Or (a::b::rest) pos) (tOr tA tB'):=by
 intro wh pins s σ H Q I h
 refine isTrue_or (thn (ha pins s σ H _ I h) fun c s1 ⟨H1,I1,q1⟩=>?_)
 cases c with
 |true=>exact ⟨H1,I1,q1⟩
 |false=>exact hb wh pins s1 σ H1 Q I1 q1
theorem aW7 (ha:PT X a tA):PT X (.UnaryOp .Not a pos) (aZu tA):=by
 intro pins s σ H Q I h
 exact isTrue_not (ha pins s σ H (fun c H1=>Q (!c) H1) I h)
def aWe (ta tb:TE):TE:=fun σ H Q=>ta σ H fun x H1=>∃c,x=.bl c∧if c=true then tb σ H1 Q else Q (.bl false) H1
def aZ9 (ta tb:TE):TE:=fun σ H Q=>ta σ H fun x H1=>∃c,x=.bl c∧if c=true then Q (.bl true) H1 else tb σ H1 Q
def aVx (ta:TE):TE:=fun σ H Q=>ta σ H fun x H1=>∃c,x=.bl c∧Q (.bl (!c)) H1
theorem aXa {op} {t:TE} (h:PE X a t):PE X (.BoolOp op [a] pos) t:=fun pins s σ H Q I hw=>BoolOp_one (h pins s σ H Q I hw)
theorem aXs (ha:PE X a ta) (hb:PE X (.BoolOp .And (b::rest) pos) tb):PE X (.BoolOp .And (a::b::rest) pos) (aWe ta tb):=by
 intro pins s σ H Q I h
 refine BoolOp_and (thn (ha pins s σ H _ I h) fun v s1 ⟨x,H1,I1,r1,q1⟩=>?_)
 obtain ⟨c,rfl,q1⟩:=q1
 cases r1
 refine wpAny_truthy_bool ?_
 cases c with
 |true=>exact hb pins s1 σ H1 Q I1 q1
 |false=>exact ⟨.bl false,H1,I1,rfl,q1⟩
theorem aZ5 (ha:PE X a ta) (hb:PE X (.BoolOp .Or (b::rest) pos) tb):PE X (.BoolOp .Or (a::b::rest) pos) (aZ9 ta tb):=by
 intro pins s σ H Q I h
 refine BoolOp_or (thn (ha pins s σ H _ I h) fun v s1 ⟨x,H1,I1,r1,q1⟩=>?_)
 obtain ⟨c,rfl,q1⟩:=q1
 cases r1
 refine wpAny_truthy_bool ?_
 cases c with
 |false=>exact hb pins s1 σ H1 Q I1 q1
 |true=>exact ⟨.bl true,H1,I1,rfl,q1⟩
theorem aWs (ha:PE X a ta):PE X (.UnaryOp .Not a pos) (aVx ta):=by
 intro pins s σ H Q I h
 refine UnaryOp_ (thn (ha pins s σ H _ I h) fun v s1 ⟨x,H1,I1,r1,q1⟩=>?_)
 obtain ⟨c,rfl,q1⟩:=q1
 cases r1
 exact not_of (wpAny_truthy_bool ⟨.bl (!c),H1,I1,rfl,q1⟩)
def tIf (t:TT) (ta tb:TE):TE:=fun σ H Q=>t σ H fun c H1=>if c=true then ta σ H1 Q else tb σ H1 Q
theorem aSl {c:Expr} (hc:PT X c tA) (ha:PE X a ta) (hb:PE X b tb):PE X (.IfExp c a b pos) (tIf tA ta tb):=by
 intro pins s σ H Q I h
 refine wpAny_IfExp (thn (hc pins s σ H _ I h) fun d s1 ⟨H1,I1,q1⟩=>?_)
 cases d with
 |true=>exact ha pins s1 σ H1 Q I1 q1
 |false=>exact hb pins s1 σ H1 Q I1 q1
end
def SqL (K:PySem.W.Frag) (H:Hp) (a:Addr) (xs:List V):Prop:=
 Rd H a (.lst xs) ∨
  ∃(o:Obj) (its:Array Value) (n:Nat),K.lookup a=some o∧o.cls=.type "list"∧o.dict=none∧o.data=.seq its n∧its.size≤sizeLine∧Vals xs its.toList
def SqT (K:PySem.W.Frag) (H:Hp) (a:Addr) (xs:List V):Prop:=
 Rd H a (.tup xs) ∨
  ∃(o:Obj) (its:Array Value) (n:Nat),K.lookup a=some o∧o.cls=.type "tuple"∧o.dict=none∧o.data=.seq its n∧its.size≤sizeLine∧Vals xs its.toList
def bAp:Value→Option V
 |.none=>some .non
 |.bool b=>some (.bl b)
 |.int i _=>some (.int i)
 |.str x _=>some (.str x)
 |.bytes b _=>some (.byt b)
 |.float b _=>some (.flt b)
 |.ref a=>some (.ref a)
 |.type n=>some (.ty n)
 |_=>none
theorem RelV.abs {x:V} {u:Value} (r:RelV x u):bAp u=some x:=by
 cases x with
 |non=>cases r;rfl
 |bl _=>cases r;rfl
 |int _=>obtain ⟨t,rfl⟩:=r;rfl
 |str _=>obtain ⟨t,rfl⟩:=r;rfl
 |byt _=>obtain ⟨t,rfl⟩:=r;rfl
 |flt _=>obtain ⟨t,rfl⟩:=r;rfl
 |ref _=>cases r;rfl
 |ty _=>cases r;rfl
theorem RelV.inj {x y:V} {u:Value} (r:RelV x u) (q:RelV y u):x=y:=Option.some.inj (r.abs.symm.trans q.abs)
theorem Vals.inj:∀{xs ys:List V} {us:List Value},Vals xs us→Vals ys us→xs=ys
 |_,_,_,.nil,.nil=>rfl
 |_,_,_,.cons r t,.cons r' t'=>by rw [r.inj r',Vals.inj t t']
section
variable {X:Cx} {pins:List (Addr × Obj)} {σ:St} {H:Hp} {s:Shared} {a:Addr} {xs ys:List V}
theorem SqL.of {K:PySem.W.Frag} (h:H a=some (.lst xs)):SqL K H a xs:=.inl (.inl h)
theorem SqT.of {K:PySem.W.Frag} (h:H a=some (.tup xs)):SqT K H a xs:=.inl (.inl h)
theorem Inv.list (I:Inv X pins σ H s) (h:SqL X.K H a xs):∃its:List Value,Vals xs its∧PlainL s.heap a its.toArray∧xs.length≤sizeLine:=by
 rcases h with h|⟨o,its,n,hk,hc,hd,hs,hz,r⟩
 ·obtain ⟨z,its,n,r,e⟩:=h.ok I.hok
  exact ⟨its,r,⟨_,n,e,rfl,rfl,rfl⟩,z⟩
 ·refine ⟨its.toList,r,⟨o,n,I.kIn a o hk,hc,hd,by simpa using hs⟩,?_⟩
  have e:=r.length
  simp only [Array.length_toList] at e
  lia
theorem Inv.tuple (I:Inv X pins σ H s) (h:SqT X.K H a xs):∃its:List Value,Vals xs its∧IsTup s.heap a its.toArray∧xs.length≤sizeLine:=by
 rcases h with h|⟨o,its,n,hk,hc,hd,hs,hz,r⟩
 ·obtain ⟨z,its,r,p⟩:=h.ok I.hok
  exact ⟨its,r,p.1,z⟩
 ·refine ⟨its.toList,r,⟨o,I.kIn a o hk,hc,n,by simpa using hs⟩,?_⟩
  have e:=r.length
  simp only [Array.length_toList] at e
  lia
theorem Inv.bBa (I:Inv X pins σ H s) (h:SqT X.K H a xs):∃its:List Value,Vals xs its∧zR s.heap a its.toArray∧xs.length≤sizeLine:=by
 rcases h with h|⟨o,its,n,hk,hc,hd,hs,hz,r⟩
 ·obtain ⟨z,its,r,p⟩:=h.ok I.hok
  exact ⟨its,r,p,z⟩
 ·refine ⟨its.toList,r,.of (I.kIn a o hk) hd ⟨o,I.kIn a o hk,hc,n,by simpa using hs⟩,?_⟩
  have e:=r.length
  simp only [Array.length_toList] at e
  lia
theorem Inv.aR1 (I:Inv X pins σ H s) (h:SqL X.K H a xs) (h':SqL X.K H a ys):xs=ys:=by
 obtain ⟨its,r,⟨o,n,e,_,_,d⟩,_⟩:=I.list h
 obtain ⟨its',r',⟨o',n',e',_,_,d'⟩,_⟩:=I.list h'
 rw [e] at e';cases e'
 rw [d] at d'
 injection d' with d1 _
 have:its=its':=by simpa using congrArg Array.toList d1
 subst this
 exact r.inj r'
theorem Inv.yQ (I:Inv X pins σ H s) (h:SqT X.K H a xs) (h':SqT X.K H a ys):xs=ys:=by
 obtain ⟨its,r,⟨o,e,_,n,d⟩,_⟩:=I.tuple h
 obtain ⟨its',r',⟨o',e',_,n',d'⟩,_⟩:=I.tuple h'
 rw [e] at e';cases e'
 rw [d] at d'
 injection d' with d1 _
 have:its=its':=by simpa using congrArg Array.toList d1
 subst this
 exact r.inj r'
end
abbrev Cx.wish (X:Cx) (E:Value→Shared→Prop):Cx:={ X with xe:=E }
abbrev Cx.nox (X:Cx):Cx:=X.wish fun _ _=>False
theorem Cx.Ok.wish {X:Cx} (ok:X.Ok) (E:Value→Shared→Prop):(X.wish E).Ok:=
 ⟨ok.mod,ok.kind,ok.glob,ok.blt,ok.above,ok.inj,ok.has,ok.cab,ok.hd,ok.frames,ok.stk,ok.exf,ok.bs,ok.bsz,ok.noex,ok.exfs,ok.funs,ok.frf⟩
theorem Cx.Ok.sU {X:Cx} {E:Value→Shared→Prop} (ok:(X.wish E).Ok):X.Ok:=
 ⟨ok.mod,ok.kind,ok.glob,ok.blt,ok.above,ok.inj,ok.has,ok.cab,ok.hd,ok.frames,ok.stk,ok.exf,ok.bs,ok.bsz,ok.noex,ok.exfs,ok.funs,ok.frf⟩
section
variable {X:Cx} {pins:List (Addr × Obj)} {σ:St} {H:Hp} {s:Shared} {E:Value→Shared→Prop}
theorem Inv.wish (I:Inv X pins σ H s) (E:Value→Shared→Prop):Inv (X.wish E) pins σ H s:=⟨I.ok.wish E,I.os,I.bare,I.base,I.loc,I.cell,I.free,I.freeC,I.pin,I.hok,I.len⟩
theorem Inv.sU (I:Inv (X.wish E) pins σ H s):Inv X pins σ H s:=⟨I.ok.sU,I.os,I.bare,I.base,I.loc,I.cell,I.free,I.freeC,I.pin,I.hok,I.len⟩
theorem SP.sU {D:Ends} {f:Flow} {s':Shared} (h:SP (X.wish E) pins D f s'):SP X pins D f s':=by
 cases f with
 |next=>obtain ⟨σ',H',I,q⟩:=h;exact ⟨σ',H',I.sU,q⟩
 |brk=>obtain ⟨σ',H',I,q⟩:=h;exact ⟨σ',H',I.sU,q⟩
 |cont=>obtain ⟨σ',H',I,q⟩:=h;exact ⟨σ',H',I.sU,q⟩
 |ret u=>obtain ⟨v,σ',H',I,r,q⟩:=h;exact ⟨v,σ',H',I.sU,r,q⟩
theorem PSs.nox {st:List Stmt} {t:TS} (h:PSs X.nox st t):PSs X st t:=fun pins s σ H D I hw=>
 wpAny_mono (h pins s σ H D (I.wish _) hw) (fun _ _ q=>q.sU) fun _ _ z=>False.elim z
end
section
variable {X:Cx} {st:Stmt} {rest:List Stmt} {t u:TS} {e:Expr} {te:TE} {pos:Pos}
def oK:TS:=fun D σ H=>D.nx σ H
def gY (t u:TS):TS:=fun D σ H=>t { D with nx:=u D } σ H
theorem aT7:PSs X [] oK:=fun _ _ σ H _ I h=>wpAny_execs_nil ⟨σ,H,I,h⟩
theorem aQ7 (h1:PS X st t) (h2:PSs X rest u):PSs X (st::rest) (gY t u):=by
 intro pins s σ H D I h
 refine wpAny_execs_cons (thn (h1 pins s σ H { D with nx:=u D } I h) fun f s1 q=>?_)
 cases f with
 |next=>
  obtain ⟨σ',H',I',q⟩:=q
  exact h2 pins s1 σ' H' D I' q
 |ret v=>exact q
 |brk=>exact q
 |cont=>exact q
theorem aUx (h1:PS X st t):PSs X [st] t:=by
 intro pins s σ H D I h
 refine wpAny_execs_cons (thn (h1 pins s σ H D I h) fun f s1 q=>?_)
 cases f with
 |next=>exact wpAny_execs_nil q
 |ret v=>exact q
 |brk=>exact q
 |cont=>exact q
theorem Inv.quiet {pins:List (Addr × Obj)} {σ:St} {H:Hp} {s:Shared} (I:Inv X pins σ H s):interactive X.env=false:=by simp [interactive,I.ok.kind]
def aM8 (te:TE):TS:=fun D σ H=>te σ H fun _ H1=>D.nx σ H1
theorem aVo (he:PE X e te) (hs:swapsWith e none pos.line X.env=pure false:=by rfl):PS X (.Expr e pos) (aM8 te):=by
 intro pins s σ H D I h
 exact wpAny_Expr_any (thn (he pins s σ H _ I h) fun v s1 ⟨x,H1,I1,r1,q1⟩=>⟨σ,H1,I1,q1⟩) I.quiet hs
def aDl (te:TE):TS:=fun D σ H=>te σ H D.rt
theorem aX8 (he:PE X e te):PS X (.Return (some e) pos) (aDl te):=by
 intro pins s σ H D I h
 exact wpAny_Return_some (thn (he pins s σ H _ I h) fun v s1 ⟨x,H1,I1,r1,q1⟩=>⟨x,σ,H1,I1,r1,q1⟩)
def aLd (c:TT) (t u:TS):TS:=fun D σ H=>c σ H fun b H1=>if b=true then t D σ H1 else u D σ H1
theorem aZ6 {c:Expr} {a b:List Stmt} {tc:TT} (hc:PT X c tc) (ha:PSs X a t) (hb:PSs X b u):PS X (.If c a b pos) (aLd tc t u):=by
 intro pins s σ H D I h
 refine wpAny_If (thn (hc pins s σ H _ I h) fun d s1 ⟨H1,I1,q1⟩=>?_)
 cases d with
 |true=>exact ha pins s1 σ H1 D I1 q1
 |false=>exact hb pins s1 σ H1 D I1 q1
def aQ1:TS:=fun _ _ _=>False
theorem aSh:PS X st aQ1:=fun _ _ _ _ _ _ h=>h.elim
end
abbrev TG:=V→St→Hp→(St→Hp→Prop)→Prop
abbrev TGs:=List V→St→Hp→(St→Hp→Prop)→Prop
def PG (X:Cx) (target:Expr) (t:TG):Prop:=
 ∀(pins:List (Addr × Obj)) (s:Shared) (σ:St) (H:Hp) (v:V) (u:Value) (Q:St→Hp→Prop),Inv X pins σ H s→RelV v u→t v σ H Q →
  wpAny (model X.prog X.w) X.A (assign target X.env u) (fun _ s'=>∃σ' H',Inv X pins σ' H' s'∧Q σ' H') X.xe s
def PGs (X:Cx) (ts:List Expr) (t:TGs):Prop:=
 ∀(pins:List (Addr × Obj)) (s:Shared) (σ:St) (H:Hp) (vs:List V) (us:List Value) (Q:St→Hp→Prop),Inv X pins σ H s→Vals vs us→t vs σ H Q →
  wpAny (model X.prog X.w) X.A (assignInOrder ((assignEach ts X.env).map (·.2)) us) (fun _ s'=>∃σ' H',Inv X pins σ' H' s'∧Q σ' H') X.xe s
abbrev aUo:=V→V→V→Hp→(Hp→Prop)→Prop
def aXu (X:Cx) (t:aUo):Prop:=
 ∀(pins:List (Addr × Obj)) (s:Shared) (σ:St) (H:Hp) (o i v:V) (ov iv u:Value) (Q:Hp→Prop),Inv X pins σ H s→RelV o ov→RelV i iv→RelV v u→t o i v H Q →
  wpAny (model X.prog X.w) X.A (setItem ov iv u) (fun _ s'=>∃H',Inv X pins σ H' s'∧Q H') X.xe s
section
variable {X:Cx} {pos:Pos}
def bO (i:Nat):TG:=fun v σ H Q=>Q (σ.set i (some v)) H
theorem aVc {i:Nat} {x:Str} (hN:X.N.Nodup) (hi:X.N[i]?=some x) (hx:Loc X.env.scope x) (hf:X.fn x=true∨X.env.scope.names.lookup x=some .local:=by first|exact .inl rfl|exact .inr rfl|assumption):PG X (.Name x pos) (bO i):=by
 intro pins s σ H v u Q I r h
 exact wpAny_assign_Name (aJ5 I hN hi hx r (fun s' I'=>⟨_,H,I',h⟩) hf)
def aAk:TGs:=fun vs σ H Q=>vs=[]∧Q σ H
def jF (t:TG) (u:TGs):TGs:=fun vs σ H Q=>∃v r,vs=v::r∧t v σ H fun σ' H'=>u r σ' H' Q
theorem aT6:PGs X [] aAk:=by
 intro pins s σ H vs us Q I r h
 obtain ⟨e,h⟩:=h
 subst e
 cases r
 exact assignInOrder_nil ⟨σ,H,I,h⟩
theorem aSm {e:Expr} {es:List Expr} {t:TG} {u:TGs} (h1:PG X e t) (h2:PGs X es u)
  (hs:(assignEach (e::es) X.env).map (·.2)=assign e X.env::(assignEach es X.env).map (·.2):=by rfl):PGs X (e::es) (jF t u):=by
 intro pins s σ H vs us Q I r h
 obtain ⟨v,vr,e1,h⟩:=h
 subst e1
 cases r with
 |cons r rr=>
  rw [hs]
  refine assignInOrder_cons (thn (h1 pins s σ H _ _ _ I r h) fun _ s1 ⟨σ1,H1,I1,q1⟩=>?_)
  exact h2 pins s1 σ1 H1 _ _ Q I1 rr q1
def aDa (K:PySem.W.Frag) (n:Nat) (t:TGs):TG:=fun v σ H Q=>∃a xs,v=.ref a∧SqT K H a xs∧xs.length=n∧t xs σ H Q
theorem aX5 {es:List Expr} {k:Nat} {t:TGs} {n:Nat} (hc:X.calm=true) (h:PGs X es t)
  (hn:(assignEach es X.env).length=n:=by rfl) (hst:(assignEach es X.env).findIdx? (·.1)=none:=by rfl):PG X (.Tuple es k pos) (aDa X.K n t):=by
 intro pins s σ H v u Q I r hw
 obtain ⟨a,xs,e1,hq,hl,hw⟩:=hw
 subst e1
 cases r
 obtain ⟨its,rv,ht,hz⟩:=I.tuple hq
 refine assign_Tuple_tuple (I.ok.hd hc) ht (by simp [hn,←hl,rv.length]) hst fun h' hx=>?_
 have I1:Inv X pins σ H { s with heap:=h' }:=I.kept (t':=s.toks) fun b o e=>hx b o (Nat.ne_of_lt (Heap.lt_size e)) e
 exact h pins _ σ H xs _ Q I1 (by simpa using rv) hw
def aZ2 (to ti:TE) (t:aUo):TG:=fun v σ H Q=>to σ H fun o H1=>ti σ H1 fun i H2=>t o i v H2 fun H3=>Q σ H3
theorem aX3 {o i:Expr} {to ti:TE} {t:aUo} (ho:PE X o to) (hi:PE X i ti) (hs:aXu X t)
  (ha:∀v,assign (.Subscript o i pos) X.env v=(do
   let ov ←holding [v] (eval o X.env)
   let iv ←holding [v,ov] (eval i X.env)
   standAt pos
   holding [v,ov,iv] (setItem ov iv v)
   release [v,ov,iv] []):=by intro _;rfl):PG X (.Subscript o i pos) (aZ2 to ti t):=by
 intro pins s σ H v u Q I r h
 rw [ha]
 refine wpAny_bind (wpAny_holding (thn (ho pins s σ H _ I h) fun ov s1 ⟨x,H1,I1,r1,q1⟩=>?_))
 refine wpAny_bind (wpAny_holding (thn (hi pins s1 σ H1 _ I1 q1) fun iv s2 ⟨y,H2,I2,r2,q2⟩=>?_))
 refine wpAny_bind (wpAny_standAt (wpAny_bind (wpAny_holding (thn (hs pins s2 σ H2 x y v ov iv u _ I2 r1 r2 r q2) fun _ s3 ⟨H3,I3,q3⟩=>?_))))
 exact wpAny_release ⟨σ,H3,I3,q3⟩
def iU (te:TE) (g:TG):TS:=fun D σ H=>te σ H fun x H1=>g x σ H1 D.nx
theorem aXn {tg e:Expr} {te:TE} {g:TG} (he:PE X e te) (hg:PG X tg g) (hs:swapsWithSole [tg] e pos.line X.env=pure false:=by rfl) (hw:swappedStores [tg] e X.env=pure none:=by rfl)
  (h1:(assignEach [tg] X.env).map (·.2)=[assign tg X.env]:=by rfl):PS X (.Assign [tg] e pos) (iU te g):=by
 intro pins s σ H D I h
 refine wpAny_Assign_stores (thn (he pins s σ H _ I h) fun v s1 ⟨x,H1,I1,r1,q1⟩=>?_) hs hw
 rw [h1]
 exact thn (hg pins s1 σ H1 x v _ I1 r1 q1) fun _ s2 q=>q
theorem aXg {i:Nat} {x:Str} {e:Expr} {te:TE} {pos':Pos} (hN:X.N.Nodup) (hi:X.N[i]?=some x) (hx:Loc X.env.scope x) (he:PE X e te) (hs:swapsWith e (some (.Name x pos')) pos.line X.env=pure false:=by rfl) (hf:X.fn x=true∨X.env.scope.names.lookup x=some .local:=by first|exact .inl rfl|exact .inr rfl|assumption) :
  PS X (.Assign [.Name x pos'] e pos) (iU te (bO i)):=by
 intro pins s σ H D I h
 refine wpAny_Assign_Name (thn (he pins s σ H _ I h) fun v s1 ⟨y,H1,I1,r1,q1⟩=>?_) hs
 exact aJ5 I1 hN hi hx r1 (fun s2 I2=>⟨_,H1,I2,q1⟩) hf
end
section
variable {X:Cx} {pos:Pos}
def aRu (c:TT) (tb:TS):TS:=fun D σ H=>∃W:Nat→St→Hp→Prop,(∃m,W m σ H)∧∀m σ H,W m σ H →
 c σ H fun b H1=>if b=true then ∃N:St→Hp→Prop,(∀σ' H',N σ' H'→∃m',m'<m∧W m' σ' H')∧tb { D with nx:=N,ct:=N,bk:=D.nx } σ H1 else D.nx σ H1
theorem aQj {c:Expr} {body:List Stmt} {tc:TT} {tb:TS} (hp:PassesOwn (model X.prog X.w) X.A X.env X.xe) (hc:PT X c tc) (hb:PSs X body tb):PS X (.While c body [] pos) (aRu tc tb):=by
 intro pins s σ H D I h
 obtain ⟨W,⟨m0,w0⟩,turn⟩:=h
 refine wpAny_While (codeAny_whileLoop (fun n s'=>∃σ' H',Inv X pins σ' H' s'∧W n σ' H') ?_ m0 ⟨σ,H,I,w0⟩)
 rintro n s1 ⟨σ1,H1,I1,w1⟩
 refine wpAny_passesOwn hp (thn (hc pins s1 σ1 H1 _ I1 (turn n σ1 H1 w1)) fun b s2 ⟨H2,I2,q2⟩=>?_)
 cases b with
 |true=>
  obtain ⟨N,hN,q2⟩:=q2
  rw [if_pos rfl]
  refine wpAny_passesOwn hp (thn (hb pins s2 σ1 H2 _ I2 q2) fun f s3 q3=>?_)
  cases f with
  |next=>
   obtain ⟨σ3,H3,I3,n3⟩:=q3
   obtain ⟨m',hm,w3⟩:=hN σ3 H3 n3
   exact ⟨m',hm,σ3,H3,I3,w3⟩
  |cont=>
   obtain ⟨σ3,H3,I3,n3⟩:=q3
   obtain ⟨m',hm,w3⟩:=hN σ3 H3 n3
   exact ⟨m',hm,σ3,H3,I3,w3⟩
  |brk=>exact q3
  |ret v=>exact q3
 |false=>
  rw [if_neg Bool.false_ne_true]
  exact wpAny_execs_nil ⟨σ1,H2,I2,q2⟩
end
structure It where
 go:Nat→Hp→Prop
 yld:Nat→Hp→V→Hp→Prop
 stop:Nat→Hp→Prop
def vX (X:Cx) (pins:List (Addr × Obj)) (H:Hp) (b:Addr):Prop:=
 H b=none∧b≠X.env.locals∧b∉X.fs∧(b∈X.ex∨X.s₀.heap.objs.size≤b)∧(∀x c,X.env.cells.lookup x=some c→c≠b)∧∀p∈X.pn++pins,p.1≠b
theorem Inv.aHw {X:Cx} {pins:List (Addr × Obj)} {σ:St} {H H':Hp} {s:Shared} {b:Addr} (I:Inv X pins σ H s) (hb:s.heap.objs.size≤b) (hn:H' b=none):vX X pins H' b:=by
 refine ⟨hn,Nat.ne_of_gt (Nat.lt_of_lt_of_le I.lt hb),I.nofs hb,.inr (Nat.le_trans I.sz hb),fun x c e z=>?_,fun p hp z=>?_⟩
 ·obtain ⟨v,q⟩:=I.cell x c e
  exact absurd (Nat.lt_of_lt_of_le q.lt (by rw [z];exact hb)) (Nat.lt_irrefl _)
 ·exact absurd (Nat.lt_of_lt_of_le (Heap.lt_size (I.pin p hp).1) (by rw [z];exact hb)) (Nat.lt_irrefl _)
structure Turn (P:Program) (w:World) (K:PySem.W.Frag) (tg:Expr) (J:It) (fp:List Addr) (it:Addr) (tn:Nat→Heap→Prop):Prop where
 mem:it∈fp
 obj:∀i h,tn i h→∀b∈fp,∃o,h.get? b=some o∧∀v,o.data≠.cell v
 keep:∀i h h',tn i h→(∀b∈fp,∀o,h.get? b=some o→h'.get? b=some o)→tn i h'
 item:∀(X:Cx),X.prog=P→X.w=w→X.K=K→X.calm=true→∀(i:Nat) (pins:List (Addr × Obj)) (s:Shared) (σ:St) (H:Hp) (E:Value→Shared→Prop),Inv X pins σ H s→(∀b∈fp,vX X pins H b)→tn i s.heap→J.go i H →
  wpAny (model P w) X.A (pyNext (.ref it)) (fun r s1=>∃u,r=some u ∧
   wpAny (model P w) X.A (letOwnedTupleGo tg (.ref it) u) (fun _ s2=>∃x H',Inv X pins σ H' s2∧RelV x u∧J.yld i H x H'∧tn (i+1) s2.heap∧∀b∈fp,H' b=none) E s1) E s
 done:∀(X:Cx),X.prog=P→X.w=w→X.K=K→X.calm=true→∀(i:Nat) (pins:List (Addr × Obj)) (s:Shared) (σ:St) (H:Hp) (E:Value→Shared→Prop),Inv X pins σ H s→(∀b∈fp,vX X pins H b)→tn i s.heap→J.stop i H →
  wpAny (model P w) X.A (pyNext (.ref it)) (fun r s1=>r=none∧Inv X pins σ H s1) E s
 self:∀(A:Around) (i:Nat) (s:Shared) (Q:Value→Shared→Prop) (E:Value→Shared→Prop),tn i s.heap→Q (.ref it) s→wpAny (model P w) A (pyIter (.ref it)) Q E s
abbrev TI:=St→Hp→(It→Hp→Prop)→Prop
def PIE (X:Cx) (pins:List (Addr × Obj)) (σ:St) (tg:Expr) (R:It→Hp→Prop) (itv:Value) (s2:Shared):Prop:=
 ∃(it:Addr) (fp:List Addr) (tn:Nat→Heap→Prop) (J:It) (H':Hp),itv=.ref it∧Inv X pins σ H' s2∧Turn X.prog X.w X.K tg J fp it tn∧tn 0 s2.heap∧(∀b∈fp,vX X pins H' b)∧R J H'
def PI (X:Cx) (tg iter:Expr) (wi:TI):Prop:=
 ∀(pins:List (Addr × Obj)) (s:Shared) (σ:St) (H:Hp) (R:It→Hp→Prop),Inv X pins σ H s→wi σ H R →
  wpAny (model X.prog X.w) X.A (eval iter X.env) (fun v s1=>wpAny (model X.prog X.w) X.A (pyIter v) (PIE X pins σ tg R) X.xe s1) X.xe s
theorem aD9 {M:Model} {A:Around} {E:Value→Shared→Prop} {s:Shared} {tg:Expr} {it:Addr} {u:Value} {o:Obj} {n:String} {vs:Array Value} {Q:Unit→Shared→Prop} (ho:s.heap.get? it=some o) (hc:o.cls=.type n) (hd:o.data=.fields vs)
  (hn:["enumerate","zip","dict_itemiterator","dict_reverseitemiterator","odict_iterator","itertools.zip_longest","itertools.pairwise"].contains n=false) (hQ:Q () s):wpAny M A (letOwnedTupleGo tg (.ref it) u) Q E s:=by
 unfold letOwnedTupleGo
 cases tg <;> first
  |exact wpAny_pure hQ
  |(cases u <;> first
    |exact wpAny_pure hQ
    |(refine wpAny_bind (wpAny_load ho ?_);rw [hc,hd];show wpAny M A (if (["enumerate","zip","dict_itemiterator","dict_reverseitemiterator","odict_iterator","itertools.zip_longest","itertools.pairwise"].contains n && vs[0]? == some (rawInt _))=true then _ else _) Q E s;rw [if_neg (by intro h;rw [hn,Bool.false_and] at h;cases h)];exact wpAny_pure hQ))
def Itl (K:PySem.W.Frag) (a:Addr):It:=
 ⟨fun i H=>∃xs x,SqL K H a xs∧xs[i]?=some x,fun i H x H'=>H'=H∧∀xs,SqL K H a xs→xs[i]?=some x,fun i H=>∃xs,SqL K H a xs∧xs.length≤i⟩
def Itt (K:PySem.W.Frag) (a:Addr):It:=
 ⟨fun i H=>∃xs x,SqT K H a xs∧xs[i]?=some x,fun i H x H'=>H'=H∧∀xs,SqT K H a xs→xs[i]?=some x,fun i H=>∃xs,SqT K H a xs∧xs.length≤i⟩
def Itr (lo:Int) (n:Nat):It:=⟨fun i _=>i<n,fun i H x H'=>H'=H∧x=.int (lo+i),fun i _=>n≤i⟩
theorem aOu {P:Program} {w:World} {K:PySem.W.Frag} {tg:Expr} (a it:Addr):Turn P w K tg (Itl K a) [it] it (fun i h=>h.IsListIter it a i) where
 mem:=by simp
 obj:=fun i h st b hb=>by
  have e:b=it:=by simpa using hb
  subst e
  obtain ⟨o,e,c,d⟩:=st
  exact ⟨o,e,fun v z=>by rw [d] at z;cases z⟩
 keep:=fun i h h' st k=>st.at fun o e=>k it (by simp) o e
 item:=by
  intro X hP hw hK hc i pins s σ H E I hf st hg
  subst hP hw hK
  obtain ⟨xs,x,hq,hx⟩:=hg
  obtain ⟨its,rv,p,hz⟩:=I.list hq
  obtain ⟨u,hu,ru⟩:=rv.get hx
  obtain ⟨f0,f1,f2,f3,f4,f5⟩:=hf it (by simp)
  refine wpAny_pyNext_list_item st p.isList (x:=u) (by simpa using hu) fun h' st' sb=>?_
  have I1:Inv X pins σ H { s with heap:=h' }:=I.turned (t':=s.toks) (fun b o hb e=>(sb.2 b hb).trans e) f0 f1 f3 f4 f5
  obtain ⟨o,e,c,d⟩:=id st'
  exact ⟨u,rfl,aD9 (s:={ s with heap:=h' }) e c d (by decide) ⟨x,H,I1,ru,⟨rfl,fun ys hy=>by rw [I.aR1 hy hq];exact hx⟩,st',fun b hb=>(hf b hb).1⟩⟩
 done:=by
  intro X hP hw hK hc i pins s σ H E I hf st hg
  subst hP hw hK
  obtain ⟨xs,hq,hx⟩:=hg
  obtain ⟨its,rv,p,hz⟩:=I.list hq
  obtain ⟨f0,f1,f2,f3,f4,f5⟩:=hf it (by simp)
  have hl:=rv.length
  exact wpAny_pyNext_list_end (I.ok.hd hc) st p.isList (by simp;lia) fun h' eb=>⟨rfl,I.turned (t':=s.toks) (fun b o hb e=>eb b o hb e) f0 f1 f3 f4 f5⟩
 self:=fun _ _ _ _ _ st h=>wpAny_pyIter_listiter st h
theorem aK1 {P:Program} {w:World} {K:PySem.W.Frag} {tg:Expr} (a it:Addr):Turn P w K tg (Itt K a) [it] it (fun i h=>h.IsTupleIter it a i) where
 mem:=by simp
 obj:=fun i h st b hb=>by
  have e:b=it:=by simpa using hb
  subst e
  obtain ⟨o,e,c,d⟩:=st
  exact ⟨o,e,fun v z=>by rw [d] at z;cases z⟩
 keep:=fun i h h' st k=>st.at fun o e=>k it (by simp) o e
 item:=by
  intro X hP hw hK hc i pins s σ H E I hf st hg
  subst hP hw hK
  obtain ⟨xs,x,hq,hx⟩:=hg
  obtain ⟨its,rv,p,hz⟩:=I.tuple hq
  obtain ⟨u,hu,ru⟩:=rv.get hx
  obtain ⟨f0,f1,f2,f3,f4,f5⟩:=hf it (by simp)
  refine wpAny_pyNext_tuple_item st (show s.heap.IsTuple a its.toArray from p) (x:=u) (by simpa using hu) fun h' st' sb=>?_
  have I1:Inv X pins σ H { s with heap:=h' }:=I.turned (t':=s.toks) (fun b o hb e=>(sb.2 b hb).trans e) f0 f1 f3 f4 f5
  obtain ⟨o,e,c,d⟩:=id st'
  exact ⟨u,rfl,aD9 (s:={ s with heap:=h' }) e c d (by decide) ⟨x,H,I1,ru,⟨rfl,fun ys hy=>by rw [I.yQ hy hq];exact hx⟩,st',fun b hb=>(hf b hb).1⟩⟩
 done:=by
  intro X hP hw hK hc i pins s σ H E I hf st hg
  subst hP hw hK
  obtain ⟨xs,hq,hx⟩:=hg
  obtain ⟨its,rv,p,hz⟩:=I.tuple hq
  obtain ⟨f0,f1,f2,f3,f4,f5⟩:=hf it (by simp)
  have hl:=rv.length
  exact wpAny_pyNext_tuple_end (I.ok.hd hc) st (show s.heap.IsTuple a its.toArray from p) (by simp;lia) fun h' eb=>⟨rfl,I.turned (t':=s.toks) (fun b o hb e=>eb b o hb e) f0 f1 f3 f4 f5⟩
 self:=fun _ _ _ _ _ st h=>wpAny_pyIter_tupleiter st h
theorem aK2 {P:Program} {w:World} {K:PySem.W.Frag} {tg:Expr} (it:Addr) (lo:Int) (n:Nat):Turn P w K tg (Itr lo n) [it] it (fun i h=>IsRangeIter h it (lo+(i:Nat) * 1) ((n:Int) - (i:Nat)) 1) where
 mem:=by simp
 obj:=fun i h st b hb=>by
  have e:b=it:=by simpa using hb
  subst e
  exact ⟨_,st,fun v z=>by
   have z':Data.fields _=Data.cell v:=z
   cases z'⟩
 keep:=fun i h h' st k=>k it (by simp) _ st
 item:=by
  intro X hP hw hK hc i pins s σ H E I hf st hg
  subst hP hw hK
  obtain ⟨f0,f1,f2,f3,f4,f5⟩:=hf it (by simp)
  have W:=Walks.range (prog:=X.prog) (w:=X.w) (I.ok.hd hc) it lo 1 n
  refine W.item i s _ _ hg st fun v h' tk hv st' kk=>?_
  obtain ⟨t,rfl⟩:=hv
  have I1:Inv X pins σ H { s with heap:=h',toks:=tk }:=I.turned (fun b o hb e=>kk b o (by simpa using hb) e) f0 f1 f3 f4 f5
  refine ⟨_,rfl,aD9 (s:={ s with heap:=h',toks:=tk }) (n:="range_iterator") st' rfl rfl (by decide) ⟨.int (lo+i),H,I1,⟨t,?_⟩,⟨rfl,rfl⟩,st',fun b hb=>(hf b hb).1⟩⟩
  rw [Int.mul_one]
 done:=by
  intro X hP hw hK hc i pins s σ H E I hf st hg
  subst hP hw hK
  obtain ⟨f0,f1,f2,f3,f4,f5⟩:=hf it (by simp)
  exact wpAny_pyNext_range_end (I.ok.hd hc) st (by have:n≤i:=hg;lia) fun h' eb=>⟨rfl,I.turned (t':=s.toks) (fun b o hb e=>eb b o hb e) f0 f1 f3 f4 f5⟩
 self:=fun _ _ _ _ _ st h=>wpAny_pyIter_rangeiter st h
section
variable {X:Cx} {tg:Expr}
def rG (K:PySem.W.Frag) (tl:TE):TI:=fun σ H R=>tl σ H fun x H1=>∃a,x=.ref a∧(∃xs,SqL K H1 a xs)∧R (Itl K a) H1
def aCx (K:PySem.W.Frag) (tl:TE):TI:=fun σ H R=>tl σ H fun x H1=>∃a,x=.ref a∧(∃xs,SqT K H1 a xs)∧R (Itt K a) H1
theorem aNe {l:Expr} {tl:TE} (hl:PE X l tl):PI X tg l (rG X.K tl):=by
 intro pins s σ H R I h
 refine thn (hl pins s σ H _ I h) fun v s1 ⟨x,H1,I1,r1,q1⟩=>?_
 obtain ⟨a,e,⟨xs,hq⟩,q⟩:=q1
 subst e
 cases r1
 obtain ⟨its,rv,p,hz⟩:=I1.list hq
 refine wpAny_pyIter_list p.isList ?_
 refine ⟨s1.heap.objs.size,[s1.heap.objs.size],_,_,H1,rfl,I1.kept (t':=s1.toks) fun b o e=>Heap.get?_push_of_some _ e,aOu a _,⟨_,Heap.get?_push_size _ rfl,rfl,rfl⟩,fun b hb=>?_,q⟩
 have e:b=s1.heap.objs.size:=by simpa using hb
 subst e
 exact I1.aHw (Nat.le_refl _) (I1.hok.fresh (Nat.le_refl _))
theorem aS9 {l:Expr} {tl:TE} (hl:PE X l tl):PI X tg l (aCx X.K tl):=by
 intro pins s σ H R I h
 refine thn (hl pins s σ H _ I h) fun v s1 ⟨x,H1,I1,r1,q1⟩=>?_
 obtain ⟨a,e,⟨xs,hq⟩,q⟩:=q1
 subst e
 cases r1
 obtain ⟨its,rv,p,hz⟩:=I1.tuple hq
 refine wpAny_pyIter_tuple (show s1.heap.IsTuple a its.toArray from p) ?_
 refine ⟨s1.heap.objs.size,[s1.heap.objs.size],_,_,H1,rfl,I1.kept (t':=s1.toks) fun b o e=>Heap.get?_push_of_some _ e,aK1 a _,⟨_,Heap.get?_push_size _ rfl,rfl,rfl⟩,fun b hb=>?_,q⟩
 have e:b=s1.heap.objs.size:=by simpa using hb
 subst e
 exact I1.aHw (Nat.le_refl _) (I1.hok.fresh (Nat.le_refl _))
theorem aS4 {pins:List (Addr × Obj)} {σ:St} {H:Hp} {s:Shared} {R:It→Hp→Prop} {E:Value→Shared→Prop} {lo hi:Int} {t u v:Tok} {tk:Nat} (I:Inv X pins σ H s) (h1:-(2 ^ 62)≤lo) (h2:lo<2 ^ 62) (h3:-(2 ^ 62)≤hi) (h4:hi<2 ^ 62)
  (q:R (Itr lo (hi - lo).toNat) H):wpAny (model X.prog X.w) X.A (pyIter (.ref s.heap.objs.size)) (PIE X pins σ tg R) E { s with heap:=s.heap.push { cls:=.type "range",data:=.fields #[.int lo t,.int hi u,.int 1 v] },toks:=tk }:=by
 refine wpAny_pyIter_range (IsRange.new ..) (small_one h1 h2 h3 h4) ?_
 have I1:Inv X pins σ H { s with heap:=s.heap.push { cls:=.type "range",data:=.fields #[.int lo t,.int hi u,.int 1 v] },toks:=tk }:=I.kept fun b o e=>Heap.get?_push_of_some _ e
 refine ⟨(s.heap.push { cls:=.type "range",data:=.fields #[.int lo t,.int hi u,.int 1 v] }).objs.size,[(s.heap.push { cls:=.type "range",data:=.fields #[.int lo t,.int hi u,.int 1 v] }).objs.size],_,_,H,rfl,
  I1.kept (t':=tk) fun b o e=>Heap.get?_push_of_some _ e,aK2 _ lo (hi - lo).toNat,?_,fun b hb=>?_,q⟩
 ·have e1:lo+((0:Nat):Int) * 1=lo:=by simp
  have e2:(((hi - lo).toNat:Nat):Int) - ((0:Nat):Int)=Builtin.Range.rangeSize lo hi 1:=by rw [rangeSize_one];split <;> lia
  show IsRangeIter _ _ (lo+((0:Nat):Int) * 1) ((((hi - lo).toNat:Nat):Int) - ((0:Nat):Int)) 1
  rw [e1,e2]
  exact Heap.get?_push_size _ rfl
 ·have e:b=(s.heap.push { cls:=.type "range",data:=.fields #[.int lo t,.int hi u,.int 1 v] }).objs.size:=by simpa using hb
  subst e
  exact I1.aHw (Nat.le_refl _) (I1.hok.fresh (Nat.le_refl _))
def aSe (ta:TA):TI:=fun σ H R=>ta σ H fun vs H1=>∃j:Int,vs=[.int j]∧-(2 ^ 62)≤j∧j<2 ^ 62∧R (Itr 0 j.toNat) H1
theorem aOn {a:Expr} {ta:TA} {p pos:Pos} (hg:Gl X "range") (hm:X.mg "range"=none) (ha:PA X [a] ta) (hs:starEach [a] X.env=[(false,eval a X.env)]:=by rfl):PI X tg (.Call (.Name "range" p) [a] [] pos) (aSe ta):=by
 intro pins s σ H R I h
 refine Call_ (qT I hg hm boot_range (PyProof.Rows.callWith_type1 (thn (ha pos pins s σ H _ I h) fun us s1 ⟨vs,H1,I1,r1,q1⟩=>?_) hs rfl))
 obtain ⟨j,e,q1,q2,q⟩:=q1
 subst e
 cases r1 with
 |cons r rr=>
  cases rr
  obtain ⟨t,rfl⟩:=r
  exact call_range_1 (aS4 I1 (by lia) (by lia) q1 q2 (by simpa using q))
def aZl (wi:TI) (g:TG) (tb:TS):TS:=fun D σ H=>wi σ H fun J H1=>∃W:Nat→Nat→St→Hp→Prop,(∃m,W 0 m σ H1)∧∀i m σ H,W i m σ H →
 (J.stop i H∧D.nx σ H)∨(J.go i H∧∃N:St→Hp→Prop,(∀σ' H',N σ' H'→∃m',m'<m∧W (i+1) m' σ' H')∧∀x H',J.yld i H x H'→g x σ H' fun σ2 H2=>tb { D with nx:=N,ct:=N,bk:=D.nx } σ2 H2)
def zE (fp:List Addr) (h:Heap):List (Addr × Obj):=fp.filterMap fun b=>(h.get? b).map fun o=>(b,o)
theorem kZ {fp:List Addr} {h:Heap} {b:Addr} {o:Obj} (hb:b∈fp) (e:h.get? b=some o):(b,o)∈zE fp h:=List.mem_filterMap.mpr ⟨b,hb,by rw [e];rfl⟩
theorem aO5 {fp:List Addr} {h:Heap} {p:Addr × Obj} (hp:p∈zE fp h):p.1∈fp∧h.get? p.1=some p.2:=by
 obtain ⟨b,hb,e⟩:=List.mem_filterMap.mp hp
 cases q:h.get? b with
 |none=>rw [q] at e;cases e
 |some o=>
  rw [q] at e
  have e':(b,o)=p:=Option.some.inj e
  subst e'
  exact ⟨hb,q⟩
theorem Inv.pinned {pins:List (Addr × Obj)} {σ:St} {H:Hp} {s:Shared} {fp:List Addr} (I:Inv X pins σ H s) (hf:∀b∈fp,vX X pins H b) (ho:∀b∈fp,∃o,s.heap.get? b=some o∧∀v,o.data≠.cell v):Inv X (pins++zE fp s.heap) σ H s:=
 I.aN1 fun p hp=>(List.mem_append.mp hp).elim (fun z=>I.pin p (List.mem_append_right _ z)) fun z=>by
  obtain ⟨hb,e⟩:=aO5 z
  obtain ⟨f0,f1,f2,_⟩:=hf p.1 hb
  obtain ⟨o,e',d⟩:=ho p.1 hb
  rw [e] at e';cases e'
  exact ⟨e,f0,f1,f2,d⟩
theorem Inv.nR {pins pl:List (Addr × Obj)} {σ:St} {H:Hp} {s:Shared} (I:Inv X (pins++pl) σ H s):Inv X pins σ H s:=I.aN1 fun p hp=>I.pin p (List.mem_append_right _ (List.mem_append_left _ hp))
theorem aX0 {iter:Expr} {body:List Stmt} {wi:TI} {g:TG} {tb:TS} {pos:Pos} (hp:PassesOwn (model X.prog X.w) X.A X.env X.xe) (hc:X.calm=true) (hi:PI X tg iter wi) (hg:PG X tg g) (hb:PSs X body tb)
  (hs:∀x,foldedSetIterable iter X.env x=pure x:=by intro _;rfl):PS X (.For tg iter body [] pos) (aZl wi g tb):=by
 intro pins s σ H D I h
 refine wpAny_For (thn (hi pins s σ H _ I h) fun v s1 h1=>thn h1 fun itv s2 h2=>?_) hs
 obtain ⟨it,fp,tn,J,H2,e,I2,T,st2,f2,W,⟨m0,w0⟩,turn⟩:=h2
 subst e
 have stat:∀{H':Hp},(∀b∈fp,H' b=none)→∀b∈fp,vX X pins H' b:=fun hn b hb=>⟨hn b hb,(f2 b hb).2⟩
 refine codeAny_forLoop_any (fun n s'=>∃i σ' H',Inv X pins σ' H' s'∧tn i s'.heap∧(∀b∈fp,H' b=none)∧W i n σ' H') ?_ m0 ⟨0,σ,H2,I2,st2,fun b hb=>(f2 b hb).1,w0⟩
 rintro n s3 ⟨i,σ3,H3,I3,st3,fr3,w3⟩
 rcases turn i n σ3 H3 w3 with ⟨stop,qn⟩|⟨go,N,hN,step⟩
 ·refine wpAny_passesOwn hp (thn (T.done X rfl rfl rfl hc i pins s3 σ3 H3 X.xe I3 (stat fr3) st3 stop) fun r s4 ⟨hr,I4⟩=>?_)
  subst hr
  exact wpAny_execs_nil ⟨σ3,H3,I4,qn⟩
 ·refine wpAny_passesOwn hp (thn (T.item X rfl rfl rfl hc i pins s3 σ3 H3 X.xe I3 (stat fr3) st3 go) fun r s4 ⟨u,hr,h4⟩=>?_)
  subst hr
  refine wpAny_passesOwn hp (thn h4 fun _ s5 ⟨x,H5,I5,r5,y5,st5,fr5⟩=>?_)
  have I5':=I5.pinned (stat fr5) (T.obj _ _ st5)
  refine wpAny_passesOwn hp (thn (hg _ s5 σ3 H5 x u _ I5' r5 (step x H5 y5)) fun _ s6 ⟨σ6,H6,I6,q6⟩=>?_)
  refine wpAny_passesOwn hp (thn (hb _ s6 σ6 H6 _ I6 q6) fun f s7 q7=>?_)
  have again:∀{σ7:St} {H7:Hp},Inv X (pins++zE fp s5.heap) σ7 H7 s7→N σ7 H7→∃m,m<n∧∃i σ' H',Inv X pins σ' H' s7∧tn i s7.heap∧(∀b∈fp,H' b=none)∧W i m σ' H':=fun {σ7 H7} I7 n7=>by
   obtain ⟨m',hm,w7⟩:=hN σ7 H7 n7
   refine ⟨m',hm,i+1,σ7,H7,I7.nR,T.keep _ _ _ st5 fun b hb o e=>(I7.pin (b,o) (List.mem_append_right _ (List.mem_append_right _ (kZ hb e)))).1,fun b hb=>?_,w7⟩
   obtain ⟨o,e,d⟩:=T.obj _ _ st5 b hb
   exact (I7.pin (b,o) (List.mem_append_right _ (List.mem_append_right _ (kZ hb e)))).2.1
  cases f with
  |next=>obtain ⟨σ7,H7,I7,n7⟩:=q7;exact again I7 n7
  |cont=>obtain ⟨σ7,H7,I7,n7⟩:=q7;exact again I7 n7
  |brk=>obtain ⟨σ7,H7,I7,q7⟩:=q7;exact ⟨σ7,H7,I7.nR,q7⟩
  |ret v=>obtain ⟨x7,σ7,H7,I7,r7,q7⟩:=q7;exact ⟨x7,σ7,H7,I7.nR,r7,q7⟩
end
theorem aAt {K:PySem.W.Frag} {a:Addr} {xs:List V} {g:TG} {tb:TS} {D:Ends} {σ:St} {H:Hp} (Pv:Nat→St→Hp→Prop) (h0:Pv 0 σ H) (hl:∀i σ H,i≤xs.length→Pv i σ H→SqT K H a xs)
  (hs:∀i x σ H,xs[i]?=some x→Pv i σ H→g x σ H fun σ2 H2=>tb { D with nx:=Pv (i+1),ct:=Pv (i+1),bk:=D.nx } σ2 H2) (hd:∀σ H,Pv xs.length σ H→D.nx σ H) :
  ∃W:Nat→Nat→St→Hp→Prop,(∃m,W 0 m σ H)∧∀i m σ H,W i m σ H →
   ((Itt K a).stop i H∧D.nx σ H)∨((Itt K a).go i H∧∃N:St→Hp→Prop,(∀σ' H',N σ' H'→∃m',m'<m∧W (i+1) m' σ' H')∧∀x H',(Itt K a).yld i H x H'→g x σ H' fun σ2 H2=>tb { D with nx:=N,ct:=N,bk:=D.nx } σ2 H2):=by
 refine ⟨fun i m σ H=>m=xs.length - i∧i≤xs.length∧Pv i σ H,⟨xs.length,by simp,Nat.zero_le _,h0⟩,?_⟩
 rintro i m σ H ⟨rfl,hi,p⟩
 have q:=hl i σ H hi p
 by_cases hlt:i<xs.length
 ·refine .inr ⟨⟨xs,xs[i],q,by simp [hlt]⟩,Pv (i+1),fun σ' H' p'=>⟨xs.length - (i+1),by lia,rfl,hlt,p'⟩,fun x H' y=>?_⟩
  obtain ⟨e,y⟩:=y
  subst e
  exact hs i x σ _ (y xs q) p
 ·have e:i=xs.length:=by lia
  subst e
  exact .inl ⟨⟨xs,q,Nat.le_refl _⟩,hd σ H p⟩
theorem lA {lo:Int} {n:Nat} {g:TG} {tb:TS} {D:Ends} {σ:St} {H:Hp} (Pv:Nat→St→Hp→Prop) (h0:Pv 0 σ H)
  (hs:∀i σ H,i<n→Pv i σ H→g (.int (lo+i)) σ H fun σ2 H2=>tb { D with nx:=Pv (i+1),ct:=Pv (i+1),bk:=D.nx } σ2 H2) (hd:∀σ H,Pv n σ H→D.nx σ H) :
  ∃W:Nat→Nat→St→Hp→Prop,(∃m,W 0 m σ H)∧∀i m σ H,W i m σ H →
   ((Itr lo n).stop i H∧D.nx σ H)∨((Itr lo n).go i H∧∃N:St→Hp→Prop,(∀σ' H',N σ' H'→∃m',m'<m∧W (i+1) m' σ' H')∧∀x H',(Itr lo n).yld i H x H'→g x σ H' fun σ2 H2=>tb { D with nx:=N,ct:=N,bk:=D.nx } σ2 H2):=by
 refine ⟨fun i m σ H=>m=n - i∧i≤n∧Pv i σ H,⟨n,by simp,Nat.zero_le _,h0⟩,?_⟩
 rintro i m σ H ⟨rfl,hi,p⟩
 by_cases hlt:i<n
 ·refine .inr ⟨hlt,Pv (i+1),fun σ' H' p'=>⟨n - (i+1),by lia,rfl,hlt,p'⟩,fun x H' y=>?_⟩
  obtain ⟨e,y⟩:=y
  subst e y
  exact hs i σ _ hlt p
 ·have e:i=n:=by lia
  subst e
  exact .inl ⟨Nat.le_refl _,hd σ H p⟩
abbrev R2:=V→V→Hp→VK→Prop
def OpR (X:Cx) (f:Value→Value→Sem Value) (r:R2):Prop:=
 ∀(pins:List (Addr × Obj)) (s:Shared) (σ:St) (H:Hp) (x y:V) (v u:Value) (Q:VK),Inv X pins σ H s→RelV x v→RelV y u→r x y H Q →
  wpAny (model X.prog X.w) X.A (f v u) (EP X pins σ Q) X.xe s
def cY (X:Cx) (f:Value) (r:List V→Hp→VK→Prop):Prop:=
 ∀(pins:List (Addr × Obj)) (s:Shared) (σ:St) (H:Hp) (xs:List V) (us:List Value) (Q:VK),Inv X pins σ H s→Vals xs us→r xs H Q →
  wpAny (model X.prog X.w) X.A (call f us) (EP X pins σ Q) X.xe s
def bA9 (X:Cx) (r:V→Hp→(Bool→Hp→Prop)→Prop):Prop:=
 ∀(pins:List (Addr × Obj)) (s:Shared) (σ:St) (H:Hp) (x:V) (v:Value) (Q:Bool→Hp→Prop),Inv X pins σ H s→RelV x v→r x H Q →
  wpAny (model X.prog X.w) X.A (truthy v) (TP X pins σ Q) X.xe s
def tOp (r:R2) (ta tb:TE):TE:=fun σ H Q=>ta σ H fun x H1=>tb σ H1 fun y H2=>r x y H2 Q
def rI (C:Int→Int→Prop) (g:Int→Int→V):R2:=fun x y H Q=>∃i j,x=.int i∧y=.int j∧C i j∧Q (g i j) H
def rI0 (g:Int→Int→V):R2:=fun x y H Q=>∃i j,x=.int i∧y=.int j∧Q (g i j) H
section
variable {X:Cx} {a b c:Expr} {ta tb tc:TE} {pos:Pos}
theorem aU9 (ha:PE X a ta) (hb:PE X b tb) {pins:List (Addr × Obj)} {s:Shared} {σ:St} {H:Hp} {R:V→V→Hp→Prop} (I:Inv X pins σ H s)
  (h:ta σ H fun x H1=>tb σ H1 fun y H2=>R x y H2) {Q:Value→Shared→Prop} {f:Value→Value→Sem Value}
  (hf:∀v u s2 x y H2,Inv X pins σ H2 s2→RelV x v→RelV y u→R x y H2→wpAny (model X.prog X.w) X.A (f v u) Q X.xe s2) :
  wpAny (model X.prog X.w) X.A (eval a X.env) (fun v s₁=>wpAny (model X.prog X.w) X.A (eval b X.env) (fun u s₂=>wpAny (model X.prog X.w) X.A (f v u) Q X.xe s₂) X.xe s₁) X.xe s:=by
 refine thn (ha pins s σ H _ I h) fun v s1 ⟨x,H1,I1,r1,q1⟩=>?_
 refine thn (hb pins s1 σ H1 _ I1 q1) fun u s2 ⟨y,H2,I2,r2,q2⟩=>?_
 exact hf v u s2 x y H2 I2 r1 r2 q2
theorem aZp {op:Operator} {r:R2} (ho:OpR X (binaryOp op) r) (ha:PE X a ta) (hb:PE X b tb):PE X (.BinOp a op b pos) (tOp r ta tb):=by
 intro pins s σ H Q I h
 exact wpAny_BinOp (aU9 ha hb I h fun v u s2 x y H2 I2 rx ry q=>ho pins s2 σ H2 x y v u Q I2 rx ry q)
theorem opI {f:Value→Value→Sem Value} {C:Int→Int→Prop} {g:Int→Int→Int}
  (rule:∀(i j:Int) (t u:Tok) (s:Shared) (Q:Value→Shared→Prop) (E:Value→Shared→Prop),C i j→Q (.int (g i j) s.toks) { s with toks:=s.toks+1 }→wpAny (model X.prog X.w) X.A (f (.int i t) (.int j u)) Q E s) :
  OpR X f (rI C fun i j=>.int (g i j)):=by
 intro pins s σ H x y v u Q I rx ry h
 obtain ⟨i,j,rfl,rfl,hc,q⟩:=h
 obtain ⟨t,rfl⟩:=rx
 obtain ⟨t',rfl⟩:=ry
 exact rule i j t t' s _ _ hc ⟨.int (g i j),H,I.tok _,⟨_,rfl⟩,q⟩
theorem aZc {f:Value→Value→Sem Value} {g:Int→Int→Int}
  (rule:∀(i j:Int) (t u:Tok) (s:Shared) (Q:Value→Shared→Prop) (E:Value→Shared→Prop),Q (.int (g i j) s.toks) { s with toks:=s.toks+1 }→wpAny (model X.prog X.w) X.A (f (.int i t) (.int j u)) Q E s) :
  OpR X f (rI0 fun i j=>.int (g i j)):=by
 intro pins s σ H x y v u Q I rx ry h
 obtain ⟨i,j,rfl,rfl,q⟩:=h
 obtain ⟨t,rfl⟩:=rx
 obtain ⟨t',rfl⟩:=ry
 exact rule i j t t' s _ _ ⟨.int (g i j),H,I.tok _,⟨_,rfl⟩,q⟩
theorem aYn {f:Value→Value→Sem Value} {g:Int→Int→Bool}
  (rule:∀(i j:Int) (t u:Tok) (s:Shared) (Q:Value→Shared→Prop) (E:Value→Shared→Prop),Q (.bool (g i j)) s→wpAny (model X.prog X.w) X.A (f (.int i t) (.int j u)) Q E s) :
  OpR X f (rI0 fun i j=>.bl (g i j)):=by
 intro pins s σ H x y v u Q I rx ry h
 obtain ⟨i,j,rfl,rfl,q⟩:=h
 obtain ⟨t,rfl⟩:=rx
 obtain ⟨t',rfl⟩:=ry
 exact rule i j t t' s _ _ ⟨.bl (g i j),H,I,rfl,q⟩
def bAq (i j:Int):Prop:=0<j∧j<1073741824
def bA0 (i j:Int):Prop:=0≤j∧j≤1000000∧i.natAbs<2 ^ 64
def aXh (i j:Int):Prop:=(-(2 ^ 64)<i∧i<2 ^ 64)∨(-(2 ^ 64)<j∧j<2 ^ 64)
theorem aXh.ok {i j:Int} (h:aXh i j):IntMulOk i j:=by
 rcases h with ⟨h1,h2⟩|⟨h1,h2⟩
 ·exact .of_left (intBits_le_64 h1 h2)
 ·exact .of_right (intBits_le_64 h1 h2)
theorem fG:OpR X (binaryOp .Add) (rI0 fun i j=>.int (i+j)):=aZc fun _ _ _ _ _ _ _ q=>add_int q
theorem aGn:OpR X (binaryOp .Sub) (rI0 fun i j=>.int (i - j)):=aZc fun _ _ _ _ _ _ _ q=>sub_int q
theorem aBv:OpR X (binaryOp .Mult) (rI aXh fun i j=>.int (i * j)):=opI fun _ _ _ _ _ _ _ hc q=>mul_int q hc.ok
theorem aNm:OpR X (binaryOp .FloorDiv) (rI bAq fun i j=>.int (i / j)):=opI fun i j _ _ _ _ _ hc q=>by
 have h1:(0:Int)<j:=hc.1
 have h2:j<1073741824:=hc.2
 exact floordiv_int (by lia) (by rw [Int.fdiv_eq_ediv_of_nonneg i (by lia)];exact q) (.inl (PyProof.noPylong_small (by lia)))
theorem rO:OpR X (binaryOp .Mod) (rI (fun _ j=>0<j) fun i j=>.int (i % j)):=opI fun i j _ _ _ _ _ hc q=>by
 have h1:(0:Int)<j:=hc
 exact mod_int' (by lia) (by rw [Int.fmod_eq_emod_of_nonneg i (by lia)];exact q)
theorem aMj:OpR X (binaryOp .Pow) (rI bA0 fun i j=>.int (i ^ j.toNat)):=opI fun _ _ _ _ _ _ _ hc q=>pow_int_small hc.1 hc.2.1 hc.2.2 q
end
def scal:V→V→Bool
 |.non,.non=>true|.non,.int _=>true|.int _,.non=>true|.non,.bl _=>true|.bl _,.non=>true|.non,.str _=>true|.str _,.non=>true
 |.int _,.int _=>true|.bl _,.bl _=>true|.str _,.str _=>true|.byt _,.byt _=>true
 |.int _,.str _=>true|.str _,.int _=>true|.bl _,.str _=>true|.str _,.bl _=>true
 |_,_=>false
def rEq:R2:=fun x y H Q=>scal x y=true∧Q (.bl (decide (x=y))) H
def rNe:R2:=fun x y H Q=>scal x y=true∧Q (.bl (!decide (x=y))) H
theorem aN2 {i j:Int}:decide (V.int i=V.int j)=(i == j):=by
 rw [Bool.eq_iff_iff]
 simp
theorem aRn {i j:Bool}:decide (V.bl i=V.bl j)=(i == j):=by
 rw [Bool.eq_iff_iff]
 simp
theorem aM7 {i j:Str}:decide (V.str i=V.str j)=(i == j):=by
 rw [Bool.eq_iff_iff]
 simp
theorem aN7 {i j:Array UInt8}:decide (V.byt i=V.byt j)=(i.toList == j.toList):=by
 rw [Bool.eq_iff_iff]
 cases i
 cases j
 simp
section
variable {X:Cx} {a b c:Expr} {ta tb tc:TE} {pos:Pos}
theorem cJ {pins:List (Addr × Obj)} {σ:St} {H:Hp} {s:Shared} {Q:VK} {k k':Bool} (I:Inv X pins σ H s) (q:Q (.bl k) H) (e:k=k'):EP X pins σ Q (.bool k') s:=by
 subst e
 exact ⟨.bl k,H,I,rfl,q⟩
theorem cG:OpR X (compareOp .Eq) rEq:=by
 intro pins s σ H x y v u Q I rx ry h
 obtain ⟨hs,q⟩:=h
 cases x with
 |non=>
  cases rx
  cases y with
  |non=>cases ry;exact PySem.EqNone.eq_none_none (cJ I q (by simp))
  |bl j=>cases ry;exact PySem.EqNone.eq_none_bool (cJ I q (by simp))
  |int j=>obtain ⟨t',rfl⟩:=ry;exact PySem.EqNone.eq_none_int (cJ I q (by simp))
  |str j=>obtain ⟨t',rfl⟩:=ry;exact PySem.EqNone.eq_none_str (cJ I q (by simp))
  |_=>exact absurd (show false=true from hs) Bool.false_ne_true
 |bl i=>
  cases rx
  cases y with
  |non=>cases ry;exact PySem.EqNone.eq_bool_none (cJ I q (by simp))
  |bl j=>cases ry;exact eq_bool (cJ I q aRn)
  |str j=>obtain ⟨t',rfl⟩:=ry;exact PySem.EqMixed.eq_bool_str (cJ I q (by simp))
  |_=>exact absurd (show false=true from hs) Bool.false_ne_true
 |int i=>
  obtain ⟨t,rfl⟩:=rx
  cases y with
  |non=>cases ry;exact PySem.EqNone.eq_int_none (cJ I q (by simp))
  |int j=>obtain ⟨t',rfl⟩:=ry;exact eq_int (cJ I q aN2)
  |str j=>obtain ⟨t',rfl⟩:=ry;exact PySem.EqMixed.eq_int_str (cJ I q (by simp))
  |_=>exact absurd (show false=true from hs) Bool.false_ne_true
 |str i=>
  obtain ⟨t,rfl⟩:=rx
  cases y with
  |non=>cases ry;exact PySem.EqNone.eq_str_none (cJ I q (by simp))
  |bl j=>cases ry;exact PySem.EqMixed.eq_str_bool (cJ I q (by simp))
  |int j=>obtain ⟨t',rfl⟩:=ry;exact PySem.EqMixed.eq_str_int (cJ I q (by simp))
  |str j=>obtain ⟨t',rfl⟩:=ry;exact eq_str (cJ I q aM7)
  |_=>exact absurd (show false=true from hs) Bool.false_ne_true
 |byt i=>
  obtain ⟨t,rfl⟩:=rx
  cases y with
  |byt j=>obtain ⟨t',rfl⟩:=ry;exact PySem.W.eq_bytes (cJ I q aN7)
  |_=>exact absurd (show false=true from hs) Bool.false_ne_true
 |_=>cases y <;> exact absurd (show false=true from hs) Bool.false_ne_true
theorem wB:OpR X (compareOp .NotEq) rNe:=by
 intro pins s σ H x y v u Q I rx ry h
 obtain ⟨hs,q⟩:=h
 cases x with
 |non=>
  cases rx
  cases y with
  |non=>cases ry;exact PySem.EqNone.ne_none_none (cJ I q (by simp))
  |bl j=>cases ry;exact PySem.EqNone.ne_none_bool (cJ I q (by simp))
  |int j=>obtain ⟨t',rfl⟩:=ry;exact PySem.EqNone.ne_none_int (cJ I q (by simp))
  |str j=>obtain ⟨t',rfl⟩:=ry;exact PySem.EqNone.ne_none_str (cJ I q (by simp))
  |_=>exact absurd (show false=true from hs) Bool.false_ne_true
 |bl i=>
  cases rx
  cases y with
  |non=>cases ry;exact PySem.EqNone.ne_bool_none (cJ I q (by simp))
  |bl j=>cases ry;exact ne_bool (cJ I q (congrArg not aRn))
  |str j=>obtain ⟨t',rfl⟩:=ry;exact PySem.EqMixed.ne_bool_str (cJ I q (by simp))
  |_=>exact absurd (show false=true from hs) Bool.false_ne_true
 |int i=>
  obtain ⟨t,rfl⟩:=rx
  cases y with
  |non=>cases ry;exact PySem.EqNone.ne_int_none (cJ I q (by simp))
  |int j=>obtain ⟨t',rfl⟩:=ry;exact ne_int (cJ I q (congrArg not aN2))
  |str j=>obtain ⟨t',rfl⟩:=ry;exact PySem.EqMixed.ne_int_str (cJ I q (by simp))
  |_=>exact absurd (show false=true from hs) Bool.false_ne_true
 |str i=>
  obtain ⟨t,rfl⟩:=rx
  cases y with
  |non=>cases ry;exact PySem.EqNone.ne_str_none (cJ I q (by simp))
  |bl j=>cases ry;exact PySem.EqMixed.ne_str_bool (cJ I q (by simp))
  |int j=>obtain ⟨t',rfl⟩:=ry;exact PySem.EqMixed.ne_str_int (cJ I q (by simp))
  |str j=>obtain ⟨t',rfl⟩:=ry;exact ne_str (cJ I q (congrArg not aM7))
  |_=>exact absurd (show false=true from hs) Bool.false_ne_true
 |byt i=>
  obtain ⟨t,rfl⟩:=rx
  cases y with
  |byt j=>obtain ⟨t',rfl⟩:=ry;exact PySem.W.ne_bytes (cJ I q (congrArg not aN7))
  |_=>exact absurd (show false=true from hs) Bool.false_ne_true
 |_=>cases y <;> exact absurd (show false=true from hs) Bool.false_ne_true
theorem aR2:OpR X (compareOp .Lt) (rI0 fun i j=>.bl (decide (i<j))):=aYn fun _ _ _ _ _ _ _ q=>lt_int q
theorem aEc:OpR X (compareOp .LtE) (rI0 fun i j=>.bl (decide (i≤j))):=aYn fun _ _ _ _ _ _ _ q=>le_int q
theorem aJ1:OpR X (compareOp .Gt) (rI0 fun i j=>.bl (decide (j<i))):=aYn fun _ _ _ _ _ _ _ q=>gt_int q
theorem aO1:OpR X (compareOp .In) (fun x y H Q=>∃i j,x=.str i∧y=.str j∧Q (.bl (!(Builtin.Str.occurrences j i 0 j.length 1).isEmpty)) H):=by
 intro pins s σ H x y v u Q I rx ry h
 obtain ⟨i,j,rfl,rfl,q⟩:=h
 obtain ⟨t,rfl⟩:=rx
 obtain ⟨t',rfl⟩:=ry
 exact in_str (cJ I q rfl)
theorem aSo:OpR X (compareOp .Is) (fun x y H Q=>y=.non∧Q (.bl (decide (x=.non))) H):=by
 intro pins s σ H x y v u Q I rx ry h
 obtain ⟨rfl,q⟩:=h
 cases ry
 refine is_none_gen (cJ I q ?_)
 cases x <;> first
  |(cases rx;rfl)
  |(obtain ⟨t,rfl⟩:=rx;rfl)
theorem aVk:OpR X (compareOp .IsNot) (fun x y H Q=>y=.non∧Q (.bl (!decide (x=.non))) H):=by
 intro pins s σ H x y v u Q I rx ry h
 obtain ⟨rfl,q⟩:=h
 cases ry
 refine isnot_none_gen (cJ I q ?_)
 cases x <;> first
  |(cases rx;rfl)
  |(obtain ⟨t,rfl⟩:=rx;rfl)
theorem OpR.or {f:Value→Value→Sem Value} {r r':R2} (h:OpR X f r) (h':OpR X f r'):OpR X f (fun x y H Q=>r x y H Q∨r' x y H Q):=by
 intro pins s σ H x y v u Q I rx ry q
 rcases q with q|q
 ·exact h pins s σ H x y v u Q I rx ry q
 ·exact h' pins s σ H x y v u Q I rx ry q
theorem aZ (b:Expr) {op:CmpOp} (h:op≠.In:=by decide) (h2:op≠.NotIn:=by decide):behindInMarks op b=false:=by
 have e1:(op == CmpOp.In)=false:=by cases op <;> first|rfl|exact absurd rfl h
 have e2:(op == CmpOp.NotIn)=false:=by cases op <;> first|rfl|exact absurd rfl h2
 cases b <;> simp [behindInMarks,e1,e2]
theorem aTz {op:CmpOp} {r:R2} (ho:OpR X (compareOp op) r) (ha:PE X a ta) (hb:PE X b tb) (hm:behindInMarks op b=false):PE X (.Compare a [op] [b] pos) (tOp r ta tb):=by
 intro pins s σ H Q I h
 exact wpAny_Compare1 (aU9 ha hb I h fun v u s2 x y H2 I2 rx ry q=>ho pins s2 σ H2 x y v u Q I2 rx ry q) hm
def aJa (t:TE):TT:=fun σ H Q=>t σ H fun x H'=>∃k,x=.bl k∧Q k H'
theorem aTv {op:CmpOp} {r:R2} (ho:OpR X (compareOp op) r) (ha:PE X a ta) (hb:PE X b tb) (hm:behindInMarks op b=false):PT X (.Compare a [op] [b] pos) (aJa (tOp r ta tb)):=by
 intro pins s σ H Q I h
 refine wpAny_isTrue_Compare1 (thn (ha pins s σ H _ I h) fun v s1 ⟨x,H1,I1,r1,q1⟩=>thn (hb pins s1 σ H1 _ I1 q1) fun u s2 ⟨y,H2,I2,r2,q2⟩=>
  thn (ho pins s2 σ H2 x y v u _ I2 r1 r2 q2) fun c s3 ⟨z,H3,I3,r3,k,e,q3⟩=>?_) hm
 subst e
 cases r3
 exact wpAny_truthy_bool ⟨H3,I3,q3⟩
def aHl (r r':R2) (ta tb tc:TE):TE:=fun σ H Q=>ta σ H fun x H1=>tb σ H1 fun y H2=>r x y H2 fun z H3=>∃k,z=.bl k ∧
 (if k=true then tc σ H3 fun w' H4=>r' y w' H4 Q else Q (.bl false) H3)
theorem aQl {op op':CmpOp} {r r':R2} (ho:OpR X (compareOp op) r) (ho':OpR X (compareOp op') r') (ha:PE X a ta) (hb:PE X b tb) (hc:PE X c tc)
  (hm:lastMarks [op,op'] [b,c]=false:=by with_unfolding_all rfl):PE X (.Compare a [op,op'] [b,c] pos) (aHl r r' ta tb tc):=by
 intro pins s σ H Q I h
 refine Compare_chain (thn (ha pins s σ H _ I h) fun v s1 ⟨x,H1,I1,r1,q1⟩=>chain_link (thn (hb pins s1 σ H1 _ I1 q1) fun u s2 ⟨y,H2,I2,r2,q2⟩=>
  thn (ho pins s2 σ H2 x y v u _ I2 r1 r2 q2) fun d s3 ⟨z,H3,I3,r3,k,e,q3⟩=>?_)) hm
 subst e
 cases r3
 refine wpAny_truthy_bool ?_
 cases k with
 |false=>exact ite_ff ⟨.bl false,H3,I3,rfl,q3⟩
 |true=>exact ite_tt (chain_last (thn (hc pins s3 σ H3 _ I3 q3) fun w' s4 ⟨z',H4,I4,r4,q4⟩=>ho' pins s4 σ H4 y z' u w' Q I4 r2 r4 q4))
theorem aRx {op op':CmpOp} {r r':R2} (ho:OpR X (compareOp op) r) (ho':OpR X (compareOp op') r') (ha:PE X a ta) (hb:PE X b tb) (hc:PE X c tc)
  (hm:lastMarks [op,op'] [b,c]=false:=by with_unfolding_all rfl):PT X (.Compare a [op,op'] [b,c] pos) (aJa (aHl r r' ta tb tc)):=by
 intro pins s σ H Q I h
 refine isTrue_chain (thn (ha pins s σ H _ I h) fun v s1 ⟨x,H1,I1,r1,q1⟩=>test_link (thn (hb pins s1 σ H1 _ I1 q1) fun u s2 ⟨y,H2,I2,r2,q2⟩=>
  thn (ho pins s2 σ H2 x y v u _ I2 r1 r2 q2) fun d s3 ⟨z,H3,I3,r3,k,e,q3⟩=>?_)) hm
 subst e
 cases r3
 refine wpAny_truthy_bool ?_
 cases k with
 |false=>
  obtain ⟨k',e',q'⟩:=q3
  cases e'
  exact ite_ff ⟨H3,I3,q'⟩
 |true=>
  refine ite_tt (test_last (thn (hc pins s3 σ H3 _ I3 q3) fun w' s4 ⟨z',H4,I4,r4,q4⟩=>thn (ho' pins s4 σ H4 y z' u w' _ I4 r2 r4 q4) fun d' s5 ⟨z2,H5,I5,r5,k2,e2,q5⟩=>?_))
  subst e2
  cases r5
  exact wpAny_truthy_bool ⟨H5,I5,q5⟩
def aXm (K:PySem.W.Frag) (x:V) (H:Hp) (k:Bool):Prop:=
 match x with
 |.non=>k=false
 |.bl b=>k=b
 |.int i=>k=(i != 0)
 |.str y=>y.length≤sizeLine∧k=((y.length:Int) != 0)
 |.byt y=>y.size≤sizeLine∧k=((y.size:Int) != 0)
 |.ref p=>(∃xs,SqL K H p xs∧k=!xs.isEmpty)∨(∃xs,SqT K H p xs∧k=!xs.isEmpty)∨∃kvs,H p=some (.dK kvs)∧k=!kvs.isEmpty
 |_=>False
theorem aKv {κ:Type} {kvs:List (κ × V)} {vs:List (κ × Value)} (r:KV kvs vs):(!vs.isEmpty)=!kvs.isEmpty:=by
 cases r <;> rfl
theorem aBs {xs:List V} {its:List Value} (r:Vals xs its):(!its.toArray.isEmpty)=!xs.isEmpty:=by
 cases r <;> simp
theorem uU:(sizeLine:Nat)<2 ^ 63:=by rw [sizeLine_eq];decide
theorem aWu:bA9 X (fun x H Q=>∃k,aXm X.K x H k∧Q k H):=by
 intro pins s σ H x v Q I rx h
 obtain ⟨k,e,q⟩:=h
 have hl:=uU
 have hs:sizeLine=16777216:=sizeLine_eq
 cases x with
 |non=>
  cases rx
  have e':k=false:=e
  subst e'
  exact truthy_none ⟨H,I,q⟩
 |bl b=>
  cases rx
  have e':k=b:=e
  subst e'
  exact wpAny_truthy_bool ⟨H,I,q⟩
 |int i=>
  obtain ⟨t,rfl⟩:=rx
  have e':k=(i != 0):=e
  subst e'
  exact PySem.P.truthy_int ⟨H,I,q⟩
 |str y=>
  obtain ⟨t,rfl⟩:=rx
  obtain ⟨hy,e'⟩:y.length≤sizeLine∧k=((y.length:Int) != 0):=e
  subst e'
  exact PySem.P.truthy_str (by lia) ⟨H,I.tok _,q⟩
 |byt y=>
  obtain ⟨t,rfl⟩:=rx
  obtain ⟨hy,e'⟩:y.size≤sizeLine∧k=((y.size:Int) != 0):=e
  subst e'
  exact PySem.W.truthy_bytes (by lia) ⟨H,I.tok _,q⟩
 |ref p=>
  cases rx
  have e':(∃xs,SqL X.K H p xs∧k=!xs.isEmpty)∨(∃xs,SqT X.K H p xs∧k=!xs.isEmpty)∨∃kvs,H p=some (.dK kvs)∧k=!kvs.isEmpty:=e
  rcases e' with ⟨xs,hx,e'⟩|⟨xs,hx,e'⟩|⟨kvs,hx,e'⟩
  ·subst e'
   obtain ⟨its,r,pl,hz⟩:=I.list hx
   have hlen:=r.length
   exact wpAny_truthy_list pl.isList (by simp only [List.size_toArray];lia) ⟨H,I.tok _,by rw [aBs r];exact q⟩
  ·subst e'
   obtain ⟨its,r,pl,hz⟩:=I.tuple hx
   have hlen:=r.length
   exact truthy_tuple pl (by simp only [List.size_toArray];lia) ⟨H,I.tok _,by rw [aBs r];exact q⟩
  ·subst e'
   obtain ⟨hz,hS,vs,r,m⟩:kvs.length≤sizeLine∧(p == sysModules)=false∧∃vs,KV kvs vs∧s.heap.DictOf (cN X.prog X.w) p vs:=I.hok p _ hx
   have hlen:kvs.length=vs.length:=Paired.length r
   exact wpAny_truthy_dict hS m (by lia) ⟨H,I.tok _,by rw [aKv r];exact q⟩
 |_=>exact (show False from e).elim
theorem aTm (ha:PE X a ta) (he:∀whole,isTrue a X.env whole=(do let v ←whole;standAt a.pos;holding [v] (truthy v))) :
  PT X a (fun σ H Q=>ta σ H fun x H'=>∃k,aXm X.K x H' k∧Q k H'):=by
 intro pins s σ H Q I h
 exact isTrue_plain (thn (ha pins s σ H _ I h) fun v s1 ⟨x,H1,I1,r1,q1⟩=>aWu pins s1 σ H1 x v Q I1 r1 q1) (he _)
theorem rE:OpR X (binaryOp .Add) (fun x y H Q=>∃i j,x=.str i∧y=.str j∧i.length+j.length≤sizeLine∧Q (.str (i++j)) H):=by
 intro pins s σ H x y v u Q I rx ry h
 obtain ⟨i,j,rfl,rfl,hz,q⟩:=h
 obtain ⟨t,rfl⟩:=rx
 obtain ⟨t',rfl⟩:=ry
 exact add_str (fun t' tk=>⟨.str (i++j),H,I.tok _,⟨_,rfl⟩,q⟩) hz
def aJv (b:Expr):Prop:=∀o i,subscripted b false o i=operate [o,i] (getItem o i)
theorem aJ4 (ha:PE X a ta) (hb:PE X b tb) (hs:aJv b) :
  PE X (.Subscript a b pos) (tOp (fun x y H Q=>∃z i c,x=.str z∧y=.int i∧0≤i∧i<2 ^ 63∧i<z.length∧z.cps[i.toNat]?=some c∧Q (.str ⟨#[c]⟩) H) ta tb):=by
 intro pins s σ H Q I h
 refine Subscript_ (aU9 ha hb I h fun v u s2 x y H2 I2 rx ry q=>?_)
 obtain ⟨z,i,c,rfl,rfl,h0,h63,h1,hc,q⟩:=q
 obtain ⟨t,rfl⟩:=rx
 obtain ⟨t',rfl⟩:=ry
 have e:seqIndex? i z.length=some i.toNat:=PySem.StrLaws.seqIndex_nonneg h0 h1
 exact tail_any (typeIs_str s2 z t) slot_str_getitem.lookup (getItem_str (c:=c) (by
  have e1:decide (i < -(2 ^ 63:Int))=false:=decide_eq_false (by lia)
  have e2:decide (i ≥ 2 ^ 63)=false:=decide_eq_false (by lia)
  rw [e1,e2] <;> rfl) (by rw [e];exact hc) ⟨.str ⟨#[c]⟩,H2,I2.tok _,⟨_,rfl⟩,q⟩) (hs _ _)
theorem vals1 {x:V} {us:List Value} (r:Vals [x] us):∃u,us=[u]∧RelV x u:=by
 cases r with
 |cons r1 r2=>cases r2;exact ⟨_,rfl,r1⟩
theorem vals2 {x y:V} {us:List Value} (r:Vals [x,y] us):∃u w',us=[u,w']∧RelV x u∧RelV y w':=by
 cases r with
 |cons r1 r2=>
  cases r2 with
  |cons r3 r4=>cases r4;exact ⟨_,_,rfl,r1,r3⟩
theorem aTl:cY X (.builtin "abs") (fun xs H Q=>∃i,xs=[.int i]∧Q (.int (if i<0 then -i else i)) H):=by
 intro pins s σ H xs us Q I r h
 obtain ⟨i,rfl,q⟩:=h
 obtain ⟨u,rfl,t,rfl⟩:=vals1 r
 exact call_abs_int fun u tk=>⟨.int (if i<0 then -i else i),H,I.tok _,⟨_,rfl⟩,q⟩
theorem aY2 (hc:X.calm=true):cY X (.builtin "min") (fun xs H Q=>∃i j,xs=[.int i,.int j]∧Q (.int (if j<i then j else i)) H):=by
 intro pins s σ H xs us Q I r h
 obtain ⟨i,j,rfl,q⟩:=h
 obtain ⟨u,w',rfl,⟨t,rfl⟩,⟨t',rfl⟩⟩:=vals2 r
 refine min_two_ints (I.ok.hd hc) fun h' tk k=>⟨_,H,I.kept k,?_,q⟩
 by_cases hj:j<i
 ·rw [if_pos hj,if_pos hj];exact ⟨_,rfl⟩
 ·rw [if_neg hj,if_neg hj];exact ⟨_,rfl⟩
theorem uB:cY X (.type "int") (fun xs H Q=>(∃i,xs=[.int i]∧Q (.int i) H)∨∃k,xs=[.bl k]∧Q (.int (if k then 1 else 0)) H):=by
 intro pins s σ H xs us Q I r h
 rcases h with ⟨i,rfl,q⟩|⟨k,rfl,q⟩
 ·obtain ⟨u,rfl,t,rfl⟩:=vals1 r
  exact call_int_int ⟨.int i,H,I,⟨_,rfl⟩,q⟩
 ·obtain ⟨u,rfl,r1⟩:=vals1 r
  cases r1
  exact call_int_bool ⟨.int (if k then 1 else 0),H,I.tok _,⟨_,rfl⟩,q⟩
end
section
variable {prog:Program} {w:World} {A:Around} {E:Value→Shared→Prop} {s:Shared} {K:PySem.W.Frag} {x dx C f:Addr} {mA:Str→Option Value} {name:Str} {v:Value}
end
theorem aDm.some_of {v:V} {o:Option Value} (r:aDm (some v) o):∃u,o=some u∧RelV v u:=by
 cases o with
 |none=>exact (show False from r).elim
 |some u=>exact ⟨u,rfl,r⟩
section
variable {P:Program} {w:World} {H H':Hp} {h h':Heap} {a C dx:Addr} {fs fs':List (Str × V)}
end
section
variable {X:Cx} {pins:List (Addr × Obj)} {σ:St} {H:Hp} {s:Shared} {a C dx:Addr} {fs:List (Str × V)} {f:Str} {v:V} {A:Around} {E:Value→Shared→Prop}
end
section
variable {X:Cx} {o e value:Expr} {f:Str} {pos pos' tpos:Pos} {ta tv:TE}
end
section
variable {X:Cx} {pins:List (Addr × Obj)} {σ:St} {H:Hp} {s:Shared} {A:Around} {E:Value→Shared→Prop} {Q:Value→Shared→Prop} {c:Value} {b:Bool}
end
structure Room (k:Nat) (A:Around):Prop where
 hd:A.handled=none
 dp:A.depth+3 * k+5<recursionLimit
 un:A.units+16 * k+200<cLine
theorem Room.mono {j k:Nat} {A:Around} (r:Room k A) (h:j≤k):Room j A:=⟨r.hd,by have:=r.dp;lia,by have:=r.un;lia⟩
theorem Room.deeper {k:Nat} {A:Around} (r:Room (k+1) A) (env:Env):Room k (A.deeper env):=
 ⟨r.hd,by have:=r.dp;show A.depth+1+3 * k+5<_;lia,by have:=r.un;show A.units+3+16 * k+200<_;lia⟩
theorem Room.depth {k:Nat} {A:Around} (r:Room k A):A.depth<recursionLimit:=by have:=r.dp;lia
theorem Room.units {k:Nat} {A:Around} (r:Room k A):A.units+64<cLine:=by have:=r.un;lia
def aK5:TA:=fun _ H Q=>Q [] H
def fK (ta:TE) (tr:TA):TA:=fun σ H Q=>ta σ H fun x H1=>tr σ H1 fun xs H2=>Q (x::xs) H2
section
variable {X:Cx} {e:Expr} {es:List Expr} {te:TE} {t:TA} {pos:Pos}
theorem aW1:PA X [] aK5:=fun _ _ _ _ H Q I h=>Calls.spliced_nil ⟨[],H,I,.nil,h⟩
theorem aVv (ha:PE X e te) (hr:PA X es t) (hs:starEach (e::es) X.env=(false,eval e X.env)::starEach es X.env:=by rfl):PA X (e::es) (fK te t):=by
 intro pos pins s σ H Q I h
 rw [hs]
 show wpAny _ _ (spliced ((false,eval e X.env)::backTo pos (starEach es X.env))) _ _ s
 refine Calls.spliced_cons (thn (ha pins s σ H _ I h) fun u s1 ⟨x,H1,I1,r1,q1⟩=>?_)
 exact thn (hr pos pins s1 σ H1 _ I1 q1) fun us s2 ⟨xs,H2,I2,r2,q2⟩=>⟨x::xs,H2,I2,.cons r1 r2,q2⟩
end
abbrev Sp:=List V→Hp→VK→XK→Prop
abbrev CXT:=List Env→Hp→Shared→XK→Value→Shared→Prop
structure aVp (P:Program) (w:World) (K:PySem.W.Frag) (mg:Str→Option Value) (base:Heap) (A:Around) (outer:List Env) (s:Shared) (H:Hp):Prop where
 frames:A.frames=some outer
 mod:Mod K mg base
 bs:∀b o,base.get? b=some o→s.heap.get? b=some o∧H b=none
 bsz:base.objs.size≤s.heap.objs.size
 funs:s.heap.FunFrames base outer
 frf:∀b∈frs outer,H b=none
 hok:HOk P w H s.heap
 bare:AllBare s.gens
def CE (outer:List Env) (P:Program) (w:World) (H:Hp) (s:Shared) (Q:VK) (u:Value) (s':Shared):Prop:=
 ∃v H',s'.os=s.os∧AllBare s'.gens∧Un (frs outer) [] H H' s.heap s'.heap∧HOk P w H' s'.heap∧RelV v u∧Q v H'
def CR (CX:CXT) (outer:List Env) (P:Program) (w:World) (H:Hp) (s:Shared) (Q:VK) (E:XK) (r:Result) (s':Shared):Prop:=
 match r with
 |.ok (.ret u)=>CE outer P w H s Q u s'
 |.ok _=>False
 |.error e=>CX outer H s E e s'
structure qM (P:Program) (w:World) (K:PySem.W.Frag) (mg:Str→Option Value) (base:Heap) (CX:CXT) (k:Nat) (f:Addr) (fd:FuncData) (ps:List Str) (sp:Sp):Prop where
 len:∀vs H Q E,sp vs H Q E→vs.length=ps.length
 run:∀(A:Around) (outer:List Env) (s:Shared) (H:Hp) (args:Args) (us:List Value) (vs:List V) (Q:VK) (E:XK),Room k A→aVp P w K mg base A outer s H→BindsTo s fd args (ps.zip us)→Vals vs us→sp vs H Q E →
  codeAny (model P w) A (.call (.ref f) args) (CR CX outer P w H s Q E) s
theorem qM.mono {P:Program} {w:World} {K:PySem.W.Frag} {mg:Str→Option Value} {base:Heap} {CX:CXT} {j k:Nat} {f:Addr} {fd:FuncData} {ps:List Str} {sp:Sp} (F:qM P w K mg base CX j f fd ps sp) (h:j≤k) :
  qM P w K mg base CX k f fd ps sp:=⟨F.len,fun A outer s H args us vs Q E hr=>F.run A outer s H args us vs Q E (hr.mono h)⟩
theorem qM.imp {P:Program} {w:World} {K:PySem.W.Frag} {mg:Str→Option Value} {base:Heap} {CX:CXT} {k:Nat} {f:Addr} {fd:FuncData} {ps:List Str} {sp sp':Sp} (F:qM P w K mg base CX k f fd ps sp)
  (h:∀vs H Q E,sp' vs H Q E→sp vs H Q E):qM P w K mg base CX k f fd ps sp':=
 ⟨fun vs H Q E q=>F.len vs H Q E (h _ _ _ _ q),fun A outer s H args us vs Q E hr he hb hv hs=>F.run A outer s H args us vs Q E hr he hb hv (h _ _ _ _ hs)⟩
section
variable {X:Cx} {pins:List (Addr × Obj)} {σ:St} {H:Hp} {s s':Shared}
theorem Inv.env0 (I:Inv X pins σ H s):aVp X.prog X.w X.K X.mg X.base X.A X.stack s H:=
 ⟨I.ok.frames,I.ok.mod,I.bs,Nat.le_trans I.ok.bsz I.sz,I.stack,I.aNi,I.hok,I.bare⟩
theorem Inv.after {Q:VK} {u:Value} (I:Inv X pins σ H s) (h:CE X.stack X.prog X.w H s Q u s'):EP X pins σ Q u s':=by
 obtain ⟨v,H',os,bare,un,hok,r,q⟩:=h
 obtain ⟨hh,g,d,t,os'⟩:=s'
 obtain rfl:os'=s.os:=os
 exact ⟨v,H',I.call (h':=hh) (g':=g) (d':=d) (t':=t) (ch:=[]) un hok bare (fun b z=>absurd z (by simp)),r,q⟩
end
def uO (sp:Sp) (dvs:List V) (E:XK) (t:TA):TE:=fun σ H Q=>t σ H fun vs H1=>sp (vs++dvs) H1 Q E
def Binds (K:PySem.W.Frag) (fd:FuncData) (ps:List Str) (ds:List Value):Prop:=
 ∀(s:Shared) (us:List Value),K.In s.heap→(us++ds).length=ps.length→BindsTo s fd ⟨us,[]⟩ (ps.zip (us++ds))
theorem Binds.all {K:PySem.W.Frag} {fd:FuncData} {ps:List Str} (h:∀us:List Value,us.length=ps.length→bindArgs fd ⟨us,[]⟩=pure (ps.zip us)):Binds K fd ps []:=fun s us _ hl=>by
 rw [List.append_nil] at hl ⊢
 exact .of_eq (h us hl)
def aGz (CX:CXT) (X:Cx) (E:XK):Prop:=∀(pins:List (Addr × Obj)) (σ:St) (H:Hp) (s:Shared) (e:Value) (s':Shared),Inv X pins σ H s→CX X.stack H s E e s'→X.xe e s'
section
variable {X:Cx} {CX:CXT} {k:Nat} {f C:Addr} {fd:FuncData} {ps:List Str} {sp:Sp} {dvs:List V} {ds:List Value} {E:XK} {x m:Str} {p pos apos:Pos} {e o:Expr} {es:List Expr} {ta:TE} {t:TA}
theorem aLa {pins:List (Addr × Obj)} {σ:St} {H:Hp} {s:Shared} {Q:VK} {us:List Value} {vs:List V} (F:qM X.prog X.w X.K X.mg X.base CX k f fd ps sp) (hr:Room k X.A) (hb:Binds X.K fd ps ds) (hd:Vals dvs ds) (hx:aGz CX X E)
  (I:Inv X pins σ H s) (r:Vals vs us) (h:sp (vs++dvs) H Q E):wpAny (model X.prog X.w) X.A (call (.ref f) us) (EP X pins σ Q) X.xe s:=by
 have r2:Vals (vs++dvs) (us++ds):=r.append hd
 have hl:(us++ds).length=ps.length:=by rw [←r2.length];exact F.len _ _ _ _ h
 refine wpAny_call (codeAny_mono (F.run X.A X.stack s H ⟨us,[]⟩ (us++ds) (vs++dvs) Q E hr I.env0 (hb s us I.kIn hl) r2 h) fun r s' hq=>?_)
 cases r with
 |error e=>exact hx pins σ H s e s' I hq
 |ok fl=>
  cases fl with
  |ret u=>exact I.after hq
  |next=>exact False.elim hq
  |brk=>exact False.elim hq
  |cont=>exact False.elim hq
theorem aUh (F:qM X.prog X.w X.K X.mg X.base CX k f fd ps sp) (hr:Room k X.A) (hg:Gl X x) (hm:X.mg x=some (.ref f)) (hk:PySem.W.keepIn X.K (.ref f)=true) (hb:Binds X.K fd ps ds) (hd:Vals dvs ds) (hx:aGz CX X E)
  (ha:PA X (e::es) t) (hdb:(x == ("__debug__":Str))=false:=by decide) (he:starEach (e::es) X.env=(false,eval e X.env)::starEach es X.env:=by rfl) (hpl:(backTo pos (starEach es X.env)).any (·.1)=false:=by rfl) :
  PE X (.Call (.Name x p) (e::es) [] pos) (uO sp dvs E t):=by
 intro pins s σ H Q I h
 refine wpAny_Call_Name_kw (aHc I hg hm ?_ hdb)
 refine PySem.W.callWith_K (h₀:=X.base) I.ok.mod.kin hk (thn (ha pos pins s σ H _ I h) fun us s1 ⟨vs,H1,I1,r,q⟩=>⟨I1.kIn,?_⟩) he hpl
 exact aLa F hr hb hd hx I1 r q
theorem aQ2 (F:qM X.prog X.w X.K X.mg X.base CX k f fd ps sp) (hr:Room k X.A) (hg:Gl X x) (hm:X.mg x=some (.ref f)) (hk:PySem.W.keepIn X.K (.ref f)=true) (hb:Binds X.K fd ps ds) (hd:Vals dvs ds) (hx:aGz CX X E)
  (hdb:(x == ("__debug__":Str))=false:=by decide):PE X (.Call (.Name x p) [] [] pos) (uO sp dvs E aK5):=by
 intro pins s σ H Q I h
 refine wpAny_Call_Name_kw (aHc I hg hm ?_ hdb)
 exact PySem.W.callWith_K0 I.kIn hk (aLa (us:=[]) F hr hb hd hx I .nil h)
end
section
variable {X:Cx} {CX:CXT} {k:Nat} {f C:Addr} {fd:FuncData} {ps ks:List Str} {sp:Sp} {E:XK} {x m:Str} {p pos apos kpos:Pos} {e o:Expr} {es:List Expr} {kws:List Keyword} {te ta:TE} {t tk:TA} {nm:Option Str}
variable {g:List Value→List Value→List Value} {gV:List V→List V→List V}
end
structure aP (N P:List Str) (sc:Scope):Prop where
 kind:sc.kind=.function
 co:sc.isCoroutine=false
 gen:sc.isGenerator=false
 nd:N.Nodup
 pre:N.take P.length=P
 par:∀x∈P,sc.names.lookup x=some .local∨sc.names.lookup x=some .cell
 nofree:∀y∈sc.names,y.2≠.free
theorem aEj {kindOf:Str→Option NameKind} {x:Str}:∀{binds:List (Str × Value)} {m:Str→Option Value},(∀v,(x,v)∉binds)→bindL kindOf binds m x=m x
 |[],_,_=>rfl
 |(n,v)::r,m,h=>by
  unfold bindL
  rw [aEj fun w hw=>h w (List.mem_cons_of_mem _ hw)]
  split
  ·have:x≠n:=by rintro rfl;exact h v List.mem_cons_self
   simp [this]
  ·rfl
theorem aEr {kindOf:Str→Option NameKind} {x:Str}:∀{binds:List (Str × Value)} {m:Str→Option Value},(∀v,(x,v)∉binds)→bindC kindOf binds m x=m x
 |[],_,_=>rfl
 |(n,v)::r,m,h=>by
  unfold bindC
  rw [aEr fun w hw=>h w (List.mem_cons_of_mem _ hw)]
  split
  ·rfl
  ·have:x≠n:=by rintro rfl;exact h v List.mem_cons_self
   simp [this]
theorem aEn {kindOf:Str→Option NameKind} {x:Str} {v:Value}:∀{P:List Str} {vs:List Value} {i:Nat} {m:Str→Option Value},P.Nodup→P[i]?=some x→vs[i]?=some v→kindOf x=some .local →
  bindL kindOf (P.zip vs) m x=some v
 |[],_,_,_,_,h,_,_=>by simp at h
 |_::_,[],_,_,_,_,h,_=>by simp at h
 |p::P,w::vs,0,m,nd,h1,h2,hk=>by
  simp at h1 h2;subst h1;subst h2
  show bindL kindOf ((p,w)::P.zip vs) m p=_
  unfold bindL
  rw [aEj fun v hv=>(List.nodup_cons.mp nd).1 (List.of_mem_zip hv).1,if_pos hk]
  simp
 |p::P,w::vs,i+1,m,nd,h1,h2,hk=>by
  show bindL kindOf ((p,w)::P.zip vs) m x=_
  unfold bindL
  exact aEn (i:=i) (List.nodup_cons.mp nd).2 (by simpa using h1) (by simpa using h2) hk
theorem aEd {kindOf:Str→Option NameKind} {x:Str} {v:Value}:∀{P:List Str} {vs:List Value} {i:Nat} {m:Str→Option Value},P.Nodup→P[i]?=some x→vs[i]?=some v→kindOf x≠some .local →
  bindC kindOf (P.zip vs) m x=some v
 |[],_,_,_,_,h,_,_=>by simp at h
 |_::_,[],_,_,_,_,h,_=>by simp at h
 |p::P,w::vs,0,m,nd,h1,h2,hk=>by
  simp at h1 h2;subst h1;subst h2
  show bindC kindOf ((p,w)::P.zip vs) m p=_
  unfold bindC
  rw [aEr fun v hv=>(List.nodup_cons.mp nd).1 (List.of_mem_zip hv).1,if_neg hk]
  simp
 |p::P,w::vs,i+1,m,nd,h1,h2,hk=>by
  show bindC kindOf ((p,w)::P.zip vs) m x=_
  unfold bindC
  exact aEd (i:=i) (List.nodup_cons.mp nd).2 (by simpa using h1) (by simpa using h2) hk
def start (N:List Str) (vs:List V):St:=vs.map some++List.replicate (N.length - vs.length) none
def aGb (CX:CXT) (P:Program) (w:World) (K:PySem.W.Frag) (mg:Str→Option Value) (base:Heap) (N:List Str) (qual:Str) (scope:Scope) (f:Addr) (cd:Value) (A:Around) (outer:List Env) (s:Shared) (H:Hp) (E:XK):Cx where
 prog:=P
 w:=w
 K:=K
 mg:=mg
 base:=base
 A:=A.deeper (envOfC qual scope s.heap.objs.size f cd)
 N:=N
 s₀:=s
 H₀:=H
 env:=envOfC qual scope s.heap.objs.size f cd
 outer:=outer
 stack:=envOfC qual scope s.heap.objs.size f cd::outer
 ex:=[]
 calm:=true
 fn:=fun _=>true
 pn:=[]
 xe:=fun e s'=>wpAny (model P w) (A.deeper (envOfC qual scope s.heap.objs.size f cd)) (leaving (envOfC qual scope s.heap.objs.size f cd) e) (fun _ s''=>CX outer H s E e s'') (fun e' s''=>CX outer H s E e' s'') s'
theorem aHq {sc:Scope} {n:Nat} {x:Str} (h:sc.names.lookup x=some .cell):∃c,(cellsFrom n sc.names []).lookup x=some c:=by
 have q:=PySem.W.cellsFrom_some sc.names n [] (.inl h)
 exact Option.isSome_iff_exists.mp q
theorem aO7 {CX:CXT} {P:Program} {w:World} {K:PySem.W.Frag} {mg:Str→Option Value} {base:Heap} {N ps:List Str} {qual:Str} {scope:Scope} {f:Addr} {cd:Value} {A:Around} {outer:List Env} {s s1:Shared} {H:Hp} {E:XK} {us:List Value} {vs:List V}
  (S:aP N ps scope) (hd:A.handled=none) (e0:aVp P w K mg base A outer s H) (hl:vs.length=ps.length) (r:Vals vs us)
  (x:InCallC s s.heap.objs.size (bindL (envOfC qual scope s.heap.objs.size f cd).kindOf (ps.zip us) fun _=>none) (cellsFrom (s.heap.objs.size+1) scope.names []) (bindC (envOfC qual scope s.heap.objs.size f cd).kindOf (ps.zip us) fun _=>none) s1) :
  Inv (aGb CX P w K mg base N qual scope f cd A outer s H E) [] (start N vs) H s1:=by
 have hpl:ps.length≤N.length:=by have:=congrArg List.length S.pre;rw [List.length_take] at this;lia
 obtain ⟨h1,tk,rfl,hk⟩:=x.done
 have noA:∀b:Addr,b∉(aGb CX P w K mg base N qual scope f cd A outer s H E).ex:=fun b z=>absurd (show b∈([]:List Addr) from z) (by simp)
 refine ⟨⟨e0.mod,S.kind,rfl,rfl,Nat.le_refl _,fun y z c h1 h2=>?_,fun y hy=>?_,fun y c _ h=>?_,fun _=>hd,Around.frames_deeper e0.frames,.inr ⟨rfl,rfl⟩,fun b z=>absurd z (noA b),e0.bs,e0.bsz,fun b _ _=>noA b,fun b z=>absurd z (noA b),e0.funs,e0.frf⟩,
  rfl,e0.bare,Un.kept hk,⟨_,x.toInCall.ns,fun i y v h1 h2 h3=>?_⟩,fun y c h=>⟨_,x.cell y c h⟩,e0.hok.fresh (Nat.le_refl _),fun y c h=>?_,fun p hp=>absurd (show p∈([]:List (Addr × Obj)) from hp) (by simp),e0.hok.kept hk,?_⟩
 ·exact name_of_addr x.apart (PySem.mem_of_lookup h1) (PySem.mem_of_lookup h2)
 ·have hy:scope.names.lookup y=some .cell∨scope.names.lookup y=some .free:=hy
  rcases hy with hy|hy
  ·exact aHq hy
  ·exact absurd rfl (S.nofree _ (PySem.mem_of_lookup hy))
 ·exact Nat.le_of_lt (x.above y c (PySem.mem_of_lookup h))
 ·have hi:i<vs.length:=by
   unfold start at h2
   by_cases hi:i<vs.length
   ·exact hi
   ·rw [List.getElem?_append_right (by simpa using hi)] at h2
    rw [List.getElem?_replicate] at h2
    split at h2 <;> cases h2
  have ha:vs[i]?=some v:=by
   unfold start at h2
   rw [List.getElem?_append_left (by simpa using hi),List.getElem?_map] at h2
   cases e:vs[i]? with
   |none=>rw [e] at h2;cases h2
   |some a=>rw [e] at h2;cases h2;rfl
  obtain ⟨u,hu,rv⟩:=r.get ha
  have hp:ps[i]?=some y:=by
   rw [←S.pre,List.getElem?_take_of_lt (by lia)];exact h1
  have ndP:ps.Nodup:=by rw [←S.pre];exact S.nd.sublist (List.take_sublist _ _)
  refine ⟨u,rv,?_⟩
  rcases S.par y (List.mem_of_getElem? hp) with k|k
  ·exact .inl ⟨k,aEn ndP hp hu k⟩
  ·obtain ⟨c,e⟩:=aHq (n:=s.heap.objs.size+1) k
   refine .inr ⟨.inl k,c,e,?_⟩
   have q:=x.cell y c e
   rw [aEd ndP hp hu (by show scope.names.lookup y≠_;rw [k];decide)] at q
   exact q
 ·exact e0.hok.fresh (Nat.le_of_lt (x.above y c (PySem.mem_of_lookup h)))
 ·unfold start
  show _=N.length
  rw [List.length_append,List.length_map,List.length_replicate]
  lia
theorem aZi {CX:CXT} {P:Program} {w:World} {K:PySem.W.Frag} {mg:Str→Option Value} {base:Heap} {k:Nat} {f:Addr} {name qual:Str} {params:Arguments} {body:List Stmt} {scope:Scope} {dV kV doc pm cdv ct oc:Value} {an od:Option Addr}
  {osl:Array (Option Value)} {N ps:List Str} {sp:Sp} (lk:K.lookup f=some ⟨oc,od,.func (PySem.W.fnOf name qual params body scope dV kV doc pm an cdv ct),osl⟩) (hcd:PySem.W.codeIn K cdv qual=true) (S:aP N ps scope)
  (len:∀vs H Q E,sp vs H Q E→vs.length=ps.length)
  (hbody:∀(A:Around) (outer:List Env) (s:Shared) (H:Hp) (vs:List V) (Q:VK) (E:XK),Room k (A.deeper (envOfC qual scope s.heap.objs.size f cdv))→sp vs H Q E →
   ∃t,PSs (aGb CX P w K mg base N qual scope f cdv A outer s H E) body t∧t { nx:=fun _ H'=>Q .non H',rt:=Q } (start N vs) H) :
  qM P w K mg base CX (k+1) f (PySem.W.fnOf name qual params body scope dV kV doc pm an cdv ct) ps sp:=by
 refine ⟨len,fun A outer s H args us vs Q E hr e0 hb r hsp=>?_⟩
 have hl:=len _ _ _ _ hsp
 have KX:K.In s.heap:=e0.mod.kin.keeps fun b o e=>(e0.bs b o e).1
 have lim:s.heap.NoLimit:=e0.mod.nolimit.keeps fun b o e=>(e0.bs b o e).1
 have hkind:∀y∈ps.zip us,scope.names.lookup y.1=some .local∨(scope.names.lookup y.1=some .cell∧((cellsFrom (s.heap.objs.size+1) scope.names []).lookup y.1).isSome=true):=fun ⟨n,v⟩ hy=>by
  rcases S.par n (List.of_mem_zip hy).1 with q|q
  ·exact .inl q
  ·exact .inr ⟨q,PySem.W.cellsFrom_some _ _ _ (.inl q)⟩
 refine codeAny_call_function hr.depth (KX _ _ lk) rfl S.co S.gen rfl (PySem.W.codeRec_of KX hcd) (hb _ _ _ _ ?_)
 refine wpAny_newFunctionEnv_cells S.kind hkind fun env he s1 x=>?_
 subst he
 refine ⟨lim.keeps x.toInCall.keep,codeAny_func ?_⟩
 obtain ⟨t,ht,hq⟩:=hbody A outer s H vs Q E (hr.deeper _) hsp
 have I:Inv (aGb CX P w K mg base N qual scope f cdv A outer s H E) [] (start N vs) H s1:=aO7 S hr.hd e0 hl r x
 refine wpAny_mono (ht [] s1 (start N vs) H _ I hq) (fun fl s' hs=>?_) fun e s' hs=>hs
 have fin:∀{σ':St} {H':Hp} {v:V} {u:Value},Inv (aGb CX P w K mg base N qual scope f cdv A outer s H E) [] σ' H' s'→RelV v u→Q v H'→CE outer P w H s Q u s':=
  fun {σ' H' v u} J rv q=>⟨v,H',J.os,J.bare,J.base,J.hok,rv,q⟩
 cases fl with
 |ret u=>
  obtain ⟨v,σ',H',J,rv,q⟩:=hs
  exact fin J rv q
 |next=>
  obtain ⟨σ',H',J,q⟩:=hs
  exact fin (v:=V.non) (u:=Value.none) J rfl q
 |brk=>
  obtain ⟨_,_,_,q⟩:=hs
  exact False.elim q
 |cont=>
  obtain ⟨_,_,_,q⟩:=hs
  exact False.elim q
section
variable {X:Cx} {x:Str} {p pos:Pos} {e:Expr} {es:List Expr} {t:TA} {id T:String} {r:List V→Hp→VK→Prop}
def tCB (r:List V→Hp→VK→Prop) (t:TA):TE:=fun σ H Q=>t σ H fun vs H1=>r vs H1 Q
theorem aQ4 (hc:cY X (.builtin id) r) (hg:Gl X x) (hm:X.mg x=none) (hv:bootBuiltins x=some (.builtin id)) (ha:PA X (e::es) t) (hn:x≠"__name__":=by decide) (hdb:(x == ("__debug__":Str))=false:=by decide)
  (he:starEach (e::es) X.env=(false,eval e X.env)::starEach es X.env:=by rfl) (hpl:(backTo pos (starEach es X.env)).any (·.1)=false:=by rfl):PE X (.Call (.Name x p) (e::es) [] pos) (tCB r t):=by
 intro pins s σ H Q I h
 refine wpAny_Call_Name_kw (qT I hg hm hv ?_ hn hdb)
 exact PyProof.Rows.callWith_builtin1 (thn (ha pos pins s σ H _ I h) fun us s1 ⟨vs,H1,I1,r1,q1⟩=>hc pins s1 σ H1 vs us Q I1 r1 q1) he hpl
theorem aOp (hc:cY X (.type T) r) (hg:Gl X x) (hm:X.mg x=none) (hv:bootBuiltins x=some (.type T)) (ha:PA X (e::es) t) (hn:x≠"__name__":=by decide) (hdb:(x == ("__debug__":Str))=false:=by decide)
  (he:starEach (e::es) X.env=(false,eval e X.env)::starEach es X.env:=by rfl) (hpl:(backTo pos (starEach es X.env)).any (·.1)=false:=by rfl):PE X (.Call (.Name x p) (e::es) [] pos) (tCB r t):=by
 intro pins s σ H Q I h
 refine wpAny_Call_Name_kw (qT I hg hm hv ?_ hn hdb)
 exact PyProof.Rows.callWith_type1 (thn (ha pos pins s σ H _ I h) fun us s1 ⟨vs,H1,I1,r1,q1⟩=>hc pins s1 σ H1 vs us Q I1 r1 q1) he hpl
end
end L2
namespace HT
open PySem PyProof.Rows
section
open PySem.SeqAt
open PySem.AutoSeq1 (wpAny_loadPart')
open PySem.MeetsSeq PySem.MeetsSeq2 PySem.MeetsSeq3
end
section
variable {prog:Program} {w:World} {A:Around} {E:Value→Shared→Prop} {s:Shared}
theorem aUi {t b:Addr} {vs ws:List Value} {Q:Value→Shared→Prop} (ht:IsTup s.heap t vs.toArray) (hb:IsTup s.heap b ws.toArray) (hv:vs≠[])
  (h1:ws=[]→Q (.ref t) s) (h2:ws≠[]→Q (.ref s.heap.objs.size) { s with heap:=s.heap.push { cls:=.type "tuple",data:=.seq (vs++ws).toArray } })
  (hsz:vs.length+ws.length≤sizeLine):wpAny (model prog w) A (binaryOp .Add (.ref t) (.ref b)) Q E s:=by
 obtain ⟨⟨cls,dd,data,sl⟩,ho,hc,n,hd⟩:=id ht
 obtain ⟨⟨cls2,dd2,data2,sl2⟩,ho2,hc2,n2,hd2⟩:=id hb
 simp only at hc hd hc2 hd2
 subst hc hd hc2 hd2
 have e:vs.toArray++ws.toArray=(vs++ws).toArray:=by simp
 by_cases hw:ws=[]
 ·exact concat_meets ⟨_,ho,rfl⟩ ⟨_,ho2,rfl⟩ noFill_tuple_add seq_tuple_add PySem.F.slot_tuple_add PySem.F.entry_tuple_add (PySem.F.args_tuple_add_2 _ _)
   (tuple_addW1 t b vs.toArray ws.toArray n n2 dd dd2 sl sl2 (by simpa using hv) (by simp [hw])) ⟨ho,ho2,h1 hw⟩
 ·refine concat_meets ⟨_,ho,rfl⟩ ⟨_,ho2,rfl⟩ noFill_tuple_add seq_tuple_add PySem.F.slot_tuple_add PySem.F.entry_tuple_add (PySem.F.args_tuple_add_2 _ _)
   (tuple_addW2 t b vs.toArray ws.toArray n n2 dd dd2 sl sl2 (by simpa using hv) (by simpa using hw) (by rw [List.size_toArray,List.size_toArray];exact hsz)) ⟨ho,ho2,?_⟩
  rw [e]
  exact h2 hw
def sIx (n d:Nat):Option Int→Nat
 |none=>d
 |some v=>if v<0 then (v+(n:Int)).toNat else min v.toNat n
theorem aCo (n d:Nat):sIx n d none=d:=rfl
theorem aA0 (n d k:Nat):sIx n d (some (k:Int))=min k n:=by
 show (if (k:Int)<0 then ((k:Int)+(n:Int)).toNat else min (k:Int).toNat n)=min k n
 rw [if_neg (by lia),Int.toNat_natCast]
theorem aYd (n d:Nat) (hd:d≤n) (o:Option Int):sIx n d o≤n:=by
 cases o with
 |none=>exact hd
 |some v=>
  show (if v<0 then (v+(n:Int)).toNat else min v.toNat n)≤n
  by_cases hv:v<0
  ·rw [if_pos hv];lia
  ·rw [if_neg hv];exact Nat.min_le_right _ _
theorem aM2 (v:Int) (n d:Nat):(if v<0 then max (v+(n:Int)) 0 else min v (n:Int))=((sIx n d (some v):Nat):Int):=by
 show (if v<0 then max (v+(n:Int)) 0 else min v (n:Int))=(((if v<0 then (v+(n:Int)).toNat else min v.toNat n):Nat):Int)
 by_cases hv:v<0
 ·simp only [if_pos hv];lia
 ·simp only [if_neg hv];lia
theorem aL7 (lo hi:Option Int) (n:Nat):Builtin.Slice.sliceAdjust lo hi 1 (n:Int)=(((sIx n 0 lo:Nat):Int),((sIx n n hi:Nat):Int)):=by
 have h1:¬ ((1:Int)<0):=by lia
 unfold Builtin.Slice.sliceAdjust
 simp only [h1,if_false]
 refine Prod.ext ?_ ?_
 ·cases lo with
  |none=>rfl
  |some v=>exact aM2 v n 0
 ·cases hi with
  |none=>rfl
  |some v=>exact aM2 v n n
theorem aLc (i j:Nat):Builtin.Slice.slicePlaces (i:Int) (j:Int) 1=j - i:=by
 unfold Builtin.Slice.slicePlaces
 have h1:(1:Int) > 0:=by lia
 simp only [h1,if_true,Int.ediv_one]
 split <;> lia
theorem aBm {v:Value} {o:Option Int} {Q:Option Int→Shared→Prop} (p:IsPart v o) (h:Q o s):wpAny (model prog w) A (Builtin.Slice.slicePartIndex v) Q E s:=by
 cases p with
 |none=>exact slicePart_none h
 |int i t=>exact slicePart_int h
theorem pW {sl:Addr} {vl vu:Value} {lo hi:Option Int} {n:Nat} {Q:Int × Int × Nat→Shared→Prop} (hs:s.heap.IsSliceOf sl vl vu .none) (pl:IsPart vl lo) (pu:IsPart vu hi)
  (h:Q (((sIx n 0 lo:Nat):Int),1,sIx n n hi - sIx n 0 lo) s):wpAny (model prog w) A (Builtin.Slice.sliceApplied (.ref sl) (pure (n:Int))) Q E s:=by
 obtain ⟨os,hos,hcs,hds⟩:=id hs
 unfold Builtin.Slice.sliceApplied Builtin.Slice.sliceFields
 refine wpAny_bind (wpAny_bind (wpAny_field hos hds (x:=vl) rfl (wpAny_bind (wpAny_field hos hds (x:=vu) rfl (wpAny_bind (wpAny_field hos hds (x:=.none) rfl (wpAny_pure ?_)))))))
 refine wpAny_bind (slicePart_none ?_)
 show wpAny _ _ (if ((1:Int) == 0)=true then _ else _) _ _ s
 rw [if_neg (by decide)]
 refine wpAny_bind (aBm pl (wpAny_bind (aBm pu (wpAny_bind (wpAny_pure ?_)))))
 show wpAny _ _ (match Builtin.Slice.sliceAdjust lo hi 1 (n:Int) with|(lo,hi)=>pure (lo,(1:Int),Builtin.Slice.slicePlaces lo hi 1)) _ _ s
 rw [aL7 lo hi n]
 show wpAny _ _ (pure (((sIx n 0 lo:Nat):Int),(1:Int),Builtin.Slice.slicePlaces ((sIx n 0 lo:Nat):Int) ((sIx n n hi:Nat):Int) 1)) _ _ s
 rw [aLc]
 exact wpAny_pure h
theorem aQ6 (xs:Array Value) (i k:Nat):((List.range k).filterMap fun (m:Nat)=>xs[((i:Int)+(m:Int) * 1).toNat]?).toArray=((xs.toList.drop i).take k).toArray:=by
 have e:(fun (m:Nat)=>xs[((i:Int)+(m:Int) * 1).toNat]?)=fun m=>xs[i+m]?:=by
  funext m
  have:((i:Int)+(m:Int) * 1).toNat=i+m:=by lia
  rw [this]
 rw [e]
 have:=pick_run xs i k
 rw [List.filterMap_map] at this
 have e2:((fun x=>xs[x]?) ∘ fun x=>i+x)=fun m=>xs[i+m]?:=rfl
 rw [e2] at this
 rw [this]
theorem xM {t sl:Addr} {items:Array Value} {vl vu:Value} {lo hi:Option Int} {Q:Value→Shared→Prop} (ht:IsTup s.heap t items) (hs:s.heap.IsSliceOf sl vl vu .none) (pl:IsPart vl lo) (pu:IsPart vu hi)
  (hw:¬ (sIx items.size 0 lo=0∧sIx items.size items.size hi=items.size))
  (h:Q (.ref s.heap.objs.size) { s with heap:=s.heap.push { cls:=.type "tuple",data:=.seq ((items.toList.drop (sIx items.size 0 lo)).take (sIx items.size items.size hi - sIx items.size 0 lo)).toArray } })
  (hsz:items.size≤sizeLine):wpAny (model prog w) A (getItem (.ref t) (.ref sl)) Q E s:=by
 have htake:sizeOk (.seq ((items.toList.drop (sIx items.size 0 lo)).take (sIx items.size items.size hi - sIx items.size 0 lo)).toArray):=by
  show ((items.toList.drop (sIx items.size 0 lo)).take (sIx items.size items.size hi - sIx items.size 0 lo)).toArray.size≤sizeLine
  rw [List.size_toArray,List.length_take,List.length_drop,Array.length_toList]
  lia
 have hj:sIx items.size items.size hi≤items.size:=aYd _ _ (Nat.le_refl _) hi
 obtain ⟨os,hos,hcs,hds⟩:=id hs
 have hTs:s.TypeIs (.ref sl) "slice":=⟨os,hos,hcs⟩
 unfold getItem
 try with_reducible refine wpAny_holding ?_
 first|refine wpAny_bind (wpAny_pure ?_)|skip
 refine wpAny_bind (wpAny_sequenceKey ht.typeIs (by decide) ?_)
 refine wpAny_bind (wpAny_callSpecial?_slot (name:=Str.ofString "__getitem__") ht.typeIs PyProof.Rows.slot_tuple_getitem
  (wpAny_call_entry PyProof.Rows.slot_tuple_getitem ht.typeIs entry_tuple_getitem ?_ (args_tuple_getitem _ _)))
 show wpAny _ _ (Builtin.Tuple.tupleItemsOf (.ref t) >>= _) _ _ s
 refine wpAny_bind (tupleItemsOf_ ht ?_)
 refine wpAny_bind (wpAny_typeOf hTs ?_)
 rw [if_pos (by decide)]
 refine wpAny_bind (pW hs pl pu ?_)
 have hno:¬ ((((sIx items.size 0 lo:Nat):Int) == 0 && (1:Int) == 1 && (sIx items.size items.size hi - sIx items.size 0 lo) == items.size)=true):=by
  intro q
  rw [Bool.and_eq_true,Bool.and_eq_true] at q
  have q1:((sIx items.size 0 lo:Nat):Int)=0:=eq_of_beq q.1.1
  have q2:sIx items.size items.size hi - sIx items.size 0 lo=items.size:=eq_of_beq q.2
  exact hw ⟨by lia,by lia⟩
 show wpAny _ _ (if (((sIx items.size 0 lo:Nat):Int) == 0 && (1:Int) == 1 && (sIx items.size items.size hi - sIx items.size 0 lo) == items.size)=true then _ else _) _ _ s
 rw [if_neg hno,aQ6]
 first
  |exact wpAny_bind (m:=Builtin.Tuple.tupleExact _) (wpAny_newObj_type (wpAny_pure ⟨_,rfl,wpAny_pure h⟩) htake)
  |exact wpAny_bind (m:=Builtin.Tuple.tupleExact _) (wpAny_newObj_type (wpAny_bind (wpAny_pure (wpAny_pure ⟨_,rfl,wpAny_pure h⟩))) htake)
  |exact wpAny_bind (wpAny_bind (m:=Builtin.Tuple.tupleExact _) (wpAny_newObj_type (wpAny_pure (wpAny_pure ⟨_,rfl,wpAny_pure h⟩)) htake))
  |exact wpAny_bind (wpAny_bind (m:=Builtin.Tuple.tupleExact _) (wpAny_newObj_type (wpAny_pure ⟨_,rfl,wpAny_pure h⟩) htake))
end
end HT
namespace L2
open PySem PySem.Spec PyProof.Rows
abbrev TO:=St→Hp→(Option Int→Hp→Prop)→Prop
def PO (X:Cx) (e:Option Expr) (t:TO):Prop:=
 ∀(pins:List (Addr × Obj)) (s:Shared) (σ:St) (H:Hp) (Q:Option Int→Hp→Prop),Inv X pins σ H s→t σ H Q →
  wpAny (model X.prog X.w) X.A (evalPart e X.env) (fun u s'=>∃o H',Inv X pins σ H' s'∧IsPart u o∧Q o H') X.xe s
def aNg:TO:=fun _ H Q=>Q none H
def aV2 (t:TE):TO:=fun σ H Q=>t σ H fun x H1=>∃i,x=.int i∧Q (some i) H1
section
variable {X:Cx} {e:Expr} {te:TE} {lo hi:Option Expr} {tl th:TO} {pos p2:Pos}
theorem aVn:PO X none aNg:=by
 intro pins s σ H Q I h
 rw [evalPart_none]
 exact wpAny_pure ⟨none,H,I,.none,h⟩
theorem aUs (h:PE X e te):PO X (some e) (aV2 te):=by
 intro pins s σ H Q I hw
 rw [evalPart_some]
 refine thn (h pins s σ H _ I hw) fun u s1 ⟨x,H1,I1,r1,q1⟩=>?_
 obtain ⟨i,rfl,q⟩:=q1
 obtain ⟨t,rfl⟩:=r1
 exact ⟨some i,H1,I1,.int i t,q⟩
def SlR (X:Cx) (r:V→Option Int→Option Int→Hp→VK→Prop):Prop:=
 ∀(pins:List (Addr × Obj)) (s:Shared) (σ:St) (H:Hp) (x:V) (v vl vu:Value) (lo hi:Option Int) (sl:Addr) (Q:VK),Inv X pins σ H s→RelV x v→s.heap.IsSliceOf sl vl vu .none→IsPart vl lo→IsPart vu hi→r x lo hi H Q →
  ∃T id,typeLookup (.type T) "__getitem__"=pure (some (.builtin id))∧s.TypeIs v T∧wpAny (model X.prog X.w) X.A (getItem v (.ref sl)) (EP X pins σ Q) X.xe s
def tSl (r:V→Option Int→Option Int→Hp→VK→Prop) (te:TE) (tl th:TO):TE:=fun σ H Q=>te σ H fun x H1=>tl σ H1 fun l H2=>th σ H2 fun u H3=>r x l u H3 Q
theorem aQg {r:V→Option Int→Option Int→Hp→VK→Prop} (hr:SlR X r) (he:PE X e te) (hl:PO X lo tl) (hu:PO X hi th):PE X (.Subscript e (.Slice lo hi none p2) pos) (tSl r te tl th):=by
 intro pins s σ H Q I h
 refine Subscript_ (thn (he pins s σ H _ I h) fun v s1 ⟨x,H1,I1,r1,q1⟩=>?_)
 refine wpAny_Slice (thn (hl pins s1 σ H1 _ I1 q1) fun vl s2 ⟨l,H2,I2,pl,q2⟩=>thn (hu pins s2 σ H2 _ I2 q2) fun vu s3 ⟨u,H3,I3,pu,q3⟩=>?_)
 rw [evalPart_none]
 refine wpAny_pure ?_
 have I4:Inv X pins σ H3 { s3 with heap:=s3.heap.push { cls:=.type "slice",data:=.fields #[vl,vu,.none] } }:=I3.kept (t':=s3.toks) fun b ob q=>Heap.get?_push_of_some _ q
 obtain ⟨T,id,hT,ht,hg⟩:=hr pins { s3 with heap:=s3.heap.push { cls:=.type "slice",data:=.fields #[vl,vu,.none] } } σ H3 x v vl vu l u s3.heap.objs.size Q I4 r1 (Heap.IsSliceOf.new ..) pl pu q3
 show wpAny (model X.prog X.w) X.A (subscriptTail e (.Slice lo hi none p2) v (.ref s3.heap.objs.size)) (EP X pins σ Q) X.xe { s3 with heap:=s3.heap.push { cls:=.type "slice",data:=.fields #[vl,vu,.none] } }
 exact tail_any (ops:=[.ref s3.heap.objs.size,v]) ht hT hg (by with_unfolding_all rfl)
def qC (xs:List V) (lo hi:Option Int):List V:=(xs.drop (HT.sIx xs.length 0 lo)).take (HT.sIx xs.length xs.length hi - HT.sIx xs.length 0 lo)
theorem oZ (xs:List V) (lo hi:Option Int):(qC xs lo hi).length≤xs.length:=by
 unfold qC
 rw [List.length_take,List.length_drop]
 lia
def bA7 (K:PySem.W.Frag):V→Option Int→Option Int→Hp→VK→Prop:=fun x lo hi H Q=>∃a xs,x=.ref a∧SqT K H a xs ∧
 ¬ (HT.sIx xs.length 0 lo=0∧HT.sIx xs.length xs.length hi=xs.length)∧∀p,H p=none→Q (.ref p) (upd H p (.tup (qC xs lo hi)))
theorem aYh:SlR X (bA7 X.K):=by
 intro pins s σ H x v vl vu lo hi sl Q I rx hs pl pu h
 obtain ⟨a,xs,rfl,hx,hw,q⟩:=h
 cases rx
 obtain ⟨its,r,ht,hz⟩:=I.tuple hx
 have hlen:its.toArray.size=xs.length:=by rw [List.size_toArray];exact r.length.symm
 refine ⟨"tuple",_,PyProof.Rows.slot_tuple_getitem.lookup,ht.typeIs,?_⟩
 refine HT.xM ht hs pl pu (by rw [hlen];exact hw) ?_ (by rw [hlen];exact hz)
 rw [hlen]
 refine ⟨.ref s.heap.objs.size,_,I.laid (t':=s.toks) (o:=.tup (qC xs lo hi)) (fun b ob q=>Heap.get?_push_of_some _ q) (Nat.le_refl _) ?_,rfl,q _ (I.hok.fresh (Nat.le_refl _))⟩
 exact ⟨Nat.le_trans (oZ xs lo hi) hz,_,(r.drop (HT.sIx xs.length 0 lo)).take (HT.sIx xs.length xs.length hi - HT.sIx xs.length 0 lo),zR.new _ _⟩
def aY6 (K:PySem.W.Frag):R2:=fun x y H Q=>∃a b xs ys,x=.ref a∧y=.ref b∧SqT K H a xs∧SqT K H b ys∧xs≠[]∧xs.length+ys.length≤sizeLine ∧
 (ys=[]→Q (.ref a) H)∧(ys≠[]→∀p,H p=none→Q (.ref p) (upd H p (.tup (xs++ys))))
theorem Vals.aFd {xs:List V} {us:List Value} (r:Vals xs us):us=[]↔xs=[]:=by
 cases r with
 |nil=>simp
 |cons _ _=>simp
theorem aU6:OpR X (binaryOp .Add) (aY6 X.K):=by
 intro pins s σ H x y v u Q I rx ry h
 obtain ⟨a,b,xs,ys,rfl,rfl,ha,hb,hx,hz,q1,q2⟩:=h
 cases rx
 cases ry
 obtain ⟨its,r1,p1,_⟩:=I.tuple ha
 obtain ⟨its2,r2,p2,_⟩:=I.tuple hb
 refine HT.aUi p1 p2 (fun z=>hx (r1.aFd.mp z)) (fun z=>⟨.ref a,H,I,rfl,q1 (r2.aFd.mp z)⟩) (fun z=>?_) (by rw [←r1.length,←r2.length];exact hz)
 refine ⟨.ref s.heap.objs.size,_,I.laid (t':=s.toks) (o:=.tup (xs++ys)) (fun b ob q=>Heap.get?_push_of_some _ q) (Nat.le_refl _) ?_,rfl,q2 (fun w=>z (r2.aFd.mpr w)) _ (I.hok.fresh (Nat.le_refl _))⟩
 exact ⟨by rw [List.length_append];exact hz,_,r1.append r2,zR.new _ _⟩
end
def ixN (n:Nat) (i:Int):Option Nat:=if 0≤i then (if i<n then some i.toNat else none) else if -(n:Int)≤i then some (i+n).toNat else none
def atI {α:Type} (xs:List α) (i:Int):Option α:=(ixN xs.length i).bind fun j=>xs[j]?
theorem aM9 {n:Nat} {i:Int} {j:Nat} (h:ixN n i=some j):seqIndex? i n=some j∧j<n∧-(n:Int)≤i∧i<n:=by
 unfold ixN at h
 by_cases h0:0≤i
 ·rw [if_pos h0] at h
  by_cases h1:i<n
  ·rw [if_pos h1] at h
   have e:i.toNat=j:=Option.some.inj h
   exact ⟨by rw [seqIndex_of h0 h1,e],by lia,by lia,h1⟩
  ·rw [if_neg h1] at h;cases h
 ·rw [if_neg h0] at h
  by_cases h1:-(n:Int)≤i
  ·rw [if_pos h1] at h
   have e:(i+n).toNat=j:=Option.some.inj h
   exact ⟨by rw [seqIndex_neg (by lia) h1,e],by lia,h1,by lia⟩
  ·rw [if_neg h1] at h;cases h
theorem aNn {α:Type} {xs:List α} {i:Int} {v:α} (h:atI xs i=some v):∃j,seqIndex? i xs.length=some j∧xs[j]?=some v∧j<xs.length∧-(xs.length:Int)≤i∧i<xs.length:=by
 unfold atI at h
 cases e:ixN xs.length i with
 |none=>rw [e] at h;cases h
 |some j=>
  rw [e] at h
  obtain ⟨h1,h2,h3,h4⟩:=aM9 e
  exact ⟨j,h1,h,h2,h3,h4⟩
theorem cF {α:Type} {xs:List α} {j:Nat} {v:α} (h:xs[j]?=some v):atI xs (j:Int)=some v:=by
 have hj:j<xs.length:=(List.getElem?_eq_some_iff.mp h).1
 have e:ixN xs.length (j:Int)=some j:=by
  unfold ixN
  rw [if_pos (by lia),if_pos (by lia)];simp
 unfold atI;rw [e];exact h
def aNl (b:Expr):Prop:=∀o i,subscripted b false o i=operate [o,i] (getItem o i)
def IxR (X:Cx) (r:R2):Prop:=
 ∀(value slice:Expr) (pins:List (Addr × Obj)) (s:Shared) (σ:St) (H:Hp) (x y:V) (v u:Value) (Q:VK),Inv X pins σ H s→RelV x v→RelV y u→r x y H Q →
  subscripted slice false v u=operate [v,u] (getItem v u)→wpAny (model X.prog X.w) X.A (subscriptTail value slice v u) (EP X pins σ Q) X.xe s
def MtR (X:Cx) (id:String) (r:V→List V→Hp→VK→Prop):Prop:=
 ∀(pins:List (Addr × Obj)) (s:Shared) (σ:St) (H:Hp) (x:V) (xs:List V) (v:Value) (us:List Value) (Q:VK),Inv X pins σ H s→RelV x v→Vals xs us→r x xs H Q →
  wpAny (model X.prog X.w) X.A (call (.builtin id) (v::us)) (EP X pins σ Q) X.xe s
section
variable {X:Cx} {a b:Expr} {ta tb:TE} {pos:Pos}
theorem aZd {r:R2} (hr:IxR X r) (ha:PE X a ta) (hb:PE X b tb) (hs:aNl b):PE X (.Subscript a b pos) (tOp r ta tb):=by
 intro pins s σ H Q I h
 exact Subscript_ (aU9 ha hb I h fun v u s2 x y H2 I2 rx ry q=>hr a b pins s2 σ H2 x y v u Q I2 rx ry q (hs _ _))
def aZt (K:PySem.W.Frag):R2:=fun x y H Q=>∃p xs i v,x=.ref p∧y=.int i∧SqL K H p xs∧atI xs i=some v∧Q v H
def aW4 (K:PySem.W.Frag):R2:=fun x y H Q=>∃p xs i v,x=.ref p∧y=.int i∧SqT K H p xs∧atI xs i=some v∧Q v H
theorem bN:IxR X (aZt X.K):=by
 intro value slice pins s σ H x y v u Q I rx ry h hs
 obtain ⟨p,xs,i,z,rfl,rfl,hq,he,q⟩:=h
 cases rx
 obtain ⟨t,rfl⟩:=ry
 obtain ⟨its,r,pl,hz⟩:=I.list hq
 obtain ⟨j,h1,h2,h3,h4,h5⟩:=aNn he
 obtain ⟨w,ew,rw'⟩:=r.get h2
 have hl:=r.length
 have hn:=uU
 have fin:EP X pins σ Q w s:=⟨z,H,I,rw',q⟩
 by_cases h0:0≤i
 ·have hj:i.toNat=j:=by
   rw [seqIndex_of h0 h5] at h1
   exact Option.some.inj h1
  exact item_listR pl.isList h0 (by lia) (by rw [hj];simpa using ew) fin hs
 ·have hj:(i+(its.toArray.size:Int)).toNat=j:=by
   rw [seqIndex_neg (by lia) h4] at h1
   rw [List.size_toArray,←hl]
   exact Option.some.inj h1
  exact subscriptTail_builtinR (x:=w) pl.isList.typeIs slot_list_getitem.lookup
   (wpAny_getItem_list_neg (Q:=fun r s'=>r=w∧EP X pins σ Q r s') pl.isList (by lia) (by rw [List.size_toArray] <;> lia) (by lia) (by rw [hj];simpa using ew) ⟨rfl,fin⟩) hs
theorem aR:IxR X (aW4 X.K):=by
 intro value slice pins s σ H x y v u Q I rx ry h hs
 obtain ⟨p,xs,i,z,rfl,rfl,hq,he,q⟩:=h
 cases rx
 obtain ⟨t,rfl⟩:=ry
 obtain ⟨its,r,pl,hz⟩:=I.tuple hq
 obtain ⟨j,h1,h2,h3,h4,h5⟩:=aNn he
 obtain ⟨w,ew,rw'⟩:=r.get h2
 have hl:=r.length
 have hn:=uU
 have fin:EP X pins σ Q w s:=⟨z,H,I,rw',q⟩
 exact subscriptTail_builtinR (x:=w) pl.typeIs slot_tuple_getitem.lookup
  (getItem_tuple (j:=j) (Q:=fun r s'=>r=w∧EP X pins σ Q r s') pl (by lia) (by lia) (by rw [List.size_toArray,←hl];exact h1) (by simpa using ew) ⟨rfl,fin⟩) hs
theorem aKt (its:List Value) (n j:Nat) (u:Value):Obj.mapSeq (·.setIfInBounds j u) { cls:=.type "list",data:=.seq its.toArray n }={ cls:=.type "list",data:=.seq (its.set j u).toArray n }:=by
 simp [Obj.mapSeq]
theorem Inv.lst {pins:List (Addr × Obj)} {σ:St} {H:Hp} {s:Shared} {p:Addr} {xs:List V} (I:Inv X pins σ H s) (h:H p=some (.lst xs)) :
  ∃(its:List Value) (n:Nat),Vals xs its∧s.heap.get? p=some { cls:=.type "list",data:=.seq its.toArray n }∧xs.length≤sizeLine:=by
 obtain ⟨z,its,n,r,e⟩:=I.hok p _ h
 exact ⟨its,n,r,e,z⟩
theorem Inv.aYe {pins:List (Addr × Obj)} {σ:St} {H:Hp} {s:Shared} {p:Addr} {xs ys:List V} {its its':List Value} {n n':Nat} {f:Obj→Obj} (I:Inv X pins σ H s) (h:H p=some (.lst xs))
  (ho:s.heap.get? p=some { cls:=.type "list",data:=.seq its.toArray n }) (hf:f { cls:=.type "list",data:=.seq its.toArray n }={ cls:=.type "list",data:=.seq its'.toArray n' }) (r:Vals ys its') (hz:ys.length≤sizeLine) (t:Nat) :
  Inv X pins σ (upd H p (.lst ys)) { s with heap:=s.heap.update p f,toks:=t }:=by
 have e:(s.heap.update p f).get? p=some { cls:=.type "list",data:=.seq its'.toArray n' }:=by
  rw [Heap.get?_update_self f ho (by rw [hf] <;> rfl),hf]
 refine I.write (x:=p) (e:=p) (by rw [h];trivial) (.inl rfl) (fun b u hb q=>(Heap.get?_update_other _ _ (Ne.symm hb)).trans q) ⟨_,e⟩ ?_
 exact ⟨hz,its',n',r,e⟩
def aZj:V→V→V→Hp→(Hp→Prop)→Prop:=fun o i v H Q=>∃p xs k j,o=.ref p∧i=.int k∧H p=some (.lst xs)∧ixN xs.length k=some j∧Q (upd H p (.lst (xs.set j v)))
theorem set_list:aXu X aZj:=by
 intro pins s σ H o i v ov iv u Q I ro ri rv h
 obtain ⟨p,xs,k,j,rfl,rfl,hp,hj,q⟩:=h
 cases ro
 obtain ⟨t,rfl⟩:=ri
 obtain ⟨its,n,r,ho,hz⟩:=I.lst hp
 obtain ⟨h1,h2,h3,h4⟩:=aM9 hj
 have hl:=r.length
 have hn:=uU
 have I':Inv X pins σ (upd H p (.lst (xs.set j v))) { s with heap:=s.heap.update p (Obj.mapSeq (·.setIfInBounds j u)) }:=
  I.aYe hp ho (aKt its n j u) (r.set rv j) (by rw [List.length_set];exact hz) s.toks
 by_cases h0:0≤k
 ·have hk:k.toNat=j:=by
   rw [seqIndex_of h0 h4] at h1
   exact Option.some.inj h1
  exact PySem.W.ki_setAt ho h0 (by lia) (by rw [List.size_toArray,←hl];exact h4) (by rw [hk];exact ⟨_,I',q⟩)
 ·have hk:(k+(its.toArray.size:Int)).toNat=j:=by
   rw [seqIndex_neg (by lia) h3] at h1
   rw [List.size_toArray,←hl]
   exact Option.some.inj h1
  exact PySem.W.ki_setBack ho (by lia) (by rw [List.size_toArray,←hl];exact h3) (by lia) (by rw [hk];exact ⟨_,I',q⟩)
theorem aGo (lo hi:Option Int) (n:Nat):(sliceBounds lo hi none n).1=((HT.sIx n 0 lo:Nat):Int)∧(sliceBounds lo hi none n).2.1=((HT.sIx n n hi:Nat):Int)∧(sliceBounds lo hi none n).2.2=1:=by
 refine ⟨?_,?_,rfl⟩
 ·cases lo with
  |none=>simp [sliceBounds,HT.sIx]
  |some i=>
   simp only [sliceBounds,HT.sIx,Option.getD_none,show (1:Int) > 0 by decide,if_true]
   by_cases h:i<0
   ·simp only [h,if_true] <;> lia
   ·simp only [h,if_false] <;> lia
 ·cases hi with
  |none=>simp [sliceBounds,HT.sIx]
  |some i=>
   simp only [sliceBounds,HT.sIx,Option.getD_none,show (1:Int) > 0 by decide,if_true]
   by_cases h:i<0
   ·simp only [h,if_true] <;> lia
   ·simp only [h,if_false] <;> lia
theorem aDs (its:List Value) (lo hi:Option Int):slicePick its.toArray lo hi none=((its.drop (HT.sIx its.length 0 lo)).take (HT.sIx its.length its.length hi - HT.sIx its.length 0 lo)).toArray:=by
 obtain ⟨h1,h2,h3⟩:=aGo lo hi its.toArray.size
 unfold slicePick
 rw [h1,h2,h3]
 simp only [sliceRange_one,pick_run,List.size_toArray] <;> rfl
def bA1 (K:PySem.W.Frag):V→Option Int→Option Int→Hp→VK→Prop:=fun x lo hi H Q=>∃a xs,x=.ref a∧SqL K H a xs∧∀p,H p=none→Q (.ref p) (upd H p (.lst (qC xs lo hi)))
theorem aUj:SlR X (bA1 X.K):=by
 intro pins s σ H x v vl vu lo hi sl Q I rx hs pl pu h
 obtain ⟨a,xs,rfl,hx,q⟩:=h
 cases rx
 obtain ⟨its,r,ht,hz⟩:=I.list hx
 have hlen:=r.length
 refine ⟨"list",_,slot_list_getitem.lookup,ht.isList.typeIs,?_⟩
 refine wpAny_getItem_list_slice ht.isList hs pl pu .none (by simp) ?_ (by rw [List.size_toArray] <;> lia)
 rw [aDs,←hlen]
 refine ⟨.ref s.heap.objs.size,_,I.laid (t':=s.toks) (o:=.lst (qC xs lo hi)) (fun b ob q=>Heap.get?_push_of_some _ q) (Nat.le_refl _) ?_,rfl,q _ (I.hok.fresh (Nat.le_refl _))⟩
 exact ⟨Nat.le_trans (oZ xs lo hi) hz,_,0,(r.drop (HT.sIx xs.length 0 lo)).take (HT.sIx xs.length xs.length hi - HT.sIx xs.length 0 lo),Heap.get?_push_size _ rfl⟩
def jY:V→Bool
 |.non=>true
 |.bl _=>true
 |.int _=>true
 |.str _=>true
 |_=>false
def eqV:V→V→Bool
 |.non,.non=>true
 |.bl a,.bl b=>a == b
 |.bl a,.int b=>(if a then 1 else 0) == b
 |.int a,.bl b=>a == (if b then 1 else 0)
 |.int a,.int b=>a == b
 |.str a,.str b=>a == b
 |_,_=>false
theorem aXf {A:Around} {s:Shared} {y x:V} {u v:Value} (ry:RelV y u) (rx:RelV x v) (fy:jY y=true) (fx:jY x=true):SeqAt.EqAt A s u v (eqV y x):=by
 cases y with
 |non=>
  cases ry
  cases x with
  |non=>cases rx;exact SeqAt.EqAt.same _
  |bl b=>cases rx;exact SeqAt.EqAt.none_bool b
  |int b=>obtain ⟨t,rfl⟩:=rx;exact SeqAt.EqAt.none_int b t
  |str b=>obtain ⟨t,rfl⟩:=rx;exact SeqAt.EqAt.none_str b t
  |_=>exact absurd (show false=true from fx) Bool.false_ne_true
 |bl a=>
  cases ry
  cases x with
  |non=>cases rx;exact SeqAt.EqAt.bool_none a
  |bl b=>cases rx;exact SeqAt.EqAt.bool_bool a b
  |int b=>obtain ⟨t,rfl⟩:=rx;exact SeqAt.EqAt.bool_int a b t
  |str b=>obtain ⟨t,rfl⟩:=rx;exact SeqAt.EqAt.bool_str a b t
  |_=>exact absurd (show false=true from fx) Bool.false_ne_true
 |int a=>
  obtain ⟨t',rfl⟩:=ry
  cases x with
  |non=>cases rx;exact SeqAt.EqAt.int_none a t'
  |bl b=>cases rx;exact SeqAt.EqAt.int_bool a t' b
  |int b=>obtain ⟨t,rfl⟩:=rx;exact SeqAt.EqAt.int_int a t' b t
  |str b=>obtain ⟨t,rfl⟩:=rx;exact SeqAt.EqAt.int_str a t' b t
  |_=>exact absurd (show false=true from fx) Bool.false_ne_true
 |str a=>
  obtain ⟨t',rfl⟩:=ry
  cases x with
  |non=>cases rx;exact SeqAt.EqAt.str_none a t'
  |bl b=>cases rx;exact SeqAt.EqAt.str_bool a t' b
  |int b=>obtain ⟨t,rfl⟩:=rx;exact SeqAt.EqAt.str_int a t' b t
  |str b=>obtain ⟨t,rfl⟩:=rx;exact SeqAt.EqAt.str_str a t' b t
  |_=>exact absurd (show false=true from fx) Bool.false_ne_true
 |_=>exact absurd (show false=true from fy) Bool.false_ne_true
def eqU (x:V) (u:Value):Bool:=match u with
 |.none=>eqV .non x
 |.bool b=>eqV (.bl b) x
 |.int i _=>eqV (.int i) x
 |.str z _=>eqV (.str z) x
 |_=>false
theorem aRr {x y:V} {u:Value} (r:RelV y u) (f:jY y=true):eqU x u=eqV y x:=by
 cases y with
 |non=>cases r;rfl
 |bl b=>cases r;rfl
 |int i=>obtain ⟨t,rfl⟩:=r;rfl
 |str z=>obtain ⟨t,rfl⟩:=r;rfl
 |_=>exact absurd (show false=true from f) Bool.false_ne_true
theorem vZ {x:V}:∀{xs:List V} {us:List Value},Vals xs us→xs.all jY=true→us.any (eqU x)=xs.any fun y=>eqV y x
 |_,_,.nil,_=>rfl
 |y::xs,u::us,.cons r t,f=>by
  rw [List.all_cons,Bool.and_eq_true] at f
  rw [List.any_cons,List.any_cons,aRr r f.1,vZ t f.2]
theorem rP {A:Around} {s:Shared} {x:V} {v:Value} (rx:RelV x v) (fx:jY x=true):∀{xs:List V} {us:List Value},Vals xs us→xs.all jY=true→∀u∈us,SeqAt.EqAt A s u v (eqU x u)
 |_,_,.nil,_=>fun u hu=>by cases hu
 |y::xs,u::us,.cons r t,f=>fun u' hu=>by
  rw [List.all_cons,Bool.and_eq_true] at f
  rcases List.mem_cons.mp hu with rfl|hu
  ·rw [aRr r f.1];exact aXf r rx f.1 fx
  ·exact rP rx fx t f.2 u' hu
def inV (x:V) (xs:List V):Bool:=xs.any fun y=>eqV y x
def rIn (K:PySem.W.Frag) (neg:Bool):R2:=fun x y H Q=>∃p xs,y=.ref p∧(SqL K H p xs∨SqT K H p xs)∧jY x=true∧xs.all jY=true∧Q (.bl (if neg then !inV x xs else inV x xs)) H
theorem uC:OpR X (compareOp .In) (rIn X.K false):=by
 intro pins s σ H x y v u Q I rx ry h
 obtain ⟨p,xs,rfl,hq,fx,fs,q⟩:=h
 cases ry
 rcases hq with hq|hq
 ·obtain ⟨its,r,pl,hz⟩:=I.list hq
  refine SeqAt.in_listAt (eqU x) pl.isList (fun w hw=>rP rx fx r fs w (by simpa using hw)) ⟨.bl _,H,I,rfl,?_⟩
  rw [show its.toArray.any (eqU x)=its.any (eqU x) by simp,vZ r fs]
  exact q
 ·obtain ⟨its,r,pl,hz⟩:=I.tuple hq
  refine SeqAt.in_tupleAt (eqU x) pl (fun w hw=>rP rx fx r fs w (by simpa using hw)) ⟨.bl _,H,I,rfl,?_⟩
  rw [show its.toArray.any (eqU x)=its.any (eqU x) by simp,vZ r fs]
  exact q
theorem wJ:OpR X (compareOp .NotIn) (rIn X.K true):=by
 intro pins s σ H x y v u Q I rx ry h
 obtain ⟨p,xs,rfl,hq,fx,fs,q⟩:=h
 cases ry
 rcases hq with hq|hq
 ·obtain ⟨its,r,pl,hz⟩:=I.list hq
  refine SeqAt.notIn_listAt (eqU x) pl.isList (fun w hw=>rP rx fx r fs w (by simpa using hw)) ⟨.bl _,H,I,rfl,?_⟩
  rw [show its.toArray.any (eqU x)=its.any (eqU x) by simp,vZ r fs]
  exact q
 ·obtain ⟨its,r,pl,hz⟩:=I.tuple hq
  refine SeqAt.notIn_tupleAt (eqU x) pl (fun w hw=>rP rx fx r fs w (by simpa using hw)) ⟨.bl _,H,I,rfl,?_⟩
  rw [show its.toArray.any (eqU x)=its.any (eqU x) by simp,vZ r fs]
  exact q
theorem aX:cY X (.builtin "len") (fun xs H Q=>∃p ys,xs=[.ref p]∧(SqL X.K H p ys∨SqT X.K H p ys)∧Q (.int ys.length) H):=by
 intro pins s σ H xs us Q I r h
 obtain ⟨p,ys,rfl,hq,q⟩:=h
 obtain ⟨u,rfl,rx⟩:=vals1 r
 cases rx
 have hn:=uU
 rcases hq with hq|hq
 ·obtain ⟨its,r',pl,hz⟩:=I.list hq
  have hlen:=r'.length
  exact Calls.call_len_list pl.isList (by simp only [List.size_toArray] <;> lia) ⟨.int ys.length,H,I.tok _,⟨s.toks+1,by rw [List.size_toArray,hlen]⟩,q⟩
 ·obtain ⟨its,r',pl,hz⟩:=I.tuple hq
  have hlen:=r'.length
  exact len_tuple pl (by simp only [List.size_toArray] <;> lia) ⟨.int ys.length,H,I.tok _,⟨s.toks+1,by rw [List.size_toArray,hlen]⟩,q⟩
theorem xK:cY X (.builtin "len") (fun xs H Q=>∃z,xs=[.str z]∧z.length≤sizeLine∧Q (.int z.length) H):=by
 intro pins s σ H xs us Q I r h
 obtain ⟨z,rfl,hz,q⟩:=h
 obtain ⟨u,rfl,t,rfl⟩:=vals1 r
 have hn:=uU
 exact len_str (by lia) ⟨.int z.length,H,I.tok _,⟨_,rfl⟩,q⟩
theorem cY.or {f:Value} {r r':List V→Hp→VK→Prop} (h:cY X f r) (h':cY X f r'):cY X f (fun xs H Q=>r xs H Q∨r' xs H Q):=by
 intro pins s σ H xs us Q I rs q
 rcases q with q|q
 ·exact h pins s σ H xs us Q I rs q
 ·exact h' pins s σ H xs us Q I rs q
theorem aFh:cY X (.type "list") (fun xs H Q=>∃p ys,xs=[.ref p]∧(SqL X.K H p ys∨SqT X.K H p ys)∧∀l,H l=none→Q (.ref l) (upd H l (.lst ys))):=by
 intro pins s σ H xs us Q I r h
 obtain ⟨p,ys,rfl,hq,q⟩:=h
 obtain ⟨u,rfl,rx⟩:=vals1 r
 cases rx
 have fin:∀(its:List Value),Vals ys its→ys.length≤sizeLine→∀(h':Heap) (c':Nat),(∀b o',s.heap.get? b=some o'→h'.get? b=some o') →
   h'.get? s.heap.objs.size=some { cls:=.type "list",dict:=none,data:=.seq its.toArray c',slots:=#[] }→EP X pins σ Q (.ref s.heap.objs.size) { s with heap:=h' }:=fun its r' hz h' c' kp e=>
  ⟨.ref s.heap.objs.size,_,I.laid (t':=s.toks) kp (Nat.le_refl _) (show iM X.prog X.w _ h' _ (.lst ys) from ⟨hz,its,c',r',e⟩),rfl,q _ (I.hok.fresh (Nat.le_refl _))⟩
 rcases hq with hq|hq
 ·obtain ⟨its,r',pl,hz⟩:=I.list hq
  have hlen:=r'.length
  obtain ⟨o,ho,hc,n,hd⟩:=pl.isList
  exact call_list_seq p (.inl rfl) ho hc hd (fun h' c' kp e=>fin its r' hz h' c' kp e) (by simp only [List.size_toArray] <;> lia)
 ·obtain ⟨its,r',pl,hz⟩:=I.tuple hq
  have hlen:=r'.length
  obtain ⟨o,ho,hc,n,hd⟩:=pl
  exact call_list_seq p (.inr rfl) ho hc hd (fun h' c' kp e=>fin its r' hz h' c' kp e) (by simp only [List.size_toArray] <;> lia)
theorem aDd:cY X (.type "tuple") (fun xs H Q=>∃p ys,xs=[.ref p]∧((SqL X.K H p ys∧∀l,H l=none→Q (.ref l) (upd H l (.tup ys)))∨(SqT X.K H p ys∧Q (.ref p) H))):=by
 intro pins s σ H xs us Q I r h
 obtain ⟨p,ys,rfl,h⟩:=h
 obtain ⟨u,rfl,rx⟩:=vals1 r
 cases rx
 rcases h with ⟨hq,q⟩|⟨hq,q⟩
 ·obtain ⟨its,r',pl,hz⟩:=I.list hq
  have hlen:=r'.length
  refine call_tuple_list pl.isList (fun h' kp=>?_) (by simp only [List.size_toArray] <;> lia)
  have I1:Inv X pins σ H { s with heap:=h' }:=I.kept (t':=s.toks) kp
  have I2:Inv X pins σ (upd H h'.objs.size (.tup ys)) { s with heap:=h'.push { cls:=.type "tuple",data:=.seq its.toArray } }:=
   I1.laid (t':=s.toks) (fun b o e=>Heap.get?_push_of_some _ e) (Nat.le_refl _) (show iM X.prog X.w _ _ _ (.tup ys) from ⟨hz,its,r',zR.new _ _⟩)
  exact ⟨.ref h'.objs.size,_,I2,rfl,q _ (I1.hok.fresh (Nat.le_refl _))⟩
 ·obtain ⟨its,r',pl,hz⟩:=I.tuple hq
  exact call_tuple_same pl ⟨.ref p,H,I,rfl,q⟩
def tyV (K:PySem.W.Frag) (T:String) (x:V) (H:Hp):Prop:=match x with
 |.str _=>T = "str"
 |.int _=>T = "int"
 |.ref p=>(T = "list"∧∃xs,SqL K H p xs)∨(T = "tuple"∧∃o,K.lookup p=some o∧o.cls=.type "tuple"∧o.dict=none) ∨
   (T = "dict"∧((∃kvs,H p=some (.dK kvs))∨∃kvs,H p=some (.dT kvs)))∨(T = "set"∧∃S n,H p=some (.set S n))
 |_=>False
theorem aTg {pins:List (Addr × Obj)} {σ:St} {H:Hp} {s:Shared} {T:String} {x:V} {v:Value} (I:Inv X pins σ H s) (r:RelV x v) (ty:tyV X.K T x H) :
  s.TypeIs v T∧∀a,v=.ref a→∃ob,s.heap.get? a=some ob∧ob.dict=none:=by
 cases x with
 |str z=>
  obtain ⟨t,rfl⟩:=r
  cases (show T = "str" from ty)
  exact ⟨typeIs_str s z t,fun _ e=>nomatch e⟩
 |int i=>
  obtain ⟨t,rfl⟩:=r
  cases (show T = "int" from ty)
  exact ⟨typeIs_int s i t,fun _ e=>nomatch e⟩
 |ref p=>
  cases r
  rcases ty with ⟨rfl,xs,hq⟩|⟨rfl,o,hk,hc,hd⟩|⟨rfl,hk⟩|⟨rfl,S,n,hk⟩
  ·obtain ⟨its,_,pl,_⟩:=I.list hq
   refine ⟨pl.isList.typeIs,fun a e=>?_⟩
   cases e
   obtain ⟨o,n,e,c,hd,_⟩:=pl
   exact ⟨o,e,hd⟩
  ·refine ⟨⟨o,I.kIn p o hk,hc⟩,fun a e=>?_⟩
   cases e
   exact ⟨o,I.kIn _ o hk,hd⟩
  ·have z:∃o,s.heap.get? p=some o∧o.ExactDict:=by
    rcases hk with ⟨kvs,hk⟩|⟨kvs,hk⟩
    ·obtain ⟨_,_,_,_,o,_,_,e,ex,_⟩:=I.hok p _ hk
     exact ⟨o,e,ex⟩
    ·obtain ⟨_,_,_,_,o,_,_,e,ex,_⟩:=I.hok p _ hk
     exact ⟨o,e,ex⟩
   obtain ⟨o,e,ex⟩:=z
   refine ⟨⟨o,e,ex.1⟩,fun a e2=>?_⟩
   cases e2
   exact ⟨o,e,ex.2.1⟩
  ·obtain ⟨o,_,_,_,e,ex,_⟩:=I.hok p _ hk
   refine ⟨⟨o,e,ex.1⟩,fun a e2=>?_⟩
   cases e2
   exact ⟨o,e,ex.2.1⟩
 |_=>exact False.elim ty
def aZ0 (K:PySem.W.Frag) (T:String) (r:V→List V→Hp→VK→Prop) (to:TE):TE:=fun σ H Q=>to σ H fun x H1=>tyV K T x H1∧r x [] H1 Q
def tBM (K:PySem.W.Frag) (T:String) (r:V→List V→Hp→VK→Prop) (to:TE) (t:TA):TE:=fun σ H Q=>to σ H fun x H1=>tyV K T x H1∧t σ H1 fun xs H2=>r x xs H2 Q
variable {o e:Expr} {es:List Expr} {to:TE} {t:TA} {name:Str} {apos cpos:Pos} {T id:String} {r:V→List V→Hp→VK→Prop}
theorem aWw (pa:PlainAttrs T) (slot:Slot T name id) (hty:typeOf (.builtin id)=pure (.type "method_descriptor")) (hm:MtR X id r) (ho:PE X o to)
  (hbase:attributeBase o name X.env (eval o X.env)=eval o X.env:=by rfl) (hline:(apos.endLine == cpos.line)=true:=by rfl):PE X (.Call (.Attribute o name apos) [] [] cpos) (aZ0 X.K T r to):=by
 intro pins s σ H Q I h
 refine wpAny_Call_method0_late hbase hline (thn (ho pins s σ H _ I h) fun v s1 ⟨x,H1,I1,r1,ty,q1⟩=>?_)
 obtain ⟨h1,h2⟩:=aTg I1 r1 ty
 exact ⟨T,id,pa,slot,hty,h1,h2,Calls.callWith_builtin rfl (PySem.evalArgs_none (hm pins s1 σ H1 x [] v [] Q I1 r1 .nil q1))⟩
theorem bAb (pa:PlainAttrs T) (slot:Slot T name id) (hty:typeOf (.builtin id)=pure (.type "method_descriptor")) (hm:MtR X id r) (ho:PE X o to) (ha:PA X (e::es) t)
  (hbase:attributeBase o name X.env (eval o X.env)=eval o X.env:=by rfl)
  (hfew:((backTo cpos (starEach (e::es) X.env)).all (fun x=>!x.1) && (backToKw cpos (keywordEach [] X.env)).all (fun x=>x.1.isSome)
   && decide ((e::es).length+([]:List Keyword).length+(if ([]:List Keyword).isEmpty then 0 else 1)<30))=true:=by rfl)
  (hline:(apos.endLine == cpos.line)=true:=by rfl) (hs:starEach (e::es) X.env=(false,eval e X.env)::starEach es X.env:=by rfl) (hplain:(backTo cpos (starEach es X.env)).any (·.1)=false:=by rfl) :
  PE X (.Call (.Attribute o name apos) (e::es) [] cpos) (tBM X.K T r to t):=by
 intro pins s σ H Q I h
 refine wpAny_Call_method_late hbase hfew hline rfl (thn (ho pins s σ H _ I h) fun v s1 ⟨x,H1,I1,r1,ty,q1⟩=>?_)
 obtain ⟨h1,h2⟩:=aTg I1 r1 ty
 refine ⟨T,id,pa,slot,hty,h1,h2,?_⟩
 have hA:=ha cpos pins s1 σ H1 _ I1 q1
 rw [hs] at hA ⊢
 refine Calls.callWith_builtin (by show (false || (backTo cpos (starEach es X.env)).any (·.1))=false;rw [hplain] <;> rfl) (Calls.evalArgs_plain ?_)
 exact thn hA fun us s2 ⟨vs,H2,I2,r2,q2⟩=>hm pins s2 σ H2 x vs v us Q I2 r1 r2 q2
end
def MtM (X:Cx) (id:String) (r:V→List V→Hp→VK→Prop):Prop:=
 ∀(pins:List (Addr × Obj)) (s:Shared) (σ:St) (H:Hp) (x:V) (xs:List V) (v:Value) (us:List Value) (Q:VK),Inv X pins σ H s→RelV x v→Vals xs us→r x xs H Q →
  wpAny (model X.prog X.w) X.A (call (.builtin id) (v::us)) (EP X pins σ Q) X.xe s
theorem Vals.one:∀{x:V} {us:List Value},Vals [x] us→∃u,us=[u]∧RelV x u
 |_,_,.cons r .nil=>⟨_,rfl,r⟩
theorem Vals.two:∀{x y:V} {us:List Value},Vals [x,y] us→∃u v,us=[u,v]∧RelV x u∧RelV y v
 |_,_,_,.cons r (.cons q .nil)=>⟨_,_,rfl,r,q⟩
theorem Vals.zero:∀{us:List Value},Vals [] us→us=[]
 |_,.nil=>rfl
theorem Vals.dropLast {xs:List V} {us:List Value} (h:Vals xs us):Vals xs.dropLast us.dropLast:=by
 induction h with
 |nil=>exact .nil
 |cons r t ih=>
  cases t with
  |nil=>exact .nil
  |cons q t'=>exact .cons r ih
theorem Vals.reverse {xs:List V} {us:List Value} (h:Vals xs us):Vals xs.reverse us.reverse:=by
 induction h with
 |nil=>exact .nil
 |cons r t ih=>rw [List.reverse_cons,List.reverse_cons];exact Vals.append ih (.cons r .nil)
theorem aKy {α:Type} (l:List α):l.eraseIdx (l.length - 1)=l.dropLast:=by
 induction l with
 |nil=>rfl
 |cons a r ih=>
  cases r with
  |nil=>rfl
  |cons b r=>
   have e:(a::b::r).length - 1=((b::r).length - 1)+1:=by
    have h1:(a::b::r).length=r.length+2:=rfl
    have h2:(b::r).length=r.length+1:=rfl
    lia
   rw [e,List.eraseIdx_cons_succ,ih]
   all_goals rfl
section
variable {X:Cx} {pins:List (Addr × Obj)} {σ:St} {H:Hp} {s:Shared} {l b:Addr} {xs ys zs:List V}
theorem Inv.lset {its its':List Value} {n:Nat} {f:Array Value→Array Value} {t':Nat} (I:Inv X pins σ H s) (hH:H l=some (.lst xs))
  (e:s.heap.get? l=some { cls:=.type "list",data:=.seq its.toArray n }) (hf:f its.toArray=its'.toArray) (hv:Vals ys its') (hz:ys.length≤sizeLine) :
  Inv X pins σ (upd H l (.lst ys)) { s with heap:=s.heap.update l (Obj.mapSeq f),toks:=t' }:=by
 have q:=PySem.IsL.update e f
 rw [hf] at q
 refine I.write (x:=l) (e:=l) (by rw [hH];exact trivial) (.inl rfl) (fun b' u hb hu=>(Heap.get?_update_other s.heap (Obj.mapSeq f) (Ne.symm hb)).trans hu) ⟨_,q⟩ ?_
 exact ⟨hz,its',_,hv,q⟩
theorem Inv.lnew {its:List Value} {t':Nat} (I:Inv X pins σ H s) (hv:Vals ys its) (hz:ys.length≤sizeLine) :
  Inv X pins σ (upd H s.heap.objs.size (.lst ys)) { s with heap:=s.heap.push { cls:=.type "list",data:=.seq its.toArray },toks:=t' }:=
 I.laid (fun _ _ q=>Heap.get?_push_of_some _ q) (Nat.le_refl _) ⟨hz,its,0,hv,Heap.get?_push_size _ rfl⟩
theorem Inv.fresh (I:Inv X pins σ H s):H s.heap.objs.size=none:=I.hok.fresh (Nat.le_refl _)
theorem Inv.aIn (I:Inv X pins σ H s) (hH:H l=some (.lst xs)):xs.length≤sizeLine∧∃(its:List Value) (n:Nat),Vals xs its∧xs.length=its.length∧s.heap.get? l=some { cls:=.type "list",data:=.seq its.toArray n }:=by
 obtain ⟨z,its,n,r,e⟩:=I.hok l _ hH
 exact ⟨z,its,n,r,r.length,e⟩
theorem aR5 {n:Nat} (h:n≤sizeLine):Builtin.List.listTooLong n=false:=by
 unfold Builtin.List.listTooLong
 exact decide_eq_false (by lia)
end
section
variable {X:Cx}
def aNv:V→List V→Hp→VK→Prop:=fun x vs H Q=>∃l xs y,x=.ref l∧vs=[y]∧H l=some (.lst xs)∧xs.length<sizeLine∧Q .non (upd H l (.lst (xs++[y])))
theorem yL:MtM X "list.append" aNv:=by
 intro pins s σ H x vs v us Q I rx rv h
 obtain ⟨l,xs,y,rfl,rfl,hH,hz,q⟩:=h
 cases rx
 obtain ⟨u,rfl,ru⟩:=rv.one
 obtain ⟨z,its,n,r,hl,e⟩:=I.aIn hH
 refine call_meets F.slot_list_append ⟨_,e,rfl⟩ F.entry_list_append (F.args_list_append_2 _ _) (PySem.list_append l its.toArray n u (by rw [List.size_toArray];lia)) ⟨e,?_⟩
 refine ⟨.non,_,I.lset (its':=its++[u]) hH e (by simp) (r.append (.cons ru .nil)) ?_,rfl,q⟩
 rw [List.length_append,List.length_singleton]
 lia
def aN8:V→List V→Hp→VK→Prop:=fun x vs H Q=>∃l b xs zs,x=.ref l∧vs=[.ref b]∧H l=some (.lst xs)∧H b=some (.lst zs)∧xs.length+zs.length≤sizeLine∧Q .non (upd H l (.lst (xs++zs)))
theorem aPa:MtM X "list.extend" aN8:=by
 intro pins s σ H x vs v us Q I rx rv h
 obtain ⟨l,b,xs,zs,rfl,rfl,hH,hB,hz,q⟩:=h
 cases rx
 obtain ⟨u,rfl,ru⟩:=rv.one
 cases ru
 obtain ⟨z,its,n,r,hl,e⟩:=I.aIn hH
 obtain ⟨z2,its2,n2,r2,hl2,e2⟩:=I.aIn hB
 have hsz:its.toArray.size+its2.toArray.size≤sizeLine:=by rw [List.size_toArray,List.size_toArray];lia
 have hlong:¬ (!its.toArray.isEmpty && Builtin.List.listTooLong (its.toArray.size+its2.toArray.size))=true:=by
  rw [aR5 hsz,Bool.and_false]
  exact Bool.false_ne_true
 refine call_meets F.slot_list_extend ⟨_,e,rfl⟩ F.entry_list_extend (F.args_list_extend_2 _ _)
  (AutoSeq1.list_extend_list_list_0 l its.toArray n b its2.toArray n2 hlong (by rw [List.size_toArray];lia) (by lia)) ⟨e,e2,?_⟩
 refine ⟨.non,_,I.lset (its':=its++its2) hH e (by simp) (r.append r2) ?_,rfl,q⟩
 rw [List.length_append]
 lia
def aZs:V→List V→Hp→VK→Prop:=fun x vs H Q=>∃l xs y,x=.ref l∧vs=[]∧H l=some (.lst xs)∧xs[xs.length - 1]?=some y∧Q y (upd H l (.lst xs.dropLast))
theorem aXd:MtM X "list.pop" aZs:=by
 intro pins s σ H x vs v us Q I rx rv h
 obtain ⟨l,xs,y,rfl,rfl,hH,hy,q⟩:=h
 cases rx
 have hus:=rv.zero
 subst hus
 obtain ⟨z,its,n,r,hl,e⟩:=I.aIn hH
 obtain ⟨u,hu,ru⟩:=r.get hy
 have hy':its.toArray[its.toArray.size - 1]?=some u:=by
  show its.toArray[its.length - 1]?=some u
  rw [←Array.getElem?_toList,←hl]
  exact hu
 refine call_meets F.slot_list_pop ⟨_,e,rfl⟩ F.entry_list_pop (F.args_list_pop_1 _) (MeetsSeq.list_pop_last l its.toArray n u hy' (by rw [List.size_toArray];lia)) ⟨e,?_⟩
 refine ⟨y,_,I.lset (its':=its.dropLast) hH e ?_ r.dropLast ?_,ru,q⟩
 ·show its.toArray.eraseIdxIfInBounds (its.toArray.size - 1)=its.dropLast.toArray
  rw [List.size_toArray,List.eraseIdxIfInBounds_toArray,aKy]
 ·rw [List.length_dropLast]
  lia
def aI8:V→List V→Hp→VK→Prop:=fun x vs H Q=>∃l xs,x=.ref l∧vs=[]∧H l=some (.lst xs)∧Q .non (upd H l (.lst xs.reverse))
theorem aMw:MtM X "list.reverse" aI8:=by
 intro pins s σ H x vs v us Q I rx rv h
 obtain ⟨l,xs,rfl,rfl,hH,q⟩:=h
 cases rx
 have hus:=rv.zero
 subst hus
 obtain ⟨z,its,n,r,hl,e⟩:=I.aIn hH
 refine call_meets F.slot_list_reverse ⟨_,e,rfl⟩ F.entry_list_reverse (F.args_list_reverse_1 _) (AutoSeq1.list_reverse_list_0 l its.toArray n (by rw [List.size_toArray];lia)) ⟨e,?_⟩
 refine ⟨.non,_,I.lset (its':=its.reverse) hH e (by simp) r.reverse ?_,rfl,q⟩
 rw [List.length_reverse]
 lia
def bBb:R2:=fun x y H Q=>∃l b xs zs,x=.ref l∧y=.ref b∧H l=some (.lst xs)∧H b=some (.lst zs)∧xs.length+zs.length≤sizeLine∧∀p,H p=none→Q (.ref p) (upd H p (.lst (xs++zs)))
theorem aYw:OpR X (binaryOp .Add) bBb:=by
 intro pins s σ H x y v u Q I rx ry h
 obtain ⟨l,b,xs,zs,rfl,rfl,hH,hB,hz,q⟩:=h
 cases rx
 cases ry
 obtain ⟨z,its,n,r,hl,e⟩:=I.aIn hH
 obtain ⟨z2,its2,n2,r2,hl2,e2⟩:=I.aIn hB
 refine PySem.P.add_list e e2 ?_ (by rw [List.size_toArray,List.size_toArray];lia)
 have ea:its.toArray++its2.toArray=(its++its2).toArray:=by simp
 rw [ea]
 exact ⟨.ref _,_,I.lnew (t':=s.toks) (r.append r2) (by rw [List.length_append];lia),rfl,q _ I.fresh⟩
end
section
variable {prog:Program} {w:World} {A:Around} {E:Value→Shared→Prop} {s:Shared}
end
section
variable {X:Cx}
end
end L2
namespace Att
open PySem PySem.W PySem.Calls PyProof.Rows
theorem aAl {P:Params} {h:Heap}:∀(ns:List Int) (vs:List Value),WellAll P h vs (ns.map WData.int)→IntsAre vs ns:=by
 intro ns
 induction ns with
 |nil=>
  intro vs w
  rw [List.map_nil] at w
  cases w
  exact .nil
 |cons n ns ih=>
  intro vs w
  rw [List.map_cons] at w
  cases w with
  |cons a b=>
   cases a
   exact .cons _ _ (ih _ b)
theorem aPi {l:OpenLaw} {n:Nat} (hn:l.most=some n) {P:Params} {h:Heap} {args:List WData} {vals:List Value}
  (hpre:l.row.toRowW.claim.pre args=true) (hwl:WellAll P h vals args) :
  ∃a vs ns,vals=[Value.ref a]∧args=[WData.list (ns.map WData.int)]∧h.get? a=some { cls:=.type "list",data:=.seq vs.toArray }∧IntsAre vs ns∧ns.length≤n:=by
 have hsh:WShape.hasAll [] args [.list .int]=true:=(pre_splitW hpre).1
 have hc:l.pre.holds [] { args:=args }=true:=(pre_splitW hpre).2
 obtain ⟨d,r,rfl,h1,h2⟩:=hasAllW_cons hsh
 obtain rfl:=hasAllW_nil h2
 obtain ⟨xs,rfl,h3⟩:=hasW_list h1
 obtain ⟨ns,rfl⟩:=items_int h3
 have hlen:ns.length≤n:=by
  unfold OpenLaw.pre at hc
  have h4:(WTm.not (.lt (.lit (.int (n:Int))) (.len (.arg 0)))).holds [] { args:=[.list (ns.map .int)] }=true:=by
   have h4:=(holds_andW hc).1
   rw [hn] at h4
   exact h4
  have h5:=condW_of h4 (w_not (w_lt w_lit (w_len_list (w_arg rfl))))
  rw [List.length_map] at h5
  refine Nat.le_of_not_lt fun q=>?_
  have q':(n:Int)<((ns.length:Nat):Int):=by lia
  first
   |(rw [decide_eq_true q'] at h5;exact absurd h5 (by decide))
   |(simp at h5;lia)
 cases hwl with
 |cons w1 w2=>
  cases w2
  cases w1 with
  |list ho hall=>exact ⟨_,_,ns,rfl,rfl,ho,aAl ns _ hall,hlen⟩
theorem aO0 (l:OpenLaw) (args:List WData):l.row.toRowW.claim.post args (.bool true) args=true:=
 postW_of (r:=l.row.toRowW) (X:=(true == true))
  (show WShape.has [] (.bool true) .bool=true by first|rfl|decide|simp [WShape.has,WShape.arms,WShape.armsAll])
  (show (WTm.eq .res (.lit (.bool true))).value [] { args:=args,res:=some (.bool true),after:=args }=some (.bool (true == true)) from w_eq_bool (w_res rfl) w_lit) rfl
theorem aHy {l:OpenLaw} {n:Nat} {q:Program} {loose:List Str} {XP:(Str→Option Value)→Heap→Prop} {YP:World→Heap→Prop} {d:DefRec}
  (hn:l.most=some n) (hdf:d.params.defaults=[])
  (call:∀(w:World) (s₀ s₁:Shared) (mg mb:Str→Option Value) (fa:Addr) (o:Obj) (pm cd doc:Value) (a:Addr) (vs:List Value) (ns:List Int),
   Ground q loose [] XP w s₀ mg mb s₁.heap→YP w s₁.heap →
   s₁.heap.get? fa=some o→o.data=.func (docDef d.name d.params d.body d.scope pm cd doc)→s₁.heap.CodeRec cd d.name→mg d.name=some (.ref fa) →
   s₁.heap.get? a=some { cls:=.type "list",data:=.seq vs.toArray }→IntsAre vs ns→ns.length≤n→s₁.gens=#[] →
   codeAny (model l.prog w) callerA (.call (.ref fa) ⟨[.ref a],[]⟩) (fun r s'=>r=.ok (.ret (.bool true))∧OldK s₁.heap s'.heap∧s'.os=s₁.os∧AllBare s'.gens) s₁) :
  WalkO q loose XP YP l.row.toRowW d [] (fun f vs=>PySem.call f vs):=by
 intro w s₀ s₁ mg mb G Y fa o pm cd doc dV kV ho hd hcd hD hmg hg args vals as hpre hlay hrd hwl hlo
 obtain rfl:dV=.none:=Dflts.none hD hdf
 obtain rfl:kV=.none:=Dflts.noKw hD
 obtain ⟨a,vs,ns,rfl,rfl,hobj,hints,hlen⟩:=aPi hn hpre hwl
 refine enter_call (codeAny_mono (call w s₀ s₁ mg mb fa o pm cd doc a vs ns G Y ho (fd_plain hd) hcd hmg hobj hints hlen hg) fun r s' hq=>?_)
 obtain ⟨rfl,h2,h3,h4⟩:=hq
 exact ⟨.inl ⟨.bool true,.bool true,[],rfl,fun _=>rfl,.bool true,aO0 l _,fun _=>⟨List.Pairwise.nil,fun _ hm=>(nomatch hm)⟩⟩,h2,h3,h4⟩
section
variable {prog:Program} {w:World} {A:Around} {E:Value→Shared→Prop} {s:Shared} {K:Frag}
end
end Att
namespace L2
open PySem PySem.Spec PyProof.Rows
theorem aDz:∀{vs:List Value} {ns:List Int},IntsAre vs ns→Vals (ns.map V.int) vs
 |_,_,.nil=>.nil
 |_,_,.cons n t h=>.cons ⟨t,rfl⟩ (aDz h)
def Only (H:Hp):Prop:=∀b,H b=none∨∃o xs,H b=some (.frz o (.lst xs))
theorem aSn {P:Program} {w:World} {K:PySem.W.Frag} {mg mb:Str→Option Value} {CX:CXT} {k:Nat} {fa a:Addr} {fd:FuncData} {x:Str} {sp:Sp} {s₁:Shared} {vs:List Value} {ns:List Int}
  (KX:K.In s₁.heap) (hns:s₁.heap.Ns mainGlobals mg) (hb:s₁.heap.Ns builtinsNs mb) (hbb:∀x:Str,x≠"__name__"→mb x=bootBuiltins x) (hlim:s₁.heap.NoLimit) (hg:s₁.gens=#[])
  (ha:s₁.heap.get? a=some { cls:=.type "list",data:=.seq vs.toArray }) (hi:IntsAre vs ns) (hl:ns.length≤sizeLine) (hr:Room k callerA)
  (F:∀base:Heap,K.In base→base.Ns mainGlobals mg→qM P w K mg base CX k fa fd [x] sp) (hbind:∀(s:Shared) (u:Value),BindsTo s fd ⟨[u],[]⟩ [(x,u)])
  (hsp:∀H:Hp,Only H→SqL K H a (ns.map V.int)→sp [.ref a] H (fun v _=>v=.bl true) fun _ _ _=>False)
  (hCX:∀H e s',CX [] H s₁ (fun _ _ _=>False) e s'→False) :
  codeAny (model P w) callerA (.call (.ref fa) ⟨[.ref a],[]⟩) (fun r s'=>r=.ok (.ret (.bool true))∧OldK s₁.heap s'.heap∧s'.os=s₁.os∧AllBare s'.gens) s₁:=by
 have rv:=aDz hi
 have lenV:=hi.length
 have core:∀H:Hp,Only H→SqL K H a (ns.map V.int)→HOk P w H s₁.heap→(∀b,H b≠none→b=a)→(H a≠none→K.lookup a=none) →
   codeAny (model P w) callerA (.call (.ref fa) ⟨[.ref a],[]⟩) (fun r s'=>r=.ok (.ret (.bool true))∧OldK s₁.heap s'.heap∧s'.os=s₁.os∧AllBare s'.gens) s₁:=by
  intro H hO hS hok hA hK
  have base_of:∀{b:Addr} {o:Obj},s₁.heap.get? b=some o→H b=none→(aFe s₁.heap H).get? b=some o:=fun e n=>aRj e n
  have noA:∀{b:Addr} {o:Obj} {es:Array DictEntry} {ep:Nat},s₁.heap.get? b=some o→o.data=.dict es ep→H b=none:=fun {b o es ep} e d=>by
   cases q:H b with
   |none=>rfl
   |some u=>
    have e':b=a:=hA b (by rw [q];simp)
    subst e'
    rw [ha] at e;cases e
    have d':Data.seq vs.toArray _=Data.dict es ep:=d
    cases d'
  have nsK:∀{b:Addr} {m:Str→Option Value},s₁.heap.Ns b m→(aFe s₁.heap H).Ns b m:=fun {b m} ⟨o,es,ep,e,d,r⟩=>⟨o,es,ep,base_of e (noA e d),d,r⟩
  have hKb:K.In (aFe s₁.heap H):=fun b o e=>base_of (KX b o e) (by
   cases q:H b with
   |none=>rfl
   |some u=>
    have e':b=a:=hA b (by rw [q];simp)
    subst e'
    rw [hK (by rw [q];simp)] at e;cases e)
  have hM:Mod K mg (aFe s₁.heap H):=⟨hKb,nsK hns,⟨mb,nsK hb,hbb⟩,let ⟨mc,h1,h2⟩:=hlim;⟨mc,nsK h1,h2⟩⟩
  have e0:aVp P w K mg (aFe s₁.heap H) callerA [] s₁ H:=⟨rfl,hM,fun b o e=>aU0 e,Nat.le_of_eq (aPq _ _),trivial,fun b hb=>absurd (show b∈([]:List Addr) from hb) (by simp),hok,.of_eq hg⟩
  refine codeAny_mono ((F _ hKb (nsK hns)).run callerA [] s₁ H ⟨[.ref a],[]⟩ [.ref a] [.ref a] _ _ hr e0 (hbind s₁ (.ref a)) (.cons rfl .nil) (hsp H hO hS)) fun r s' h=>?_
  cases r with
  |error e=>exact (hCX H e s' h).elim
  |ok fl=>
   cases fl with
   |next=>exact False.elim h
   |brk=>exact False.elim h
   |cont=>exact False.elim h
   |ret u=>
    obtain ⟨v,H',os,bare,un,hok',r',q⟩:=h
    have q':v=.bl true:=q
    subst q'
    obtain rfl:u=Value.bool true:=r'
    refine ⟨rfl,OldK.of_keep fun b o e=>?_,os,bare⟩
    cases q:H b with
    |none=>exact un.keep b o e q (by intro z;exact absurd (show b∈([]:List Addr) from z) (by simp)) (by simp)
    |some u=>
     rcases hO b with z|⟨ob,xs,z⟩
     ·rw [q] at z;cases z
     ·have z2:=un.frzs b ob _ z
      obtain ⟨e1,_⟩:=hok b _ z
      obtain ⟨e2,_⟩:=hok' b _ z2
      rw [e] at e1;cases e1
      exact e2
 cases hk:K.lookup a with
 |some o=>
  have e:=KX a o hk
  rw [ha] at e
  cases e
  refine core (fun _=>none) (fun _=>.inl rfl) (.inr ⟨_,vs.toArray,_,hk,rfl,rfl,rfl,by rw [List.size_toArray,lenV];exact hl,by simpa using rv⟩) (fun b u z=>by have z':(none:Option HO)=some u:=z;cases z') (fun b z=>absurd rfl z) fun z=>absurd rfl z
 |none=>
  refine core (fun b=>if b=a then some (.frz { cls:=.type "list",data:=.seq vs.toArray } (.lst (ns.map V.int))) else none) (fun b=>?_) (.inl (.inr ⟨{ cls:=.type "list",data:=.seq vs.toArray },if_pos rfl⟩)) (fun b u z=>?_) (fun b z=>?_) fun _=>hk
  ·by_cases hb:b=a
   ·exact .inr ⟨_,_,if_pos hb⟩
   ·exact .inl (if_neg hb)
  ·by_cases hb:b=a
   ·have z':=(if_pos hb).symm.trans z
    cases z'
    subst hb
    exact ⟨ha,by rw [List.length_map];exact hl,vs,_,rv,ha⟩
   ·have z':=(if_neg hb).symm.trans z
    cases z'
  ·by_cases hb:b=a
   ·exact hb
   ·exact absurd (if_neg hb) z
abbrev KOf {K:PySem.W.Frag} {h:Heap} (_:K.In h):PySem.W.Frag:=K
theorem aUb {l:PySem.W.OpenLaw} {n k:Nat} {q:Program} {loose:List Str} {XP:(Str→Option Value)→Heap→Prop} {YP:World→Heap→Prop} {d:DefRec} {K:Params→PySem.W.Frag} {CX:World→CXT} {sp:World→Sp} {x:Str}
  (hn:l.most=some n) (hn2:n≤sizeLine) (hdf:d.params.defaults=[]) (hr:Room k callerA)
  (hY:∀(w:World) (h:Heap),YP w h→(K w.params).In h)
  (F:∀(w:World) (mg:Str→Option Value) (fa:Addr) (h:Heap),(K w.params).In h→h.Ns mainGlobals mg→mg d.name=some (.ref fa) →
   ∃fd:FuncData,(∀(s:Shared) (u:Value),BindsTo s fd ⟨[u],[]⟩ [(x,u)]) ∧
    ∀base:Heap,(K w.params).In base→base.Ns mainGlobals mg→qM l.prog w (K w.params) mg base (CX w) k fa fd [x] (sp w))
  (hsp:∀(w:World) (H:Hp) (a:Addr) (ns:List Int),ns.length≤n→Only H→SqL (K w.params) H a (ns.map V.int)→sp w [.ref a] H (fun v _=>v=.bl true) fun _ _ _=>False)
  (hCX:∀(w:World) (H:Hp) (s:Shared) (e:Value) (s':Shared),CX w [] H s (fun _ _ _=>False) e s'→False) :
  PySem.W.WalkO q loose XP YP l.row.toRowW d [] (fun f vs=>PySem.call f vs):=by
 refine Att.aHy hn hdf fun w s₀ s₁ mg mb fa o pm cd doc a vs ns G Y ho hd hcd hmg hobj hints hlen hg=>?_
 have KX:=hY w _ Y
 obtain ⟨fd,hb,hF⟩:=F w mg fa _ KX G.T.g hmg
 exact aSn KX G.T.g G.T.b G.T.builtins G.T.nolimit hg hobj hints (Nat.le_trans hlen hn2) hr hF hb (fun H hO hS=>hsp w H a ns hlen hO hS) fun H e s'=>hCX w H s₁ e s'
theorem aQb {l:PySem.W.OpenLaw} {n k:Nat} {q:Program} {loose:List Str} {XP:(Str→Option Value)→Heap→Prop} {YP:World→Heap→Prop} {d:DefRec} {K:Params→PySem.W.Frag} {CX:CXT} {sp:PySem.W.Frag→Sp} {x:Str}
  (hn:l.most=some n) (hn2:n≤sizeLine) (hdf:d.params.defaults=[]) (hr:Room k callerA)
  (hY:∀(w:World) (h:Heap),YP w h→(K w.params).In h)
  (F:∀(w:World) (mg:Str→Option Value) (fa:Addr) (h:Heap),(K w.params).In h→h.Ns mainGlobals mg→mg d.name=some (.ref fa) →
   ∃fd:FuncData,(∀(s:Shared) (u:Value),BindsTo s fd ⟨[u],[]⟩ [(x,u)]) ∧
    ∀base:Heap,(K w.params).In base→base.Ns mainGlobals mg→qM l.prog w (K w.params) mg base CX k fa fd [x] (sp (K w.params)))
  (hsp:∀(K:PySem.W.Frag) (H:Hp) (a:Addr) (ns:List Int),ns.length≤n→Only H→SqL K H a (ns.map V.int)→sp K [.ref a] H (fun v _=>v=.bl true) fun _ _ _=>False)
  (hCX:∀(H:Hp) (s:Shared) (e:Value) (s':Shared),CX [] H s (fun _ _ _=>False) e s'→False) :
  PySem.W.WalkO q loose XP YP l.row.toRowW d [] (fun f vs=>PySem.call f vs):=
 aUb (K:=K) (CX:=fun _=>CX) (sp:=fun w=>sp (K w.params)) hn hn2 hdf hr hY F (fun w H a ns h1 h2 h3=>hsp (K w.params) H a ns h1 h2 h3) fun _ H s e s'=>hCX H s e s'
def uE (s:Stmt):Arguments:=match s with
 |.FunctionDef _ a _ _ _ _ _ _ _ _=>a
 |_=>{ posonlyargs:=[],args:=[],vararg:=none,kwonlyargs:=[],kw_defaults:=[],kwarg:=none,defaults:=[] }
def lL (s:Stmt):List Stmt:=match s with
 |.FunctionDef _ _ b _ _ _ _ _ _ _=>b
 |_=>[]
def aG (s:Stmt):Scope:=match s with
 |.FunctionDef _ _ _ _ _ _ sc _ _ _=>sc
 |_=>{ kind:=.function,names:=[],isGenerator:=false,isCoroutine:=false }
abbrev CX0:CXT:=fun _ _ _ _ _ _=>False
abbrev E0:XK:=fun _ _ _=>False
theorem aSy {X:Cx}:aGz CX0 X E0:=fun _ _ _ _ _ _ _ h=>h.elim
structure Fun (K:PySem.W.Frag) (x qual:Str) (st:Stmt) (f:Addr) (fd:FuncData):Prop where
 ex:∃(oc:Value) (od:Option Addr) (kV doc pm:Value) (an:Option Addr) (cdv ct:Value) (osl:Array (Option Value)),
  fd=PySem.W.fnOf x qual (uE st) (lL st) (aG st) .none kV doc pm an cdv ct∧K.lookup f=some ⟨oc,od,.func fd,osl⟩∧PySem.W.codeIn K cdv qual=true
 kp:PySem.W.keepIn K (.ref f)=true
section
variable {P:Program} {w:World} {K:PySem.W.Frag} {mg:Str→Option Value} {base:Heap}
theorem Fun.ok {x qual:Str} {st:Stmt} {f:Addr} {fd:FuncData} {N ps:List Str} {k:Nat} {sp:Sp} (F:Fun K x qual st f fd) (S:aP N ps (aG st)) (len:∀vs H Q E,sp vs H Q E→vs.length=ps.length)
  (hbody:∀(cdv:Value) (A:Around) (outer:List Env) (s:Shared) (H:Hp) (vs:List V) (Q:VK) (E:XK),Room k (A.deeper (envOfC qual (aG st) s.heap.objs.size f cdv))→sp vs H Q E →
   ∃t,PSs (aGb CX0 P w K mg base N qual (aG st) f cdv A outer s H E).nox (lL st) t∧t { nx:=fun _ H'=>Q .non H',rt:=Q } (start N vs) H):qM P w K mg base CX0 (k+1) f fd ps sp:=by
 obtain ⟨oc,od,kV,doc,pm,an,cdv,ct,osl,rfl,lk,hcd⟩:=F.ex
 refine aZi lk hcd S len fun A outer s H vs Q E hr hsp=>?_
 obtain ⟨t,h,q⟩:=hbody cdv A outer s H vs Q E hr hsp
 exact ⟨t,h.nox,q⟩
theorem Fun.binds {x qual:Str} {st:Stmt} {f:Addr} {fd:FuncData} {ps:List Str} (F:Fun K x qual st f fd)
  (h:∀(kV doc pm:Value) (an:Option Addr) (cdv ct:Value) (us:List Value),us.length=ps.length→bindArgs (PySem.W.fnOf x qual (uE st) (lL st) (aG st) .none kV doc pm an cdv ct) ⟨us,[]⟩=pure (ps.zip us)):Binds K fd ps []:=by
 obtain ⟨oc,od,kV,doc,pm,an,cdv,ct,osl,rfl,lk,hcd⟩:=F.ex
 exact .all (h kV doc pm an cdv ct)
theorem aTa {x qual:Str} {st:Stmt} {f:Addr} {oc:Value} {od an:Option Addr} {osl:Array (Option Value)} {kV doc pm cdv ct:Value} (l:K.lookup f=some ⟨oc,od,.func (PySem.W.fnOf x qual (uE st) (lL st) (aG st) .none kV doc pm an cdv ct),osl⟩)
  (c:PySem.W.codeIn K cdv qual=true) (k:PySem.W.keepIn K (.ref f)=true):Fun K x qual st f (PySem.W.fnOf x qual (uE st) (lL st) (aG st) .none kV doc pm an cdv ct):=⟨⟨oc,od,kV,doc,pm,an,cdv,ct,osl,rfl,l,c⟩,k⟩
end
theorem uP {A:Around} {k:Nat} (hr:Room k A):A.units+1<cLine:=Nat.lt_of_le_of_lt (Nat.add_le_add_left (by decide:1≤64) _) hr.units
theorem fP {n:Nat} (h:n≤1000):n<sizeLine:=Nat.lt_of_le_of_lt h (by decide)
section
variable {X:Cx}
theorem pv (i:Nat) {x:Str} {pos:Pos} (hN:X.N[i]?=some x:=by rfl) (hv:Vis X.env.scope x:=by trivial) (hd:(x == ("__debug__":Str))=false:=by decide)
  (hcd:(x == ("__classdict__":Str))=false:=by decide):PE X (.Name x pos) (uR i):=aXi hN hv hd hcd
end
theorem bC {A B:Prop} (h:B):if false=true then A else B:=by
 rw [if_neg Bool.false_ne_true]
 exact h
theorem cC {A B:Prop} (h:A):if true=true then A else B:=by
 rw [if_pos rfl]
 exact h
theorem lU {c A B:Prop} [Decidable c] (h1:c→A) (h2:¬ c→B):if c then A else B:=by
 by_cases h:c
 ·rw [if_pos h]
  exact h1 h
 ·rw [if_neg h]
  exact h2 h
def Same (H H':Hp):Prop:=∀b o,H b=some o→H' b=some o
theorem Same.refl (H:Hp):Same H H:=fun _ _ h=>h
theorem Same.trans {H H1 H2:Hp} (a:Same H H1) (b:Same H1 H2):Same H H2:=fun c o h=>b c o (a c o h)
theorem Same.free {H H':Hp} (e:Same H H') {l:Addr} (h:H' l=Option.none):H l=Option.none:=by
 cases q:H l with
 |none=>rfl
 |some o=>
  rw [e l o q] at h
  cases h
theorem Same.seq {K:PySem.W.Frag} {H H':Hp} {a:Addr} {xs:List V} (e:Same H H') (h:SqL K H a xs):SqL K H' a xs:=by
 rcases h with (h|⟨o,h⟩)|h
 ·exact .inl (.inl (e _ _ h))
 ·exact .inl (.inr ⟨o,e _ _ h⟩)
 ·exact .inr h
end L2
namespace PySem
namespace RvF
theorem slot_next:Slot "reversed" "__next__" "reversed.__next__":=
 .of (owner:="reversed") (n:="__next__") (by rw [typeLookup_type,builtinLookup_eq_fast];kernel_rfl) (by decide +kernel) (by decide +kernel) (by decide +kernel)
  (by first|exact .inl (by decide +kernel)|exact .inr (by decide +kernel)) (by rw [isSubtype_type];kernel_rfl)
theorem aEb:Slot "reversed" "__iter__" "reversed.__iter__":=
 .of (owner:="reversed") (n:="__iter__") (by rw [typeLookup_type,builtinLookup_eq_fast];kernel_rfl) (by decide +kernel) (by decide +kernel) (by decide +kernel)
  (by first|exact .inl (by decide +kernel)|exact .inr (by decide +kernel)) (by rw [isSubtype_type];kernel_rfl)
theorem aP6:Slot "reversed" "__init__" "object.__init__":=
 .of (owner:="object") (n:="__init__") (by rw [typeLookup_type,builtinLookup_eq_fast];kernel_rfl) (by decide +kernel) (by decide +kernel) (by decide +kernel)
  (by first|exact .inl (by decide +kernel)|exact .inr (by decide +kernel)) (by rw [isSubtype_type];kernel_rfl)
theorem entry_next:entryFor table "reversed.__next__"=some Builtin.«reversed.__next__»:=entryFor_of_tree (by kernel_rfl)
theorem aMv:entryFor table "reversed.__iter__"=some Builtin.«dict_keyiterator.__iter__»:=
 entryFor_alias (id':="dict_keyiterator.__iter__") (by kernel_rfl) (by first|rfl|decide +kernel|(unfold String.splitOn;simp +decide [String.splitOnAux])) (by decide +kernel) (by kernel_rfl)
theorem aO4:entryFor table "reversed.__new__"=some Builtin.«reversed.__new__»:=entryFor_of_tree (by kernel_rfl)
theorem owner:Manifest.owners.lookup (String.ofList ['d','e','s','r','e','v','e','r'].reverse)=some Manifest.sig_reversed:=by kernel_rfl
theorem aAb (a:Value):argsOk "reversed.__next__" ⟨[a],[]⟩:=by
 unfold argsOk;rw [signature?_of (id:="reversed.__next__") (n:=['_','_','t','x','e','n','_','_']) (o:=['d','e','s','r','e','v','e','r']) (by kernel_rfl) owner];kernel_rfl
theorem aJc (a:Value):argsOk "reversed.__iter__" ⟨[a],[]⟩:=by
 unfold argsOk;rw [signature?_of (id:="reversed.__iter__") (n:=['_','_','r','e','t','i','_','_']) (o:=['d','e','s','r','e','v','e','r']) (by kernel_rfl) owner];kernel_rfl
theorem mro:mroOf (.type "reversed")=pure [.type "reversed",.type "object"]:=by rw [mroOf_type];kernel_rfl
theorem aLl:typeLookup (.type "reversed") "__new__"=pure (some (.builtin "reversed.__new__")):=by rw [typeLookup_type,builtinLookup_eq_fast];kernel_rfl
theorem sub_self:isSubtype (.type "reversed") (.type "reversed")=pure true:=by rw [isSubtype_type];kernel_rfl
theorem called:TypeCalled "reversed" "reversed.__new__" "object.__init__":=
 ⟨by decide +kernel,by decide +kernel,⟨_,_,mro⟩,madeBy_type mro aLl (by decide +kernel),by decide +kernel,sub_self,aP6⟩
theorem aLx (a:Value):checkTypeCall "reversed" ⟨[a],[]⟩=pure ():=by kernel_rfl
theorem aPx (a:Value):checkBuiltinCall "reversed.__new__" ⟨[.type "reversed",a],[]⟩=pure ():=by kernel_rfl
end RvF
theorem aJ3 (a:Value):Builtin.SmallTypes.newClass "reversed" ⟨[.type "reversed",a],[]⟩=pure (.type "reversed",[a]):=by
 unfold Builtin.SmallTypes.newClass
 simp only [isType,RvF.sub_self,pure_bind,Bool.not_true,Bool.false_eq_true,if_false]
section
variable {prog:Program} {w:World} {A:Around} {E:Value→Shared→Prop} {s:Shared}
end
end PySem
namespace L2
open PySem PySem.Spec PyProof.Rows
theorem aBd:bootBuiltins "int"=some (.type "int"):=by decide +kernel
theorem aUd:bootBuiltins "bool"=some (.type "bool"):=by decide +kernel
theorem aR9:bootBuiltins "str"=some (.type "str"):=by decide +kernel
theorem yC:bootBuiltins "list"=some (.type "list"):=by decide +kernel
theorem cA:bootBuiltins "tuple"=some (.type "tuple"):=by decide +kernel
theorem aAu:bootBuiltins "dict"=some (.type "dict"):=by decide +kernel
theorem aYy:bootBuiltins "set"=some (.type "set"):=by decide +kernel
theorem aJb:bootBuiltins "reversed"=some (.type "reversed"):=by decide +kernel
theorem aQm:bootBuiltins "zip"=some (.type "zip"):=by decide +kernel
theorem aGx:bootBuiltins "enumerate"=some (.type "enumerate"):=by decide +kernel
theorem cR:bootBuiltins "isinstance"=some (.builtin "isinstance"):=by decide +kernel
theorem cH:bootBuiltins "len"=some (.builtin "len"):=by decide +kernel
theorem vI:bootBuiltins "all"=some (.builtin "all"):=by decide +kernel
theorem aYu:bootBuiltins "any"=some (.builtin "any"):=by decide +kernel
theorem bAy:bootBuiltins "min"=some (.builtin "min"):=by decide +kernel
theorem aY3:bootBuiltins "sorted"=some (.builtin "sorted"):=by decide +kernel
theorem aX6:bootBuiltins "abs"=some (.builtin "abs"):=by decide +kernel
def sgn (x:Str) (i:Nat):Str:=⟨#[x.cps.getD i 0]⟩
theorem aSv {x:Str} {i c:Nat} (h:x.cps[i]?=some c):(⟨#[c]⟩:Str)=sgn x i:=by
 unfold sgn
 rw [Array.getD_eq_getD_getElem?,h]
 rfl
def Its (x:Str):It:=⟨fun i _=>i<x.cps.size,fun i H v H'=>H'=H∧v=.str (sgn x i),fun i _=>x.cps.size≤i⟩
theorem aP2 {P:Program} {w:World} {K:PySem.W.Frag} {tg:Expr} (it:Addr) (x:Str) (t:Tok):Turn P w K tg (Its x) [it] it (fun i h=>h.IsStrIter it "str_ascii_iterator" x t i) where
 mem:=by simp
 obj:=fun i h st b hb=>by
  have e:b=it:=by simpa using hb
  subst e
  obtain ⟨o,e,c,d⟩:=st
  exact ⟨o,e,fun v z=>by rw [d] at z;cases z⟩
 keep:=fun i h h' st k=>let ⟨o,ho,r⟩:=st;⟨o,k it (by simp) o ho,r⟩
 item:=by
  intro X hP hw hK hc i pins s σ H E I hf st hg
  subst hP hw hK
  obtain ⟨f0,f1,f2,f3,f4,f5⟩:=hf it (by simp)
  refine (Walks.strAscii (prog:=X.prog) (w:=X.w) (I.ok.hd hc) it x t).item i s _ _ hg st fun v h' tk hv st' kk=>?_
  obtain ⟨c,u,hcx,rfl⟩:=hv
  have I1:Inv X pins σ H { s with heap:=h',toks:=tk }:=I.turned (fun b o hb e=>kk b o (by simpa using hb) e) f0 f1 f3 f4 f5
  obtain ⟨o,e,c',d⟩:=id st'
  exact ⟨_,rfl,aD9 (s:={ s with heap:=h',toks:=tk }) e c' d (by decide) ⟨.str ⟨#[c]⟩,H,I1,⟨u,rfl⟩,⟨rfl,by rw [aSv hcx]⟩,st',fun b hb=>(hf b hb).1⟩⟩
 done:=by
  intro X hP hw hK hc i pins s σ H E I hf st hg
  subst hP hw hK
  obtain ⟨f0,f1,f2,f3,f4,f5⟩:=hf it (by simp)
  exact wpAny_pyNext_ascii_end (I.ok.hd hc) st (Array.getElem?_eq_none_iff.mpr hg) fun h' eb=>⟨rfl,I.turned (t':=s.toks) (fun b o hb e=>eb b o hb e) f0 f1 f3 f4 f5⟩
 self:=fun _ _ _ _ _ st h=>wpAny_pyIter_striter_ascii st h
theorem aO2 {P:Program} {w:World} {K:PySem.W.Frag} {tg:Expr} (it:Addr) (x:Str) (t:Tok):Turn P w K tg (Its x) [it] it (fun i h=>h.IsStrIter it "str_iterator" x t i) where
 mem:=by simp
 obj:=fun i h st b hb=>by
  have e:b=it:=by simpa using hb
  subst e
  obtain ⟨o,e,c,d⟩:=st
  exact ⟨o,e,fun v z=>by rw [d] at z;cases z⟩
 keep:=fun i h h' st k=>let ⟨o,ho,r⟩:=st;⟨o,k it (by simp) o ho,r⟩
 item:=by
  intro X hP hw hK hc i pins s σ H E I hf st hg
  subst hP hw hK
  obtain ⟨f0,f1,f2,f3,f4,f5⟩:=hf it (by simp)
  refine (Walks.strWide (prog:=X.prog) (w:=X.w) (I.ok.hd hc) it x t).item i s _ _ hg st fun v h' tk hv st' kk=>?_
  obtain ⟨c,u,hcx,rfl⟩:=hv
  have I1:Inv X pins σ H { s with heap:=h',toks:=tk }:=I.turned (fun b o hb e=>kk b o (by simpa using hb) e) f0 f1 f3 f4 f5
  obtain ⟨o,e,c',d⟩:=id st'
  exact ⟨_,rfl,aD9 (s:={ s with heap:=h',toks:=tk }) e c' d (by decide) ⟨.str ⟨#[c]⟩,H,I1,⟨u,rfl⟩,⟨rfl,by rw [aSv hcx]⟩,st',fun b hb=>(hf b hb).1⟩⟩
 done:=by
  intro X hP hw hK hc i pins s σ H E I hf st hg
  subst hP hw hK
  obtain ⟨f0,f1,f2,f3,f4,f5⟩:=hf it (by simp)
  exact wpAny_pyNext_wide_end (I.ok.hd hc) st (Array.getElem?_eq_none_iff.mpr hg) fun h' eb=>⟨rfl,I.turned (t':=s.toks) (fun b o hb e=>eb b o hb e) f0 f1 f3 f4 f5⟩
 self:=fun _ _ _ _ _ st h=>wpAny_pyIter_striter_wide st h
section
variable {X:Cx} {tg:Expr}
def aXv (tl:TE):TI:=fun σ H R=>tl σ H fun x H1=>∃z,x=.str z∧R (Its z) H1
theorem aXj {l:Expr} {tl:TE} (hl:PE X l tl):PI X tg l (aXv tl):=by
 intro pins s σ H R I h
 refine thn (hl pins s σ H _ I h) fun v s1 ⟨x,H1,I1,r1,q1⟩=>?_
 obtain ⟨z,e,q⟩:=q1
 subst e
 obtain ⟨t,rfl⟩:=r1
 have fp:∀b∈[s1.heap.objs.size],vX X pins H1 b:=fun b hb=>by
  have e:b=s1.heap.objs.size:=by simpa using hb
  subst e
  exact I1.aHw (Nat.le_refl _) (I1.hok.fresh (Nat.le_refl _))
 cases ha:z.cps.all (·<128)
 ·exact wpAny_pyIter_wide ha ⟨s1.heap.objs.size,[s1.heap.objs.size],_,_,H1,rfl,I1.kept (t':=s1.toks) fun b o e=>Heap.get?_push_of_some _ e,aO2 _ z t,⟨_,Heap.get?_push_size _ rfl,rfl,rfl⟩,fp,q⟩
 ·exact wpAny_pyIter_ascii ha ⟨s1.heap.objs.size,[s1.heap.objs.size],_,_,H1,rfl,I1.kept (t':=s1.toks) fun b o e=>Heap.get?_push_of_some _ e,aP2 _ z t,⟨_,Heap.get?_push_size _ rfl,rfl,rfl⟩,fp,q⟩
def aKx (x:V) (T:String):Option Bool:=match x with
 |.int _=>if T = "int" then some true else if T = "bool" then some false else if T = "str" then some false else none
 |.str _=>if T = "int" then some false else if T = "bool" then some false else if T = "str" then some true else none
 |.bl _=>if T = "int" then some true else if T = "bool" then some true else if T = "str" then some false else none
 |_=>none
def aZn:List V→Hp→VK→Prop:=fun xs H Q=>∃x T b,xs=[x,.ty T]∧aKx x T=some b∧Q (.bl b) H
theorem wN:cY X (.builtin "isinstance") aZn:=by
 intro pins s σ H xs us Q I r h
 obtain ⟨x,T,b,rfl,e,q⟩:=h
 obtain ⟨u,v,rfl,rx,rT⟩:=r.two
 cases rT
 have f0:∀{k:Bool},some k=some b→EP X pins σ Q (.bool k) s:=fun e=>by cases e;exact ⟨.bl _,H,I,rfl,q⟩
 have f1:∀{k:Bool},some k=some b→EP X pins σ Q (.bool k) { s with toks:=s.toks+1 }:=fun e=>by cases e;exact ⟨.bl _,H,I.tok _,rfl,q⟩
 cases x with
 |int i=>
  obtain ⟨t,rfl⟩:=rx
  unfold aKx at e
  dsimp only at e
  split at e
  ·rename_i hT;subst hT;exact IsiPair.int_int (f0 e)
  split at e
  ·rename_i hT;subst hT;exact IsiPair.int_bool (f1 e)
  split at e
  ·rename_i hT;subst hT;exact IsiPair.int_str (f1 e)
  ·cases e
 |str z=>
  obtain ⟨t,rfl⟩:=rx
  unfold aKx at e
  dsimp only at e
  split at e
  ·rename_i hT;subst hT;exact IsiPair.str_int (f1 e)
  split at e
  ·rename_i hT;subst hT;exact IsiPair.str_bool (f1 e)
  split at e
  ·rename_i hT;subst hT;exact IsiPair.str_str (f0 e)
  ·cases e
 |bl z=>
  cases rx
  unfold aKx at e
  dsimp only at e
  split at e
  ·rename_i hT;subst hT;exact IsiPair.bool_int (f0 e)
  split at e
  ·rename_i hT;subst hT;exact IsiPair.bool_bool (f0 e)
  split at e
  ·rename_i hT;subst hT;exact IsiPair.bool_str (f1 e)
  ·cases e
 |_=>cases (show (none:Option Bool)=some b from e)
end
theorem small {n:Nat} (h:n≤1000):n≤sizeLine:=Nat.le_of_lt (fP h)
theorem dX:Vals [] []:=.nil
theorem bK {x:V} {u:Value} {xs:List V} {us:List Value} (r:RelV x u) (t:Vals xs us):Vals (x::xs) (u::us):=.cons r t
def iC:Expr→Bool
 |.Starred ..=>false
 |_=>true
theorem bV {e:Expr} {es:List Expr} {env:Env} (h:iC e=true):starEach (e::es) env=(false,eval e env)::starEach es env:=by
 cases e <;> first|rfl|cases h
theorem bAn {X:Cx} {e:Expr} {es:List Expr} {te:TE} {t:TA} (ha:PE X e te) (hr:PA X es t) (hp:iC e=true:=by rfl) :
  PA X (e::es) (fK te t):=aVv ha hr (bV hp)
theorem bAc {X:Cx} {x:Str} {v:V} {pos:Pos} (hg:Gl X x) (hm:∃u,X.mg x=some u∧RelV v u) (hd:(x == ("__debug__":Str))=false:=by decide):PE X (.Name x pos) (tC v):=by
 obtain ⟨u,hm,r⟩:=hm
 exact aUa hg hm r hd
section
variable {P:Program} {w:World} {K:PySem.W.Frag} {mg:Str→Option Value} {base:Heap}
def Dn (K:PySem.W.Frag) (mg:Str→Option Value) (x:Str) (st:Stmt) (ps:List Str):Prop:=∃f fd,Fun K x x st f fd∧Binds K fd ps []∧mg x=some (.ref f)
def Ok (P:Program) (w:World) (K:PySem.W.Frag) (mg:Str→Option Value) (base:Heap) (k:Nat) (x:Str) (ps:List Str) (sp:Sp):Prop:=
 ∃f fd,mg x=some (.ref f)∧PySem.W.keepIn K (.ref f)=true∧Binds K fd ps []∧qM P w K mg base CX0 k f fd ps sp
theorem Ok.mono {j k:Nat} {x:Str} {ps:List Str} {sp:Sp} (h:Ok P w K mg base j x ps sp) (hj:j≤k):Ok P w K mg base k x ps sp:=by
 obtain ⟨f,fd,h1,h2,h3,h4⟩:=h
 exact ⟨f,fd,h1,h2,h3,h4.mono hj⟩
theorem Ok.of {x:Str} {st:Stmt} {N ps:List Str} {k:Nat} {sp:Sp} (D:Dn K mg x st ps) (S:aP N ps (aG st)) (len:∀vs H Q E,sp vs H Q E→vs.length=ps.length)
  (hbody:∀(f:Addr) (cdv:Value) (A:Around) (outer:List Env) (s:Shared) (H:Hp) (vs:List V) (Q:VK) (E:XK),Room k (A.deeper (envOfC x (aG st) s.heap.objs.size f cdv))→sp vs H Q E →
   ∃t,PSs (aGb CX0 P w K mg base N x (aG st) f cdv A outer s H E).nox (lL st) t∧t { nx:=fun _ H'=>Q .non H',rt:=Q } (start N vs) H):Ok P w K mg base (k+1) x ps sp:=by
 obtain ⟨f,fd,F,B,m⟩:=D
 exact ⟨f,fd,m,F.kp,B,F.ok S len fun cdv A outer s H vs Q E hr h=>hbody f cdv A outer s H vs Q E hr h⟩
end
section
variable {X:Cx} {k:Nat} {ps:List Str} {sp:Sp} {x:Str} {p pos:Pos} {e:Expr} {es:List Expr} {t:TA}
theorem aZg (G:Ok X.prog X.w X.K X.mg X.base k x ps sp) (hr:Room k X.A) (hg:Gl X x) (ha:PA X (e::es) t) (hdb:(x == ("__debug__":Str))=false:=by decide)
  (he:starEach (e::es) X.env=(false,eval e X.env)::starEach es X.env:=by rfl) (hpl:(backTo pos (starEach es X.env)).any (·.1)=false:=by rfl) :
  PE X (.Call (.Name x p) (e::es) [] pos) (uO sp [] E0 t):=by
 obtain ⟨f,fd,h1,h2,h3,h4⟩:=G
 exact aUh h4 hr hg h1 h2 h3 .nil aSy ha hdb he hpl
theorem aYs (G:Ok X.prog X.w X.K X.mg X.base k x ps sp) (hr:Room k X.A) (hg:Gl X x) (hdb:(x == ("__debug__":Str))=false:=by decide) :
  PE X (.Call (.Name x p) [] [] pos) (uO sp [] E0 aK5):=by
 obtain ⟨f,fd,h1,h2,h3,h4⟩:=G
 exact aQ2 h4 hr hg h1 h2 h3 .nil aSy hdb
end
theorem vD {env:Env} (f:Str × NameKind→List (Str × Addr)→Sem (ForInStep (List (Str × Addr))))
  (h1:∀n r,f (n,.free) r=(cellOf env n >>= fun a=>pure (.yield ((n,a)::r)))) (h2:∀n k r,k≠.free→f (n,k) r=pure (.yield r)) :
  ∀(names:List (Str × NameKind)) (acc:List (Str × Addr)),(∀y∈names,y.2=.free→∃c,env.cells.lookup y.1=some c) →
  ∃cl,forIn names acc f=(pure (cl++acc):Sem _)∧(∀p∈cl,env.cells.lookup p.1=some p.2∧(p.1,NameKind.free)∈names)∧∀y,(y,NameKind.free)∈names→∃c,(y,c)∈cl
 |[],acc,_=>⟨[],by simp,fun _ h=>(nomatch h),fun _ h=>(nomatch h)⟩
 |(n,k)::r,acc,h=>by
  by_cases hk:k=.free
  ·subst hk
   obtain ⟨c,hc⟩:=h (n,.free) List.mem_cons_self rfl
   obtain ⟨cl,e,p1,p2⟩:=vD f h1 h2 r ((n,c)::acc) fun y hy=>h y (List.mem_cons_of_mem _ hy)
   refine ⟨cl++[(n,c)],?_,fun p hp=>?_,fun y hy=>?_⟩
   ·rw [List.forIn_cons,h1]
    have e0:cellOf env n=pure c:=by unfold cellOf;rw [hc]
    rw [e0,pure_bind,pure_bind]
    show forIn r ((n,c)::acc) f=_
    rw [e,List.append_assoc]
    rfl
   ·rcases List.mem_append.mp hp with hp|hp
    ·exact ⟨(p1 p hp).1,List.mem_cons_of_mem _ (p1 p hp).2⟩
    ·obtain rfl:=List.mem_singleton.mp hp
     exact ⟨hc,List.mem_cons_self⟩
   ·rcases List.mem_cons.mp hy with e|hy
    ·cases e
     exact ⟨c,by simp⟩
    ·obtain ⟨c',q⟩:=p2 y hy
     exact ⟨c',List.mem_append_left _ q⟩
  ·obtain ⟨cl,e,p1,p2⟩:=vD f h1 h2 r acc fun y hy=>h y (List.mem_cons_of_mem _ hy)
   refine ⟨cl,?_,fun p hp=>⟨(p1 p hp).1,List.mem_cons_of_mem _ (p1 p hp).2⟩,fun y hy=>?_⟩
   ·rw [List.forIn_cons,h2 n k acc hk,pure_bind]
    exact e
   ·rcases List.mem_cons.mp hy with e|hy
    ·cases e
     exact absurd rfl hk
    ·exact p2 y hy
theorem aB6 {scope:Scope} {env:Env} (h:∀y∈scope.names,y.2=.free→∃c,env.cells.lookup y.1=some c) :
  ∃cl,closureFor scope env=pure cl∧(∀p∈cl,env.cells.lookup p.1=some p.2∧(p.1,NameKind.free)∈scope.names)∧∀y,(y,NameKind.free)∈scope.names→∃c,(y,c)∈cl:=by
 unfold closureFor
 obtain ⟨cl,e,p1,p2⟩:=vD (env:=env) (fun x r=>match x with|(name,kind)=>if (kind == NameKind.free)=true then do let a ←cellOf env name;pure (.yield ((name,a)::r)) else pure (.yield r))
  (fun n r=>rfl) (fun n k r hk=>by
   have:(k == NameKind.free)=false:=by simpa using hk
   simp only [this,Bool.false_eq_true,if_false]) scope.names [] h
 refine ⟨cl,?_,p1,p2⟩
 rw [List.append_nil] at e
 refine Eq.trans ?_ e
 first
 |rfl
 |simp
theorem lookup_mem {α β:Type} [BEq α] [LawfulBEq α] {a:α} {b:β}:∀{l:List (α × β)},(a,b)∈l→∃b',l.lookup a=some b'
 |(x,y)::r,h=>by
  rw [List.lookup_cons]
  by_cases e:(a == x)=true
  ·exact ⟨y,by rw [e]⟩
  ·have e':(a == x)=false:=by simpa using e
   rw [e']
   rcases List.mem_cons.mp h with z|z
   ·cases z
    simp at e
   ·exact lookup_mem z
theorem xN {env:Env} {y:Str} {k:NameKind}:∀{names:List (Str × NameKind)},names.lookup y=some .free →
  (names.map fun (x:Str × NameKind)=>match x with|(n,k)=>if (k == NameKind.free && env.scope.kind == ScopeKind.function && env.kindOf n == some NameKind.cell) then (n,NameKind.cell) else (n,k)).lookup y=some .cell ∨
  (names.map fun (x:Str × NameKind)=>match x with|(n,k)=>if (k == NameKind.free && env.scope.kind == ScopeKind.function && env.kindOf n == some NameKind.cell) then (n,NameKind.cell) else (n,k)).lookup y=some .free
 |[],h=>by simp at h
 |(n,k')::r,h=>by
  rw [List.map_cons]
  rw [List.lookup_cons] at h
  by_cases e:(y == n)=true
  ·rw [e] at h
   cases h
   by_cases q:((NameKind.free == NameKind.free) && env.scope.kind == ScopeKind.function && env.kindOf n == some NameKind.cell)=true
   ·left
    simp only [q,if_true,List.lookup_cons,e]
   ·right
    have q':=Bool.eq_false_iff.mpr q
    simp only [q',Bool.false_eq_true,if_false,List.lookup_cons,e]
  ·have e':(y == n)=false:=by simpa using e
   rw [e'] at h
   have ih:=xN (env:=env) (k:=k) h
   have key:∀z:Str × NameKind,z.1=n→(List.lookup y (z::(r.map fun (x:Str × NameKind)=>match x with|(n,k)=>if (k == NameKind.free && env.scope.kind == ScopeKind.function && env.kindOf n == some NameKind.cell) then (n,NameKind.cell) else (n,k)))) =
     List.lookup y (r.map fun (x:Str × NameKind)=>match x with|(n,k)=>if (k == NameKind.free && env.scope.kind == ScopeKind.function && env.kindOf n == some NameKind.cell) then (n,NameKind.cell) else (n,k)):=fun z hz=>by
    obtain ⟨z1,z2⟩:=z
    cases hz
    rw [List.lookup_cons,e']
   have kz:(match ((n,k'):Str × NameKind) with|(n,k)=>if (k == NameKind.free && env.scope.kind == ScopeKind.function && env.kindOf n == some NameKind.cell) then (n,NameKind.cell) else (n,k)).1=n:=by
    dsimp only
    split <;> rfl
   rw [key _ kz]
   exact ih
theorem xY {env:Env} {y:Str}:∀{names:List (Str × NameKind)},(∀z∈names,z.2≠.cell) →
  ((names.map fun (x:Str × NameKind)=>match x with|(n,k)=>if (k == NameKind.free && env.scope.kind == ScopeKind.function && env.kindOf n == some NameKind.cell) then (n,NameKind.cell) else (n,k)).lookup y=some .cell ∨
  (names.map fun (x:Str × NameKind)=>match x with|(n,k)=>if (k == NameKind.free && env.scope.kind == ScopeKind.function && env.kindOf n == some NameKind.cell) then (n,NameKind.cell) else (n,k)).lookup y=some .free)→(y,NameKind.free)∈names
 |[],_,h=>by simp at h
 |(n,k')::r,hc,h=>by
  rw [List.map_cons] at h
  by_cases e:(y == n)=true
  ·have ey:y=n:=by simpa using e
   subst ey
   have hk:k'=.free:=by
    by_cases q:((k' == NameKind.free) && env.scope.kind == ScopeKind.function && env.kindOf y == some NameKind.cell)=true
    ·rw [Bool.and_eq_true,Bool.and_eq_true] at q
     simpa using q.1.1
    ·have q':=Bool.eq_false_iff.mpr q
     simp only [q',Bool.false_eq_true,if_false,List.lookup_cons,e] at h
     rcases h with h|h
     ·cases h
      exact absurd rfl (hc (y,.cell) List.mem_cons_self)
     ·cases h;rfl
   subst hk
   exact List.mem_cons_self
  ·have e':(y == n)=false:=by simpa using e
   have key:∀z:Str × NameKind,z.1=n→(List.lookup y (z::(r.map fun (x:Str × NameKind)=>match x with|(n,k)=>if (k == NameKind.free && env.scope.kind == ScopeKind.function && env.kindOf n == some NameKind.cell) then (n,NameKind.cell) else (n,k)))) =
     List.lookup y (r.map fun (x:Str × NameKind)=>match x with|(n,k)=>if (k == NameKind.free && env.scope.kind == ScopeKind.function && env.kindOf n == some NameKind.cell) then (n,NameKind.cell) else (n,k)):=fun z hz=>by
    obtain ⟨z1,z2⟩:=z
    cases hz
    rw [List.lookup_cons,e']
   have kz:(match ((n,k'):Str × NameKind) with|(n,k)=>if (k == NameKind.free && env.scope.kind == ScopeKind.function && env.kindOf n == some NameKind.cell) then (n,NameKind.cell) else (n,k)).1=n:=by
    dsimp only
    split <;> rfl
   rw [key _ kz] at h
   exact List.mem_cons_of_mem _ (xY (fun z hz=>hc z (List.mem_cons_of_mem _ hz)) h)
section
variable {prog:Program} {w:World} {A:Around} {E:Value→Shared→Prop} {R:Result→Shared→Prop} {s:Shared}
theorem aEw {elt target iter:Expr} {ifs:List Expr} {scope:Scope} {pos:Pos} {it acc:Value} {env:Env} (I:Nat→Shared→Prop)
  (turn:∀n s,I n s→wpAny (model prog w) A (pyNext it) (fun r s₁=>match r with
   |none=>R (.ok .next) s₁
   |some v=>wpAny (model prog w) A (letOwnedTupleGo target it v) (fun _ s'=>wpAny (model prog w) A (assign target env v) (fun _ s₂=>
     wpAny (model prog w) A (forIn ifs true fun c r=>if r=true then do let ok ←isTrue c env (eval c env);pure (ForInStep.yield ok) else pure (ForInStep.yield r)) (fun ok s₃=>
      if ok=true then wpAny (model prog w) A (eval elt env) (fun x s₄=>
       wpAny (model prog w) A (call (.builtin "list.append") [acc,x]) (fun _ s₅=>∃m,m<n∧I m s₅) (notedBy (model prog w) A env fun e s'=>R (.error e) s') s₄) (notedBy (model prog w) A env fun e s'=>R (.error e) s') s₃
      else ∃m,m<n∧I m s₃) (notedBy (model prog w) A env fun e s'=>R (.error e) s') s₂) (notedBy (model prog w) A env fun e s'=>R (.error e) s') s') (notedBy (model prog w) A env fun e s'=>R (.error e) s') s₁)
   (notedBy (model prog w) A env fun e s'=>R (.error e) s') s)
  (n:Nat) (h:I n s):codeAny (model prog w) A (.compLoop (.ListComp elt [⟨target,iter,ifs,0⟩] scope pos) 0 it acc env) R s:=by
 refine codeAny_loop rfl I (fun n s hI=>?_) n h
 show wpAny _ A ((compTurn (.ListComp elt [⟨target,iter,ifs,0⟩] scope pos) 0 it acc env).onRaise (fun x=>do noteFrame x env;theTreesLotGoes x)) _ _ s
 refine wpAny_noted ?_
 rw [compTurn_list]
 refine wpAny_bind (wpAny_standAt (wpAny_bind (wpAny_mono (turn n s hI) (fun r s₁ h₁=>?_) fun _ _ h'=>h')))
 cases r with
 |none=>exact wpAny_pure h₁
 |some v=>
  refine wpAny_bind (wpAny_mono h₁ (fun _ s' h₁'=>wpAny_bind (wpAny_mono h₁' (fun _ s₂ h₂=>wpAny_bind (wpAny_mono h₂ (fun ok s₃ h₃=>?_) fun _ _ h'=>h')) fun _ _ h'=>h')) fun _ _ h'=>h')
  cases ok with
  |false=>exact wpAny_pure ⟨rfl,h₃⟩
  |true=>
   exact wpAny_bind (wpAny_bind (wpAny_mono h₃ (fun x s₄ h₄=>wpAny_bind (wpAny_mono h₄ (fun _ s₅ h₅=>wpAny_pure (wpAny_pure ⟨rfl,h₅⟩)) fun _ _ h'=>h')) fun _ _ h'=>h'))
end
def cxC (X:Cx) (N:List Str) (scope:Scope) (cl:List (Str × Addr)) (s:Shared) (H:Hp) (fp:List Addr):Cx:=
 { X with N:=N,s₀:=s,H₀:=H,env:=compEnvC scope cl s.heap.objs.size X.env,outer:=X.stack,stack:=X.stack,ex:=fp,fn:=fun _=>false,pn:=[],xe:=fun _ _=>False }
def aSp (X:Cx) (ifs:List Expr) (tt:TT):Prop:=
 ∀(pins:List (Addr × Obj)) (s:Shared) (σ:St) (H:Hp) (Q:Bool→Hp→Prop),Inv X pins σ H s→tt σ H Q →
  wpAny (model X.prog X.w) X.A (forIn ifs true fun c r=>if r=true then do let ok ←isTrue c X.env (eval c X.env);pure (ForInStep.yield ok) else pure (ForInStep.yield r)) (TP X pins σ Q) X.xe s
def pD:TT:=fun _ H Q=>Q true H
theorem aWy {X:Cx}:aSp X [] pD:=fun _ _ _ H _ I h=>wpAny_tests_nil ⟨H,I,h⟩
theorem aX4 {X:Cx} {c:Expr} {tc:TT} (h:PT X c tc):aSp X [c] tc:=fun pins s σ H Q I q=>wpAny_tests_one (h pins s σ H Q I q)
structure zT (scope:Scope) (N:List Str):Prop where
 cell:∀y∈scope.names,y.2≠.cell
 kind:scope.kind=.function
 names:∀y∈scope.names,y.2=.local→scope.names.lookup y.1=some .local
 free:∀y∈scope.names,y.2=.free→scope.names.lookup y.1=some .free
def Cap (X:Cx) (scope:Scope) (N:List Str) (σ σ':St):Prop:=
 σ'.length=N.length∧∀(i:Nat) (y:Str) (v:V),N[i]?=some y→σ'[i]?=some (some v)→(y,NameKind.free)∈scope.names∧∃j:Nat,X.N[j]?=some y∧σ[j]?=some (some v)∧Vis X.env.scope y
theorem aJg {X:Cx} {pins:List (Addr × Obj)} {σ σ':St} {H:Hp} {s:Shared} {scope:Scope} {N:List Str} {cl:List (Str × Addr)} {fp:List Addr} {h1:Heap} {tk:Nat} {m1:Str→Option Value}
  (I:Inv X pins σ H s) (C:zT scope N) (hfr:∀y,(y,NameKind.free)∈scope.names→X.env.kindOf y=some .cell∨X.env.kindOf y=some .free)
  (p1:∀p∈cl,X.env.cells.lookup p.1=some p.2∧(p.1,NameKind.free)∈scope.names) (p2:∀y,(y,NameKind.free)∈scope.names→∃c,(y,c)∈cl)
  (cap:Cap X scope N σ σ') (hf:∀b∈fp,vX X pins H b) (hfl:∀b∈fp,b<s.heap.objs.size)
  (hn:h1.Ns s.heap.objs.size m1) (hk:∀b o,s.heap.get? b=some o→h1.get? b=some o) :
  Inv (cxC X N scope cl s H fp) [] σ' H { s with heap:=h1,toks:=tk }:=by
 have ok:=I.ok
 have lk:∀y c,cl.lookup y=some c→X.env.cells.lookup y=some c:=fun y c e=>(p1 _ (PySem.mem_of_lookup e)).1
 have lk2:∀y,(y,NameKind.free)∈scope.names→∃c,cl.lookup y=some c∧X.env.cells.lookup y=some c:=fun y hy=>by
  obtain ⟨c,hc⟩:=p2 y hy
  obtain ⟨c',e⟩:=lookup_mem hc
  exact ⟨c',e,lk y c' e⟩
 have fsub:∀b∈fp,b∉frs X.stack:=fun b hb z=>by
  obtain ⟨f0,f1,f2,_⟩:=hf b hb
  rcases List.mem_cons.mp (I.aLq b z) with e|e
  ·exact f1 e
  ·exact f2 e
 have ok':(cxC X N scope cl s H fp).Ok:=by
  refine ⟨ok.mod,C.kind,ok.glob,ok.blt,Nat.le_refl _,fun x y c h1 h2=>ok.inj x y c (lk x c h1) (lk y c h2),fun y hy=>?_,fun y c h _=>?_,ok.hd,ok.frames,.inl rfl,fun b hb=>?_,I.bs,Nat.le_trans ok.bsz I.sz,
   fun b o e hb=>?_,fsub,I.stack,I.aNi⟩
  ·obtain ⟨c,e,_⟩:=lk2 y (xY (env:=X.env) C.cell hy)
   exact ⟨c,e⟩
  ·exact absurd (show false=true from h) Bool.false_ne_true
  ·obtain ⟨f0,f1,f2,f3,f4,f5⟩:=hf b hb
   exact ⟨Nat.ne_of_lt (hfl b hb),fun x c e=>f4 x c (lk x c e)⟩
  ·obtain ⟨f0,f1,f2,f3,f4,f5⟩:=hf b hb
   rcases f3 with z|z
   ·exact ok.noex b o e z
   ·exact absurd (Nat.lt_of_lt_of_le (Heap.lt_size e) (Nat.le_trans ok.bsz z)) (Nat.lt_irrefl _)
 refine ⟨ok',rfl,I.bare,Un.kept hk,⟨m1,hn,fun i y v e1 e2 e3=>?_⟩,fun y c e=>?_,I.hok.fresh (Nat.le_refl _),fun y c e=>I.freeC y c (lk y c e),fun p hp=>absurd (show p∈([]:List (Addr × Obj)) from hp) (by simp),I.hok.kept hk,cap.1⟩
 ·obtain ⟨hy,j,e4,e5,e6⟩:=cap.2 i y v e1 e2
  obtain ⟨m,_,hl⟩:=I.loc
  obtain ⟨u,r,l⟩:=hl j y v e4 e5 e6
  refine ⟨u,r,.inr ?_⟩
  rcases l with ⟨k,_⟩|⟨k,c,e,z⟩
  ·rcases hfr y hy with q|q <;> (rw [k] at q;cases q)
  ·obtain ⟨c',e',e''⟩:=lk2 y hy
   rw [e] at e''
   cases e''
   have rl:=xN (env:=X.env) (k:=.free) (C.free (y,.free) hy rfl)
   refine ⟨rl,c,e',?_⟩
   obtain ⟨o,ho,hd⟩:=z
   exact ⟨o,hk _ _ ho,hd⟩
 ·obtain ⟨v,o,ho,hd⟩:=I.cell y c (lk y c e)
  exact ⟨v,o,hk _ _ ho,hd⟩
def iQ (X:Cx) (scope:Scope) (N:List Str) (wi:TI) (g:TG) (tt:TT) (te:TE):TE:=fun σ H Q=>∃σ0,Cap X scope N σ σ0∧wi σ H fun J H1=>∀D,H1 D=none→∃W:Nat→Nat→St→Hp→List V→Prop,(∃m,W 0 m σ0 (upd H1 D (.lst [])) []) ∧
 ∀i m σ' H' ys,W i m σ' H' ys→H' D=some (.lst ys)∧((J.stop i H'∧Q (.ref D) H')∨(J.go i H'∧∀x H2,J.yld i H' x H2→g x σ' H2 fun σ3 H3=>tt σ3 H3 fun b H4=>
  if b=true then te σ3 H4 fun y H5=>H5 D=some (.lst ys)∧ys.length<sizeLine∧∃m',m'<m∧W (i+1) m' σ3 (upd H5 D (.lst (ys++[y]))) (ys++[y]) else H4 D=some (.lst ys)∧∃m',m'<m∧W (i+1) m' σ3 H4 ys))
theorem aT0 {X:Cx} {elt target iter:Expr} {ifs:List Expr} {scope:Scope} {pos:Pos} {N:List Str} {wi:TI} {g:TG} {tt:TT} {te:TE}
  (C:zT scope N) (hfr:∀y,(y,NameKind.free)∈scope.names→X.env.kindOf y=some .cell∨X.env.kindOf y=some .free) (hc:X.calm=true)
  (hi:PI X target iter wi)
  (hb:∀cl s H fp,PG (cxC X N scope cl s H fp) target g∧aSp (cxC X N scope cl s H fp) ifs tt∧PE (cxC X N scope cl s H fp) elt te)
  (hs:∀x,foldedSetIterable iter X.env x=pure x:=by intro _;rfl) :
  PE X (.ListComp elt [⟨target,iter,ifs,0⟩] scope pos) (iQ X scope N wi g tt te):=by
 intro pins s σ H Q I hq
 obtain ⟨σ0,cap,hq⟩:=hq
 obtain ⟨cl,hcl,p1,p2⟩:=aB6 (scope:=scope) (env:=X.env) (fun y hy hk=>by
  obtain ⟨n,k⟩:=y
  cases hk
  exact I.ok.has n (hfr n hy))
 rw [eval_ListComp]
 refine wpAny_comprehension_free (use:=none) rfl hs hcl C.kind C.names (thn (hi pins s σ H _ I hq) fun xv s1 h1=>thn h1 fun itv s2 h2=>?_)
 obtain ⟨it,fp,tn,J,H2,rfl,I2,T,st2,f2,q2⟩:=h2
 refine wpAny_newObj_type (wpAny_newFunctionEnv C.cell (by intro y hy;simp at hy) (fun h₁ hns₁ hsb₁=>?_) C.kind)
 dsimp only at hns₁ hsb₁ ⊢
 have hD:H2 s2.heap.objs.size=none:=I2.hok.fresh (Nat.le_refl _)
 have I3:Inv X pins σ (upd H2 s2.heap.objs.size (.lst [])) { s2 with heap:=s2.heap.push { cls:=.type "list",dict:=none,data:=.seq ([]:List Value).toArray } }:=
  I2.laid (t':=s2.toks) (fun b u e=>Heap.get?_push_of_some _ e) (Nat.le_refl _) ⟨Nat.zero_le _,[],0,.nil,Heap.get?_push_size _ rfl⟩
 generalize hs3:({ s2 with heap:=s2.heap.push { cls:=.type "list",dict:=none,data:=.seq ([]:List Value).toArray } }:Shared)=s3 at I3
 have hh3:s2.heap.push { cls:=.type "list",dict:=none,data:=.seq ([]:List Value).toArray }=s3.heap:=by rw [←hs3]
 rw [hh3] at hns₁ hsb₁
 have fl2:∀b∈fp,b<s2.heap.objs.size:=fun b hb=>by
  obtain ⟨o,e,_⟩:=T.obj _ _ st2 b hb
  exact Heap.lt_size e
 have fl3:∀b∈fp,b<s3.heap.objs.size:=fun b hb=>by
  rw [←hh3,Heap.size_push]
  exact Nat.lt_succ_of_lt (fl2 b hb)
 have f3:∀b∈fp,vX X pins (upd H2 s2.heap.objs.size (.lst [])) b:=fun b hb=>by
  obtain ⟨f0,fr⟩:=f2 b hb
  exact ⟨by rw [bH (Nat.ne_of_lt (fl2 b hb))];exact f0,fr⟩
 have keep3:∀b o,s3.heap.get? b=some o→h₁.get? b=some o:=fun b o e=>hsb₁.extBut b o (Nat.ne_of_lt (Heap.lt_size e)) (Heap.get?_push_of_some _ e)
 have I4:=aJg (tk:=s3.toks) I3 C hfr p1 p2 cap f3 fl3 hns₁ keep3
 have st4:tn 0 h₁:=T.keep _ _ _ st2 fun b hb o e=>keep3 b o (by rw [←hh3];exact Heap.get?_push_of_some _ e)
 obtain ⟨W,⟨m0,w0⟩,turn⟩:=q2 s2.heap.objs.size hD
 have fpc:∀{H':Hp},(∀b∈fp,H' b=none)→∀b∈fp,vX (cxC X N scope cl s3 (upd H2 s2.heap.objs.size (.lst [])) fp) [] H' b:=fun {H'} hn b hb=>by
  obtain ⟨e1,e2⟩:=I4.ok.exf b hb
  exact ⟨hn b hb,e1,I4.ok.exfs b hb,.inl hb,e2,fun p hp=>absurd (show p∈([]:List (Addr × Obj)) from hp) (by simp)⟩
 have loop:∀s4:Shared,s4={ s3 with heap:=h₁,toks:=s3.toks } →
   codeAny (model X.prog X.w) X.A (.compLoop (.ListComp elt [⟨target,iter,ifs,0⟩] scope pos) 0 (.ref it) (.ref s2.heap.objs.size) (compEnvC scope cl s3.heap.objs.size X.env))
    (compPost (model X.prog X.w) X.A X.xe none (EP X pins σ Q) (.ref s2.heap.objs.size) s3.heap.objs.size) s4:=by
  rintro s4 rfl
  refine aEw (fun n s'=>∃i σ' H' ys,Inv (cxC X N scope cl s3 (upd H2 s2.heap.objs.size (.lst [])) fp) [] σ' H' s'∧tn i s'.heap∧(∀b∈fp,H' b=none)∧W i n σ' H' ys) ?_ m0 ⟨0,σ0,_,[],I4,st4,fun b hb=>(f3 b hb).1,w0⟩
  rintro n s5 ⟨i,σ5,H5,ys,I5,st5,fr5,w5⟩
  obtain ⟨hacc,w5⟩:=turn i n σ5 H5 ys w5
  have noE:∀{α:Type} {t:Sem α} {Q':α→Shared→Prop} {E':Value→Shared→Prop} {s':Shared},wpAny (model X.prog X.w) X.A t Q' (fun _ _=>False) s'→wpAny (model X.prog X.w) X.A t Q' E' s':=fun h=>wpAny_mono h (fun _ _ q=>q) fun _ _ z=>z.elim
  rcases w5 with ⟨stop,qn⟩|⟨go,step⟩
  ·refine noE (thn (T.done (cxC X N scope cl s3 (upd H2 s2.heap.objs.size (.lst [])) fp) rfl rfl rfl hc i [] s5 σ5 H5 _ I5 (fpc fr5) st5 stop) fun r s6 ⟨hr,I6⟩=>?_)
   subst hr
   obtain ⟨m6,hn6,_⟩:=I6.loc
   refine ⟨m6,hn6,fun h' sb=>?_⟩
   have kp:∀b o,b≠s3.heap.objs.size→s6.heap.get? b=some o→h'.get? b=some o:=fun b o hb e=>sb.extBut b o hb e
   have ne3:∀b o,s3.heap.get? b=some o→b≠s3.heap.objs.size:=fun b o e=>Nat.ne_of_lt (Heap.lt_size e)
   have un:Un (frs X.stack) fp (upd H2 s2.heap.objs.size (.lst [])) H5 s3.heap h':=by
    have u:=I6.base
    exact ⟨fun b o e n hb hx=>kp b o (ne3 b o e) (u.keep b o e n hb hx),fun b o e n hb hx=>by
     obtain ⟨sl,e1⟩:=u.slot b o e n hb hx
     exact ⟨sl,kp b _ (ne3 b o e) e1⟩,u.free,fun b o e hx=>by
     obtain ⟨o',e1⟩:=u.there b o e hx
     exact ⟨o',kp b _ (ne3 b o e) e1⟩,u.tups,u.frzs,u.tbls⟩
   have hok:HOk X.prog X.w H5 h':=fun b u e=>by
    refine (I6.hok b u e).stay (fun c v hc' q=>kp c v ?_ q) (fun _ q=>q) fun _ _ q=>q
    have hfree:H5 s3.heap.objs.size=none:=I6.free
    rintro rfl
    rcases hc' with z|z
    ·rw [z] at hfree;rw [hfree] at e;cases e
    ·rw [hfree] at z;cases z
   have I7:Inv X pins σ H5 { s6 with heap:=h' }:=by
    refine I3.call' (s':={ s6 with heap:=h' }) I6.os un hok I6.bare fun b hb=>?_
    obtain ⟨f0,f1,f2',f3',f4,f5⟩:=f3 b hb
    exact ⟨f3',f1,f4,f5⟩
   exact ⟨.ref s2.heap.objs.size,H5,I7,rfl,qn⟩
  ·refine noE (thn (T.item (cxC X N scope cl s3 (upd H2 s2.heap.objs.size (.lst [])) fp) rfl rfl rfl hc i [] s5 σ5 H5 (fun _ _=>False) I5 (fpc fr5) st5 go) fun r s6 ⟨u,hr,h6⟩=>?_)
   subst hr
   refine noE (thn h6 fun _ s7 ⟨x,H7,I7,r7,y7,st7,fr7⟩=>?_)
   obtain ⟨hg,ht,he⟩:=hb cl s3 (upd H2 s2.heap.objs.size (.lst [])) fp
   have I7':=I7.pinned (fpc fr7) (T.obj _ _ st7)
   have back:∀{σ8:St} {H8:Hp} {s8:Shared},Inv (cxC X N scope cl s3 (upd H2 s2.heap.objs.size (.lst [])) fp) ([]++zE fp s7.heap) σ8 H8 s8→tn (i+1) s8.heap∧∀b∈fp,H8 b=none:=fun {σ8 H8 s8} I8=>
    ⟨T.keep _ _ _ st7 fun b hb o e=>(I8.pin (b,o) (List.mem_append_right _ (List.mem_append_right _ (kZ hb e)))).1,fun b hb=>by
     obtain ⟨o,e,d⟩:=T.obj _ _ st7 b hb
     exact (I8.pin (b,o) (List.mem_append_right _ (List.mem_append_right _ (kZ hb e)))).2.1⟩
   refine noE (thn (hg _ s7 σ5 H7 x u _ I7' r7 (step x H7 y7)) fun _ s8 ⟨σ8,H8,I8,q8⟩=>?_)
   refine noE (thn (ht _ s8 σ8 H8 _ I8 q8) fun b s9 ⟨H9,I9,q9⟩=>?_)
   cases b with
   |false=>
    rw [if_neg Bool.false_ne_true] at q9 ⊢
    obtain ⟨_,m',hm,w9⟩:=q9
    exact ⟨m',hm,i+1,σ8,H9,ys,I9.nR,(back I9).1,(back I9).2,w9⟩
   |true=>
    rw [if_pos rfl] at q9 ⊢
    refine noE (thn (he _ s9 σ8 H9 _ I9 q9) fun yv s10 ⟨y,H10,I10,r10,hacc10,hlen,m',hm,w10⟩=>?_)
    refine noE (thn (yL _ s10 σ8 H10 (.ref s2.heap.objs.size) [y] (.ref s2.heap.objs.size) [yv] (fun _ H11=>H11=upd H10 s2.heap.objs.size (.lst (ys++[y]))) I10 rfl (.cons r10 .nil) ⟨_,_,_,rfl,rfl,hacc10,hlen,rfl⟩) fun _ s11 ⟨z,H11,I11,_,e11⟩=>?_)
    subst e11
    exact ⟨m',hm,i+1,σ8,_,ys++[y],I11.nR,(back I11).1,(back I11).2,w10⟩
 have fin:=codeAny_compStart_list (loop { s3 with heap:=h₁,toks:=s3.toks } rfl) (T.self _ _ _ _ _ st4 (loop { s3 with heap:=h₁,toks:=s3.toks } rfl))
 subst hs3
 exact fin
end L2
namespace PySem
open Sem (wp)
namespace IfF
theorem aQc:typeLookup (.type "function") "__class__"=pure (some (.builtin "object.__class__")):=by rw [typeLookup_type,builtinLookup_eq_fast];kernel_rfl
theorem aAw:Slot "function" "__getattribute__" "object.__getattribute__":=
 .of (owner:="object") (n:="__getattribute__") (by rw [typeLookup_type,builtinLookup_eq_fast];kernel_rfl) (by decide +kernel) (by decide +kernel) (by decide +kernel)
  (by first|exact .inl (by decide +kernel)|exact .inr (by decide +kernel)) (by rw [isSubtype_type];kernel_rfl)
theorem aS7:entryFor table "object.__getattribute__"=some Builtin.«object.__getattribute__»:=entryFor_of_tree (by kernel_rfl)
theorem aAq:isSubtype (.type "function") (.type (".".intercalate ("object.__class__".cutAt '.').dropLast))=pure true:=by
 rw [F.owner_object_class,isSubtype_type];kernel_rfl
theorem sub_int:isSubtype (.type "function") (.type "int")=pure false:=by rw [isSubtype_type];kernel_rfl
theorem sub_bool:isSubtype (.type "function") (.type "bool")=pure false:=by rw [isSubtype_type];kernel_rfl
theorem aUq:isSubtype (.type "function") (.type "str")=pure false:=by rw [isSubtype_type];kernel_rfl
end IfF
section
variable {prog:Program} {w:World} {A:Around} {E:Value→Shared→Prop} {h:Heap} {g:Array GenState} {d:Drawn} {t:Nat} {os:OsState} {a:Addr} {o:Obj}
theorem aGe {R:Result→Shared→Prop} (hx:h.get? a=some o) (hc:o.cls=.type "function") (hq:R (.ok (.ret (.type "function"))) ⟨h,g,d,t,os⟩) :
  codeAny (model prog w) A (.call (.builtin "getset_descriptor.__get__") ⟨[.builtin "object.__class__",.ref a,.type "function"],[]⟩) R ⟨h,g,d,t,os⟩:=by
 have hT:(⟨h,g,d,t,os⟩:Shared).TypeIs (.ref a) "function":=⟨_,hx,hc⟩
 have hT5:(⟨h,g,d,t,os⟩:Shared).TypeIs (.builtin "object.__class__") "getset_descriptor":=F.typeOf_object_class
 have f8:=IfF.aAq
 refine codeAny_call_builtin F.slot_gs_get.plain F.entry_gs_get (F.slot_gs_get.check _ _ _ _ _ _ _ _ hT5 (F.args_gs_get _ _ _) ?_)
 repeat (any_goals (first|assumption|wp_step))
 refine ⟨Code.quiet_builtin _ (by decide +kernel),codeAny_builtin F.entry_object_class ?_⟩
 repeat (any_goals (first|assumption|wp_step))
theorem aCp {tk:Tok} {Q:Fin→Shared→Prop} (hx:h.get? a=some o) (hc:o.cls=.type "function") (hq:Q (.done (.ret (.type "function"))) ⟨h,g,d,t,os⟩) :
  wpAny (model prog w) A (Builtin.«object.__getattribute__» ⟨[.ref a,.str "__class__" tk],[]⟩) Q E ⟨h,g,d,t,os⟩:=by
 have hT:(⟨h,g,d,t,os⟩:Shared).TypeIs (.ref a) "function":=⟨_,hx,hc⟩
 have hT5:(⟨h,g,d,t,os⟩:Shared).TypeIs (.builtin "object.__class__") "getset_descriptor":=F.typeOf_object_class
 have f4:=IfF.aQc
 have f5:=F.typeOf_object_class
 have f6:=F.slot_gs_get.lookup
 have f7:=F.slot_gs_set.lookup
 repeat (any_goals (first|assumption|wp_step))
 refine aGe hx hc ?_
 repeat (any_goals (first|assumption|wp_step))
theorem aIl {tk:Tok} {Q:Value→Shared→Prop} (hx:h.get? a=some o) (hc:o.cls=.type "function") (hq:Q (.type "function") ⟨h,g,d,t,os⟩):wpAny (model prog w) A (getAttrBy (.ref a) (.str "__class__" tk) false) Q E ⟨h,g,d,t,os⟩:=by
 have hT:(⟨h,g,d,t,os⟩:Shared).TypeIs (.ref a) "function":=⟨_,hx,hc⟩
 have f2:=IfF.aAw.lookup
 have f3:=IfF.aAw.bind (.ref a)
 repeat (any_goals (first|assumption|wp_step))
 refine codeAny_call_builtin IfF.aAw.plain IfF.aS7 (IfF.aAw.check _ _ _ _ _ _ _ _ hT (F.args_object_getattribute_2 _ _) (aCp hx hc ?_))
 repeat (any_goals (first|assumption|wp_step))
theorem aDr {Q:Option Value→Shared→Prop} (hx:h.get? a=some o) (hc:o.cls=.type "function") (hq:Q (some (.type "function")) ⟨h,g,d,t+1,os⟩):wpAny (model prog w) A (getAttr? (.ref a) "__class__") Q E ⟨h,g,d,t,os⟩:=by
 unfold getAttr? getAttrBy?
 repeat (any_goals (first|assumption|with_reducible apply aIl hx hc|wp_step))
theorem aC2 {T:String} {dep:Int} {tk:Tok} {Q:Fin→Shared→Prop} (hx:h.get? a=some o) (hc:o.cls=.type "function") (hne:(Value.type "function" == Value.type T)=false) (hty:typeOf (.type T)=pure (.type "type"))
  (hsub:isSubtype (.type "function") (.type T)=pure false) (hq:Q (.done (.ret (.bool false))) ⟨h,g,d,t+1,os⟩) :
  wpAny (model prog w) A (Builtin.«isinstance.nested» ⟨[.ref a,.type T,.int dep tk],[]⟩) Q E ⟨h,g,d,t,os⟩:=by
 have hT:(⟨h,g,d,t,os⟩:Shared).TypeIs (.ref a) "function":=⟨_,hx,hc⟩
 repeat (any_goals (first|assumption|with_reducible apply aDr hx hc|wp_step))
end
theorem rD {a:Addr} {T:String} (hne:(Value.type "function" == Value.type T)=false) (hty:typeOf (.type T)=pure (.type "type")) (hsub:isSubtype (.type "function") (.type T)=pure false) :
  Meets (Builtin.«isinstance» ⟨[.ref a,.type T],[]⟩) (fun _ R s=>(∃o,s.heap.get? a=some o∧o.cls=.type "function")∧R (.ok (.ret (.bool false))) { s with toks:=s.toks+1 }):=
 fun _ _ _ _ s hs=>by
  obtain ⟨h,g,d,t,os⟩:=s
  obtain ⟨⟨o,hx,hc⟩,hq⟩:=hs
  exact isinstance_outer (aC2 hx hc hne hty hsub hq)
section
variable {prog:Program} {w:World} {A:Around} {E:Value→Shared→Prop} {s:Shared} {Q:Value→Shared→Prop} {a:Addr} {o:Obj}
theorem aKn (hx:s.heap.get? a=some o) (hc:o.cls=.type "function") (h:Q (.bool false) { s with toks:=s.toks+1 }):wpAny (model prog w) A (call (.builtin "isinstance") [.ref a,.type "int"]) Q E s:=
 call_isinstance (rD (by decide) F.isi_meta_int IfF.sub_int) ⟨⟨o,hx,hc⟩,h⟩
theorem aIu (hx:s.heap.get? a=some o) (hc:o.cls=.type "function") (h:Q (.bool false) { s with toks:=s.toks+1 }):wpAny (model prog w) A (call (.builtin "isinstance") [.ref a,.type "bool"]) Q E s:=
 call_isinstance (rD (by decide) F.isi_meta_bool IfF.sub_bool) ⟨⟨o,hx,hc⟩,h⟩
theorem aK0 (hx:s.heap.get? a=some o) (hc:o.cls=.type "function") (h:Q (.bool false) { s with toks:=s.toks+1 }):wpAny (model prog w) A (call (.builtin "isinstance") [.ref a,.type "str"]) Q E s:=
 call_isinstance (rD (by decide) F.isi_meta_str IfF.aUq) ⟨⟨o,hx,hc⟩,h⟩
end
end PySem
namespace L2
open PySem PySem.Spec PyProof.Rows
section
variable {X:Cx}
theorem PE.imp {e:Expr} {t t':TE} (h:PE X e t) (k:∀σ H Q,t' σ H Q→t σ H Q):PE X e t':=fun pins s σ H Q I q=>h pins s σ H Q I (k σ H Q q)
def bAx (K:PySem.W.Frag):List V→Hp→VK→Prop:=fun xs H Q=>∃(p:Addr) (bs:List Bool),xs=[.ref p]∧SqL K H p (bs.map V.bl)∧Q (.bl (bs.all id)) H
theorem all_range (bs:List Bool):(List.range bs.length).all (fun i=>bs.getD i false)=bs.all id:=by
 rw [Bool.eq_iff_iff,List.all_eq_true,List.all_eq_true]
 constructor
 ·intro h b hb
  obtain ⟨i,hi,e⟩:=List.mem_iff_getElem.mp hb
  have:=h i (List.mem_range.mpr hi)
  rw [List.getD_eq_getElem?_getD,List.getElem?_eq_getElem hi] at this
  rw [←e]
  exact this
 ·intro h i hi
  have hi:=List.mem_range.mp hi
  rw [List.getD_eq_getElem?_getD,List.getElem?_eq_getElem hi]
  exact h _ (List.getElem_mem hi)
theorem nM (hc:X.calm=true):cY X (.builtin "all") (bAx X.K):=by
 intro pins s σ H xs us Q I r h
 obtain ⟨p,bs,rfl,hq,q⟩:=h
 obtain ⟨u,rfl,rx⟩:=r.one
 cases rx
 obtain ⟨its,rv,pl,hz⟩:=I.list hq
 have hl:=rv.length
 rw [List.length_map] at hl
 have hne:p≠s.heap.objs.size:=by
  obtain ⟨o,ho,_⟩:=pl.isList
  exact Nat.ne_of_lt (Heap.lt_size ho)
 refine call_all_walk (wpAny_pyIter_list pl.isList ?_)
 refine ⟨s.heap.objs.size,_,_,_,_,_,fun i=>bs.getD i false,rfl,Walks.list (show X.A.in1.handled=none from I.ok.hd hc) _ p hne its.toArray,⟨⟨_,Heap.get?_push_size _ rfl,rfl,rfl⟩,?_⟩,?_,fun h' tk kp=>?_⟩
 ·exact pl.isList.at fun o e=>Heap.get?_push_of_some _ e
 ·intro i v s' Q' E' hv hq'
  have hv':its[i]?=some v:=by simpa using hv
  have hi:i<bs.length:=by rw [hl];exact (List.getElem?_eq_some_iff.mp hv').1
  obtain ⟨u,hu,ru⟩:=rv.get (i:=i) (x:=.bl bs[i]) (by rw [List.getElem?_map,List.getElem?_eq_getElem hi];rfl)
  rw [hv'] at hu
  cases hu
  cases ru
  have e:bs.getD i false=bs[i]:=by rw [List.getD_eq_getElem?_getD,List.getElem?_eq_getElem hi];rfl
  replace hq':Q' (bs.getD i false) s':=hq'
  rw [e] at hq'
  exact wpAny_truthy_bool hq'
 ·have e:(List.range its.toArray.size).all (fun i=>bs.getD i false)=bs.all id:=by
   rw [List.size_toArray,←hl];exact all_range bs
  rw [e]
  refine ⟨.bl (bs.all id),H,?_,rfl,q⟩
  exact I.kept fun b o eo=>kp b o (by
   intro z
   have:b=s.heap.objs.size:=by simpa using z
   rw [this] at eo
   exact absurd (Heap.lt_size eo) (Nat.lt_irrefl _)) (Heap.get?_push_of_some _ eo)
inductive Rk (K:PySem.W.Frag) (H:Hp):V→String→Prop
 |non:Rk K H .non "NoneType"
 |lst {a xs}:SqL K H a xs→Rk K H (.ref a) "list"
 |tup {a xs}:SqT K H a xs→Rk K H (.ref a) "tuple"
 |dct {a kvs}:H a=some (.dK kvs)→Rk K H (.ref a) "dict"
 |fn {a o}:K.lookup a=some o→o.cls=.type "function"→Rk K H (.ref a) "function"
def aVw (K:PySem.W.Frag):List V→Hp→VK→Prop:=fun xs H Q=>∃x k T,xs=[x,.ty T]∧Rk K H x k∧(T = "int"∨T = "bool"∨T = "str")∧Q (.bl false) H
theorem tV:cY X (.builtin "isinstance") (aVw X.K):=by
 intro pins s σ H xs us Q I r h
 obtain ⟨x,k,T,rfl,hx,hT,q⟩:=h
 obtain ⟨u,v,rfl,rx,rT⟩:=r.two
 cases rT
 have f1:EP X pins σ Q (.bool false) { s with toks:=s.toks+1 }:=⟨.bl _,H,I.tok _,rfl,q⟩
 cases hx with
 |non=>
  cases rx
  rcases hT with rfl|rfl|rfl
  ·exact IsiPair.NoneType_int f1
  ·exact IsiPair.NoneType_bool f1
  ·exact IsiPair.NoneType_str f1
 |lst hq=>
  cases rx
  obtain ⟨its,rv,⟨o,n,e,c,_⟩,hz⟩:=I.list hq
  rcases hT with rfl|rfl|rfl
  ·exact IsiPair.list_int e c f1
  ·exact IsiPair.list_bool e c f1
  ·exact IsiPair.list_str e c f1
 |tup hq=>
  cases rx
  obtain ⟨its,rv,⟨o,e,c,_⟩,hz⟩:=I.tuple hq
  rcases hT with rfl|rfl|rfl
  ·exact IsiPair.tuple_int e c f1
  ·exact IsiPair.tuple_bool e c f1
  ·exact IsiPair.tuple_str e c f1
 |dct hq=>
  cases rx
  obtain ⟨_,_,_,_,o,_,_,e,ex,_⟩:=I.hok _ _ hq
  rcases hT with rfl|rfl|rfl
  ·exact IsiPair.dict_int e ex.1 f1
  ·exact IsiPair.dict_bool e ex.1 f1
  ·exact IsiPair.dict_str e ex.1 f1
 |fn hk hc=>
  cases rx
  have e:=I.kIn _ _ hk
  rcases hT with rfl|rfl|rfl
  ·exact aKn e hc f1
  ·exact aIu e hc f1
  ·exact aK0 e hc f1
end
theorem dZ {X:Cx} {scope:Scope} (h:∀z∈scope.names,z.2≠.free):∀y,(y,NameKind.free)∈scope.names→X.env.kindOf y=some .cell∨X.env.kindOf y=some .free:=fun y hy=>absurd rfl (h _ hy)
theorem cV {X:Cx} {scope:Scope} (sc:Scope) (e:X.env.scope=sc) (h:∀z∈scope.names,z.2=.free→sc.names.lookup z.1=some .cell∨sc.names.lookup z.1=some .free) :
  ∀y,(y,NameKind.free)∈scope.names→X.env.kindOf y=some .cell∨X.env.kindOf y=some .free:=fun y hy=>by
 show X.env.scope.names.lookup y=some .cell∨X.env.scope.names.lookup y=some .free
 rw [e]
 exact h _ hy rfl
theorem Same.aK {K:PySem.W.Frag} {H H':Hp} {a:Addr} {xs:List V} (e:Same H H') (h:SqT K H a xs):SqT K H' a xs:=by
 rcases h with (h|⟨o,h⟩)|h
 ·exact .inl (.inl (e _ _ h))
 ·exact .inl (.inr ⟨o,e _ _ h⟩)
 ·exact .inr h
theorem bM {H:Hp} {p:Addr} (h:H p=none) (o:HO):Same H (upd H p o):=fun b u q=>by rw [bH (bD q h)];exact q
theorem Rk.same {K:PySem.W.Frag} {H H':Hp} {v:V} {k:String} (e:Same H H') (h:Rk K H v k):Rk K H' v k:=by
 cases h with
 |non=>exact .non
 |lst q=>exact .lst (e.seq q)
 |tup q=>exact .tup (e.aK q)
 |dct q=>exact .dct (e _ _ q)
 |fn q c=>exact .fn q c
theorem mX {X:Cx} {scope:Scope} {x:Str} {σ:St}:Cap X scope [x] σ [none]:=⟨rfl,fun i y v _ h2=>by
 cases i with
 |zero=>cases h2
 |succ i=>cases h2⟩
section
theorem aOo {X:Cx} {scope:Scope} {N:List Str} {wi:TI} {te:TE} {σ:St} {H:Hp} {Q:VK} (xs:List V) (f:V→V) (σ0:St) (cap:Cap X scope N σ σ0) (hsz:xs.length≤sizeLine)
  (hw:∀R:It→Hp→Prop,(∀J:It,(∀H' i x,Same H H'→xs[i]?=some x→J.go i H'∧∀y H2,J.yld i H' y H2→H2=H'∧y=x)→(∀H',Same H H'→J.stop xs.length H')→R J H)→wi σ H R)
  (he:∀x∈xs,∀H' R l,Same H H'→R (f x) H'→te ((σ0.set 0 l).set 0 (some x)) H' R) (h0:σ0[0]?=some none)
  (q:∀D,H D=none→Q (.ref D) (upd H D (.lst (xs.map f)))) :
  iQ X scope N wi (bO 0) pD te σ H Q:=by
 refine ⟨σ0,cap,hw _ fun J go stop D hD=>?_⟩
 have sm:∀ys:List V,Same H (upd H D (.lst ys)):=fun ys b o e=>by rw [bH (bD e hD)];exact e
 refine ⟨fun i m σ' H' ys=>i≤xs.length∧m=xs.length - i∧(∃l,σ'=σ0.set 0 l)∧H'=upd H D (.lst ys)∧ys=(xs.take i).map f,⟨xs.length,Nat.zero_le _,rfl,⟨none,?_⟩,rfl,rfl⟩,?_⟩
 ·refine (List.ext_getElem? fun j=>?_)
  rw [List.getElem?_set]
  split
  ·rename_i hj
   subst hj
   split
   ·exact h0
   ·rename_i hlt
    exact List.getElem?_eq_none_iff.mpr (by lia)
  ·rfl
 ·rintro i m σ' H' ys ⟨hi,rfl,⟨l,rfl⟩,rfl,rfl⟩
  refine ⟨aQ,?_⟩
  by_cases hlt:i<xs.length
  ·right
   obtain ⟨g1,g2⟩:=go (upd H D (.lst ((xs.take i).map f))) i xs[i] (sm _) (List.getElem?_eq_getElem hlt)
   refine ⟨g1,fun x H2 hy=>?_⟩
   obtain ⟨rfl,rfl⟩:=g2 x H2 hy
   unfold bO pD
   dsimp only
   rw [if_pos rfl]
   refine he xs[i] (List.getElem_mem hlt) _ _ l (sm _) ⟨aQ,?_,xs.length - (i+1),by lia,hlt,rfl,⟨some xs[i],?_⟩,?_,?_⟩
   ·rw [List.length_map,List.length_take];lia
   ·rw [List.set_set]
   ·rw [aUm]
   ·rw [List.take_add_one,List.getElem?_eq_getElem hlt,List.map_append]
    rfl
  ·left
   have e:i=xs.length:=by lia
   subst e
   refine ⟨stop _ (sm _),?_⟩
   rw [List.take_length]
   exact q D hD
theorem aYr {z:Str} {tl:TE} {σ:St} {H:Hp} (h:∀R:VK,R (.str z) H→tl σ H R) (R:It→Hp→Prop)
  (q:∀J:It,(∀H' i x,Same H H'→((List.range z.cps.size).map fun i=>V.str (sgn z i))[i]?=some x→J.go i H'∧∀y H2,J.yld i H' y H2→H2=H'∧y=x) →
   (∀H',Same H H'→J.stop ((List.range z.cps.size).map fun i=>V.str (sgn z i)).length H')→R J H):aXv tl σ H R:=by
 refine h _ ⟨z,rfl,q _ (fun H' i x _ e=>?_) fun H' _=>?_⟩
 ·rw [List.getElem?_map] at e
  have hi:i<z.cps.size:=by
   cases hr:(List.range z.cps.size)[i]? with
   |none=>rw [hr] at e;cases e
   |some j=>have:=(List.getElem?_eq_some_iff.mp hr).1;rwa [List.length_range] at this
  rw [List.getElem?_range hi] at e
  cases e
  exact ⟨hi,fun y H2 hy=>hy⟩
 ·rw [List.length_map,List.length_range]
  exact Nat.le_refl _
theorem uF {K:PySem.W.Frag} {a:Addr} {xs:List V} {tl:TE} {σ:St} {H:Hp} (hS:∀H',Same H H'→SqL K H' a xs) (h:∀R:VK,R (.ref a) H→tl σ H R) (R:It→Hp→Prop)
  (q:∀J:It,(∀H' i x,Same H H'→xs[i]?=some x→J.go i H'∧∀y H2,J.yld i H' y H2→H2=H'∧y=x)→(∀H',Same H H'→J.stop xs.length H')→R J H):rG K tl σ H R:=by
 refine h _ ⟨a,rfl,⟨xs,hS H (Same.refl H)⟩,q _ (fun H' i x s e=>⟨⟨xs,x,hS H' s,e⟩,fun y H2 hy=>?_⟩) fun H' s=>⟨xs,hS H' s,Nat.le_refl _⟩⟩
 obtain ⟨e1,e2⟩:=hy
 have e3:=e2 xs (hS H' s)
 rw [e] at e3
 cases e3
 exact ⟨e1,rfl⟩
end
section
variable {κ:Type} [DecidableEq κ]
def mU (kvs:List (κ × V)) (k:κ):Option V:=(kvs.find? fun kv=>decide (kv.1=k)).map (·.2)
def putK (kvs:List (κ × V)) (k:κ) (v:V):List (κ × V):=
 if (kvs.any fun kv=>decide (kv.1=k))=true then kvs.map (fun kv=>if kv.1=k then (kv.1,v) else kv) else kvs++[(k,v)]
theorem tL {p:κ × V} {r:List (κ × V)} {k:κ} (e:p.1=k):mU (p::r) k=some p.2:=by simp [mU,List.find?_cons,e]
theorem sW {p:κ × V} {r:List (κ × V)} {k:κ} (e:¬ p.1=k):mU (p::r) k=mU r k:=by simp [mU,List.find?_cons,e]
theorem wK (k:κ):∀kvs:List (κ × V),(kvs.any fun kv=>decide (kv.1=k))=(mU kvs k).isSome
 |[]=>rfl
 |p::r=>by
  rw [List.any_cons]
  by_cases e:p.1=k
  ·simp only [tL e,decide_eq_true e,Bool.true_or,Option.isSome_some]
  ·rw [sW e,decide_eq_false e,Bool.false_or];exact wK k r
theorem tH (kvs:List (κ × V)) (k:κ) (v:V):(putK kvs k v).length≤kvs.length+1:=by
 unfold putK
 split
 ·rw [List.length_map];lia
 ·rw [List.length_append,List.length_cons,List.length_nil];lia
theorem aSj {kvs:List (κ × V)} {k:κ} (v:V) (h:mU kvs k=none):putK kvs k v=kvs++[(k,v)]:=by
 unfold putK
 rw [wK,h]
 exact if_neg (by decide)
theorem aDm.yP {o:Option V} {u:Option Value} (r:aDm o u):o.isSome=u.isSome:=by
 cases o with
 |none=>cases u with
  |none=>rfl
  |some _=>exact (show False from r).elim
 |some _=>cases u with
  |none=>exact (show False from r).elim
  |some _=>rfl
theorem KV.val {kvs:List (κ × V)} {vs:List (κ × Value)} (r:KV kvs vs) (k:κ):aDm (mU kvs k) (valueAt vs k):=by
 unfold KV at r
 induction r with
 |nil=>exact True.intro
 |@cons p q ps qs h t ih=>
  obtain ⟨h1,h2⟩:=h
  by_cases e:p.1=k
  ·have e':q.1=k:=h1.symm.trans e
   have b:valueAt (q::qs) k=some q.2:=by simp [valueAt,List.find?_cons,e']
   rw [tL e,b];exact h2
  ·have e':¬ q.1=k:=fun z=>e (h1.trans z)
   have b:valueAt (q::qs) k=valueAt qs k:=by simp [valueAt,List.find?_cons,e']
   rw [sW e,b];exact ih
theorem KV.any {kvs:List (κ × V)} {vs:List (κ × Value)} (r:KV kvs vs) (k:κ):(kvs.any fun kv=>decide (kv.1=k))=vs.any fun kv=>decide (kv.1=k):=by
 unfold KV at r
 induction r with
 |nil=>rfl
 |cons h t ih=>rw [List.any_cons,List.any_cons,ih,h.1]
theorem KV.repl {kvs:List (κ × V)} {vs:List (κ × Value)} (r:KV kvs vs) (k:κ) {y:V} {u:Value} (ry:RelV y u) :
  KV (kvs.map fun kv=>if kv.1=k then (kv.1,y) else kv) (vs.map fun kv=>if kv.1=k then (kv.1,u) else kv):=by
 unfold KV at r ⊢
 induction r with
 |nil=>exact .nil
 |@cons p q ps qs h t ih=>
  rw [List.map_cons,List.map_cons]
  refine .cons ?_ ih
  obtain ⟨h1,h2⟩:=h
  by_cases e:p.1=k
  ·rw [if_pos e,if_pos (h1.symm.trans e)];exact ⟨h1,ry⟩
  ·rw [if_neg e,if_neg (fun z=>e (h1.trans z))];exact ⟨h1,h2⟩
theorem KV.put {kvs:List (κ × V)} {vs:List (κ × Value)} (r:KV kvs vs) (k:κ) {y:V} {u:Value} (ry:RelV y u):KV (putK kvs k y) (stored vs k u):=by
 unfold putK stored
 rw [r.any k]
 by_cases e:(vs.any fun kv=>decide (kv.1=k))=true
 ·rw [if_pos e,if_pos e];exact r.repl k ry
 ·rw [if_neg e,if_neg e];exact Paired.snoc r ⟨rfl,ry⟩
theorem KV.keys {kvs:List (κ × V)} {vs:List (κ × Value)} (r:KV kvs vs):kvs.map (·.1)=vs.map (·.1):=by
 unfold KV at r
 induction r with
 |nil=>rfl
 |cons h t ih=>rw [List.map_cons,List.map_cons,ih,h.1]
theorem KV.length {kvs:List (κ × V)} {vs:List (κ × Value)} (r:KV kvs vs):kvs.length=vs.length:=Paired.length r
end
theorem aBy {P:Program} {w:World} {k:Key} {u:Value} (r:RelV (kV k) u):(cN P w).is k u=true:=by
 cases k with
 |inl i=>obtain ⟨t,e⟩:=(show ∃t,u=Value.int i t from r);subst e;exact aJu P w i t
 |inr x=>obtain ⟨t,e⟩:=(show ∃t,u=Value.str x t from r);subst e;exact aJp P w x t
theorem aEg {P:Program} {w:World}:∀{ks:List Key} {us:List Value},Vals (ks.map kV) us→ItemsAre (cN P w) ks us
 |[],_,r=>by rw [List.map_nil] at r;cases r;exact .nil
 |k::ks,_,r=>by
  rw [List.map_cons] at r
  cases r with
  |cons h t=>exact .cons (aBy h) (aEg t)
abbrev KT (H:Hp):List (List Key × V)→List (List Key × Addr × Value)→Prop:=Paired fun p q=>p.1=q.1∧H q.2.1=some (.tup (p.1.map kV))∧RelV p.2 q.2.2
theorem KT.val {H:Hp} {kvs:List (List Key × V)} {xs:List (List Key × Addr × Value)} (r:KT H kvs xs) (k:List Key):aDm (mU kvs k) ((atKey xs k).map (·.2)):=by
 induction r with
 |nil=>exact True.intro
 |@cons p q ps qs h t ih=>
  obtain ⟨h1,_,h2⟩:=h
  by_cases e:p.1=k
  ·have e':q.1=k:=h1.symm.trans e
   have b:atKey (q::qs) k=some q.2:=by simp [atKey,List.find?_cons,e']
   rw [tL e,b];exact h2
  ·have e':¬ q.1=k:=fun z=>e (h1.trans z)
   have b:atKey (q::qs) k=atKey qs k:=by simp [atKey,List.find?_cons,e']
   rw [sW e,b];exact ih
theorem KT.repl {H:Hp} {kvs:List (List Key × V)} {xs:List (List Key × Addr × Value)} (r:KT H kvs xs) (k:List Key) {y:V} {u:Value} (ry:RelV y u) :
  KT H (kvs.map fun kv=>if kv.1=k then (kv.1,y) else kv) (xs.map (putAt k u)):=by
 induction r with
 |nil=>exact .nil
 |@cons p q ps qs h t ih=>
  rw [List.map_cons,List.map_cons]
  refine .cons ?_ ih
  obtain ⟨h1,h2,h3⟩:=h
  unfold putAt
  by_cases e:p.1=k
  ·rw [if_pos e,if_pos (h1.symm.trans e)];exact ⟨h1,h2,ry⟩
  ·rw [if_neg e,if_neg (fun z=>e (h1.trans z))];exact ⟨h1,h2,h3⟩
theorem KT.put {H:Hp} {kvs:List (List Key × V)} {xs:List (List Key × Addr × Value)} (r:KT H kvs xs) (k:List Key) {b:Addr} {y:V} {u:Value} (hb:H b=some (.tup (k.map kV))) (ry:RelV y u) :
  KT H (putK kvs k y) (storedH xs k b u):=by
 have e:(kvs.any fun kv=>decide (kv.1=k))=(atKey xs k).isSome:=by
  rw [wK,(r.val k).yP,Option.isSome_map]
 unfold putK storedH
 rw [e]
 by_cases q:(atKey xs k).isSome=true
 ·rw [if_pos q,if_pos q];exact r.repl k ry
 ·rw [if_neg q,if_neg q];exact Paired.snoc r ⟨rfl,hb,ry⟩
theorem KT.keeps {H H':Hp} {kvs:List (List Key × V)} {xs:List (List Key × Addr × Value)} (r:KT H kvs xs) (ht:∀b ys,H b=some (.tup ys)→H' b=some (.tup ys)):KT H' kvs xs:=
 Paired.aYt r fun _ _ z=>⟨z.1,ht _ _ z.2.1,z.2.2⟩
section
variable {P:Program} {w:World} {H:Hp} {h:Heap} {a:Addr}
theorem aWd {u:HO} (ok:HOk P w H h) (e:Rd H a u):iM P w H h a u:=e.ok ok
theorem aD8 {kvs:List (Key × V)} (ok:HOk P w H h) (e:Rd H a (.dK kvs)):kvs.length≤sizeLine∧(a == sysModules)=false∧∃vs,KV kvs vs∧h.DictOf (cN P w) a vs:=
 show iM P w H h a (.dK kvs) from aWd ok e
theorem aD1 {kvs:List (Key × V)} (ok:HOk P w H h) (e:H a=some (.dK kvs)):kvs.length≤sizeLine∧(a == sysModules)=false∧∃vs,KV kvs vs∧h.DictOf (cN P w) a vs:=aD8 ok (.inl e)
theorem aGm {ks:List Key} (ok:HOk P w H h) (e:H a=some (.tup (ks.map kV))):(tupleKind (cN P w)).is h ks a:=by
 obtain ⟨_,its,r,⟨o,h1,h2,n,h3⟩,_⟩:=(show iM P w H h a (.tup (ks.map kV)) from ok a _ e)
 exact ⟨o,its.toArray,n,h1,h2,h3,by simpa using aEg r⟩
theorem aNu {kvs:List (List Key × V)} (ok:HOk P w H h) (e:Rd H a (.dT kvs)):kvs.length≤sizeLine∧(a == sysModules)=false ∧
  ∃xs,KT H kvs xs∧h.DictOfH (tupleKind (cN P w)) a xs:=by
 obtain ⟨z,y,xs,r,o,es,ep,h1,h2,h3,h4,h5⟩:=(show iM P w H h a (.dT kvs) from aWd ok e)
 refine ⟨z,y,xs,r,o,es,ep,h1,h2,h3,h4,fun x hx=>?_,h5⟩
 have all:∀{l:List (List Key × V)} {m:List (List Key × Addr × Value)},KT H l m→∀x∈m,(tupleKind (cN P w)).is h x.1 x.2.1:=by
  intro l m q
  induction q with
  |nil=>intro x hx;exact nomatch hx
  |@cons p q ps qs hq t ih=>
   intro x hx
   rcases List.mem_cons.mp hx with e|hx
   ·subst e
    exact aGm ok (by rw [←hq.1];exact hq.2.1)
   ·exact ih x hx
 exact all r x hx
theorem aZr {kvs:List (List Key × V)} (ok:HOk P w H h) (e:H a=some (.dT kvs)):kvs.length≤sizeLine∧(a == sysModules)=false ∧
  ∃xs,KT H kvs xs∧h.DictOfH (tupleKind (cN P w)) a xs:=aNu ok (.inl e)
end
def rJ (H:Hp) (a:Addr) (y:V) (r:Option V):Prop:=
 (∃kvs k,Rd H a (.dK kvs)∧y=kV k∧r=mU kvs k)∨∃kvs k b,Rd H a (.dT kvs)∧y=.ref b∧H b=some (.tup (k.map kV))∧r=mU kvs k
def aTr (H:Hp) (a:Addr) (y v:V) (H':Hp):Prop:=
 (∃kvs k,H a=some (.dK kvs)∧y=kV k∧kvs.length<sizeLine∧H'=upd H a (.dK (putK kvs k v))) ∨
 ∃kvs k b,H a=some (.dT kvs)∧y=.ref b∧H b=some (.tup (k.map kV))∧kvs.length<sizeLine∧H'=upd H a (.dT (putK kvs k v))
theorem rJ.k {H:Hp} {a:Addr} {kvs:List (Key × V)} {k:Key} (e:H a=some (.dK kvs)):rJ H a (kV k) (mU kvs k):=.inl ⟨kvs,k,.inl e,rfl,rfl⟩
theorem aTr.k {H:Hp} {a:Addr} {kvs:List (Key × V)} {k:Key} {v:V} (e:H a=some (.dK kvs)) (hl:kvs.length<sizeLine):aTr H a (kV k) v (upd H a (.dK (putK kvs k v))):=.inl ⟨kvs,k,e,rfl,hl,rfl⟩
section
variable {X:Cx} {pins:List (Addr × Obj)} {σ:St} {H:Hp} {s:Shared} {a:Addr} {y v:V} {u r:Value} {o:Option V} {A:Around} {E:Value→Shared→Prop}
theorem Inv.big (I:Inv X pins σ H s):sysModules<s.heap.objs.size:=by
 have h:mainGlobals<s.heap.objs.size:=(I.mod.glob.keeps I.bk).lt
 exact Nat.lt_trans (by decide) h
theorem aOj {Q:Value→Shared→Prop} (hu:A.units+1<cLine) (I:Inv X pins σ H s) (g:rJ H a y (some v)) (ry:RelV y u) (h:∀w' s',Inv X pins σ H s'→RelV v w'→Q w' s') :
  wpAny (model X.prog X.w) A (getItem (.ref a) u) Q E s:=by
 rcases g with ⟨kvs,k,e,ey,l⟩|⟨kvs,k,b,e,ey,eb,l⟩
 ·subst ey
  obtain ⟨z,hd,vs,rel,dd⟩:=aD8 I.hok e
  obtain ⟨w',hw,rw'⟩:=aDm.some_of (v:=v) (o:=valueAt vs k) (by rw [l];exact rel.val k)
  exact wpAny_getItem_of (aBy ry) dd.mapOf hw (h w' _ (I.tok _) rw')
 ·subst ey
  cases (show u=Value.ref b from ry)
  obtain ⟨z,hd,xs,rel,dd⟩:=aNu I.hok e
  obtain ⟨w',hw,rw'⟩:=aDm.some_of (v:=v) (o:=(atKey xs k).map (·.2)) (by rw [l];exact rel.val k)
  obtain ⟨p,hp,hp2⟩:=Option.map_eq_some_iff.mp hw
  refine wpAny_getItem_heap (tupleKind_room_in1 hu) (aGm I.hok eb) dd hp ?_
  rw [hp2]
  exact h w' _ (I.tok _) rw'
theorem aUc {Q:Value→Shared→Prop} (hu:A.units+1<cLine) (I:Inv X pins σ H s) (g:rJ H a y o) (ry:RelV y u) (h:∀s',Inv X pins σ H s'→Q (.bool (!o.isSome)) s') :
  wpAny (model X.prog X.w) A (compareOp .NotIn u (.ref a)) Q E s:=by
 rcases g with ⟨kvs,k,e,ey,l⟩|⟨kvs,k,b,e,ey,eb,l⟩
 ·subst ey
  obtain ⟨z,hd,vs,rel,dd⟩:=aD8 I.hok e
  refine wpAny_notIn_of (aBy ry) hd dd.mapOf ?_
  rw [←(rel.val k).yP,←l]
  exact h _ (I.tok _)
 ·subst ey
  cases (show u=Value.ref b from ry)
  obtain ⟨z,hd,xs,rel,dd⟩:=aNu I.hok e
  refine wpAny_notIn_heap (tupleKind_room_in1 hu) (aGm I.hok eb) hd dd ?_
  have q:=(rel.val k).yP
  rw [Option.isSome_map] at q
  rw [←q,←l]
  exact h _ (I.tok _)
theorem aHa {h':Heap} {t':Nat} {ob:HO} (I:Inv X pins σ H s) (mu:Mut (H a)) (hs:Heap.SameBut a s.heap h') (he:∃q,h'.get? a=some q) (new:iM X.prog X.w (upd H a ob) h' a ob) :
  Inv X pins σ (upd H a ob) { s with heap:=h',toks:=t' }:=
 I.write (x:=a) (e:=a) mu (.inl rfl) (fun b q hb z=>(hs.2 b hb).trans z) he new
theorem aRa {P:Program} {w:World} {H':Hp} {h':Heap} {kvs:List (Key × V)} {vs:List (Key × Value)} (z:kvs.length≤sizeLine) (hd:(a == sysModules)=false) (rel:KV kvs vs) (dd:h'.DictOf (cN P w) a vs) :
  iM P w H' h' a (.dK kvs):=⟨z,hd,vs,rel,dd⟩
theorem aOx {H':Hp} {Q:Unit→Shared→Prop} (hu:A.units+1<cLine) (I:Inv X pins σ H s) (g:aTr H a y v H') (ry:RelV y u) (rv:RelV v r) (h:∀s',Inv X pins σ H' s'→Q () s') :
  wpAny (model X.prog X.w) A (setItem (.ref a) u r) Q E s:=by
 rcases g with ⟨kvs,k,e,ey,l,eH⟩|⟨kvs,k,b,e,ey,eb,l,eH⟩
 ·subst ey eH
  obtain ⟨z,hd,vs,rel,dd⟩:=aD1 I.hok e
  have hz:vs.length≤sizeLine:=by rw [←rel.length];exact z
  have hl:(putK kvs k v).length≤sizeLine:=by have:=tH kvs k v;lia
  refine wpAny_setItem_pairs (hsz:=hz) (aBy ry) dd fun h' dd' hs=>h _ ?_
  have he:∃q,h'.get? a=some q:=let ⟨q,_,_,hq,_⟩:=dd';⟨q,hq⟩
  exact aHa I (by rw [e];exact True.intro) hs he (aRa hl hd (rel.put k rv) dd')
 ·subst ey eH
  cases (show u=Value.ref b from ry)
  obtain ⟨z,hd,xs,rel,dd⟩:=aZr I.hok e
  have hz:xs.length≤sizeLine:=by rw [←Paired.length rel];exact z
  have hl:(putK kvs k v).length≤sizeLine:=by have:=tH kvs k v;lia
  refine wpAny_setItem_heap (hsz:=hz) (tupleKind_room_in1 hu) (aGm I.hok eb) dd fun h' dd' hs=>h _ ?_
  obtain ⟨q,es,ep,hq,h2,h3,h4,_,h5⟩:=dd'
  refine aHa I (by rw [e];exact True.intro) hs ⟨q,hq⟩ ⟨hl,hd,_,(rel.put k eb rv).keeps fun c ys ec=>?_,q,es,ep,hq,h2,h3,h4,h5⟩
  rw [bH (wV ec e (fun z=>nomatch z))]
  exact ec
end
section
variable {X:Cx} {pins:List (Addr × Obj)} {σ:St} {H:Hp} {s:Shared} {a:Addr} {kvs:List (Key × V)} {k:Key} {u:Value} {A:Around} {E:Value→Shared→Prop}
theorem aZq {Q:Value→Shared→Prop} (I:Inv X pins σ H s) (e:Rd H a (.dK kvs)) (h:∀t s',Inv X pins σ H s'→Q (.int kvs.length t) s'):wpAny (model X.prog X.w) A (call (.builtin "len") [.ref a]) Q E s:=by
 obtain ⟨z,hd,vs,rel,dd⟩:=aD8 I.hok e
 refine call_len_dict hd dd (by rw [←rel.length];rw [sizeLine_eq] at z;lia) ?_
 rw [←rel.length]
 exact h _ _ (I.tok _)
end
def aXc (i:Expr):Prop:=∀ov iv,subscripted i false ov iv=operate [ov,iv] (getItem ov iv)
theorem aUy {prog:Program} {w:World} {A:Around} {E:Value→Shared→Prop} {s:Shared} {env:Env} {value slice:Expr} {pos:Pos} {T id:String} {Q:Value→Shared→Prop}
  (hl:typeLookup (.type T) "__getitem__"=pure (some (.builtin id))) (hs:aXc slice)
  (h:wpAny (model prog w) A (eval value env) (fun o s₁=>wpAny (model prog w) A (eval slice env) (fun i s₂=>s₂.TypeIs o T∧wpAny (model prog w) A (getItem o i) Q E s₂) E s₁) E s) :
  wpAny (model prog w) A (eval (.Subscript value slice pos) env) Q E s:=by
 refine Subscript_ (wpAny_mono h (fun o s₁ h₁=>wpAny_mono h₁ (fun i s₂ h₂=>?_) fun _ _ x=>x) fun _ _ x=>x)
 obtain ⟨hT,h₂⟩:=h₂
 unfold subscriptTail
 refine wpAny_bind ?_
 rw [getitemInPython_of_ne hT.not_modules]
 refine wpAny_bind (wpAny_specialOf hT hl ?_)
 have fin:wpAny (model prog w) A (subscripted slice false o i) (fun r s₃=>wpAny (model prog w) A (letTemporaryGo value o r >>= fun _=>pure r) Q E s₃) E s₂:=by
  rw [hs o i]
  exact wpAny_operating (wpAny_mono h₂ (fun r s₃ h₃=>wpAny_bind (wpAny_letTemporaryGo (wpAny_pure h₃))) fun _ _ x=>x)
 first
  |exact wpAny_pure (wpAny_bind fin)
  |exact wpAny_bind (wpAny_pure (wpAny_bind fin))
  |exact wpAny_bind fin
theorem aJz {X:Cx} {pins:List (Addr × Obj)} {σ:St} {H:Hp} {s:Shared} {a:Addr} {y:V} {o:Option V} (I:Inv X pins σ H s) (g:rJ H a y o):s.TypeIs (.ref a) "dict":=by
 rcases g with ⟨kvs,k,e,_,_⟩|⟨kvs,k,b,e,_,_,_⟩
 ·obtain ⟨_,_,vs,_,dd⟩:=aD8 I.hok e
  exact dd.typeIs
 ·obtain ⟨_,_,xs,_,dd⟩:=aNu I.hok e
  exact dd.typeIs
def aWj (td ty:TE):TE:=fun σ H Q=>td σ H fun x H1=>ty σ H1 fun y H2=>∃a v,x=.ref a∧rJ H2 a y (some v)∧Q v H2
def aNb (ty td:TE):TE:=fun σ H Q=>ty σ H fun y H1=>td σ H1 fun x H2=>∃a o,x=.ref a∧rJ H2 a y o∧Q (.bl (!o.isSome)) H2
def aWg (td ty tv:TE):TS:=fun D σ H=>tv σ H fun v H1=>td σ H1 fun x H2=>ty σ H2 fun y H3=>∃a H4,x=.ref a∧aTr H3 a y v H4∧D.nx σ H4
section
variable {X:Cx} {o i e value:Expr} {pos pos' tpos:Pos} {td ty tv:TE}
theorem aT2 (hu:X.A.units+1<cLine) (ho:PE X o td) (hi:PE X i ty) (hs:aXc i):PE X (.Subscript o i pos) (aWj td ty):=by
 intro pins s σ H Q I h
 refine aUy PySem.F.slot_dict_getitem.lookup hs (thn (ho pins s σ H _ I h) fun u s1 ⟨x,H1,I1,rx,q1⟩=>thn (hi pins s1 σ H1 _ I1 q1) fun iv s2 ⟨y,H2,I2,ry,a,v,ex,g,q2⟩=>?_)
 subst ex
 obtain rfl:u=Value.ref a:=rx
 exact ⟨aJz I2 g,aOj hu I2 g ry fun w' s3 I3 rw'=>⟨v,H2,I3,rw',q2⟩⟩
theorem aOy (hu:X.A.units+1<cLine) (hi:PE X i ty) (ho:PE X o td):PC X .NotIn i o (aNb ty td):=by
 intro pins s σ H Q I h
 refine thn (hi pins s σ H _ I h) fun iv s1 ⟨y,H1,I1,ry,q1⟩=>thn (ho pins s1 σ H1 _ I1 q1) fun u s2 ⟨x,H2,I2,rx,a,ov,ex,g,q2⟩=>?_
 subst ex
 obtain rfl:u=Value.ref a:=rx
 exact aUc hu I2 g ry fun s3 I3=>⟨.bl (!ov.isSome),H2,I3,rfl,q2⟩
theorem aVa (hu:X.A.units+1<cLine) (ho:PE X o td) (hi:PE X i ty) (hv:PE X value tv) (hs:swapsWith value (some (.Subscript o i pos')) pos.line X.env=pure false) :
  PS X (.Assign [.Subscript o i pos'] value pos) (aWg td ty tv):=by
 intro pins s σ H D I h
 refine wpAny_Assign_Subscript (thn (hv pins s σ H _ I h) fun r s1 ⟨v,H1,I1,rv,q1⟩=>thn (ho pins s1 σ H1 _ I1 q1) fun u s2 ⟨x,H2,I2,rx,q2⟩=>thn (hi pins s2 σ H2 _ I2 q2) fun iv s3 ⟨y,H3,I3,ry,a,H4,ex,g,q3⟩=>?_) hs
 subst ex
 obtain rfl:u=Value.ref a:=rx
 exact aOx hu I3 g ry rv fun s4 I4=>⟨σ,H4,I4,q3⟩
end
theorem aKb {P:Program} {w:World} {H:Hp} (h:Heap) (hb:sysModules<h.objs.size):iM P w H (h.push { cls:=.type "dict",data:=.dict #[] }) h.objs.size (.dK []):=
 ⟨Nat.zero_le _,beq_eq_false_iff_ne.mpr (Ne.symm (Nat.ne_of_lt hb)),[],.nil,Heap.DictOf.new h⟩
def aQn:TE:=fun _ H Q=>∀p,H p=none→Q (.ref p) (upd H p (.dK []))
section
variable {X:Cx} {pos:Pos}
theorem aS6:PE X (.Dict [] [] pos) aQn:=fun pins s σ H Q I h=>
 wpAny_Dict_empty ⟨.ref s.heap.objs.size,_,I.laid (a:=s.heap.objs.size) (o:=.dK []) (t':=s.toks) (fun _ _ q=>Heap.get?_push_of_some _ q) (Nat.le_refl _) (aKb s.heap I.big),rfl,h _ (I.hok.fresh (Nat.le_refl _))⟩
end
def aL3:List (TE × TE)→St→Hp→(List (V × V)→Hp→Prop)→Prop
 |[],_,H,Q=>Q [] H
 |(tk,tv)::r,σ,H,Q=>tk σ H fun x H1=>tv σ H1 fun y H2=>aL3 r σ H2 fun ps H3=>Q ((x,y)::ps) H3
abbrev VV:List (V × V)→List (Value × Value)→Prop:=Paired fun p q=>RelV p.1 q.1∧RelV p.2 q.2
def PPs (X:Cx) (pos:Pos) (keys:List (Option Expr)) (values:List Expr) (trs:List (TE × TE)):Prop:=
 ∀(pins:List (Addr × Obj)) (s:Shared) (σ:St) (H:Hp) (Q:List (V × V)→Hp→Prop),Inv X pins σ H s→aL3 trs σ H Q →
  wpAny (model X.prog X.w) X.A (evalPairs (pairTrees keys values X.env pos)) (fun vs s'=>∃ps H',Inv X pins σ H' s'∧VV ps vs∧Q ps H') X.xe s
theorem aVb {X:Cx} {pos:Pos}:PPs X pos [] [] []:=fun pins s σ H Q I h=>pairTrees_nil_walk ⟨[],H,I,.nil,h⟩
theorem aRo {X:Cx} {pos:Pos} {k v:Expr} {ks:List (Option Expr)} {vs:List Expr} {tk tv:TE} {trs:List (TE × TE)} (hk:PE X k tk) (hv:PE X v tv) (hr:PPs X pos ks vs trs) :
  PPs X pos (some k::ks) (v::vs) ((tk,tv)::trs):=fun pins s σ H Q I h=>
 pairTrees_cons_walk (thn (hk pins s σ H _ I h) fun u s1 ⟨x,H1,I1,rx,q1⟩=>thn (hv pins s1 σ H1 _ I1 q1) fun w2 s2 ⟨y,H2,I2,ry,q2⟩=>
  thn (hr pins s2 σ H2 _ I2 q2) fun ws s3 ⟨ps,H3,I3,rel,q3⟩=>⟨(x,y)::ps,H3,I3,.cons ⟨rx,ry⟩ rel,q3⟩)
def kO (kvs more:List (Key × V)):List (Key × V):=more.foldl (fun acc kv=>putK acc kv.1 kv.2) kvs
theorem KV.merge:∀{more:List (Key × V)} {rs:List (Key × Value)} {kvs:List (Key × V)} {vs:List (Key × Value)},KV more rs→KV kvs vs→KV (kO kvs more) (merged vs rs):=by
 intro more rs kvs vs r
 unfold KV at r
 induction r generalizing kvs vs with
 |nil=>intro q;exact q
 |@cons p q ps qs h t ih=>
  intro r0
  have e:KV (putK kvs p.1 p.2) (stored vs q.1 q.2):=by
   have:=r0.put p.1 h.2
   rw [←h.1];exact this
  exact ih e
theorem lJ:∀(more kvs:List (Key × V)),(kO kvs more).length≤kvs.length+more.length
 |[],kvs=>by show kvs.length≤kvs.length+0;lia
 |p::r,kvs=>by
  have h1:=lJ r (putK kvs p.1 p.2)
  have h2:=tH kvs p.1 p.2
  show (kO (putK kvs p.1 p.2) r).length≤_
  rw [List.length_cons];lia
theorem aBq {P:Program} {w:World}:∀{kvs:List (Key × V)} {ws:List (Value × Value)},VV (kvs.map fun kv=>(kV kv.1,kv.2)) ws→∃rs,Carries (cN P w) ws rs∧KV kvs rs
 |[],_,r=>by rw [List.map_nil] at r;cases r;exact ⟨[],True.intro,.nil⟩
 |p::kvs,_,r=>by
  rw [List.map_cons] at r
  cases r with
  |@cons a b as bs h t=>
   obtain ⟨rs,c,q⟩:=aBq (P:=P) (w:=w) t
   obtain ⟨b1,b2⟩:=b
   exact ⟨(p.1,b2)::rs,⟨aBy h.1,rfl,c⟩,.cons ⟨rfl,h.2⟩ q⟩
def aWo (trs:List (TE × TE)):TE:=fun σ H Q=>∀p,H p=none→aL3 trs σ (upd H p (.dK [])) fun ps H2=>H2 p=some (.dK [])∧∃kvs:List (Key × V),ps=kvs.map (fun kv=>(kV kv.1,kv.2))∧kvs.length≤15∧Q (.ref p) (upd H2 p (.dK (kO [] kvs)))
theorem aU8 {X:Cx} {pos:Pos} {keys:List (Option Expr)} {values:List Expr} {trs:List (TE × TE)} (h:PPs X pos keys values trs) (hall:keys.all (·.isSome)=true) (hl:keys.length=values.length) (h0:keys≠[])
  (h15:keys.length≤15):PE X (.Dict keys values pos) (aWo trs):=by
 intro pins s σ H Q I q
 have hn:=I.hok.fresh (Nat.le_refl s.heap.objs.size)
 have I1:=I.laid (a:=s.heap.objs.size) (o:=.dK []) (h':=s.heap.push { cls:=.type "dict",data:=.dict #[] }) (t':=s.toks) (fun _ _ q=>Heap.get?_push_of_some _ q) (Nat.le_refl _) (aKb s.heap I.big)
 refine wpAny_Dict_walk (knd:=cN X.prog X.w) hall hl h0 h15 (thn (h pins _ σ _ _ I1 (q _ hn)) fun ws s2 ⟨ps,H2,I2,rel,e,kvs,ep,lk,q2⟩=>?_)
 subst ep
 obtain ⟨rs,c,rk⟩:=aBq (P:=X.prog) (w:=X.w) rel
 obtain ⟨z,hd,vs0,r0,dd⟩:=aD1 I2.hok e
 cases r0
 refine ⟨rs,c,dd,fun h' dd' hs=>⟨.ref s.heap.objs.size,_,?_,rfl,q2⟩⟩
 have hz:(kO [] kvs).length≤sizeLine:=by
  have h1:=lJ kvs []
  rw [List.length_nil] at h1
  rw [sizeLine_eq];lia
 have he:∃q,h'.get? s.heap.objs.size=some q:=let ⟨q,_,_,hq,_⟩:=dd';⟨q,hq⟩
 exact aHa I2 (by rw [e];exact True.intro) hs he (aRa hz hd (rk.merge .nil) dd')
section
variable {X:Cx} {pins:List (Addr × Obj)} {σ:St} {H:Hp} {s:Shared} {a:Addr} {y d:V} {u r:Value} {o:Option V} {A:Around} {E:Value→Shared→Prop}
end
section
variable {X:Cx} {o e f:Expr} {apos cpos:Pos} {td ty tx:TE}
end
section
variable {X:Cx} {pins:List (Addr × Obj)} {σ:St} {H:Hp} {s:Shared} {a:Addr} {kvs:List (Key × V)} {A:Around} {E:Value→Shared→Prop}
end
section
variable {X:Cx} {pins:List (Addr × Obj)} {σ:St} {H:Hp} {s:Shared} {a:Addr} {y:V} {u:Value} {A:Around} {E:Value→Shared→Prop}
end
section
variable {X:Cx}
theorem aY4:cY X (.builtin "len") (fun xs H Q=>∃a kvs,xs=[V.ref a]∧H a=some (.dK kvs)∧Q (.int kvs.length) H):=by
 intro pins s σ H xs us Q I r h
 obtain ⟨a,kvs,rfl,ha,q⟩:=h
 obtain ⟨u,rfl,ru⟩:=vals1 r
 cases ru
 exact aZq I (.inl ha) fun t s' I'=>⟨.int kvs.length,H,I',⟨t,rfl⟩,q⟩
end
section
variable {κ:Type} [DecidableEq κ]
theorem aU3 {kvs:List (κ × V)} {k:κ} {v:V} (h:mU kvs k=some v):k∈kvs.map (·.1):=by
 have q:(kvs.any fun kv=>decide (kv.1=k))=true:=by
  rw [wK,h]
  all_goals rfl
 obtain ⟨p,hp,e⟩:=List.any_eq_true.mp q
 exact List.mem_map.mpr ⟨p,hp,of_decide_eq_true e⟩
end
structure VE (X:Cx) (e:Expr) (t:TE):Prop where
 out:PE X e t
structure VT (X:Cx) (e:Expr) (t:TT):Prop where
 out:PT X e t
structure VW (X:Cx) (e:Expr) (t:TT):Prop where
 out:PW X e t
structure VA (X:Cx) (es:List Expr) (t:TA):Prop where
 out:PA X es t
structure VS (X:Cx) (st:Stmt) (t:TS):Prop where
 out:PS X st t
structure VSs (X:Cx) (st:List Stmt) (t:TS):Prop where
 out:PSs X st t
structure VI (X:Cx) (tg iter:Expr) (t:TI):Prop where
 out:PI X tg iter t
structure VG (X:Cx) (tg:Expr) (t:TG):Prop where
 out:PG X tg t
structure VGs (X:Cx) (tg:List Expr) (t:TGs):Prop where
 out:PGs X tg t
structure VO (X:Cx) (e:Option Expr) (t:TO):Prop where
 out:PO X e t
structure VF (X:Cx) (ifs:List Expr) (t:TT):Prop where
 out:aSp X ifs t
structure VP (X:Cx) (pos:Pos) (keys:List (Option Expr)) (values:List Expr) (trs:List (TE × TE)):Prop where
 out:PPs X pos keys values trs
section
variable {X:Cx} {a b c e:Expr} {es:List Expr} {ta tb tc te:TE} {t:TA} {tA tB':TT} {pos p:Pos} {x:Str}
theorem vv (i:Nat) {x:Str} {pos:Pos} (hN:X.N[i]?=some x:=by rfl) (hv:Vis X.env.scope x:=by trivial) (hd:(x == ("__debug__":Str))=false:=by decide)
  (hcd:(x == ("__classdict__":Str))=false:=by decide):VE X (.Name x pos) (uR i):=⟨pv i hN hv hd hcd⟩
theorem fY {v:V} (hg:Gl X x) (hm:∃u,X.mg x=some u∧RelV v u) (hd:(x == ("__debug__":Str))=false:=by decide):VE X (.Name x pos) (tC v):=⟨bAc hg hm hd⟩
theorem lH {v:V} {u:Value} (hg:Gl X x) (hm:X.mg x=none) (hv:bootBuiltins x=some u) (r:RelV v u) (hn:x≠"__name__":=by decide) (hd:(x == ("__debug__":Str))=false:=by decide):VE X (.Name x pos) (tC v):=⟨aVi hg hm hv r hn hd⟩
theorem aD {i j}:VE X (.Constant (.int i) j pos) (tC (.int i)):=⟨aYk⟩
theorem uL {b j}:VE X (.Constant (.bool b) j pos) (tC (.bl b)):=⟨aZw⟩
theorem rN {j}:VE X (.Constant .none j pos) (tC .non):=⟨aW0⟩
theorem aO {x j}:VE X (.Constant (.str x) j pos) (tC (.str x)):=⟨aWt⟩
theorem bW {op:Operator} {r:R2} (ho:OpR X (binaryOp op) r) (ha:VE X a ta) (hb:VE X b tb):VE X (.BinOp a op b pos) (tOp r ta tb):=⟨aZp ho ha.1 hb.1⟩
theorem eZ {op:CmpOp} {r:R2} (ho:OpR X (compareOp op) r) (ha:VE X a ta) (hb:VE X b tb) (hm:behindInMarks op b=false):VE X (.Compare a [op] [b] pos) (tOp r ta tb):=⟨aTz ho ha.1 hb.1 hm⟩
theorem aU {op:CmpOp} {r:R2} (ho:OpR X (compareOp op) r) (ha:VE X a ta) (hb:VE X b tb) (hm:behindInMarks op b=false):VT X (.Compare a [op] [b] pos) (aJa (tOp r ta tb)):=⟨aTv ho ha.1 hb.1 hm⟩
theorem aQi {op op':CmpOp} {r r':R2} (ho:OpR X (compareOp op) r) (ho':OpR X (compareOp op') r') (ha:VE X a ta) (hb:VE X b tb) (hc:VE X c tc)
  (hm:lastMarks [op,op'] [b,c]=false:=by with_unfolding_all rfl):VE X (.Compare a [op,op'] [b,c] pos) (aHl r r' ta tb tc):=⟨aQl ho ho' ha.1 hb.1 hc.1 hm⟩
theorem aIe {op op':CmpOp} {r r':R2} (ho:OpR X (compareOp op) r) (ho':OpR X (compareOp op') r') (ha:VE X a ta) (hb:VE X b tb) (hc:VE X c tc)
  (hm:lastMarks [op,op'] [b,c]=false:=by with_unfolding_all rfl):VT X (.Compare a [op,op'] [b,c] pos) (aJa (aHl r r' ta tb tc)):=⟨aRx ho ho' ha.1 hb.1 hc.1 hm⟩
theorem qL {op} (h:VE X a te):VE X (.BoolOp op [a] pos) te:=⟨aXa h.1⟩
theorem pF {rest:List Expr} (ha:VE X a ta) (hb:VE X (.BoolOp .And (b::rest) pos) tb):VE X (.BoolOp .And (a::b::rest) pos) (aWe ta tb):=⟨aXs ha.1 hb.1⟩
theorem aZa {rest:List Expr} (ha:VE X a ta) (hb:VE X (.BoolOp .Or (b::rest) pos) tb):VE X (.BoolOp .Or (a::b::rest) pos) (aZ9 ta tb):=⟨aZ5 ha.1 hb.1⟩
theorem aYx (ha:VE X a ta):VE X (.UnaryOp .Not a pos) (aVx ta):=⟨aWs ha.1⟩
theorem gH (hc:VT X c tA) (ha:VE X a ta) (hb:VE X b tb):VE X (.IfExp c a b pos) (tIf tA ta tb):=⟨aSl hc.1 ha.1 hb.1⟩
theorem aA:VA X [] aK5:=⟨aW1⟩
theorem aB (ha:VE X e te) (hr:VA X es t) (hp:iC e=true:=by rfl):VA X (e::es) (fK te t):=⟨bAn ha.1 hr.1 hp⟩
theorem aJ {k:Nat} {ps:List Str} {sp:Sp} (G:Ok X.prog X.w X.K X.mg X.base k x ps sp) (hr:Room k X.A) (hg:Gl X x) (ha:VA X (e::es) t) (hdb:(x == ("__debug__":Str))=false:=by decide)
  (hp:iC e=true:=by rfl) (hpl:(backTo pos (starEach es X.env)).any (·.1)=false:=by rfl) :
  VE X (.Call (.Name x p) (e::es) [] pos) (uO sp [] E0 t):=⟨aZg G hr hg ha.1 hdb (bV hp) hpl⟩
theorem aW5 {k:Nat} {ps:List Str} {sp:Sp} (G:Ok X.prog X.w X.K X.mg X.base k x ps sp) (hr:Room k X.A) (hg:Gl X x) (hdb:(x == ("__debug__":Str))=false:=by decide) :
  VE X (.Call (.Name x p) [] [] pos) (uO sp [] E0 aK5):=⟨aYs G hr hg hdb⟩
theorem aW {id:String} {r:List V→Hp→VK→Prop} (hc:cY X (.builtin id) r) (hg:Gl X x) (hm:X.mg x=none) (hv:bootBuiltins x=some (.builtin id)) (ha:VA X (e::es) t) (hn:x≠"__name__":=by decide) (hdb:(x == ("__debug__":Str))=false:=by decide)
  (hp:iC e=true:=by rfl) (hpl:(backTo pos (starEach es X.env)).any (·.1)=false:=by rfl):VE X (.Call (.Name x p) (e::es) [] pos) (tCB r t):=⟨aQ4 hc hg hm hv ha.1 hn hdb (bV hp) hpl⟩
theorem bF {T:String} {r:List V→Hp→VK→Prop} (hc:cY X (.type T) r) (hg:Gl X x) (hm:X.mg x=none) (hv:bootBuiltins x=some (.type T)) (ha:VA X (e::es) t) (hn:x≠"__name__":=by decide) (hdb:(x == ("__debug__":Str))=false:=by decide)
  (hp:iC e=true:=by rfl) (hpl:(backTo pos (starEach es X.env)).any (·.1)=false:=by rfl):VE X (.Call (.Name x p) (e::es) [] pos) (tCB r t):=⟨aOp hc hg hm hv ha.1 hn hdb (bV hp) hpl⟩
theorem uN {o:Expr} {to:TE} {name:Str} {apos cpos:Pos} {T id:String} {r:V→List V→Hp→VK→Prop} (pa:PlainAttrs T) (slot:Slot T name id) (hty:typeOf (.builtin id)=pure (.type "method_descriptor")) (hm:MtR X id r) (ho:VE X o to) (ha:VA X (e::es) t)
  (hbase:attributeBase o name X.env (eval o X.env)=eval o X.env:=by rfl)
  (hfew:((backTo cpos (starEach (e::es) X.env)).all (fun x=>!x.1) && (backToKw cpos (keywordEach [] X.env)).all (fun x=>x.1.isSome)
   && decide ((e::es).length+([]:List Keyword).length+(if ([]:List Keyword).isEmpty then 0 else 1)<30))=true:=by rfl)
  (hline:(apos.endLine == cpos.line)=true:=by rfl) (hp:iC e=true:=by rfl) (hplain:(backTo cpos (starEach es X.env)).any (·.1)=false:=by rfl) :
  VE X (.Call (.Attribute o name apos) (e::es) [] cpos) (tBM X.K T r to t):=⟨bAb pa slot hty hm ho.1 ha.1 hbase hfew hline (bV hp) hplain⟩
theorem oV (ha:VE X a ta) (hb:VE X b tb) (hs:aJv b) :
  VE X (.Subscript a b pos) (tOp (fun x y H Q=>∃z i c,x=.str z∧y=.int i∧0≤i∧i<2 ^ 63∧i<z.length∧z.cps[i.toNat]?=some c∧Q (.str ⟨#[c]⟩) H) ta tb):=⟨aJ4 ha.1 hb.1 hs⟩
theorem gU:VO X none aNg:=⟨aVn⟩
theorem eX (h:VE X e te):VO X (some e) (aV2 te):=⟨aUs h.1⟩
theorem dW {r:V→Option Int→Option Int→Hp→VK→Prop} {lo hi:Option Expr} {tl th:TO} {p2:Pos} (hr:SlR X r) (he:VE X e te) (hl:VO X lo tl) (hu:VO X hi th):VE X (.Subscript e (.Slice lo hi none p2) pos) (tSl r te tl th):=⟨aQg hr he.1 hl.1 hu.1⟩
theorem aH {r:R2} (hr:IxR X r) (ha:VE X a ta) (hb:VE X b tb) (hs:aNl b):VE X (.Subscript a b pos) (tOp r ta tb):=⟨aZd hr ha.1 hb.1 hs⟩
theorem aRd:VE X (.Dict [] [] pos) aQn:=⟨aS6⟩
theorem aUw:VP X pos [] [] []:=⟨aVb⟩
theorem aHr {k v:Expr} {ks:List (Option Expr)} {vs:List Expr} {tk tv:TE} {trs:List (TE × TE)} (hk:VE X k tk) (hv:VE X v tv) (hr:VP X pos ks vs trs):VP X pos (some k::ks) (v::vs) ((tk,tv)::trs):=⟨aRo hk.1 hv.1 hr.1⟩
theorem aU7 {keys:List (Option Expr)} {values:List Expr} {trs:List (TE × TE)} (h:VP X pos keys values trs) (hall:keys.all (·.isSome)=true) (hl:keys.length=values.length) (h0:keys≠[]) (h15:keys.length≤15):VE X (.Dict keys values pos) (aWo trs):=⟨aU8 h.1 hall hl h0 h15⟩
theorem VE.imp {t t':TE} (h:VE X e t) (k:∀σ H Q,t' σ H Q→t σ H Q):VE X e t':=⟨PE.imp h.1 k⟩
theorem xR (ha:VT X a tA):VW X (.BoolOp .And [a] pos) tA:=⟨aVq ha.1⟩
theorem pI (ha:VT X a tA):VW X (.BoolOp .Or [a] pos) tA:=⟨aWx ha.1⟩
theorem yZ {rest:List Expr} (ha:VT X a tA) (hb:VW X (.BoolOp .And (b::rest) pos) tB'):VW X (.BoolOp .And (a::b::rest) pos) (aZ8 tA tB'):=⟨aYv ha.1 hb.1⟩
theorem sJ {rest:List Expr} (ha:VT X a tA) (hb:VW X (.BoolOp .Or (b::rest) pos) tB'):VW X (.BoolOp .Or (a::b::rest) pos) (tOr tA tB'):=⟨aZm ha.1 hb.1⟩
theorem VW.pt (h:VW X e tA):VT X e tA:=⟨h.1.pt⟩
theorem jB (ha:VT X a tA):VT X (.UnaryOp .Not a pos) (aZu tA):=⟨aW7 ha.1⟩
theorem fC (h:VE X e te) (he:∀whole,isTrue e X.env whole=(do let v ←whole;standAt e.pos;holding [v] (truthy v)):=by intro _;rfl):VT X e (tB te):=⟨aYp h.1 he⟩
theorem aQr (ha:VE X a ta) (he:∀whole,isTrue a X.env whole=(do let v ←whole;standAt a.pos;holding [v] (truthy v)):=by intro _;rfl) :
  VT X a (fun σ H Q=>ta σ H fun x H'=>∃k,aXm X.K x H' k∧Q k H'):=⟨aTm ha.1 he⟩
variable {st:Stmt} {rest:List Stmt} {u w':TS}
theorem bA:VSs X [] oK:=⟨aT7⟩
theorem aC (h1:VS X st u) (h2:VSs X rest w'):VSs X (st::rest) (gY u w'):=⟨aQ7 h1.1 h2.1⟩
theorem aF (h1:VS X st u):VSs X [st] u:=⟨aUx h1.1⟩
theorem aM (he:VE X e te):VS X (.Return (some e) pos) (aDl te):=⟨aX8 he.1⟩
theorem bR {a b:List Stmt} (hc:VT X c tA) (ha:VSs X a u) (hb:VSs X b w'):VS X (.If c a b pos) (aLd tA u w'):=⟨aZ6 hc.1 ha.1 hb.1⟩
theorem aV {i:Nat} {pos':Pos} (hN:X.N.Nodup) (hi:X.N[i]?=some x) (hx:Loc X.env.scope x) (he:VE X e te) (hs:swapsWith e (some (.Name x pos')) pos.line X.env=pure false:=by rfl) (hf:X.fn x=true∨X.env.scope.names.lookup x=some .local:=by first|exact .inl rfl|exact .inr rfl|assumption) :
  VS X (.Assign [.Name x pos'] e pos) (iU te (bO i)):=⟨aXg hN hi hx he.1 hs hf⟩
theorem eF (he:VE X e te) (hs:swapsWith e none pos.line X.env=pure false:=by rfl):VS X (.Expr e pos) (aM8 te):=⟨aVo he.1 hs⟩
theorem jD {tg iter:Expr} {body:List Stmt} {wi:TI} {g:TG} {tb:TS} (hp:PassesOwn (model X.prog X.w) X.A X.env X.xe) (hc:X.calm=true) (hi:VI X tg iter wi) (hg:VG X tg g) (hb:VSs X body tb)
  (hs:∀x,foldedSetIterable iter X.env x=pure x:=by intro _;rfl):VS X (.For tg iter body [] pos) (aZl wi g tb):=⟨aX0 hp hc hi.1 hg.1 hb.1 hs⟩
theorem aL {i:Nat} (hN:X.N.Nodup) (hi:X.N[i]?=some x) (hx:Loc X.env.scope x) (hf:X.fn x=true∨X.env.scope.names.lookup x=some .local:=by first|exact .inl rfl|exact .inr rfl|assumption):VG X (.Name x pos) (bO i):=⟨aVc hN hi hx hf⟩
theorem cW:VGs X [] aAk:=⟨aT6⟩
theorem bB {t:TG} {u:TGs} (h1:VG X e t) (h2:VGs X es u) (hs:(assignEach (e::es) X.env).map (·.2)=assign e X.env::(assignEach es X.env).map (·.2):=by rfl):VGs X (e::es) (jF t u):=⟨aSm h1.1 h2.1 hs⟩
theorem mG {k:Nat} {t:TGs} {n:Nat} (hc:X.calm=true) (h:VGs X es t) (hn:(assignEach es X.env).length=n:=by rfl) (hst:(assignEach es X.env).findIdx? (·.1)=none:=by rfl):VG X (.Tuple es k pos) (aDa X.K n t):=⟨aX5 hc h.1 hn hst⟩
variable {tg:Expr}
theorem eE (h:VE X e te):VI X tg e (rG X.K te):=⟨aNe h.1⟩
theorem eO (h:VE X e te):VI X tg e (aCx X.K te):=⟨aS9 h.1⟩
theorem aW8 (h:VE X e te):VI X tg e (aXv te):=⟨aXj h.1⟩
theorem fU (hg:Gl X "range") (hm:X.mg "range"=none) (ha:VA X [a] t) (hp:iC a=true:=by rfl):VI X tg (.Call (.Name "range" p) [a] [] pos) (aSe t):=⟨aOn hg hm ha.1 (bV (es:=[]) hp)⟩
theorem cI:VF X [] pD:=⟨aWy⟩
theorem pZ (h:VT X c tA):VF X [c] tA:=⟨aX4 h.1⟩
theorem bZ {elt target iter:Expr} {ifs:List Expr} {scope:Scope} {N:List Str} {wi:TI} {g:TG} {tt:TT}
  (C:zT scope N) (hfr:∀y,(y,NameKind.free)∈scope.names→X.env.kindOf y=some .cell∨X.env.kindOf y=some .free) (hc:X.calm=true)
  (hi:VI X target iter wi)
  (hb:∀cl s H fp,VG (cxC X N scope cl s H fp) target g∧VF (cxC X N scope cl s H fp) ifs tt∧VE (cxC X N scope cl s H fp) elt te)
  (hs:∀x,foldedSetIterable iter X.env x=pure x:=by intro _;rfl) :
  VE X (.ListComp elt [⟨target,iter,ifs,0⟩] scope pos) (iQ X scope N wi g tt te):=
 ⟨aT0 C hfr hc hi.1 (fun cl s H fp=>⟨(hb cl s H fp).1.1,(hb cl s H fp).2.1.1,(hb cl s H fp).2.2.1⟩) hs⟩
end
section
variable {P:Program} {w:World} {K:PySem.W.Frag} {mg:Str→Option Value} {base:Heap}
theorem Fun.okV {x qual:Str} {st:Stmt} {f:Addr} {fd:FuncData} {N ps:List Str} {k:Nat} {sp:Sp} (F:Fun K x qual st f fd) (S:aP N ps (aG st)) (len:∀vs H Q E,sp vs H Q E→vs.length=ps.length)
  (hbody:∀(cdv:Value) (A:Around) (outer:List Env) (s:Shared) (H:Hp) (vs:List V) (Q:VK) (E:XK),Room k (A.deeper (envOfC qual (aG st) s.heap.objs.size f cdv))→sp vs H Q E →
   ∃t,VSs (aGb CX0 P w K mg base N qual (aG st) f cdv A outer s H E).nox (lL st) t∧t { nx:=fun _ H'=>Q .non H',rt:=Q } (start N vs) H):qM P w K mg base CX0 (k+1) f fd ps sp:=
 F.ok S len fun cdv A outer s H vs Q E hr h=>let ⟨t,h1,h2⟩:=hbody cdv A outer s H vs Q E hr h;⟨t,h1.1,h2⟩
theorem Ok.ofV {x:Str} {st:Stmt} {N ps:List Str} {k:Nat} {sp:Sp} (D:Dn K mg x st ps) (S:aP N ps (aG st)) (len:∀vs H Q E,sp vs H Q E→vs.length=ps.length)
  (hbody:∀(f:Addr) (cdv:Value) (A:Around) (outer:List Env) (s:Shared) (H:Hp) (vs:List V) (Q:VK) (E:XK),Room k (A.deeper (envOfC x (aG st) s.heap.objs.size f cdv))→sp vs H Q E →
   ∃t,VSs (aGb CX0 P w K mg base N x (aG st) f cdv A outer s H E).nox (lL st) t∧t { nx:=fun _ H'=>Q .non H',rt:=Q } (start N vs) H):Ok P w K mg base (k+1) x ps sp:=
 Ok.of D S len fun f cdv A outer s H vs Q E hr h=>let ⟨t,h1,h2⟩:=hbody f cdv A outer s H vs Q E hr h;⟨t,h1.1,h2⟩
end
end L2
namespace PySem
def yI (σ:List Str) (v:Str):List Str:=if v∈σ then σ else σ++[v]
def pM (ss:List Str):List Str:=ss.foldl yI []
theorem aEm (ss:List Str) (v:Str):pM (ss++[v])=yI (pM ss) v:=by
 unfold pM
 rw [List.foldl_append]
 rfl
theorem aRf (σ:List Str) (v k:Str):k∈yI σ v↔k∈σ∨k=v:=by
 unfold yI
 by_cases h:v∈σ
 ·rw [if_pos h]
  exact ⟨.inl,fun q=>q.elim id fun e=>e ▸ h⟩
 ·rw [if_neg h]
  simp
theorem aI6 (σ:List Str) (v:Str):(yI σ v).length=if v∈σ then σ.length else σ.length+1:=by
 unfold yI
 split <;> simp
theorem zA:∀(ss σ:List Str),(ss.foldl yI σ).length≤σ.length+ss.length
 |[],σ=>by simp
 |v::r,σ=>by
  rw [List.foldl_cons,List.length_cons]
  have h:=zA r (yI σ v)
  rw [aI6] at h
  split at h <;> lia
theorem aRp (ss:List Str):(pM ss).length≤ss.length:=by
 have h:=zA ss []
 unfold pM
 simpa using h
section
variable {prog:Program} {w:World}
def eY (prog:Program) (w:World) (h:Heap) (D:Addr) (ss:List Str):Prop:=h.SetOf (strKind prog w) D (fun y=>decide (y∈pM ss)) (pM ss).length
theorem eY.at {h h':Heap} {D:Addr} {ss:List Str} (x:eY prog w h D ss) (e:∀o,h.get? D=some o→h'.get? D=some o):eY prog w h' D ss:=by
 obtain ⟨o,es,ep,t,ho,r⟩:=x
 exact ⟨o,es,ep,t,e o ho,r⟩
theorem eY.congr {h:Heap} {D:Addr} {S:Str→Bool} {n:Nat} {ss:List Str} (x:h.SetOf (strKind prog w) D S n) (e1:∀y,S y=decide (y∈pM ss)) (e2:n=(pM ss).length):eY prog w h D ss:=by
 have e:S=fun y=>decide (y∈pM ss):=funext e1
 subst e e2
 exact x
theorem aB2 {A:Around} {R:Result→Shared→Prop} {I:Addr} {fp wr:List Addr} {n:Nat} {P:Nat→Value→Prop} {St:Nat→Heap→Prop} (W:Walks prog w A.in1 I fp wr n P St) (D:Addr) (hD:D∉fp)
  (ss:List Str) (hss:ss.length=n) (hval:∀i v,P i v→∃t,v=.str (ss.getD i "") t) (hb:n+1<scanBound) :
  ∀(k i:Nat) (s:Shared),i+k=n→St i s.heap→eY prog w s.heap D (ss.take i) →
   (∀h' tk,(∀b o,b∉D::wr→s.heap.get? b=some o→h'.get? b=some o)→eY prog w h' D ss→R (.ok (.ret .none)) { s with heap:=h',toks:=tk }) →
   codeAny (model prog w) A (.builtin "set.update.loop" ⟨[.ref D,.ref I],[]⟩) R s:=by
 have hDw:D∉wr:=fun q=>hD (W.sub _ q)
 intro k
 induction k with
 |zero=>
  intro i s hi st hS q
  obtain rfl:i=n:=by lia
  refine codeAny_builtin PyProof.Rows.F.entry_set_update_loop ?_
  rw [Around.under_plainId PyProof.Rows.F.plain_set_update_loop _]
  show wpAny _ A.in1 (pyNext (.ref I) >>= _) _ _ _
  refine wpAny_bind (W.done s _ _ st fun h' tk kp=>?_)
  refine wpAny_pure (q h' tk (fun b o nb e=>kp b o (fun z=>nb (List.mem_cons_of_mem _ z)) e) ?_)
  rw [List.take_of_length_le (Nat.le_of_eq hss)] at hS
  exact hS.at fun o e=>kp D o hDw e
 |succ k ih=>
  intro i s hi st hS q
  refine codeAny_builtin PyProof.Rows.F.entry_set_update_loop ?_
  rw [Around.under_plainId PyProof.Rows.F.plain_set_update_loop _]
  show wpAny _ A.in1 (pyNext (.ref I) >>= _) _ _ _
  refine wpAny_bind (W.item i s _ _ (by lia) st fun v h1 tk1 hP st1 kp1=>?_)
  obtain ⟨t,rfl⟩:=hval i v hP
  have hS1:eY prog w h1 D (ss.take i):=hS.at fun o e=>kp1 D o hDw e
  show wpAny _ A.in1 (holding [Value.str (ss.getD i "") t] (setAdd D (.str (ss.getD i "") t)) >>= _) _ _ _
  refine wpAny_bind (wpAny_holding ?_)
  unfold setAdd
  refine wpAny_holding (wpAny_bind ((strKind prog w).pyHash (k:=ss.getD i "") (strKind_is _ _ _ _) ?_))
  have room:(pM (ss.take i)).length+1<scanBound:=by
   have h1:=aRp (ss.take i)
   have h2:(ss.take i).length≤ss.length:=by rw [List.length_take];exact Nat.min_le_right _ _
   lia
  refine wpAny_setAddHashed_of (knd:=strKind prog w) (strKind_is _ _ _ _) rfl hS1 room fun h2 sb2 hS2=>?_
  have hlt:i<ss.length:=by lia
  have et:ss.take (i+1)=ss.take i++[ss.getD i ""]:=by
   rw [List.take_add_one,List.getElem?_eq_getElem hlt,List.getD_eq_getElem?_getD,List.getElem?_eq_getElem hlt]
   rfl
  have hS3:eY prog w h2 D (ss.take (i+1)):=by
   refine eY.congr hS2 (fun y=>?_) ?_
   ·rw [et,aEm,Bool.eq_iff_iff,Bool.or_eq_true,decide_eq_true_eq,decide_eq_true_eq,decide_eq_true_eq,aRf]
   ·rw [et,aEm,aI6]
    by_cases z:ss.getD i ""∈pM (ss.take i)
    ·rw [if_pos z,if_pos (decide_eq_true z)]
    ·rw [if_neg z,if_neg (by rw [decide_eq_false z];exact Bool.false_ne_true)]
  have kp2:∀b o,b∉D::wr→s.heap.get? b=some o→h2.get? b=some o:=fun b o nb e=>by
   rw [sb2.2 b (fun z=>nb (by rw [z];exact List.mem_cons_self))]
   exact kp1 b o (fun z=>nb (List.mem_cons_of_mem _ z)) e
  refine wpAny_pure ⟨plainId_quiet PyProof.Rows.F.plain_set_update_loop _,ih (i+1) _ (by lia) (W.frame _ _ _ st1 fun b hb o e=>?_) hS3 fun h' tk kp hS'=>q h' tk (fun b o nb e=>kp b o nb (kp2 b o nb e)) hS'⟩
  rw [sb2.2 b (fun z=>hD (by rw [←z];exact hb))]
  exact e
variable {A:Around} {E:Value→Shared→Prop} {s:Shared}
abbrev dU (led:Bool):Obj:={ cls:=.type "set",dict:=none,data:=.set #[] 0 (.fresh 0 0 led) }
theorem aL0 {A:Around} {R:Fin→Shared→Prop} {E:Value→Shared→Prop} {s:Shared} {l:Addr} {its:Array Value} {ss:List Str} (led:Bool) (hh:A.handled=none) (hl:s.heap.IsList l its) (hlen:ss.length=its.size)
  (hval:∀(i:Nat) (v:Value),its[i]?=some v→∃t,v=Value.str (ss.getD i "") t) (hb:its.size+1<scanBound)
  (q:∀h' tk,eY prog w h' s.heap.objs.size ss→(∀b o,b<s.heap.objs.size→s.heap.get? b=some o→h'.get? b=some o)→R (.done (.ret .none)) { s with heap:=h',toks:=tk }) :
  wpAny (model prog w) A (Builtin.«set.__init__» ⟨[.ref s.heap.objs.size,.ref l],[]⟩) R E { s with heap:=s.heap.push (dU led) }:=by
 obtain ⟨⟨oc,od,ox,osl⟩,hol,hcl,nl,hdl⟩:=id hl
 simp only at hcl hdl
 subst hcl hdl
 have hS:(s.heap.push (dU led)).get? s.heap.objs.size=some (dU led):=Heap.get?_push_size _ rfl
 have hT:Shared.TypeIs { s with heap:=s.heap.push (dU led) } (.ref s.heap.objs.size) "set":=⟨_,hS,rfl⟩
 have hol':(s.heap.push (dU led)).get? l=some { cls:=.type "list",dict:=od,data:=.seq its nl,slots:=osl }:=Heap.get?_push_of_some _ hol
 have f1:=F.sub_list_set
 have f2:=F.sub_list_frozenset
 have f3:(Value.type "list" == Value.type "dict")=false:=by decide
 have hl1:(s.heap.push (dU led)).IsList l its:=⟨_,hol',rfl,nl,rfl⟩
 have hlt:l<s.heap.objs.size:=Heap.lt_size hol
 unfold Builtin.«set.__init__» noKeywords Builtin.Frozenset.updateFrom
 generalize hPI:pyIter=PI
 wp_walk
 subst hPI
 refine wpAny_pyIter_list hl1 ?_
 refine wpAny_bind (wpAny_runValue ?_)
 have hz:(s.heap.push (dU led)).objs.size=s.heap.objs.size+1:=Heap.size_push ..
 have hne:l≠(s.heap.push (dU led)).objs.size:=by rw [hz];exact Nat.ne_of_lt (Nat.lt_succ_of_lt hlt)
 have hSf:s.heap.objs.size∉[(s.heap.push (dU led)).objs.size,l]:=by
  rw [hz]
  simp only [List.mem_cons,List.not_mem_nil,or_false,not_or]
  exact ⟨Nat.ne_of_lt (Nat.lt_succ_self _),Nat.ne_of_gt hlt⟩
 refine aB2 (Walks.list (by first|exact hh|simp [hh]) _ l hne its) s.heap.objs.size hSf ss hlen hval hb its.size 0 _ (by lia) ⟨⟨_,Heap.get?_push_size _ rfl,rfl,rfl⟩,hl1.push _⟩ ?_ fun h' tk kp hS'=>?_
 ·have hg:((s.heap.push (dU led)).push { cls:=.type "list_iterator",data:=.fields #[.ref l,.int 0 0] }).get? s.heap.objs.size=some (dU led):=Heap.get?_push_of_some _ hS
  exact eY.congr ((PyProof.Rows.setObjOf_fresh (knd:=strKind prog w) led).setOf hg (by unfold scanBound;lia)) (fun _=>rfl) rfl
 ·refine wpAny_pure (wpAny_pure (q h' tk hS' fun b o hb' e=>kp b o ?_ (Heap.get?_push_of_some _ (Heap.get?_push_of_some _ e))))
  rw [hz]
  simp only [List.mem_cons,List.not_mem_nil,or_false,not_or]
  exact ⟨Nat.ne_of_lt hb',Nat.ne_of_lt (Nat.lt_succ_of_lt hb')⟩
theorem aCg {l:Addr} {its:Array Value} {ss:List Str} {Q:Value→Shared→Prop} (hh:A.handled=none) (hl:s.heap.IsList l its) (hlen:ss.length=its.size)
  (hval:∀(i:Nat) (v:Value),its[i]?=some v→∃t,v=Value.str (ss.getD i "") t) (hb:its.size+1<scanBound)
  (q:∀h' tk,eY prog w h' s.heap.objs.size ss→(∀b o,b<s.heap.objs.size→s.heap.get? b=some o→h'.get? b=some o)→Q (.ref s.heap.objs.size) { s with heap:=h',toks:=tk }) :
  wpAny (model prog w) A (call (.type "set") [.ref l]) Q E s:=by
 have ft:=F.called_set
 obtain ⟨c,tl,hmro⟩:=ft.mro
 have g1:=ft.made
 have g2:=ft.sub
 have g3:=ft.notType
 have g4:=ft.canCreate
 have g5:=F.typeCall_set_1 (.ref l)
 refine wpAny_call (codeAny_of_tree (show wpAny _ _ (callAny (.type "set") _) _ _ _ from wpAny_pure ⟨Code.quiet_builtin _ (by decide +kernel),codeAny_builtin F.entry_type_call ?_⟩))
 rw [Around.under_plain (weight_type_call_type "set" [.ref l] []) (by rfl)]
 repeat (any_goals (first|assumption|wp_step))
 refine codeAny_mono (code_set_new_1 (.ref l) (Q₁:=fun obj s1=>∃led:Bool,obj=.ref s.heap.objs.size∧s1={ s with heap:=s.heap.push (dU led) }) (E:=E) fun led=>⟨led,rfl,rfl⟩) fun r s1 hr=>?_
 rcases r with e|fl
 ·exact hr
 rcases fl with _|_|_|obj
 ·exact hr.elim
 ·exact hr.elim
 ·exact hr.elim
 obtain ⟨led,rfl,rfl⟩:=hr
 have hT:Shared.TypeIs { s with heap:=s.heap.push (dU led) } (.ref s.heap.objs.size) "set":=⟨_,Heap.get?_push_size _ rfl,rfl⟩
 have g6:=ft.init.lookup
 have g7:=ft.init.bind (.ref s.heap.objs.size)
 repeat (any_goals (first|assumption|wp_step))
 refine codeAny_mono (codeAny_call_builtin (R:=wants (fun r s2=>r=.none∧∃h' tk,s2={ s with heap:=h',toks:=tk }∧eY prog w h' s.heap.objs.size ss∧∀b o,b<s.heap.objs.size→s.heap.get? b=some o→h'.get? b=some o) E)
  ft.init.plain F.entry_set_init (check_set_init_1 hT (aL0 led (by first|exact hh|simp [hh]) hl hlen hval hb fun h' tk x kp=>⟨rfl,h',tk,rfl,x,kp⟩))) fun r2 s2 hr2=>?_
 rcases r2 with e|fl
 ·exact hr2
 rcases fl with _|_|_|v
 ·exact hr2.elim
 ·exact hr2.elim
 ·exact hr2.elim
 obtain ⟨rfl,h',tk,rfl,x,kp⟩:=hr2
 repeat (any_goals (first|assumption|wp_step))
 exact q h' tk x kp
theorem aPc {D:Addr} {ss:List Str} {Q:Value→Shared→Prop} (x:eY prog w s.heap D ss) (q:Q (.int ((pM ss).length:Nat) (s.toks+1)) { s with toks:=s.toks+1+1 }):wpAny (model prog w) A (call (.builtin "len") [.ref D]) Q E s:=by
 obtain ⟨o,es,ep,t,ho,hex,hd,hel,hmem,hb,hf,hn⟩:=x
 refine call_len_set ho hex hd hf ?_ ?_
 ·unfold scanBound at hb
  lia
 ·rw [hn]
  exact q
end
end PySem
namespace L2
open PySem PySem.Spec PyProof.Rows
def aRi (P:Program) (w:World) (D:Addr) (ss:List Str):HO:=.ext fun h=>eY P w h D ss
section
variable {X:Cx}
def aYj (P:Program) (w:World) (K:PySem.W.Frag):List V→Hp→VK→Prop:=fun xs H Q=>∃(p:Addr) (ss:List Str),xs=[.ref p]∧SqL K H p (ss.map V.str)∧ss.length≤1000∧∀D,H D=none→Q (.ref D) (upd H D (aRi P w D ss))
theorem aMo (hc:X.calm=true):cY X (.type "set") (aYj X.prog X.w X.K):=by
 intro pins s σ H xs us Q I r h
 obtain ⟨p,ss,rfl,hq,hl,q⟩:=h
 obtain ⟨u,rfl,rx⟩:=r.one
 cases rx
 obtain ⟨its,rv,pl,hz⟩:=I.list hq
 have hlen:=rv.length
 rw [List.length_map] at hlen
 refine aCg (I.ok.hd hc) pl.isList (by rw [List.size_toArray];exact hlen) (fun i v hv=>?_) (by rw [List.size_toArray,←hlen];unfold scanBound;lia) fun h' tk x kp=>?_
 ·have hv':its[i]?=some v:=by simpa using hv
  have hi:i<ss.length:=by rw [hlen];exact (List.getElem?_eq_some_iff.mp hv').1
  obtain ⟨u,hu,t,rfl⟩:=rv.get (i:=i) (x:=.str ss[i]) (by rw [List.getElem?_map,List.getElem?_eq_getElem hi];rfl)
  rw [hv'] at hu
  cases hu
  exact ⟨t,by rw [List.getD_eq_getElem?_getD,List.getElem?_eq_getElem hi];rfl⟩
 ·have e:∃o,h'.get? s.heap.objs.size=some o:=by
   obtain ⟨o,_,_,_,ho,_⟩:=x
   exact ⟨o,ho⟩
  exact ⟨.ref s.heap.objs.size,_,I.laid (o:=aRi X.prog X.w s.heap.objs.size ss) (fun b o eo=>kp b o (Heap.lt_size eo) eo) (Nat.le_refl _) (show eY X.prog X.w h' s.heap.objs.size ss∧_∧_ from ⟨x,e,fun h1 h2 y k=>y.at k⟩),rfl,q _ (I.hok.fresh (Nat.le_refl _))⟩
theorem aLn:cY X (.builtin "len") (fun xs H Q=>∃(D:Addr) (ss:List Str),xs=[.ref D]∧H D=some (aRi X.prog X.w D ss)∧Q (.int ((pM ss).length:Nat)) H):=by
 intro pins s σ H xs us Q I r h
 obtain ⟨D,ss,rfl,hD,q⟩:=h
 obtain ⟨u,rfl,rx⟩:=r.one
 cases rx
 obtain ⟨x,_⟩:=I.hok D _ hD
 exact aPc x ⟨.int ((pM ss).length:Nat),H,I.tok _,⟨_,rfl⟩,q⟩
end
end L2
namespace PySem
abbrev lY (t:Addr) (i:Nat):Obj:={ cls:=.type "tuple_iterator",data:=.fields #[.ref t,.int (i:Int) 0] }
abbrev oG (f0:Value) (TI TO:Addr):Obj:={ cls:=.type "zip",dict:=none,data:=.fields #[f0,.bool false,.bool false,.ref TI,.ref TO],slots:=#[] }
abbrev fM (a b:Value):Obj:={ cls:=.type "tuple",data:=.seq #[a,b] }
section
variable {prog:Program} {w:World} {A:Around} {E:Value→Shared→Prop} {s:Shared}
theorem qK {it t:Addr} {i:Nat} {its:Array Value} {x:Value} {Q:Value→Shared→Prop} (ho:s.heap.get? it=some (lY t i)) (ht:s.heap.IsTuple t its) (hx:its[i]?=some x)
  (q:∀h',h'.get? it=some (lY t (i+1))→Heap.SameBut it s.heap h'→Q x { s with heap:=h' }):wpAny (model prog w) A (Builtin.SmallTypes.nextOf (.ref it)) Q E s:=by
 have hT:s.TypeIs (.ref it) "tuple_iterator":=⟨_,ho,rfl⟩
 obtain ⟨ol,hol,_,nl,hdl⟩:=ht
 unfold Builtin.SmallTypes.nextOf
 refine wpAny_bind (wpAny_callSpecial?_slot (name:=Str.ofString "__next__") hT F.slot_tuple_iterator_next (wpAny_call_entry F.slot_tuple_iterator_next hT F.entry_tuple_iterator_next ?_ (F.args_tuple_iterator_next_1 _)))
 refine wpAny_bind (m:=field (.ref it) 0) (wpAny_field ho rfl (x:=.ref t) rfl ?_)
 refine (if_neg (show ¬ ((Value.ref t == Value.none)=true) from Bool.false_ne_true)).symm ▸ ?_
 refine wpAny_bind (m:=field (.ref it) 1) (wpAny_field ho rfl (x:=.int i 0) rfl ?_)
 refine wpAny_bind (m:=seqItems? (.ref t)) (wpAny_seqItems hol hdl ?_)
 simp only [Int.toNat_natCast,hx]
 refine wpAny_bind (wpAny_setField ho rfl (by simp) (wpAny_pure ⟨x,rfl,wpAny_pure (q _ ?_ (Heap.SameBut.update ..))⟩))
 exact Heap.get?_update_self _ ho rfl
theorem sX {it t:Addr} {i:Nat} {its:Array Value} {Q:Value→Shared→Prop} (hh:A.handled=none) (ho:s.heap.get? it=some (lY t i)) (ht:s.heap.IsTuple t its) (hx:its[i]?=none)
  (q:∀h' e,Heap.ExtBut it s.heap h'→(∃o,h'.get? e=some o∧o.cls=.type "StopIteration")→E (.ref e) { s with heap:=h' }):wpAny (model prog w) A (Builtin.SmallTypes.nextOf (.ref it)) Q E s:=by
 have hT:s.TypeIs (.ref it) "tuple_iterator":=⟨_,ho,rfl⟩
 obtain ⟨ol,hol,_,nl,hdl⟩:=ht
 unfold Builtin.SmallTypes.nextOf
 refine wpAny_bind (wpAny_callSpecial?_slot (name:=Str.ofString "__next__") hT F.slot_tuple_iterator_next (wpAny_call_entry F.slot_tuple_iterator_next hT F.entry_tuple_iterator_next ?_ (F.args_tuple_iterator_next_1 _)))
 refine wpAny_bind (m:=field (.ref it) 0) (wpAny_field ho rfl (x:=.ref t) rfl ?_)
 refine (if_neg (show ¬ ((Value.ref t == Value.none)=true) from Bool.false_ne_true)).symm ▸ ?_
 refine wpAny_bind (m:=field (.ref it) 1) (wpAny_field ho rfl (x:=.int i 0) rfl ?_)
 refine wpAny_bind (m:=seqItems? (.ref t)) (wpAny_seqItems hol hdl ?_)
 simp only [Int.toNat_natCast,hx]
 refine wpAny_bind (wpAny_rule (wpAny_bind (wpAny_setField ho rfl (by simp) ?_)))
 unfold Builtin.SmallTypes.stopIteration
 refine wpAny_bind ?_
 simp only [newExc,newTuple]
 refine wpAny_bind (wpAny_newObj_type ?_ (by size_fits))
 refine wpAny_bind (m:=firstArgMember _ _) (wpAny_of_eq (a:=Value.none) (by first|rfl|(simp only [firstArgMember];rfl)) ?_)
 refine wpAny_newObj_type ?_ (by size_fits)
 simp only [raiseNew]
 refine wpAny_bind (wpAny_handled ?_)
 first|rw [show A.in1.handled=none from hh]|rw [hh]
 refine wpAny_bind (wpAny_pure (wpAny_throw ?_))
 exact q _ _ (((Heap.SameBut.update ..).extBut.push _).push _) ⟨_,Heap.get?_push_size _ rfl,rfl⟩
structure oE (z TI TO a b:Addr):Prop where
 h1:TI≠z
 h2:TO≠z
 h3:a≠z
 h4:b≠z
 h5:TI≠TO
 h6:TI≠a
 h7:TI≠b
 h8:TO≠a
 h9:TO≠b
 h10:a≠b
theorem aA2 {T:Addr} {a b x:Value} {k:Nat} {Q:Unit→Shared→Prop} (hT:s.heap.get? T=some (fM a b))
  (q:∀h',h'.get? T=some { cls:=.type "tuple",data:=.seq ((#[a,b]:Array Value).setIfInBounds k x) }→Heap.SameBut T s.heap h'→Q () { s with heap:=h' }) :
  wpAny (model prog w) A (updateSeq T (·.setIfInBounds k x)) Q E s:=by
 refine wpAny_updateSeq hT rfl (q _ ?_ (Heap.SameBut.update ..))
 rw [Heap.get?_update_self _ hT rfl]
 simp [Obj.mapSeq]
theorem aOb {z TI TO i1 i2 t u:Addr} {k:Nat} {xs ys:Array Value} {x y a b:Value} {Q:Option Value→Shared→Prop} (D:oE z TI TO i1 i2)
  (hz:s.heap.get? z=some (oG .none TI TO)) (hTI:s.heap.get? TI=some (fM (.ref i1) (.ref i2))) (hTO:s.heap.get? TO=some (fM a b))
  (g1:s.heap.get? i1=some (lY t k)) (g2:s.heap.get? i2=some (lY u k)) (ht:s.heap.IsTuple t xs) (hu:s.heap.IsTuple u ys) (hx:xs[k]?=some x) (hy:ys[k]?=some y)
  (t1:t≠z) (t2:t≠TO) (t3:t≠i1) (t4:t≠i2) (u1:u≠z) (u2:u≠TO) (u3:u≠i1) (u4:u≠i2)
  (q:∀h',h'.get? z=some (oG (rawInt s.heap.objs.size) TI TO)→h'.get? TO=some (fM x y)→h'.get? i1=some (lY t (k+1))→h'.get? i2=some (lY u (k+1))→h'.get? s.heap.objs.size=some (fM x y) →
   (∀c o,c≠z→c≠TO→c≠i1→c≠i2→s.heap.get? c=some o→h'.get? c=some o)→Q (some (.ref s.heap.objs.size)) { s with heap:=h' }) :
  wpAny (model prog w) A (pyNext (.ref z)) Q E s:=by
 have hT:s.TypeIs (.ref z) "zip":=⟨_,hz,rfl⟩
 unfold pyNext
 refine wpAny_bind (wpAny_attempt (wpAny_callSpecial?_slot (name:=Str.ofString "__next__") hT F.slot_zip_next (wpAny_call_entry F.slot_zip_next hT F.entry_zip_next ?_ (F.args_zip_next_1 _))))
 refine wpAny_bind (m:=field (.ref z) 2) (wpAny_field hz rfl (x:=.bool false) rfl ?_)
 refine wpAny_bind (m:=field (.ref z) 3) (wpAny_field hz rfl (x:=.ref TI) rfl (wpAny_bind (wpAny_seqItems hTI rfl ?_)))
 refine wpAny_bind (m:=Builtin.SmallTypes.ownedTupleIsFree (.ref z)) ?_
 unfold Builtin.SmallTypes.ownedTupleIsFree
 refine wpAny_bind (wpAny_field hz rfl (x:=.none) rfl (wpAny_pure ?_))
 simp only [if_true]
 refine wpAny_bind (wpAny_rule (wpAny_bind (wpAny_field hz rfl (x:=.ref TO) rfl (wpAny_bind (wpAny_setField_rec hz (by simp) fun h1 z1 s1=>?_)))))
 replace z1:h1.get? z=some (oG .ellipsis TI TO):=z1
 refine wpAny_bind ?_
 simp only [List.zipIdx_cons,List.zipIdx_nil,List.forIn_cons,List.forIn_nil]
 refine wpAny_bind (wpAny_bind (wpAny_onRaise ?_))
 refine wpAny_bind (m:=Builtin.SmallTypes.nextOf (.ref i1)) (qK (s:={ s with heap:=h1 }) (s1.extBut _ _ D.h3 g1) (ht.extBut s1.extBut t1) hx fun h2 g12 s2=>wpAny_pure ?_)
 have TO2:h2.get? TO=some (fM a b):=s2.extBut _ _ D.h8 (s1.extBut _ _ D.h2 hTO)
 refine wpAny_bind (wpAny_seqItems TO2 rfl (wpAny_bind (aA2 (s:={ s with heap:=h2 }) TO2 fun h3 TO3 s3=>wpAny_bind (wpAny_letGo (wpAny_pure ?_)))))
 replace TO3:h3.get? TO=some (fM x b):=TO3
 refine wpAny_bind (wpAny_bind (wpAny_onRaise ?_))
 refine wpAny_bind (m:=Builtin.SmallTypes.nextOf (.ref i2)) (qK (s:={ s with heap:=h3 }) (s3.extBut _ _ D.h9.symm (s2.extBut _ _ D.h10.symm (s1.extBut _ _ D.h4 g2))) (((hu.extBut s1.extBut u1).extBut s2.extBut u3).extBut s3.extBut u2) hy fun h4 g24 s4=>wpAny_pure ?_)
 have TO4:h4.get? TO=some (fM x b):=s4.extBut _ _ D.h9 TO3
 refine wpAny_bind (wpAny_seqItems TO4 rfl (wpAny_bind (aA2 (s:={ s with heap:=h4 }) TO4 fun h5 TO5 s5=>wpAny_bind (wpAny_letGo (wpAny_pure (wpAny_pure ?_))))))
 replace TO5:h5.get? TO=some (fM x y):=TO5
 refine wpAny_bind (wpAny_seqItems TO5 rfl (wpAny_bind (wpAny_newTuple ?_)))
 have hsz:h5.objs.size=s.heap.objs.size:=by rw [s5.1,s4.1,s3.1,s2.1,s1.1]
 have z5:h5.get? z=some (oG .ellipsis TI TO):=s5.extBut _ _ D.h2.symm (s4.extBut _ _ D.h4.symm (s3.extBut _ _ D.h2.symm (s2.extBut _ _ D.h3.symm z1)))
 have kp:∀c o,c≠z→c≠TO→c≠i1→c≠i2→s.heap.get? c=some o→h5.get? c=some o:=fun c o c1 c2 c3 c4 e=>s5.extBut _ _ c2 (s4.extBut _ _ c4 (s3.extBut _ _ c2 (s2.extBut _ _ c3 (s1.extBut _ _ c1 e))))
 have g15:h5.get? i1=some (lY t (k+1)):=s5.extBut _ _ D.h8.symm (s4.extBut _ _ D.h10 (s3.extBut _ _ D.h8.symm g12))
 have g25:h5.get? i2=some (lY u (k+1)):=s5.extBut _ _ D.h9.symm g24
 refine wpAny_bind (m:=Builtin.SmallTypes.ownedTupleHandOut (.ref z) (.ref h5.objs.size)) ?_
 unfold Builtin.SmallTypes.ownedTupleHandOut
 have z6:(h5.push (fM x y)).get? z=some (oG .ellipsis TI TO):=Heap.get?_push_of_some _ z5
 refine wpAny_bind (wpAny_setField_rec z6 (by simp) fun h7 z7 s7=>?_)
 replace z7:h7.get? z=some (oG (rawInt h5.objs.size) TI TO):=z7
 refine wpAny_setField_rec z7 (by simp) fun h8 z8 s8=>?_
 replace z8:h8.get? z=some (oG (rawInt h5.objs.size) TI TO):=z8
 have up:∀c o,c≠z→h5.get? c=some o→h8.get? c=some o:=fun c o c1 e=>s8.extBut _ _ c1 (s7.extBut _ _ c1 (Heap.get?_push_of_some _ e))
 have nz:h5.objs.size≠z:=Nat.ne_of_gt (Heap.lt_size z5)
 have T8:h8.get? h5.objs.size=some (fM x y):=s8.extBut _ _ nz (s7.extBut _ _ nz (Heap.get?_push_size _ rfl))
 rw [hsz] at z8 T8
 refine wpAny_pure ⟨_,rfl,wpAny_pure ?_⟩
 show Q (some (.ref h5.objs.size)) _
 rw [hsz]
 exact q h8 z8 (up _ _ D.h2 TO5) (up _ _ D.h3 g15) (up _ _ D.h4 g25) T8 fun c o c1 c2 c3 c4 e=>up c o c1 (kp c o c1 c2 c3 c4 e)
theorem aQw {z TI TO i1 i2 t:Addr} {k:Nat} {xs:Array Value} {a b:Value} {Q:Option Value→Shared→Prop} (hh:A.handled=none) (D:oE z TI TO i1 i2)
  (hz:s.heap.get? z=some (oG .none TI TO)) (hTI:s.heap.get? TI=some (fM (.ref i1) (.ref i2))) (hTO:s.heap.get? TO=some (fM a b))
  (g1:s.heap.get? i1=some (lY t k)) (ht:s.heap.IsTuple t xs) (hx:xs[k]?=none) (t1:t≠z)
  (q:∀h',(∀c o,c≠z→c≠TO→c≠i1→c≠i2→s.heap.get? c=some o→h'.get? c=some o)→Q none { s with heap:=h' }) :
  wpAny (model prog w) A (pyNext (.ref z)) Q E s:=by
 have hT:s.TypeIs (.ref z) "zip":=⟨_,hz,rfl⟩
 unfold pyNext
 refine wpAny_bind (wpAny_attempt (wpAny_callSpecial?_slot (name:=Str.ofString "__next__") hT F.slot_zip_next (wpAny_call_entry F.slot_zip_next hT F.entry_zip_next ?_ (F.args_zip_next_1 _))))
 refine wpAny_bind (m:=field (.ref z) 2) (wpAny_field hz rfl (x:=.bool false) rfl ?_)
 refine wpAny_bind (m:=field (.ref z) 3) (wpAny_field hz rfl (x:=.ref TI) rfl (wpAny_bind (wpAny_seqItems hTI rfl ?_)))
 refine wpAny_bind (m:=Builtin.SmallTypes.ownedTupleIsFree (.ref z)) ?_
 unfold Builtin.SmallTypes.ownedTupleIsFree
 refine wpAny_bind (wpAny_field hz rfl (x:=.none) rfl (wpAny_pure ?_))
 simp only [if_true]
 refine wpAny_bind (wpAny_rule (wpAny_bind (wpAny_field hz rfl (x:=.ref TO) rfl (wpAny_bind (wpAny_setField_rec hz (by simp) fun h1 z1 s1=>?_)))))
 replace z1:h1.get? z=some (oG .ellipsis TI TO):=z1
 refine wpAny_bind ?_
 simp only [List.zipIdx_cons,List.zipIdx_nil,List.forIn_cons,List.forIn_nil]
 refine wpAny_bind (wpAny_bind (wpAny_onRaise ?_))
 refine wpAny_bind (m:=Builtin.SmallTypes.nextOf (.ref i1)) (sX (s:={ s with heap:=h1 }) hh (s1.extBut _ _ D.h3 g1) (ht.extBut s1.extBut t1) hx fun h2 e s2 he=>?_)
 obtain ⟨oe,hoe,hce⟩:=he
 have z2:h2.get? z=some (oG .ellipsis TI TO):=s2 _ _ D.h3.symm z1
 have hez:e≠z:=fun x=>by subst x;rw [z2] at hoe;cases hoe;simp at hce
 refine wpAny_setField_rec z2 (by simp) fun h3 _ s3=>?_
 refine wpAny_bind (wpAny_isInstance (T:="StopIteration") (b:=true) ⟨oe,s3.extBut _ _ hez hoe,hce⟩ isSubtype_stop ?_)
 exact wpAny_pure (q _ fun c o c1 _ c3 _ x=>s3.extBut _ _ c1 (s2 _ _ c3 (s1.extBut _ _ c1 x)))
end
end PySem
namespace PySem
section
variable {prog:Program} {w:World} {A:Around} {E:Value→Shared→Prop} {s:Shared}
abbrev zT1 (h:Heap) (t:Addr):Heap:=h.push (lY t 0)
abbrev zT2 (h:Heap) (t u:Addr):Heap:=(zT1 h t).push (lY u 0)
abbrev zT3 (h:Heap) (t u:Addr):Heap:=(zT2 h t u).push (fM (.ref h.objs.size) (.ref (zT1 h t).objs.size))
abbrev zT4 (h:Heap) (t u:Addr):Heap:=(zT3 h t u).push (fM .none .none)
abbrev zT5 (h:Heap) (t u:Addr):Heap:=(zT4 h t u).push (oG .none (zT2 h t u).objs.size (zT3 h t u).objs.size)
theorem aMl (t u:Addr) (xs ys:Array Value):Meets (Builtin.«zip.__new__» ⟨[.type "zip",.ref t,.ref u],[]⟩)
  (fun _ R s=>s.heap.IsTuple t xs∧s.heap.IsTuple u ys∧R (.ok (.ret (.ref (zT4 s.heap t u).objs.size))) { s with heap:=zT5 s.heap t u }):=
 .of_wp fun prog w A R s h=>by
  obtain ⟨hp,g,d,tk,os⟩:=s
  obtain ⟨a1,a2,h⟩:=h
  have hsub:=sub_zip
  have b1:Heap.IsTuple (Shared.heap ⟨hp,g,d,tk,os⟩) t xs:=a1
  have b2:Heap.IsTuple (Shared.heap ⟨hp.push { cls:=.type "tuple_iterator",data:=.fields #[.ref t,.int 0 0] },g,d,tk,os⟩) u ys:=by
   obtain ⟨o,ho,r⟩:=a2
   exact ⟨o,Heap.get?_push_of_some _ ho,r⟩
  wp_walk using wpAny_pyIter_tuple b1,wpAny_pyIter_tuple b2
  exact ⟨_,rfl,h⟩
theorem aPr {t u:Addr} {xs ys:Array Value} {Q:Value→Shared→Prop} (ht:s.heap.IsTuple t xs) (hu:s.heap.IsTuple u ys) (q:Q (.ref (zT4 s.heap t u).objs.size) { s with heap:=zT5 s.heap t u }) :
  wpAny (model prog w) A (call (.type "zip") [.ref t,.ref u]) Q E s:=by
 refine callType_new F.called_zip (by decide) (F.typeCall_zip_2 _ _) (F.newCall_zip_2 _ _) (fun obj=>F.args_object_init_3 obj _ _) F.entry_zip_new (aMl t u xs ys) ⟨ht,hu,?_⟩
 exact ⟨⟨_,Heap.get?_push_size _ rfl,rfl⟩,q⟩
end
end PySem
namespace L2
open PySem PySem.Spec PyProof.Rows
section
variable {X:Cx} {pins:List (Addr × Obj)} {σ:St} {H:Hp} {s:Shared}
theorem Inv.tup_ne {t b:Addr} {xs:List V} (I:Inv X pins σ H s) (h:SqT X.K H t xs) (f:vX X pins H b):t≠b:=by
 rintro rfl
 obtain ⟨f0,f1,f2,f3,_⟩:=f
 rcases h with (h|⟨o,h⟩)|⟨o,its,n,hk,_⟩
 ·rw [f0] at h;cases h
 ·rw [f0] at h;cases h
 ·have e:=I.ok.mod.kin t o hk
  rcases f3 with z|z
  ·exact I.ok.noex t o e z
  ·exact absurd (Nat.lt_of_lt_of_le (Heap.lt_size e) (Nat.le_trans I.ok.bsz z)) (Nat.lt_irrefl _)
theorem Inv.drawn {ch:List Addr} {h':Heap} {vs:List V} {its:List Value} {T:Addr} (I:Inv X pins σ H s) (hch:∀b∈ch,vX X pins H b) (kp:∀b o,b∉ch→s.heap.get? b=some o→h'.get? b=some o)
  (hT:s.heap.objs.size≤T) (hv:Vals vs its) (hz:vs.length≤sizeLine) (ho:zR h' T its.toArray) (hth:∀b∈ch,∃o,h'.get? b=some o):Inv X pins σ (upd H T (.tup vs)) { s with heap:=h' }:=by
 have fT:H T=none:=I.hok.fresh hT
 have nT:∀b o,s.heap.get? b=some o→b≠T:=fun b o e=>Nat.ne_of_lt (Nat.lt_of_lt_of_le (Heap.lt_size e) hT)
 have nch:∀b u,H b=some u→b∉ch:=fun b u e z=>by rw [(hch b z).1] at e;cases e
 refine I.step (g':=s.gens) (d':=s.drawn) (t':=s.toks) (ch:=ch) (fun b hb=>?_) (fun b o _ _ hc e _=>kp b o hc e) (fun b o _ _ hc e _=>⟨o.slots,kp b o hc e⟩) (fun b o hc e n=>by rw [bH (nT b o e)];exact n)
  (fun b o hc e=>⟨o,kp b o hc e⟩) (fun b xs e=>by rw [bH (bD e fT)];exact e) (fun b o u e=>by rw [bH (bD e fT)];exact e) (fun b ps e=>⟨#[],by rw [bH (bD e fT),e];simp⟩) (fun m hm=>?_) (fun b u e=>?_) I.bare
 ·obtain ⟨_,f1,_,f3,f4,f5⟩:=hch b hb
  exact ⟨f3,f1,f4,f5⟩
 ·obtain ⟨o,es,ep,ho',r⟩:=hm
  exact ⟨o,es,ep,kp _ o (fun z=>(hch _ z).2.1 rfl) ho',r⟩
 ·by_cases hb:b=T
  ·subst hb
   rw [aQ] at e
   cases e
   exact ⟨hz,its,hv,ho⟩
  ·rw [bH hb] at e
   refine (I.hok b u e).stay (fun c v hc' q=>kp c v ?_ q) (fun c q=>by rw [bH (bD q fT)];exact q) fun c xs q=>by rw [bH (bD q fT)];exact q
   rcases hc' with z|z
   ·rw [z];exact nch b u e
   ·exact nch c _ z
theorem Inv.aM6 {ch:List Addr} {h':Heap} (I:Inv X pins σ H s) (hch:∀b∈ch,vX X pins H b) (kp:∀b o,b∉ch→s.heap.get? b=some o→h'.get? b=some o):Inv X pins σ H { s with heap:=h' }:=by
 have nch:∀b u,H b=some u→b∉ch:=fun b u e z=>by rw [(hch b z).1] at e;cases e
 refine I.step (g':=s.gens) (d':=s.drawn) (t':=s.toks) (ch:=ch) (fun b hb=>?_) (fun b o _ _ hc e _=>kp b o hc e) (fun b o _ _ hc e _=>⟨o.slots,kp b o hc e⟩) (fun _ _ _ _ n=>n)
  (fun b o hc e=>⟨o,kp b o hc e⟩) (fun _ _ e=>e) (fun _ _ _ e=>e) (fun b ps e=>⟨#[],by rw [e];simp⟩) (fun m hm=>?_) (fun b u e=>?_) I.bare
 ·obtain ⟨_,f1,_,f3,f4,f5⟩:=hch b hb
  exact ⟨f3,f1,f4,f5⟩
 ·obtain ⟨o,es,ep,ho',r⟩:=hm
  exact ⟨o,es,ep,kp _ o (fun z=>(hch _ z).2.1 rfl) ho',r⟩
 ·refine (I.hok b u e).stay (fun c v hc' q=>kp c v ?_ q) (fun _ q=>q) fun _ _ q=>q
  rcases hc' with z|z
  ·rw [z];exact nch b u e
  ·exact nch c _ z
end
def Itz (K:PySem.W.Frag) (t u:Addr) (xs ys:List V):It:=
 ⟨fun i H=>SqT K H t xs∧SqT K H u ys∧i<xs.length∧i<ys.length,fun i H v H'=>∃T a b,H T=none∧v=.ref T∧H'=upd H T (.tup [a,b])∧xs[i]?=some a∧ys[i]?=some b,fun i H=>SqT K H t xs∧xs.length≤i⟩
def ztn (z TI TO i1 i2 t u:Addr) (i:Nat) (h:Heap):Prop:=
 h.get? z=some (oG .none TI TO)∧h.get? TI=some (fM (.ref i1) (.ref i2))∧(∃a b,h.get? TO=some (fM a b))∧h.get? i1=some (lY t i)∧h.get? i2=some (lY u i)
theorem aRv {P:Program} {w:World} {K:PySem.W.Frag} {elts:List Expr} {kt:Nat} {pos:Pos} {z TI TO i1 i2 t u:Addr} {xs ys:List V} (D:oE z TI TO i1 i2) :
  Turn P w K (.Tuple elts kt pos) (Itz K t u xs ys) [z,TI,TO,i1,i2] z (ztn z TI TO i1 i2 t u) where
 mem:=by simp
 obj:=fun i h st b hb=>by
  obtain ⟨e1,e2,⟨a,c,e3⟩,e4,e5⟩:=st
  simp only [List.mem_cons,List.not_mem_nil,or_false] at hb
  rcases hb with rfl|rfl|rfl|rfl|rfl
  ·exact ⟨_,e1,fun v z=>by cases (show Data.fields _=Data.cell v from z)⟩
  ·exact ⟨_,e2,fun v z=>by cases (show Data.seq _ _=Data.cell v from z)⟩
  ·exact ⟨_,e3,fun v z=>by cases (show Data.seq _ _=Data.cell v from z)⟩
  ·exact ⟨_,e4,fun v z=>by cases (show Data.fields _=Data.cell v from z)⟩
  ·exact ⟨_,e5,fun v z=>by cases (show Data.fields _=Data.cell v from z)⟩
 keep:=fun i h h' st k=>by
  obtain ⟨e1,e2,⟨a,c,e3⟩,e4,e5⟩:=st
  exact ⟨k z (by simp) _ e1,k TI (by simp) _ e2,⟨a,c,k TO (by simp) _ e3⟩,k i1 (by simp) _ e4,k i2 (by simp) _ e5⟩
 item:=by
  intro X hP hw hK hc i pins s σ H E I hf st hg
  subst hP hw hK
  obtain ⟨e1,e2,⟨a0,c0,e3⟩,e4,e5⟩:=st
  obtain ⟨ht,hu,l1,l2⟩:=hg
  obtain ⟨its,rv,pt,hz⟩:=I.tuple ht
  obtain ⟨jts,rw',pu,hz'⟩:=I.tuple hu
  obtain ⟨x,hx,rx⟩:=rv.get (List.getElem?_eq_getElem l1)
  obtain ⟨y,hy,ry⟩:=rw'.get (List.getElem?_eq_getElem l2)
  have fz:=hf z (by simp)
  have fO:=hf TO (by simp)
  have f1:=hf i1 (by simp)
  have f2:=hf i2 (by simp)
  refine aOb D e1 e2 e3 e4 e5 (show s.heap.IsTuple t its.toArray from pt) (show s.heap.IsTuple u jts.toArray from pu) (by simpa using hx) (by simpa using hy) (I.tup_ne ht fz) (I.tup_ne ht fO) (I.tup_ne ht f1) (I.tup_ne ht f2)
   (I.tup_ne hu fz) (I.tup_ne hu fO) (I.tup_ne hu f1) (I.tup_ne hu f2) fun h' a1 a2 a3 a4 a5 kp=>?_
  refine ⟨_,rfl,?_⟩
  have fT:H s.heap.objs.size=none:=I.hok.fresh (Nat.le_refl _)
  have I1:Inv X pins σ (upd H s.heap.objs.size (.tup [xs[i],ys[i]])) { s with heap:=h' }:=by
   refine I.drawn (ch:=[z,TO,i1,i2]) (its:=[x,y]) (fun b hb=>?_) (fun b o hb e=>?_) (Nat.le_refl _) (.cons rx (.cons ry .nil)) (small (by simp)) (.of a5 rfl ⟨_,a5,rfl,_,rfl⟩) (fun b hb=>?_)
   ·refine hf b ?_
    simp only [List.mem_cons,List.not_mem_nil,or_false] at hb ⊢
    rcases hb with h|h|h|h <;> simp [h]
   ·simp only [List.mem_cons,List.not_mem_nil,or_false,not_or] at hb
    exact kp b o hb.1 hb.2.1 hb.2.2.1 hb.2.2.2 e
   ·simp only [List.mem_cons,List.not_mem_nil,or_false] at hb
    rcases hb with rfl|rfl|rfl|rfl
    ·exact ⟨_,a1⟩
    ·exact ⟨_,a2⟩
    ·exact ⟨_,a3⟩
    ·exact ⟨_,a4⟩
  have nT:∀b∈[z,TI,TO,i1,i2],b≠s.heap.objs.size:=fun b hb=>by
   have e:∃o,s.heap.get? b=some o:=by
    simp only [List.mem_cons,List.not_mem_nil,or_false] at hb
    rcases hb with rfl|rfl|rfl|rfl|rfl
    ·exact ⟨_,e1⟩
    ·exact ⟨_,e2⟩
    ·exact ⟨_,e3⟩
    ·exact ⟨_,e4⟩
    ·exact ⟨_,e5⟩
   obtain ⟨o,e⟩:=e
   exact Nat.ne_of_lt (Heap.lt_size e)
  refine wpAny_letOwnedTupleGo_zip (s:={ s with heap:=h' }) a1 fun h2 z2 s2=>?_
  obtain ⟨g0,g1,g2,g3,g4,g5⟩:=fz
  have I2:Inv X pins σ (upd H s.heap.objs.size (.tup [xs[i],ys[i]])) { s with heap:=h2 }:=Inv.turned (s:={ s with heap:=h' }) I1 (t':=s.toks) (it:=z) (fun b o hb e=>(s2.2 b hb).trans e) (by rw [bH (nT z (by simp))];exact g0) g1 g3 g4 g5
  refine ⟨.ref s.heap.objs.size,_,I2,rfl,⟨_,_,_,fT,rfl,rfl,List.getElem?_eq_getElem l1,List.getElem?_eq_getElem l2⟩,?_,fun b hb=>by rw [bH (nT b hb)];exact (hf b hb).1⟩
  exact ⟨z2,s2.extBut _ _ D.h1 (kp TI _ D.h1 D.h5 D.h6 D.h7 e2),⟨_,_,s2.extBut _ _ D.h2 a2⟩,s2.extBut _ _ D.h3 a3,s2.extBut _ _ D.h4 a4⟩
 done:=by
  intro X hP hw hK hc i pins s σ H E I hf st hg
  subst hP hw hK
  obtain ⟨e1,e2,⟨a0,c0,e3⟩,e4,e5⟩:=st
  obtain ⟨ht,hl⟩:=hg
  obtain ⟨its,rv,pt,hz⟩:=I.tuple ht
  have hlen:=rv.length
  refine aQw (I.ok.hd hc) D e1 e2 e3 e4 (show s.heap.IsTuple t its.toArray from pt) (by simp;lia) (I.tup_ne ht (hf z (by simp))) fun h' kp=>⟨rfl,?_⟩
  refine Inv.aM6 (ch:=[z,TO,i1,i2]) I (fun b hb=>hf b ?_) fun b o hb e=>?_
  ·simp only [List.mem_cons,List.not_mem_nil,or_false] at hb ⊢
   rcases hb with h|h|h|h <;> simp [h]
  ·simp only [List.mem_cons,List.not_mem_nil,or_false,not_or] at hb
   exact kp b o hb.1 hb.2.1 hb.2.2.1 hb.2.2.2 e
 self:=fun _ _ _ _ _ st h=>wpAny_pyIter_zip st.1 h
section
variable {X:Cx}
def aNw (K:PySem.W.Frag) (ta:TA):TI:=fun σ H R=>ta σ H fun vs H1=>∃t u xs ys,vs=[.ref t,.ref u]∧SqT K H1 t xs∧SqT K H1 u ys∧R (Itz K t u xs ys) H1
theorem aTs {elts:List Expr} {kt:Nat} {tp:Pos} {a b:Expr} {ta:TA} {p pos:Pos} (hg:Gl X "zip") (hm:X.mg "zip"=none) (ha:PA X [a,b] ta) (hs:starEach [a,b] X.env=(false,eval a X.env)::starEach [b] X.env:=by rfl)
  (hs2:starEach [b] X.env=[(false,eval b X.env)]:=by rfl):PI X (.Tuple elts kt tp) (.Call (.Name "zip" p) [a,b] [] pos) (aNw X.K ta):=by
 intro pins s σ H R I h
 refine Call_ (qT I hg hm aQm (PyProof.Rows.callWith_type1 (thn (ha pos pins s σ H _ I h) fun us s1 ⟨vs,H1,I1,r1,q1⟩=>?_) hs (by rw [hs2];rfl)))
 obtain ⟨t,u,xs,ys,e,ht,hu,q⟩:=q1
 subst e
 obtain ⟨its,rv,pt,hz⟩:=I1.tuple ht
 obtain ⟨jts,rw',pu,hz'⟩:=I1.tuple hu
 cases r1 with
 |cons r rr=>
  cases rr with
  |cons r' rr'=>
   cases rr'
   cases r
   cases r'
   refine aPr (show s1.heap.IsTuple t its.toArray from pt) (show s1.heap.IsTuple u jts.toArray from pu) ?_
   have z1:(zT1 s1.heap t).objs.size=s1.heap.objs.size+1:=Heap.size_push ..
   have z2:(zT2 s1.heap t u).objs.size=s1.heap.objs.size+2:=by rw [Heap.size_push,z1]
   have z3:(zT3 s1.heap t u).objs.size=s1.heap.objs.size+3:=by rw [Heap.size_push,z2]
   have z4:(zT4 s1.heap t u).objs.size=s1.heap.objs.size+4:=by rw [Heap.size_push,z3]
   have D:oE (zT4 s1.heap t u).objs.size (zT2 s1.heap t u).objs.size (zT3 s1.heap t u).objs.size s1.heap.objs.size (zT1 s1.heap t).objs.size:=by
    constructor <;> (show (_:Nat)≠(_:Nat);rw [Ne];intro h;simp only [z1,z2,z3,z4] at h;lia)
   have g5:(zT5 s1.heap t u).get? (zT4 s1.heap t u).objs.size=some (oG .none (zT2 s1.heap t u).objs.size (zT3 s1.heap t u).objs.size):=Heap.get?_push_size _ rfl
   have g4:(zT5 s1.heap t u).get? (zT3 s1.heap t u).objs.size=some (fM .none .none):=Heap.get?_push_of_some _ (Heap.get?_push_size _ rfl)
   have g3:(zT5 s1.heap t u).get? (zT2 s1.heap t u).objs.size=some (fM (.ref s1.heap.objs.size) (.ref (zT1 s1.heap t).objs.size)):=Heap.get?_push_of_some _ (Heap.get?_push_of_some _ (Heap.get?_push_size _ rfl))
   have g2:(zT5 s1.heap t u).get? (zT1 s1.heap t).objs.size=some (lY u 0):=Heap.get?_push_of_some _ (Heap.get?_push_of_some _ (Heap.get?_push_of_some _ (Heap.get?_push_size _ rfl)))
   have g1:(zT5 s1.heap t u).get? s1.heap.objs.size=some (lY t 0):=Heap.get?_push_of_some _ (Heap.get?_push_of_some _ (Heap.get?_push_of_some _ (Heap.get?_push_of_some _ (Heap.get?_push_size _ rfl))))
   have I2:Inv X pins σ H1 { s1 with heap:=zT5 s1.heap t u }:=I1.kept (t':=s1.toks) fun b o e=>Heap.get?_push_of_some _ (Heap.get?_push_of_some _ (Heap.get?_push_of_some _ (Heap.get?_push_of_some _ (Heap.get?_push_of_some _ e))))
   refine wpAny_pyIter_zip (s:={ s1 with heap:=zT5 s1.heap t u }) g5 ⟨_,_,_,_,H1,rfl,I2,aRv (xs:=xs) (ys:=ys) D,⟨g5,g3,⟨_,_,g4⟩,g1,g2⟩,fun b hb=>?_,q⟩
   have hb':s1.heap.objs.size≤b:=by
    simp only [List.mem_cons,List.not_mem_nil,or_false] at hb
    rcases hb with rfl|rfl|rfl|rfl|rfl
    ·rw [z4];exact Nat.le_add_right ..
    ·rw [z2];exact Nat.le_add_right ..
    ·rw [z3];exact Nat.le_add_right ..
    ·exact Nat.le_refl _
    ·rw [z1];exact Nat.le_add_right ..
   exact I1.aHw hb' (I1.hok.fresh hb')
end
def Held (P:Program) (w:World) (K:PySem.W.Frag) (mg:Str→Option Value) (base:Heap) (k:Nat) (f:Addr) (ps:List Str) (sp:Sp):Prop:=
 ∃fd,PySem.W.keepIn K (.ref f)=true∧Binds K fd ps []∧qM P w K mg base CX0 k f fd ps sp
theorem Ok.held {P:Program} {w:World} {K:PySem.W.Frag} {mg:Str→Option Value} {base:Heap} {k:Nat} {x:Str} {ps:List Str} {sp:Sp} (G:Ok P w K mg base k x ps sp):∃f,mg x=some (.ref f)∧Held P w K mg base k f ps sp:=by
 obtain ⟨f,fd,h1,h2,h3,h4⟩:=G
 exact ⟨f,h1,fd,h2,h3,h4⟩
theorem Held.mono {P:Program} {w:World} {K:PySem.W.Frag} {mg:Str→Option Value} {base:Heap} {j k:Nat} {f:Addr} {ps:List Str} {sp:Sp} (h:Held P w K mg base j f ps sp) (hj:j≤k):Held P w K mg base k f ps sp:=by
 obtain ⟨fd,h1,h2,h3⟩:=h
 exact ⟨fd,h1,h2,h3.mono hj⟩
section
variable {X:Cx} {x:Str} {p pos:Pos} {e:Expr} {es:List Expr} {te:TE} {t:TA}
def aQ8 (P:Program) (w:World) (K:PySem.W.Frag) (mg:Str→Option Value) (base:Heap) (k:Nat) (te:TE) (t:TA):TE:=fun σ H Q=>te σ H fun v H1=>∃f ps sp,v=.ref f∧Held P w K mg base k f ps sp∧t σ H1 fun vs H2=>sp vs H2 Q E0
theorem aVm {k:Nat} (hr:Room k X.A) (hf:PE X (.Name x p) te) (ha:PA X (e::es) t)
  (he:starEach (e::es) X.env=(false,eval e X.env)::starEach es X.env:=by rfl) (hpl:(backTo pos (starEach es X.env)).any (·.1)=false:=by rfl) :
  PE X (.Call (.Name x p) (e::es) [] pos) (aQ8 X.prog X.w X.K X.mg X.base k te t):=by
 intro pins s σ H Q I h
 refine wpAny_Call_Name_kw (thn (hf pins s σ H _ I h) fun u s1 ⟨v,H1,I1,r1,q1⟩=>?_)
 obtain ⟨f,ps,sp,rfl,⟨fd,hk,hb,F⟩,q⟩:=q1
 obtain rfl:u=Value.ref f:=r1
 refine PySem.W.callWith_K (h₀:=X.base) I1.ok.mod.kin hk (thn (ha pos pins s1 σ H1 _ I1 q) fun us s2 ⟨vs,H2,I2,r,q2⟩=>⟨I2.kIn,?_⟩) he hpl
 exact aLa F hr hb .nil aSy I2 r (by simpa using q2)
end
end L2
namespace PySem
end PySem
namespace L2
open PySem PySem.Spec PyProof.Rows
section
variable {X:Cx}
theorem aUz:OpR X (binaryOp .Add) (fun x y H Q=>∃a b ys,x=.ref a∧y=.ref b∧SqT X.K H a []∧SqT X.K H b ys∧Q (.ref b) H):=by
 intro pins s σ H x y v u Q I rx ry h
 obtain ⟨a,b,ys,rfl,rfl,ha,hb,q⟩:=h
 cases rx
 cases ry
 obtain ⟨its,r1,p1,_⟩:=I.tuple ha
 obtain ⟨its2,r2,p2,_⟩:=I.tuple hb
 cases r1
 obtain ⟨⟨cls,dd,data,sl⟩,ho,hc,n,hd⟩:=id p1
 obtain ⟨⟨cls2,dd2,data2,sl2⟩,ho2,hc2,n2,hd2⟩:=id p2
 simp only at hc hd hc2 hd2
 subst hc hd hc2 hd2
 exact concat_meets ⟨_,ho,rfl⟩ ⟨_,ho2,rfl⟩ noFill_tuple_add seq_tuple_add PySem.F.slot_tuple_add PySem.F.entry_tuple_add (PySem.F.args_tuple_add_2 _ _)
  (tuple_addW0 a b #[] its2.toArray n n2 dd dd2 sl sl2 rfl) ⟨ho,ho2,⟨.ref b,H,I,rfl,q⟩⟩
end
section
variable {X:Cx}
inductive Tk (K:PySem.W.Frag) (H:Hp):V→Bool→Prop
 |int {i}:Tk K H (.int i) false
 |str {x}:Tk K H (.str x) false
 |bl {b}:Tk K H (.bl b) false
 |non:Tk K H .non false
 |lst {a xs}:SqL K H a xs→Tk K H (.ref a) false
 |dct {a kvs}:H a=some (.dK kvs)→Tk K H (.ref a) false
 |tup {a xs}:SqT K H a xs→Tk K H (.ref a) true
def aZk (K:PySem.W.Frag):List V→Hp→VK→Prop:=fun xs H Q=>∃x b,xs=[x,.ty "tuple"]∧Tk K H x b∧Q (.bl b) H
theorem nC:cY X (.builtin "isinstance") (aZk X.K):=by
 intro pins s σ H xs us Q I r h
 obtain ⟨x,b,rfl,hx,q⟩:=h
 obtain ⟨u,v,rfl,rx,rT⟩:=r.two
 cases rT
 have f0:EP X pins σ Q (.bool b) s:=⟨.bl _,H,I,rfl,q⟩
 have f1:EP X pins σ Q (.bool b) { s with toks:=s.toks+1 }:=⟨.bl _,H,I.tok _,rfl,q⟩
 cases hx with
 |int=>obtain ⟨t,rfl⟩:=rx;exact IsiPair.int_tuple f1
 |str=>obtain ⟨t,rfl⟩:=rx;exact IsiPair.str_tuple f1
 |bl=>cases rx;exact IsiPair.bool_tuple f1
 |non=>cases rx;exact IsiPair.NoneType_tuple f1
 |lst hq=>
  cases rx
  obtain ⟨its,rv,⟨o,n,e,c,_⟩,hz⟩:=I.list hq
  exact IsiPair.list_tuple e c f1
 |dct hq=>
  cases rx
  obtain ⟨_,_,_,_,o,_,_,e,ex,_⟩:=I.hok _ _ hq
  exact IsiPair.dict_tuple e ex.1 f1
 |tup hq=>
  cases rx
  obtain ⟨its,rv,⟨o,e,c,_⟩,hz⟩:=I.tuple hq
  exact IsiPair.tuple_tuple e c f0
end
section
variable {X:Cx} {scope:Scope} {N:List Str} {wi:TI} {te:TE} {σ:St} {H:Hp} {Q:VK}
theorem iZ {σ0:St} {j:Nat} (h0:σ0[j]?=some none):σ0=σ0.set j none:=by
 refine (List.ext_getElem? fun i=>?_)
 rw [List.getElem?_set]
 split
 ·rename_i hj
  subst hj
  split
  ·exact h0
  ·rename_i hlt
   exact List.getElem?_eq_none_iff.mpr (by lia)
 ·rfl
theorem aOw (xs:List V) (f:V→V) (σ0:St) (cap:Cap X scope N σ σ0) (hsz:xs.length≤sizeLine)
  (hw:∀R:It→Hp→Prop,(∀J:It,(∀H' i x,Same H H'→xs[i]?=some x→J.go i H'∧∀y H2,J.yld i H' y H2→H2=H'∧y=x)→(∀H',Same H H'→J.stop xs.length H')→R J H)→wi σ H R)
  (he:∀x∈xs,∀H' R l,Same H H'→(∀H2,Same H' H2→R (f x) H2)→te ((σ0.set 0 l).set 0 (some x)) H' R) (h0:σ0[0]?=some none)
  (q:∀D H',Same H H'→H' D=some (.lst (xs.map f))→Q (.ref D) H') :
  iQ X scope N wi (bO 0) pD te σ H Q:=by
 refine ⟨σ0,cap,hw _ fun J go stop D hD=>?_⟩
 refine ⟨fun i m σ' H' ys=>i≤xs.length∧m=xs.length - i∧(∃l,σ'=σ0.set 0 l)∧Same H H'∧H' D=some (.lst ys)∧ys=(xs.take i).map f,⟨xs.length,Nat.zero_le _,rfl,⟨none,iZ h0⟩,bM hD _,aQ,rfl⟩,?_⟩
 rintro i m σ' H' ys ⟨hi,rfl,⟨l,rfl⟩,sm,hL,rfl⟩
 refine ⟨hL,?_⟩
 by_cases hlt:i<xs.length
 ·right
  obtain ⟨g1,g2⟩:=go H' i xs[i] sm (List.getElem?_eq_getElem hlt)
  refine ⟨g1,fun x H2 hy=>?_⟩
  obtain ⟨rfl,rfl⟩:=g2 x H2 hy
  unfold bO pD
  dsimp only
  rw [if_pos rfl]
  refine he xs[i] (List.getElem_mem hlt) _ _ l sm fun H3 s3=>⟨s3 _ _ hL,?_,xs.length - (i+1),by lia,hlt,rfl,⟨some xs[i],?_⟩,?_,aQ,?_⟩
  ·rw [List.length_map,List.length_take];lia
  ·rw [List.set_set]
  ·intro b o e
   rw [bH (bD e hD)]
   exact s3 _ _ (sm _ _ e)
  ·rw [List.take_add_one,List.getElem?_eq_getElem hlt,List.map_append]
   rfl
 ·left
  have e:i=xs.length:=by lia
  subst e
  refine ⟨stop _ sm,?_⟩
  rw [List.take_length] at hL
  exact q D _ sm hL
theorem mD {K:PySem.W.Frag} {a:Addr} {xs:List V} {tl:TE} (hS:SqT K H a xs) (h:∀R:VK,R (.ref a) H→tl σ H R) (R:It→Hp→Prop)
  (q:∀J:It,(∀H' i x,Same H H'→xs[i]?=some x→J.go i H'∧∀y H2,J.yld i H' y H2→H2=H'∧y=x)→(∀H',Same H H'→J.stop xs.length H')→R J H):aCx K tl σ H R:=by
 refine h _ ⟨a,rfl,⟨xs,hS⟩,q _ (fun H' i x s e=>⟨⟨xs,x,s.aK hS,e⟩,fun y H2 hy=>?_⟩) fun H' s=>⟨xs,s.aK hS,Nat.le_refl _⟩⟩
 obtain ⟨e1,e2⟩:=hy
 have e3:=e2 xs (s.aK hS)
 rw [e] at e3
 cases e3
 exact ⟨e1,rfl⟩
end
section
variable {X:Cx}
def bA5:V→Option Int→Option Int→Hp→VK→Prop:=fun x lo hi H Q=>∃z,x=.str z∧z.length≤sizeLine∧Q (.str (Txt.slice z lo hi)) H
theorem aEz:SlR X bA5:=by
 intro pins s σ H x v vl vu lo hi sl Q I rx hs pl pu h
 obtain ⟨z,rfl,hz,q⟩:=h
 obtain ⟨t,rfl⟩:=rx
 have fin:∀l u:Option (Int × Tok),l.map (·.1)=lo→u.map (·.1)=hi→s.heap.IsSlice sl l u none→wpAny (model X.prog X.w) X.A (getItem (.str z t) (.ref sl)) (EP X pins σ Q) X.xe s:=fun l u e1 e2 hsl=>by
  subst e1 e2
  refine wpAny_getItem_str_slice (st:=none) hsl rfl ?_
  unfold sliceMade
  have hle:=Txt.slice_le z (l.map (·.1)) (u.map (·.1))
  exact post_val_or_str ⟨Nat.le_trans hle hz,fun t' k=>⟨.str (Txt.slice z (l.map (·.1)) (u.map (·.1))),H,I.tok _,⟨_,rfl⟩,q⟩⟩
 refine ⟨"str",_,F.slot_str_getitem.lookup,typeIs_str _ _ _,?_⟩
 obtain ⟨o,ho,hc,hd⟩:=hs
 cases pl with
 |none=>
  cases pu with
  |none=>exact fin none none rfl rfl ⟨o,ho,hc,hd⟩
  |int j u=>exact fin none (some (j,u)) rfl rfl ⟨o,ho,hc,hd⟩
 |int i t=>
  cases pu with
  |none=>exact fin (some (i,t)) none rfl rfl ⟨o,ho,hc,hd⟩
  |int j u=>exact fin (some (i,t)) (some (j,u)) rfl rfl ⟨o,ho,hc,hd⟩
end
theorem cX {X:Cx} {scope:Scope} {x y:Str} {σ:St} {v:V} (j:Nat) (hf:(y,NameKind.free)∈scope.names) (hj:X.N[j]?=some y) (hs:σ[j]?=some (some v)) (hv:Vis X.env.scope y):Cap X scope [x,y] σ [none,some v]:=
 ⟨rfl,fun i z u h1 h2=>by
  match i,h1,h2 with
  |0,_,h2=>cases h2
  |1,h1,h2=>cases h1;cases h2;exact ⟨hf,j,hj,hs,hv⟩
  |i+2,h1,_=>cases h1⟩
theorem gQ {X:Cx} {scope:Scope} {x y:Str} {σ:St}:Cap X scope [x,y] σ [none,none]:=⟨rfl,fun i z u h1 h2=>by
  match i,h1,h2 with
  |0,_,h2=>cases h2
  |1,_,h2=>cases h2
  |i+2,h1,_=>cases h1⟩
section
variable {X:Cx} {a b e:Expr} {es:List Expr} {te:TE} {t:TA} {pos p:Pos} {x:Str}
theorem aU1 {k:Nat} (hr:Room k X.A) (hf:VE X (.Name x p) te) (ha:VA X (e::es) t) (hp:iC e=true:=by rfl) (hpl:(backTo pos (starEach es X.env)).any (·.1)=false:=by rfl) :
  VE X (.Call (.Name x p) (e::es) [] pos) (aQ8 X.prog X.w X.K X.mg X.base k te t):=⟨aVm hr hf.1 ha.1 (bV hp) hpl⟩
theorem aIr {P:Program} {w:World} {K:PySem.W.Frag} {mg:Str→Option Value} {base:Heap} {k:Nat} (hr:Room k X.A) (hf:VE X (.Name x p) te) (ha:VA X (e::es) t) (hp:iC e=true:=by rfl) (hpl:(backTo pos (starEach es X.env)).any (·.1)=false:=by rfl)
  (h1:X.prog=P:=by rfl) (h2:X.w=w:=by rfl) (h3:X.K=K:=by rfl) (h4:X.mg=mg:=by rfl) (h5:X.base=base:=by rfl) :
  VE X (.Call (.Name x p) (e::es) [] pos) (aQ8 P w K mg base k te t):=by
 subst h1 h2 h3 h4 h5
 exact aU1 hr hf ha hp hpl
theorem cD {K:PySem.W.Frag} (h:X.K=K:=by rfl):IxR X (aW4 K):=by subst h;exact aR
theorem jQ {K:PySem.W.Frag} {k:Nat} {u:TGs} {n:Nat} (hc:X.calm=true) (h:VGs X es u) (hn:(assignEach es X.env).length=n:=by rfl) (hst:(assignEach es X.env).findIdx? (·.1)=none:=by rfl) (hK:X.K=K:=by rfl):VG X (.Tuple es k pos) (aDa K n u):=by
 subst hK
 exact mG hc h hn hst
theorem aE2 {elts:List Expr} {kt:Nat} {tp:Pos} (hg:Gl X "zip") (hm:X.mg "zip"=none) (ha:VA X [a,b] t) (hp:iC a=true:=by rfl) (hp2:iC b=true:=by rfl) :
  VI X (.Tuple elts kt tp) (.Call (.Name "zip" p) [a,b] [] pos) (aNw X.K t):=⟨aTs hg hm ha.1 (bV hp) (bV (es:=[]) hp2)⟩
theorem rF {tg:Expr} {g:TG} (he:VE X e te) (hg:VG X tg g) (hs:swapsWithSole [tg] e pos.line X.env=pure false:=by rfl) (hw:swappedStores [tg] e X.env=pure none:=by rfl)
  (h1:(assignEach [tg] X.env).map (·.2)=[assign tg X.env]:=by rfl):VS X (.Assign [tg] e pos) (iU te g):=⟨aXn he.1 hg.1 hs hw h1⟩
end
theorem aFb {ta:TA} {σ:St} {H:Hp} (n:Nat) (h:∀R:List V→Hp→Prop,R [.int n] H→ta σ H R) (hn:(n:Int)<2 ^ 62) (R:It→Hp→Prop)
  (q:∀J:It,(∀H' i x,Same H H'→((List.range n).map fun i:Nat=>V.int (0+(i:Int)))[i]?=some x→J.go i H'∧∀y H2,J.yld i H' y H2→H2=H'∧y=x) →
   (∀H',Same H H'→J.stop ((List.range n).map fun i:Nat=>V.int (0+(i:Int))).length H')→R J H):aSe ta σ H R:=by
 refine h _ ⟨n,rfl,by lia,hn,?_⟩
 refine q _ (fun H' i x _ e=>?_) fun H' _=>?_
 ·rw [List.getElem?_map] at e
  have hi:i<n:=by
   cases hr:(List.range n)[i]? with
   |none=>rw [hr] at e;cases e
   |some j=>have:=(List.getElem?_eq_some_iff.mp hr).1;rwa [List.length_range] at this
  rw [List.getElem?_range hi] at e
  cases e
  exact ⟨show i<((n:Int)).toNat from by lia,fun y H2 hy=>hy⟩
 ·rw [List.length_map,List.length_range]
  simp [Itr]
theorem aS1 {x:Str} {j:Nat} (h:j≤x.length):(Txt.slice x none (some (j:Int))).cps.toList=x.cps.toList.take j:=by
 have e:=StrLaws.sliceText_to (x:=x) (j:=(j:Int)) ⟨by lia,by rw [Array.length_toList];exact Int.ofNat_le.mpr h⟩
 show (StrLaws.sliceText x none (some (j:Int))).cps.toList=_
 rw [e]
 simp
theorem aKw {x:Str} {j:Nat} (h:j≤x.length):(Txt.slice x (some (j:Int)) none).cps.toList=x.cps.toList.drop j:=by
 have e:=StrLaws.sliceText_from (x:=x) (i:=(j:Int)) ⟨by lia,by rw [Array.length_toList];exact Int.ofNat_le.mpr h⟩
 show (StrLaws.sliceText x (some (j:Int)) none).cps.toList=_
 rw [e]
 simp only [Int.toNat_natCast]
 refine List.take_of_length_le ?_
 rw [List.length_drop]
 lia
def put (x:Str) (a:Nat) (c:Nat):Str:=Txt.slice x none (some (a:Int))++⟨#[c]⟩++Txt.slice x (some (a:Int)) none
theorem aF3 {x:Str} {a c:Nat} (h:a≤x.length):(put x a c).cps.toList=x.cps.toList.take a++c::x.cps.toList.drop a:=by
 show ((Txt.slice x none (some (a:Int))).cps++#[c]++(Txt.slice x (some (a:Int)) none).cps).toList=_
 rw [Array.toList_append,Array.toList_append,aS1 h,aKw h]
 simp
theorem aVd {x:Str} {a c d:Nat} (h:a≤x.length) (e:put x a c=put x a d):c=d:=by
 have e1:=congrArg (fun y:Str=>y.cps.toList) e
 simp only [aF3 h] at e1
 have e2:=List.append_cancel_left e1
 exact (List.cons.inj e2).1
theorem aTx {x:Str} {a c:Nat} (h:a≤x.length):(put x a c).length=x.length+1:=by
 have e:=congrArg List.length (aF3 (c:=c) h)
 have l:x.length=x.cps.toList.length:=by rw [Array.length_toList];rfl
 rw [Array.length_toList,List.length_append,List.length_cons,List.length_take,List.length_drop] at e
 show (put x a c).cps.size=_
 lia
theorem aVh {x:Str} {a c d:Nat} (h:a≤x.length) (m:d∈(put x a c).cps):d=c∨d∈x.cps:=by
 have m1:d∈(put x a c).cps.toList:=Array.mem_toList_iff.mpr m
 rw [aF3 h] at m1
 rcases List.mem_append.mp m1 with z|z
 ·exact .inr (Array.mem_toList_iff.mp (List.mem_of_mem_take z))
 ·rcases List.mem_cons.mp z with z|z
  ·exact .inl z
  ·exact .inr (Array.mem_toList_iff.mp (List.mem_of_mem_drop z))
end L2
namespace PySem
theorem aKd:∀(ss σ:List Str),(ss.foldl yI σ).length=σ.length+ss.length↔ss.Nodup∧∀k∈ss,k∉σ
 |[],σ=>by simp
 |v::r,σ=>by
  rw [List.foldl_cons,List.length_cons,List.nodup_cons]
  by_cases h:v∈σ
  ·have e:yI σ v=σ:=by unfold yI;rw [if_pos h]
   rw [e]
   have l:=zA r σ
   constructor
   ·intro z;lia
   ·intro z;exact absurd h (z.2 v (by simp))
  ·have e:yI σ v=σ++[v]:=by unfold yI;rw [if_neg h]
   rw [e]
   have ih:=aKd r (σ++[v])
   rw [List.length_append,List.length_singleton] at ih
   rw [show σ.length+(r.length+1)=σ.length+1+r.length by lia,ih]
   constructor
   ·rintro ⟨a,b⟩
    refine ⟨⟨fun z=>(b v z) (by simp),a⟩,fun k hk=>?_⟩
    rcases List.mem_cons.mp hk with rfl|hk
    ·exact h
    ·exact fun z=>b k hk (by simp [z])
   ·rintro ⟨⟨a,b⟩,c⟩
    refine ⟨b,fun k hk z=>?_⟩
    rcases List.mem_append.mp z with z|z
    ·exact c k (by simp [hk]) z
    ·have:k=v:=by simpa using z
     subst this
     exact a hk
theorem aVj (ss:List Str):(pM ss).length=ss.length↔ss.Nodup:=by
 have h:=aKd ss []
 simp only [List.length_nil,Nat.zero_add,List.not_mem_nil,not_false_eq_true,implies_true,and_true] at h
 exact h
end PySem
namespace L2
open PySem PySem.Spec PyProof.Rows
section
variable {X:Cx} {scope:Scope} {N:List Str} {wi:TI} {te:TE} {σ:St} {H:Hp} {Q:VK}
theorem wC {K:PySem.W.Frag} (h:X.K=K:=by rfl):IxR X (aZt K):=by subst h;exact bN
end
section
variable {X:Cx} {e:Expr} {es:List Expr} {t:TA} {pos:Pos}
def bAd (t:TA):TE:=fun σ H Q=>t σ H fun xs H1=>xs.length≤sizeLine∧∀p H',H1 p=none→Same H1 H'→H' p=some (.tup xs)→Q (.ref p) H'
def aV9 (t:TA):TE:=fun σ H Q=>t σ H fun xs H1=>xs.length≤sizeLine∧∀p H',H1 p=none→Same H1 H'→H' p=some (.lst xs)→Q (.ref p) H'
def aWv:TE:=fun _ H Q=>∀p H',H p=none→Same H H'→H' p=some (.dK [])→Q (.ref p) H'
theorem aY {x1} (h:VA X es t):VE X (.Tuple es x1 pos) (bAd t):=⟨by
 intro pins s σ H Q I hq
 refine wpAny_Tuple_spliced (thn (h.1 pos pins s σ H _ I hq) fun us s1 ⟨xs,H1,I1,r,z,q⟩=>⟨by rw [←r.length];exact z,?_⟩)
 have hf:H1 s1.heap.objs.size=none:=I1.hok.fresh (Nat.le_refl _)
 refine ⟨.ref s1.heap.objs.size,upd H1 s1.heap.objs.size (.tup xs),I1.laid (t':=s1.toks) (fun b u e=>Heap.get?_push_of_some _ e) (Nat.le_refl _) ?_,rfl,q _ _ hf (bM hf _) aQ⟩
 exact ⟨z,us,r,.of (Heap.get?_push_size _ rfl) rfl ⟨_,Heap.get?_push_size _ rfl,rfl,_,rfl⟩⟩⟩
theorem cO (h:VA X es t):VE X (.List es pos) (aV9 t):=⟨by
 intro pins s σ H Q I hq
 refine wpAny_List_spliced (thn (h.1 pos pins s σ H _ I hq) fun us s1 ⟨xs,H1,I1,r,z,q⟩=>⟨by rw [←r.length];exact z,?_⟩)
 have hf:H1 s1.heap.objs.size=none:=I1.hok.fresh (Nat.le_refl _)
 refine ⟨.ref s1.heap.objs.size,upd H1 s1.heap.objs.size (.lst xs),I1.laid (t':=s1.toks) (fun b u e=>Heap.get?_push_of_some _ e) (Nat.le_refl _) ?_,rfl,q _ _ hf (bM hf _) aQ⟩
 exact ⟨z,us,0,r,Heap.get?_push_size _ rfl⟩⟩
theorem aY5:VE X (.Dict [] [] pos) aWv:=VE.imp aRd fun σ H Q h p hp=>h p _ hp (bM hp _) aQ
theorem OpR.imp {f:Value→Value→Sem Value} {r r':R2} (h:OpR X f r) (k:∀x y H Q,r' x y H Q→r x y H Q):OpR X f r':=fun pins s σ H x y v u Q I rx ry q=>h pins s σ H x y v u Q I rx ry (k _ _ _ _ q)
theorem cY.imp {f:Value} {r r':List V→Hp→VK→Prop} (h:cY X f r) (k:∀xs H Q,r' xs H Q→r xs H Q):cY X f r':=fun pins s σ H xs us Q I rv q=>h pins s σ H xs us Q I rv (k _ _ _ q)
def aZz (K:PySem.W.Frag):R2:=fun x y H Q=>∃a b xs ys,x=.ref a∧y=.ref b∧SqT K H a xs∧SqT K H b ys∧xs.length+ys.length≤sizeLine∧∀r H',Same H H'→SqT K H' r (xs++ys)→Q (.ref r) H'
theorem pX:OpR X (binaryOp .Add) (aZz X.K):=OpR.imp (aU6.or aUz) fun x y H Q ⟨a,b,xs,ys,ex,ey,ha,hb,hz,q⟩=>by
 by_cases h:xs=[]
 ·subst h
  exact .inr ⟨a,b,ys,ex,ey,ha,hb,q b H (Same.refl H) hb⟩
 ·refine .inl ⟨a,b,xs,ys,ex,ey,ha,hb,h,hz,fun z=>?_,fun _ p hp=>q p _ (bM hp _) (SqT.of aQ)⟩
  subst z
  exact q a H (Same.refl H) (by rw [List.append_nil];exact ha)
def bAt (K:PySem.W.Frag):V→Option Int→Option Int→Hp→VK→Prop:=fun x lo hi H Q=>∃a xs,x=.ref a∧SqT K H a xs ∧
 ¬ (HT.sIx xs.length 0 lo=0∧HT.sIx xs.length xs.length hi=xs.length)∧∀p H',Same H H'→H' p=some (.tup (qC xs lo hi))→Q (.ref p) H'
theorem aGk:SlR X (bAt X.K):=fun pins s σ H x v vl vu lo hi sl Q I rx hs pl pu ⟨a,xs,e,ha,hn,q⟩=>
 aYh pins s σ H x v vl vu lo hi sl Q I rx hs pl pu ⟨a,xs,e,ha,hn,fun p hp=>q p _ (bM hp _) aQ⟩
def aYq:R2:=fun x y H Q=>∃l b xs zs,x=.ref l∧y=.ref b∧H l=some (.lst xs)∧H b=some (.lst zs)∧xs.length+zs.length≤sizeLine∧∀p H',H p=none→Same H H'→H' p=some (.lst (xs++zs))→Q (.ref p) H'
theorem aTn:OpR X (binaryOp .Add) aYq:=OpR.imp aYw fun x y H Q ⟨l,b,xs,zs,ex,ey,hl,hb,hz,q⟩=>⟨l,b,xs,zs,ex,ey,hl,hb,hz,fun p hp=>q p _ hp (bM hp _) aQ⟩
def aXb (K:PySem.W.Frag):List V→Hp→VK→Prop:=fun xs H Q=>∃p ys,xs=[.ref p]∧(SqL K H p ys∨SqT K H p ys)∧∀l H',H l=none→Same H H'→H' l=some (.lst ys)→Q (.ref l) H'
theorem qZ:cY X (.type "list") (aXb X.K):=cY.imp aFh fun xs H Q ⟨p,ys,e,h,q⟩=>⟨p,ys,e,h,fun l hl=>q l _ hl (bM hl _) aQ⟩
def aTy (K:PySem.W.Frag):List V→Hp→VK→Prop:=fun xs H Q=>∃p ys,xs=[.ref p]∧SqL K H p ys∧∀l H',H l=none→Same H H'→H' l=some (.tup ys)→Q (.ref l) H'
theorem bU:cY X (.type "tuple") (aTy X.K):=cY.imp aDd fun xs H Q ⟨p,ys,e,h,q⟩=>⟨p,ys,e,.inl ⟨h,fun l hl=>q l _ hl (bM hl _) aQ⟩⟩
theorem jZ:MtR X "list.append" aNv:=yL
theorem yH {H H':Hp} {D:Addr} {o:HO} (f:H D=none) (s:Same H H'):Same H (upd H' D o):=fun b u e=>by rw [bH (bD e f)];exact s _ _ e
end
section
variable {X:Cx} {pins:List (Addr × Obj)} {σ:St} {H:Hp} {s:Shared}
end
def Ite (K:PySem.W.Frag) (l:Addr) (xs:List V):It:=
 ⟨fun i H=>SqL K H l xs∧i<xs.length,fun i H v H'=>∃T a,H T=none∧v=.ref T∧H'=upd H T (.tup [.int (i:Nat),a])∧xs[i]?=some a,fun i H=>SqL K H l xs∧xs.length≤i⟩
def etn (e it l:Addr) (i:Nat) (h:Heap):Prop:=(∃old,IsEnum h e it (i:Int) old)∧h.IsListIter it l i
theorem aO3 {P:Program} {w:World} {K:PySem.W.Frag} {elts:List Expr} {kt:Nat} {pos:Pos} {e it l:Addr} {xs:List V} (hne:e≠it) :
  Turn P w K (.Tuple elts kt pos) (Ite K l xs) [e,it] e (etn e it l) where
 mem:=by simp
 obj:=fun i h st b hb=>by
  obtain ⟨⟨old,e1⟩,o,e2,c2,d2⟩:=st
  simp only [List.mem_cons,List.not_mem_nil,or_false] at hb
  rcases hb with rfl|rfl
  ·exact ⟨_,e1,fun v z=>by cases (show Data.fields _=Data.cell v from z)⟩
  ·exact ⟨_,e2,fun v z=>by rw [d2] at z;cases z⟩
 keep:=fun i h h' st k=>by
  obtain ⟨⟨old,e1⟩,o,e2,r⟩:=st
  exact ⟨⟨old,k e (by simp) _ e1⟩,o,k it (by simp) _ e2,r⟩
 item:=by
  intro X hP hw hK hc i pins s σ H E I hf st hg
  subst hP hw hK
  obtain ⟨⟨old,e1⟩,e2⟩:=st
  obtain ⟨hl,l1⟩:=hg
  obtain ⟨its,rv,pl,hz⟩:=I.list hl
  obtain ⟨x,hx,rx⟩:=rv.get (List.getElem?_eq_getElem l1)
  have fe:=hf e (by simp)
  have fi:=hf it (by simp)
  refine wpAny_pyNext_enum_item e1 e2 pl.isList (by simpa using hx) hne fun h' a1 a2 a3 a4 kp=>?_
  refine ⟨_,rfl,?_⟩
  have fT:H s.heap.objs.size=none:=I.hok.fresh (Nat.le_refl _)
  obtain ⟨oi,e2',_⟩:=id e2
  obtain ⟨oi2,a2',_⟩:=id a2
  have I1:Inv X pins σ (upd H s.heap.objs.size (.tup [.int (i:Nat),xs[i]])) { s with heap:=h' }:=by
   refine I.drawn (ch:=[e,it]) (its:=[.int i s.toks,x]) (fun b hb=>hf b hb) (fun b o hb z=>?_) (Nat.le_refl _) (.cons ⟨_,rfl⟩ (.cons rx .nil)) (small (by simp)) (.of a3 rfl ⟨_,a3,rfl,_,rfl⟩) (fun b hb=>?_)
   ·simp only [List.mem_cons,List.not_mem_nil,or_false,not_or] at hb
    exact kp b o hb.1 hb.2 z
   ·simp only [List.mem_cons,List.not_mem_nil,or_false] at hb
    rcases hb with rfl|rfl
    ·exact ⟨_,a1⟩
    ·exact ⟨_,a2'⟩
  have I1':Inv X pins σ (upd H s.heap.objs.size (.tup [.int (i:Nat),xs[i]])) { s with heap:=h',toks:=s.toks+1 }:=I1.tok _
  have nT:∀b∈[e,it],b≠s.heap.objs.size:=fun b hb=>by
   simp only [List.mem_cons,List.not_mem_nil,or_false] at hb
   rcases hb with rfl|rfl
   ·exact Nat.ne_of_lt (Heap.lt_size e1)
   ·exact Nat.ne_of_lt (Heap.lt_size e2')
  refine wpAny_letOwnedTupleGo_enum (s:={ s with heap:=h',toks:=s.toks+1 }) a1 fun h2 z2 s2=>?_
  obtain ⟨g0,g1,g2,g3,g4,g5⟩:=fe
  have I2:Inv X pins σ (upd H s.heap.objs.size (.tup [.int (i:Nat),xs[i]])) { s with heap:=h2,toks:=s.toks+1 }:=Inv.turned (s:={ s with heap:=h',toks:=s.toks+1 }) I1' (t':=s.toks+1) (it:=e) (fun b o hb z=>(s2.2 b hb).trans z) (by rw [bH (nT e (by simp))];exact g0) g1 g3 g4 g5
  refine ⟨.ref s.heap.objs.size,_,I2,rfl,⟨_,_,fT,rfl,rfl,List.getElem?_eq_getElem l1⟩,⟨⟨x,?_⟩,?_⟩,fun b hb=>by rw [bH (nT b hb)];exact (hf b hb).1⟩
  ·rw [show ((i+1:Nat):Int)=(i:Int)+1 from by lia]
   exact z2
  ·obtain ⟨o,ho,r⟩:=a2
   exact ⟨o,(s2.2 it (Ne.symm hne)).trans ho,r⟩
 done:=by
  intro X hP hw hK hc i pins s σ H E I hf st hg
  subst hP hw hK
  obtain ⟨⟨old,e1⟩,e2⟩:=st
  obtain ⟨hl,hi⟩:=hg
  obtain ⟨its,rv,pl,hz⟩:=I.list hl
  have hlen:=rv.length
  refine wpAny_pyNext_enum_end (I.ok.hd hc) e1 e2 pl.isList (by simp;lia) fun h' kp=>⟨rfl,?_⟩
  refine Inv.aM6 (ch:=[it]) I (fun b hb=>hf b (List.mem_cons_of_mem _ hb)) fun b o hb z=>kp b o (by simpa using hb) z
 self:=fun _ _ _ _ _ st h=>by
  obtain ⟨⟨old,e1⟩,_⟩:=st
  exact wpAny_pyIter_enum e1 h
section
variable {X:Cx}
def aV7 (K:PySem.W.Frag) (ta:TA):TI:=fun σ H R=>ta σ H fun vs H1=>∃l xs,vs=[.ref l]∧SqL K H1 l xs∧R (Ite K l xs) H1
theorem aVu {elts:List Expr} {kt:Nat} {tp:Pos} {a:Expr} {ta:TA} {p pos:Pos} (hg:Gl X "enumerate") (hm:X.mg "enumerate"=none) (ha:PA X [a] ta) (hs:starEach [a] X.env=[(false,eval a X.env)]:=by rfl) :
  PI X (.Tuple elts kt tp) (.Call (.Name "enumerate" p) [a] [] pos) (aV7 X.K ta):=by
 intro pins s σ H R I h
 refine Call_ (qT I hg hm aGx (PyProof.Rows.callWith_type1 (thn (ha pos pins s σ H _ I h) fun us s1 ⟨vs,H1,I1,r1,q1⟩=>?_) hs (by rfl)))
 obtain ⟨l,xs,e,hl,q⟩:=q1
 subst e
 obtain ⟨its,rv,pl,hz⟩:=I1.list hl
 obtain ⟨u,rfl,ru⟩:=vals1 r1
 cases ru
 refine call_enumerate_list pl.isList fun h' a1 a2 a3 kp=>?_
 have I2:Inv X pins σ H1 { s1 with heap:=h' }:=I1.kept (t':=s1.toks) kp
 refine wpAny_pyIter_enum (s:={ s1 with heap:=h' }) a1 ⟨_,_,_,_,H1,rfl,I2,aO3 (xs:=xs) (l:=l) (Nat.ne_of_gt (Nat.lt_succ_self _)),⟨⟨_,a1⟩,a2⟩,fun b hb=>?_,q⟩
 have hb':s1.heap.objs.size≤b:=by
  simp only [List.mem_cons,List.not_mem_nil,or_false] at hb
  rcases hb with rfl|rfl
  ·exact Nat.le_succ _
  ·exact Nat.le_refl _
 exact I1.aHw hb' (I1.hok.fresh hb')
theorem aTi {K:PySem.W.Frag} {l:Addr} {xs:List V} {g:TG} {tb:TS} {D:Ends} {σ:St} {H:Hp} (Pv:Nat→St→Hp→Prop) (h0:Pv 0 σ H) (hl:∀i σ H,i≤xs.length→Pv i σ H→SqL K H l xs)
  (hs:∀i σ H a T H',xs[i]?=some a→Pv i σ H→H T=none→H'=upd H T (.tup [.int (i:Nat),a])→g (.ref T) σ H' fun σ2 H2=>tb { D with nx:=Pv (i+1),ct:=Pv (i+1),bk:=D.nx } σ2 H2) (hd:∀σ H,Pv xs.length σ H→D.nx σ H) :
  ∃W:Nat→Nat→St→Hp→Prop,(∃m,W 0 m σ H)∧∀i m σ H,W i m σ H →
   ((Ite K l xs).stop i H∧D.nx σ H)∨((Ite K l xs).go i H∧∃N:St→Hp→Prop,(∀σ' H',N σ' H'→∃m',m'<m∧W (i+1) m' σ' H')∧∀x H',(Ite K l xs).yld i H x H'→g x σ H' fun σ2 H2=>tb { D with nx:=N,ct:=N,bk:=D.nx } σ2 H2):=by
 refine ⟨fun i m σ H=>m=xs.length - i∧i≤xs.length∧Pv i σ H,⟨xs.length,by simp,Nat.zero_le _,h0⟩,?_⟩
 rintro i m σ H ⟨rfl,hi,p⟩
 by_cases hlt:i<xs.length
 ·refine .inr ⟨⟨hl i σ H hi p,hlt⟩,Pv (i+1),fun σ' H' p'=>⟨xs.length - (i+1),by lia,rfl,hlt,p'⟩,fun x H' y=>?_⟩
  obtain ⟨T,a,hT,rfl,e,ha⟩:=y
  exact hs i σ H a T H' ha p hT e
 ·have e:i=xs.length:=by lia
  subst e
  exact .inl ⟨⟨hl _ σ H hi p,Nat.le_refl _⟩,hd σ H p⟩
end
end L2
namespace PySem
section
variable {prog:Program} {w:World} {A:Around} {E:Value→Shared→Prop} {s:Shared} {T:String} {r d:Addr} {n:Nat} {P:Nat→Value→Prop} {OK:Heap→Prop}
theorem aI4 {Q:List Value→Shared→Prop} (Kd:PySem.W.KdlSrc prog w T r d n P OK) (hh:A.handled=none) (hok:OK s.heap)
  (hQ:∀h' tk acc,(∀b o,s.heap.get? b=some o→h'.get? b=some o)→ItemsOf P acc n→Q acc.toList { s with heap:=h',toks:=tk }) (hn:n≤sizeLine) :
  wpAny (model prog w) A (collect (.ref r)) Q E s:=by
 unfold collect
 refine wpAny_bind (wpAny_runValue (codeAny_builtin F.entry_proto_collect ?_))
 rw [Around.under_plainId F.plain_proto_collect _]
 show wpAny _ A.in1 (newList [] >>= fun l=>again (.builtin "list.__iadd__" ⟨[l,.ref r],[]⟩)) _ _ s
 refine wpAny_bind (wpAny_newObj_type ?_)
 refine wpAny_pure ⟨plainId_quiet F.plain_list_iadd _,codeAny_builtin F.entry_list_iadd ?_⟩
 rw [Around.under_plainId F.plain_list_iadd _]
 show wpAny _ A.in1 (Builtin.List.listExtendWith (.ref s.heap.objs.size) (.ref r) (.ref s.heap.objs.size)) _ _ _
 have hS:(s.heap.push { cls:=.type "list",data:=.seq ([]:List Value).toArray }).get? s.heap.objs.size=some { cls:=.type "list",data:=.seq #[] 0 }:=Heap.get?_push_size _ rfl
 have hlt:=Kd.there _ hok
 have fin':∀h' tk acc' c',(∀b o,b≠s.heap.objs.size→(s.heap.push { cls:=.type "list",data:=.seq ([]:List Value).toArray }).get? b=some o→h'.get? b=some o) →
   h'.get? s.heap.objs.size=some { cls:=.type "list",dict:=none,data:=.seq acc' c',slots:=#[] }→ItemsOf P acc' n →
   wpAny (model prog w) A (match Value.ref s.heap.objs.size with
   |Value.ref a=>do
    match (←load a).data with
     |Data.seq xs _=>pure xs.toList
     |_=>unsupported "internal:collect"
   |_=>unsupported "internal:collect") Q E { s with heap:=h',toks:=tk }:=by
  intro h' tk acc' c' kp hS' hacc
  show wpAny _ A (load s.heap.objs.size >>= _) _ _ _
  refine wpAny_bind (wpAny_load hS' ?_)
  refine wpAny_pure ?_
  exact hQ h' tk acc' (fun b o e=>kp b o (Nat.ne_of_lt (Heap.lt_size e)) (Heap.get?_push_of_some _ e)) hacc
 refine wpAny_mono (PySem.W.kdl_extend (A:=A) (R:=fun q s'=>∃h' tk acc' c',q=.ok (.ret (.ref s.heap.objs.size))∧s'={ s with heap:=h',toks:=tk }∧(∀b o,b≠s.heap.objs.size→(s.heap.push { cls:=.type "list",data:=.seq ([]:List Value).toArray }).get? b=some o→h'.get? b=some o) ∧
   h'.get? s.heap.objs.size=some { cls:=.type "list",dict:=none,data:=.seq acc' c',slots:=#[] }∧ItemsOf P acc' n)
  (s:={ s with heap:=s.heap.push { cls:=.type "list",data:=.seq ([]:List Value).toArray } }) Kd hh (Kd.keep _ _ hok fun b _ o e=>Heap.get?_push_of_some _ e) s.heap.objs.size (Nat.ne_of_gt hlt.1) (Nat.ne_of_gt hlt.2) (.ref s.heap.objs.size) 0 hS
   (fun h' tk acc' c' kp hS' hacc=>⟨h',tk,acc',c',rfl,rfl,kp,hS',hacc⟩) hn) (fun fin s' h=>?_) (fun e s' h=>?_)
 ·cases fin with
  |done f=>
   obtain ⟨h',tk,acc',c',e,rfl,kp,hS',hacc⟩:=h
   cases e
   exact fin' h' tk acc' c' kp hS' hacc
  |again c'=>exact ⟨h.1,codeAny_mono h.2 fun q s'' hr=>by
    obtain ⟨h',tk,acc',c',rfl,rfl,kp,hS',hacc⟩:=hr
    exact fin' h' tk acc' c' kp hS' hacc⟩
 ·obtain ⟨_,_,_,_,e,_⟩:=h
  cases e
end
theorem tK {prog:Program} {w:World} (d:Addr) (kvs:List (Str × Value)) (lo:(d == sysModules)=false) (hn:kvs.length≤sizeLine) :
  MeetsIn prog w (Builtin.«tuple.__new__» ⟨[.type "tuple",.ref d],[]⟩)
   (fun A R s=>A.handled=none∧(s.heap.DictOf (strKind prog w) d kvs)∧∀(h':Heap) (tk:Nat) (acc:Array Value),(∀b o,s.heap.get? b=some o→h'.get? b=some o) →
    ItemsOf (fun i v=>∃k x t,kvs[i]?=some (k,x)∧v=.str k t) acc kvs.length→R (.ok (.ret (.ref h'.objs.size))) { s with heap:=h'.push { cls:=.type "tuple",data:=.seq acc },toks:=tk }):=
 .of_wp fun A R s h=>by
  obtain ⟨hh,hm,h⟩:=h
  have hsub:=sub_tuple_self
  have hinit:=init_tuple_lookup
  have hmh:=madeHere_tuple
  have hT:s.TypeIs (.ref d) "dict":=hm.typeIs
  have hh1:A.in1.handled=none:=hh
  obtain ⟨ep,hat⟩:=hm.dictAt
  obtain ⟨o,es,ho,hx⟩:=id hat
  wp_walk using AutoSeq1.wpAny_loadPart' ho,wpAny_typeOf hT,aI4 (hn:=hn) (PySem.W.kdl_dict (knd:=strKind prog w) (kvs:=kvs) (ep:=ep) lo) hh1 hat
  intro h' tk acc kp hacc
  show wpAny _ _ (Builtin.Tuple.tupleExact acc.toList.toArray >>= fun v=>ret v) _ _ _
  unfold Builtin.Tuple.tupleExact
  refine wpAny_bind (wpAny_newObj_type ?_ (show acc.toList.toArray.size≤sizeLine by simp only [Array.toArray_toList];rw [hacc.1];exact hn))
  refine wpAny_pure ⟨_,rfl,?_⟩
  have e:acc.toList.toArray=acc:=by simp
  rw [e]
  refine h h' tk acc kp ⟨hacc.1,fun j v hv=>?_⟩
  obtain ⟨k,x,e1,e2⟩:=hacc.2 j v hv
  obtain ⟨t,rfl⟩:=Value.isStrOf_shape (x:=k) (v:=v) e2
  exact ⟨k,x,t,e1,rfl⟩
end PySem
namespace L2
open PySem PySem.Spec PyProof.Rows
def aT1 (w:World) (K:PySem.W.Frag) (d:Addr) (kvs:List (Str × Addr)):Prop:=∃o,K.lookup d=some o∧(d == sysModules)=false∧∀P:Program,o.IsDictOf (strKind P w) (kvs.map fun p=>(p.1,Value.ref p.2))
section
variable {X:Cx}
def bA6 (w:World) (K:PySem.W.Frag):R2:=fun x y H Q=>∃d kvs k p,x=.ref d∧y=.str k∧aT1 w K d kvs∧(kvs.find? fun q=>decide (q.1=k)).map (·.2)=some p∧Q (.ref p) H
theorem aSi (kvs:List (Str × Addr)) (k:Str) {p:Addr} (h:(kvs.find? fun q=>decide (q.1=k)).map (·.2)=some p):valueAt (kvs.map fun q=>(q.1,Value.ref q.2)) k=some (.ref p):=by
 unfold valueAt
 rw [List.find?_map]
 cases e:kvs.find? fun q=>decide (q.1=k) with
 |none=>rw [e] at h;cases h
 |some q=>
  rw [e] at h
  have h:q.2=p:=Option.some.inj h
  have e':kvs.find? ((fun kv:Str × Value=>decide (kv.1=k)) ∘ fun q=>(q.1,Value.ref q.2))=some q:=e
  rw [e',←h]
  rfl
theorem aVf:IxR X (bA6 X.w X.K):=by
 intro value slice pins s σ H x y v u Q I rx ry h hs
 obtain ⟨d,kvs,k,p,rfl,rfl,⟨o,hk,lo,hd⟩,hp,q⟩:=h
 cases rx
 obtain ⟨t,rfl⟩:=ry
 have hm:s.heap.DictOf (strKind X.prog X.w) d (kvs.map fun p=>(p.1,Value.ref p.2)):=Heap.dictOf_iff.mpr ⟨o,I.kIn _ _ hk,hd _⟩
 exact tail_any hm.typeIs slot_dict_getitem.lookup (wpAny_getItem_of (strKind_is _ _ _ _) hm.mapOf (aSi kvs k hp) ⟨.ref p,H,I.tok _,rfl,q⟩) hs
def bAa (w:World) (K:PySem.W.Frag):List V→Hp→VK→Prop:=fun xs H Q=>∃d kvs,xs=[.ref d]∧aT1 w K d kvs∧kvs.length≤1000∧∀p H',Same H H'→H' p=some (.tup (kvs.map fun q=>V.str q.1))→Q (.ref p) H'
theorem aEo:∀(kvs:List (Str × Value)) (vs:List Value),vs.length=kvs.length→(∀(j:Nat) (v:Value),vs[j]?=some v→∃k x t,kvs[j]?=some (k,x)∧v=.str k t)→Vals (kvs.map fun q=>V.str q.1) vs
 |[],[],_,_=>.nil
 |(k,x)::r,v::vs,hl,h=>by
  obtain ⟨k',x',t,e,rfl⟩:=h 0 v rfl
  cases e
  exact .cons ⟨t,rfl⟩ (aEo r vs (by simpa using hl) fun j u e=>h (j+1) u e)
theorem aPk (hc:X.calm=true):cY X (.type "tuple") (bAa X.w X.K):=by
 intro pins s σ H xs us Q I r h
 obtain ⟨d,kvs,rfl,⟨o,hk,lo,hd⟩,hl,q⟩:=h
 obtain ⟨u,rfl,ru⟩:=vals1 r
 cases ru
 have hm:s.heap.DictOf (strKind X.prog X.w) d (kvs.map fun p=>(p.1,Value.ref p.2))  :=Heap.dictOf_iff.mpr ⟨o,I.kIn _ _ hk,hd _⟩
 have hn:(kvs.map fun p=>(p.1,Value.ref p.2)).length≤sizeLine:=small (by rw [List.length_map];exact hl)
 refine callType_newIn F.called_tuple (by decide) (F.typeCall_tuple_1 _) (F.newCall_tuple_1 _) (fun obj=>F.args_object_init_2 obj _) F.entry_tuple_new
  (tK d _ lo hn) ⟨I.ok.hd hc,hm,fun h' tk acc kp hacc=>⟨⟨_,Heap.get?_push_size _ rfl,rfl⟩,?_⟩⟩
 have hv:=aEo (kvs.map fun p=>(p.1,Value.ref p.2)) acc.toList (by rw [Array.length_toList];exact hacc.1) fun j v e=>hacc.2 j v (by rw [←Array.getElem?_toList];exact e)
 rw [List.map_map] at hv
 have hv:Vals (kvs.map fun q=>V.str q.1) acc.toList:=hv
 have I1:Inv X pins σ H { s with heap:=h',toks:=tk }:=I.kept (t':=tk) kp
 refine ⟨.ref h'.objs.size,_,I1.laid (t':=tk) (o:=.tup (kvs.map fun q=>V.str q.1)) (fun b ob e=>Heap.get?_push_of_some _ e) (Nat.le_refl _) ?_,rfl,q _ _ (bM (I1.hok.fresh (Nat.le_refl _)) _) aQ⟩
 have ea:acc.toList.toArray=acc:=by simp
 refine ⟨small (by rw [List.length_map];exact hl),acc.toList,hv,?_⟩
 rw [ea]
 exact .of (Heap.get?_push_size _ rfl) rfl ⟨_,Heap.get?_push_size _ rfl,rfl,_,rfl⟩
end
section
variable {X:Cx} {scope:Scope} {N:List Str} {wi:TI} {te:TE} {σ:St} {H:Hp} {Q:VK}
theorem aOc {K:PySem.W.Frag} {tl:TA} (xs ys:List V) (f:V→V→V) (σ0:St) (cap:Cap X scope N σ σ0) (hsz:xs.length≤sizeLine) (hl:xs.length=ys.length)
  (hw:∀R:List V→Hp→Prop,(∀t u H1,Same H H1→SqT K H1 t xs→SqT K H1 u ys→R [.ref t,.ref u] H1)→tl σ H R)
  (he:∀(i:Nat) (x y:V),xs[i]?=some x→ys[i]?=some y→∀H' R l1 l2,Same H H'→(∀H2,Same H' H2→R (f x y) H2)→te ((((σ0.set 0 l1).set 1 l2).set 0 (some x)).set 1 (some y)) H' R) (h0:σ0[0]?=some none) (h1:σ0[1]?=some none)
  (q:∀D H',Same H H'→H' D=some (.lst (List.zipWith f xs ys))→Q (.ref D) H') :
  iQ X scope N (aNw K tl) (aDa K 2 (jF (bO 0) (jF (bO 1) aAk))) pD te σ H Q:=by
 refine ⟨σ0,cap,hw _ fun t u H1 s1 ht hu=>⟨t,u,xs,ys,rfl,ht,hu,fun D hD=>?_⟩⟩
 refine ⟨fun i m σ' H' zs=>i≤xs.length∧m=xs.length - i∧(∃l1 l2,σ'=(σ0.set 0 l1).set 1 l2)∧Same H1 H'∧H' D=some (.lst zs)∧zs=(List.zipWith f xs ys).take i,⟨xs.length,Nat.zero_le _,rfl,⟨none,none,?_⟩,bM hD _,aQ,rfl⟩,?_⟩
 ·rw [←iZ h0];exact iZ h1
 rintro i m σ' H' zs ⟨hi,rfl,⟨l1,l2,rfl⟩,sm,hL,rfl⟩
 refine ⟨hL,?_⟩
 by_cases hlt:i<xs.length
 ·right
  refine ⟨⟨sm.aK ht,sm.aK hu,hlt,by lia⟩,fun v H2 hy=>?_⟩
  obtain ⟨T,a,b,hT,rfl,rfl,ha,hb⟩:=hy
  have s2:Same H' (upd H' T (.tup [a,b])):=bM hT _
  refine ⟨T,[a,b],rfl,.inl (.inl aQ),rfl,a,[b],rfl,b,[],rfl,rfl,?_⟩
  unfold pD
  dsimp only
  rw [if_pos rfl]
  refine he i a b ha hb _ _ l1 l2 (fun b o e=>s2 _ _ (sm _ _ (s1 _ _ e))) fun H3 s3=>⟨s3 _ _ (s2 _ _ hL),?_,xs.length - (i+1),by lia,hlt,rfl,⟨some a,some b,?_⟩,?_,aQ,?_⟩
  ·rw [List.length_take,List.length_zipWith];lia
  ·rw [List.set_comm _ _ (show (1:Nat)≠0 by decide),List.set_set,List.set_set]
  ·intro c o e
   rw [bH (bD e hD)]
   exact s3 _ _ (s2 _ _ (sm _ _ e))
  ·rw [List.take_add_one,List.getElem?_zipWith,ha,hb]
   rfl
 ·left
  have e:i=xs.length:=by lia
  subst e
  refine ⟨⟨sm.aK ht,Nat.le_refl _⟩,?_⟩
  rw [List.take_of_length_le (by rw [List.length_zipWith];lia)] at hL
  exact q D _ (s1.trans sm) hL
end
section
variable {X:Cx} {a c e:Expr} {st:Stmt} {body:List Stmt} {tc:TT} {tb:TS} {t:TA} {te:TE} {pos p:Pos}
theorem jM:VS X st aQ1:=⟨aSh⟩
theorem aQf (hp:PassesOwn (model X.prog X.w) X.A X.env X.xe) (hc:VT X c tc) (hb:VSs X body tb):VS X (.While c body [] pos) (aRu tc tb):=⟨aQj hp hc.1 hb.1⟩
theorem aUv {elts:List Expr} {kt:Nat} {tp:Pos} (hg:Gl X "enumerate") (hm:X.mg "enumerate"=none) (ha:VA X [a] t) (hp:iC a=true:=by rfl) :
  VI X (.Tuple elts kt tp) (.Call (.Name "enumerate" p) [a] [] pos) (aV7 X.K t):=⟨aVu hg hm ha.1 (bV (es:=[]) hp)⟩
theorem aUe:MtR X "list.pop" aZs:=aXd
theorem aKo:MtR X "list.extend" aN8:=aPa
theorem aLk {o:Expr} {to:TE} {name:Str} {apos cpos:Pos} {T id:String} {r:V→List V→Hp→VK→Prop} (pa:PlainAttrs T) (slot:Slot T name id) (hty:typeOf (.builtin id)=pure (.type "method_descriptor")) (hm:MtR X id r) (ho:VE X o to)
  (hbase:attributeBase o name X.env (eval o X.env)=eval o X.env:=by rfl) (hline:(apos.endLine == cpos.line)=true:=by rfl):VE X (.Call (.Attribute o name apos) [] [] cpos) (aZ0 X.K T r to):=⟨aWw pa slot hty hm ho.1 hbase hline⟩
end
section
variable {P:Program} {w:World} {K:PySem.W.Frag} {mg:Str→Option Value} {base:Heap}
theorem Ok.aSs {k:Nat} {x:Str} {ps:List Str} {sp:Sp} {f:Addr} (G:Ok P w K mg base k x ps sp) (m:mg x=some (.ref f)):Held P w K mg base k f ps sp:=by
 obtain ⟨g,m',h⟩:=G.held
 rw [m] at m'
 cases m'
 exact h
end
section
variable {X:Cx} {scope:Scope} {N:List Str} {wi:TI} {te:TE} {σ:St} {H:Hp} {Q:VK}
theorem pR (xs:List V) (Rel:Nat→Hp→V→Prop) (st:∀{i H1 H2 y},Same H1 H2→Rel i H1 y→Rel i H2 y) (su:∀{i H1 D ys zs y},H1 D=some (.lst ys)→Rel i H1 y→Rel i (upd H1 D (.lst zs)) y)
  (σ0:St) (cap:Cap X scope N σ σ0) (hsz:xs.length≤sizeLine)
  (hw:∀R:It→Hp→Prop,(∀J:It,(∀H' i x,Same H H'→xs[i]?=some x→J.go i H'∧∀y H2,J.yld i H' y H2→H2=H'∧y=x)→(∀H',Same H H'→J.stop xs.length H')→R J H)→wi σ H R)
  (he:∀(i:Nat) (x:V),xs[i]?=some x→∀H' R l,Same H H'→(∀y H2,Same H' H2→Rel i H2 y→R y H2)→te ((σ0.set 0 l).set 0 (some x)) H' R) (h0:σ0[0]?=some none)
  (q:∀D H' ys,Same H H'→H' D=some (.lst ys)→ys.length=xs.length→(∀(i:Nat) (y:V),ys[i]?=some y→Rel i H' y)→Q (.ref D) H') :
  iQ X scope N wi (bO 0) pD te σ H Q:=by
 refine ⟨σ0,cap,hw _ fun J go stop D hD=>?_⟩
 refine ⟨fun i m σ' H' ys=>i≤xs.length∧m=xs.length - i∧(∃l,σ'=σ0.set 0 l)∧Same H H'∧H' D=some (.lst ys)∧ys.length=i∧∀(j:Nat) (y:V),ys[j]?=some y→Rel j H' y,⟨xs.length,Nat.zero_le _,rfl,⟨none,iZ h0⟩,bM hD _,aQ,rfl,fun j y e=>by simp at e⟩,?_⟩
 rintro i m σ' H' ys ⟨hi,rfl,⟨l,rfl⟩,sm,hL,hl,hR⟩
 refine ⟨hL,?_⟩
 by_cases hlt:i<xs.length
 ·right
  obtain ⟨g1,g2⟩:=go H' i xs[i] sm (List.getElem?_eq_getElem hlt)
  refine ⟨g1,fun x H2 hy=>?_⟩
  obtain ⟨rfl,rfl⟩:=g2 x H2 hy
  unfold bO pD
  dsimp only
  rw [if_pos rfl]
  refine he i xs[i] (List.getElem?_eq_getElem hlt) _ _ l sm fun y H3 s3 r3=>⟨s3 _ _ hL,by lia,xs.length - (i+1),by lia,hlt,rfl,⟨some xs[i],?_⟩,?_,aQ,?_,?_⟩
  ·rw [List.set_set]
  ·intro b o e
   rw [bH (bD e hD)]
   exact s3 _ _ (sm _ _ e)
  ·rw [List.length_append,List.length_singleton,hl]
  ·intro j z ez
   refine su (s3 _ _ hL) ?_
   by_cases hj:j<ys.length
   ·rw [List.getElem?_append_left hj] at ez
    exact st s3 (hR j z ez)
   ·rw [List.getElem?_append_right (by lia)] at ez
    have hj0:j - ys.length=0:=by
     by_cases z0:j - ys.length=0
     ·exact z0
     ·rw [List.getElem?_eq_none (by simp;lia)] at ez;cases ez
    have hj1:j=i:=by lia
    subst hj1
    rw [hj0] at ez
    cases ez
    exact r3
 ·left
  have e:i=xs.length:=by lia
  subst e
  exact ⟨stop _ sm,q D _ ys sm hL hl hR⟩
theorem iT (xs ys:List V) (hly:ys.length=xs.length) (σ0:St) (cap:Cap X scope N σ σ0) (hsz:xs.length≤sizeLine)
  (hw:∀R:It→Hp→Prop,(∀J:It,(∀H' i x,Same H H'→xs[i]?=some x→J.go i H'∧∀y H2,J.yld i H' y H2→H2=H'∧y=x)→(∀H',Same H H'→J.stop xs.length H')→R J H)→wi σ H R)
  (he:∀(i:Nat) (x y:V),xs[i]?=some x→ys[i]?=some y→∀H' R l,Same H H'→(∀H2,Same H' H2→R y H2)→te ((σ0.set 0 l).set 0 (some x)) H' R) (h0:σ0[0]?=some none)
  (q:∀D H',Same H H'→H' D=some (.lst ys)→Q (.ref D) H') :
  iQ X scope N wi (bO 0) pD te σ H Q:=by
 refine pR xs (fun i _ y=>ys[i]?=some y) (fun _ h=>h) (fun _ h=>h) σ0 cap hsz hw (fun i x ex H' R l sm r=>?_) h0 fun D H' zs sm hD hl hR=>?_
 ·have hi:i<ys.length:=by rw [hly];exact (List.getElem?_eq_some_iff.mp ex).1
  exact he i x ys[i] ex (List.getElem?_eq_getElem hi) H' R l sm fun H2 s2=>r _ H2 s2 (List.getElem?_eq_getElem hi)
 ·have e:zs=ys:=by
   refine List.ext_getElem? fun i=>?_
   by_cases hi:i<zs.length
   ·rw [hR i zs[i] (List.getElem?_eq_getElem hi),List.getElem?_eq_getElem hi]
   ·rw [List.getElem?_eq_none (by lia),List.getElem?_eq_none (by lia)]
  subst e
  exact q D H' sm hD
theorem aPm {K:PySem.W.Frag} {tl:TA} (xs ys:List V) (Rel:Nat→Hp→V→Prop) (st:∀{i H1 H2 y},Same H1 H2→Rel i H1 y→Rel i H2 y) (su:∀{i H1 D ys zs y},H1 D=some (.lst ys)→Rel i H1 y→Rel i (upd H1 D (.lst zs)) y)
  (σ0:St) (cap:Cap X scope N σ σ0) (hsz:xs.length≤sizeLine) (hl:xs.length=ys.length)
  (hw:∀R:List V→Hp→Prop,(∀t u H1,Same H H1→SqT K H1 t xs→SqT K H1 u ys→R [.ref t,.ref u] H1)→tl σ H R)
  (he:∀(i:Nat) (x y:V),xs[i]?=some x→ys[i]?=some y→∀H' R l1 l2,Same H H'→(∀z H2,Same H' H2→Rel i H2 z→R z H2)→te ((((σ0.set 0 l1).set 1 l2).set 0 (some x)).set 1 (some y)) H' R) (h0:σ0[0]?=some none) (h1:σ0[1]?=some none)
  (q:∀D H' zs,Same H H'→H' D=some (.lst zs)→zs.length=xs.length→(∀(i:Nat) (z:V),zs[i]?=some z→Rel i H' z)→Q (.ref D) H') :
  iQ X scope N (aNw K tl) (aDa K 2 (jF (bO 0) (jF (bO 1) aAk))) pD te σ H Q:=by
 refine ⟨σ0,cap,hw _ fun t u H1 s1 ht hu=>⟨t,u,xs,ys,rfl,ht,hu,fun D hD=>?_⟩⟩
 refine ⟨fun i m σ' H' zs=>i≤xs.length∧m=xs.length - i∧(∃l1 l2,σ'=(σ0.set 0 l1).set 1 l2)∧Same H1 H'∧H' D=some (.lst zs)∧zs.length=i∧∀(j:Nat) (z:V),zs[j]?=some z→Rel j H' z,⟨xs.length,Nat.zero_le _,rfl,⟨none,none,?_⟩,bM hD _,aQ,rfl,fun j y e=>by simp at e⟩,?_⟩
 ·rw [←iZ h0];exact iZ h1
 rintro i m σ' H' zs ⟨hi,rfl,⟨l1,l2,rfl⟩,sm,hL,hlz,hR⟩
 refine ⟨hL,?_⟩
 by_cases hlt:i<xs.length
 ·right
  refine ⟨⟨sm.aK ht,sm.aK hu,hlt,by lia⟩,fun v H2 hy=>?_⟩
  obtain ⟨T,a,b,hT,rfl,rfl,ha,hb⟩:=hy
  have s2:Same H' (upd H' T (.tup [a,b])):=bM hT _
  refine ⟨T,[a,b],rfl,.inl (.inl aQ),rfl,a,[b],rfl,b,[],rfl,rfl,?_⟩
  unfold pD
  dsimp only
  rw [if_pos rfl]
  refine he i a b ha hb _ _ l1 l2 (fun b o e=>s2 _ _ (sm _ _ (s1 _ _ e))) fun y H3 s3 r3=>⟨s3 _ _ (s2 _ _ hL),by lia,xs.length - (i+1),by lia,hlt,rfl,⟨some a,some b,?_⟩,?_,aQ,?_,?_⟩
  ·rw [List.set_comm _ _ (show (1:Nat)≠0 by decide),List.set_set,List.set_set]
  ·intro c o e
   rw [bH (bD e hD)]
   exact s3 _ _ (s2 _ _ (sm _ _ e))
  ·rw [List.length_append,List.length_singleton,hlz]
  ·intro j z ez
   refine su (s3 _ _ (s2 _ _ hL)) ?_
   by_cases hj:j<zs.length
   ·rw [List.getElem?_append_left hj] at ez
    exact st s3 (st s2 (hR j z ez))
   ·rw [List.getElem?_append_right (by lia)] at ez
    have hj0:j - zs.length=0:=by
     by_cases z0:j - zs.length=0
     ·exact z0
     ·rw [List.getElem?_eq_none (by simp;lia)] at ez;cases ez
    have hj1:j=i:=by lia
    subst hj1
    rw [hj0] at ez
    cases ez
    exact r3
 ·left
  have e:i=xs.length:=by lia
  subst e
  exact ⟨⟨sm.aK ht,Nat.le_refl _⟩,q D _ zs (s1.trans sm) hL hlz hR⟩
end
section
variable {X:Cx} {tg e o i:Expr} {te td ty:TE} {pos:Pos}
theorem aX1 (h:VE X e te):VI X tg e (fun σ H R=>rG X.K te σ H R∨aCx X.K te σ H R):=⟨fun pins s σ H R I q=>q.elim (aNe h.1 pins s σ H R I) (aS9 h.1 pins s σ H R I)⟩
theorem lC (hu:X.A.units+1<cLine) (ho:VE X o td) (hi:VE X i ty) (hs:aXc i):VE X (.Subscript o i pos) (aWj td ty):=⟨aT2 hu ho.1 hi.1 hs⟩
def bBc (K:PySem.W.Frag):R2:=fun x y H Q=>∃(a b:Addr) (xs:List Str),x=.ref a∧y=.ref b∧SqL K H a (xs.map V.str)∧SqL K H b (xs.map V.str)∧Q (.bl false) H
theorem aXt (hu:X.A.units<cLine):OpR X (compareOp .NotEq) (bBc X.K):=by
 intro pins s σ H x y v u Q I rx ry h
 obtain ⟨a,b,xs,rfl,rfl,ha,hb,q⟩:=h
 cases rx
 cases ry
 obtain ⟨its,rv,pl,hz⟩:=I.list ha
 obtain ⟨jts,rw',pm,hw⟩:=I.list hb
 have e1:=rv.length
 have e2:=rw'.length
 rw [List.length_map] at e1 e2
 refine SeqAt.RcNeAt.lists (e:=fun _=>true) pl.isList pm.isList (by rw [List.size_toArray,List.size_toArray];lia) hu (fun j h1 h2=>?_) _ _ _ _ ?_
 ·have hj1:j<xs.length:=by rw [List.size_toArray] at h1;lia
  obtain ⟨u1,hu1,t1,rfl⟩:=rv.get (i:=j) (x:=.str xs[j]) (by rw [List.getElem?_map,List.getElem?_eq_getElem hj1];rfl)
  obtain ⟨u2,hu2,t2,rfl⟩:=rw'.get (i:=j) (x:=.str xs[j]) (by rw [List.getElem?_map,List.getElem?_eq_getElem hj1];rfl)
  have g1:its.toArray[j]=Value.str xs[j] t1:=by
   rw [List.getElem_toArray]
   exact (List.getElem?_eq_some_iff.mp hu1).2
  have g2:jts.toArray[j]=Value.str xs[j] t2:=by
   rw [List.getElem_toArray]
   exact (List.getElem?_eq_some_iff.mp hu2).2
  rw [g1,g2]
  have z:=SeqAt.EqAt.str_str (A:=X.A.in1) (s:=s) xs[j] t1 xs[j] t2
  simpa using z
 ·have z:(List.range its.toArray.size).all (fun _=>true)=true:=by rw [List.all_eq_true];intro _ _;rfl
  rw [z]
  exact ⟨.bl _,H,I,rfl,q⟩
end
theorem aTt {K:PySem.W.Frag} {t u:Addr} {xs ys:List V} {g:TG} {tb:TS} {D:Ends} {σ:St} {H:Hp} (Pv:Nat→St→Hp→Prop) (hxy:xs.length=ys.length) (h0:Pv 0 σ H) (hl:∀i σ H,i≤xs.length→Pv i σ H→SqT K H t xs∧SqT K H u ys)
  (hs:∀i σ H a b T H',xs[i]?=some a→ys[i]?=some b→Pv i σ H→H T=none→H'=upd H T (.tup [a,b])→g (.ref T) σ H' fun σ2 H2=>tb { D with nx:=Pv (i+1),ct:=Pv (i+1),bk:=D.nx } σ2 H2) (hd:∀σ H,Pv xs.length σ H→D.nx σ H) :
  ∃W:Nat→Nat→St→Hp→Prop,(∃m,W 0 m σ H)∧∀i m σ H,W i m σ H →
   ((Itz K t u xs ys).stop i H∧D.nx σ H)∨((Itz K t u xs ys).go i H∧∃N:St→Hp→Prop,(∀σ' H',N σ' H'→∃m',m'<m∧W (i+1) m' σ' H')∧∀x H',(Itz K t u xs ys).yld i H x H'→g x σ H' fun σ2 H2=>tb { D with nx:=N,ct:=N,bk:=D.nx } σ2 H2):=by
 refine ⟨fun i m σ H=>m=xs.length - i∧i≤xs.length∧Pv i σ H,⟨xs.length,by simp,Nat.zero_le _,h0⟩,?_⟩
 rintro i m σ H ⟨rfl,hi,p⟩
 by_cases hlt:i<xs.length
 ·refine .inr ⟨⟨(hl i σ H hi p).1,(hl i σ H hi p).2,hlt,by lia⟩,Pv (i+1),fun σ' H' p'=>⟨xs.length - (i+1),by lia,rfl,hlt,p'⟩,fun x H' y=>?_⟩
  obtain ⟨T,a,b,hT,rfl,e,ha,hb⟩:=y
  exact hs i σ H a b T H' ha hb p hT e
 ·have e:i=xs.length:=by lia
  subst e
  exact .inl ⟨⟨(hl _ σ H hi p).1,Nat.le_refl _⟩,hd σ H p⟩
theorem aOh {X:Cx} {i o:Expr} {td ty:TE} {pos:Pos} (hu:X.A.units+1<cLine) (hi:VE X i ty) (ho:VE X o td) (h1:behindInMarks .NotIn o=false:=by first|exact nobehind _ (by decide) (by decide)|rfl):VT X (.Compare i [.NotIn] [o] pos) (tB (aNb ty td)):=⟨aR0 (aOy hu hi.1 ho.1) h1⟩
theorem iG {X:Cx} {K:PySem.W.Frag} (h:X.K=K:=by rfl):OpR X (compareOp .NotIn) (rIn K true):=by subst h;exact wJ
def sel {α:Type} (p:Nat→Bool):Nat→List α→List α
 |_,[]=>[]
 |i,x::r=>if p i then x::sel p (i+1) r else sel p (i+1) r
theorem aCn {α:Type} (p:Nat→Bool) (x:α):∀(k:Nat) (xs:List α),sel p k (xs++[x])=sel p k xs++(if p (k+xs.length) then [x] else [])
 |k,[]=>by
  show (if p k then x::sel p (k+1) [] else sel p (k+1) [])=[]++(if p (k+0) then [x] else [])
  rw [Nat.add_zero,List.nil_append]
  rfl
 |k,y::r=>by
  show (if p k then y::sel p (k+1) (r++[x]) else sel p (k+1) (r++[x]))=(if p k then y::sel p (k+1) r else sel p (k+1) r)++_
  rw [aCn p x (k+1) r,List.length_cons,show k+1+r.length=k+(r.length+1) by lia]
  split <;> rfl
theorem uD {α:Type} (p:Nat→Bool):∀(k:Nat) (xs:List α),(sel p k xs).length≤xs.length
 |_,[]=>Nat.le_refl _
 |k,y::r=>by
  have:=uD p (k+1) r
  show (if p k then y::sel p (k+1) r else sel p (k+1) r).length≤r.length+1
  split
  ·rw [List.length_cons];lia
  ·lia
section
variable {X:Cx} {scope:Scope} {N:List Str} {wi:TI} {te:TE} {σ:L2.St} {H:Hp} {Q:VK}
theorem aBh {tt:TT} (xs:List V) (p:Nat→Bool) (σ0:L2.St) (cap:Cap X scope N σ σ0) (hsz:xs.length≤sizeLine)
  (hw:∀R:It→Hp→Prop,(∀J:It,(∀H' i x,Same H H'→xs[i]?=some x→J.go i H'∧∀y H2,J.yld i H' y H2→H2=H'∧y=x)→(∀H',Same H H'→J.stop xs.length H')→R J H)→wi σ H R)
  (ht:∀(i:Nat) (x:V),xs[i]?=some x→∀H' R l,Same H H'→(∀H2,Same H' H2→R (p i) H2)→tt ((σ0.set 0 l).set 0 (some x)) H' R) (h0:σ0[0]?=some none)
  (q:∀D H',Same H H'→H' D=some (.lst (sel p 0 xs))→Q (.ref D) H') :
  iQ X scope N wi (bO 0) tt (uR 0) σ H Q:=by
 refine ⟨σ0,cap,hw _ fun J go stop D hD=>?_⟩
 refine ⟨fun i m σ' H' ys=>i≤xs.length∧m=xs.length - i∧(∃l,σ'=σ0.set 0 l)∧Same H H'∧H' D=some (.lst ys)∧ys=sel p 0 (xs.take i),⟨xs.length,Nat.zero_le _,rfl,⟨none,iZ h0⟩,bM hD _,aQ,rfl⟩,?_⟩
 rintro i m σ' H' ys ⟨hi,rfl,⟨l,rfl⟩,sm,hL,rfl⟩
 refine ⟨hL,?_⟩
 by_cases hlt:i<xs.length
 ·right
  obtain ⟨g1,g2⟩:=go H' i xs[i] sm (List.getElem?_eq_getElem hlt)
  refine ⟨g1,fun x H2 hy=>?_⟩
  obtain ⟨rfl,rfl⟩:=g2 x H2 hy
  unfold bO
  dsimp only
  have hj:0<σ0.length:=by
   by_cases z:0<σ0.length
   ·exact z
   ·rw [List.getElem?_eq_none (by lia)] at h0;cases h0
  have tk:sel p 0 (xs.take (i+1))=sel p 0 (xs.take i)++(if p i then [xs[i]] else []):=by
   rw [List.take_add_one,List.getElem?_eq_getElem hlt]
   show sel p 0 (xs.take i++[xs[i]])=_
   rw [aCn,List.length_take,Nat.zero_add,Nat.min_eq_left (Nat.le_of_lt hlt)]
  refine ht i xs[i] (List.getElem?_eq_getElem hlt) _ _ l sm fun H3 s3=>?_
  cases hp:p i with
  |true=>
   rw [if_pos rfl]
   refine ⟨xs[i],by rw [List.set_set,List.getElem?_set_self hj],s3 _ _ hL,?_,xs.length - (i+1),by lia,hlt,rfl,⟨some xs[i],by rw [List.set_set]⟩,?_,aQ,?_⟩
   ·have:=uD p 0 (xs.take i)
    rw [List.length_take] at this
    lia
   ·intro b o e
    rw [bH (bD e hD)]
    exact s3 _ _ (sm _ _ e)
   ·rw [tk,hp];rfl
  |false=>
   rw [if_neg (by simp)]
   refine ⟨s3 _ _ hL,xs.length - (i+1),by lia,hlt,rfl,⟨some xs[i],by rw [List.set_set]⟩,sm.trans s3,s3 _ _ hL,?_⟩
   rw [tk,hp]
   simp
 ·left
  have e:i=xs.length:=by lia
  subst e
  refine ⟨stop _ sm,?_⟩
  rw [List.take_length] at hL
  exact q D _ sm hL
end
theorem aU5 {X:Cx} {i0:Nat} {x0:Str} {pos' spos:Pos} {elt target iter:Expr} {ifs:List Expr} {scope:Scope} {pos:Pos} {N:List Str} {wi:TI} {g:TG} {tt:TT} {te:TE}
  (hN:X.N.Nodup) (hi0:X.N[i0]?=some x0) (hx0:Loc X.env.scope x0) (C:zT scope N) (hfr:∀y,(y,NameKind.free)∈scope.names→X.env.kindOf y=some .cell∨X.env.kindOf y=some .free) (hc:X.calm=true)
  (hi:PI X target iter wi)
  (hb:∀cl s H fp,PG (cxC X N scope cl s H fp) target g∧aSp (cxC X N scope cl s H fp) ifs tt∧PE (cxC X N scope cl s H fp) elt te)
  (hs:∀x,foldedSetIterable iter X.env x=pure x:=by intro _;rfl) (hsw:swapsWith (.ListComp elt [⟨target,iter,ifs,0⟩] scope pos) (some (.Name x0 pos')) spos.line X.env=pure true:=by rfl)
  (hf:X.fn x0=true∨X.env.scope.names.lookup x0=some .local:=by first|exact .inl rfl|exact .inr rfl|assumption) :
  PS X (.Assign [.Name x0 pos'] (.ListComp elt [⟨target,iter,ifs,0⟩] scope pos) spos) (iU (iQ X scope N wi g tt te) (bO i0)):=by
 intro pins s σ H Dn I hq
 obtain ⟨σ0,cap,hq⟩:=hq
 obtain ⟨cl,hcl,p1,p2⟩:=aB6 (scope:=scope) (env:=X.env) (fun y hy hk=>by
  obtain ⟨n,k⟩:=y
  cases hk
  exact I.ok.has n (hfr n hy))
 rw [exec_Assign_Name_used _ _ _ _ hsw]
 refine wpAny_bind (wpAny_standAt (wpAny_bind ?_))
 show wpAny _ X.A (do let _ ←comprehension (.ListComp elt [⟨target,iter,ifs,0⟩] scope pos) scope X.env _ (newList []) false (eval iter X.env) (some (assign (.Name x0 pos') X.env))) _ _ s
 refine wpAny_bind (wpAny_mono (wpAny_comprehension_free (use:=some (assign (.Name x0 pos') X.env)) (Q:=fun _ s'=>SP X pins Dn .next s') rfl hs hcl C.kind C.names (thn (hi pins s σ H _ I hq) fun xv s1 h1=>thn h1 fun itv s2 h2=>?_))
  (fun _ s' hq=>wpAny_pure (wpAny_pure hq)) fun _ _ e=>e)
 obtain ⟨it,fp,tn,J,H2,rfl,I2,T,st2,f2,q2⟩:=h2
 refine wpAny_newObj_type (wpAny_newFunctionEnv C.cell (by intro y hy;simp at hy) (fun h₁ hns₁ hsb₁=>?_) C.kind)
 dsimp only at hns₁ hsb₁ ⊢
 have hD:H2 s2.heap.objs.size=none:=I2.hok.fresh (Nat.le_refl _)
 have I3:Inv X pins σ (upd H2 s2.heap.objs.size (.lst [])) { s2 with heap:=s2.heap.push { cls:=.type "list",dict:=none,data:=.seq ([]:List Value).toArray } }:=
  I2.laid (t':=s2.toks) (fun b u e=>Heap.get?_push_of_some _ e) (Nat.le_refl _) ⟨Nat.zero_le _,[],0,.nil,Heap.get?_push_size _ rfl⟩
 generalize hs3:({ s2 with heap:=s2.heap.push { cls:=.type "list",dict:=none,data:=.seq ([]:List Value).toArray } }:Shared)=s3 at I3
 have hh3:s2.heap.push { cls:=.type "list",dict:=none,data:=.seq ([]:List Value).toArray }=s3.heap:=by rw [←hs3]
 rw [hh3] at hns₁ hsb₁
 have fl2:∀b∈fp,b<s2.heap.objs.size:=fun b hb=>by
  obtain ⟨o,e,_⟩:=T.obj _ _ st2 b hb
  exact Heap.lt_size e
 have fl3:∀b∈fp,b<s3.heap.objs.size:=fun b hb=>by
  rw [←hh3,Heap.size_push]
  exact Nat.lt_succ_of_lt (fl2 b hb)
 have f3:∀b∈fp,vX X pins (upd H2 s2.heap.objs.size (.lst [])) b:=fun b hb=>by
  obtain ⟨f0,fr⟩:=f2 b hb
  exact ⟨by rw [bH (Nat.ne_of_lt (fl2 b hb))];exact f0,fr⟩
 have keep3:∀b o,s3.heap.get? b=some o→h₁.get? b=some o:=fun b o e=>hsb₁.extBut b o (Nat.ne_of_lt (Heap.lt_size e)) (Heap.get?_push_of_some _ e)
 have I4:=aJg (tk:=s3.toks) I3 C hfr p1 p2 cap f3 fl3 hns₁ keep3
 have st4:tn 0 h₁:=T.keep _ _ _ st2 fun b hb o e=>keep3 b o (by rw [←hh3];exact Heap.get?_push_of_some _ e)
 obtain ⟨W,⟨m0,w0⟩,turn⟩:=q2 s2.heap.objs.size hD
 have fpc:∀{H':Hp},(∀b∈fp,H' b=none)→∀b∈fp,vX (cxC X N scope cl s3 (upd H2 s2.heap.objs.size (.lst [])) fp) [] H' b:=fun {H'} hn b hb=>by
  obtain ⟨e1,e2⟩:=I4.ok.exf b hb
  exact ⟨hn b hb,e1,I4.ok.exfs b hb,.inl hb,e2,fun p hp=>absurd (show p∈([]:List (Addr × Obj)) from hp) (by simp)⟩
 have loop:∀s4:Shared,s4={ s3 with heap:=h₁,toks:=s3.toks } →
   codeAny (model X.prog X.w) X.A (.compLoop (.ListComp elt [⟨target,iter,ifs,0⟩] scope pos) 0 (.ref it) (.ref s2.heap.objs.size) (compEnvC scope cl s3.heap.objs.size X.env))
    (compPost (model X.prog X.w) X.A X.xe (some (assign (.Name x0 pos') X.env)) (fun _ s'=>SP X pins Dn .next s') (.ref s2.heap.objs.size) s3.heap.objs.size) s4:=by
  rintro s4 rfl
  refine aEw (fun n s'=>∃i σ' H' ys,Inv (cxC X N scope cl s3 (upd H2 s2.heap.objs.size (.lst [])) fp) [] σ' H' s'∧tn i s'.heap∧(∀b∈fp,H' b=none)∧W i n σ' H' ys) ?_ m0 ⟨0,σ0,_,[],I4,st4,fun b hb=>(f3 b hb).1,w0⟩
  rintro n s5 ⟨i,σ5,H5,ys,I5,st5,fr5,w5⟩
  obtain ⟨hacc,w5⟩:=turn i n σ5 H5 ys w5
  have noE:∀{α:Type} {t:Sem α} {Q':α→Shared→Prop} {E':Value→Shared→Prop} {s':Shared},wpAny (model X.prog X.w) X.A t Q' (fun _ _=>False) s'→wpAny (model X.prog X.w) X.A t Q' E' s':=fun h=>wpAny_mono h (fun _ _ q=>q) fun _ _ z=>z.elim
  rcases w5 with ⟨stop,qn⟩|⟨go,step⟩
  ·refine noE (thn (T.done (cxC X N scope cl s3 (upd H2 s2.heap.objs.size (.lst [])) fp) rfl rfl rfl hc i [] s5 σ5 H5 _ I5 (fpc fr5) st5 stop) fun r s6 ⟨hr,I6⟩=>?_)
   subst hr
   obtain ⟨m6,hn6,_⟩:=I6.loc
   have kp:∀b o,b≠s3.heap.objs.size→s6.heap.get? b=some o→s6.heap.get? b=some o:=fun b o hb e=>e
   have ne3:∀b o,s3.heap.get? b=some o→b≠s3.heap.objs.size:=fun b o e=>Nat.ne_of_lt (Heap.lt_size e)
   have un:Un (frs X.stack) fp (upd H2 s2.heap.objs.size (.lst [])) H5 s3.heap s6.heap:=by
    have u:=I6.base
    exact ⟨fun b o e n hb hx=>kp b o (ne3 b o e) (u.keep b o e n hb hx),fun b o e n hb hx=>by
     obtain ⟨sl,e1⟩:=u.slot b o e n hb hx
     exact ⟨sl,kp b _ (ne3 b o e) e1⟩,u.free,fun b o e hx=>by
     obtain ⟨o',e1⟩:=u.there b o e hx
     exact ⟨o',kp b _ (ne3 b o e) e1⟩,u.tups,u.frzs,u.tbls⟩
   have hok:HOk X.prog X.w H5 s6.heap:=fun b u e=>by
    refine (I6.hok b u e).stay (fun c v hc' q=>kp c v ?_ q) (fun _ q=>q) fun _ _ q=>q
    have hfree:H5 s3.heap.objs.size=none:=I6.free
    rintro rfl
    rcases hc' with z|z
    ·rw [z] at hfree;rw [hfree] at e;cases e
    ·rw [hfree] at z;cases z
   have I7:Inv X pins σ H5 s6:=by
    refine I3.call' (s':=s6) I6.os un hok I6.bare fun b hb=>?_
    obtain ⟨f0,f1,f2',f3',f4,f5⟩:=f3 b hb
    exact ⟨f3',f1,f4,f5⟩
   have hfree:H5 s3.heap.objs.size=none:=I6.free
   obtain ⟨g0,g1,g2,g3,g4,g5⟩:=I3.aHw (Nat.le_refl _) hfree
   show wpAny (model X.prog X.w) X.A (assign (.Name x0 pos') X.env (.ref s2.heap.objs.size)) _ _ s6
   refine wpAny_assign_Name (aEs I7 hN hi0 hx0 (v:=.ref s2.heap.objs.size) rfl (fun s8 I8 ⟨a,sb,ha⟩=>?_) hf)
   have nea:s3.heap.objs.size≠a:=by
    rcases ha with z|z
    ·rw [z];exact g1
    ·exact fun e=>g4 x0 a z e.symm
   refine ⟨m6,hn6.sameBut sb nea,fun h' sb'=>?_⟩
   exact ⟨_,H5,Inv.turned I8 (t':=s8.toks) (it:=s3.heap.objs.size) (fun b o hb e=>sb'.extBut b o hb e) g0 g1 g3 g4 g5,qn⟩
  ·refine noE (thn (T.item (cxC X N scope cl s3 (upd H2 s2.heap.objs.size (.lst [])) fp) rfl rfl rfl hc i [] s5 σ5 H5 (fun _ _=>False) I5 (fpc fr5) st5 go) fun r s6 ⟨u,hr,h6⟩=>?_)
   subst hr
   refine noE (thn h6 fun _ s7 ⟨x,H7,I7,r7,y7,st7,fr7⟩=>?_)
   obtain ⟨hg,ht,he⟩:=hb cl s3 (upd H2 s2.heap.objs.size (.lst [])) fp
   have I7':=I7.pinned (fpc fr7) (T.obj _ _ st7)
   have back:∀{σ8:St} {H8:Hp} {s8:Shared},Inv (cxC X N scope cl s3 (upd H2 s2.heap.objs.size (.lst [])) fp) ([]++zE fp s7.heap) σ8 H8 s8→tn (i+1) s8.heap∧∀b∈fp,H8 b=none:=fun {σ8 H8 s8} I8=>
    ⟨T.keep _ _ _ st7 fun b hb o e=>(I8.pin (b,o) (List.mem_append_right _ (List.mem_append_right _ (kZ hb e)))).1,fun b hb=>by
     obtain ⟨o,e,d⟩:=T.obj _ _ st7 b hb
     exact (I8.pin (b,o) (List.mem_append_right _ (List.mem_append_right _ (kZ hb e)))).2.1⟩
   refine noE (thn (hg _ s7 σ5 H7 x u _ I7' r7 (step x H7 y7)) fun _ s8 ⟨σ8,H8,I8,q8⟩=>?_)
   refine noE (thn (ht _ s8 σ8 H8 _ I8 q8) fun b s9 ⟨H9,I9,q9⟩=>?_)
   cases b with
   |false=>
    rw [if_neg Bool.false_ne_true] at q9 ⊢
    obtain ⟨_,m',hm,w9⟩:=q9
    exact ⟨m',hm,i+1,σ8,H9,ys,I9.nR,(back I9).1,(back I9).2,w9⟩
   |true=>
    rw [if_pos rfl] at q9 ⊢
    refine noE (thn (he _ s9 σ8 H9 _ I9 q9) fun yv s10 ⟨y,H10,I10,r10,hacc10,hlen,m',hm,w10⟩=>?_)
    refine noE (thn (yL _ s10 σ8 H10 (.ref s2.heap.objs.size) [y] (.ref s2.heap.objs.size) [yv] (fun _ H11=>H11=upd H10 s2.heap.objs.size (.lst (ys++[y]))) I10 rfl (.cons r10 .nil) ⟨_,_,_,rfl,rfl,hacc10,hlen,rfl⟩) fun _ s11 ⟨z,H11,I11,_,e11⟩=>?_)
    subst e11
    exact ⟨m',hm,i+1,σ8,_,ys++[y],I11.nR,(back I11).1,(back I11).2,w10⟩
 have fin:=codeAny_compStart_list (loop { s3 with heap:=h₁,toks:=s3.toks } rfl) (T.self _ _ _ _ _ st4 (loop { s3 with heap:=h₁,toks:=s3.toks } rfl))
 subst hs3
 exact fin
theorem iR {X:Cx} {i0:Nat} {x0:Str} {pos' spos:Pos} {elt target iter:Expr} {ifs:List Expr} {scope:Scope} {pos:Pos} {N:List Str} {wi:TI} {g:TG} {tt:TT} {te:TE}
  (hN:X.N.Nodup) (hi0:X.N[i0]?=some x0) (hx0:Loc X.env.scope x0) (C:zT scope N) (hfr:∀y,(y,NameKind.free)∈scope.names→X.env.kindOf y=some .cell∨X.env.kindOf y=some .free) (hc:X.calm=true)
  (hi:VI X target iter wi)
  (hb:∀cl s H fp,VG (cxC X N scope cl s H fp) target g∧VF (cxC X N scope cl s H fp) ifs tt∧VE (cxC X N scope cl s H fp) elt te)
  (hs:∀x,foldedSetIterable iter X.env x=pure x:=by intro _;rfl) (hsw:swapsWith (.ListComp elt [⟨target,iter,ifs,0⟩] scope pos) (some (.Name x0 pos')) spos.line X.env=pure true:=by rfl)
  (hf:X.fn x0=true∨X.env.scope.names.lookup x0=some .local:=by first|exact .inl rfl|exact .inr rfl|assumption) :
  VS X (.Assign [.Name x0 pos'] (.ListComp elt [⟨target,iter,ifs,0⟩] scope pos) spos) (iU (iQ X scope N wi g tt te) (bO i0)):=
 ⟨aU5 hN hi0 hx0 C hfr hc hi.1 (fun cl s H fp=>⟨(hb cl s H fp).1.1,(hb cl s H fp).2.1.1,(hb cl s H fp).2.2.1⟩) hs hsw hf⟩
section
variable {te:TE} {H:Hp} {Q:VK}
theorem aMk (xs:List V) (Rel:Nat→Hp→V→Prop) (st:∀{i H1 H2 y},Same H1 H2→Rel i H1 y→Rel i H2 y) (su:∀{i H1 D ys zs y},H1 D=some (.lst ys)→Rel i H1 y→Rel i (upd H1 D (.lst zs)) y)
  (σ0:St) (hsz:xs.length≤sizeLine)
  (J:It) (go:∀H' i x,Same H H'→xs[i]?=some x→J.go i H'∧∀y H2,J.yld i H' y H2→H2=H'∧y=x) (stop:∀H',Same H H'→J.stop xs.length H')
  (he:∀(i:Nat) (x:V),xs[i]?=some x→∀H' R l,Same H H'→(∀y H2,Same H' H2→Rel i H2 y→R y H2)→te ((σ0.set 0 l).set 0 (some x)) H' R) (h0:σ0[0]?=some none)
  (q:∀D H' ys,Same H H'→H' D=some (.lst ys)→ys.length=xs.length→(∀(i:Nat) (y:V),ys[i]?=some y→Rel i H' y)→Q (.ref D) H') :
  ∀D,H D=none→∃W:Nat→Nat→St→Hp→List V→Prop,(∃m,W 0 m σ0 (upd H D (.lst [])) []) ∧
   ∀i m σ' H' ys,W i m σ' H' ys→H' D=some (.lst ys)∧((J.stop i H'∧Q (.ref D) H')∨(J.go i H'∧∀x H2,J.yld i H' x H2→bO 0 x σ' H2 fun σ3 H3=>pD σ3 H3 fun b H4=>
    if b=true then te σ3 H4 fun y H5=>H5 D=some (.lst ys)∧ys.length<sizeLine∧∃m',m'<m∧W (i+1) m' σ3 (upd H5 D (.lst (ys++[y]))) (ys++[y]) else H4 D=some (.lst ys)∧∃m',m'<m∧W (i+1) m' σ3 H4 ys)):=by
 intro D hD
 refine ⟨fun i m σ' H' ys=>i≤xs.length∧m=xs.length - i∧(∃l,σ'=σ0.set 0 l)∧Same H H'∧H' D=some (.lst ys)∧ys.length=i∧∀(j:Nat) (y:V),ys[j]?=some y→Rel j H' y,⟨xs.length,Nat.zero_le _,rfl,⟨none,iZ h0⟩,bM hD _,aQ,rfl,fun j y e=>by simp at e⟩,?_⟩
 rintro i m σ' H' ys ⟨hi,rfl,⟨l,rfl⟩,sm,hL,hl,hR⟩
 refine ⟨hL,?_⟩
 by_cases hlt:i<xs.length
 ·right
  obtain ⟨g1,g2⟩:=go H' i xs[i] sm (List.getElem?_eq_getElem hlt)
  refine ⟨g1,fun x H2 hy=>?_⟩
  obtain ⟨rfl,rfl⟩:=g2 x H2 hy
  unfold bO pD
  dsimp only
  rw [if_pos rfl]
  refine he i xs[i] (List.getElem?_eq_getElem hlt) _ _ l sm fun y H3 s3 r3=>⟨s3 _ _ hL,by lia,xs.length - (i+1),by lia,hlt,rfl,⟨some xs[i],?_⟩,?_,aQ,?_,?_⟩
  ·rw [List.set_set]
  ·intro b o e
   rw [bH (bD e hD)]
   exact s3 _ _ (sm _ _ e)
  ·rw [List.length_append,List.length_singleton,hl]
  ·intro j z ez
   refine su (s3 _ _ hL) ?_
   by_cases hj:j<ys.length
   ·rw [List.getElem?_append_left hj] at ez
    exact st s3 (hR j z ez)
   ·rw [List.getElem?_append_right (by lia)] at ez
    have hj0:j - ys.length=0:=by
     by_cases z0:j - ys.length=0
     ·exact z0
     ·rw [List.getElem?_eq_none (by simp;lia)] at ez;cases ez
    have hj1:j=i:=by lia
    subst hj1
    rw [hj0] at ez
    cases ez
    exact r3
 ·left
  have e:i=xs.length:=by lia
  subst e
  exact ⟨stop _ sm,q D _ ys sm hL hl hR⟩
end
section
variable {K:PySem.W.Frag}
theorem aXq {a:Addr} {xs:List V} {H:Hp} (hS:∀H',Same H H'→SqL K H' a xs):∀H' i x,Same H H'→xs[i]?=some x→(Itl K a).go i H'∧∀y H2,(Itl K a).yld i H' y H2→H2=H'∧y=x:=fun H' i x s e=>
 ⟨⟨xs,x,hS H' s,e⟩,fun y H2 hy=>by
  obtain ⟨e1,e2⟩:=hy
  have e3:=e2 xs (hS H' s)
  rw [e] at e3
  cases e3
  exact ⟨e1,rfl⟩⟩
theorem aRk {a:Addr} {xs:List V} {H:Hp} (hS:∀H',Same H H'→SqL K H' a xs):∀H',Same H H'→(Itl K a).stop xs.length H':=fun H' s=>⟨xs,hS H' s,Nat.le_refl _⟩
end
section
variable {X:Cx} {K:PySem.W.Frag} {scope:Scope} {N:List Str} {tl te:TE} {σ:L2.St} {H:Hp} {Q:VK}
theorem tR (Pr:List V→Prop) (Rel:Nat→Hp→V→Prop) (st:∀{i H1 H2 y},Same H1 H2→Rel i H1 y→Rel i H2 y) (su:∀{i H1 D ys zs y},H1 D=some (.lst ys)→Rel i H1 y→Rel i (upd H1 D (.lst zs)) y)
  (σ0:L2.St) (cap:Cap X scope N σ σ0) (h0:σ0[0]?=some none)
  (hw:∀R:VK,(∀D H1 us,Same H H1→H1 D=some (.lst us)→Pr us→R (.ref D) H1)→tl σ H R)
  (hsz:∀us,Pr us→us.length≤sizeLine)
  (he:∀us,Pr us→∀(i:Nat) (x:V),us[i]?=some x→∀H' R l,Same H H'→(∀y H2,Same H' H2→Rel i H2 y→R y H2)→te ((σ0.set 0 l).set 0 (some x)) H' R)
  (q:∀us,Pr us→∀D H' ys,Same H H'→H' D=some (.lst ys)→ys.length=us.length→(∀(i:Nat) (y:V),ys[i]?=some y→Rel i H' y)→Q (.ref D) H') :
  iQ X scope N (rG K tl) (bO 0) pD te σ H Q:=
 ⟨σ0,cap,hw _ fun D H1 us s1 g1 p=>⟨D,rfl,⟨us,SqL.of g1⟩,aMk us Rel st su σ0 (hsz us p) (Itl K D) (aXq fun H' sm=>SqL.of (sm _ _ g1)) (aRk fun H' sm=>SqL.of (sm _ _ g1))
  (fun i x ex H' R l sm r=>he us p i x ex H' R l (s1.trans sm) r) h0 fun D2 H' ys sm=>q us p D2 H' ys (s1.trans sm)⟩⟩
end
theorem SqT.dI {K:PySem.W.Frag} {H:Hp} {a D:Addr} {xs ys zs:List V} (hD:H D=some (.lst ys)) (h:SqT K H a xs):SqT K (upd H D (.lst zs)) a xs:=by
 rcases h with (h|⟨o,h⟩)|h
 ·exact .inl (.inl (by rw [bH (wV h hD (by intro z;cases z))];exact h))
 ·exact .inl (.inr ⟨o,by rw [bH (wV h hD (by intro z;cases z))];exact h⟩)
 ·exact .inr h
section
variable {X:Cx}
def bAj (K:PySem.W.Frag):List V→Hp→VK→Prop:=fun xs H Q=>∃(p:Addr) (bs:List Bool),xs=[.ref p]∧SqL K H p (bs.map V.bl)∧Q (.bl (bs.any id)) H
theorem any_range (bs:List Bool):(List.range bs.length).any (fun i=>bs.getD i false)=bs.any id:=by
 rw [Bool.eq_iff_iff,List.any_eq_true,List.any_eq_true]
 constructor
 ·rintro ⟨i,hi,h⟩
  have hi:=List.mem_range.mp hi
  rw [List.getD_eq_getElem?_getD,List.getElem?_eq_getElem hi] at h
  exact ⟨_,List.getElem_mem hi,h⟩
 ·rintro ⟨b,hb,h⟩
  obtain ⟨i,hi,e⟩:=List.mem_iff_getElem.mp hb
  refine ⟨i,List.mem_range.mpr hi,?_⟩
  rw [List.getD_eq_getElem?_getD,List.getElem?_eq_getElem hi]
  show bs[i]=true
  rw [e]
  exact h
theorem aSu (hc:X.calm=true):cY X (.builtin "any") (bAj X.K):=by
 intro pins s σ H xs us Q I r h
 obtain ⟨p,bs,rfl,hq,q⟩:=h
 obtain ⟨u,rfl,rx⟩:=r.one
 cases rx
 obtain ⟨its,rv,pl,hz⟩:=I.list hq
 have hl:=rv.length
 rw [List.length_map] at hl
 have hne:p≠s.heap.objs.size:=by
  obtain ⟨o,ho,_⟩:=pl.isList
  exact Nat.ne_of_lt (Heap.lt_size ho)
 refine call_any_walk (wpAny_pyIter_list pl.isList ?_)
 refine ⟨s.heap.objs.size,_,_,_,_,_,fun i=>bs.getD i false,rfl,Walks.list (show X.A.in1.handled=none from I.ok.hd hc) _ p hne its.toArray,⟨⟨_,Heap.get?_push_size _ rfl,rfl,rfl⟩,?_⟩,?_,fun h' tk kp=>?_⟩
 ·exact pl.isList.at fun o e=>Heap.get?_push_of_some _ e
 ·intro i v s' Q' E' hv hq'
  have hv':its[i]?=some v:=by simpa using hv
  have hi:i<bs.length:=by rw [hl];exact (List.getElem?_eq_some_iff.mp hv').1
  obtain ⟨u,hu,ru⟩:=rv.get (i:=i) (x:=.bl bs[i]) (by rw [List.getElem?_map,List.getElem?_eq_getElem hi];rfl)
  rw [hv'] at hu
  cases hu
  cases ru
  have e:bs.getD i false=bs[i]:=by rw [List.getD_eq_getElem?_getD,List.getElem?_eq_getElem hi];rfl
  replace hq':Q' (bs.getD i false) s':=hq'
  rw [e] at hq'
  exact wpAny_truthy_bool hq'
 ·have e:(List.range its.toArray.size).any (fun i=>bs.getD i false)=bs.any id:=by
   rw [List.size_toArray,←hl];exact any_range bs
  rw [e]
  refine ⟨.bl (bs.any id),H,?_,rfl,q⟩
  exact I.kept fun b o eo=>kp b o (by
   intro z
   have:b=s.heap.objs.size:=by simpa using z
   rw [this] at eo
   exact absurd (Heap.lt_size eo) (Nat.lt_irrefl _)) (Heap.get?_push_of_some _ eo)
def aXy:List V→Hp→VK→Prop:=fun xs H Q=>∃z:Str,xs=[.str z]∧z.length≤1000∧∀l H',H l=none→Same H H'→H' l=some (.lst ((List.range z.cps.size).map fun i=>V.str (sgn z i)))→Q (.ref l) H'
theorem aBi (z:Str):∀(n k:Nat) (vs:List Value),vs.length=n→(∀(j:Nat) (v:Value),vs[j]?=some v→∃t,v=.str (sgn z (k+j)) t)→Vals ((List.range' k n).map fun i=>V.str (sgn z i)) vs
 |0,k,[],_,_=>.nil
 |n+1,k,v::vs,hl,h=>by
  obtain ⟨t,rfl⟩:=h 0 v rfl
  rw [List.range'_succ,List.map_cons]
  refine .cons ⟨t,rfl⟩ (aBi z n (k+1) vs (by simpa using hl) fun j u e=>?_)
  obtain ⟨t',e'⟩:=h (j+1) u e
  exact ⟨t',by rw [e',show k+(j+1)=k+1+j by lia]⟩
theorem aMi (hc:X.calm=true):cY X (.type "list") aXy:=by
 intro pins s σ H xs us Q I r h
 obtain ⟨z,rfl,hl,q⟩:=h
 obtain ⟨u,rfl,t,rfl⟩:=vals1 r
 refine call_list_str (I.ok.hd hc) z t (fun h' tk acc' c' kp hS hacc=>?_) (small hl)
 have hv:=aBi z z.cps.size 0 acc'.toList (by rw [Array.length_toList];exact hacc.1) fun j v e=>by
  have hj:=hacc.2 j v (by rw [←Array.getElem?_toList];exact e)
  obtain ⟨c,t',e1,e2⟩:=hj
  refine ⟨t',?_⟩
  rw [e2]
  unfold sgn
  rw [Nat.zero_add,Array.getD_eq_getD_getElem?,e1]
  rfl
 rw [←List.range_eq_range'] at hv
 have ea:acc'.toList.toArray=acc':=by simp
 have hf:H s.heap.objs.size=none:=I.hok.fresh (Nat.le_refl _)
 refine ⟨.ref s.heap.objs.size,_,I.laid (t':=tk) (o:=.lst ((List.range z.cps.size).map fun i=>V.str (sgn z i))) kp (Nat.le_refl _) ?_,rfl,q _ _ hf (bM hf _) aQ⟩
 refine ⟨by rw [List.length_map,List.length_range];exact small hl,acc'.toList,c',hv,?_⟩
 rw [ea]
 exact hS
end
theorem nG {X:Cx} {K:PySem.W.Frag} (h:X.K=K:=by rfl):OpR X (compareOp .In) (rIn K false):=by subst h;exact uC
structure aT5 (E:Hp→Hp→Prop) (H:Hp):Prop where
 new:∀D o,H D=none→E H (upd H D o)
 trans:∀{H1 H2},E H H1→E H1 H2→E H H2
 upd:∀D o H',H D=none→E H H'→E H (upd H' D o)
 keep:∀D H1 H2 xs,H D=none→E H H1→H1 D=some (.lst xs)→E H1 H2→H2 D=some (.lst xs)
theorem oW (H:Hp):aT5 Same H:=⟨fun D o h=>bM h o,fun a b=>a.trans b,fun D o H' h s=>yH h s,fun D H1 H2 xs _ _ h s=>s _ _ h⟩
def aJ8 (J:It) (H1:Hp) (σ0:L2.St) (g:TG) (tt:TT) (te:TE) (Q:VK):Prop:=∀D,H1 D=none→∃W:Nat→Nat→L2.St→Hp→List V→Prop,(∃m,W 0 m σ0 (L2.upd H1 D (.lst [])) []) ∧
 ∀i m σ' H' ys,W i m σ' H' ys→H' D=some (.lst ys)∧((J.stop i H'∧Q (.ref D) H')∨(J.go i H'∧∀x H2,J.yld i H' x H2→g x σ' H2 fun σ3 H3=>tt σ3 H3 fun b H4=>
  if b=true then te σ3 H4 fun y H5=>H5 D=some (.lst ys)∧ys.length<sizeLine∧∃m',m'<m∧W (i+1) m' σ3 (L2.upd H5 D (.lst (ys++[y]))) (ys++[y]) else H4 D=some (.lst ys)∧∃m',m'<m∧W (i+1) m' σ3 H4 ys))
section
variable {X:Cx} {K:PySem.W.Frag} {scope:Scope} {N:List Str} {tl te:TE} {tt:TT} {g:TG} {σ:L2.St} {H:Hp} {Q:VK}
theorem rQ (σ0:L2.St) (cap:Cap X scope N σ σ0) (h:tl σ H fun v H1=>∃a,v=.ref a∧(∃xs,SqL K H1 a xs)∧aJ8 (Itl K a) H1 σ0 g tt te Q):iQ X scope N (rG K tl) g tt te σ H Q:=⟨σ0,cap,h⟩
theorem wF (σ0:L2.St) (cap:Cap X scope N σ σ0) (h:tl σ H fun v H1=>∃a,v=.ref a∧(∃xs,SqT K H1 a xs)∧aJ8 (Itt K a) H1 σ0 g tt te Q):iQ X scope N (aCx K tl) g tt te σ H Q:=⟨σ0,cap,h⟩
theorem aB0 {a:Addr} {xs:List V} {E:Hp→Hp→Prop} (hS:∀H',E H H'→SqT K H' a xs):∀H' i x,E H H'→xs[i]?=some x→(Itt K a).go i H'∧∀y H2,(Itt K a).yld i H' y H2→H2=H'∧y=x:=fun H' i x s e=>
 ⟨⟨xs,x,hS H' s,e⟩,fun y H2 hy=>by
  obtain ⟨e1,e2⟩:=hy
  have e3:=e2 xs (hS H' s)
  rw [e] at e3
  cases e3
  exact ⟨e1,rfl⟩⟩
theorem sS {a:Addr} {xs:List V} {E:Hp→Hp→Prop} (hS:∀H',E H H'→SqT K H' a xs):∀H',E H H'→(Itt K a).stop xs.length H':=fun H' s=>⟨xs,hS H' s,Nat.le_refl _⟩
theorem yE {a:Addr} {xs:List V} {E:Hp→Hp→Prop} (hS:∀H',E H H'→SqL K H' a xs):∀H' i x,E H H'→xs[i]?=some x→(Itl K a).go i H'∧∀y H2,(Itl K a).yld i H' y H2→H2=H'∧y=x:=fun H' i x s e=>
 ⟨⟨xs,x,hS H' s,e⟩,fun y H2 hy=>by
  obtain ⟨e1,e2⟩:=hy
  have e3:=e2 xs (hS H' s)
  rw [e] at e3
  cases e3
  exact ⟨e1,rfl⟩⟩
theorem pO {a:Addr} {xs:List V} {E:Hp→Hp→Prop} (hS:∀H',E H H'→SqL K H' a xs):∀H',E H H'→(Itl K a).stop xs.length H':=fun H' s=>⟨xs,hS H' s,Nat.le_refl _⟩
inductive mF (R:Nat→V→Prop):List Nat→List V→Prop
 |nil:mF R [] []
 |cons {i y is ys}:R i y→mF R is ys→mF R (i::is) (y::ys)
theorem mF.snoc {R:Nat→V→Prop} {is:List Nat} {ys:List V} {i:Nat} {y:V} (h:mF R is ys) (r:R i y):mF R (is++[i]) (ys++[y]):=by
 induction h with
 |nil=>exact .cons r .nil
 |cons r' _ ih=>exact .cons r' ih
theorem mF.imp {R S:Nat→V→Prop} {is:List Nat} {ys:List V} (h:mF R is ys) (k:∀i y,R i y→S i y):mF S is ys:=by
 induction h with
 |nil=>exact .nil
 |cons r _ ih=>exact .cons (k _ _ r) ih
theorem mF.len {R:Nat→V→Prop} {is:List Nat} {ys:List V} (h:mF R is ys):is.length=ys.length:=by
 induction h with
 |nil=>rfl
 |cons _ _ ih=>rw [List.length_cons,List.length_cons,ih]
theorem yG {σ0:L2.St} (E:Hp→Hp→Prop) (eo:aT5 E H) (xs:List V) (p:Nat→Bool) (Rel:Nat→Hp→V→Prop)
  (st:∀{i H1 H2 y},E H H1→E H1 H2→Rel i H1 y→Rel i H2 y) (su:∀{i H1 D ys zs y},H D=none→E H H1→H1 D=some (.lst ys)→Rel i H1 y→Rel i (L2.upd H1 D (.lst zs)) y)
  (At:Nat→L2.St→Prop) (Ps:L2.St→Prop) (h0:Ps σ0) (hsz:xs.length≤sizeLine)
  (J:It) (go:∀H' i x,E H H'→xs[i]?=some x→J.go i H'∧∀y H2,J.yld i H' y H2→H2=H'∧y=x) (stop:∀H',E H H'→J.stop xs.length H')
  (hg:∀(i:Nat) (x:V) σ' H' Q',xs[i]?=some x→Ps σ'→E H H'→(∀σ2,Ps σ2→At i σ2→Q' σ2 H')→g x σ' H' Q')
  (ht:∀(i:Nat) (x:V) σ2,xs[i]?=some x→At i σ2→∀H' R,E H H'→(∀H2,E H' H2→R (p i) H2)→tt σ2 H' R)
  (he:∀(i:Nat) (x:V) σ2,xs[i]?=some x→At i σ2→p i=true→∀H' R,E H H'→(∀y H2,E H' H2→Rel i H2 y→R y H2)→te σ2 H' R)
  (q:∀D H' ys,E H H'→H D=none→H' D=some (.lst ys)→mF (fun i y=>Rel i H' y) (sel p 0 (List.range xs.length)) ys→Q (.ref D) H'):aJ8 J H σ0 g tt te Q:=by
 intro D hD
 refine ⟨fun i m σ' H' ys=>i≤xs.length∧m=xs.length - i∧Ps σ'∧E H H'∧H' D=some (.lst ys)∧mF (fun i y=>Rel i H' y) (sel p 0 (List.range i)) ys,⟨xs.length,Nat.zero_le _,rfl,h0,eo.new _ _ hD,aQ,.nil⟩,?_⟩
 rintro i m σ' H' ys ⟨hi,rfl,hps,sm,hL,hR⟩
 refine ⟨hL,?_⟩
 by_cases hlt:i<xs.length
 ·right
  have hx:=List.getElem?_eq_getElem hlt
  obtain ⟨g1,g2⟩:=go H' i xs[i] sm hx
  refine ⟨g1,fun x H2 hy=>?_⟩
  obtain ⟨rfl,rfl⟩:=g2 x H2 hy
  have tk:sel p 0 (List.range (i+1))=sel p 0 (List.range i)++(if p i then [i] else []):=by
   rw [List.range_succ,aCn,List.length_range,Nat.zero_add]
  have lR:=hR.len
  have lS:=uD p 0 (List.range i)
  rw [List.length_range] at lS
  refine hg i xs[i] σ' _ _ hx hps sm fun σ2 hp2 hat=>?_
  refine ht i xs[i] σ2 hx hat _ _ sm fun H3 s3=>?_
  have sm3:=eo.trans sm s3
  have hL3:=eo.keep D _ _ _ hD sm hL s3
  cases hp:p i with
  |true=>
   rw [if_pos rfl]
   refine he i xs[i] σ2 hx hat hp _ _ sm3 fun y H4 s4 r4=>?_
   have sm4:=eo.trans sm3 s4
   have hL4:=eo.keep D _ _ _ hD sm3 hL3 s4
   refine ⟨hL4,by lia,xs.length - (i+1),by lia,hlt,rfl,hp2,eo.upd D _ _ hD sm4,aQ,?_⟩
   rw [tk,hp]
   exact mF.snoc (hR.imp fun j z r=>su hD sm4 hL4 (st sm3 s4 (st sm s3 r))) (su hD sm4 hL4 r4)
  |false=>
   rw [if_neg (by simp)]
   refine ⟨hL3,xs.length - (i+1),by lia,hlt,rfl,hp2,sm3,hL3,?_⟩
   rw [tk,hp]
   simp only [Bool.false_eq_true,if_false,List.append_nil]
   exact hR.imp fun j z r=>st sm s3 r
 ·left
  have e:i=xs.length:=by lia
  subst e
  exact ⟨stop _ sm,q D _ ys sm hD hL hR⟩
theorem aZo {σ0:L2.St} (E:Hp→Hp→Prop) (eo:aT5 E H) (xs:List V) (Rel:Nat→Hp→V→Prop)
  (st:∀{i H1 H2 y},E H H1→E H1 H2→Rel i H1 y→Rel i H2 y) (su:∀{i H1 D ys zs y},H D=none→E H H1→H1 D=some (.lst ys)→Rel i H1 y→Rel i (L2.upd H1 D (.lst zs)) y)
  (At:Nat→L2.St→Prop) (Ps:L2.St→Prop) (h0:Ps σ0) (hsz:xs.length≤sizeLine)
  (J:It) (go:∀H' i x,E H H'→xs[i]?=some x→J.go i H'∧∀y H2,J.yld i H' y H2→H2=H'∧y=x) (stop:∀H',E H H'→J.stop xs.length H')
  (hg:∀(i:Nat) (x:V) σ' H' Q',xs[i]?=some x→Ps σ'→E H H'→(∀σ2,Ps σ2→At i σ2→Q' σ2 H')→g x σ' H' Q')
  (ht:∀(i:Nat) (x:V) σ2,xs[i]?=some x→At i σ2→∀H' R,E H H'→(∀b H2,E H' H2→R b H2)→tt σ2 H' R)
  (he:∀(i:Nat) (x:V) σ2,xs[i]?=some x→At i σ2→∀H' R,E H H'→(∀y H2,E H' H2→Rel i H2 y→R y H2)→te σ2 H' R)
  (q:∀D H' ys,E H H'→H D=none→H' D=some (.lst ys)→(∃is:List Nat,is.Sublist (List.range xs.length)∧mF (fun i y=>Rel i H' y) is ys)→Q (.ref D) H'):aJ8 J H σ0 g tt te Q:=by
 intro D hD
 refine ⟨fun i m σ' H' ys=>i≤xs.length∧m=xs.length - i∧Ps σ'∧E H H'∧H' D=some (.lst ys)∧∃is:List Nat,is.Sublist (List.range i)∧mF (fun i y=>Rel i H' y) is ys,⟨xs.length,Nat.zero_le _,rfl,h0,eo.new _ _ hD,aQ,[],List.nil_sublist _,.nil⟩,?_⟩
 rintro i m σ' H' ys ⟨hi,rfl,hps,sm,hL,is,hsub,hR⟩
 refine ⟨hL,?_⟩
 by_cases hlt:i<xs.length
 ·right
  have hx:=List.getElem?_eq_getElem hlt
  obtain ⟨g1,g2⟩:=go H' i xs[i] sm hx
  refine ⟨g1,fun x H2 hy=>?_⟩
  obtain ⟨rfl,rfl⟩:=g2 x H2 hy
  have lR:=hR.len
  have lS:=hsub.length_le
  rw [List.length_range] at lS
  refine hg i xs[i] σ' _ _ hx hps sm fun σ2 hp2 hat=>?_
  refine ht i xs[i] σ2 hx hat _ _ sm fun bb H3 s3=>?_
  have sm3:=eo.trans sm s3
  have hL3:=eo.keep D _ _ _ hD sm hL s3
  cases bb with
  |true=>
   rw [if_pos rfl]
   refine he i xs[i] σ2 hx hat _ _ sm3 fun y H4 s4 r4=>?_
   have sm4:=eo.trans sm3 s4
   have hL4:=eo.keep D _ _ _ hD sm3 hL3 s4
   refine ⟨hL4,by lia,xs.length - (i+1),by lia,hlt,rfl,hp2,eo.upd D _ _ hD sm4,aQ,is++[i],by rw [List.range_succ];exact hsub.append (List.Sublist.refl _),?_⟩
   exact mF.snoc (hR.imp fun j z r=>su hD sm4 hL4 (st sm3 s4 (st sm s3 r))) (su hD sm4 hL4 r4)
  |false=>
   rw [if_neg (by simp)]
   refine ⟨hL3,xs.length - (i+1),by lia,hlt,rfl,hp2,sm3,hL3,is,by rw [List.range_succ];exact hsub.trans (List.sublist_append_left _ _),?_⟩
   exact hR.imp fun j z r=>st sm s3 r
 ·left
  have e:i=xs.length:=by lia
  subst e
  exact ⟨stop _ sm,q D _ ys sm hD hL ⟨is,hsub,hR⟩⟩
end
def At1 (σ0:L2.St) (v:V) (σ:L2.St):Prop:=∃l,σ=(σ0.set 0 l).set 0 (some v)
def Ps1 (σ0:L2.St) (σ:L2.St):Prop:=∃l,σ=σ0.set 0 l
def At2 (σ0:L2.St) (a b:V) (σ:L2.St):Prop:=σ=(σ0.set 0 (some a)).set 1 (some b)
def Ps2 (σ0:L2.St) (σ:L2.St):Prop:=∃l m,σ=(σ0.set 0 l).set 1 m
theorem hg1 {σ0:L2.St} {i:Nat} {x:V} {σ':L2.St} {H':Hp} {Q':L2.St→Hp→Prop} (h:Ps1 σ0 σ') (q:∀σ2,Ps1 σ0 σ2→At1 σ0 x σ2→Q' σ2 H'):bO 0 x σ' H' Q':=by
 obtain ⟨l,rfl⟩:=h
 exact q _ ⟨some x,by rw [List.set_set]⟩ ⟨l,rfl⟩
theorem hg2 {K:PySem.W.Frag} {σ0:L2.St} {p:Addr} {a b:V} {σ':L2.St} {H':Hp} {Q':L2.St→Hp→Prop} (hp:SqT K H' p [a,b]) (h:Ps2 σ0 σ') (q:∀σ2,Ps2 σ0 σ2→At2 σ0 a b σ2→Q' σ2 H'):aDa K 2 (jF (bO 0) (jF (bO 1) aAk)) (.ref p) σ' H' Q':=by
 obtain ⟨l,m,rfl⟩:=h
 have e:(((σ0.set 0 l).set 1 m).set 0 (some a)).set 1 (some b)=(σ0.set 0 (some a)).set 1 (some b):=by
  rw [List.set_comm _ _ (show (1:Nat)≠0 by decide),List.set_set,List.set_set]
 refine ⟨p,_,rfl,hp,rfl,_,_,rfl,_,_,rfl,rfl,?_⟩
 show Q' ((((σ0.set 0 l).set 1 m).set 0 (some a)).set 1 (some b)) H'
 rw [e]
 exact q _ ⟨some a,some b,rfl⟩ rfl
theorem tQ (xs:List V) (n:Nat):qC xs none (some (n:Int))=xs.take n:=by
 unfold qC
 rw [HT.aCo,HT.aA0,List.drop_zero,Nat.sub_zero]
 by_cases h:n≤xs.length
 ·rw [Nat.min_eq_left h]
 ·rw [Nat.min_eq_right (by lia),List.take_length,List.take_of_length_le (by lia)]
theorem nA (xs:List V) (n:Nat):qC xs (some (n:Int)) none=xs.drop n:=by
 unfold qC
 rw [HT.aCo,HT.aA0]
 by_cases h:n≤xs.length
 ·rw [Nat.min_eq_left h]
  exact List.take_of_length_le (by rw [List.length_drop];lia)
 ·rw [Nat.min_eq_right (by lia),List.drop_length,List.drop_of_length_le (by lia),List.take_nil]
def aZx (K:PySem.W.Frag):V→Option Int→Option Int→Hp→VK→Prop:=fun x lo hi H Q=>∃a xs,x=.ref a∧SqL K H a xs∧∀p H',H p=none→Same H H'→H' p=some (.lst (qC xs lo hi))→Q (.ref p) H'
theorem sZ {X:Cx}:SlR X (aZx X.K):=fun pins s σ H x v vl vu lo hi sl Q I rx hs pl pu ⟨a,xs,e,ha,q⟩=>
 aUj pins s σ H x v vl vu lo hi sl Q I rx hs pl pu ⟨a,xs,e,ha,fun p hp=>q p _ hp (bM hp _) aQ⟩
end L2
namespace HT
open PySem PySem.Spec PyProof.Rows L2
section
variable {prog:Program} {w:World} {A:Around} {E:Value→Shared→Prop} {s:Shared}
theorem uI {t sl:Addr} {items:Array Value} {vl vu:Value} {lo hi:Option Int} {Q:Value→Shared→Prop} (ht:IsTup s.heap t items) (hs:s.heap.IsSliceOf sl vl vu .none) (pl:IsPart vl lo) (pu:IsPart vu hi)
  (hw:sIx items.size 0 lo=0∧sIx items.size items.size hi=items.size) (h:Q (.ref t) s):wpAny (model prog w) A (getItem (.ref t) (.ref sl)) Q E s:=by
 obtain ⟨os,hos,hcs,hds⟩:=id hs
 have hTs:s.TypeIs (.ref sl) "slice":=⟨os,hos,hcs⟩
 obtain ⟨⟨cls,dd,data,slt⟩,ho,hc,n,hd⟩:=id ht
 simp only at hc hd
 subst hc hd
 unfold getItem
 try with_reducible refine wpAny_holding ?_
 first|refine wpAny_bind (wpAny_pure ?_)|skip
 refine wpAny_bind (wpAny_sequenceKey ht.typeIs (by decide) ?_)
 refine wpAny_bind (wpAny_callSpecial?_slot (name:=Str.ofString "__getitem__") ht.typeIs PyProof.Rows.slot_tuple_getitem
  (wpAny_call_entry PyProof.Rows.slot_tuple_getitem ht.typeIs entry_tuple_getitem ?_ (args_tuple_getitem _ _)))
 show wpAny _ _ (Builtin.Tuple.tupleItemsOf (.ref t) >>= _) _ _ s
 refine wpAny_bind (tupleItemsOf_ ht ?_)
 refine wpAny_bind (wpAny_typeOf hTs ?_)
 rw [if_pos (by decide)]
 refine wpAny_bind (pW hs pl pu ?_)
 have hyes:((((sIx items.size 0 lo:Nat):Int) == 0 && (1:Int) == 1 && (sIx items.size items.size hi - sIx items.size 0 lo) == items.size)=true):=by
  rw [hw.1,hw.2]
  simp
 show wpAny _ _ (if (((sIx items.size 0 lo:Nat):Int) == 0 && (1:Int) == 1 && (sIx items.size items.size hi - sIx items.size 0 lo) == items.size)=true then _ else _) _ _ s
 rw [if_pos hyes]
 obtain ⟨hp,g,d,tk,os'⟩:=s
 wp_walk using AutoSeq1.wpAny_loadPart' ho
 exact ⟨_,rfl,wpAny_pure h⟩
end
end HT
namespace L2
open PySem PySem.Spec PyProof.Rows
def bAu (K:PySem.W.Frag):V→Option Int→Option Int→Hp→VK→Prop:=fun x lo hi H Q=>∃a xs,x=.ref a∧SqT K H a xs∧∀p H',Same H H'→SqT K H' p (qC xs lo hi)→Q (.ref p) H'
theorem xJ {X:Cx}:SlR X (bAu X.K):=by
 intro pins s σ H x v vl vu lo hi sl Q I rx hs pl pu h
 obtain ⟨a,xs,rfl,hx,q⟩:=h
 by_cases hw:HT.sIx xs.length 0 lo=0∧HT.sIx xs.length xs.length hi=xs.length
 ·cases rx
  obtain ⟨its,r,ht,hz⟩:=I.tuple hx
  have hlen:its.toArray.size=xs.length:=by rw [List.size_toArray];exact r.length.symm
  refine ⟨"tuple",_,PyProof.Rows.slot_tuple_getitem.lookup,ht.typeIs,?_⟩
  refine HT.uI ht hs pl pu (by rw [hlen];exact hw) ⟨.ref a,H,I,rfl,q a H (Same.refl H) ?_⟩
  have e:qC xs lo hi=xs:=by
   unfold qC
   rw [hw.1,hw.2,List.drop_zero,Nat.sub_zero,List.take_length]
  rw [e]
  exact hx
 ·exact aGk pins s σ H _ v vl vu lo hi sl Q I rx hs pl pu ⟨a,xs,rfl,hx,hw,fun p H' s' g'=>q p H' s' (SqT.of g')⟩
def bAo (K:PySem.W.Frag):R2:=fun x y H Q=>∃(a b:Addr) (xs:List V),x=.ref a∧y=.ref b∧SqL K H a xs∧SqL K H b []∧Q (.bl xs.isEmpty) H
theorem aYc {X:Cx} (hu:X.A.units<cLine):OpR X (compareOp .Eq) (bAo X.K):=by
 intro pins s σ H x y v u Q I rx ry h
 obtain ⟨a,b,xs,rfl,rfl,ha,hb,q⟩:=h
 cases rx
 cases ry
 obtain ⟨its,rv,pl,hz⟩:=I.list ha
 obtain ⟨jts,rw',pm,hw⟩:=I.list hb
 have e1:=rv.length
 have e2:=rw'.length
 have ej:jts=[]:=List.length_eq_zero_iff.mp e2.symm
 subst ej
 cases xs with
 |nil=>
  have ei:its=[]:=List.length_eq_zero_iff.mp e1.symm
  subst ei
  refine SeqAt.RcAt.lists (e:=fun _=>true) pl.isList pm.isList rfl hu (fun j h1 h2=>by simp at h1) _ _ _ _ ?_
  exact ⟨.bl true,H,I,rfl,q⟩
 |cons y ys=>
  refine SeqAt.RcAt.lists_lengths pl.isList pm.isList ?_ hu _ _ _ _ ?_
  ·rw [List.length_cons] at e1
   simp only [List.size_toArray,List.length_nil]
   rw [←e1]
   simp
  ·exact ⟨.bl false,H,I,rfl,q⟩
section
variable {X:Cx}
def aXk:List V→Hp→VK→Prop:=fun xs H Q=>∃d kvs,xs=[.ref d]∧H d=some (.dK kvs)∧∀p H',H p=none→Same H H'→H' p=some (.dK kvs)→Q (.ref p) H'
theorem aLr:cY X (.type "dict") aXk:=by
 intro pins s σ H xs us Q I r h
 obtain ⟨d,kvs,rfl,hd,q⟩:=h
 obtain ⟨u,rfl,ru⟩:=vals1 r
 cases ru
 obtain ⟨z,hm,vs,rel,dd⟩:=aD1 I.hok hd
 have hl:vs.length≤sizeLine:=by
  have:=Paired.length rel
  lia
 refine kt_call_dict hm dd hl fun h' hd' hs'=>?_
 have hf:H s.heap.objs.size=none:=I.hok.fresh (Nat.le_refl _)
 refine ⟨.ref s.heap.objs.size,_,I.laid (t':=s.toks) (o:=.dK kvs) (fun b o e=>hs'.extBut b o (Nat.ne_of_lt (Heap.lt_size e)) (Heap.get?_push_of_some _ e)) (Nat.le_refl _) ?_,rfl,q _ _ hf (bM hf _) aQ⟩
 exact ⟨z,beq_eq_false_iff_ne.mpr (Ne.symm (Nat.ne_of_lt I.big)),vs,rel,hd'⟩
theorem aNc:∀{kvs:List (Key × V)} {vs us:List (Key × Value)},(∀p∈kvs,∃a,p.2=.ref a)→KV kvs vs→KV kvs us→vs=us
 |[],_,_,_,.nil,.nil=>rfl
 |p::r,_,_,h,.cons q t,.cons q' t'=>by
  rename_i x xs y ys
  obtain ⟨a,e⟩:=h p (List.mem_cons_self ..)
  obtain ⟨k1,r1⟩:=q
  obtain ⟨k2,r2⟩:=q'
  rw [e] at r1 r2
  have e1:x=(p.1,Value.ref a):=Prod.ext k1.symm r1
  have e2:y=(p.1,Value.ref a):=Prod.ext k2.symm r2
  rw [e1,e2,aNc (fun z hz=>h z (List.mem_cons_of_mem _ hz)) t t']
theorem aIq {κ:Type} [DecidableEq κ] {kb:List (κ × Value)} (nd:(kb.map (·.1)).Nodup) {k:κ} {v:Value} (h:(k,v)∈kb):valueAt kb k=some v:=by
 induction kb with
 |nil=>cases h
 |cons x r ih=>
  rw [List.map_cons,List.nodup_cons] at nd
  unfold valueAt
  rw [List.find?_cons]
  rcases List.mem_cons.mp h with e|h
  ·subst e
   rw [decide_eq_true rfl]
   rfl
  ·have ne:¬ x.1=k:=fun z=>nd.1 (by rw [z];exact List.mem_map.mpr ⟨_,h,rfl⟩)
   rw [decide_eq_false ne]
   exact ih nd.2 h
theorem aD2 {κ:Type} [DecidableEq κ] {A:Around} {s:Shared} {kb:List (κ × Value)} (nd:(kb.map (·.1)).Nodup):∀{ka:List (κ × Value)},(∀p∈ka,p∈kb)→PySem.W.KeqHits A s kb ka true
 |[],_=>.nil
 |(k,v)::r,h=>by
  have:=PySem.W.KeqHits.hit (A:=A) (s:=s) (e:=true) (b:=true) (aIq nd (h (k,v) (List.mem_cons_self ..))) (SeqAt.EqAt.same v) (aD2 nd fun p hp=>h p (List.mem_cons_of_mem _ hp))
  exact this
def bAz:R2:=fun x y H Q=>∃d e kvs,x=.ref d∧y=.ref e∧H d=some (.dK kvs)∧H e=some (.dK kvs)∧(∀p∈kvs,∃a,p.2=.ref a)∧Q (.bl false) H
theorem bA3 (hu:X.A.units<cLine):OpR X (compareOp .NotEq) bAz:=by
 intro pins s σ H x y v u Q I rx ry h
 obtain ⟨d,e,kvs,rfl,rfl,hd,he,hr,q⟩:=h
 cases rx
 cases ry
 obtain ⟨z,hm,vs,rel,dd⟩:=aD1 I.hok hd
 obtain ⟨z',hm',us,rel',de⟩:=aD1 I.hok he
 have e1:=aNc hr rel rel'
 subst e1
 have nd:(vs.map (·.1)).Nodup:=let ⟨_,_,_,_,_,_,_,_,hn⟩:=dd;hn
 refine PySem.W.keq_ne (r:=true) hm hm' dd de hu (fun _=>aD2 nd fun p hp=>hp) ?_
 have ez:(!(vs.length == vs.length && true))=false:=by simp
 rw [ez]
 exact ⟨.bl false,H,I,rfl,q⟩
end
inductive PH (P:Program) (w:World):List DictEntry→List (Str × Value)→Prop
 |nil:PH P w [] []
 |cons {e:DictEntry} {kv:Str × Value} {es:List DictEntry} {kvs:List (Str × Value)}:(strKind P w).is kv.1 e.key=true→e.hash=(strKind P w).hash kv.1→e.val=kv.2→PH P w es kvs→PH P w (e::es) (kv::kvs)
theorem PH.keys {P:Program} {w:World} {es:List DictEntry} {kvs:List (Str × Value)} (h:PH P w es kvs):∀e∈es,∃k,(strKind P w).is k e.key=true∧e.hash=(strKind P w).hash k:=by
 induction h with
 |nil=>intro e he;cases he
 |cons a b c _ ih=>
  intro e he
  rcases List.mem_cons.mp he with rfl|he
  ·exact ⟨_,a,b⟩
  ·exact ih e he
theorem PH.pairs {P:Program} {w:World} {es:List DictEntry} {kvs:List (Str × Value)} (h:PH P w es kvs):Pairs (strKind P w) es kvs:=by
 induction h with
 |nil=>exact .nil
 |cons a b c _ ih=>exact .cons a c ih
theorem aP7 {P:Program} {w:World} {o:Obj} {es:Array DictEntry} {ep:Nat} {kvs:List (Str × Value)} (hx:o.ExactDict) (hd:o.data=.dict es ep) (h:PH P w es.toList kvs) (nd:(kvs.map (·.1)).Nodup):o.IsDictOf (strKind P w) kvs:=
 ⟨es,ep,hx,hd,fun e he=>h.keys e (Array.mem_toList_iff.mpr he),h.pairs,nd⟩
end L2
namespace PySem
theorem aAf:typeLookup (.type "tuple") "keys"=pure none:=am_miss_of_fast (by decide +kernel)
section
variable {prog:Program} {w:World} {A:Around} {E:Value→Shared→Prop} {s:Shared}
theorem aGa {a:Addr} {o:Obj} {xs:Array Value} {k:Nat} {Q:Option Value→Shared→Prop} (hx:s.heap.get? a=some o) (hc:o.cls=.type "tuple") (hdat:o.data=.seq xs k) (hd:o.dict=none) (hA:A.handled=none)
  (h:∀h' tk,(∀b u,s.heap.get? b=some u→h'.get? b=some u)→Q none { s with heap:=h',toks:=tk }):wpAny (model prog w) A (getAttr? (.ref a) "keys") Q E s:=by
 obtain ⟨c,dct,dat,sl⟩:=o
 simp only at hc hdat hd
 subst hc hdat hd
 obtain ⟨hp,g,d,tk,os⟩:=s
 have hT:∀tk',(⟨hp,g,d,tk',os⟩:Shared).TypeIs (.ref a) "tuple":=fun _=>⟨_,hx,rfl⟩
 have f1:=sub_AttributeError
 have f3:=F.slot_tuple_getattribute.lookup
 have f4:=F.slot_tuple_getattribute.bind (.ref a)
 have f5:=am_tuple_getattr_none
 unfold getAttr? getAttrBy? getAttrBy
 repeat (any_goals (first|assumption|exact hT _|((with_reducible show wpAny _ _ (call (Value.builtin "tuple.__getattribute__") _ _) _ _ _);refine call_meets F.slot_tuple_getattribute (hT _) am_entry_tuple_getattribute (F.args_tuple_getattribute_2 _ _) (meets_getattribute_miss_tuple a xs k sl "keys" _ aAf (by decide +kernel) (by size_fits)) ⟨hx,hA,fun h' tk' e hx'=>?_⟩)|wp_step))
 obtain ⟨t',u',he⟩:=hx'.there
 show wpAny _ _ (getattributeRaised _ _ _ _ _ _ _) _ _ _
 unfold getattributeRaised
 repeat (any_goals (first|assumption|wp_step))
 exact h _ _ hx'.keeps
end
end PySem
namespace PySem
theorem dH:entryFor table "dict.update.loop"=some Builtin.«dict.update.loop»:=entryFor_of_tree (by kernel_rfl)
theorem bQ:plainId "dict.update.loop"=true:=by decide +kernel
section
variable {prog:Program} {w:World} {κ:Type} [DecidableEq κ] {knd:KeyKind prog w κ}
def uQ (knd:KeyKind prog w κ) (h:Heap) (v:Value) (kv:κ × Value):Prop:=∃p key,v=.ref p∧PyProof.Rows.IsTup h p #[key,kv.2]∧knd.is kv.1 key=true
theorem uQ.at {h h':Heap} {v:Value} {kv:κ × Value} (x:uQ knd h v kv) (k:∀p,v=.ref p→∀o,h.get? p=some o→h'.get? p=some o):uQ knd h' v kv:=by
 obtain ⟨p,key,rfl,⟨o,ho,r⟩,hk⟩:=x
 exact ⟨p,key,rfl,⟨o,k p rfl o ho,r⟩,hk⟩
theorem aAj {A:Around} {R:Result→Shared→Prop} {I:Addr} {fp wr:List Addr} {n:Nat} {P:Nat→Value→Prop} {St:Nat→Heap→Prop} (W:Walks prog w A.in1 I fp wr n P St) (D:Addr) (hD:D∉fp)
  (kvs:List (κ × Value)) (hlen:kvs.length=n) (hb:n≤1000) (hP:∀i v,P i v→∀p,v=.ref p→p∉D::wr) :
  ∀(k i:Nat) (s:Shared) (t:Tok),i+k=n→St i s.heap→s.heap.DictOf knd D (merged [] (kvs.take i))→(∀j v kv,P j v→kvs[j]?=some kv→uQ knd s.heap v kv) →
   (∀h' tk,(∀b o,b∉D::wr→s.heap.get? b=some o→h'.get? b=some o)→h'.DictOf knd D (merged [] kvs)→R (.ok (.ret .none)) { s with heap:=h',toks:=tk }) →
   codeAny (model prog w) A (.builtin "dict.update.loop" ⟨[.ref D,.ref I,.int (i:Nat) t,.none],[]⟩) R s:=by
 have hDw:D∉wr:=fun q=>hD (W.sub _ q)
 intro k
 induction k with
 |zero=>
  intro i s t hi st hd hp q
  obtain rfl:i=n:=by lia
  refine codeAny_builtin dH ?_
  rw [Around.under_plainId bQ _]
  show wpAny _ A.in1 (pyNext (.ref I) >>= _) _ _ _
  refine wpAny_bind (W.done s _ _ st fun h' tk kp=>?_)
  show wpAny _ _ (Builtin.Dict.addKeywords D [] >>= _) _ _ _
  refine wpAny_bind (wpAny_pure (wpAny_pure (q h' tk (fun b o nb e=>kp b o (fun z=>nb (List.mem_cons_of_mem _ z)) e) ?_)))
  rw [List.take_of_length_le (Nat.le_of_eq hlen)] at hd
  exact hd.at fun o e=>kp D o hDw e
 |succ k ih=>
  intro i s t hi st hd hp q
  refine codeAny_builtin dH ?_
  rw [Around.under_plainId bQ _]
  show wpAny _ A.in1 (pyNext (.ref I) >>= _) _ _ _
  refine wpAny_bind (W.item i s _ _ (by lia) st fun v h1 tk1 hv st1 kp1=>?_)
  have hlt:i<kvs.length:=by lia
  have hkv:=List.getElem?_eq_getElem hlt
  have hd1:h1.DictOf knd D (merged [] (kvs.take i)):=hd.at fun o e=>kp1 D o hDw e
  have hp1:∀j v kv,P j v→kvs[j]?=some kv→uQ knd h1 v kv:=fun j v kv pj e=>(hp j v kv pj e).at fun p ev o eo=>kp1 p o (fun z=>hP j v pj p ev (List.mem_cons_of_mem _ z)) eo
  obtain ⟨p,key,rfl,⟨⟨oc,od,ox,osl⟩,ho,hc,m,hx⟩,hk⟩:=hp1 i v _ hv hkv
  simp only at hc hx
  subst hc hx
  have hml:(merged [] (kvs.take i)).length≤i:=by
   have:=merged_length_le [] (kvs.take i)
   rw [List.length_take] at this
   simp only [List.length_nil] at this
   lia
  obtain ⟨hp0,g,d,tk,os⟩:=s
  have hT:(⟨h1,g,d,tk1,os⟩:Shared).TypeIs (.ref p) "tuple":=⟨_,ho,rfl⟩
  have hpi:∀(Q:List Value→Shared→Prop) (E:Value→Shared→Prop),Q [key,kvs[i].2] ⟨h1,g,d,tk1,os⟩→wpAny (model prog w) A.in1 (Builtin.Dict.pairItems (.ref p)) Q E ⟨h1,g,d,tk1,os⟩:=by
   intro Q E h
   unfold Builtin.Dict.pairItems
   wp_walk
   exact h
  show wpAny _ A.in1 (holding [.ref p] _ >>= _) _ _ ⟨h1,g,d,tk1,os⟩
  refine wpAny_bind (wpAny_holding (wpAny_bind (wpAny_tryCatch (hpi _ _ ?_))))
  show wpAny _ A.in1 (holding [key,kvs[i].2] (dictSet D key kvs[i].2)) _ _ ⟨h1,g,d,tk1,os⟩
  refine wpAny_holding (wpAny_dictSet_pairs (s:=⟨h1,g,d,tk1,os⟩) hk hd1 (fun h2 hd2 sb2=>?_) (Nat.le_trans hml (Nat.le_trans (by lia) (show 1000≤sizeLine by decide))))
  have e1:merged [] (kvs.take (i+1))=stored (merged [] (kvs.take i)) kvs[i].1 kvs[i].2:=merged_take_succ [] kvs i _ hkv
  rw [←e1] at hd2
  refine wpAny_pure ⟨plainId_quiet bQ _,?_⟩
  have kp2:∀b o,b∉D::wr→hp0.get? b=some o→h2.get? b=some o:=fun b o nb e=>by
   rw [sb2.2 b (fun z=>nb (by rw [z];exact List.mem_cons_self))]
   exact kp1 b o (fun z=>nb (List.mem_cons_of_mem _ z)) e
  refine ih (i+1) _ _ (by lia) (W.frame _ _ _ st1 fun b hb o e=>?_) hd2 (fun j v kv pj e=>(hp1 j v kv pj e).at fun p' ev o eo=>?_) fun h' tk' kp hd'=>q h' tk' (fun b o nb e=>kp b o nb (kp2 b o nb e)) hd'
  ·rw [sb2.2 b (fun z=>hD (by rw [←z];exact hb))]
   exact e
  ·rw [sb2.2 p' (fun z=>hP j v pj p' ev (by rw [z];exact List.mem_cons_self))]
   exact eo
end
end PySem
namespace PySem
section
variable {prog:Program} {w:World} {κ:Type} [DecidableEq κ] {knd:KeyKind prog w κ} {A:Around} {E:Value→Shared→Prop} {s:Shared}
theorem aAh {t:Addr} {its:Array Value} {kvs:List (κ × Value)} {Q:Value→Shared→Prop} (hh:A.handled=none) (ht:PyProof.Rows.IsTup s.heap t its) (hd:∀o,s.heap.get? t=some o→o.dict=none) (hlen:kvs.length=its.size) (hb:its.size≤1000)
  (hp:∀(j:Nat) (v:Value) (kv:κ × Value),its[j]?=some v→kvs[j]?=some kv→uQ knd s.heap v kv)
  (q:∀h' tk,h'.DictOf knd s.heap.objs.size (merged [] kvs)→(∀b o,s.heap.get? b=some o→h'.get? b=some o)→Q (.ref s.heap.objs.size) { s with heap:=h',toks:=tk }) :
  wpAny (model prog w) A (call (.type "dict") [.ref t]) Q E s:=by
 refine callType_codes (Q₁:=fun obj s₁=>obj=.ref s.heap.objs.size∧s₁={ s with heap:=s.heap.push { cls:=.type "dict",data:=.dict #[] } }) F.kt_called_dict (F.kt_typeCall_dict_1 _) F.entry_dict_init (kt_code_dict_new _ ⟨rfl,rfl⟩) ?_
 rintro obj s₁ ⟨rfl,rfl⟩
 have hnew:(s.heap.push { cls:=.type "dict",data:=.dict #[] }).DictOf knd s.heap.objs.size []:=Heap.DictOf.new s.heap
 obtain ⟨o,ho,hc,n,hx⟩:=id ht
 have hod:=hd o ho
 have ho1:(s.heap.push { cls:=.type "dict",data:=.dict #[] }).get? t=some o:=Heap.get?_push_of_some _ ho
 have hT:Shared.TypeIs { s with heap:=s.heap.push { cls:=.type "dict",data:=.dict #[] } } (.ref t) "tuple":=⟨o,ho1,hc⟩
 have hlt:t<s.heap.objs.size:=Heap.lt_size ho
 refine ⟨hnew.typeIs,F.args_dict_init_2 _ _,?_⟩
 unfold Builtin.«dict.__init__»
 refine wpAny_bind ?_
 unfold Builtin.Dict.selfAndRest
 refine wpAny_bind (wpAny_notOrdered_dict hnew.typeIs ?_)
 show wpAny _ _ (pure (s.heap.objs.size,[Value.ref t])) _ _ _
 refine wpAny_pure ?_
 show wpAny _ _ (Builtin.Dict.updateFrom "dict.__init__" s.heap.objs.size (.ref t) [] .none) _ _ _
 unfold Builtin.Dict.updateFrom
 refine wpAny_bind (wpAny_typeOf hT ?_)
 rw [if_pos (by decide)]
 refine wpAny_bind (aGa ho1 hc hx hod (by first|exact hh|simp [hh]) fun h2 tk2 kp2=>?_)
 rw [if_pos (show (none:Option Value).isNone=true from rfl)]
 have ho2:h2.get? t=some o:=kp2 _ _ ho1
 have ht2:h2.IsTuple t its:=⟨o,ho2,hc,n,hx⟩
 refine wpAny_bind (wpAny_rule (wpAny_bind (wpAny_pyIter_tuple ht2 ?_)))
 have hs1:(s.heap.push { cls:=.type "dict",data:=.dict #[] }).objs.size=s.heap.objs.size+1:=Heap.size_push ..
 have hs2:s.heap.objs.size<h2.objs.size:=by
  obtain ⟨od,_,_,hg,_⟩:=id hnew
  exact Heap.lt_size (kp2 _ _ hg)
 refine wpAny_pure ⟨plainId_quiet bQ _,?_⟩
 have hne:t≠h2.objs.size:=Nat.ne_of_lt (Nat.lt_trans hlt hs2)
 refine aAj (knd:=knd) (Walks.tuple (by first|exact hh|simp [hh]) _ t hne its) s.heap.objs.size ?_ kvs hlen hb ?_ its.size 0 _ _ (by lia) ⟨⟨_,Heap.get?_push_size _ rfl,rfl,rfl⟩,ht2.push _⟩ ?_ ?_ fun h' tk kp hd'=>?_
 ·simp only [List.mem_cons,List.not_mem_nil,or_false,not_or]
  exact ⟨Nat.ne_of_lt hs2,Nat.ne_of_gt hlt⟩
 ·intro j v e p ev
  have hj:j<kvs.length:=by
   rw [hlen]
   exact (Array.getElem?_eq_some_iff.mp e).1
  obtain ⟨p',key,ev',⟨o',ho',_⟩,_⟩:=hp j v _ e (List.getElem?_eq_getElem hj)
  rw [ev] at ev'
  cases ev'
  have:=Heap.lt_size ho'
  simp only [List.mem_cons,List.not_mem_nil,or_false,not_or]
  exact ⟨Nat.ne_of_lt this,Nat.ne_of_lt (Nat.lt_trans this hs2)⟩
 ·exact (hnew.at fun o e=>kp2 _ _ e).at fun o e=>Heap.get?_push_of_some _ e
 ·intro j v kv e ek
  exact (hp j v kv e ek).at fun p _ o eo=>Heap.get?_push_of_some _ (kp2 _ _ (Heap.get?_push_of_some _ eo))
 ·refine ⟨rfl,q h' tk hd' fun b o e=>kp b o ?_ (Heap.get?_push_of_some _ (kp2 _ _ (Heap.get?_push_of_some _ e)))⟩
  have:=Heap.lt_size e
  simp only [List.mem_cons,List.not_mem_nil,or_false,not_or]
  exact ⟨Nat.ne_of_lt this,Nat.ne_of_lt (Nat.lt_trans this hs2)⟩
end
end PySem
namespace PySem
open PySem.Calls PyProof.Rows
section
variable {prog:Program} {w:World} {κ:Type} [DecidableEq κ] {knd:PySem.KeyKind prog w κ} {A:Around} {E:Value→Shared→Prop} {s:Shared}
theorem aM4 (nm:κ→Str):∀(kvs:List (κ × Value)) (vs:List Value),vs.length=kvs.length→(∀(j:Nat) (v:Value),vs[j]?=some v→∃kv t,kvs[j]?=some kv∧v=.str (nm kv.1) t)→StrsAre vs (kvs.map fun kv=>nm kv.1)
 |[],[],_,_=>.nil
 |kv::kvs,v::vs,hl,h=>by
  obtain ⟨kv',t,e,rfl⟩:=h 0 v rfl
  cases e
  exact .cons _ t (aM4 nm kvs vs (by simpa using hl) fun j v e=>h (j+1) v (by simpa using e))
theorem zB {d:Addr} {kvs:List (κ × Value)} {Q:Value→Shared→Prop} (nm:κ→Str) (hh:A.handled=none) (lo:(d == sysModules)=false) (hm:s.heap.DictOf knd d kvs) (htx:∀k v,knd.is k v=true→(∃x,(k,x)∈kvs)→∃t,v=Value.str (nm k) t) (h64:kvs.length<64)
  (q:∀(h1 h':Heap) (tk:Nat) (B:Addr) (vs:List Value) (ss:List Str) (e:Nat),StrsAre vs ss→ss.Perm (kvs.map fun kv=>nm kv.1)→h'.get? B=some (seqObj "list" vs.toArray e)→(∀b o,s.heap.get? b=some o→h1.get? b=some o)→(∀b o,h1.get? b=some o→h'.get? b=some o)→h1.objs.size≤B→Q (.ref B) { s with heap:=h',toks:=tk }) :
  wpAny (model prog w) A (call (.builtin "sorted") [.ref d]) Q E s:=by
 obtain ⟨ep,hat⟩:=hm.dictAt
 refine call_function_entry kind_sorted plain_sorted entry_sorted (args_sorted1 _) ?_
 unfold Builtin.«sorted»
 refine wpAny_bind (m:=checkCount "sorted" 1 1 _) (wpAny_pure ?_)
 refine wpAny_bind (PySem.W.kdu_collect (A:=A.in1) (PySem.W.kdl_dict (knd:=knd) (kvs:=kvs) (ep:=ep) lo) hh hat (by rw [sizeLine_eq];lia) fun h' tk acc hk hacc=>?_)
 have hl:acc.toList.length=kvs.length:=by rw [Array.length_toList];exact hacc.1
 have hS:StrsAre acc.toList (kvs.map fun kv=>nm kv.1):=aM4 nm kvs _ hl fun j v e=>by
  obtain ⟨k,x,hx,hi⟩:=hacc.2 j v (by rw [←Array.getElem?_toList];exact e)
  obtain ⟨t,rfl⟩:=htx k v hi ⟨x,List.mem_of_getElem? hx⟩
  exact ⟨(k,x),t,hx,rfl⟩
 refine wpAny_bind (wpAny_newList ?_ (by rw [sizeLine_eq];lia))
 have hoL:(h'.push (seqObj "list" acc.toList.toArray 0)).get? h'.objs.size=some (seqObj "list" acc.toList.toArray 0):=Heap.get?_push_size _ rfl
 refine wpAny_bind (wpAny_holding (wpAny_call_entry slot_list_sort ⟨_,hoL,rfl⟩ entry_list_sort (list_sort_treeK strKind_oneLt hoL hS.keysOf (fun v₁ v₂ rest e=>keyKind_strs (by rw [←e];exact hS)) (by rw [hl];exact h64) fun st' a1 a2=>⟨_,rfl,?_⟩) (args_list_sort _)))
 obtain ⟨ss',b1,b2,b3⟩:=sorted_out_str hS a1 a2
 obtain ⟨e,he⟩:=sortedHeap_at (out:=(arrOf st').map (·.2)) hoL
 refine wpAny_pure ⟨_,rfl,q h' _ tk h'.objs.size ((arrOf st').map (·.2)).toList ss' e b1 b2 (by rw [Array.toArray_toList];exact he) hk (fun b o hb=>?_) (Nat.le_refl _)⟩
 have hlt:=Heap.lt_size hb
 show (sortedHeap (h'.push (seqObj "list" acc.toList.toArray 0)) h'.objs.size acc.toList ((arrOf st').map (·.2))).get? b=some o
 rw [sortedHeap_old (Nat.ne_of_lt hlt) (by rw [size_push'];exact Nat.lt_succ_of_lt hlt)]
 exact Heap.get?_push_of_some _ hb
end
end PySem
namespace L2
open PySem PySem.Spec PyProof.Rows
section
variable {X:Cx}
abbrev aQz (K:PySem.W.Frag) (H:Hp):List V→List (Key × V)→Prop:=Paired fun u kv=>∃p,u=.ref p∧SqT K H p [kV kv.1,kv.2]
theorem aXw {pins:List (Addr × Obj)} {σ:L2.St} {H:Hp} {s:Shared} (I:Inv X pins σ H s) {us:List V} {kvs:List (Key × V)} (h:aQz X.K H us kvs):∀{its:List Value},Vals us its →
  ∃vs:List (Key × Value),KV kvs vs∧vs.length=its.length∧∀(j:Nat) (v:Value) (kv:Key × Value),its[j]?=some v→vs[j]?=some kv→uQ (cN X.prog X.w) s.heap v kv:=by
 induction h with
 |nil=>
  intro its hv
  cases hv
  exact ⟨[],.nil,rfl,fun j v kv e _=>by simp at e⟩
 |@cons u kv us kvs r t ih=>
  intro its hv
  cases hv with
  |cons q z=>
   obtain ⟨p,rfl,hp⟩:=r
   cases q
   obtain ⟨ks,rv,pl,hz⟩:=I.tuple hp
   obtain ⟨vs,h1,h2,h3⟩:=ih z
   obtain ⟨key,val,rfl,rk,rx⟩:=vals2 rv
   refine ⟨(kv.1,val)::vs,.cons ⟨rfl,rx⟩ h1,by rw [List.length_cons,List.length_cons,h2],fun j v kv' e e'=>?_⟩
   cases j with
   |zero=>
    cases e
    cases e'
    exact ⟨p,key,rfl,pl,aBy rk⟩
   |succ j=>exact h3 j v kv' (by simpa using e) (by simpa using e')
def aR4 (K:PySem.W.Frag):List V→Hp→VK→Prop:=fun xs H Q=>∃t us kvs,xs=[.ref t]∧SqT K H t us∧aQz K H us kvs∧us.length≤1000∧∀p H',H p=none→Same H H'→H' p=some (.dK (kO [] kvs))→Q (.ref p) H'
theorem aCb (hc:X.calm=true):cY X (.type "dict") (aR4 X.K):=by
 intro pins s σ H xs us Q I r h
 obtain ⟨t,us,kvs,rfl,ht,hp,hl,q⟩:=h
 obtain ⟨u,rfl,ru⟩:=vals1 r
 cases ru
 obtain ⟨its,rv,⟨tp,nd⟩,hz⟩:=I.bBa ht
 have e1:=rv.length
 obtain ⟨vs,h1,h2,h3⟩:=aXw I hp rv
 have lk:=KV.length h1
 refine aAh (knd:=cN X.prog X.w) (kvs:=vs) (I.ok.hd hc) tp nd (by rw [List.size_toArray];exact h2) (by rw [List.size_toArray];lia) (fun j v kv e e'=>h3 j v kv (by simpa using e) e') fun h' tk hd kp=>?_
 have hf:H s.heap.objs.size=none:=I.hok.fresh (Nat.le_refl _)
 refine ⟨.ref s.heap.objs.size,_,I.laid (t':=tk) (o:=.dK (kO [] kvs)) kp (Nat.le_refl _) ?_,rfl,q _ _ hf (bM hf _) aQ⟩
 have lm:=lJ kvs []
 simp only [List.length_nil] at lm
 exact ⟨small (by lia),beq_eq_false_iff_ne.mpr (Ne.symm (Nat.ne_of_lt I.big)),_,KV.merge h1 .nil,hd⟩
theorem aJn {K:PySem.W.Frag} (hc:X.calm=true) (h:X.K=K:=by rfl):cY X (.type "dict") (aR4 K):=by subst h;exact aCb hc
theorem aA8:∀(kvs acc:List (Key × V)),((acc++kvs).map (·.1)).Nodup→kO acc kvs=acc++kvs
 |[],acc,_=>by simp [kO]
 |kv::r,acc,h=>by
  have hn:mU acc kv.1=none:=by
   cases e:mU acc kv.1 with
   |none=>rfl
   |some v=>
    exfalso
    have:=aU3 e
    rw [List.map_append,List.nodup_append] at h
    exact h.2.2 _ this _ (by rw [List.map_cons];exact List.mem_cons_self ..) rfl
  show kO (putK acc kv.1 kv.2) r=_
  rw [aSj _ hn,aA8 r _ (by rw [List.append_assoc];exact h),List.append_assoc]
  rfl
theorem tZ {kvs:List (Key × V)} (h:(kvs.map (·.1)).Nodup):kO [] kvs=kvs:=aA8 kvs [] h
def aXl:List V→Hp→VK→Prop:=fun xs H Q=>∃(d:Addr) (kvs:List (Key × V)) (ns:List Str),xs=[.ref d]∧H d=some (.dK kvs)∧kvs.map (·.1)=(ns.map fun n=>(Sum.inr n:Key))∧kvs.length<64∧∀(p:Addr) (H':Hp) (ss:List Str),H p=none→Same H H'→ss.Perm ns→H' p=some (.lst (ss.map V.str))→Q (.ref p) H'
theorem aD0:∀{vs:List Value} {ss:List Str},StrsAre vs ss→Vals (ss.map V.str) vs
 |_,_,.nil=>.nil
 |_,_,.cons x t h=>.cons ⟨t,rfl⟩ (aD0 h)
theorem aYf (hc:X.calm=true):cY X (.builtin "sorted") aXl:=by
 intro pins s σ H xs us Q I r h
 obtain ⟨d,kvs,ns,rfl,hd,hk,h64,q⟩:=h
 obtain ⟨u,rfl,ru⟩:=vals1 r
 cases ru
 obtain ⟨z,hm,vs,rel,dd⟩:=aD1 I.hok hd
 have lk:=KV.length rel
 have ek:=KV.keys rel
 let nm:Key→Str:=fun k=>match k with|.inr n=>n|.inl _=>⟨#[]⟩
 have enm:(vs.map fun kv=>nm kv.1)=ns:=by
  have:(vs.map fun kv=>nm kv.1)=(vs.map (·.1)).map nm:=by rw [List.map_map];rfl
  rw [this,←ek,hk,List.map_map]
  exact List.map_id _
 refine zB (knd:=cN X.prog X.w) nm (I.ok.hd hc) hm dd (fun k v hi hx=>?_) (by lia) fun h1 h' tk B vs' ss e hS hp hB kp1 kp2 hle=>?_
 ·obtain ⟨x,hx⟩:=hx
  have hkm:k∈kvs.map (·.1):=by rw [ek];exact List.mem_map.mpr ⟨_,hx,rfl⟩
  rw [hk] at hkm
  obtain ⟨n,_,rfl⟩:=List.mem_map.mp hkm
  cases v with
  |str x t=>
   have e:x=n:=by simpa [cN,aCf,Value.isStrOf] using hi
   exact ⟨t,by rw [e]⟩
  |_=>exact absurd (show false=true from hi) Bool.false_ne_true
 ·rw [enm] at hp
  have I1:Inv X pins σ H { s with heap:=h1,toks:=tk }:=I.kept (t':=tk) kp1
  have hf:H B=none:=I1.hok.fresh hle
  refine ⟨.ref B,_,I1.laid (t':=tk) (o:=.lst (ss.map V.str)) kp2 hle ?_,rfl,q B _ ss hf (bM hf _) hp aQ⟩
  have hv:=aD0 hS
  have l1:=hp.length_eq
  have l2:ns.length=kvs.length:=by have:=congrArg List.length hk;simpa using this.symm
  exact ⟨small (by rw [List.length_map];lia),vs',e,hv,hB⟩
end
section
variable {X:Cx} {e st:Expr} {te ts:TE} {pos p2:Pos}
end
section
variable {X:Cx} {o i value:Expr} {td ty tv:TE} {pos pos':Pos}
theorem bAi (hu:X.A.units+1<cLine) (ho:VE X o td) (hi:VE X i ty) (hv:VE X value tv) (hs:swapsWith value (some (.Subscript o i pos')) pos.line X.env=pure false:=by rfl):VS X (.Assign [.Subscript o i pos'] value pos) (aWg td ty tv):=⟨aVa hu ho.1 hi.1 hv.1 hs⟩
theorem SqT.bA2 {K:PySem.W.Frag} {H:Hp} {a D:Addr} {xs:List V} {kvs:List (Key × V)} {u:HO} (hD:H D=some (.dK kvs)) (h:SqT K H a xs):SqT K (upd H D u) a xs:=by
 rcases h with (h|⟨o,h⟩)|h
 ·exact .inl (.inl (by rw [bH (wV h hD (by intro z;cases z))];exact h))
 ·exact .inl (.inr ⟨o,by rw [bH (wV h hD (by intro z;cases z))];exact h⟩)
 ·exact .inr h
end
theorem aKr {X:Cx} {pos:Pos} {o i:Expr} {to ti:TE} {t:aUo} (ho:VE X o to) (hi:VE X i ti) (hs:aXu X t)
  (ha:∀v,assign (.Subscript o i pos) X.env v=(do
   let ov ←holding [v] (eval o X.env)
   let iv ←holding [v,ov] (eval i X.env)
   standAt pos
   holding [v,ov,iv] (setItem ov iv v)
   release [v,ov,iv] []):=by intro _;rfl):VG X (.Subscript o i pos) (aZ2 to ti t):=⟨aX3 ho.1 hi.1 hs ha⟩
theorem zV {X:Cx}:MtR X "list.reverse" aI8:=aMw
abbrev M61:Int:=2305843009213693951
def lO (H:Hp) (a:Addr):Prop:=∃s d:Int,H a=some (.lst [.int s,.int d])∧(0≤s∧s<M61)∧0≤d
structure Fx (a:Addr) (H H':Hp):Prop where
 same:∀b o,b≠a→H b=some o→H' b=some o
 st:lO H' a
theorem Fx.trans {a:Addr} {H H1 H2:Hp} (f:Fx a H H1) (g:Fx a H1 H2):Fx a H H2:=⟨fun b o n e=>g.same b o n (f.same b o n e),g.st⟩
theorem lO.same {a:Addr} {H H':Hp} (h:lO H a) (e:Same H H'):lO H' a:=by
 obtain ⟨s,d,h1,h2⟩:=h
 exact ⟨s,d,e _ _ h1,h2⟩
theorem Fx.of {a:Addr} {H H':Hp} (h:lO H a) (e:Same H H'):Fx a H H':=⟨fun b o _ q=>e b o q,h.same e⟩
theorem Fx.refl {a:Addr} {H:Hp} (h:lO H a):Fx a H H:=.of h (Same.refl H)
theorem Fx.sm {a:Addr} {H H1 H2:Hp} (f:Fx a H H1) (e:Same H1 H2):Fx a H H2:=f.trans (.of f.st e)
theorem lO.ne {a p:Addr} {H:Hp} (h:lO H a) (f:H p=none):p≠a:=by
 obtain ⟨s,d,h1,_⟩:=h
 exact (bD h1 f).symm
theorem Fx.aK {K:PySem.W.Frag} {a p:Addr} {H H':Hp} {xs:List V} (f:Fx a H H') (h:lO H a) (e:SqT K H p xs):SqT K H' p xs:=by
 obtain ⟨s,d,h1,_⟩:=h
 rcases e with (e|⟨o,e⟩)|e
 ·exact .inl (.inl (f.same p _ (wV e h1 (by intro z;cases z)) e))
 ·exact .inl (.inr ⟨o,f.same p _ (wV e h1 (by intro z;cases z)) e⟩)
 ·exact .inr e
theorem Fx.upd {a D:Addr} {H H':Hp} {o:HO} (f:Fx a H H') (hD:H D=none) (ne:D≠a):Fx a H (L2.upd H' D o):=⟨fun b u n e=>by rw [bH (bD e hD)];exact f.same b u n e,by
 obtain ⟨s,d,h1,h2⟩:=f.st
 exact ⟨s,d,by rw [bH ne.symm];exact h1,h2⟩⟩
theorem Fx.free {a p:Addr} {H H':Hp} (f:Fx a H H') (h:H' p=none):H p=none:=by
 cases e:H p with
 |none=>rfl
 |some o=>
  by_cases z:p=a
  ·subst z
   obtain ⟨s,d,hs,_⟩:=f.st
   rw [hs] at h;cases h
  ·rw [f.same p o z e] at h;cases h
theorem aWp {a:Addr} {H:Hp} (h:lO H a):aT5 (Fx a) H:=⟨fun D o hD=>.of h (bM hD o),fun a b=>a.trans b,fun D o H' hD f=>f.upd hD (h.ne hD),fun D H1 H2 xs hD _ e f=>f.same _ _ (h.ne hD) e⟩
end L2
namespace PySem
abbrev aC4 (t:Addr) (i:Nat):Obj:={ cls:=.type "list_iterator",data:=.fields #[.ref t,.int (i:Int) 0] }
abbrev aHj (f0 f1:Value) (TI TO:Addr):Obj:={ cls:=.type "zip",dict:=none,data:=.fields #[f0,f1,.bool false,.ref TI,.ref TO],slots:=#[] }
section
variable {prog:Program} {w:World} {A:Around} {E:Value→Shared→Prop} {s:Shared}
theorem aBo {it t:Addr} {i:Nat} {its:Array Value} {x:Value} {Q:Value→Shared→Prop} (ho:s.heap.get? it=some (aC4 t i)) (ht:s.heap.IsList t its) (hx:its[i]?=some x)
  (q:∀h',h'.get? it=some (aC4 t (i+1))→Heap.SameBut it s.heap h'→Q x { s with heap:=h' }):wpAny (model prog w) A (Builtin.SmallTypes.nextOf (.ref it)) Q E s:=by
 have hT:s.TypeIs (.ref it) "list_iterator":=⟨_,ho,rfl⟩
 obtain ⟨ol,hol,_,nl,hdl⟩:=ht
 unfold Builtin.SmallTypes.nextOf
 refine wpAny_bind (wpAny_callSpecial?_slot (name:=Str.ofString "__next__") hT slot_listiter_next (wpAny_call_entry slot_listiter_next hT entry_listiter_next ?_ (args_listiter_next _)))
 refine wpAny_bind (m:=field (.ref it) 0) (wpAny_field ho rfl (x:=.ref t) rfl ?_)
 refine (if_neg (show ¬ ((Value.ref t == Value.none)=true) from Bool.false_ne_true)).symm ▸ ?_
 refine wpAny_bind (m:=field (.ref it) 1) (wpAny_field ho rfl (x:=.int i 0) rfl ?_)
 refine wpAny_bind (m:=seqItems? (.ref t)) (wpAny_seqItems hol hdl ?_)
 simp only [Int.toNat_natCast,hx]
 refine wpAny_bind (wpAny_setField ho rfl (by simp) (wpAny_pure ⟨x,rfl,wpAny_pure (q _ ?_ (Heap.SameBut.update ..))⟩))
 exact Heap.get?_update_self _ ho rfl
theorem aOz {z TI TO i1 i2 t u:Addr} {k:Nat} {xs ys:Array Value} {x y a b:Value} {Q:Option Value→Shared→Prop} (D:oE z TI TO i1 i2)
  (hz:s.heap.get? z=some (oG .none TI TO)) (hTI:s.heap.get? TI=some (fM (.ref i1) (.ref i2))) (hTO:s.heap.get? TO=some (fM a b))
  (g1:s.heap.get? i1=some (lY t k)) (g2:s.heap.get? i2=some (aC4 u k)) (ht:s.heap.IsTuple t xs) (hu:s.heap.IsList u ys) (hx:xs[k]?=some x) (hy:ys[k]?=some y)
  (t1:t≠z) (t2:t≠TO) (t3:t≠i1) (t4:t≠i2) (u1:u≠z) (u2:u≠TO) (u3:u≠i1) (u4:u≠i2)
  (q:∀h',h'.get? z=some (aHj (rawInt s.heap.objs.size) (.bool false) TI TO)→h'.get? TO=some (fM x y)→h'.get? i1=some (lY t (k+1))→h'.get? i2=some (aC4 u (k+1))→h'.get? s.heap.objs.size=some (fM x y) →
   (∀c o,c≠z→c≠TO→c≠i1→c≠i2→s.heap.get? c=some o→h'.get? c=some o)→Q (some (.ref s.heap.objs.size)) { s with heap:=h' }) :
  wpAny (model prog w) A (pyNext (.ref z)) Q E s:=by
 have hT:s.TypeIs (.ref z) "zip":=⟨_,hz,rfl⟩
 unfold pyNext
 refine wpAny_bind (wpAny_attempt (wpAny_callSpecial?_slot (name:=Str.ofString "__next__") hT F.slot_zip_next (wpAny_call_entry F.slot_zip_next hT F.entry_zip_next ?_ (F.args_zip_next_1 _))))
 refine wpAny_bind (m:=field (.ref z) 2) (wpAny_field hz rfl (x:=.bool false) rfl ?_)
 refine wpAny_bind (m:=field (.ref z) 3) (wpAny_field hz rfl (x:=.ref TI) rfl (wpAny_bind (wpAny_seqItems hTI rfl ?_)))
 refine wpAny_bind (m:=Builtin.SmallTypes.ownedTupleIsFree (.ref z)) ?_
 unfold Builtin.SmallTypes.ownedTupleIsFree
 refine wpAny_bind (wpAny_field hz rfl (x:=.none) rfl (wpAny_pure ?_))
 simp only [if_true]
 refine wpAny_bind (wpAny_rule (wpAny_bind (wpAny_field hz rfl (x:=.ref TO) rfl (wpAny_bind (wpAny_setField_rec hz (by simp) fun h1 z1 s1=>?_)))))
 replace z1:h1.get? z=some (oG .ellipsis TI TO):=z1
 refine wpAny_bind ?_
 simp only [List.zipIdx_cons,List.zipIdx_nil,List.forIn_cons,List.forIn_nil]
 refine wpAny_bind (wpAny_bind (wpAny_onRaise ?_))
 refine wpAny_bind (m:=Builtin.SmallTypes.nextOf (.ref i1)) (qK (s:={ s with heap:=h1 }) (s1.extBut _ _ D.h3 g1) (ht.extBut s1.extBut t1) hx fun h2 g12 s2=>wpAny_pure ?_)
 have TO2:h2.get? TO=some (fM a b):=s2.extBut _ _ D.h8 (s1.extBut _ _ D.h2 hTO)
 refine wpAny_bind (wpAny_seqItems TO2 rfl (wpAny_bind (aA2 (s:={ s with heap:=h2 }) TO2 fun h3 TO3 s3=>wpAny_bind (wpAny_letGo (wpAny_pure ?_)))))
 replace TO3:h3.get? TO=some (fM x b):=TO3
 refine wpAny_bind (wpAny_bind (wpAny_onRaise ?_))
 refine wpAny_bind (m:=Builtin.SmallTypes.nextOf (.ref i2)) (aBo (s:={ s with heap:=h3 }) (s3.extBut _ _ D.h9.symm (s2.extBut _ _ D.h10.symm (s1.extBut _ _ D.h4 g2))) (((hu.extBut s1.extBut u1).extBut s2.extBut u3).extBut s3.extBut u2) hy fun h4 g24 s4=>wpAny_pure ?_)
 have TO4:h4.get? TO=some (fM x b):=s4.extBut _ _ D.h9 TO3
 refine wpAny_bind (wpAny_seqItems TO4 rfl (wpAny_bind (aA2 (s:={ s with heap:=h4 }) TO4 fun h5 TO5 s5=>wpAny_bind (wpAny_letGo (wpAny_pure (wpAny_pure ?_))))))
 replace TO5:h5.get? TO=some (fM x y):=TO5
 refine wpAny_bind (wpAny_seqItems TO5 rfl (wpAny_bind (wpAny_newTuple ?_)))
 have hsz:h5.objs.size=s.heap.objs.size:=by rw [s5.1,s4.1,s3.1,s2.1,s1.1]
 have z5:h5.get? z=some (oG .ellipsis TI TO):=s5.extBut _ _ D.h2.symm (s4.extBut _ _ D.h4.symm (s3.extBut _ _ D.h2.symm (s2.extBut _ _ D.h3.symm z1)))
 have kp:∀c o,c≠z→c≠TO→c≠i1→c≠i2→s.heap.get? c=some o→h5.get? c=some o:=fun c o c1 c2 c3 c4 e=>s5.extBut _ _ c2 (s4.extBut _ _ c4 (s3.extBut _ _ c2 (s2.extBut _ _ c3 (s1.extBut _ _ c1 e))))
 have g15:h5.get? i1=some (lY t (k+1)):=s5.extBut _ _ D.h8.symm (s4.extBut _ _ D.h10 (s3.extBut _ _ D.h8.symm g12))
 have g25:h5.get? i2=some (aC4 u (k+1)):=s5.extBut _ _ D.h9.symm g24
 refine wpAny_bind (m:=Builtin.SmallTypes.ownedTupleHandOut (.ref z) (.ref h5.objs.size)) ?_
 unfold Builtin.SmallTypes.ownedTupleHandOut
 have z6:(h5.push (fM x y)).get? z=some (oG .ellipsis TI TO):=Heap.get?_push_of_some _ z5
 refine wpAny_bind (wpAny_setField_rec z6 (by simp) fun h7 z7 s7=>?_)
 replace z7:h7.get? z=some (oG (rawInt h5.objs.size) TI TO):=z7
 refine wpAny_setField_rec z7 (by simp) fun h8 z8 s8=>?_
 replace z8:h8.get? z=some (aHj (rawInt h5.objs.size) (.bool false) TI TO):=z8
 have up:∀c o,c≠z→h5.get? c=some o→h8.get? c=some o:=fun c o c1 e=>s8.extBut _ _ c1 (s7.extBut _ _ c1 (Heap.get?_push_of_some _ e))
 have nz:h5.objs.size≠z:=Nat.ne_of_gt (Heap.lt_size z5)
 have T8:h8.get? h5.objs.size=some (fM x y):=s8.extBut _ _ nz (s7.extBut _ _ nz (Heap.get?_push_size _ rfl))
 rw [hsz] at z8 T8
 refine wpAny_pure ⟨_,rfl,wpAny_pure ?_⟩
 show Q (some (.ref h5.objs.size)) _
 rw [hsz]
 exact q h8 z8 (up _ _ D.h2 TO5) (up _ _ D.h3 g15) (up _ _ D.h4 g25) T8 fun c o c1 c2 c3 c4 e=>up c o c1 (kp c o c1 c2 c3 c4 e)
theorem aJi {z TI TO p:Addr} {f1:Value} {op:Obj} {Q:Bool→Shared→Prop} (hz:s.heap.get? z=some (aHj (rawInt p) f1 TI TO)) (hf1:∃b,f1=.bool b) (hp:s.heap.get? p=some op)
  (q:∀h1,h1.get? z=some (aHj (rawInt p) (.bool true) TI TO)→Heap.SameBut z s.heap h1→Q false { s with heap:=h1 }):wpAny (model prog w) A (Builtin.SmallTypes.ownedTupleIsFree (.ref z)) Q E s:=by
 unfold Builtin.SmallTypes.ownedTupleIsFree
 refine wpAny_bind (wpAny_field hz rfl (x:=rawInt p) rfl ?_)
 obtain ⟨b1,rfl⟩:=hf1
 have la:∀{α:Type} (k:Option Obj→Sem α) (Q':α→Shared→Prop) (E':Value→Shared→Prop),wpAny (model prog w) A (k (some op)) Q' E' s→wpAny (model prog w) A (loadIfAlive p >>= k) Q' E' s:=by
  intro α k Q' E' h
  show wpAny (model prog w) A (k (s.heap.get? p)) Q' E' s
  rw [hp]
  exact h
 show wpAny _ A (loadIfAlive p >>= _) _ _ s
 refine la _ _ _ ?_
 rw [if_neg (by exact Bool.false_ne_true)]
 refine wpAny_bind (wpAny_field hz rfl (x:=.bool b1) rfl ?_)
 cases b1 with
 |false=>
  rw [if_pos (by decide)]
  exact wpAny_bind (wpAny_setField_rec hz (by simp) fun h1 z1 s1=>wpAny_pure (q h1 z1 s1))
 |true=>
  rw [if_neg (by decide)]
  exact wpAny_pure (q s.heap hz (Heap.SameBut.refl _ _))
theorem aPy {z TI TO i1 i2 t u p:Addr} {k:Nat} {xs ys:Array Value} {x y f1:Value} {op:Obj} {Q:Option Value→Shared→Prop} (D:oE z TI TO i1 i2)
  (hz:s.heap.get? z=some (aHj (rawInt p) f1 TI TO)) (hf1:∃b,f1=.bool b) (hp:s.heap.get? p=some op) (hTI:s.heap.get? TI=some (fM (.ref i1) (.ref i2)))
  (g1:s.heap.get? i1=some (lY t k)) (g2:s.heap.get? i2=some (aC4 u k)) (ht:s.heap.IsTuple t xs) (hu:s.heap.IsList u ys) (hx:xs[k]?=some x) (hy:ys[k]?=some y)
  (t1:t≠z) (u1:u≠z) (u3:u≠i1)
  (q:∀h',h'.get? z=some (aHj (rawInt p) (.bool true) TI TO)→h'.get? i1=some (lY t (k+1))→h'.get? i2=some (aC4 u (k+1))→h'.get? s.heap.objs.size=some (fM x y) →
   (∀c o,c≠z→c≠i1→c≠i2→s.heap.get? c=some o→h'.get? c=some o)→Q (some (.ref s.heap.objs.size)) { s with heap:=h' }) :
  wpAny (model prog w) A (pyNext (.ref z)) Q E s:=by
 have hT:s.TypeIs (.ref z) "zip":=⟨_,hz,rfl⟩
 unfold pyNext
 refine wpAny_bind (wpAny_attempt (wpAny_callSpecial?_slot (name:=Str.ofString "__next__") hT F.slot_zip_next (wpAny_call_entry F.slot_zip_next hT F.entry_zip_next ?_ (F.args_zip_next_1 _))))
 refine wpAny_bind (m:=field (.ref z) 2) (wpAny_field hz rfl (x:=.bool false) rfl ?_)
 refine wpAny_bind (m:=field (.ref z) 3) (wpAny_field hz rfl (x:=.ref TI) rfl (wpAny_bind (wpAny_seqItems hTI rfl ?_)))
 refine wpAny_bind (m:=Builtin.SmallTypes.ownedTupleIsFree (.ref z)) (aJi hz hf1 hp fun h1 z1 s1=>?_)
 rw [if_neg Bool.false_ne_true]
 dsimp only
 rw [←Array.forIn_toList]
 simp only [List.forIn_cons,List.forIn_nil]
 refine wpAny_bind (wpAny_bind (wpAny_bind (wpAny_holding ?_)))
 refine wpAny_bind (m:=Builtin.SmallTypes.nextOf (.ref i1)) (qK (s:={ s with heap:=h1 }) (s1.extBut _ _ D.h3 g1) (ht.extBut s1.extBut t1) hx fun h2 g12 s2=>wpAny_pure (wpAny_pure ?_))
 dsimp only
 refine wpAny_bind (wpAny_bind (wpAny_holding ?_))
 refine wpAny_bind (m:=Builtin.SmallTypes.nextOf (.ref i2)) (aBo (s:={ s with heap:=h2 }) (s2.extBut _ _ D.h10.symm (s1.extBut _ _ D.h4 g2)) ((hu.extBut s1.extBut u1).extBut s2.extBut u3) hy fun h4 g24 s4=>wpAny_pure (wpAny_pure ?_))
 dsimp only
 refine wpAny_pure ?_
 have hsz:h4.objs.size=s.heap.objs.size:=by rw [s4.1,s2.1,s1.1]
 refine wpAny_bind (wpAny_newTuple ?_ (by show 2≤sizeLine;decide))
 have z4:h4.get? z=some (aHj (rawInt p) (.bool true) TI TO):=s4.extBut _ _ D.h4.symm (s2.extBut _ _ D.h3.symm z1)
 have g14:h4.get? i1=some (lY t (k+1)):=s4.extBut _ _ D.h10 g12
 refine wpAny_pure ⟨_,rfl,wpAny_pure ?_⟩
 have T5:(h4.push (fM x y)).get? h4.objs.size=some (fM x y):=Heap.get?_push_size _ rfl
 rw [hsz] at T5
 show Q (some (.ref h4.objs.size)) _
 rw [hsz]
 exact q _ (Heap.get?_push_of_some _ z4) (Heap.get?_push_of_some _ g14) (Heap.get?_push_of_some _ g24) T5 fun c o c1 c2 c3 e=>Heap.get?_push_of_some _ (s4.extBut _ _ c3 (s2.extBut _ _ c2 (s1.extBut _ _ c1 e)))
theorem aQ5 {z TI TO i1 i2 t p:Addr} {k:Nat} {xs:Array Value} {f1:Value} {op:Obj} {Q:Option Value→Shared→Prop} (hh:A.handled=none) (D:oE z TI TO i1 i2)
  (hz:s.heap.get? z=some (aHj (rawInt p) f1 TI TO)) (hf1:∃b,f1=.bool b) (hp:s.heap.get? p=some op) (hTI:s.heap.get? TI=some (fM (.ref i1) (.ref i2)))
  (g1:s.heap.get? i1=some (lY t k)) (ht:s.heap.IsTuple t xs) (hx:xs[k]?=none) (t1:t≠z)
  (q:∀h',(∀c o,c≠z→c≠i1→s.heap.get? c=some o→h'.get? c=some o)→Q none { s with heap:=h' }) :
  wpAny (model prog w) A (pyNext (.ref z)) Q E s:=by
 have hT:s.TypeIs (.ref z) "zip":=⟨_,hz,rfl⟩
 unfold pyNext
 refine wpAny_bind (wpAny_attempt (wpAny_callSpecial?_slot (name:=Str.ofString "__next__") hT F.slot_zip_next (wpAny_call_entry F.slot_zip_next hT F.entry_zip_next ?_ (F.args_zip_next_1 _))))
 refine wpAny_bind (m:=field (.ref z) 2) (wpAny_field hz rfl (x:=.bool false) rfl ?_)
 refine wpAny_bind (m:=field (.ref z) 3) (wpAny_field hz rfl (x:=.ref TI) rfl (wpAny_bind (wpAny_seqItems hTI rfl ?_)))
 refine wpAny_bind (m:=Builtin.SmallTypes.ownedTupleIsFree (.ref z)) (aJi hz hf1 hp fun h1 z1 s1=>?_)
 rw [if_neg Bool.false_ne_true]
 dsimp only
 rw [←Array.forIn_toList]
 simp only [List.forIn_cons,List.forIn_nil]
 refine wpAny_bind (wpAny_bind (wpAny_bind (wpAny_holding ?_)))
 refine wpAny_bind (m:=Builtin.SmallTypes.nextOf (.ref i1)) (sX (s:={ s with heap:=h1 }) hh (s1.extBut _ _ D.h3 g1) (ht.extBut s1.extBut t1) hx fun h2 e s2 he=>?_)
 obtain ⟨oe,hoe,hce⟩:=he
 refine wpAny_bind (wpAny_isInstance (T:="StopIteration") (b:=true) ⟨oe,hoe,hce⟩ isSubtype_stop ?_)
 exact wpAny_pure (q _ fun c o c1 c3 x=>s2 _ _ c3 (s1.extBut _ _ c1 x))
def ZSt (z TI TO i1 i2 t u:Addr) (i:Nat) (h:Heap):Prop:=
 ((i=0∧h.get? z=some (oG .none TI TO)∧∃a b,h.get? TO=some (fM a b))∨∃p b op,p≠z∧p≠i1∧p≠i2∧p≠TO∧h.get? z=some (aHj (rawInt p) (.bool b) TI TO)∧h.get? p=some op∧op.cls=.type "tuple") ∧
  h.get? TI=some (fM (.ref i1) (.ref i2))∧h.get? i1=some (lY t i)∧h.get? i2=some (aC4 u i)
theorem aP3 {z TI TO i1 i2 t u:Addr} {i:Nat} {xs ys:Array Value} {x y:Value} {Q:Option Value→Shared→Prop} (D:oE z TI TO i1 i2) (st:ZSt z TI TO i1 i2 t u i s.heap) (ht:s.heap.IsTuple t xs) (hu:s.heap.IsList u ys) (hx:xs[i]?=some x) (hy:ys[i]?=some y)
  (tn:t∉[z,TO,i1,i2]) (un:u∉[z,TO,i1,i2])
  (q:∀h',ZSt z TI TO i1 i2 t u (i+1) h'→h'.get? s.heap.objs.size=some (fM x y)→(∀c o,c∉[z,TO,i1,i2]→s.heap.get? c=some o→h'.get? c=some o)→Q (some (.ref s.heap.objs.size)) { s with heap:=h' }) :
  wpAny (model prog w) A (pyNext (.ref z)) Q E s:=by
 obtain ⟨st,hTI,g1,g2⟩:=st
 simp only [List.mem_cons,List.not_mem_nil,or_false,not_or] at tn un
 have fr:∀{c:Addr} {o:Obj},s.heap.get? c=some o→s.heap.objs.size≠c:=fun e=>Nat.ne_of_gt (Heap.lt_size e)
 rcases st with ⟨rfl,hz,a,b,hTO⟩|⟨p,b,op,p1,p2,p3,p4,hz,hp,hpc⟩
 ·refine aOz D hz hTI hTO g1 g2 ht hu hx hy tn.1 tn.2.1 tn.2.2.1 tn.2.2.2 un.1 un.2.1 un.2.2.1 un.2.2.2 fun h' e1 e2 e3 e4 e5 kp=>q h' ⟨.inr ⟨_,false,_,fr hz,fr g1,fr g2,fr hTO,e1,e5,rfl⟩,kp _ _ D.h1 D.h5 D.h6 D.h7 hTI,e3,e4⟩ e5 fun c o hc e=>?_
  simp only [List.mem_cons,List.not_mem_nil,or_false,not_or] at hc
  exact kp c o hc.1 hc.2.1 hc.2.2.1 hc.2.2.2 e
 ·refine aPy D hz ⟨_,rfl⟩ hp hTI g1 g2 ht hu hx hy tn.1 un.1 un.2.2.1 fun h' e1 e3 e4 e5 kp=>q h' ⟨.inr ⟨p,true,op,p1,p2,p3,p4,e1,kp _ _ p1 p2 p3 hp,hpc⟩,kp _ _ D.h1 D.h6 D.h7 hTI,e3,e4⟩ e5 fun c o hc e=>?_
  simp only [List.mem_cons,List.not_mem_nil,or_false,not_or] at hc
  exact kp c o hc.1 hc.2.2.1 hc.2.2.2 e
end
section
variable {prog:Program} {w:World} {κ:Type} [DecidableEq κ] {knd:KeyKind prog w κ}
theorem aCz {A:Around} {R:Result→Shared→Prop} {z TI TO i1 i2 t u:Addr} {xs ys:Array Value} (hh:A.in1.handled=none) (Dz:oE z TI TO i1 i2) (D:Addr) (hD:D∉[z,TI,TO,i1,i2,t,u]) (tn:t∉[z,TO,i1,i2]) (un:u∉[z,TO,i1,i2])
  (kvs:List (κ × Value)) (hx:kvs.length=xs.size) (hy:ys.size=xs.size) (h1:1≤xs.size) (hb:xs.size≤1000) (hk:∀(j:Nat) (kv:κ × Value) (x y:Value),kvs[j]?=some kv→xs[j]?=some x→ys[j]?=some y→knd.is kv.1 x=true∧y=kv.2) :
  ∀(k i:Nat) (s:Shared) (tk0:Tok),i+k=xs.size→ZSt z TI TO i1 i2 t u i s.heap→s.heap.IsTuple t xs→s.heap.IsList u ys→s.heap.DictOf knd D (merged [] (kvs.take i)) →
   (∀h' tk,(∀b o,b∉[D,z,TO,i1,i2]→s.heap.get? b=some o→h'.get? b=some o)→h'.DictOf knd D (merged [] kvs)→R (.ok (.ret .none)) { s with heap:=h',toks:=tk }) →
   codeAny (model prog w) A (.builtin "dict.update.loop" ⟨[.ref D,.ref z,.int (i:Nat) tk0,.none],[]⟩) R s:=by
 have hD':=hD
 simp only [List.mem_cons,List.not_mem_nil,or_false,not_or] at hD'
 obtain ⟨d1,d2,d3,d4,d5,d6,d7⟩:=hD'
 intro k
 induction k with
 |zero=>
  intro i s tk0 hi st ht hu hd q
  obtain rfl:i=xs.size:=by lia
  obtain ⟨st,hTI,g1,g2⟩:=st
  refine codeAny_builtin dH ?_
  rw [Around.under_plainId bQ _]
  show wpAny _ A.in1 (pyNext (.ref z) >>= _) _ _ _
  simp only [List.mem_cons,List.not_mem_nil,or_false,not_or] at tn un
  rcases st with ⟨h0,_⟩|⟨p,b,op,p1,p2,p3,p4,hz,hp,hpc⟩
  ·lia
  refine wpAny_bind (aQ5 hh Dz hz ⟨_,rfl⟩ hp hTI g1 ht (by simp) tn.1 fun h' kp=>?_)
  show wpAny _ _ (Builtin.Dict.addKeywords D [] >>= _) _ _ _
  refine wpAny_bind (wpAny_pure (wpAny_pure (q h' s.toks (fun b o nb e=>?_) ?_)))
  ·simp only [List.mem_cons,List.not_mem_nil,or_false,not_or] at nb
   exact kp b o nb.2.1 nb.2.2.2.1 e
  ·rw [List.take_of_length_le (Nat.le_of_eq hx)] at hd
   exact hd.at fun o e=>kp D o d1 d4 e
 |succ k ih=>
  intro i s tk0 hi st ht hu hd q
  have hlt:i<kvs.length:=by lia
  have hix:i<xs.size:=by lia
  have hiy:i<ys.size:=by lia
  have hkv:=List.getElem?_eq_getElem hlt
  refine codeAny_builtin dH ?_
  rw [Around.under_plainId bQ _]
  show wpAny _ A.in1 (pyNext (.ref z) >>= _) _ _ _
  refine wpAny_bind (aP3 Dz st ht hu (Array.getElem?_eq_getElem hix) (Array.getElem?_eq_getElem hiy) tn un fun h1 st1 e1 kp1=>?_)
  obtain ⟨hk1,hk2⟩:=hk i _ _ _ hkv (Array.getElem?_eq_getElem hix) (Array.getElem?_eq_getElem hiy)
  have nD:D∉[z,TO,i1,i2]:=by
   simp only [List.mem_cons,List.not_mem_nil,or_false,not_or]
   exact ⟨d1,d3,d4,d5⟩
  have hd1:h1.DictOf knd D (merged [] (kvs.take i)):=hd.at fun o e=>kp1 D o nD e
  have hml:(merged [] (kvs.take i)).length≤i:=by
   have:=merged_length_le [] (kvs.take i)
   rw [List.length_take] at this
   simp only [List.length_nil] at this
   lia
  obtain ⟨hp0,g,d,tk,os⟩:=s
  have hT:(⟨h1,g,d,tk,os⟩:Shared).TypeIs (.ref hp0.objs.size) "tuple":=⟨_,e1,rfl⟩
  have hpi:∀(Q:List Value→Shared→Prop) (E:Value→Shared→Prop),Q [xs[i],ys[i]] ⟨h1,g,d,tk,os⟩→wpAny (model prog w) A.in1 (Builtin.Dict.pairItems (.ref hp0.objs.size)) Q E ⟨h1,g,d,tk,os⟩:=by
   intro Q E h
   unfold Builtin.Dict.pairItems
   wp_walk
   exact h
  show wpAny _ A.in1 (holding [.ref hp0.objs.size] _ >>= _) _ _ ⟨h1,g,d,tk,os⟩
  refine wpAny_bind (wpAny_holding (wpAny_bind (wpAny_tryCatch (hpi _ _ ?_))))
  show wpAny _ A.in1 (holding [xs[i],ys[i]] (dictSet D xs[i] ys[i])) _ _ ⟨h1,g,d,tk,os⟩
  refine wpAny_holding (wpAny_dictSet_pairs (s:=⟨h1,g,d,tk,os⟩) hk1 hd1 (fun h2 hd2 sb2=>?_) (Nat.le_trans hml (Nat.le_trans (by lia) (show 1000≤sizeLine by decide))))
  have e2:merged [] (kvs.take (i+1))=stored (merged [] (kvs.take i)) kvs[i].1 kvs[i].2:=merged_take_succ [] kvs i _ hkv
  rw [hk2,←e2] at hd2
  refine wpAny_pure ⟨plainId_quiet bQ _,?_⟩
  have kd:∀{b:Addr} {o:Obj},b≠D→h1.get? b=some o→h2.get? b=some o:=fun {b o} nb e=>by rw [sb2.2 b nb];exact e
  have hdD:∃o,h1.get? D=some o∧o.cls=.type "dict":=by
   obtain ⟨o,_,_,ho,hc,_⟩:=hd1
   exact ⟨o,ho,hc.1⟩
  have st2:ZSt z TI TO i1 i2 t u (i+1) h2:=by
   obtain ⟨st',a1,a2,a3⟩:=st1
   refine ⟨?_,kd (Ne.symm d2) a1,kd (Ne.symm d4) a2,kd (Ne.symm d5) a3⟩
   rcases st' with ⟨h0,_⟩|⟨p,b,op,p1,p2,p3,p4,hz,hp,hpc⟩
   ·lia
   ·refine .inr ⟨p,b,op,p1,p2,p3,p4,kd (Ne.symm d1) hz,kd (fun e=>?_) hp,hpc⟩
    obtain ⟨oD,hoD,hcD⟩:=hdD
    rw [e,hoD] at hp
    cases hp
    rw [hcD] at hpc
    exact absurd hpc (by decide)
  have kt:∀{b:Addr} {o:Obj},b∉[D,z,TO,i1,i2]→hp0.get? b=some o→h2.get? b=some o:=fun {b o} nb e=>by
   have nb':b∉[z,TO,i1,i2]:=fun x=>nb (List.mem_cons_of_mem _ x)
   exact kd (fun x=>nb (by rw [x];exact List.mem_cons_self)) (kp1 b o nb' e)
  have nt:t∉[D,z,TO,i1,i2]:=by
   intro x
   rcases List.mem_cons.mp x with x|x
   ·exact d6 x.symm
   ·exact tn x
  have nu:u∉[D,z,TO,i1,i2]:=by
   intro x
   rcases List.mem_cons.mp x with x|x
   ·exact d7 x.symm
   ·exact un x
  refine ih (i+1) _ _ (by lia) st2 (by obtain ⟨o,ho,r⟩:=ht;exact ⟨o,kt nt ho,r⟩) (by obtain ⟨o,ho,r⟩:=hu;exact ⟨o,kt nu ho,r⟩) hd2 fun h' tk' kp hd'=>q h' tk' (fun b o nb e=>kp b o nb (kt nb e)) hd'
end
end PySem
namespace PySem
theorem aDn:typeLookup (.type "zip") "keys"=pure none:=am_miss_of_fast (by decide +kernel)
theorem uH:typeLookup (.type "zip") "__getattr__"=pure none:=by rw [typeLookup_type,builtinLookup_eq_fast];kernel_rfl
theorem oF:entryFor table "zip.__getattribute__"=some Builtin.«object.__getattribute__»:=
 entryFor_alias (id':="object.__getattribute__") (by kernel_rfl) (by first|rfl|decide +kernel) (by decide +kernel) (by kernel_rfl)
theorem mQ (a:Addr) (vs:Array Value) (name:Str) (u:Tok) (hmiss:typeLookup (.type "zip") name=pure none) (hname:(["__module__","__name__","__qualname__","__doc__","__annotations__"]:List Str).contains name=false) (hsz:name.length+100≤sizeLine:=by size_fits) :
  Meets (Builtin.«object.__getattribute__» ⟨[.ref a,.str name u],[]⟩) (fun A R s=>s.heap.get? a=some { cls:=.type "zip",dict:=none,data:=.fields vs,slots:=#[] }∧raisesAttr (.ref a) name A R s):=
 Meets.of_wp fun prog w A R s hs=>by
  obtain ⟨hp,g,d,tk,os⟩:=s
  obtain ⟨hx,hs⟩:=hs
  have hT:(⟨hp,g,d,tk,os⟩:Shared).TypeIs (.ref a) "zip":=⟨_,hx,rfl⟩
  unfold Builtin.«object.__getattribute__»
  repeat (any_goals (first|assumption|wp_step))
  simp only [hname,Bool.false_eq_true,if_false]
  repeat (any_goals (first|assumption|wp_step))
  exact wpAny_raiseAttrError hs.1 hs.2 (attrMsg_fits (by decide +kernel) hsz)
section
variable {prog:Program} {w:World} {A:Around} {E:Value→Shared→Prop} {s:Shared}
theorem aMh {a:Addr} {vs:Array Value} {Q:Option Value→Shared→Prop} (hx:s.heap.get? a=some { cls:=.type "zip",dict:=none,data:=.fields vs,slots:=#[] }) (hA:A.handled=none)
  (h:∀h' tk,(∀b u,s.heap.get? b=some u→h'.get? b=some u)→Q none { s with heap:=h',toks:=tk }):wpAny (model prog w) A (getAttr? (.ref a) "keys") Q E s:=by
 obtain ⟨hp,g,d,tk,os⟩:=s
 have hT:∀tk',(⟨hp,g,d,tk',os⟩:Shared).TypeIs (.ref a) "zip":=fun _=>⟨_,hx,rfl⟩
 have f1:=sub_AttributeError
 have f3:=F.slot_zip_getattribute.lookup
 have f4:=F.slot_zip_getattribute.bind (.ref a)
 have f5:=uH
 unfold getAttr? getAttrBy? getAttrBy
 repeat (any_goals (first|assumption|exact hT _|((with_reducible show wpAny _ _ (call (Value.builtin "zip.__getattribute__") _ _) _ _ _);refine call_meets F.slot_zip_getattribute (hT _) oF (F.args_zip_getattribute_2 _ _) (mQ a vs "keys" _ aDn (by decide +kernel) (by size_fits)) ⟨hx,hA,fun h' tk' e hx'=>?_⟩)|wp_step))
 obtain ⟨t',u',he⟩:=hx'.there
 show wpAny _ _ (getattributeRaised _ _ _ _ _ _ _) _ _ _
 unfold getattributeRaised
 repeat (any_goals (first|assumption|wp_step))
 exact h _ _ hx'.keeps
abbrev zL2 (h:Heap) (t u:Addr):Heap:=(zT1 h t).push (aC4 u 0)
abbrev zL3 (h:Heap) (t u:Addr):Heap:=(zL2 h t u).push (fM (.ref h.objs.size) (.ref (zT1 h t).objs.size))
abbrev zL4 (h:Heap) (t u:Addr):Heap:=(zL3 h t u).push (fM .none .none)
abbrev zL5 (h:Heap) (t u:Addr):Heap:=(zL4 h t u).push (oG .none (zL2 h t u).objs.size (zL3 h t u).objs.size)
theorem aMt (t u:Addr) (xs ys:Array Value):Meets (Builtin.«zip.__new__» ⟨[.type "zip",.ref t,.ref u],[]⟩)
  (fun _ R s=>s.heap.IsTuple t xs∧s.heap.IsList u ys∧R (.ok (.ret (.ref (zL4 s.heap t u).objs.size))) { s with heap:=zL5 s.heap t u }):=
 .of_wp fun prog w A R s h=>by
  obtain ⟨hp,g,d,tk,os⟩:=s
  obtain ⟨a1,a2,h⟩:=h
  have hsub:=sub_zip
  have b1:Heap.IsTuple (Shared.heap ⟨hp,g,d,tk,os⟩) t xs:=a1
  have b2:Heap.IsList (Shared.heap ⟨hp.push { cls:=.type "tuple_iterator",data:=.fields #[.ref t,.int 0 0] },g,d,tk,os⟩) u ys:=by
   obtain ⟨o,ho,r⟩:=a2
   exact ⟨o,Heap.get?_push_of_some _ ho,r⟩
  wp_walk using wpAny_pyIter_tuple b1,wpAny_pyIter_list b2
  exact ⟨_,rfl,h⟩
theorem aPj {t u:Addr} {xs ys:Array Value} {Q:Value→Shared→Prop} (ht:s.heap.IsTuple t xs) (hu:s.heap.IsList u ys) (q:Q (.ref (zL4 s.heap t u).objs.size) { s with heap:=zL5 s.heap t u }) :
  wpAny (model prog w) A (call (.type "zip") [.ref t,.ref u]) Q E s:=by
 refine callType_new F.called_zip (by decide) (F.typeCall_zip_2 _ _) (F.newCall_zip_2 _ _) (fun obj=>F.args_object_init_3 obj _ _) F.entry_zip_new (aMt t u xs ys) ⟨ht,hu,?_⟩
 exact ⟨⟨_,Heap.get?_push_size _ rfl,rfl⟩,q⟩
end
section
variable {prog:Program} {w:World} {κ:Type} [DecidableEq κ] {knd:KeyKind prog w κ} {A:Around} {E:Value→Shared→Prop} {s:Shared}
theorem aCt {z TI TO i1 i2 t u:Addr} {xs ys:Array Value} {kvs:List (κ × Value)} {Q:Value→Shared→Prop} (hh:A.handled=none) (Dz:oE z TI TO i1 i2) (st:ZSt z TI TO i1 i2 t u 0 s.heap) (hz:s.heap.get? z=some (oG .none TI TO)) (ht:s.heap.IsTuple t xs) (hu:s.heap.IsList u ys)
  (tn:t∉[z,TO,i1,i2]) (un:u∉[z,TO,i1,i2]) (hTO:∃o,s.heap.get? TO=some o)
  (hx:kvs.length=xs.size) (hy:ys.size=xs.size) (h1:1≤xs.size) (hb:xs.size≤1000) (hk:∀(j:Nat) (kv:κ × Value) (x y:Value),kvs[j]?=some kv→xs[j]?=some x→ys[j]?=some y→knd.is kv.1 x=true∧y=kv.2)
  (q:∀h' tk,h'.DictOf knd s.heap.objs.size (merged [] kvs)→(∀b o,b∉[z,TO,i1,i2]→s.heap.get? b=some o→h'.get? b=some o)→Q (.ref s.heap.objs.size) { s with heap:=h',toks:=tk }) :
  wpAny (model prog w) A (call (.type "dict") [.ref z]) Q E s:=by
 refine callType_codes (Q₁:=fun obj s₁=>obj=.ref s.heap.objs.size∧s₁={ s with heap:=s.heap.push { cls:=.type "dict",data:=.dict #[] } }) F.kt_called_dict (F.kt_typeCall_dict_1 _) F.entry_dict_init (kt_code_dict_new _ ⟨rfl,rfl⟩) ?_
 rintro obj s₁ ⟨rfl,rfl⟩
 have hnew:(s.heap.push { cls:=.type "dict",data:=.dict #[] }).DictOf knd s.heap.objs.size []:=Heap.DictOf.new s.heap
 have up:∀{b:Addr} {o:Obj},s.heap.get? b=some o→(s.heap.push { cls:=.type "dict",data:=.dict #[] }).get? b=some o:=fun e=>Heap.get?_push_of_some _ e
 have hT:Shared.TypeIs { s with heap:=s.heap.push { cls:=.type "dict",data:=.dict #[] } } (.ref z) "zip":=⟨_,up hz,rfl⟩
 refine ⟨hnew.typeIs,F.args_dict_init_2 _ _,?_⟩
 unfold Builtin.«dict.__init__»
 refine wpAny_bind ?_
 unfold Builtin.Dict.selfAndRest
 refine wpAny_bind (wpAny_notOrdered_dict hnew.typeIs ?_)
 show wpAny _ _ (pure (s.heap.objs.size,[Value.ref z])) _ _ _
 refine wpAny_pure ?_
 show wpAny _ _ (Builtin.Dict.updateFrom "dict.__init__" s.heap.objs.size (.ref z) [] .none) _ _ _
 unfold Builtin.Dict.updateFrom
 refine wpAny_bind (wpAny_typeOf hT ?_)
 rw [if_pos (by decide)]
 refine wpAny_bind (aMh (up hz) (by first|exact hh|simp [hh]) fun h2 tk2 kp2=>?_)
 rw [if_pos (show (none:Option Value).isNone=true from rfl)]
 have u2:∀{b:Addr} {o:Obj},s.heap.get? b=some o→h2.get? b=some o:=fun e=>kp2 _ _ (up e)
 refine wpAny_bind (wpAny_rule (wpAny_bind (wpAny_pyIter_zip (u2 hz) ?_)))
 refine wpAny_pure ⟨plainId_quiet bQ _,?_⟩
 have fr:∀{c:Addr} {o:Obj},s.heap.get? c=some o→s.heap.objs.size≠c:=fun e=>Nat.ne_of_gt (Heap.lt_size e)
 obtain ⟨st0,hTI,g1,g2⟩:=id st
 have st2:ZSt z TI TO i1 i2 t u 0 h2:=by
  obtain ⟨o,ho⟩:=hTO
  rcases st0 with ⟨_,e1,a,b,e2⟩|⟨p,b,op,p1,p2,p3,p4,e1,e2,e3⟩
  ·exact ⟨.inl ⟨rfl,u2 e1,a,b,u2 e2⟩,u2 hTI,u2 g1,u2 g2⟩
  ·exact ⟨.inr ⟨p,b,op,p1,p2,p3,p4,u2 e1,u2 e2,e3⟩,u2 hTI,u2 g1,u2 g2⟩
 obtain ⟨ot,hot,rt⟩:=ht
 obtain ⟨ou,hou,ru⟩:=hu
 obtain ⟨oO,hoO⟩:=hTO
 refine aCz (knd:=knd) (by first|exact hh|simp [hh]) Dz s.heap.objs.size ?_ tn un kvs hx hy h1 hb hk xs.size 0 _ _ (by lia) st2 ⟨ot,u2 hot,rt⟩ ⟨ou,u2 hou,ru⟩ (hnew.at fun o e=>kp2 _ _ e) fun h' tk kp hd'=>?_
 ·simp only [List.mem_cons,List.not_mem_nil,or_false,not_or]
  exact ⟨fr hz,fr hTI,fr hoO,fr g1,fr g2,fr hot,fr hou⟩
 ·refine ⟨rfl,q h' tk hd' fun b o nb e=>kp b o ?_ (u2 e)⟩
  intro x
  rcases List.mem_cons.mp x with x|x
  ·exact fr e x.symm
  ·exact nb x
end
end PySem
namespace L2
open PySem PySem.Spec PyProof.Rows
section
variable {X:Cx} {a b:Expr} {ta:TA} {pos p pos2 p2:Pos}
def bAh (K:PySem.W.Frag) (ta:TA):TE:=fun σ H Q=>ta σ H fun vs H1=>∃(t u:Addr) (ns ms:List Str),vs=[.ref t,.ref u]∧SqT K H1 t (ns.map V.str)∧SqL K H1 u (ms.map V.str)∧ns.length=ms.length∧1≤ns.length∧ns.length≤1000 ∧
 ∀d H',H1 d=none→Same H1 H'→H' d=some (.dK (kO [] ((ns.zip ms).map fun x=>((Sum.inr x.1:Key),V.str x.2))))→Q (.ref d) H'
theorem aXe:∀{ns ms:List Str} {xs ys:List Value},Vals (ns.map V.str) xs→Vals (ms.map V.str) ys→ns.length=ms.length →
  ∃vs:List (Key × Value),KV ((ns.zip ms).map fun x=>((Sum.inr x.1:Key),V.str x.2)) vs∧vs.length=xs.length∧∀(j:Nat) (kv:Key × Value) (x y:Value),vs[j]?=some kv→xs[j]?=some x→ys[j]?=some y→(cN X.prog X.w).is kv.1 x=true∧y=kv.2:=by
 intro ns
 induction ns with
 |nil=>
  intro ms xs ys h1 h2 hl
  cases h1
  exact ⟨[],.nil,rfl,fun j kv x y e _ _=>by simp at e⟩
 |cons n ns ih=>
  intro ms xs ys h1 h2 hl
  cases ms with
  |nil=>simp at hl
  |cons m ms=>
   cases h1 with
   |cons r1 t1=>
    cases h2 with
    |cons r2 t2=>
     obtain ⟨vs,k1,k2,k3⟩:=ih t1 t2 (by simpa using hl)
     rename_i x0 xr y0 yr
     refine ⟨((Sum.inr n:Key),y0)::vs,.cons ⟨rfl,r2⟩ k1,by rw [List.length_cons,List.length_cons,k2],fun j kv x y e1 e2 e3=>?_⟩
     cases j with
     |zero=>
      cases e1
      cases e2
      cases e3
      exact ⟨aBy r1,rfl⟩
     |succ j=>exact k3 j kv x y (by simpa using e1) (by simpa using e2) (by simpa using e3)
theorem aUl (hc:X.calm=true) (hg:Gl X "dict") (hm:X.mg "dict"=none) (hg2:Gl X "zip") (hm2:X.mg "zip"=none) (ha:VA X [a,b] ta) (hp:iC a=true:=by rfl) (hp2:iC b=true:=by rfl)
  (he:starEach [.Call (.Name "zip" p2) [a,b] [] pos2] X.env=[(false,eval (.Call (.Name "zip" p2) [a,b] [] pos2) X.env)]:=by rfl) :
  VE X (.Call (.Name "dict" p) [.Call (.Name "zip" p2) [a,b] [] pos2] [] pos) (bAh X.K ta):=⟨by
 intro pins s σ H Q I h
 refine wpAny_Call_Name_kw (qT I hg hm aAu ?_)
 refine PyProof.Rows.callWith_type1 ?_ he rfl
 rw [he]
 show wpAny _ _ (spliced ((false,eval (.Call (.Name "zip" p2) [a,b] [] pos2) X.env)::backTo pos [])) _ _ s
 refine Calls.spliced_cons ?_
 refine wpAny_Call_Name_kw (qT I hg2 hm2 aQm ?_)
 refine PyProof.Rows.callWith_type1 (thn (ha.1 pos2 pins s σ H _ I h) fun us s1 ⟨vs,H1,I1,r1,q1⟩=>?_) (bV hp) (by rw [bV (es:=[]) hp2];rfl)
 obtain ⟨t,u,ns,ms,e,ht,hu,hl,h1,hb,q⟩:=q1
 subst e
 obtain ⟨its,rv,pt,hz⟩:=I1.tuple ht
 obtain ⟨jts,rw',pu,hz'⟩:=I1.list hu
 cases r1 with
 |cons r rr=>
  cases rr with
  |cons r' rr'=>
   cases rr'
   cases r
   cases r'
   have li:=rv.length
   have lj:=rw'.length
   rw [List.length_map] at li lj
   refine aPj (show s1.heap.IsTuple t its.toArray from pt) pu.isList ?_
   have z1:(zT1 s1.heap t).objs.size=s1.heap.objs.size+1:=Heap.size_push ..
   have z2:(zL2 s1.heap t u).objs.size=s1.heap.objs.size+2:=by rw [Heap.size_push,z1]
   have z3:(zL3 s1.heap t u).objs.size=s1.heap.objs.size+3:=by rw [Heap.size_push,z2]
   have z4:(zL4 s1.heap t u).objs.size=s1.heap.objs.size+4:=by rw [Heap.size_push,z3]
   have D:oE (zL4 s1.heap t u).objs.size (zL2 s1.heap t u).objs.size (zL3 s1.heap t u).objs.size s1.heap.objs.size (zT1 s1.heap t).objs.size:=by
    constructor <;> (show (_:Nat)≠(_:Nat);rw [Ne];intro h;simp only [z1,z2,z3,z4] at h;lia)
   have g5:(zL5 s1.heap t u).get? (zL4 s1.heap t u).objs.size=some (oG .none (zL2 s1.heap t u).objs.size (zL3 s1.heap t u).objs.size):=Heap.get?_push_size _ rfl
   have g4:(zL5 s1.heap t u).get? (zL3 s1.heap t u).objs.size=some (fM .none .none):=Heap.get?_push_of_some _ (Heap.get?_push_size _ rfl)
   have g3:(zL5 s1.heap t u).get? (zL2 s1.heap t u).objs.size=some (fM (.ref s1.heap.objs.size) (.ref (zT1 s1.heap t).objs.size)):=Heap.get?_push_of_some _ (Heap.get?_push_of_some _ (Heap.get?_push_size _ rfl))
   have g2:(zL5 s1.heap t u).get? (zT1 s1.heap t).objs.size=some (aC4 u 0):=Heap.get?_push_of_some _ (Heap.get?_push_of_some _ (Heap.get?_push_of_some _ (Heap.get?_push_size _ rfl)))
   have g1:(zL5 s1.heap t u).get? s1.heap.objs.size=some (lY t 0):=Heap.get?_push_of_some _ (Heap.get?_push_of_some _ (Heap.get?_push_of_some _ (Heap.get?_push_of_some _ (Heap.get?_push_size _ rfl))))
   have u5:∀b o,s1.heap.get? b=some o→(zL5 s1.heap t u).get? b=some o:=fun b o e=>Heap.get?_push_of_some _ (Heap.get?_push_of_some _ (Heap.get?_push_of_some _ (Heap.get?_push_of_some _ (Heap.get?_push_of_some _ e))))
   have big:∀c∈[(zL4 s1.heap t u).objs.size,(zL3 s1.heap t u).objs.size,s1.heap.objs.size,(zT1 s1.heap t).objs.size],s1.heap.objs.size≤c:=by
    intro c hcm
    simp only [List.mem_cons,List.not_mem_nil,or_false] at hcm
    rcases hcm with rfl|rfl|rfl|rfl
    ·rw [z4];lia
    ·rw [z3];lia
    ·exact Nat.le_refl _
    ·rw [z1];lia
   refine Calls.spliced_nil ?_
   obtain ⟨kv,k1,k2,k3⟩:=aXe (X:=X) rv rw' hl
   have tlt:t<s1.heap.objs.size:=by obtain ⟨o,ho,_⟩:=pt;exact Heap.lt_size ho
   have ult:u<s1.heap.objs.size:=by obtain ⟨o,n,ho,_⟩:=pu;exact Heap.lt_size ho
   have I2:Inv X pins σ H1 { s1 with heap:=zL5 s1.heap t u }:=I1.kept (t':=s1.toks) u5
   refine aCt (s:={ s1 with heap:=zL5 s1.heap t u }) (knd:=cN X.prog X.w) (kvs:=kv) (I1.ok.hd hc) D ⟨.inl ⟨rfl,g5,_,_,g4⟩,g3,g1,g2⟩ g5 (by obtain ⟨o,ho,r⟩:=pt;exact ⟨o,u5 _ _ ho,r⟩) (by obtain ⟨o,n,ho,r1,r2,r3⟩:=pu;exact ⟨o,u5 _ _ ho,r1,n,r3⟩) (fun x=>absurd (big _ x) (Nat.not_le.mpr tlt)) (fun x=>absurd (big _ x) (Nat.not_le.mpr ult)) ⟨_,g4⟩ (by rw [List.size_toArray];exact k2) (by rw [List.size_toArray,List.size_toArray];lia) (by rw [List.size_toArray];lia) (by rw [List.size_toArray];lia) (fun j kv x y e1 e2 e3=>k3 j kv x y e1 (by simpa using e2) (by simpa using e3)) fun h' tk hd kp=>?_
   have kp1:∀b o,s1.heap.get? b=some o→h'.get? b=some o:=fun b o e=>kp b o (fun x=>absurd (big _ x) (Nat.not_le.mpr (Heap.lt_size e))) (u5 b o e)
   have hf:H1 (zL5 s1.heap t u).objs.size=none:=I2.hok.fresh (Nat.le_refl _)
   have hle:s1.heap.objs.size≤(zL5 s1.heap t u).objs.size:=by
    have:(zL5 s1.heap t u).objs.size=(zL4 s1.heap t u).objs.size+1:=Heap.size_push ..
    rw [this,z4];lia
   have lk:=KV.length k1
   have lm:=lJ ((ns.zip ms).map fun x=>((Sum.inr x.1:Key),V.str x.2)) []
   simp only [List.length_nil] at lm
   refine ⟨.ref _,_,I1.laid (t':=tk) (o:=.dK (kO [] ((ns.zip ms).map fun x=>((Sum.inr x.1:Key),V.str x.2)))) kp1 hle ?_,rfl,q _ _ hf (bM hf _) aQ⟩
   exact ⟨small (by rw [List.length_map,List.length_zip] at lm;lia),beq_eq_false_iff_ne.mpr (Ne.symm (Nat.ne_of_lt (Nat.lt_of_lt_of_le I1.big hle))),_,KV.merge k1 .nil,hd⟩⟩
end
theorem aO6:bootBuiltins "divmod"=some (.builtin "divmod"):=by decide +kernel
def aZb:List V→Hp→VK→Prop:=fun xs H Q=>∃i j,xs=[.int i,.int j]∧(0<j∧j<2 ^ 64)∧∀p H',H p=none→Same H H'→H' p=some (.tup [.int (i / j),.int (i % j)])→Q (.ref p) H'
theorem aOv {X:Cx}:cY X (.builtin "divmod") aZb:=by
 intro pins s σ H xs us Q I r h
 obtain ⟨i,j,rfl,⟨h1,h2⟩,q⟩:=h
 obtain ⟨u,w',rfl,⟨t,rfl⟩,⟨t',rfl⟩⟩:=vals2 r
 have h64:j.natAbs<2 ^ 64:=by omega
 have hlog:j.natAbs.log2<9000:=by
  have:=(Nat.log2_lt (show j.natAbs≠0 by omega)).mpr h64
  omega
 refine divmod_int (by omega) ?_ (.inl (PyProof.noPylong_of_log2 hlog))
 rw [Int.fdiv_eq_ediv_of_nonneg i (by omega),Int.fmod_eq_emod_of_nonneg i (by omega)]
 have hn:H s.heap.objs.size=none:=I.hok.fresh (Nat.le_refl _)
 refine ⟨.ref s.heap.objs.size,upd H s.heap.objs.size (.tup [.int (i / j),.int (i % j)]),?_,rfl,q _ _ hn (bM hn _) aQ⟩
 refine I.laid (fun b o e=>Heap.get?_push_of_some _ e) (Nat.le_refl _) ⟨by simp only [List.length_cons,List.length_nil];rw [sizeLine_eq];decide,[.int (i / j) s.toks,.int (i % j) (s.toks+1)],.cons ⟨_,rfl⟩ (.cons ⟨_,rfl⟩ .nil),?_⟩
 exact .of (Heap.get?_push_size s.heap rfl) rfl ⟨_,Heap.get?_push_size s.heap rfl,rfl,0,rfl⟩
inductive Al2 {α β:Type} (R:α→β→Prop):List α→List β→Prop
 |nil:Al2 R [] []
 |cons {a b as bs}:R a b→Al2 R as bs→Al2 R (a::as) (b::bs)
theorem Al2.len {α β:Type} {R:α→β→Prop} {as:List α} {bs:List β} (h:Al2 R as bs):as.length=bs.length:=by
 induction h with
 |nil=>rfl
 |cons _ _ ih=>rw [List.length_cons,List.length_cons,ih]
theorem Al2.at {α β:Type} {R:α→β→Prop} {as:List α} {bs:List β} (h:Al2 R as bs):∀{j:Nat} {a:α},as[j]?=some a→∃b,bs[j]?=some b∧R a b:=by
 induction h with
 |nil=>intro j a e;simp at e
 |cons r _ ih=>
  intro j a e
  cases j with
  |zero=>cases e;exact ⟨_,rfl,r⟩
  |succ j=>exact ih (by simpa using e)
def DEq (K:PySem.W.Frag) (H:Hp):Nat→V→V→Prop
 |0,x,y=>jY x=true∧x=y
 |n+1,x,y=>(jY x=true∧x=y)∨∃a b xs ys,x=.ref a∧y=.ref b∧SqT K H a xs∧SqT K H b ys∧Al2 (DEq K H n) xs ys
theorem aEa {A:Around} {s:Shared} {x:V} {v u:Value} (h:jY x=true) (rv:RelV x v) (ru:RelV x u):SeqAt.EqAt A s v u true:=by
 cases x with
 |non=>cases rv;cases ru;exact SeqAt.EqAt.same _
 |bl b=>cases rv;cases ru;exact SeqAt.EqAt.same _
 |int i=>
  obtain ⟨t,rfl⟩:=rv
  obtain ⟨t',rfl⟩:=ru
  have z:=SeqAt.EqAt.int_int (A:=A) (s:=s) i t i t'
  simpa using z
 |str y=>
  obtain ⟨t,rfl⟩:=rv
  obtain ⟨t',rfl⟩:=ru
  have z:=SeqAt.EqAt.str_str (A:=A) (s:=s) y t y t'
  simpa using z
 |_=>cases h
section
variable {X:Cx} {pins:List (Addr × Obj)} {σ:L2.St} {H:Hp} {s:Shared}
theorem vV (I:Inv X pins σ H s) {n:Nat} {A:Around} {xs ys:List V} {its jts:List Value} (rv:Vals xs its) (rw':Vals ys jts) (h:Al2 (DEq X.K H n) xs ys)
  (ih:∀{x y v u},DEq X.K H n x y→RelV x v→RelV y u→SeqAt.EqAt A s v u true):∀(j:Nat) (h1:j<its.toArray.size) (h2:j<jts.toArray.size),SeqAt.EqAt A s its.toArray[j] jts.toArray[j] ((fun _=>true) j):=fun j h1 h2=>by
 have e1:=rv.length
 have hj1:j<xs.length:=by rw [List.size_toArray] at h1;lia
 obtain ⟨y,hy,d⟩:=h.at (List.getElem?_eq_getElem hj1)
 obtain ⟨u1,hu1,r1⟩:=rv.get (List.getElem?_eq_getElem hj1)
 obtain ⟨u2,hu2,r2⟩:=rw'.get hy
 have g1:its.toArray[j]=u1:=by
  rw [List.getElem_toArray]
  exact (List.getElem?_eq_some_iff.mp hu1).2
 have g2:jts.toArray[j]=u2:=by
  rw [List.getElem_toArray]
  exact (List.getElem?_eq_some_iff.mp hu2).2
 rw [g1,g2]
 exact ih d r1 r2
theorem wO (n:Nat):(List.range n).all (fun _=>true)=true:=by rw [List.all_eq_true];intro _ _;rfl
theorem tX (I:Inv X pins σ H s):∀(n:Nat) {A:Around} {x y:V} {v u:Value},DEq X.K H n x y→RelV x v→RelV y u→A.units+n<cLine→SeqAt.EqAt A s v u true
 |0,A,x,y,v,u,h,rv,ru,_=>by
  obtain ⟨h,rfl⟩:=h
  exact aEa h rv ru
 |n+1,A,x,y,v,u,h,rv,ru,hu=>by
  rcases h with ⟨h,rfl⟩|⟨a,b,xs,ys,rfl,rfl,ha,hb,h⟩
  ·exact aEa h rv ru
  cases rv
  cases ru
  by_cases e:a=b
  ·subst e;exact SeqAt.EqAt.same _
  obtain ⟨its,r1,pl,hz⟩:=I.tuple ha
  obtain ⟨jts,r2,pm,hw⟩:=I.tuple hb
  refine SeqAt.EqAt.of_refs e ?_
  have z:=SeqAt.RcAt.tuples (A:=A) (e:=fun _=>true) (show s.heap.IsTuple a its.toArray from pl) (show s.heap.IsTuple b jts.toArray from pm) (by lia) (vV I r1 r2 h fun d q1 q2=>tX I n d q1 q2 (by show A.units+1+n<cLine;lia))
  have z2:(its.toArray.size == jts.toArray.size)=true:=by rw [List.size_toArray,List.size_toArray];have:=r1.length;have:=r2.length;have:=h.len;simp;lia
  rw [wO,z2] at z
  exact z
end
def aZ7 (K:PySem.W.Frag) (r:Bool):R2:=fun x y H Q=>∃a b xs ys,x=.ref a∧y=.ref b∧SqT K H a xs∧SqT K H b ys∧Al2 (DEq K H 40) xs ys∧Q (.bl r) H
theorem aQu {X:Cx} (hu:X.A.units+64<cLine):OpR X (compareOp .Eq) (aZ7 X.K true):=by
 intro pins s σ H x y v u Q I rx ry h
 obtain ⟨a,b,xs,ys,rfl,rfl,ha,hb,h,q⟩:=h
 cases rx
 cases ry
 obtain ⟨its,r1,pl,hz⟩:=I.tuple ha
 obtain ⟨jts,r2,pm,hw⟩:=I.tuple hb
 refine SeqAt.RcAt.tuples (e:=fun _=>true) (show s.heap.IsTuple a its.toArray from pl) (show s.heap.IsTuple b jts.toArray from pm) (by lia) (vV I r1 r2 h fun d q1 q2=>tX I 40 d q1 q2 (by show X.A.units+1+40<cLine;lia)) _ _ _ _ ?_
 have z2:(its.toArray.size == jts.toArray.size)=true:=by rw [List.size_toArray,List.size_toArray];have:=r1.length;have:=r2.length;have:=h.len;simp;lia
 rw [wO,z2]
 exact ⟨.bl _,H,I,rfl,q⟩
theorem bAs {X:Cx} (hu:X.A.units+64<cLine):OpR X (compareOp .NotEq) (aZ7 X.K false):=by
 intro pins s σ H x y v u Q I rx ry h
 obtain ⟨a,b,xs,ys,rfl,rfl,ha,hb,h,q⟩:=h
 cases rx
 cases ry
 obtain ⟨its,r1,pl,hz⟩:=I.tuple ha
 obtain ⟨jts,r2,pm,hw⟩:=I.tuple hb
 refine SeqAt.RcNeAt.tuples (e:=fun _=>true) (show s.heap.IsTuple a its.toArray from pl) (show s.heap.IsTuple b jts.toArray from pm) (by lia) (vV I r1 r2 h fun d q1 q2=>tX I 40 d q1 q2 (by show X.A.units+1+40<cLine;lia)) _ _ _ _ ?_
 have z2:(its.toArray.size == jts.toArray.size)=true:=by rw [List.size_toArray,List.size_toArray];have:=r1.length;have:=r2.length;have:=h.len;simp;lia
 rw [wO,z2]
 exact ⟨.bl _,H,I,rfl,q⟩
def bAk (K:PySem.W.Frag):R2:=fun x y H Q=>∃a b xs,x=.ref a∧y=.ref b∧SqT K H a xs∧SqT K H b []∧Q (.bl xs.isEmpty) H
theorem aW2 {X:Cx} (hu:X.A.units<cLine):OpR X (compareOp .Eq) (bAk X.K):=by
 intro pins s σ H x y v u Q I rx ry h
 obtain ⟨a,b,xs,rfl,rfl,ha,hb,q⟩:=h
 cases rx
 cases ry
 obtain ⟨its,r1,pl,hz⟩:=I.tuple ha
 obtain ⟨jts,r2,pm,hw⟩:=I.tuple hb
 have e1:=r1.length
 have e2:=r2.length
 cases jts with
 |cons _ _=>cases e2
 |nil=>
  refine SeqAt.RcAt.tuples (e:=fun _=>true) (show s.heap.IsTuple a its.toArray from pl) (show s.heap.IsTuple b ([]:List Value).toArray from pm) hu (fun j h1 h2=>by simp at h2) _ _ _ _ ?_
  rw [wO]
  have z2:(its.toArray.size == ([]:List Value).toArray.size)=xs.isEmpty:=by
   cases xs with
   |nil=>cases its with
    |nil=>rfl
    |cons _ _=>cases e1
   |cons _ _=>cases its with
    |nil=>cases e1
    |cons _ _=>rfl
  rw [z2]
  exact ⟨.bl _,H,I,rfl,q⟩
def bA8 (K:PySem.W.Frag):R2:=fun x y H Q=>∃a b xs,x=.ref a∧y=.ref b∧SqL K H a xs∧SqL K H b []∧Q (.bl (!xs.isEmpty)) H
theorem aYz {X:Cx} (hu:X.A.units<cLine):OpR X (compareOp .NotEq) (bA8 X.K):=by
 intro pins s σ H x y v u Q I rx ry h
 obtain ⟨a,b,xs,rfl,rfl,ha,hb,q⟩:=h
 cases rx
 cases ry
 obtain ⟨its,r1,pl,hz⟩:=I.list ha
 obtain ⟨jts,r2,pm,hw⟩:=I.list hb
 have e1:=r1.length
 have e2:=r2.length
 cases jts with
 |cons _ _=>cases e2
 |nil=>
  cases xs with
  |nil=>cases its with
   |cons _ _=>cases e1
   |nil=>
    refine SeqAt.RcNeAt.lists (e:=fun _=>true) pl.isList pm.isList rfl hu (fun j h1 h2=>by simp at h2) _ _ _ _ ?_
    exact ⟨.bl _,H,I,rfl,q⟩
  |cons _ _=>cases its with
   |nil=>cases e1
   |cons _ _=>
    refine SeqAt.RcNeAt.lists_lengths pl.isList pm.isList rfl hu _ _ _ _ ?_
    exact ⟨.bl _,H,I,rfl,q⟩
end L2
namespace PySem
open PySem.Spec
theorem jL:entryFor table "list.remove.loop"=some Builtin.«list.remove.loop»:=entryFor_of_tree (by kernel_rfl)
section
variable {prog:Program} {w:World} {A:Around} {R:Result→Shared→Prop} {s:Shared} {l:Addr} {items:Array Value} {n:Nat} {dd:Option Addr} {sl:Array (Option Value)} {x:Value} {j:Nat}
theorem aDo (hs:s.heap.get? l=some { cls:=Value.type "list",dict:=dd,data:=Data.seq items n,slots:=sl }) (hj:j<items.size)
  (ht:SeqAt.EqAt A.in1 s items[j] x true) (hf:∀(m:Nat) (hm:m<items.size),m<j→SeqAt.EqAt A.in1 s items[m] x false) (hsz:items.size≤sizeLine)
  (q:R (.ok (.ret .none)) { s with heap:=s.heap.update l (Obj.mapSeq fun xs=>xs.eraseIdxIfInBounds j) }) :
  ∀(k i:Nat),i+k=j→codeAny (model prog w) A (.builtin "list.remove.loop" ⟨[.ref l,x,rawInt (i:Nat)],[]⟩) R s:=by
 intro k
 induction k with
 |zero=>
  intro i hi
  obtain rfl:i=j:=by lia
  refine codeAny_builtin jL ?_
  rw [Around.under_plainId MeetsSeq.plain_remove_loop _]
  show wpAny _ A.in1 (Builtin.List.listItems (.ref l) >>= _) _ _ _
  refine wpAny_bind (wpAny_listItems hs rfl ?_)
  have hx:items[Int.toNat (i:Nat)]?=some items[i]:=by rw [Int.toNat_natCast];exact Array.getElem?_eq_getElem hj
  simp only [hx]
  refine wpAny_bind (ht _ _ _ _ ?_)
  simp only [if_true]
  refine wpAny_bind (PyProof.Rows.listUpdate_at hs rfl ?_ hsz ?_)
  ·rw [Int.toNat_natCast]
   exact wpAny_pure q
  ·unfold Array.eraseIdxIfInBounds
   split
   ·rw [Array.size_eraseIdx];lia
   ·lia
 |succ k ih=>
  intro i hi
  refine codeAny_builtin jL ?_
  rw [Around.under_plainId MeetsSeq.plain_remove_loop _]
  show wpAny _ A.in1 (Builtin.List.listItems (.ref l) >>= _) _ _ _
  have hi':i<items.size:=by lia
  refine wpAny_bind (wpAny_listItems hs rfl ?_)
  have hx:items[Int.toNat (i:Nat)]?=some items[i]:=by rw [Int.toNat_natCast];exact Array.getElem?_eq_getElem hi'
  simp only [hx]
  refine wpAny_bind (hf i hi' (by lia) _ _ _ _ ?_)
  refine wpAny_pure ⟨plainId_quiet MeetsSeq.plain_remove_loop _,?_⟩
  exact ih (i+1) (by lia)
theorem aC5 (l:Addr) (items:Array Value) (n:Nat) (dd:Option Addr) (sl:Array (Option Value)) (x:Value) (j:Nat) (hj:j<items.size) (hsz:items.size≤sizeLine) :
  Meets (Builtin.«list.remove» ⟨[.ref l,x],[]⟩) fun A R s=>s.heap.get? l=some { cls:=Value.type "list",dict:=dd,data:=Data.seq items n,slots:=sl } ∧
   SeqAt.EqAt A.in1 s items[j] x true∧(∀(m:Nat) (hm:m<items.size),m<j→SeqAt.EqAt A.in1 s items[m] x false) ∧
   R (.ok (.ret .none)) { s with heap:=s.heap.update l (Obj.mapSeq fun xs=>xs.eraseIdxIfInBounds j) }:=by
 intro prog w A R s ⟨hs,ht,hf,q⟩
 refine wpAny_pure ⟨plainId_quiet MeetsSeq.plain_remove_loop _,?_⟩
 exact aDo hs hj ht hf hsz q j 0 (by lia)
end
end PySem
namespace L2
open PySem PySem.Spec PyProof.Rows
def UnT (K:PySem.W.Frag) (H:Hp) (x y:V):Prop:=∃(a b:Addr) (p q:Str × Str),x=.ref a∧y=.ref b∧SqT K H a [.str p.1,.str p.2]∧SqT K H b [.str q.1,.str q.2]∧p.1≠q.1
theorem aVl {X:Cx} {pins:List (Addr × Obj)} {σ:L2.St} {H:Hp} {s:Shared} (I:Inv X pins σ H s) {A:Around} {x y:V} {v u:Value} (h:UnT X.K H x y) (rv:RelV x v) (ru:RelV y u) (hu:A.units+2<cLine):SeqAt.EqAt A s v u false:=by
 obtain ⟨a,b,p,q,rfl,rfl,ha,hb,hne⟩:=h
 cases rv
 cases ru
 have e:a≠b:=by
  intro e
  subst e
  have:=I.yQ ha hb
  simp at this
  exact hne this.1
 obtain ⟨its,r1,pl,hz⟩:=I.tuple ha
 obtain ⟨jts,r2,pm,hw⟩:=I.tuple hb
 obtain ⟨v1,v2,rfl,⟨t1,rfl⟩,⟨t2,rfl⟩⟩:=r1.two
 obtain ⟨u1,u2,rfl,⟨t3,rfl⟩,⟨t4,rfl⟩⟩:=r2.two
 refine SeqAt.EqAt.of_refs e ?_
 have z:=SeqAt.RcAt.tuples (A:=A) (s:=s) (e:=fun j=>if j=0 then p.1 == q.1 else p.2 == q.2) (show s.heap.IsTuple a _ from pl) (show s.heap.IsTuple b _ from pm) (by lia) (fun j h1 h2=>by
  match j,h1 with
  |0,_=>exact SeqAt.EqAt.str_str (A:=A.in1) (s:=s) p.1 t1 q.1 t3
  |1,_=>exact SeqAt.EqAt.str_str (A:=A.in1) (s:=s) p.2 t2 q.2 t4)
 have e0:(p.1 == q.1)=false:=by simpa using hne
 have e1:((List.range (min [Value.str p.1 t1,Value.str p.2 t2].toArray.size [Value.str q.1 t3,Value.str q.2 t4].toArray.size)).all (fun j=>if j=0 then p.1 == q.1 else p.2 == q.2))=false:=by
  show (List.range 2).all _=false
  simp [List.range_succ,e0]
 rw [e1,Bool.false_and] at z
 exact z
theorem aA5:∀{xs:List V} {its:List Value},Vals xs its→∀j,Vals (xs.eraseIdx j) (its.eraseIdx j)
 |_,_,.nil,j=>by cases j <;> exact .nil
 |_,_,.cons r t,0=>t
 |_,_,.cons r t,j+1=>.cons r (aA5 t j)
def aVe (K:PySem.W.Frag):V→List V→Hp→VK→Prop:=fun x vs H Q=>∃l xs y j z,x=.ref l∧vs=[y]∧H l=some (.lst xs)∧xs[j]?=some z∧DEq K H 2 z y∧(∀m z',m<j→xs[m]?=some z'→UnT K H z' y)∧Q .non (upd H l (.lst (xs.eraseIdx j)))
theorem aP4 {X:Cx} (hu:X.A.units+64<cLine):MtR X "list.remove" (aVe X.K):=by
 intro pins s σ H x vs v us Q I rx rv h
 obtain ⟨l,xs,y,j,zv,rfl,rfl,hH,hz,hd,hn,q⟩:=h
 cases rx
 obtain ⟨u,rfl,ru⟩:=rv.one
 obtain ⟨z,its,n,r,hl,e⟩:=I.aIn hH
 have hj:j<xs.length:=(List.getElem?_eq_some_iff.mp hz).1
 have hj':j<its.toArray.size:=by rw [List.size_toArray];lia
 have at':∀(m:Nat) (hm:m<its.toArray.size) (zz:V),xs[m]?=some zz→RelV zz its.toArray[m]:=fun m hm zz hzz=>by
  obtain ⟨u1,hu1,r1⟩:=r.get hzz
  have g1:its.toArray[m]=u1:=by
   rw [List.getElem_toArray]
   exact (List.getElem?_eq_some_iff.mp hu1).2
  rw [g1]
  exact r1
 refine call_meets F.slot_list_remove ⟨_,e,rfl⟩ F.entry_list_remove (F.args_list_remove_2 _ _) (aC5 l its.toArray n none #[] u j hj' (by rw [List.size_toArray];lia)) ⟨e,tX I 2 hd (at' j hj' _ hz) ru ?_,fun m hm hlt=>aVl I (hn m _ hlt (List.getElem?_eq_getElem (by lia))) (at' m hm _ (List.getElem?_eq_getElem (by lia))) ru ?_,?_⟩
 ·show X.A.units+1+2<cLine
  lia
 ·show X.A.units+1+2<cLine
  lia
 ·refine ⟨.non,_,I.lset (its':=its.eraseIdx j) hH e ?_ ?_ ?_,rfl,q⟩
  ·show its.toArray.eraseIdxIfInBounds j=(its.eraseIdx j).toArray
   rw [List.eraseIdxIfInBounds_toArray]
  ·exact aA5 r j
  ·have:=List.length_eraseIdx_le xs j
   lia
def aTq (K:PySem.W.Frag):V→List V→Hp→VK→Prop:=fun x vs H Q=>∃(l:Addr) (ns:List Str) (t:Str) (j:Nat),x=.ref l∧vs=[.str t]∧SqL K H l (ns.map V.str)∧ns[j]?=some t∧(∀m t',m<j→ns[m]?=some t'→t'≠t)∧Q (.int (j:Nat)) H
theorem aEi {X:Cx}:MtR X "list.index" (aTq X.K):=by
 intro pins s σ H x vs v us Q I rx rv h
 obtain ⟨l,ns,t,j,rfl,rfl,hl,hj,hn,q⟩:=h
 cases rx
 obtain ⟨u,rfl,ru⟩:=rv.one
 obtain ⟨tk,rfl⟩:=ru
 obtain ⟨its,r,pl,hz⟩:=I.list hl
 have e1:=r.length
 rw [List.length_map] at e1
 have lj:j<ns.length:=(List.getElem?_eq_some_iff.mp hj).1
 have hj':j<its.toArray.size:=by rw [List.size_toArray];lia
 have at':∀(m:Nat) (hm:m<its.toArray.size),∃tt,its.toArray[m]=.str (ns[m]'(by rw [List.size_toArray] at hm;lia)) tt:=fun m hm=>by
  have hm':m<ns.length:=by rw [List.size_toArray] at hm;lia
  obtain ⟨u1,hu1,t1,r1⟩:=r.get (i:=m) (x:=.str ns[m]) (by rw [List.getElem?_map,List.getElem?_eq_getElem hm'];rfl)
  refine ⟨t1,?_⟩
  rw [List.getElem_toArray]
  rw [←r1]
  exact (List.getElem?_eq_some_iff.mp hu1).2
 obtain ⟨⟨oc,od,ox,osl⟩,ho,hc,n,hdat⟩:=pl.isList
 simp only at hc hdat
 subst hc hdat
 have ex:∀(m:Nat) (hm:m<its.toArray.size),(match its.toArray[m] with|.str y _=>y == t|_=>false)=(ns[m]'(by rw [List.size_toArray] at hm;lia) == t):=fun m hm=>by
  obtain ⟨tt,e⟩:=at' m hm
  rw [e]
 refine call_meets F.slot_list_index ⟨_,ho,rfl⟩ F.entry_list_index (F.args_list_index_2 _ _) (SeqAt.list_indexAt l its.toArray n od osl (.str t tk) (fun y=>match y with|.str y _=>y == t|_=>false) j hj' ?_ ?_ ?_) ⟨ho,fun y hy=>?_,⟨.int (j:Nat),H,I.tok _,⟨_,rfl⟩,q⟩⟩
 ·have hs:sizeLine=16777216:=sizeLine_eq
  rw [List.length_map] at hz
  lia
 ·rw [ex j hj']
  have:=(List.getElem?_eq_some_iff.mp hj).2
  rw [this]
  exact beq_self_eq_true t
 ·intro m hm hlt
  rw [ex m hm]
  have hm':m<ns.length:=by rw [List.size_toArray] at hm;lia
  have:=hn m ns[m] hlt (List.getElem?_eq_getElem hm')
  simpa using this
 ·obtain ⟨m,hm,rfl⟩:=Array.getElem_of_mem hy
  obtain ⟨tt,e⟩:=at' m hm
  rw [e]
  exact SeqAt.EqAt.str_str _ _ _ _
end L2
namespace PySem
open PySem.Spec
theorem mH:entryFor table "proto.contains_iter"=some Builtin.«proto.contains_iter»:=entryFor_of_tree (by kernel_rfl)
theorem gZ:plainId "proto.contains_iter"=true:=by decide +kernel
theorem nH:typeLookup (.type "dict_values") "__contains__"=pure none:=by rw [typeLookup_type,builtinLookup_eq_fast];kernel_rfl
section
variable {prog:Program} {w:World} {κ:Type} [DecidableEq κ] {knd:KeyKind prog w κ}
theorem vJ {A:Around} {R:Result→Shared→Prop} {I d:Addr} {kvs:List (κ × Value)} {ep:Nat} {us:List Str} {t:Str} {tt:Tok} (hh:A.in1.handled=none) (hne:d≠I) (hu:∀(i:Nat) (k:κ) (v:Value),kvs[i]?=some (k,v)→∃u tu,us[i]?=some u∧v=.str u tu) (hl:us.length=kvs.length) :
  ∀(n i:Nat) (s:Shared),i+n=kvs.length→(s.heap.IsValIter I d i kvs.length ep∧s.heap.DictAt knd d kvs ep) →
   (∀h' tk,(∀b o,b≠I→s.heap.get? b=some o→h'.get? b=some o)→R (.ok (.ret (.bool (decide (t∈us.drop i))))) { s with heap:=h',toks:=tk }) →
   codeAny (model prog w) A (.builtin "proto.contains_iter" ⟨[.ref I,.str t tt],[]⟩) R s:=by
 have W:=Walks.dictValues (prog:=prog) (w:=w) (A:=A.in1) (knd:=knd) hh I d hne kvs ep
 intro n
 induction n with
 |zero=>
  intro i s hi st q
  obtain rfl:i=kvs.length:=by lia
  refine codeAny_builtin mH ?_
  rw [Around.under_plainId gZ _]
  show wpAny _ A.in1 (pyNext (.ref I) >>= _) _ _ _
  refine wpAny_bind (W.done s _ _ st fun h' tk kp=>?_)
  rw [List.drop_eq_nil_of_le (by lia)] at q
  refine wpAny_bind (wpAny_rule (wpAny_pure (q h' tk fun b o nb e=>kp b o (by simpa using nb) e)))
 |succ n ih=>
  intro i s hi st q
  refine codeAny_builtin mH ?_
  rw [Around.under_plainId gZ _]
  show wpAny _ A.in1 (pyNext (.ref I) >>= _) _ _ _
  refine wpAny_bind (W.item i s _ _ (by lia) st fun v h' tk ⟨k,hk⟩ st' kp=>?_)
  obtain ⟨u,tu,hu1,rfl⟩:=hu i k v hk
  have hlt:i<us.length:=by lia
  have hd:us.drop i=u::us.drop (i+1):=by
   rw [List.drop_eq_getElem_cons hlt]
   have:=(List.getElem?_eq_some_iff.mp hu1).2
   rw [this]
  have kp':∀b o,b≠I→s.heap.get? b=some o→h'.get? b=some o:=fun b o nb e=>kp b o (by simpa using nb) e
  show wpAny _ A.in1 (eqBool (.str u tu) (.str t tt) >>= _) _ _ _
  refine wpAny_bind (wpAny_eqBool_str ?_)
  by_cases e:u=t
  ·rw [decide_eq_true e]
   simp only [if_true]
   refine wpAny_bind (wpAny_rule (wpAny_pure ?_))
   have:=q h' tk kp'
   rw [hd,decide_eq_true (by rw [e];exact List.mem_cons_self ..)] at this
   exact this
  ·rw [decide_eq_false e]
   refine wpAny_pure ⟨plainId_quiet gZ _,?_⟩
   refine ih (i+1) _ (by lia) st' fun h2 tk2 kp2=>?_
   have:=q h2 tk2 fun b o nb e=>kp2 b o nb (kp' b o nb e)
   rw [hd] at this
   have e2:decide (t∈u::us.drop (i+1))=decide (t∈us.drop (i+1)):=by
    congr 1
    rw [List.mem_cons,eq_iff_iff]
    exact ⟨fun h=>h.resolve_left fun z=>e z.symm,.inr⟩
   rw [e2] at this
   exact this
end
end PySem
namespace L2
open PySem PySem.Spec PyProof.Rows
def aM3 (ty td:TE):TE:=fun σ H Q=>ty σ H fun y H1=>td σ H1 fun x H2=>∃(a:Addr) (kvs:List (Key × V)) (us:List Str) (t:Str),x=.ref a∧y=.str t∧H2 a=some (.dK kvs)∧kvs.map (·.2)=us.map V.str∧Q (.bl (!decide (t∈us))) H2
theorem aWm {κ:Type}:∀{kvs:List (κ × V)} {vs:List (κ × Value)},KV kvs vs→∀{us:List Str},kvs.map (·.2)=us.map V.str→∀(i:Nat) (k:κ) (v:Value),vs[i]?=some (k,v)→∃u tu,us[i]?=some u∧v=.str u tu
 |_,_,.nil,us,_,i,k,v,h=>by simp at h
 |_,_,.cons r t,[],e,i,k,v,h=>by cases e
 |_,_,.cons r t,u::us,e,0,k,v,h=>by
  rw [List.map_cons,List.map_cons,List.cons.injEq] at e
  cases h
  have r2:=r.2
  rw [e.1] at r2
  obtain ⟨tu,r2⟩:=r2
  exact ⟨u,tu,rfl,r2⟩
 |_,_,.cons r t,u::us,e,i+1,k,v,h=>by
  rw [List.map_cons,List.map_cons,List.cons.injEq] at e
  exact aWm t e.2 i k v (by simpa using h)
section
variable {X:Cx} {i o:Expr} {ty td:TE} {apos cpos:Pos}
theorem aP9 (hc:X.calm=true) (hi:PE X i ty) (ho:PE X o td) (hbase:attributeBase o "values" X.env (eval o X.env)=eval o X.env:=by rfl) (hline:(apos.endLine == cpos.line)=true:=by rfl) :
  PC X .NotIn i (.Call (.Attribute o "values" apos) [] [] cpos) (aM3 ty td):=by
 intro pins s σ H Q I h
 refine thn (hi pins s σ H _ I h) fun iv s1 ⟨y,H1,I1,ry,q1⟩=>?_
 refine wpAny_Call_method0_late hbase hline (thn (ho pins s1 σ H1 _ I1 q1) fun u s2 ⟨x,H2,I2,rx,a,kvs,us,t,ex,ey,g,em,q2⟩=>?_)
 subst ex ey
 obtain rfl:u=Value.ref a:=rx
 obtain ⟨tt,rfl⟩:=ry
 obtain ⟨hz,hS,vs,rk,hd⟩:=aD8 I2.hok (.inl g)
 obtain ⟨od,_,_,ho1,ho2,_⟩:=id hd
 refine ⟨"dict","dict.values",F.plainAttrs_dict,F.slot_dict_values,F.type_dict_values,hd.typeIs,fun b q=>by cases q;exact ⟨od,ho1,ho2.2.1⟩,Calls.callWith_builtin rfl (PySem.evalArgs_none ?_)⟩
 refine call_meetsIn F.slot_dict_values hd.typeIs F.entry_dict_values (F.args_dict_values_1 _) (meets_dict_values (cN X.prog X.w) a hS) ⟨⟨vs,hd⟩,?_⟩
 have hv:(s2.heap.push { cls:=.type "dict_values",data:=.fields #[.ref a] }).IsValuesView s2.heap.objs.size a:=⟨_,Heap.get?_push_size _ rfl,rfl,rfl⟩
 have hT:Shared.TypeIs { s2 with heap:=s2.heap.push { cls:=.type "dict_values",data:=.fields #[.ref a] } } (.ref s2.heap.objs.size) "dict_values":=⟨_,Heap.get?_push_size _ rfl,rfl⟩
 show wpAny _ _ (contains (.ref s2.heap.objs.size) (.str t tt) >>= _) _ _ _
 refine wpAny_bind ?_
 unfold PySem.contains
 refine wpAny_holding ?_
 show wpAny _ _ (specialOf (.ref s2.heap.objs.size) "__contains__" >>= _) _ _ _
 refine wpAny_bind (wpAny_specialOf hT nH ?_)
 rw [if_neg (by decide)]
 refine wpAny_bind (wpAny_callSpecialUnlessNone?_none hT nH ?_)
 dsimp only
 obtain ⟨ep,hat⟩:=hd.dictAt
 have hat2:=hat.push { cls:=.type "dict_values",data:=.fields #[.ref a] }
 refine wpAny_bind (wpAny_rule ?_)
 refine wpAny_bind (wpAny_tryCatch (wpAny_pyIter_values (knd:=cN X.prog X.w) hv hat2 ?_))
 have hne:a≠(s2.heap.push { cls:=.type "dict_values",data:=.fields #[.ref a] }).objs.size:=Nat.ne_of_lt hat2.lt_size
 refine wpAny_bind (wpAny_runValue (vJ (knd:=cN X.prog X.w) (kvs:=vs) (us:=us) (I1.ok.hd hc) hne (aWm rk em) ?_ vs.length 0 _ (by lia) ⟨⟨_,Heap.get?_push_size _ rfl,rfl,rfl⟩,hat2.push _⟩ fun h' tk kp=>?_))
 ·have:=congrArg List.length em
  rw [List.length_map,List.length_map,KV.length rk] at this
  exact this.symm
 refine wpAny_pure (wpAny_pure ?_)
 rw [List.drop_zero]
 refine ⟨.bl _,H2,I2.kept (t':=tk) fun b ob e=>kp b ob ?_ (Heap.get?_push_of_some _ (Heap.get?_push_of_some _ e)),rfl,q2⟩
 have:=Heap.lt_size e
 rw [Heap.size_push]
 exact Nat.ne_of_lt (Nat.lt_succ_of_lt this)
theorem aPg {pos:Pos} (hc:X.calm=true) (hi:VE X i ty) (ho:VE X o td) (hbase:attributeBase o "values" X.env (eval o X.env)=eval o X.env:=by rfl) (hline:(apos.endLine == cpos.line)=true:=by rfl) (h1:behindInMarks .NotIn (.Call (.Attribute o "values" apos) [] [] cpos)=false:=by rfl) :
  VT X (.Compare i [.NotIn] [.Call (.Attribute o "values" apos) [] [] cpos] pos) (tB (aM3 ty td)):=⟨aR0 (aP9 hc hi.1 ho.1 hbase hline) h1⟩
end
end L2
namespace PySem
namespace RvF
theorem aL8:typeLookup (.type "tuple") "__reversed__"=pure none:=by rw [typeLookup_type,builtinLookup_eq_fast];kernel_rfl
theorem aF4:isSubtype (.type "tuple") (.type "dict")=pure false:=by rw [isSubtype_type];kernel_rfl
end RvF
def rvT (u:Addr) (i:Int):Obj:={ cls:=.type "reversed",data:=.fields #[.ref u,rawInt i] }
theorem bAv {prog:Program} {w:World} {A:Around} {E:Value→Shared→Prop} {s:Shared} {u:Addr} {items:Array Value} {Q:Value→Shared→Prop} (ht:s.heap.IsTuple u items) (hfit:(items.size:Int)<2 ^ 63) (h:Q (.int items.size (s.toks+1)) { s with toks:=s.toks+1+1 }) :
  wpAny (model prog w) A (call (.builtin "len") [.ref u]) Q E s:=PyProof.Rows.len_tuple ht hfit h
theorem aDx (u:Addr) (items:Array Value) (hfit:(items.size:Int)<2 ^ 63) :
  Meets (Builtin.«reversed.__new__» ⟨[.type "reversed",.ref u],[]⟩) (fun _ R s=>s.heap.IsTuple u items ∧
   ∀tk,R (.ok (.ret (.ref s.heap.objs.size))) { s with heap:=s.heap.push (rvT u ((items.size:Int) - 1)),toks:=tk }):=
 .of_wp fun prog w A R s ⟨ht,h⟩=>by
  obtain ⟨hp,g,d,tk,os⟩:=s
  have f1:=RvF.aL8
  have f2:=RvF.aF4
  have f3:=F.slot_tuple_getitem.lookup
  have hT:(⟨hp,g,d,tk,os⟩:Shared).TypeIs (.ref u) "tuple":=PyProof.Rows.IsTup.typeIs ht
  unfold Builtin.«reversed.__new__»
  refine wpAny_bind (wpAny_of_eq (aJ3 _) ?_)
  wp_walk using bAv ht hfit
  exact ⟨_,rfl,h _⟩
section
variable {prog:Program} {w:World} {A:Around} {E:Value→Shared→Prop} {s:Shared}
theorem xW {u:Addr} {items:Array Value} {Q:Value→Shared→Prop} (ht:s.heap.IsTuple u items) (hfit:(items.size:Int)<2 ^ 63)
  (h:∀tk,Q (.ref s.heap.objs.size) { s with heap:=s.heap.push (rvT u ((items.size:Int) - 1)),toks:=tk }):wpAny (model prog w) A (call (.type "reversed") [.ref u]) Q E s:=by
 refine callType_new RvF.called (by decide) (RvF.aLx _) (RvF.aPx _) (fun obj=>F.args_object_init_2 obj _) RvF.aO4 (aDx u items hfit) ?_
 refine ⟨ht,fun tk=>?_⟩
 exact ⟨⟨_,Heap.get?_push_size _ rfl,rfl⟩,h tk⟩
theorem aCe {it u:Addr} {i:Int} {Q:Value→Shared→Prop} (hit:s.heap.get? it=some (rvT u i)) (h:Q (.ref it) s):wpAny (model prog w) A (pyIter (.ref it)) Q E s:=by
 have hT:s.TypeIs (.ref it) "reversed":=⟨_,hit,rfl⟩
 refine wpAny_pyIter_slot hT RvF.aEb (wpAny_call_entry RvF.aEb hT RvF.aMv ?_ (RvF.aJc _))
 show wpAny _ _ (ret (.ref it)) _ _ s
 exact wpAny_pure ⟨_,rfl,"reversed",_,hT,RvF.slot_next.lookup,h⟩
theorem bA4 {hp:Heap} {g:Array GenState} {d:Drawn} {tk:Nat} {os:_} {u:Addr} {items:Array Value} {k:Int} {t:Tok} {j:Nat} {x:Value} {Q:Value→Shared→Prop} (ht:hp.IsTuple u items)
  (hlo:-(2 ^ 63)≤k) (hhi:k<2 ^ 63) (hj:seqIndex? k items.size=some j) (hx:items[j]?=some x) (h:Q x ⟨hp,g,d,tk,os⟩):wpAny (model prog w) A (getItem (.ref u) (.int k t)) Q E ⟨hp,g,d,tk,os⟩:=PyProof.Rows.getItem_tuple (s:=⟨hp,g,d,tk,os⟩) ht hlo hhi hj hx h
theorem aAm {it u:Addr} {i:Nat} {items:Array Value} {y:Value} {Q:Option Value→Shared→Prop} (hit:s.heap.get? it=some (rvT u (i:Int))) (ht:s.heap.IsTuple u items) (hx:items[i]?=some y) (hfit:items.size≤sizeLine)
  (hQ:∀h' tk,h'.get? it=some (rvT u ((i:Int) - 1))→Heap.SameBut it s.heap h'→Q (some y) { s with heap:=h',toks:=tk }):wpAny (model prog w) A (pyNext (.ref it)) Q E s:=by
 have hT0:s.TypeIs (.ref it) "reversed":=⟨_,hit,rfl⟩
 obtain ⟨hp,g,d,tk,os⟩:=s
 have hi:i<items.size:=(Array.getElem?_eq_some_iff.mp hx).1
 have hz:sizeLine<2 ^ 62:=by decide
 have f3:=F.slot_tuple_getitem.lookup
 have hT:(⟨hp,g,d,tk,os⟩:Shared).TypeIs (.ref u) "tuple":=PyProof.Rows.IsTup.typeIs ht
 have ho:hp.get? it=some { cls:=.type "reversed",data:=.fields #[.ref u,rawInt (i:Int)] }:=hit
 unfold pyNext
 refine wpAny_bind (wpAny_attempt (wpAny_callSpecial?_slot (name:=Str.ofString "__next__") hT0 RvF.slot_next
  (wpAny_call_entry RvF.slot_next hT0 RvF.entry_next ?_ (RvF.aAb _))))
 unfold Builtin.«reversed.__next__»
 refine wpAny_bind (wpAny_of_eq (a:=(Value.ref it,[])) rfl ?_)
 try dsimp only
 refine wpAny_bind (wpAny_field ho rfl (x:=.ref u) rfl ?_)
 refine wpAny_bind (wpAny_field ho rfl (x:=rawInt (i:Int)) rfl ?_)
 show wpAny _ _ (if (i:Int)<0 then _ else _) _ _ _
 rw [if_neg (by lia)]
 have hj:seqIndex? (i:Int) items.size=some i:=by
  unfold seqIndex?
  have h1:¬ ((i:Int)<0):=by lia
  simp [h1,hi]
 wp_walk using bA4 ht (by lia) (by lia) hj hx
 refine ⟨_,rfl,wpAny_pure (hQ _ _ ?_ (Heap.SameBut.update ..))⟩
 exact Heap.get?_update_self _ ho rfl
theorem aCc {it u:Addr} {Q:Option Value→Shared→Prop} (hh:A.handled=none) (hit:s.heap.get? it=some (rvT u (-1)))
  (hQ:∀h',Heap.ExtBut it s.heap h'→Q none { s with heap:=h' }):wpAny (model prog w) A (pyNext (.ref it)) Q E s:=by
 have ho:s.heap.get? it=some { cls:=.type "reversed",data:=.fields #[.ref u,rawInt (-1)] }:=hit
 unfold pyNext
 refine wpAny_bind (wpAny_attempt (wpAny_callSpecial?_slot (name:=Str.ofString "__next__") (⟨_,hit,rfl⟩:s.TypeIs (.ref it) "reversed") RvF.slot_next
  (wpAny_call_entry RvF.slot_next (⟨_,hit,rfl⟩:s.TypeIs (.ref it) "reversed") RvF.entry_next ?_ (RvF.aAb _))))
 unfold Builtin.«reversed.__next__»
 refine wpAny_bind (wpAny_of_eq (a:=(Value.ref it,[])) rfl ?_)
 try dsimp only
 refine wpAny_bind (wpAny_field ho rfl (x:=.ref u) rfl ?_)
 refine wpAny_bind (wpAny_field ho rfl (x:=rawInt (-1)) rfl ?_)
 show wpAny _ _ (if (-1:Int)<0 then _ else _) _ _ _
 rw [if_pos (by decide)]
 refine wpAny_bind (wpAny_rule ?_)
 refine wpAny_bind ?_
 refine wpAny_bind (wpAny_setField ho rfl (by simp) ?_)
 have ho2:(s.heap.update it (Obj.mapFields (·.setIfInBounds 1 (rawInt (-1))))).get? it=some { cls:=.type "reversed",data:=.fields #[.ref u,rawInt (-1)] }:=Heap.get?_update_self _ ho rfl
 refine wpAny_setField (s:={ s with heap:=s.heap.update it (Obj.mapFields (·.setIfInBounds 1 (rawInt (-1)))) }) ho2 rfl (by simp) ?_
 first
 |show wpAny _ _ (newExc (.type "StopIteration") [] >>= _) _ _ _
 |(refine wpAny_bind ?_;show wpAny _ _ (newExc (.type "StopIteration") [] >>= _) _ _ _)
 refine wpAny_bind ?_
 simp only [newExc,newTuple]
 refine wpAny_bind (wpAny_newObj_type ?_ (by size_fits))
 refine wpAny_bind (m:=firstArgMember _ _) (wpAny_of_eq (a:=Value.none) (by first|rfl|(simp only [firstArgMember];rfl)) ?_)
 refine wpAny_newObj_type ?_ (by size_fits)
 simp only [raiseNew]
 refine wpAny_bind (wpAny_handled ?_)
 first|rw [show A.in1.handled=none from hh]|rw [hh]
 refine wpAny_bind (wpAny_pure (wpAny_throw ?_))
 refine wpAny_bind (wpAny_isInstance (T:="StopIteration") (b:=true) ⟨_,Heap.get?_push_size _ rfl,rfl⟩ isSubtype_stop ?_)
 exact wpAny_pure (hQ _ ((((Heap.SameBut.update ..).trans (Heap.SameBut.update ..)).extBut.push _).push _))
end
end PySem
namespace L2
open PySem PySem.Spec PyProof.Rows
def Itu (K:PySem.W.Frag) (a:Addr) (n:Nat):It:=
 ⟨fun i H=>∃xs x,SqT K H a xs∧xs.length=n∧i<n∧xs[n - 1 - i]?=some x,fun i H x H'=>H'=H∧∀xs,SqT K H a xs→xs[n - 1 - i]?=some x,fun i _=>i=n⟩
theorem aQs {P:Program} {w:World} {K:PySem.W.Frag} {tg:Expr} (a it:Addr) (n:Nat):Turn P w K tg (Itu K a n) [it] it (fun i h=>h.get? it=some (rvT a ((n:Int) - 1 - (i:Int)))) where
 mem:=by simp
 obj:=fun i h st b hb=>by
  have e:b=it:=by simpa using hb
  subst e
  exact ⟨_,st,fun v z=>by
   have z':Data.fields _=Data.cell v:=z
   cases z'⟩
 keep:=fun i h h' st k=>k it (by simp) _ st
 item:=by
  intro X hP hw hK hc i pins s σ H E I hf st hg
  subst hP hw hK
  obtain ⟨xs,x,hq,hl,hi,hx⟩:=hg
  obtain ⟨its,rv,p,hz⟩:=I.tuple hq
  obtain ⟨u,hu,ru⟩:=rv.get hx
  obtain ⟨f0,f1,f2,f3,f4,f5⟩:=hf it (by simp)
  have lr:=rv.length
  have e:(n:Int) - 1 - (i:Int)=((n - 1 - i:Nat):Int):=by lia
  rw [e] at st
  refine aAm st (show s.heap.IsTuple a its.toArray from p) (y:=u) (by simpa using hu) (by rw [List.size_toArray];lia) fun h' tk st' sb=>?_
  have e2:((n - 1 - i:Nat):Int) - 1=(n:Int) - 1 - ((i+1:Nat):Int):=by lia
  rw [e2] at st'
  have I1:Inv X pins σ H { s with heap:=h',toks:=tk }:=I.turned (fun b o hb e=>(sb.2 b hb).trans e) f0 f1 f3 f4 f5
  exact ⟨_,rfl,aD9 (s:={ s with heap:=h',toks:=tk }) (n:="reversed") st' rfl rfl (by decide) ⟨x,H,I1,ru,⟨rfl,fun ys hy=>by rw [I.yQ hy hq];exact hx⟩,st',fun b hb=>(hf b hb).1⟩⟩
 done:=by
  intro X hP hw hK hc i pins s σ H E I hf st hg
  subst hP hw hK
  obtain ⟨f0,f1,f2,f3,f4,f5⟩:=hf it (by simp)
  have hi:i=n:=hg
  rw [hi,show (n:Int) - 1 - (n:Int)=-1 by lia] at st
  exact aCc (I.ok.hd hc) st fun h' eb=>⟨rfl,I.turned (t':=s.toks) (fun b o hb e=>eb b o hb e) f0 f1 f3 f4 f5⟩
 self:=fun _ _ _ _ _ st h=>aCe st h
section
variable {X:Cx} {tg:Expr}
def aZf (K:PySem.W.Frag) (ta:TA):TI:=fun σ H R=>ta σ H fun vs H1=>∃a xs,vs=[.ref a]∧SqT K H1 a xs∧R (Itu K a xs.length) H1
theorem aUn {a:Expr} {ta:TA} {p pos:Pos} (hg:Gl X "reversed") (hm:X.mg "reversed"=none) (ha:VA X [a] ta) (hp:iC a=true:=by rfl):VI X tg (.Call (.Name "reversed" p) [a] [] pos) (aZf X.K ta):=⟨by
 intro pins s σ H R I h
 refine Call_ (qT I hg hm aJb (PyProof.Rows.callWith_type1 (thn (ha.1 pos pins s σ H _ I h) fun us s1 ⟨vs,H1,I1,r1,q1⟩=>?_) (bV (es:=[]) hp) rfl))
 obtain ⟨z,xs,e,hz,q⟩:=q1
 subst e
 cases r1 with
 |cons r rr=>
  cases rr
  cases r
  obtain ⟨its,rv,pt,hsz⟩:=I1.tuple hz
  have lr:=rv.length
  have h63:=uU
  refine xW (show s1.heap.IsTuple z its.toArray from pt) (by rw [List.size_toArray];lia) fun tk=>?_
  have I2:Inv X pins σ H1 { s1 with heap:=s1.heap.push (rvT z ((its.toArray.size:Int) - 1)),toks:=tk }:=I1.kept fun b o e=>Heap.get?_push_of_some _ e
  refine aCe (s:={ s1 with heap:=s1.heap.push (rvT z ((its.toArray.size:Int) - 1)),toks:=tk }) (Heap.get?_push_size _ rfl) ?_
  refine ⟨s1.heap.objs.size,[s1.heap.objs.size],_,_,H1,rfl,I2,aQs z _ xs.length,?_,fun b hb=>?_,q⟩
  ·show (s1.heap.push (rvT z ((its.toArray.size:Int) - 1))).get? s1.heap.objs.size=some (rvT z ((xs.length:Int) - 1 - ((0:Nat):Int)))
   rw [show (xs.length:Int) - 1 - ((0:Nat):Int)=(its.toArray.size:Int) - 1 by rw [List.size_toArray];lia]
   exact Heap.get?_push_size _ rfl
  ·have e:b=s1.heap.objs.size:=by simpa using hb
   subst e
   exact I1.aHw (Nat.le_refl _) (I1.hok.fresh (Nat.le_refl _))⟩
end
theorem aRz {K:PySem.W.Frag} {a:Addr} {xs:List V} {g:TG} {tb:TS} {D:Ends} {σ:L2.St} {H:Hp} (Pv:Nat→L2.St→Hp→Prop) (h0:Pv 0 σ H) (hl:∀i σ H,i≤xs.length→Pv i σ H→SqT K H a xs)
  (hs:∀i x σ H,i<xs.length→xs[xs.length - 1 - i]?=some x→Pv i σ H→g x σ H fun σ2 H2=>tb { D with nx:=Pv (i+1),ct:=Pv (i+1),bk:=D.nx } σ2 H2) (hd:∀σ H,Pv xs.length σ H→D.nx σ H) :
  ∃W:Nat→Nat→L2.St→Hp→Prop,(∃m,W 0 m σ H)∧∀i m σ H,W i m σ H →
   ((Itu K a xs.length).stop i H∧D.nx σ H)∨((Itu K a xs.length).go i H∧∃N:L2.St→Hp→Prop,(∀σ' H',N σ' H'→∃m',m'<m∧W (i+1) m' σ' H')∧∀x H',(Itu K a xs.length).yld i H x H'→g x σ H' fun σ2 H2=>tb { D with nx:=N,ct:=N,bk:=D.nx } σ2 H2):=by
 refine ⟨fun i m σ H=>m=xs.length - i∧i≤xs.length∧Pv i σ H,⟨xs.length,by simp,Nat.zero_le _,h0⟩,?_⟩
 rintro i m σ H ⟨rfl,hi,p⟩
 have q:=hl i σ H hi p
 by_cases hlt:i<xs.length
 ·right
  have hx:xs[xs.length - 1 - i]?=some (xs[xs.length - 1 - i]'(by lia)):=List.getElem?_eq_getElem (by lia)
  refine ⟨⟨xs,_,q,rfl,hlt,hx⟩,Pv (i+1),fun σ' H' h=>⟨xs.length - (i+1),by lia,rfl,by lia,h⟩,?_⟩
  rintro x H' ⟨rfl,hy⟩
  exact hs i x σ H' hlt (hy xs q) p
 ·left
  have e:i=xs.length:=by lia
  subst e
  exact ⟨rfl,hd σ H p⟩
end L2
namespace My
open PySem PySem.Spec PyProof.Rows L2
def top (i:Nat):Stmt:=PySem.Challenge.pw_shardask_k16_tests_sink.main.body.getD i (.Pass ⟨0,0,0,0⟩)
abbrev uY:Stmt:=top 13
abbrev zO:Stmt:=top 14
abbrev rU:Stmt:=top 15
abbrev lE:Stmt:=top 16
abbrev pY:Stmt:=top 17
abbrev vN:Stmt:=top 18
abbrev zF:Stmt:=top 19
abbrev vK:Stmt:=top 20
abbrev yS:Stmt:=top 21
abbrev vA:Stmt:=top 33
abbrev yN:Stmt:=top 34
abbrev zK:Stmt:=top 35
abbrev aBb:Stmt:=top 36
abbrev aA9:Stmt:=top 37
abbrev zP:Stmt:=top 38
abbrev rK:Stmt:=top 39
abbrev sV:Stmt:=top 40
abbrev jP:Stmt:=top 41
abbrev sH:Stmt:=top 42
abbrev uX:Stmt:=top 43
abbrev vH:Stmt:=top 44
abbrev jU:Stmt:=top 45
abbrev uT:Stmt:=top 47
abbrev nZ:Stmt:=top 48
abbrev kJ:Stmt:=top 49
abbrev vC:Stmt:=top 50
abbrev zJ:Stmt:=top 51
abbrev yW:Stmt:=top 52
abbrev jA:Stmt:=top 53
abbrev pH:Stmt:=top 54
abbrev qO:Stmt:=top 55
abbrev qH:Stmt:=top 56
abbrev jR:Stmt:=top 57
abbrev oJ:Stmt:=top 58
abbrev rC:Stmt:=top 59
abbrev iY:Stmt:=top 60
abbrev vW:Stmt:=top 61
abbrev mR:Stmt:=top 62
abbrev rB:Stmt:=top 63
abbrev tM:Stmt:=top 64
abbrev lD:Stmt:=top 65
abbrev yK:Stmt:=top 66
abbrev qP:Stmt:=top 68
abbrev zQ:Stmt:=top 69
abbrev oN:Stmt:=top 70
abbrev jT:Stmt:=top 71
abbrev vG:Stmt:=top 72
abbrev kW:Stmt:=top 73
abbrev aLw:Stmt:=top 74
abbrev aA4:Stmt:=top 75
abbrev aE5:Stmt:=top 76
abbrev sI:Stmt:=top 78
abbrev qI:Stmt:=top 79
abbrev rW:Stmt:=top 80
abbrev rA:Stmt:=top 81
abbrev mL:Stmt:=top 82
abbrev qX:Stmt:=top 83
abbrev qY:Stmt:=top 84
abbrev rY:Stmt:=top 85
abbrev mK:Stmt:=top 86
abbrev oR:Stmt:=top 87
abbrev rZ:Stmt:=top 88
abbrev mV:Stmt:=top 89
abbrev oY:Stmt:=top 90
abbrev lZ:Stmt:=top 91
abbrev nQ:Stmt:=top 92
abbrev qW:Stmt:=top 93
abbrev dC:Stmt:=top 94
abbrev qD:Stmt:=top 95
abbrev nU:Stmt:=top 96
abbrev mW:Stmt:=top 97
abbrev gK:Stmt:=top 98
abbrev aNr:Stmt:=top 99
structure Txt (w:World) (K:PySem.W.Frag) (mg:Str→Option Value):Prop where
 aY7:mg "abs"=none
 aCi:mg "all"=none
 aZe:mg "any"=none
 aYg:mg "bool"=none
 aGr:mg "dict"=none
 aS3:mg "divmod"=none
 aKa:mg "enumerate"=none
 aIy:mg "int"=none
 cZ:mg "isinstance"=none
 dB:mg "len"=none
 aBu:mg "list"=none
 lG:mg "range"=none
 aLm:mg "reversed"=none
 aY9:mg "set"=none
 aV8:mg "str"=none
 cP:mg "tuple"=none
 aNo:mg "zip"=none
 kE:∃a,mg "QUESTION_WORDS"=some (.ref a)∧∀H,SqT K H a [.str "and",.str "by",.str "count",.str "down",.str "first",.str "group",.str "join",.str "keep",.str "least",.str "most",.str "named",.str "on",.str "sum",.str "table",.str "up",.str "where",.str "with"]
 aP0:∃u,mg "LETTERS"=some u∧RelV (.str "abcdefghijklmnopqrstuvwxyz") u
 aBx:∃u,mg "MOST_LETTERS"=some u∧RelV (.int 8) u
 aBt:∃u,mg "MOST_COLUMNS"=some u∧RelV (.int 8) u
 aGj:∃a,mg "SIGNS"=some (.ref a)∧∀H,SqT K H a [.str "=",.str "<",.str ">",.str "!"]
 rM:∃a,mg "SUM_WORDS"=some (.ref a)∧∀H,SqT K H a [.str "count",.str "sum",.str "least",.str "most"]
 aL9:∃a,mg "WAYS"=some (.ref a)∧∀H,SqT K H a [.str "up",.str "down"]
 aE6:∃u,mg "MOST_TESTS"=some u∧RelV (.int 3) u
 xH:∃u,mg "MOST_NAMES"=some u∧RelV (.int 8) u
 aEx:∃u,mg "MOST_PAIRS"=some u∧RelV (.int 3) u
 aIx:∃u,mg "MOST_SUMS"=some u∧RelV (.int 4) u
 aJy:∃u,mg "MOST_KEYS"=some u∧RelV (.int 3) u
 aIz:∃u,mg "MOST_ROWS"=some u∧RelV (.int 60) u
 aIg:∃u,mg "MOST_SIZE"=some u∧RelV (.int 20) u
 aAx:∃d t0 t1 t2 t3 t4 t5 t6:Addr,mg "FORMS"=some (.ref d)∧aT1 w K d [("table",t0),("where",t1),("keep",t2),("named",t3),("join",t4),("group",t5),("first",t6)]∧(∃f0:Addr,(∀H,SqT K H t0 [.ref f0])∧mg "is_name"=some (.ref f0))∧(∃f0 f1:Addr,(∀H,SqT K H t1 [.ref f0,.ref f1])∧mg "may_be_question"=some (.ref f0)∧mg "are_tests"=some (.ref f1))∧(∃f0 f1:Addr,(∀H,SqT K H t2 [.ref f0,.ref f1])∧mg "may_be_question"=some (.ref f0)∧mg "are_names"=some (.ref f1))∧(∃f0 f1:Addr,(∀H,SqT K H t3 [.ref f0,.ref f1])∧mg "may_be_question"=some (.ref f0)∧mg "are_names"=some (.ref f1))∧(∃f0 f1 f2:Addr,(∀H,SqT K H t4 [.ref f0,.ref f1,.ref f2])∧mg "may_be_question"=some (.ref f0)∧mg "may_be_question"=some (.ref f1)∧mg "are_pairs"=some (.ref f2))∧(∃f0 f1 f2:Addr,(∀H,SqT K H t5 [.ref f0,.ref f1,.ref f2])∧mg "may_be_question"=some (.ref f0)∧mg "are_group_names"=some (.ref f1)∧mg "are_sums"=some (.ref f2))∧(∃f0 f1 f2:Addr,(∀H,SqT K H t6 [.ref f0,.ref f1,.ref f2])∧mg "may_be_question"=some (.ref f0)∧mg "are_keys"=some (.ref f1)∧mg "is_many"=some (.ref f2))
 mY:∃f o,(∃u,mg "is_name"=some u∧RelV (.ref f) u)∧K.lookup f=some o∧o.cls=.type "function"
 aD4:∃f o,(∃u,mg "is_test"=some u∧RelV (.ref f) u)∧K.lookup f=some o∧o.cls=.type "function"
 aEk:∃f o,(∃u,mg "is_pair"=some u∧RelV (.ref f) u)∧K.lookup f=some o∧o.cls=.type "function"
 aJl:∃f o,(∃u,mg "is_sum"=some u∧RelV (.ref f) u)∧K.lookup f=some o∧o.cls=.type "function"
 aH4:∃f o,(∃u,mg "is_key"=some u∧RelV (.ref f) u)∧K.lookup f=some o∧o.cls=.type "function"
 aLg:Dn K mg "is_whole" uY ["thing"]
 aPl:Dn K mg "is_word" zO ["thing"]
 aI7:Dn K mg "is_one_of" rU ["thing","texts"]
 aDc:Dn K mg "is_tuple_of" lE ["thing","least","most","is_part"]
 aEy:Dn K mg "are_unlike" pY ["names"]
 aK8:Dn K mg "names_of" vN ["head"]
 aOr:Dn K mg "is_name" zF ["thing"]
 aMq:Dn K mg "is_value" vK ["thing"]
 aOd:Dn K mg "kind_of" yS ["value"]
 aMg:Dn K mg "is_other" vA ["thing"]
 aPo:Dn K mg "is_test" yN ["thing"]
 aOk:Dn K mg "is_pair" zK ["thing"]
 aQx:Dn K mg "is_sum" aBb ["thing"]
 aRy:Dn K mg "is_key" aA9 ["thing"]
 aOg:Dn K mg "is_many" zP ["thing"]
 aJe:Dn K mg "are_tests" rK ["thing"]
 aKe:Dn K mg "are_names" sV ["thing"]
 xV:Dn K mg "are_group_names" jP ["thing"]
 aIw:Dn K mg "are_pairs" sH ["thing"]
 aK6:Dn K mg "are_sums" uX ["thing"]
 aLb:Dn K mg "are_keys" vH ["thing"]
 wL:Dn K mg "may_be_question" jU ["thing"]
 aL5:Dn K mg "has_form" uT ["thing"]
 aCm:Dn K mg "questions_in" nZ ["question"]
 yM:Dn K mg "with_questions" kJ ["question","inner"]
 aMe:Dn K mg "own_size" vC ["question"]
 aPz:Dn K mg "checked" zJ ["thing"]
 aOq:Dn K mg "kind_in" yW ["head","name"]
 wZ:Dn K mg "need_like_kinds" jA ["kinds","others"]
 aC7:Dn K mg "need_unlike" pH ["names"]
 aF5:Dn K mg "table_head" qO ["heads","name"]
 aFj:Dn K mg "other_kind" qH ["head","other"]
 aFg:Dn K mg "where_head" jR ["head","tests"]
 aHt:Dn K mg "keep_head" oJ ["head","names"]
 aGv:Dn K mg "named_head" rC ["head","names"]
 aH9:Dn K mg "join_head" iY ["head","other","pairs"]
 aK7:Dn K mg "sum_kind" vW ["head","part"]
 aG5:Dn K mg "group_head" mR ["head","names","sums"]
 aG3:Dn K mg "first_head" rB ["head","keys"]
 aHz:Dn K mg "head_here" tM ["heads","question","inner"]
 uJ:Dn K mg "head_within" lD ["heads","question"]
 aOf:Dn K mg "head_of" yK ["heads","question"]
 aFa:Dn K mg "columns_of" qP ["test"]
 aPe:Dn K mg "renamed" zQ ["test","names"]
 aHs:Dn K mg "are_among" oN ["columns","names"]
 aBf:Dn K mg "side_of_join" jT ["heads","question","columns"]
 aL4:Dn K mg "side_for" vG ["heads","question","columns"]
 zH:Dn K mg "by_inner_names" kW ["heads","question","test"]
 aR3:Dn K mg "sunk" aLw ["heads","question","test"]
 aNd:Dn K mg "moved" aA4 ["heads","question"]
 aT3:Dn K mg "early" aE5 ["heads","question"]
 aHv:Dn K mg "_law_seed" sI ["_law_script"]
 aGg:Dn K mg "_law_begin" qI ["_law_script"]
 aJ2:Dn K mg "_law_next" rW ["_law_state","_law_many"]
 aG4:Dn K mg "_law_words" rA []
 aGy:Dn K mg "_law_names" mL ["_law_state","_law_many"]
 aE9:Dn K mg "_law_great" qX ["_law_state"]
 aFn:Dn K mg "_law_value" qY ["_law_state","_law_kind"]
 aJo:Dn K mg "_law_head" rY ["_law_state","_law_names_here"]
 aHg:Dn K mg "_law_tests" mK ["_law_state","_law_head_here"]
 aJx:Dn K mg "_law_some" oR ["_law_state","_law_head_here","_law_least"]
 aJk:Dn K mg "_law_sums" rZ ["_law_state","_law_head_here","_law_fresh"]
 aGw:Dn K mg "_law_group" mV ["_law_state","_law_question","_law_head_here","_law_names_here"]
 aKg:Dn K mg "_law_keys" oY ["_law_state","_law_head_here"]
 aAn:Dn K mg "_law_at_table" lZ ["_law_test","_law_table"]
 aA7:Dn K mg "_law_columns" nQ ["_law_test"]
 aHf:Dn K mg "_law_elder" qW ["_law_test","_law_names_here","_law_others"]
 wD:Dn K mg "_law_joined_due" dC ["_law_question","_law_test","_law_heads"]
 aLe:Dn K mg "_law_due" qD ["_law_question","_law_test","_law_heads"]
 aMu:Dn K mg "_law_act" nU ["_law_state","_law_heads","_law_names_here"]
 aHe:Dn K mg "_law_pairs" mW ["_law_state","_law_head_here","_law_other"]
 aKl:Dn K mg "_law_pair" gK ["_law_state","_law_heads","_law_names_here"]
 aZh:Dn K mg "law" aNr ["_law_script"]
abbrev abc:Str:="abcdefghijklmnopqrstuvwxyz"
abbrev words:List V:=[.str "and",.str "by",.str "count",.str "down",.str "first",.str "group",.str "join",.str "keep",.str "least",.str "most",.str "named",.str "on",.str "sum",.str "table",.str "up",.str "where",.str "with"]
def Th (K:PySem.W.Frag) (H:Hp) (v:V):Prop:=(∃x,v=.str x∧x.length≤1000)∨(∃i,v=.int i)∨(∃b,v=.bl b)∨∃k,Rk K H v k
theorem Th.same {K:PySem.W.Frag} {H H':Hp} {v:V} (e:Same H H') (h:Th K H v):Th K H' v:=by
 rcases h with h|h|h|⟨k,h⟩
 ·exact .inl h
 ·exact .inr (.inl h)
 ·exact .inr (.inr (.inl h))
 ·exact .inr (.inr (.inr ⟨k,h.same e⟩))
def aTu:V→String→Bool
 |.int _,T=>T == "int"
 |.str _,T=>T == "str"
 |.bl _,T=>T == "int" || T == "bool"
 |_,_=>false
def isS:V→Bool
 |.str _=>true
 |_=>false
def whole:V→Bool
 |.int _=>true
 |_=>false
theorem wY {K:PySem.W.Frag} {H:Hp} {v:V} {T:String} {Q:VK} (hv:Th K H v) (hT:T = "int"∨T = "bool"∨T = "str") (q:Q (.bl (aTu v T)) H):aZn [v,.ty T] H Q∨aVw K [v,.ty T] H Q:=by
 rcases hv with ⟨x,rfl,_⟩|⟨i,rfl⟩|⟨b,rfl⟩|⟨k,h⟩
 ·refine .inl ⟨_,_,_,rfl,?_,q⟩
  rcases hT with rfl|rfl|rfl <;> simp [aKx,aTu]
 ·refine .inl ⟨_,_,_,rfl,?_,q⟩
  rcases hT with rfl|rfl|rfl <;> simp [aKx,aTu]
 ·refine .inl ⟨_,_,_,rfl,?_,q⟩
  rcases hT with rfl|rfl|rfl <;> simp [aKx,aTu]
 ·refine .inr ⟨_,_,_,rfl,h,hT,?_⟩
  cases h <;> exact q
def inA (y:Str):Bool:=!(Builtin.Str.occurrences abc y 0 abc.length 1).isEmpty
def allIn (x:Str):Bool:=((List.range x.cps.size).map fun i=>inA (sgn x i)).all id
def sO (l:Nat):V→Bool
 |.str x=>decide (l≤x.length) && (decide (x.length≤8) && allIn x)
 |_=>false
def nameB (v:V):Bool:=sO 1 v && !inV v words
def aJm (v:V):Bool:=whole v || sO 0 v
def xG (K:PySem.W.Frag):Sp:=fun vs H Q _=>∃v,vs=[v]∧Th K H v∧Q (.bl (whole v)) H
def aBw (K:PySem.W.Frag) (f:V→Bool):Sp:=fun vs H Q _=>∃v,vs=[v]∧Th K H v∧∀H',Same H H'→Q (.bl (f v)) H'
def aN0 (K:PySem.W.Frag):Sp:=fun vs H Q _=>∃v,vs=[v]∧Th K H v∧Q (.str (if whole v then "number" else "word")) H
def aFm (K:PySem.W.Frag):Sp:=fun vs H Q _=>∃(a:Addr) (ns:List Int),vs=[.ref a]∧SqL K H a (ns.map V.int)∧ns.length≤63∧∀H',Q (.bl true) H'
theorem aP1 {K:PySem.W.Frag} {H:Hp} {a:Addr} {ns:List Int} (h:ns.length≤63) (hS:SqL K H a (ns.map V.int)):aFm K [.ref a] H (fun v _=>v=.bl true) fun _ _ _=>False:=
 ⟨a,ns,rfl,hS,h,fun _=>rfl⟩
theorem aI0:aP ["thing"] ["thing"] (aG uY):=by trivial
theorem aMp:aP ["thing"] ["thing"] (aG zO):=by trivial
theorem aFz:aP ["thing","texts"] ["thing","texts"] (aG rU):=by trivial
theorem aBl:aP ["thing","least","most","is_part"] ["thing","least","most","is_part"] (aG lE):=by trivial
theorem aDf:aP ["names"] ["names"] (aG pY):=by trivial
theorem aJq:aP ["head"] ["head"] (aG vN):=by trivial
theorem aK9:aP ["thing"] ["thing"] (aG zF):=by trivial
theorem aJr:aP ["thing"] ["thing"] (aG vK):=by trivial
theorem aLz:aP ["value"] ["value"] (aG yS):=by trivial
theorem aIv:aP ["thing"] ["thing"] (aG vA):=by trivial
theorem aL2:aP ["thing"] ["thing"] (aG yN):=by trivial
theorem aKz:aP ["thing"] ["thing"] (aG zK):=by trivial
theorem aOs:aP ["thing"] ["thing"] (aG aBb):=by trivial
theorem aPp:aP ["thing"] ["thing"] (aG aA9):=by trivial
theorem aLj:aP ["thing"] ["thing"] (aG zP):=by trivial
theorem aFv:aP ["thing"] ["thing"] (aG rK):=by trivial
theorem aFc:aP ["thing"] ["thing"] (aG sV):=by trivial
theorem vR:aP ["thing"] ["thing"] (aG jP):=by trivial
theorem aHb:aP ["thing"] ["thing"] (aG sH):=by trivial
theorem aH2:aP ["thing"] ["thing"] (aG uX):=by trivial
theorem aJj:aP ["thing"] ["thing"] (aG vH):=by trivial
theorem vU:aP ["thing"] ["thing"] (aG jU):=by trivial
theorem aAc:aP ["thing","form"] ["thing"] (aG uT):=by trivial
theorem aAr:aP ["question"] ["question"] (aG nZ):=by trivial
theorem wW:aP ["question","inner"] ["question","inner"] (aG kJ):=by trivial
theorem aJh:aP ["question"] ["question"] (aG vC):=by trivial
theorem oA:aP ["thing","size","waiting","part"] ["thing"] (aG zJ):=by trivial
theorem aB1:aP ["head","name","column"] ["head","name"] (aG yW):=by trivial
theorem vO:aP ["kinds","others"] ["kinds","others"] (aG jA):=by trivial
theorem aBn:aP ["names"] ["names"] (aG pH):=by trivial
theorem aCs:aP ["heads","name"] ["heads","name"] (aG qO):=by trivial
theorem aCv:aP ["head","other"] ["head","other"] (aG qH):=by trivial
theorem aCr:aP ["head","tests"] ["head","tests"] (aG jR):=by trivial
theorem aGc:aP ["head","names"] ["head","names"] (aG oJ):=by trivial
theorem aCq:aP ["head","names"] ["head","names"] (aG rC):=by trivial
theorem qR:aP ["head","other","pairs","here","there"] ["head","other","pairs"] (aG iY):=by trivial
theorem aH0:aP ["head","part"] ["head","part"] (aG vW):=by trivial
theorem iK:aP ["head","names","sums","kept","made","part","column"] ["head","names","sums"] (aG mR):=by trivial
theorem uM:aP ["head","keys","names"] ["head","keys"] (aG rB):=by trivial
theorem wR:aP ["heads","question","inner","sort"] ["heads","question","inner"] (aG tM):=by trivial
theorem jO:aP ["heads","question","inner","head"] ["heads","question"] (aG lD):=by trivial
theorem aLt:aP ["heads","question"] ["heads","question"] (aG yK):=by trivial
theorem aDt:aP ["test"] ["test"] (aG qP):=by trivial
theorem aCh:aP ["test","names","other"] ["test","names"] (aG zQ):=by trivial
theorem aE0:aP ["columns","names"] ["columns","names"] (aG oN):=by trivial
theorem mC:aP ["heads","question","columns","paired","seen"] ["heads","question","columns"] (aG jT):=by trivial
theorem zY:aP ["heads","question","columns","sort"] ["heads","question","columns"] (aG vG):=by trivial
theorem oU:aP ["heads","question","test","old_names"] ["heads","question","test"] (aG kW):=by trivial
theorem aA3:aP ["heads","question","test","side","inner"] ["heads","question","test"] (aG aLw):=by trivial
theorem pU:aP ["heads","question","inner","become","test"] ["heads","question"] (aG aA4):=by trivial
theorem aSx:aP ["heads","question"] ["heads","question"] (aG aE5):=by trivial
theorem jN:aP ["_law_script","_law_seed_here","_law_k","_law_cell"] ["_law_script"] (aG sI):=by trivial
theorem pK:aP ["_law_script","_law_digits"] ["_law_script"] (aG qI):=by trivial
theorem wQ:aP ["_law_state","_law_many","_law_digit"] ["_law_state","_law_many"] (aG rW):=by trivial
theorem uK:aP ["_law_words_here"] [] (aG rA):=by trivial
theorem cQ:aP ["_law_state","_law_many","_law_small","_law_odd","_law_base","_law_k","_law_at","_law_names_here"] ["_law_state","_law_many"] (aG mL):=by trivial
theorem lB:aP ["_law_state","_law_number","_law_k"] ["_law_state"] (aG qX):=by trivial
theorem iH:aP ["_law_state","_law_kind","_law_way","_law_word","_law_k"] ["_law_state","_law_kind"] (aG qY):=by trivial
theorem jC:aP ["_law_state","_law_names_here","_law_start","_law_head_here","_law_k","_law_kind"] ["_law_state","_law_names_here"] (aG rY):=by trivial
theorem dO:aP ["_law_state","_law_head_here","_law_tests_here","_law_k","_law_name","_law_kind","_law_other","_law_alike"] ["_law_state","_law_head_here"] (aG mK):=by trivial
theorem qU:aP ["_law_state","_law_head_here","_law_least","_law_some_here"] ["_law_state","_law_head_here","_law_least"] (aG oR):=by trivial
theorem eV:aP ["_law_state","_law_head_here","_law_fresh","_law_sums_here","_law_k","_law_name","_law_kind","_law_many","_law_word"] ["_law_state","_law_head_here","_law_fresh"] (aG rZ):=by trivial
theorem cT:aP ["_law_state","_law_question","_law_head_here","_law_names_here","_law_those","_law_some_here","_law_fresh","_law_sums_here","_law_word","_law_name","_law_new","_law_kind"] ["_law_state","_law_question","_law_head_here","_law_names_here"] (aG mV):=by trivial
theorem wU:aP ["_law_state","_law_head_here","_law_some_here"] ["_law_state","_law_head_here"] (aG oY):=by trivial
theorem yJ:aP ["_law_test","_law_table"] ["_law_test","_law_table"] (aG lZ):=by trivial
theorem aAe:aP ["_law_test"] ["_law_test"] (aG nQ):=by trivial
theorem iI:aP ["_law_test","_law_names_here","_law_others","_law_name","_law_sign","_law_other"] ["_law_test","_law_names_here","_law_others"] (aG qW):=by trivial
theorem bY:aP ["_law_question","_law_test","_law_heads","_law_word","_law_one","_law_other","_law_pairs_here","_law_mine","_law_gone","_law_theirs","_law_elder_here"] ["_law_question","_law_test","_law_heads"] (aG dC):=by trivial
theorem gO:aP ["_law_question","_law_test","_law_heads","_law_word","_law_table","_law_due_here","_law_one","_law_elder_here"] ["_law_question","_law_test","_law_heads"] (aG qD):=by trivial
theorem gJ:aP ["_law_state","_law_heads","_law_names_here","_law_way","_law_head_here","_law_table","_law_some_here","_law_turn","_law_fresh"] ["_law_state","_law_heads","_law_names_here"] (aG nU):=by trivial
theorem dN:aP ["_law_state","_law_head_here","_law_other","_law_turn","_law_left","_law_pairs_here","_law_c","_law_kind","_law_some_here","_law_column"] ["_law_state","_law_head_here","_law_other"] (aG mW):=by trivial
theorem cU:aP ["_law_state","_law_heads","_law_names_here","_law_head_here","_law_other","_law_fresh","_law_called","_law_pairs_here","_law_left","_law_own","_law_question"] ["_law_state","_law_heads","_law_names_here"] (aG gK):=by trivial
theorem jV:aP ["_law_script","_law_state","_law_names_here","_law_heads","_law_made","_law_question","_law_head_here","_law_test","_law_due_here","_law_asked"] ["_law_script"] (aG aNr):=by trivial
section
variable {P:Program} {w:World} {K:PySem.W.Frag} {mg:Str→Option Value} {base:Heap}
theorem aJd (T:Txt w K mg):Ok P w K mg base 1 "is_whole" ["thing"] (xG K):=by
 refine Ok.ofV T.aLg aI0 (fun vs H Q E h=>?_) (fun f cdv A outer s H vs Q E hr h=>?_)
 ·obtain ⟨v,rfl,_⟩:=h;rfl
 obtain ⟨v,rfl,hv,q⟩:=h
 refine ⟨_,(aF (aM (pF (aW (wN.or tV) (by rfl) T.cZ cR (aB (vv 0) (aB (lH (v:=.ty "int") (by rfl) T.aIy aBd rfl) aA))) (qL (aYx (aW (wN.or tV) (by rfl) T.cZ cR (aB (vv 0) (aB (lH (v:=.ty "bool") (by rfl) T.aYg aUd rfl) aA)))))))),?_⟩
 refine ⟨_,rfl,wY hv (.inl rfl) ⟨_,rfl,?_⟩⟩
 rcases id hv with ⟨x,rfl,_⟩|⟨i,rfl⟩|⟨b,rfl⟩|⟨k,h⟩
 ·exact bC q
 ·exact cC ⟨_,rfl,wY hv (.inr (.inl rfl)) ⟨_,rfl,q⟩⟩
 ·exact cC ⟨_,rfl,wY hv (.inr (.inl rfl)) ⟨_,rfl,q⟩⟩
 ·cases h <;> exact bC q
theorem aRe (x:Str):(((List.range x.cps.size).map fun i=>V.str (sgn x i)).map fun v=>match v with|.str y=>V.bl (inA y)|_=>.bl false)=(((List.range x.cps.size).map fun i=>inA (sgn x i)).map V.bl):=by
 rw [List.map_map,List.map_map]
 rfl
theorem aL6 (T:Txt w K mg):Ok P w K mg base 1 "is_word" ["thing"] (aBw K (sO 0)):=by
 refine Ok.ofV T.aPl aMp (fun vs H Q E h=>?_) (fun f cdv A outer s H vs Q E hr h=>?_)
 ·obtain ⟨v,rfl,_⟩:=h;rfl
 obtain ⟨v,rfl,hv,q⟩:=h
 refine ⟨_,(aC (bR (VW.pt (sJ (jB (fC (aW (wN.or tV) (by rfl) T.cZ cR (aB (vv 0) (aB (lH (v:=.ty "str") (by rfl) T.aV8 aR9 rfl) aA))))) (pI (aU aJ1 (aW xK (by rfl) T.dB cH (aB (vv 0) aA)) (fY (by rfl) T.aBx) (aZ _))))) (aF (aM uL)) bA) (aF (aM (aW (nM rfl) (by rfl) T.aCi vI (aB (bZ (N:=["sign"]) (by trivial) (dZ (by decide +kernel)) rfl (aW8 (vv 0)) (fun cl s' H' fp=>⟨(aL (i:=0) (show (["sign"]:List Str).Nodup from by decide +kernel) rfl (Or.inl rfl)),cI,(eZ aO1 (vv 0) (fY (by rfl) T.aP0) (by with_unfolding_all rfl))⟩)) aA))))),?_⟩
 refine ⟨_,rfl,wY hv (.inr (.inr rfl)) ⟨_,rfl,?_⟩⟩
 have no:isS v=false→Q (.bl false) H:=fun e=>by
  have z:sO 0 v=false:=by cases v <;> first|rfl|cases e
  rw [←z];exact q H (Same.refl H)
 rcases id hv with ⟨x,rfl,hx⟩|⟨i,rfl⟩|⟨b,rfl⟩|⟨k,h⟩
 ·refine bC ⟨_,rfl,_,rfl,small hx,_,_,rfl,rfl,_,rfl,?_⟩
  refine lU (fun c=>?_) (fun c=>?_)
  ·have c':(8:Int)<x.length:=of_decide_eq_true c
   have z:sO 0 (.str x)=false:=by
    show (decide (0≤x.length) && (decide (x.length≤8) && allIn x))=false
    rw [decide_eq_false (p:=x.length≤8) (by lia)]
    simp
   rw [←z];exact q H (Same.refl H)
  ·have c':¬ (8:Int)<x.length:=of_decide_eq_false (Bool.eq_false_iff.mpr c)
   dsimp only [oK,aDl,tCB,fK]
   refine aOo ((List.range x.cps.size).map fun i=>V.str (sgn x i)) (fun v=>match v with|.str y=>V.bl (inA y)|_=>.bl false) [none] mX ?_
    (fun R r=>aYr (z:=x) (fun R' r'=>⟨_,rfl,r'⟩) R r) (fun v hv' H' R l sm r=>?_) rfl fun D hD=>?_
   ·rw [List.length_map,List.length_range];exact small hx
   ·obtain ⟨i,_,rfl⟩:=List.mem_map.mp hv'
    exact ⟨_,rfl,_,_,rfl,rfl,r⟩
   ·refine ⟨D,(List.range x.cps.size).map fun i=>inA (sgn x i),rfl,SqL.of (by rw [aQ,aRe]),?_⟩
    have z:sO 0 (.str x)=allIn x:=by
     show (decide (0≤x.length) && (decide (x.length≤8) && allIn x))=allIn x
     rw [decide_eq_true (p:=x.length≤8) (by lia)]
     simp
    show Q (.bl (allIn x)) _
    rw [←z]
    exact q _ (bM hD _)
 ·exact cC (no rfl)
 ·exact cC (no rfl)
 ·cases h <;> exact cC (no rfl)
theorem aAy {v:V} {l:Nat} (h:sO l v=true):∃x,v=.str x∧l≤x.length∧x.length≤8∧allIn x=true:=by
 cases v with
 |str x=>
  have h:(decide (l≤x.length) && (decide (x.length≤8) && allIn x))=true:=h
  rw [Bool.and_eq_true,Bool.and_eq_true] at h
  exact ⟨x,rfl,of_decide_eq_true h.1,of_decide_eq_true h.2.1,h.2.2⟩
 |_=>cases h
theorem aD7 {x:Str}:x=("":Str)↔x.length=0:=by
 constructor
 ·rintro rfl;decide +kernel
 ·intro h
  obtain ⟨cps⟩:=x
  have h:cps.size=0:=h
  rw [Array.size_eq_zero_iff] at h
  subst h
  decide +kernel
theorem aB3:words.all jY=true:=rfl
theorem aMy (T:Txt w K mg) (yO:Ok P w K mg base 1 "is_word" ["thing"] (aBw K (sO 0))):Ok P w K mg base 2 "is_name" ["thing"] (aBw K nameB):=by
 refine Ok.ofV T.aOr aK9 (fun vs H Q E h=>?_) (fun f cdv A outer s H vs Q E hr h=>?_)
 ·obtain ⟨v,rfl,_⟩:=h;rfl
 obtain ⟨v,rfl,hv,q⟩:=h
 obtain ⟨qa,mq,hqa⟩:=T.kE
 have kE:∃u,mg "QUESTION_WORDS"=some u∧RelV (.ref qa) u:=⟨_,mq,rfl⟩
 refine ⟨_,(aF (aM (pF (aJ (yO.mono (by decide)) hr (by rfl) (aB (vv 0) aA)) (pF (eZ wB (vv 0) aO (aZ _)) (qL (eZ wJ (vv 0) (fY (by rfl) kE) (by with_unfolding_all rfl))))))),?_⟩
 refine ⟨_,rfl,_,rfl,hv,fun H1 s1=>⟨_,rfl,?_⟩⟩
 refine lU (fun c=>?_) (fun c=>?_)
 ·obtain ⟨x,rfl,_,h8,ha⟩:=aAy c
  refine ⟨_,rfl,rfl,_,rfl,?_⟩
  by_cases e:x.length=0
  ·have ex:=aD7.mpr e
   subst ex
   refine bC ?_
   have z:nameB (.str "")=false:=by decide +kernel
   rw [←z];exact q H1 s1
  ·have ne:¬ (V.str x=V.str ""):=fun z=>e (aD7.mp (V.str.inj z))
   have e2:(!decide (V.str x=V.str ""))=true:=by rw [decide_eq_false ne];rfl
   rw [e2]
   refine cC ⟨_,rfl,qa,words,rfl,.inr (hqa _),rfl,aB3,?_⟩
   have z:nameB (.str x)=!inV (.str x) words:=by
    show ((decide (1≤x.length) && (decide (x.length≤8) && allIn x)) && !inV (.str x) words)=!inV (.str x) words
    rw [decide_eq_true (p:=1≤x.length) (by lia),decide_eq_true h8,ha]
    rfl
   show Q (.bl (!inV (.str x) words)) H1
   rw [←z];exact q H1 s1
 ·have z:nameB v=false:=by
   show (sO 1 v && !inV v words)=false
   cases hv1:sO 1 v with
   |false=>rfl
   |true=>
    obtain ⟨x,rfl,h1,h8,ha⟩:=aAy hv1
    refine absurd ?_ c
    show (decide (0≤x.length) && (decide (x.length≤8) && allIn x))=true
    rw [decide_eq_true h8,ha,decide_eq_true (Nat.zero_le _)]
    rfl
  rw [←z];exact q H1 s1
theorem aIi (T:Txt w K mg) (nO:Ok P w K mg base 1 "is_whole" ["thing"] (xG K)) (yO:Ok P w K mg base 1 "is_word" ["thing"] (aBw K (sO 0))) :
  Ok P w K mg base 2 "is_value" ["thing"] (aBw K aJm):=by
 refine Ok.ofV T.aMq aJr (fun vs H Q E h=>?_) (fun f cdv A outer s H vs Q E hr h=>?_)
 ·obtain ⟨v,rfl,_⟩:=h;rfl
 obtain ⟨v,rfl,hv,q⟩:=h
 refine ⟨_,(aF (aM (aZa (aJ (nO.mono (by decide)) hr (by rfl) (aB (vv 0) aA)) (qL (aJ (yO.mono (by decide)) hr (by rfl) (aB (vv 0) aA)))))),?_⟩
 refine ⟨_,rfl,_,rfl,hv,_,rfl,?_⟩
 cases hw:whole v with
 |true=>
  refine cC ?_
  have z:aJm v=true:=by show (whole v || sO 0 v)=true;rw [hw];rfl
  rw [←z];exact q H (Same.refl H)
 |false=>
  refine bC ⟨_,rfl,_,rfl,hv,fun H1 s1=>?_⟩
  have z:aJm v=sO 0 v:=by show (whole v || sO 0 v)=sO 0 v;rw [hw];rfl
  rw [←z];exact q H1 s1
theorem aMr (T:Txt w K mg) (nO:Ok P w K mg base 1 "is_whole" ["thing"] (xG K)):Ok P w K mg base 2 "kind_of" ["value"] (aN0 K):=by
 refine Ok.ofV T.aOd aLz (fun vs H Q E h=>?_) (fun f cdv A outer s H vs Q E hr h=>?_)
 ·obtain ⟨v,rfl,_⟩:=h;rfl
 obtain ⟨v,rfl,hv,q⟩:=h
 refine ⟨_,(aF (aM (gH (fC (aJ (nO.mono (by decide)) hr (by rfl) (aB (vv 0) aA))) aO aO))),?_⟩
 refine ⟨_,rfl,_,rfl,hv,_,rfl,?_⟩
 cases hw:whole v with
 |true=>rw [hw] at q;exact cC q
 |false=>rw [hw] at q;exact bC q
theorem at0 (x:V) (r:List V):atI (x::r) 0=some x:=by
 unfold atI ixN
 simp
theorem at1 (x y:V) (r:List V):atI (x::y::r) 1=some y:=by
 unfold atI ixN
 simp only [List.length_cons]
 rw [if_pos (by lia),if_pos (by lia)]
 rfl
structure Tells (R:Hp→V→Bool→Prop):Prop where
 same:∀{H H' v b},Same H H'→R H v b→R H' v b
def iW (R:Hp→V→Bool→Prop):Sp:=fun vs H Q _=>∃v b,vs=[v]∧R H v b∧∀H',Same H H'→Q (.bl b) H'
inductive aEt (K:PySem.W.Frag) (R:Hp→V→Bool→Prop) (lo hi:Nat) (H:Hp):V→Bool→Prop
 |no {v}:Tk K H v false→aEt K R lo hi H v false
 |len {a xs}:SqT K H a xs→¬ (lo≤xs.length∧xs.length≤hi)→aEt K R lo hi H (.ref a) false
 |yes {a xs} (f:V→Bool):SqT K H a xs→lo≤xs.length→xs.length≤hi→(∀x∈xs,R H x (f x))→aEt K R lo hi H (.ref a) (xs.all f)
def zM (K:PySem.W.Frag):Sp:=fun vs H Q _=>∃v a xs,vs=[v,.ref a]∧Th K H v∧SqT K H a xs∧xs.all jY=true∧Q (.bl (isS v && inV v xs)) H
def lW (P:Program) (w:World) (K:PySem.W.Frag) (mg:Str→Option Value) (base:Heap) (k:Nat):Sp:=fun vs H Q _=>∃v lo hi f ps R b,vs=[v,.int (lo:Nat),.int (hi:Nat),.ref f]∧hi≤1000∧Held P w K mg base k f ps (iW R)∧Tells R∧aEt K R lo hi H v b∧∀H',Same H H'→Q (.bl b) H'
def aEp (K:PySem.W.Frag):Sp:=fun vs H Q _=>∃a ss,vs=[.ref a]∧SqL K H a (ss.map V.str)∧ss.length≤1000∧∀H',Same H H'→Q (.bl (decide ((pM ss).length=ss.length))) H'
theorem aFk (T:Txt w K mg):Ok P w K mg base 1 "is_one_of" ["thing","texts"] (zM K):=by
 refine Ok.ofV T.aI7 aFz (fun vs H Q E h=>?_) (fun f cdv A outer s H vs Q E hr h=>?_)
 ·obtain ⟨v,a,xs,rfl,_⟩:=h;rfl
 obtain ⟨v,a,xs,rfl,hv,ha,hf,q⟩:=h
 refine ⟨_,(aF (aM (pF (aW (wN.or tV) (by rfl) T.cZ cR (aB (vv 0) (aB (lH (v:=.ty "str") (by rfl) T.aV8 aR9 rfl) aA))) (qL (eZ uC (vv 0) (vv 1) (by with_unfolding_all rfl)))))),?_⟩
 refine ⟨_,rfl,wY hv (.inr (.inr rfl)) ⟨_,rfl,?_⟩⟩
 rcases id hv with ⟨x,rfl,_⟩|⟨i,rfl⟩|⟨b,rfl⟩|⟨k,h⟩
 ·exact cC ⟨_,rfl,_,rfl,a,xs,rfl,.inr ha,rfl,hf,q⟩
 ·exact bC q
 ·exact bC q
 ·cases h <;> exact bC q
theorem dY {k:Nat} (T:Txt w K mg):Ok P w K mg base (k+1) "is_tuple_of" ["thing","least","most","is_part"] (lW P w K mg base k):=by
 refine Ok.ofV T.aDc aBl (fun vs H Q E h=>?_) (fun f cdv A outer s H vs Q E hr h=>?_)
 ·obtain ⟨v,lo,hi,f,ps,R,b,rfl,_⟩:=h;rfl
 obtain ⟨v,lo,hi,g,ps,R,b,rfl,h1000,hg,hR,hv,q⟩:=h
 refine ⟨_,(aC (bR (VW.pt (sJ (jB (fC (aW nC (by rfl) T.cZ cR (aB (vv 0) (aB (lH (v:=.ty "tuple") (by rfl) T.cP cA rfl) aA))))) (pI (jB (aIe aEc aEc (vv 1) (aW aX (by rfl) T.dB cH (aB (vv 0) aA)) (vv 2)))))) (aF (aM uL)) bA) (aF (aM (aW (nM rfl) (by rfl) T.aCi vI (aB (bZ (N:=["part","is_part"]) (by trivial) (cV (aG lE) rfl (by decide +kernel)) rfl (eO (vv 0)) (fun cl s' H' fp=>⟨(aL (i:=0) (show (["part","is_part"]:List Str).Nodup from by decide +kernel) rfl (Or.inl rfl)),cI,(aIr (P:=P) (w:=w) (K:=K) (mg:=mg) (base:=base) hr (vv 1) (aB (vv 0) aA))⟩)) aA))))),?_⟩
 cases hv with
 |no h=>
  exact ⟨_,rfl,_,_,rfl,h,_,rfl,cC (q H (Same.refl H))⟩
 |@len a xs ha hn=>
  refine ⟨_,rfl,_,_,rfl,.tup ha,_,rfl,bC ?_⟩
  refine ⟨_,rfl,_,rfl,_,_,rfl,.inr ha,_,_,rfl,rfl,_,rfl,?_⟩
  refine lU (fun c=>⟨_,rfl,_,_,rfl,rfl,_,rfl,?_⟩) (fun c=>⟨_,rfl,cC (q H (Same.refl H))⟩)
  have c':(lo:Int)≤xs.length:=of_decide_eq_true c
  have e:decide ((xs.length:Int)≤(hi:Int))=false:=decide_eq_false fun z=>hn ⟨by lia,by lia⟩
  rw [e]
  exact cC (q H (Same.refl H))
 |@yes a xs t ha h1 h2 hx=>
  refine ⟨_,rfl,_,_,rfl,.tup ha,_,rfl,bC ?_⟩
  refine ⟨_,rfl,_,rfl,_,_,rfl,.inr ha,_,_,rfl,rfl,_,rfl,?_⟩
  have e1:decide ((lo:Int)≤(xs.length:Int))=true:=decide_eq_true (by lia)
  have e2:decide ((xs.length:Int)≤(hi:Int))=true:=decide_eq_true (by lia)
  rw [e1]
  refine cC ⟨_,rfl,_,_,rfl,rfl,_,rfl,?_⟩
  rw [e2]
  refine bC ?_
  dsimp only [oK,aDl,tCB,fK]
  refine aOw xs (fun x=>.bl (t x)) [none,some (.ref g)] ?_ (small (by lia)) (fun R r=>mD ha (fun R' r'=>⟨_,rfl,r'⟩) R r) (fun x hx' H' R l sm r=>?_) rfl fun D H' sm hD=>?_
  ·exact cX 3 (by decide +kernel) rfl rfl (by trivial)
  ·exact ⟨_,rfl,g,ps,_,rfl,hg,_,rfl,x,t x,rfl,hR.same sm (hx x hx'),r⟩
  ·refine ⟨D,xs.map t,rfl,SqL.of (by rw [hD,List.map_map];rfl),?_⟩
   rw [List.all_map]
   exact q H' sm
theorem aDj (T:Txt w K mg):Ok P w K mg base 1 "are_unlike" ["names"] (aEp K):=by
 refine Ok.ofV T.aEy aDf (fun vs H Q E h=>?_) (fun f cdv A outer s H vs Q E hr h=>?_)
 ·obtain ⟨a,ss,rfl,_⟩:=h;rfl
 obtain ⟨a,ss,rfl,ha,hl,q⟩:=h
 refine ⟨_,(aF (aM (eZ cG (aW aLn (by rfl) T.dB cH (aB (bF (aMo rfl) (by rfl) T.aY9 aYy (aB (vv 0) aA)) aA)) (aW aX (by rfl) T.dB cH (aB (vv 0) aA)) (aZ _)))),?_⟩
 refine ⟨_,rfl,a,ss,rfl,ha,hl,fun D hD=>⟨D,ss,rfl,aQ,_,rfl,a,_,rfl,.inl ((bM hD _).seq ha),rfl,?_⟩⟩
 have e:decide (V.int ((pM ss).length:Nat)=V.int (ss.map V.str).length)=decide ((pM ss).length=ss.length):=by
  rw [List.length_map]
  by_cases z:(pM ss).length=ss.length
  ·rw [z];simp
  ·rw [decide_eq_false z,decide_eq_false (by intro y;apply z;have:=V.int.inj y;lia)]
 rw [e]
 exact q _ (bM hD _)
theorem at2 (x y z:V) (r:List V):atI (x::y::z::r) 2=some z:=by
 unfold atI ixN
 simp only [List.length_cons]
 rw [if_pos (by lia),if_pos (by lia)]
 rfl
theorem pJ {K:PySem.W.Frag} {H:Hp} {x:Str} (h:x.length≤8):Th K H (.str x):=.inl ⟨x,rfl,by lia⟩
def Nm (x:Str):Prop:=nameB (.str x)=true
theorem aSd {x:Str} (h:nameB (.str x)=true):x.length≤8:=by
 have h:(sO 1 (.str x) && !inV (.str x) words)=true:=h
 rw [Bool.and_eq_true] at h
 obtain ⟨y,e,_,h8,_⟩:=aAy h.1
 cases e
 exact h8
theorem Nm.th {K:PySem.W.Frag} {H:Hp} {x:Str} (h:Nm x):Th K H (.str x):=pJ (aSd h)
abbrev signs:List V:=[.str "=",.str "<",.str ">",.str "!"]
abbrev aCd:List V:=[.str "count",.str "sum",.str "least",.str "most"]
abbrev aIc:List V:=[.str "up",.str "down"]
inductive Oth where
 |val (x:V)
 |col (d:Str)
structure Tst where
 c:Str
 sg:Str
 o:Oth
structure Sm where
 wd:Str
 c:Option Str
 new:Str
def IsO (K:PySem.W.Frag) (H:Hp) (v:V):Oth→Prop
 |.val x=>∃a,v=.ref a∧SqT K H a [.str "value",x]∧Th K H x∧aJm x=true
 |.col d=>∃a,v=.ref a∧SqT K H a [.str "column",.str d]∧Nm d
def bAg (x:Str):Prop:=x = "="∨x = "<"∨x = ">"∨x = "!"
def IsT (K:PySem.W.Frag) (H:Hp) (v:V) (t:Tst):Prop:=∃a w,v=.ref a∧SqT K H a [.str t.c,.str t.sg,w]∧Nm t.c∧bAg t.sg∧IsO K H w t.o
def jW (K:PySem.W.Frag) (H:Hp) (v:V) (p:Str × Str):Prop:=∃a,v=.ref a∧SqT K H a [.str p.1,.str p.2]∧Nm p.1∧Nm p.2
def nW (K:PySem.W.Frag) (H:Hp) (v:V) (p:Str × Str):Prop:=∃a,v=.ref a∧SqT K H a [.str p.1,.str p.2]∧Nm p.1∧(p.2 = "up"∨p.2 = "down")
def aXx (x:Str):Prop:=x = "sum"∨x = "least"∨x = "most"
def lV (K:PySem.W.Frag) (H:Hp) (v:V) (s:Sm):Prop:=∃a,v=.ref a∧Nm s.new∧((s.wd = "count"∧s.c=none∧SqT K H a [.str "count",.non,.str s.new])∨(∃c,s.c=some c∧Nm c∧aXx s.wd∧SqT K H a [.str s.wd,.str c,.str s.new]))
def IsN (v:V) (x:Str):Prop:=v=.str x∧Nm x
inductive bL {α β:Type} (R:α→β→Prop):List α→List β→Prop
 |nil:bL R [] []
 |cons {a b as bs}:R a b→bL R as bs→bL R (a::as) (b::bs)
theorem bL.len {α β:Type} {R:α→β→Prop} {as:List α} {bs:List β} (h:bL R as bs):as.length=bs.length:=by
 induction h with
 |nil=>rfl
 |cons _ _ ih=>rw [List.length_cons,List.length_cons,ih]
theorem bL.imp {α β:Type} {R S:α→β→Prop} {as:List α} {bs:List β} (h:bL R as bs) (k:∀a b,R a b→S a b):bL S as bs:=by
 induction h with
 |nil=>exact .nil
 |cons r _ ih=>exact .cons (k _ _ r) ih
theorem bL.mem {α β:Type} {R:α→β→Prop} {as:List α} {bs:List β} (h:bL R as bs) {a:α} (m:a∈as):∃b,b∈bs∧R a b:=by
 induction h with
 |nil=>cases m
 |cons r _ ih=>
  rcases List.mem_cons.mp m with rfl|m
  ·exact ⟨_,List.mem_cons_self ..,r⟩
  ·obtain ⟨b,hb,q⟩:=ih m
   exact ⟨b,List.mem_cons_of_mem _ hb,q⟩
theorem bL.app {α β:Type} {R:α→β→Prop} {as cs:List α} {bs ds:List β} (h:bL R as bs) (k:bL R cs ds):bL R (as++cs) (bs++ds):=by
 induction h with
 |nil=>exact k
 |cons r _ ih=>exact .cons r ih
def vQ {α:Type} (K:PySem.W.Frag) (H:Hp) (R:V→α→Prop) (v:V) (xs:List α):Prop:=∃a vs,v=.ref a∧SqT K H a vs∧bL R vs xs
theorem vQ.same {α:Type} {K:PySem.W.Frag} {H H':Hp} {R S:V→α→Prop} {v:V} {xs:List α} (e:Same H H') (k:∀a b,R a b→S a b) (h:vQ K H R v xs):vQ K H' S v xs:=by
 obtain ⟨a,vs,rfl,ha,hr⟩:=h
 exact ⟨a,vs,rfl,e.aK ha,hr.imp k⟩
theorem IsO.same {K:PySem.W.Frag} {H H':Hp} {v:V} {o:Oth} (e:Same H H') (h:IsO K H v o):IsO K H' v o:=by
 cases o with
 |val x=>obtain ⟨a,rfl,ha,hx,hv⟩:=h;exact ⟨a,rfl,e.aK ha,hx.same e,hv⟩
 |col d=>obtain ⟨a,rfl,ha,hd⟩:=h;exact ⟨a,rfl,e.aK ha,hd⟩
theorem IsT.same {K:PySem.W.Frag} {H H':Hp} {v:V} {t:Tst} (e:Same H H') (h:IsT K H v t):IsT K H' v t:=by
 obtain ⟨a,w,rfl,ha,h1,h2,h3⟩:=h
 exact ⟨a,w,rfl,e.aK ha,h1,h2,h3.same e⟩
theorem jW.same {K:PySem.W.Frag} {H H':Hp} {v:V} {t:Str × Str} (e:Same H H') (h:jW K H v t):jW K H' v t:=by
 obtain ⟨a,rfl,ha,h1⟩:=h
 exact ⟨a,rfl,e.aK ha,h1⟩
theorem nW.same {K:PySem.W.Frag} {H H':Hp} {v:V} {t:Str × Str} (e:Same H H') (h:nW K H v t):nW K H' v t:=by
 obtain ⟨a,rfl,ha,h1⟩:=h
 exact ⟨a,rfl,e.aK ha,h1⟩
theorem lV.same {K:PySem.W.Frag} {H H':Hp} {v:V} {t:Sm} (e:Same H H') (h:lV K H v t):lV K H' v t:=by
 obtain ⟨a,rfl,hn,h1⟩:=h
 refine ⟨a,rfl,hn,?_⟩
 rcases h1 with ⟨x,y,z⟩|⟨c,x,y,z,u⟩
 ·exact .inl ⟨x,y,e.aK z⟩
 ·exact .inr ⟨c,x,y,z,e.aK u⟩
def iB {α:Type} (K:PySem.W.Frag) (S:PySem.W.Frag→Hp→V→α→Prop):Hp→V→Bool→Prop:=fun H v b=>b=true∧∃t,S K H v t
theorem kI {α:Type} {K:PySem.W.Frag} {S:PySem.W.Frag→Hp→V→α→Prop} (st:∀{H H' v t},Same H H'→S K H v t→S K H' v t):Tells (iB K S):=⟨fun e h=>⟨h.1,let ⟨t,q⟩:=h.2;⟨t,st e q⟩⟩⟩
def fH (_:PySem.W.Frag) (_:Hp) (v:V) (x:Str):Prop:=IsN v x
theorem tupof {α:Type} {S:PySem.W.Frag→Hp→V→α→Prop} {lo hi:Nat} {H:Hp} {v:V} {xs:List α} (h:vQ K H (S K H) v xs) (h1:lo≤xs.length) (h2:xs.length≤hi):aEt K (iB K S) lo hi H v true:=by
 obtain ⟨a,vs,rfl,ha,hr⟩:=h
 have z:=aEt.yes (K:=K) (R:=iB K S) (lo:=lo) (hi:=hi) (fun _=>true) ha (by rw [hr.len];exact h1) (by rw [hr.len];exact h2) (fun x hx=>by
  obtain ⟨b,_,q⟩:=hr.mem hx
  exact ⟨rfl,b,q⟩)
 have e:vs.all (fun _=>true)=true:=by rw [List.all_eq_true];intro _ _;rfl
 rw [e] at z
 exact z
def gM {α:Type} (S:PySem.W.Frag→Hp→V→α→Prop) (lo hi:Nat):PySem.W.Frag→Hp→V→List α→Prop:=fun K H v xs=>vQ K H (S K H) v xs∧lo≤xs.length∧xs.length≤hi
theorem aH3 (T:Txt w K mg) (dR:Ok P w K mg base 1 "is_one_of" ["thing","texts"] (zM K)) (aK4:Ok P w K mg base 2 "is_value" ["thing"] (aBw K aJm)) (dD:Ok P w K mg base 2 "is_name" ["thing"] (aBw K nameB)) :
  Ok P w K mg base 3 "is_other" ["thing"] (iW (iB K IsO)):=by
 refine Ok.ofV T.aMg aIv (fun vs H Q E h=>?_) (fun f cdv A outer s H vs Q E hr h=>?_)
 ·obtain ⟨v,b,rfl,_⟩:=h;rfl
 obtain ⟨v,b,rfl,⟨rfl,o,ho⟩,q⟩:=h
 refine ⟨_,(aC (bR (VW.pt (sJ (jB (fC (aW nC (by rfl) T.cZ cR (aB (vv 0) (aB (lH (v:=.ty "tuple") (by rfl) T.cP cA rfl) aA))))) (pI (aU wB (aW aX (by rfl) T.dB cH (aB (vv 0) aA)) aD (aZ _))))) (aF (aM uL)) bA) (aC (bR (fC (aJ (dR.mono (by decide)) hr (by rfl) (aB (aH aR (vv 0) aD (fun _ _=>rfl)) (aB (aY (aB aO aA)) aA)))) (aF (aM (aJ (aK4.mono (by decide)) hr (by rfl) (aB (aH aR (vv 0) aD (fun _ _=>rfl)) aA)))) bA) (aF (aM (pF (aJ (dR.mono (by decide)) hr (by rfl) (aB (aH aR (vv 0) aD (fun _ _=>rfl)) (aB (aY (aB aO aA)) aA))) (qL (aJ (dD.mono (by decide)) hr (by rfl) (aB (aH aR (vv 0) aD (fun _ _=>rfl)) aA)))))))),?_⟩
 cases o with
 |val x=>
  obtain ⟨a,rfl,ha,hx,hv⟩:=ho
  refine ⟨_,rfl,_,_,rfl,.tup ha,_,rfl,bC ?_⟩
  refine ⟨_,rfl,_,_,rfl,.inr ha,rfl,_,rfl,bC ?_⟩
  refine ⟨_,rfl,a,_,0,_,rfl,rfl,ha,at0 _ _,(by show 1≤sizeLine;decide),fun p1 H1 _ s1 g1=>⟨_,p1,_,rfl,pJ (by decide +kernel),SqT.of g1,rfl,_,rfl,cC ?_⟩⟩
  refine ⟨_,rfl,a,_,1,_,rfl,rfl,s1.aK ha,at1 _ _ _,x,rfl,hx.same s1,fun H2 s2=>?_⟩
  rw [hv]
  exact q H2 (s1.trans s2)
 |col d=>
  obtain ⟨a,rfl,ha,hd⟩:=ho
  refine ⟨_,rfl,_,_,rfl,.tup ha,_,rfl,bC ?_⟩
  refine ⟨_,rfl,_,_,rfl,.inr ha,rfl,_,rfl,bC ?_⟩
  refine ⟨_,rfl,a,_,0,_,rfl,rfl,ha,at0 _ _,(by show 1≤sizeLine;decide),fun p1 H1 _ s1 g1=>⟨_,p1,_,rfl,pJ (by decide +kernel),SqT.of g1,rfl,_,rfl,bC ?_⟩⟩
  refine ⟨_,rfl,a,_,0,_,rfl,rfl,s1.aK ha,at0 _ _,(by show 1≤sizeLine;decide),fun p2 H2 _ s2 g2=>⟨_,p2,_,rfl,pJ (by decide +kernel),SqT.of g2,rfl,_,rfl,cC ?_⟩⟩
  refine ⟨_,rfl,a,_,1,_,rfl,rfl,s2.aK (s1.aK ha),at1 _ _ _,_,rfl,hd.th,fun H3 s3=>?_⟩
  rw [show nameB (.str d)=true from hd]
  exact q H3 (s1.trans (s2.trans s3))
theorem aWc {x:Str} (h:bAg x):(isS (.str x) && inV (.str x) signs)=true∧x.length≤8:=by
 rcases h with rfl|rfl|rfl|rfl <;> exact ⟨by decide +kernel,by decide +kernel⟩
theorem aMx (T:Txt w K mg) (dR:Ok P w K mg base 1 "is_one_of" ["thing","texts"] (zM K)) (dD:Ok P w K mg base 2 "is_name" ["thing"] (aBw K nameB)) (aMc:Ok P w K mg base 3 "is_other" ["thing"] (iW (iB K IsO))) :
  Ok P w K mg base 4 "is_test" ["thing"] (iW (iB K IsT)):=by
 refine Ok.ofV T.aPo aL2 (fun vs H Q E h=>?_) (fun f cdv A outer s H vs Q E hr h=>?_)
 ·obtain ⟨v,b,rfl,_⟩:=h;rfl
 obtain ⟨v,b,rfl,⟨rfl,t,a,o,rfl,ha,hc,hs,ho⟩,q⟩:=h
 obtain ⟨ka,mk,hka⟩:=T.aGj
 have aGj:∃u,mg "SIGNS"=some u∧RelV (.ref ka) u:=⟨_,mk,rfl⟩
 refine ⟨_,(aC (bR (VW.pt (sJ (jB (fC (aW nC (by rfl) T.cZ cR (aB (vv 0) (aB (lH (v:=.ty "tuple") (by rfl) T.cP cA rfl) aA))))) (pI (aU wB (aW aX (by rfl) T.dB cH (aB (vv 0) aA)) aD (aZ _))))) (aF (aM uL)) bA) (aF (aM (pF (aJ (dD.mono (by decide)) hr (by rfl) (aB (aH aR (vv 0) aD (fun _ _=>rfl)) aA)) (pF (aJ (dR.mono (by decide)) hr (by rfl) (aB (aH aR (vv 0) aD (fun _ _=>rfl)) (aB (fY (by rfl) aGj) aA))) (qL (aJ (aMc.mono (by decide)) hr (by rfl) (aB (aH aR (vv 0) aD (fun _ _=>rfl)) aA)))))))),?_⟩
 refine ⟨_,rfl,_,_,rfl,.tup ha,_,rfl,bC ?_⟩
 refine ⟨_,rfl,_,_,rfl,.inr ha,rfl,_,rfl,bC ?_⟩
 refine ⟨_,rfl,a,_,0,_,rfl,rfl,ha,at0 _ _,_,rfl,hc.th,fun H1 s1=>⟨_,rfl,?_⟩⟩
 rw [show nameB (.str t.c)=true from hc]
 refine cC ⟨_,rfl,a,_,1,_,rfl,rfl,s1.aK ha,at1 _ _ _,_,ka,signs,rfl,pJ (aWc hs).2,hka _,rfl,_,rfl,?_⟩
 rw [(aWc hs).1]
 refine cC ⟨_,rfl,a,_,2,_,rfl,rfl,s1.aK ha,at2 _ _ _ _,o,true,rfl,⟨rfl,_,ho.same s1⟩,fun H2 s2=>q H2 (s1.trans s2)⟩
theorem aLp (T:Txt w K mg) (dD:Ok P w K mg base 2 "is_name" ["thing"] (iW (iB K fH))) (cB:Ok P w K mg base 3 "is_tuple_of" ["thing","least","most","is_part"] (lW P w K mg base 2)) :
  Ok P w K mg base 4 "is_pair" ["thing"] (iW (iB K jW)):=by
 refine Ok.ofV T.aOk aKz (fun vs H Q E h=>?_) (fun f cdv A outer s H vs Q E hr h=>?_)
 ·obtain ⟨v,b,rfl,_⟩:=h;rfl
 obtain ⟨v,b,rfl,⟨rfl,p,a,rfl,ha,h1,h2⟩,q⟩:=h
 obtain ⟨fa,mf,hf⟩:=dD.held
 have mY:∃u,mg "is_name"=some u∧RelV (.ref fa) u:=⟨_,mf,rfl⟩
 refine ⟨_,(aF (aM (aJ (cB.mono (by decide)) hr (by rfl) (aB (vv 0) (aB aD (aB aD (aB (fY (by rfl) mY) aA))))))),?_⟩
 exact ⟨_,rfl,_,2,2,fa,_,_,_,rfl,by decide,hf,kI (S:=fH) (fun _ h=>h),tupof (S:=fH) (xs:=[p.1,p.2]) ⟨a,_,rfl,ha,.cons ⟨rfl,h1⟩ (.cons ⟨rfl,h2⟩ .nil)⟩ (Nat.le_refl _) (Nat.le_refl _),fun H1 s1=>q H1 s1⟩
theorem aPv (T:Txt w K mg) (dR:Ok P w K mg base 1 "is_one_of" ["thing","texts"] (zM K)) (dD:Ok P w K mg base 2 "is_name" ["thing"] (aBw K nameB)):Ok P w K mg base 3 "is_key" ["thing"] (iW (iB K nW)):=by
 refine Ok.ofV T.aRy aPp (fun vs H Q E h=>?_) (fun f cdv A outer s H vs Q E hr h=>?_)
 ·obtain ⟨v,b,rfl,_⟩:=h;rfl
 obtain ⟨v,b,rfl,⟨rfl,⟨c,wy⟩,a,rfl,ha,hc,hw⟩,q⟩:=h
 obtain ⟨ka,mk,hka⟩:=T.aL9
 have aL9:∃u,mg "WAYS"=some u∧RelV (.ref ka) u:=⟨_,mk,rfl⟩
 refine ⟨_,(aC (bR (VW.pt (sJ (jB (fC (aW nC (by rfl) T.cZ cR (aB (vv 0) (aB (lH (v:=.ty "tuple") (by rfl) T.cP cA rfl) aA))))) (pI (aU wB (aW aX (by rfl) T.dB cH (aB (vv 0) aA)) aD (aZ _))))) (aF (aM uL)) bA) (aF (aM (pF (aJ (dD.mono (by decide)) hr (by rfl) (aB (aH aR (vv 0) aD (fun _ _=>rfl)) aA)) (qL (aJ (dR.mono (by decide)) hr (by rfl) (aB (aH aR (vv 0) aD (fun _ _=>rfl)) (aB (fY (by rfl) aL9) aA)))))))),?_⟩
 refine ⟨_,rfl,_,_,rfl,.tup ha,_,rfl,bC ?_⟩
 refine ⟨_,rfl,_,_,rfl,.inr ha,rfl,_,rfl,bC ?_⟩
 refine ⟨_,rfl,a,_,0,_,rfl,rfl,ha,at0 _ _,_,rfl,hc.th,fun H1 s1=>⟨_,rfl,?_⟩⟩
 rw [show nameB (.str c)=true from hc]
 have e:(isS (.str wy) && inV (.str wy) aIc)=true∧wy.length≤8:=by
  rcases hw with e|e <;> (have e:wy=_:=e;subst e;exact ⟨by decide +kernel,by decide +kernel⟩)
 refine cC ⟨_,rfl,a,_,1,_,rfl,rfl,s1.aK ha,at1 _ _ _,_,ka,aIc,rfl,pJ e.2,hka _,rfl,?_⟩
 show Q (.bl (isS (.str wy) && inV (.str wy) aIc)) H1
 rw [e.1]
 exact q H1 s1
theorem aPh (T:Txt w K mg) (dR:Ok P w K mg base 1 "is_one_of" ["thing","texts"] (zM K)) (dD:Ok P w K mg base 2 "is_name" ["thing"] (aBw K nameB)):Ok P w K mg base 3 "is_sum" ["thing"] (iW (iB K lV)):=by
 refine Ok.ofV T.aQx aOs (fun vs H Q E h=>?_) (fun f cdv A outer s H vs Q E hr h=>?_)
 ·obtain ⟨v,b,rfl,_⟩:=h;rfl
 obtain ⟨v,b,rfl,⟨rfl,⟨wd,oc,new⟩,a,rfl,hn,hs⟩,q⟩:=h
 obtain ⟨ka,mk,hka⟩:=T.rM
 have rM:∃u,mg "SUM_WORDS"=some u∧RelV (.ref ka) u:=⟨_,mk,rfl⟩
 refine ⟨_,(aC (bR (VW.pt (sJ (jB (fC (aW nC (by rfl) T.cZ cR (aB (vv 0) (aB (lH (v:=.ty "tuple") (by rfl) T.cP cA rfl) aA))))) (pI (aU wB (aW aX (by rfl) T.dB cH (aB (vv 0) aA)) aD (aZ _))))) (aF (aM uL)) bA) (aC (bR (VW.pt (sJ (jB (fC (aJ (dR.mono (by decide)) hr (by rfl) (aB (aH aR (vv 0) aD (fun _ _=>rfl)) (aB (fY (by rfl) rM) aA))))) (pI (jB (fC (aJ (dD.mono (by decide)) hr (by rfl) (aB (aH aR (vv 0) aD (fun _ _=>rfl)) aA))))))) (aF (aM uL)) bA) (aF (aM (gH (aU cG (aH aR (vv 0) aD (fun _ _=>rfl)) aO (aZ _)) (eZ aSo (aH aR (vv 0) aD (fun _ _=>rfl)) rN (aZ _)) (aJ (dD.mono (by decide)) hr (by rfl) (aB (aH aR (vv 0) aD (fun _ _=>rfl)) aA))))))),?_⟩
 have hn':nameB (.str new)=true:=hn
 rcases hs with ⟨e,_,ha⟩|⟨c,e,hc,hw,ha⟩
 ·refine ⟨_,rfl,_,_,rfl,.tup ha,_,rfl,bC ?_⟩
  refine ⟨_,rfl,_,_,rfl,.inr ha,rfl,_,rfl,bC ?_⟩
  refine ⟨_,rfl,a,_,0,_,rfl,rfl,ha,at0 _ _,_,ka,aCd,rfl,pJ (by decide +kernel),hka _,rfl,_,rfl,bC ?_⟩
  refine ⟨_,rfl,a,_,2,_,rfl,rfl,ha,at2 _ _ _ _,_,rfl,hn.th,fun H1 s1=>⟨_,rfl,?_⟩⟩
  rw [hn']
  refine bC ⟨_,rfl,a,_,0,_,rfl,rfl,s1.aK ha,at0 _ _,rfl,_,rfl,cC ?_⟩
  exact ⟨_,rfl,a,_,1,_,rfl,rfl,s1.aK ha,at1 _ _ _,rfl,q H1 s1⟩
 ·have ew:(isS (.str wd) && inV (.str wd) aCd)=true∧wd.length≤8∧decide (V.str wd=V.str "count")=false:=by
   rcases hw with e|e|e <;> (have e:wd=_:=e;subst e;exact ⟨by decide +kernel,by decide +kernel,by decide +kernel⟩)
  refine ⟨_,rfl,_,_,rfl,.tup ha,_,rfl,bC ?_⟩
  refine ⟨_,rfl,_,_,rfl,.inr ha,rfl,_,rfl,bC ?_⟩
  refine ⟨_,rfl,a,_,0,_,rfl,rfl,ha,at0 _ _,_,ka,aCd,rfl,pJ ew.2.1,hka _,rfl,_,rfl,?_⟩
  rw [ew.1]
  refine bC ⟨_,rfl,a,_,2,_,rfl,rfl,ha,at2 _ _ _ _,_,rfl,hn.th,fun H1 s1=>⟨_,rfl,?_⟩⟩
  rw [hn']
  refine bC ⟨_,rfl,a,_,0,_,rfl,rfl,s1.aK ha,at0 _ _,rfl,_,rfl,?_⟩
  rw [ew.2.2]
  refine bC ⟨_,rfl,a,_,1,_,rfl,rfl,s1.aK ha,at1 _ _ _,_,rfl,hc.th,fun H2 s2=>?_⟩
  rw [show nameB (.str c)=true from hc]
  exact q H2 (s1.trans s2)
def aWf (_:PySem.W.Frag) (_:Hp) (v:V) (n:Nat):Prop:=v=.int n∧n≤60
theorem aMm (T:Txt w K mg) (nO:Ok P w K mg base 1 "is_whole" ["thing"] (xG K)):Ok P w K mg base 2 "is_many" ["thing"] (iW (iB K aWf)):=by
 refine Ok.ofV T.aOg aLj (fun vs H Q E h=>?_) (fun f cdv A outer s H vs Q E hr h=>?_)
 ·obtain ⟨v,b,rfl,_⟩:=h;rfl
 obtain ⟨v,b,rfl,⟨rfl,n,rfl,hn⟩,q⟩:=h
 refine ⟨_,(aF (aM (pF (aJ (nO.mono (by decide)) hr (by rfl) (aB (vv 0) aA)) (qL (aQi aEc aEc aD (vv 0) (fY (by rfl) T.aIz)))))),?_⟩
 refine ⟨_,rfl,_,rfl,.inr (.inl ⟨_,rfl⟩),_,rfl,cC ?_⟩
 refine ⟨_,rfl,_,_,rfl,rfl,_,rfl,?_⟩
 have e1:decide ((0:Int)≤(n:Int))=true:=decide_eq_true (by lia)
 have e2:decide ((n:Int)≤60)=true:=decide_eq_true (by lia)
 rw [e1]
 refine cC ⟨_,_,rfl,rfl,?_⟩
 show Q (.bl (decide ((n:Int)≤60))) H
 rw [e2]
 exact q H (Same.refl H)
theorem uZ (T:Txt w K mg):Ok P w K mg base 1 "may_be_question" ["thing"] (fun vs H Q _=>∃v,vs=[v]∧Q (.bl true) H):=by
 refine Ok.ofV T.wL vU (fun vs H Q E h=>?_) (fun f cdv A outer s H vs Q E hr h=>?_)
 ·obtain ⟨v,rfl,_⟩:=h;rfl
 obtain ⟨v,rfl,q⟩:=h
 exact ⟨_,(aF (aM uL)),q⟩
theorem aW6 {k:Nat} {x:Str} {ps:List Str} {sp sp':Sp} (G:Ok P w K mg base k x ps sp) (h:∀vs H Q E,sp' vs H Q E→sp vs H Q E):Ok P w K mg base k x ps sp':=
 let ⟨f,fd,h1,h2,h3,h4⟩:=G;⟨f,fd,h1,h2,h3,h4.imp h⟩
theorem aTc (G:Ok P w K mg base 2 "is_name" ["thing"] (aBw K nameB)):Ok P w K mg base 2 "is_name" ["thing"] (iW (iB K fH)):=
 aW6 G fun vs H Q E h=>by
  obtain ⟨v,b,rfl,⟨rfl,x,rfl,hx⟩,q⟩:=h
  exact ⟨_,rfl,Nm.th hx,fun H' s'=>by rw [show nameB (.str x)=true from hx];exact q H' s'⟩
theorem aFx (T:Txt w K mg) (aPu:Ok P w K mg base 4 "is_test" ["thing"] (iW (iB K IsT))) (cB:Ok P w K mg base 5 "is_tuple_of" ["thing","least","most","is_part"] (lW P w K mg base 4)) :
  Ok P w K mg base 6 "are_tests" ["thing"] (iW (iB K (gM IsT 1 3))):=by
 refine Ok.ofV T.aJe aFv (fun vs H Q E h=>?_) (fun f cdv A outer s H vs Q E hr h=>?_)
 ·obtain ⟨v,b,rfl,_⟩:=h;rfl
 obtain ⟨v,b,rfl,⟨rfl,xs,hx,l1,l2⟩,q⟩:=h
 obtain ⟨fa,mf,hf⟩:=aPu.held
 have aD4:∃u,mg "is_test"=some u∧RelV (.ref fa) u:=⟨_,mf,rfl⟩
 refine ⟨_,(aF (aM (aJ (cB.mono (by decide)) hr (by rfl) (aB (vv 0) (aB aD (aB (fY (by rfl) T.aE6) (aB (fY (by rfl) aD4) aA))))))),?_⟩
 exact ⟨_,rfl,_,1,3,fa,_,_,_,rfl,by decide,hf,kI (S:=IsT) (fun e h=>h.same e),tupof (S:=IsT) hx l1 l2,fun H1 s1=>q H1 s1⟩
theorem aHk (T:Txt w K mg) (dD:Ok P w K mg base 2 "is_name" ["thing"] (iW (iB K fH))) (cB:Ok P w K mg base 3 "is_tuple_of" ["thing","least","most","is_part"] (lW P w K mg base 2)) :
  Ok P w K mg base 4 "are_names" ["thing"] (iW (iB K (gM fH 1 8))):=by
 refine Ok.ofV T.aKe aFc (fun vs H Q E h=>?_) (fun f cdv A outer s H vs Q E hr h=>?_)
 ·obtain ⟨v,b,rfl,_⟩:=h;rfl
 obtain ⟨v,b,rfl,⟨rfl,xs,hx,l1,l2⟩,q⟩:=h
 obtain ⟨fa,mf,hf⟩:=dD.held
 have mY:∃u,mg "is_name"=some u∧RelV (.ref fa) u:=⟨_,mf,rfl⟩
 refine ⟨_,(aF (aM (aJ (cB.mono (by decide)) hr (by rfl) (aB (vv 0) (aB aD (aB (fY (by rfl) T.xH) (aB (fY (by rfl) mY) aA))))))),?_⟩
 exact ⟨_,rfl,_,1,8,fa,_,_,_,rfl,by decide,hf,kI (S:=fH) (fun e h=>h),tupof (S:=fH) hx l1 l2,fun H1 s1=>q H1 s1⟩
theorem uV (T:Txt w K mg) (dD:Ok P w K mg base 2 "is_name" ["thing"] (iW (iB K fH))) (cB:Ok P w K mg base 3 "is_tuple_of" ["thing","least","most","is_part"] (lW P w K mg base 2)) :
  Ok P w K mg base 4 "are_group_names" ["thing"] (iW (iB K (gM fH 0 8))):=by
 refine Ok.ofV T.xV vR (fun vs H Q E h=>?_) (fun f cdv A outer s H vs Q E hr h=>?_)
 ·obtain ⟨v,b,rfl,_⟩:=h;rfl
 obtain ⟨v,b,rfl,⟨rfl,xs,hx,l1,l2⟩,q⟩:=h
 obtain ⟨fa,mf,hf⟩:=dD.held
 have mY:∃u,mg "is_name"=some u∧RelV (.ref fa) u:=⟨_,mf,rfl⟩
 refine ⟨_,(aF (aM (aJ (cB.mono (by decide)) hr (by rfl) (aB (vv 0) (aB aD (aB (fY (by rfl) T.xH) (aB (fY (by rfl) mY) aA))))))),?_⟩
 exact ⟨_,rfl,_,0,8,fa,_,_,_,rfl,by decide,hf,kI (S:=fH) (fun e h=>h),tupof (S:=fH) hx l1 l2,fun H1 s1=>q H1 s1⟩
theorem aG8 (T:Txt w K mg) (aPb:Ok P w K mg base 4 "is_pair" ["thing"] (iW (iB K jW))) (cB:Ok P w K mg base 5 "is_tuple_of" ["thing","least","most","is_part"] (lW P w K mg base 4)) :
  Ok P w K mg base 6 "are_pairs" ["thing"] (iW (iB K (gM jW 1 3))):=by
 refine Ok.ofV T.aIw aHb (fun vs H Q E h=>?_) (fun f cdv A outer s H vs Q E hr h=>?_)
 ·obtain ⟨v,b,rfl,_⟩:=h;rfl
 obtain ⟨v,b,rfl,⟨rfl,xs,hx,l1,l2⟩,q⟩:=h
 obtain ⟨fa,mf,hf⟩:=aPb.held
 have aEk:∃u,mg "is_pair"=some u∧RelV (.ref fa) u:=⟨_,mf,rfl⟩
 refine ⟨_,(aF (aM (aJ (cB.mono (by decide)) hr (by rfl) (aB (vv 0) (aB aD (aB (fY (by rfl) T.aEx) (aB (fY (by rfl) aEk) aA))))))),?_⟩
 exact ⟨_,rfl,_,1,3,fa,_,_,_,rfl,by decide,hf,kI (S:=jW) (fun e h=>h.same e),tupof (S:=jW) hx l1 l2,fun H1 s1=>q H1 s1⟩
theorem aI5 (T:Txt w K mg) (aQt:Ok P w K mg base 3 "is_sum" ["thing"] (iW (iB K lV))) (cB:Ok P w K mg base 4 "is_tuple_of" ["thing","least","most","is_part"] (lW P w K mg base 3)) :
  Ok P w K mg base 5 "are_sums" ["thing"] (iW (iB K (gM lV 0 4))):=by
 refine Ok.ofV T.aK6 aH2 (fun vs H Q E h=>?_) (fun f cdv A outer s H vs Q E hr h=>?_)
 ·obtain ⟨v,b,rfl,_⟩:=h;rfl
 obtain ⟨v,b,rfl,⟨rfl,xs,hx,l1,l2⟩,q⟩:=h
 obtain ⟨fa,mf,hf⟩:=aQt.held
 have aJl:∃u,mg "is_sum"=some u∧RelV (.ref fa) u:=⟨_,mf,rfl⟩
 refine ⟨_,(aF (aM (aJ (cB.mono (by decide)) hr (by rfl) (aB (vv 0) (aB aD (aB (fY (by rfl) T.aIx) (aB (fY (by rfl) aJl) aA))))))),?_⟩
 exact ⟨_,rfl,_,0,4,fa,_,_,_,rfl,by decide,hf,kI (S:=lV) (fun e h=>h.same e),tupof (S:=lV) hx l1 l2,fun H1 s1=>q H1 s1⟩
theorem aHu (T:Txt w K mg) (aSg:Ok P w K mg base 3 "is_key" ["thing"] (iW (iB K nW))) (cB:Ok P w K mg base 4 "is_tuple_of" ["thing","least","most","is_part"] (lW P w K mg base 3)) :
  Ok P w K mg base 5 "are_keys" ["thing"] (iW (iB K (gM nW 0 3))):=by
 refine Ok.ofV T.aLb aJj (fun vs H Q E h=>?_) (fun f cdv A outer s H vs Q E hr h=>?_)
 ·obtain ⟨v,b,rfl,_⟩:=h;rfl
 obtain ⟨v,b,rfl,⟨rfl,xs,hx,l1,l2⟩,q⟩:=h
 obtain ⟨fa,mf,hf⟩:=aSg.held
 have aH4:∃u,mg "is_key"=some u∧RelV (.ref fa) u:=⟨_,mf,rfl⟩
 refine ⟨_,(aF (aM (aJ (cB.mono (by decide)) hr (by rfl) (aB (vv 0) (aB aD (aB (fY (by rfl) T.aJy) (aB (fY (by rfl) aH4) aA))))))),?_⟩
 exact ⟨_,rfl,_,0,3,fa,_,_,_,rfl,by decide,hf,kI (S:=nW) (fun e h=>h.same e),tupof (S:=nW) hx l1 l2,fun H1 s1=>q H1 s1⟩
inductive Qn where
 |table (T:Str)
 |whr (q:Qn) (ts:List Tst)
 |keep (q:Qn) (ns:List Str)
 |nmd (q:Qn) (ns:List Str)
 |join (q r:Qn) (ps:List (Str × Str))
 |group (q:Qn) (ns:List Str) (ss:List Sm)
 |first (q:Qn) (ks:List (Str × Str)) (m:Nat)
inductive IsQ (K:PySem.W.Frag) (H:Hp):V→Qn→Prop
 |table {a T}:SqT K H a [.str "table",.str T]→Nm T→IsQ K H (.ref a) (.table T)
 |whr {a v q w ts}:SqT K H a [.str "where",v,w]→IsQ K H v q→gM IsT 1 3 K H w ts→IsQ K H (.ref a) (.whr q ts)
 |keep {a v q w ns}:SqT K H a [.str "keep",v,w]→IsQ K H v q→gM fH 1 8 K H w ns→IsQ K H (.ref a) (.keep q ns)
 |nmd {a v q w ns}:SqT K H a [.str "named",v,w]→IsQ K H v q→gM fH 1 8 K H w ns→IsQ K H (.ref a) (.nmd q ns)
 |join {a v q u r w ps}:SqT K H a [.str "join",v,u,w]→IsQ K H v q→IsQ K H u r→gM jW 1 3 K H w ps→IsQ K H (.ref a) (.join q r ps)
 |group {a v q w ns u ss}:SqT K H a [.str "group",v,w,u]→IsQ K H v q→gM fH 0 8 K H w ns→gM lV 0 4 K H u ss→IsQ K H (.ref a) (.group q ns ss)
 |first {a v q w ks m}:SqT K H a [.str "first",v,w,.int (m:Nat)]→IsQ K H v q→gM nW 0 3 K H w ks→m≤60→IsQ K H (.ref a) (.first q ks m)
theorem gM.same {α:Type} {S:PySem.W.Frag→Hp→V→α→Prop} {lo hi:Nat} {K:PySem.W.Frag} {H H':Hp} {v:V} {xs:List α} (e:Same H H') (k:∀{v t},S K H v t→S K H' v t) (h:gM S lo hi K H v xs):gM S lo hi K H' v xs:=
 ⟨h.1.same e fun _ _=>k,h.2⟩
theorem IsQ.same {K:PySem.W.Frag} {H H':Hp} {v:V} {q:Qn} (e:Same H H') (h:IsQ K H v q):IsQ K H' v q:=by
 induction h with
 |table a b=>exact .table (e.aK a) b
 |whr a _ c ih=>exact .whr (e.aK a) ih (c.same e fun h=>h.same e)
 |keep a _ c ih=>exact .keep (e.aK a) ih (c.same e fun h=>h)
 |nmd a _ c ih=>exact .nmd (e.aK a) ih (c.same e fun h=>h)
 |join a _ _ c ih1 ih2=>exact .join (e.aK a) ih1 ih2 (c.same e fun h=>h.same e)
 |group a _ c d ih=>exact .group (e.aK a) ih (c.same e fun h=>h) (d.same e fun h=>h.same e)
 |first a _ c d ih=>exact .first (e.aK a) ih (c.same e fun h=>h.same e) d
def Part (P:Program) (w:World) (K:PySem.W.Frag) (mg:Str→Option Value) (base:Heap) (H:Hp) (f x:V):Prop:=∃fa ps sp,f=.ref fa∧Held P w K mg base 6 fa ps sp∧∀H' Q,Same H H'→(∀H2,Same H' H2→Q (.bl true) H2)→sp [x] H' Q E0
theorem jG {k:Nat} {x:Str} {ps:List Str} {α:Type} {S:PySem.W.Frag→Hp→V→α→Prop} {f:Addr} {H:Hp} {v:V} {t:α} (G:Ok P w K mg base k x ps (iW (iB K S))) (hk:k≤6) (m:mg x=some (.ref f)) (st:∀{H H' v t},Same H H'→S K H v t→S K H' v t) (h:S K H v t):Part P w K mg base H (.ref f) v:=
 ⟨f,_,_,rfl,(G.aSs m).mono hk,fun H' Q s' q=>⟨v,true,rfl,⟨rfl,t,st s' h⟩,q⟩⟩
abbrev forms:List Str:=["table","where","keep","named","join","group","first"]
def aZv (K:PySem.W.Frag):Sp:=fun vs H Q _=>∃v q,vs=[v]∧IsQ K H v q∧∀H',Same H H'→Q (.bl true) H'
theorem nY {f:Addr} {H:Hp} {v:V} (G:Ok P w K mg base 1 "may_be_question" ["thing"] (fun vs H Q _=>∃v,vs=[v]∧Q (.bl true) H)) (m:mg "may_be_question"=some (.ref f)):Part P w K mg base H (.ref f) v:=
 ⟨f,_,_,rfl,(G.aSs m).mono (by decide),fun H' Q s' q=>⟨v,rfl,q H' (Same.refl H')⟩⟩
structure Forms (P:Program) (w:World) (K:PySem.W.Frag) (mg:Str→Option Value) (base:Heap):Prop where
 name:Ok P w K mg base 2 "is_name" ["thing"] (iW (iB K fH))
 any:Ok P w K mg base 1 "may_be_question" ["thing"] (fun vs H Q _=>∃v,vs=[v]∧Q (.bl true) H)
 tests:Ok P w K mg base 6 "are_tests" ["thing"] (iW (iB K (gM IsT 1 3)))
 names:Ok P w K mg base 4 "are_names" ["thing"] (iW (iB K (gM fH 1 8)))
 gnames:Ok P w K mg base 4 "are_group_names" ["thing"] (iW (iB K (gM fH 0 8)))
 pairs:Ok P w K mg base 6 "are_pairs" ["thing"] (iW (iB K (gM jW 1 3)))
 sums:Ok P w K mg base 5 "are_sums" ["thing"] (iW (iB K (gM lV 0 4)))
 keys:Ok P w K mg base 5 "are_keys" ["thing"] (iW (iB K (gM nW 0 3)))
 many:Ok P w K mg base 2 "is_many" ["thing"] (iW (iB K aWf))
theorem aVr (T:Txt w K mg) (F:Forms P w K mg base):∃d kvs,mg "FORMS"=some (.ref d)∧aT1 w K d kvs∧kvs.length≤1000∧(kvs.map fun q=>V.str q.1).all jY=true ∧
  ∀H v q,IsQ K H v q→∃a k xs t fs,v=.ref a∧SqT K H a (.str k::xs)∧k.length≤8∧inV (.str k) (kvs.map fun q=>V.str q.1)=true∧(kvs.find? fun z=>decide (z.1=k)).map (·.2)=some t∧(∀H,SqT K H t fs)∧fs.length≤8∧bL (Part P w K mg base H) fs xs:=by
 obtain ⟨d,t0,t1,t2,t3,t4,t5,t6,md,hd,⟨f00,h0,m00⟩,⟨f10,f11,h1,m10,m11⟩,⟨f20,f21,h2,m20,m21⟩,⟨f30,f31,h3,m30,m31⟩,⟨f40,f41,f42,h4,m40,m41,m42⟩,⟨f50,f51,f52,h5,m50,m51,m52⟩,⟨f60,f61,f62,h6,m60,m61,m62⟩⟩:=T.aAx
 refine ⟨d,_,md,hd,(by show 7≤1000;decide),rfl,fun H v q hq=>?_⟩
 cases hq with
 |table a b=>exact ⟨_,_,_,t0,_,rfl,a,by decide +kernel,(by show inV (.str "table") (forms.map V.str)=true;decide +kernel),rfl,h0,(by show 1≤8;decide),.cons (jG F.name (by decide) m00 (fun _ h=>h) ⟨rfl,b⟩) .nil⟩
 |whr a _ c=>exact ⟨_,_,_,t1,_,rfl,a,by decide +kernel,(by show inV (.str "where") (forms.map V.str)=true;decide +kernel),rfl,h1,(by show 2≤8;decide),.cons (nY F.any m10) (.cons (jG F.tests (by decide) m11 (fun e h=>h.same e fun q=>q.same e) c) .nil)⟩
 |keep a _ c=>exact ⟨_,_,_,t2,_,rfl,a,by decide +kernel,(by show inV (.str "keep") (forms.map V.str)=true;decide +kernel),rfl,h2,(by show 2≤8;decide),.cons (nY F.any m20) (.cons (jG F.names (by decide) m21 (fun e h=>h.same e fun q=>q) c) .nil)⟩
 |nmd a _ c=>exact ⟨_,_,_,t3,_,rfl,a,by decide +kernel,(by show inV (.str "named") (forms.map V.str)=true;decide +kernel),rfl,h3,(by show 2≤8;decide),.cons (nY F.any m30) (.cons (jG F.names (by decide) m31 (fun e h=>h.same e fun q=>q) c) .nil)⟩
 |join a _ _ c=>exact ⟨_,_,_,t4,_,rfl,a,by decide +kernel,(by show inV (.str "join") (forms.map V.str)=true;decide +kernel),rfl,h4,(by show 3≤8;decide),.cons (nY F.any m40) (.cons (nY F.any m41) (.cons (jG F.pairs (by decide) m42 (fun e h=>h.same e fun q=>q.same e) c) .nil))⟩
 |group a _ c e=>exact ⟨_,_,_,t5,_,rfl,a,by decide +kernel,(by show inV (.str "group") (forms.map V.str)=true;decide +kernel),rfl,h5,(by show 3≤8;decide),.cons (nY F.any m50) (.cons (jG F.gnames (by decide) m51 (fun e h=>h.same e fun q=>q) c) (.cons (jG F.sums (by decide) m52 (fun e h=>h.same e fun q=>q.same e) e) .nil))⟩
 |first a _ c e=>exact ⟨_,_,_,t6,_,rfl,a,by decide +kernel,(by show inV (.str "first") (forms.map V.str)=true;decide +kernel),rfl,h6,(by show 3≤8;decide),.cons (nY F.any m60) (.cons (jG F.keys (by decide) m61 (fun e h=>h.same e fun q=>q.same e) c) (.cons (jG F.many (by decide) m62 (fun _ h=>h) ⟨rfl,e⟩) .nil))⟩
theorem lX {α β:Type} {R:α→β→Prop}:∀{as:List α} {bs:List β},bL R as bs→∀{i:Nat} {a:α} {b:β},as[i]?=some a→bs[i]?=some b→R a b
 |_,_,.cons r t,0,_,_,h1,h2=>by cases h1;cases h2;exact r
 |_,_,.cons r t,i+1,a,b,h1,h2=>lX t (i:=i) (by simpa using h1) (by simpa using h2)
theorem aVt {xs ys:List V}:(List.zipWith (fun _ _:V=>V.bl true) xs ys)=(List.zipWith (fun _ _:V=>true) xs ys).map V.bl:=by
 rw [List.map_zipWith]
theorem aR7:∀(xs ys:List V),((List.zipWith (fun _ _:V=>true) xs ys).all id)=true
 |[],_=>by simp
 |_::_,[]=>by simp
 |x::xs,y::ys=>by rw [List.zipWith_cons_cons,List.all_cons,aR7 xs ys];rfl
theorem bAr (x:V) (xs:List V):qC (x::xs) (some 1) none=xs:=by
 unfold qC
 have e:HT.sIx (x::xs).length 0 (some 1)=1:=by
  rw [show (1:Int)=((1:Nat):Int) from rfl,HT.aA0,List.length_cons]
  lia
 rw [e,HT.aCo,List.length_cons]
 simp
theorem nw1 (x:V) (xs:List V):¬ (HT.sIx (x::xs).length 0 (some 1)=0∧HT.sIx (x::xs).length (x::xs).length none=(x::xs).length):=by
 rw [show (1:Int)=((1:Nat):Int) from rfl,HT.aA0,List.length_cons]
 lia
theorem aKm (T:Txt w K mg) (F:Forms P w K mg base) (dR:Ok P w K mg base 1 "is_one_of" ["thing","texts"] (zM K)):Ok P w K mg base 7 "has_form" ["thing"] (aZv K):=by
 refine Ok.ofV T.aL5 aAc (fun vs H Q E h=>?_) (fun f cdv A outer s H vs Q E hr h=>?_)
 ·obtain ⟨v,q,rfl,_⟩:=h;rfl
 obtain ⟨v,q0,rfl,hq,q⟩:=h
 obtain ⟨d,kvs,md,hd,hl,hfl,hat⟩:=aVr T F
 have aAx:∃u,mg "FORMS"=some u∧RelV (.ref d) u:=⟨_,md,rfl⟩
 obtain ⟨a,k,xs,t,fs,rfl,ha,hk8,hin,hf,ht,hf8,hp⟩:=hat H v q0 hq
 have hlen:=hp.len
 refine ⟨_,(aC (bR (VW.pt (sJ (jB (fC (aW nC (by rfl) T.cZ cR (aB (vv 0) (aB (lH (v:=.ty "tuple") (by rfl) T.cP cA rfl) aA))))) (sJ (aU cG (aW aX (by rfl) T.dB cH (aB (vv 0) aA)) aD (aZ _)) (pI (jB (fC (aJ (dR.mono (by decide)) hr (by rfl) (aB (aH aR (vv 0) aD (fun _ _=>rfl)) (aB (bF (aPk rfl) (by rfl) T.cP cA (aB (fY (by rfl) aAx) aA)) aA))))))))) (aF (aM uL)) bA) (aC (aV (i:=1) aAc.nd rfl (by trivial) (aH aVf (fY (by rfl) aAx) (aH aR (vv 0) aD (fun _ _=>rfl)) (fun _ _=>rfl))) (aC (bR (aU wB (aW aX (by rfl) T.dB cH (aB (vv 0) aA)) (bW fG (aW aX (by rfl) T.dB cH (aB (vv 1) aA)) aD) (aZ _)) (aF (aM uL)) bA) (aF (aM (aW (nM rfl) (by rfl) T.aCi vI (aB (bZ (N:=["is_part","part"]) (by trivial) (dZ (by decide +kernel)) rfl (aE2 (by rfl) T.aNo (aB (vv 1) (aB (dW aGk (vv 0) (eX aD) gU) aA))) (fun cl s' H' fp=>⟨(jQ (K:=K) (n:=2) rfl (bB (aL (i:=0) (show (["is_part","part"]:List Str).Nodup from by decide +kernel) rfl (Or.inl rfl)) (bB (aL (i:=1) (show (["is_part","part"]:List Str).Nodup from by decide +kernel) rfl (Or.inl rfl)) cW))),cI,(aIr (P:=P) (w:=w) (K:=K) (mg:=mg) (base:=base) hr (vv 0) (aB (vv 1) aA))⟩)) aA))))))),?_⟩
 refine ⟨_,rfl,_,_,rfl,.tup ha,_,rfl,bC ?_⟩
 refine ⟨_,rfl,_,_,rfl,.inr ha,rfl,_,rfl,?_⟩
 have e0:decide (V.int (((V.str k::xs).length:Nat):Int)=V.int 0)=false:=decide_eq_false (by intro z;have:=V.int.inj z;rw [List.length_cons] at this;lia)
 rw [e0]
 refine bC ⟨_,rfl,a,_,0,_,rfl,rfl,ha,at0 _ _,d,kvs,rfl,hd,hl,fun p1 H1 s1 g1=>⟨_,p1,_,rfl,pJ hk8,SqT.of g1,hfl,_,rfl,?_⟩⟩
 have e1:(isS (.str k) && inV (.str k) (kvs.map fun q=>V.str q.1))=true:=by rw [hin];rfl
 rw [e1]
 refine bC ⟨_,rfl,a,_,0,_,rfl,rfl,s1.aK ha,at0 _ _,d,kvs,k,t,rfl,rfl,hd,hf,?_⟩
 refine ⟨_,rfl,_,_,rfl,.inr (s1.aK ha),_,rfl,_,_,rfl,.inr (ht _),_,_,rfl,rfl,rfl,_,rfl,?_⟩
 have e2:(!decide (V.int (((V.str k::xs).length:Nat):Int)=V.int ((fs.length:Nat)+1:Int)))=false:=by rw [List.length_cons,hlen];simp
 rw [e2]
 refine bC ?_
 dsimp only [oK,aDl,tCB,fK]
 refine aOc fs xs (fun _ _=>.bl true) [none,none] gQ (small (by lia)) hlen (fun R r=>⟨_,rfl,_,rfl,_,rfl,a,_,rfl,s1.aK ha,nw1 _ _,fun p2 H2 s2 g2=>?_⟩) (fun i fv x ef ex H' R l1 l2 sm r=>?_) rfl rfl fun D H' sm hD=>?_
 ·rw [bAr] at g2
  exact r t p2 H2 s2 (ht _) (SqT.of g2)
 ·obtain ⟨fa,ps,sp,rfl,hh,hc⟩:=lX hp ef ex
  exact ⟨_,rfl,fa,ps,sp,rfl,hh,_,rfl,hc H' R (s1.trans sm) fun H2 s2=>r H2 s2⟩
 ·refine ⟨D,List.zipWith (fun _ _=>true) fs xs,rfl,SqL.of (by rw [hD,aVt]),?_⟩
  rw [aR7]
  exact q H' (s1.trans sm)
def kids:Qn→List Qn
 |.table _=>[]
 |.whr q _=>[q]
 |.keep q _=>[q]
 |.nmd q _=>[q]
 |.join q r _=>[q,r]
 |.group q _ _=>[q]
 |.first q _ _=>[q]
def own:Qn→Nat
 |.whr _ ts=>ts.length
 |_=>1
def size:Qn→Nat
 |.table _=>1
 |.whr q ts=>size q+ts.length
 |.keep q _=>size q+1
 |.nmd q _=>size q+1
 |.join q r _=>size q+size r+1
 |.group q _ _=>size q+1
 |.first q _ _=>size q+1
def sizes (qs:List Qn):Nat:=(qs.map size).sum
theorem pN (q:Qn):size q=own q+sizes (kids q):=by
 cases q <;> simp [size,own,sizes,kids] <;> lia
theorem tU {K:PySem.W.Frag} {H:Hp} {v:V} {q:Qn} (h:IsQ K H v q):1≤own q:=by
 cases h with
 |whr _ _ c=>exact c.2.1
 |_=>exact Nat.le_refl _
def aIj (K:PySem.W.Frag):Sp:=fun vs H Q _=>∃v q H0,vs=[v]∧Same H0 H∧IsQ K H0 v q∧∀D H' us,H D=none→Same H H'→H' D=some (.lst us)→bL (IsQ K H0) us (kids q)→Q (.ref D) H'
theorem rH (T:Txt w K mg):Ok P w K mg base 1 "questions_in" ["question"] (aIj K):=by
 refine Ok.ofV T.aCm aAr (fun vs H Q E h=>?_) (fun f cdv A outer s H vs Q E hr h=>?_)
 ·obtain ⟨v,q,H0,rfl,_⟩:=h;rfl
 obtain ⟨v,q0,H0,rfl,e,hq,q⟩:=h
 refine ⟨_,(aC (bR (aU cG (aH aR (vv 0) aD (fun _ _=>rfl)) aO (aZ _)) (aF (aM (cO aA))) bA) (aF (aM (gH (aU cG (aH aR (vv 0) aD (fun _ _=>rfl)) aO (aZ _)) (bF qZ (by rfl) T.aBu yC (aB (dW aGk (vv 0) (eX aD) (eX aD)) aA)) (cO (aB (aH aR (vv 0) aD (fun _ _=>rfl)) aA)))))),?_⟩
 cases hq with
 |table a b=>exact ⟨_,rfl,_,_,0,_,rfl,rfl,(e.aK a),at0 _ _,rfl,_,rfl,cC ⟨(by show 0≤sizeLine;decide),fun D H' f s' g=>q D H' _ f s' g .nil⟩⟩
 |whr a b c=>exact ⟨_,rfl,_,_,0,_,rfl,rfl,(e.aK a),at0 _ _,rfl,_,rfl,bC ⟨_,rfl,_,_,0,_,rfl,rfl,(e.aK a),at0 _ _,rfl,_,rfl,bC ⟨_,rfl,_,_,1,_,rfl,rfl,(e.aK a),at1 _ _ _,(by show 1≤sizeLine;decide),fun D H' f s' g=>q D H' _ f s' g (.cons b .nil)⟩⟩⟩
 |keep a b c=>exact ⟨_,rfl,_,_,0,_,rfl,rfl,(e.aK a),at0 _ _,rfl,_,rfl,bC ⟨_,rfl,_,_,0,_,rfl,rfl,(e.aK a),at0 _ _,rfl,_,rfl,bC ⟨_,rfl,_,_,1,_,rfl,rfl,(e.aK a),at1 _ _ _,(by show 1≤sizeLine;decide),fun D H' f s' g=>q D H' _ f s' g (.cons b .nil)⟩⟩⟩
 |nmd a b c=>exact ⟨_,rfl,_,_,0,_,rfl,rfl,(e.aK a),at0 _ _,rfl,_,rfl,bC ⟨_,rfl,_,_,0,_,rfl,rfl,(e.aK a),at0 _ _,rfl,_,rfl,bC ⟨_,rfl,_,_,1,_,rfl,rfl,(e.aK a),at1 _ _ _,(by show 1≤sizeLine;decide),fun D H' f s' g=>q D H' _ f s' g (.cons b .nil)⟩⟩⟩
 |group a b c d=>exact ⟨_,rfl,_,_,0,_,rfl,rfl,(e.aK a),at0 _ _,rfl,_,rfl,bC ⟨_,rfl,_,_,0,_,rfl,rfl,(e.aK a),at0 _ _,rfl,_,rfl,bC ⟨_,rfl,_,_,1,_,rfl,rfl,(e.aK a),at1 _ _ _,(by show 1≤sizeLine;decide),fun D H' f s' g=>q D H' _ f s' g (.cons b .nil)⟩⟩⟩
 |first a b c d=>exact ⟨_,rfl,_,_,0,_,rfl,rfl,(e.aK a),at0 _ _,rfl,_,rfl,bC ⟨_,rfl,_,_,0,_,rfl,rfl,(e.aK a),at0 _ _,rfl,_,rfl,bC ⟨_,rfl,_,_,1,_,rfl,rfl,(e.aK a),at1 _ _ _,(by show 1≤sizeLine;decide),fun D H' f s' g=>q D H' _ f s' g (.cons b .nil)⟩⟩⟩
 |join a b c d=>
  refine ⟨_,rfl,_,_,0,_,rfl,rfl,(e.aK a),at0 _ _,rfl,_,rfl,bC ⟨_,rfl,_,_,0,_,rfl,rfl,(e.aK a),at0 _ _,rfl,_,rfl,cC ⟨_,rfl,_,rfl,_,rfl,_,_,rfl,(e.aK a),(by show ¬ (HT.sIx 4 0 (some 1)=0∧HT.sIx 4 4 (some 3)=4);decide),fun p H1 s1 g1=>⟨p,_,rfl,.inr (SqT.of g1),fun D H' f s' g=>q D H' _ (s1.free f) (s1.trans s') g (.cons b (.cons c .nil))⟩⟩⟩⟩
def aRs (K:PySem.W.Frag):Sp:=fun vs H Q _=>∃v q,vs=[v]∧IsQ K H v q∧Q (.int (own q:Nat)) H
theorem aIk (T:Txt w K mg):Ok P w K mg base 1 "own_size" ["question"] (aRs K):=by
 refine Ok.ofV T.aMe aJh (fun vs H Q E h=>?_) (fun f cdv A outer s H vs Q E hr h=>?_)
 ·obtain ⟨v,q,rfl,_⟩:=h;rfl
 obtain ⟨v,q0,rfl,hq,q⟩:=h
 refine ⟨_,(aF (aM (gH (aU cG (aH aR (vv 0) aD (fun _ _=>rfl)) aO (aZ _)) (aW aX (by rfl) T.dB cH (aB (aH aR (vv 0) aD (fun _ _=>rfl)) aA)) aD))),?_⟩
 cases hq with
 |whr a b c=>
  obtain ⟨⟨p,us,rfl,hp,hr'⟩,_⟩:=c
  refine ⟨_,rfl,_,_,0,_,rfl,rfl,a,at0 _ _,rfl,_,rfl,cC ⟨_,rfl,_,_,2,_,rfl,rfl,a,at2 _ _ _ _,_,_,rfl,.inr hp,?_⟩⟩
  rw [hr'.len]
  exact q
 |table a b=>exact ⟨_,rfl,_,_,0,_,rfl,rfl,a,at0 _ _,rfl,_,rfl,bC q⟩
 |keep a b c=>exact ⟨_,rfl,_,_,0,_,rfl,rfl,a,at0 _ _,rfl,_,rfl,bC q⟩
 |nmd a b c=>exact ⟨_,rfl,_,_,0,_,rfl,rfl,a,at0 _ _,rfl,_,rfl,bC q⟩
 |group a b c d=>exact ⟨_,rfl,_,_,0,_,rfl,rfl,a,at0 _ _,rfl,_,rfl,bC q⟩
 |first a b c d=>exact ⟨_,rfl,_,_,0,_,rfl,rfl,a,at0 _ _,rfl,_,rfl,bC q⟩
 |join a b c d=>exact ⟨_,rfl,_,_,0,_,rfl,rfl,a,at0 _ _,rfl,_,rfl,bC q⟩
def aSc (K:PySem.W.Frag):Sp:=fun vs H Q _=>∃v q,vs=[v]∧IsQ K H v q∧size q≤20∧∀H',Same H H'→Q v H'
theorem aPd {α β:Type} {R:α→β→Prop} {as:List α} {bs:List β} (h:bL R as bs) (ne:as≠[]):∃as' a bs' b,as=as'++[a]∧bs=bs'++[b]∧bL R as' bs'∧R a b:=by
 induction h with
 |nil=>exact absurd rfl ne
 |@cons a b as bs r t ih=>
  cases t with
  |nil=>exact ⟨[],a,[],b,rfl,rfl,.nil,r⟩
  |cons r' t'=>
   obtain ⟨as',x,bs',y,e1,e2,h1,h2⟩:=ih (by simp)
   exact ⟨a::as',x,b::bs',y,by rw [e1];rfl,by rw [e2];rfl,.cons r h1,h2⟩
theorem yV (xs ys:List Qn):sizes (xs++ys)=sizes xs+sizes ys:=by unfold sizes;rw [List.map_append,List.sum_append]
theorem aPw {K:PySem.W.Frag} {H:Hp} {us:List V} {qs:List Qn} (h:bL (IsQ K H) us qs):us.length≤sizes qs:=by
 induction h with
 |nil=>exact Nat.le_refl _
 |@cons v q us qs r _ ih=>
  have:=tU r
  have e:=pN q
  show us.length+1≤(((q::qs).map size).sum)
  rw [List.map_cons,List.sum_cons]
  unfold sizes at ih
  lia
theorem aMd (T:Txt w K mg) (aLh:Ok P w K mg base 7 "has_form" ["thing"] (aZv K)) (cM:Ok P w K mg base 1 "questions_in" ["question"] (aIj K)) (aK3:Ok P w K mg base 1 "own_size" ["question"] (aRs K)):Ok P w K mg base 8 "checked" ["thing"] (aSc K):=by
 refine Ok.ofV T.aPz oA (fun vs H Q E h=>?_) (fun f cdv A outer s H vs Q E hr h=>?_)
 ·obtain ⟨v,q,rfl,_⟩:=h;rfl
 obtain ⟨v,q0,rfl,hq,h20,q⟩:=h
 refine ⟨_,(aC (aV (i:=1) oA.nd rfl (by trivial) aD) (aC (aV (i:=2) oA.nd rfl (by trivial) (cO (aB (vv 0) aA))) (aC (aQf PassesOwn.never (aQr (vv 2)) (aC (aV (i:=3) oA.nd rfl (by trivial) (aLk PySem.F.plainAttrs_list PySem.F.slot_list_pop PySem.F.type_list_pop aUe (vv 2))) (aC (bR (jB (fC (aJ (aLh.mono (by decide)) hr (by rfl) (aB (vv 3) aA)))) (aF jM) bA) (aC (aV (i:=1) oA.nd rfl (by trivial) (bW fG (vv 1) (aJ (aK3.mono (by decide)) hr (by rfl) (aB (vv 3) aA)))) (aC (bR (aU aJ1 (vv 1) (fY (by rfl) T.aIg) (aZ _)) (aF jM) bA) (aF (eF (uN PySem.F.plainAttrs_list PySem.F.slot_list_extend PySem.F.type_list_extend aKo (vv 2) (aB (aJ (cM.mono (by decide)) hr (by rfl) (aB (vv 3) aA)) aA))))))))) (aF (aM (vv 0)))))),?_⟩
 refine ⟨_,rfl,(by show 1≤sizeLine;decide),fun W H1 fW s1 g1=>?_⟩
 refine ⟨fun m σ H'=>∃sz us qs l,σ=[some v,some (.int (sz:Nat)),some (.ref W),l]∧Same H H'∧H' W=some (.lst us)∧bL (IsQ K H) us qs∧sz+sizes qs=size q0∧m=sizes qs,⟨_,0,_,[q0],_,rfl,s1,g1,.cons hq .nil,by simp [sizes],rfl⟩,?_⟩
 rintro m σ H' ⟨sz,us,qs,l,rfl,sm,eW,hu,hs,rfl⟩
 by_cases hne:us=[]
 ·subst hne
  refine ⟨_,rfl,false,.inl ⟨[],SqL.of eW,rfl⟩,?_⟩
  refine bC ?_
  exact ⟨_,rfl,q H' sm⟩
 ·obtain ⟨us',u,qs',p,rfl,rfl,hu',hp⟩:=aPd hu hne
  refine ⟨_,rfl,true,.inl ⟨_,SqL.of eW,by cases us' <;> rfl⟩,?_⟩
  refine cC ?_
  have hso:=pN p
  have hop:=tU hp
  have hsz:sizes (qs'++[p])=sizes qs'+size p:=by rw [yV];simp [sizes]
  refine ⟨fun σ' H''=>∃m',m'<sizes (qs'++[p])∧∃sz us qs l,σ'=[some v,some (.int (sz:Nat)),some (.ref W),l]∧Same H H''∧H'' W=some (.lst us)∧bL (IsQ K H) us qs∧sz+sizes qs=size q0∧m'=sizes qs,fun σ' H'' h=>h,?_⟩
  refine ⟨_,rfl,.inl ⟨rfl,_,SqL.of eW⟩,W,_,u,rfl,rfl,eW,?_,?_⟩
  ·rw [List.length_append,List.length_singleton,Nat.add_sub_cancel,List.getElem?_append_right (Nat.le_refl _),Nat.sub_self]
   rfl
  rw [List.dropLast_concat]
  have sx:Same H (upd H' W (.lst us')):=yH fW sm
  have ex:upd H' W (.lst us') W=some (.lst us'):=aQ
  generalize upd H' W (.lst us')=Hx at sx ex
  refine ⟨_,rfl,u,p,rfl,hp.same sx,fun H2 s2=>⟨_,rfl,bC ?_⟩⟩
  refine ⟨_,rfl,_,rfl,u,p,rfl,hp.same (sx.trans s2),_,_,rfl,rfl,?_⟩
  refine ⟨_,rfl,_,_,rfl,rfl,_,rfl,?_⟩
  have e20:decide ((20:Int)<(sz:Int)+(own p:Int))=false:=decide_eq_false (by lia)
  rw [e20]
  refine bC ?_
  refine ⟨_,rfl,.inl ⟨rfl,_,SqL.of (s2 _ _ ex)⟩,?_⟩
  refine ⟨_,rfl,u,p,H,rfl,sx.trans s2,hp,fun D H3 ws fD s3 gD hw=>?_⟩
  have lw:=hw.len
  have lu:=aPw hu'
  have lk:(kids p).length≤2:=by cases p <;> simp [kids]
  refine ⟨W,D,_,_,rfl,rfl,s3 _ _ (s2 _ _ ex),gD,small (by lia),?_⟩
  refine ⟨_,?_,sz+own p,us'++ws,qs'++kids p,some u,?_,yH fW (sx.trans (s2.trans s3)),aQ,hu'.app hw,?_,rfl⟩
  ·rw [yV];lia
  ·rw [show ((sz+own p:Nat):Int)=(sz:Int)+(own p:Int) from by lia];rfl
  ·rw [yV];lia
abbrev Hdr:=List (Str × Str)
def IsC (K:PySem.W.Frag) (H:Hp) (v:V) (c:Str × Str):Prop:=∃p,v=.ref p∧SqT K H p [.str c.1,.str c.2]
theorem IsC.same {K:PySem.W.Frag} {H H':Hp} {v:V} {c:Str × Str} (e:Same H H') (h:IsC K H v c):IsC K H' v c:=by
 obtain ⟨p,rfl,hp⟩:=h
 exact ⟨p,rfl,e.aK hp⟩
def eG (K:PySem.W.Frag) (H:Hp) (v:V) (hd:Hdr):Prop:=vQ K H (IsC K H) v hd
theorem eG.same {K:PySem.W.Frag} {H H':Hp} {v:V} {hd:Hdr} (e:Same H H') (h:eG K H v hd):eG K H' v hd:=vQ.same e (fun _ _ q=>q.same e) h
def look (hd:Hdr) (n:Str):Option Str:=(hd.find? fun c=>decide (c.1=n)).map (·.2)
theorem aAs {n k:Str}:∀{hd:Hdr},look hd n=some k→∃i,hd[i]?=some (n,k)∧∀(j:Nat) (c:Str × Str),j<i→hd[j]?=some c→c.1≠n
 |[],h=>by cases h
 |(m,j)::r,h=>by
  unfold look at h
  rw [List.find?_cons] at h
  by_cases e:m=n
  ·rw [decide_eq_true (p:=(m,j).1=n) e] at h
   have h':j=k:=Option.some.inj h
   subst e h'
   exact ⟨0,rfl,fun j c hj=>absurd hj (Nat.not_lt_zero _)⟩
  ·rw [decide_eq_false (p:=(m,j).1=n) e] at h
   obtain ⟨i,h1,h2⟩:=aAs (hd:=r) h
   refine ⟨i+1,by simpa using h1,fun j' c hj hc=>?_⟩
   cases j' with
   |zero=>cases hc;exact e
   |succ j'=>exact h2 j' c (by lia) (by simpa using hc)
theorem bJ {α β:Type} {R:α→β→Prop}:∀{as:List α} {bs:List β},bL R as bs→∀{i:Nat} {a:α},as[i]?=some a→∃b,bs[i]?=some b∧R a b
 |_,_,.cons r t,0,_,h1=>by cases h1;exact ⟨_,rfl,r⟩
 |_,_,.cons r t,i+1,a,h1=>by
  obtain ⟨b,e,q⟩:=bJ t (i:=i) (a:=a) (by simpa using h1)
  exact ⟨b,by simpa using e,q⟩
theorem wI {α β:Type} {R:α→β→Prop}:∀{as:List α} {bs:List β},as.length=bs.length→(∀(i:Nat) (a:α) (b:β),as[i]?=some a→bs[i]?=some b→R a b)→bL R as bs
 |[],[],_,_=>.nil
 |a::as,b::bs,hl,h=>.cons (h 0 a b rfl rfl) (wI (by simpa using hl) fun i x y h1 h2=>h (i+1) x y (by simpa using h1) (by simpa using h2))
theorem aFy {us:List V} {ns:List Str} (h:bL (fH K H) us ns):us=ns.map V.str:=by
 induction h with
 |nil=>rfl
 |cons r _ ih=>rw [List.map_cons,ih,r.1]
def yU (K:PySem.W.Frag):Sp:=fun vs H Q _=>∃vh n hd k,vs=[vh,.str n]∧eG K H vh hd∧look hd n=some k∧Q (.str k) H
theorem aMf (T:Txt w K mg):Ok P w K mg base 1 "kind_in" ["head","name"] (yU K):=by
 refine Ok.ofV T.aOq aB1 (fun vs H Q E h=>?_) (fun f cdv A outer s H vs Q E hr h=>?_)
 ·obtain ⟨vh,n,hd,k,rfl,_⟩:=h;rfl
 obtain ⟨vh,n,hd,k,rfl,⟨a,us,rfl,ha,hu⟩,hk,q⟩:=h
 refine ⟨_,(aC (jD PassesOwn.never rfl (eO (vv 0)) (aL (i:=2) aB1.nd rfl (by trivial)) (aF (bR (aU cG (aH (cD (K:=K)) (vv 2) aD (fun _ _=>rfl)) (vv 1) (aZ _)) (aF (aM (aH (cD (K:=K)) (vv 2) aD (fun _ _=>rfl)))) bA))) (aF jM)),?_⟩
 obtain ⟨i0,h0,hf⟩:=aAs hk
 have hi0:i0<us.length:=by rw [hu.len];exact (List.getElem?_eq_some_iff.mp h0).1
 refine ⟨_,rfl,a,rfl,⟨_,ha⟩,aAt (xs:=us) (fun i σ H'=>H'=H∧i≤i0∧∃l,σ=[some (.ref a),some (.str n),l]) ⟨rfl,Nat.zero_le _,_,rfl⟩ (fun i σ H' _ ⟨e,_⟩=>by rw [e];exact ha) ?_ ?_⟩
 ·rintro i x σ H' hx ⟨rfl,hi,l,rfl⟩
  obtain ⟨c,hc,p,rfl,hp⟩:=bJ hu hx
  refine ⟨_,rfl,p,_,0,_,rfl,rfl,hp,at0 _ _,_,rfl,rfl,_,rfl,?_⟩
  by_cases e:i=i0
  ·subst e
   rw [h0] at hc
   cases hc
   rw [decide_eq_true rfl]
   exact cC ⟨_,rfl,p,_,1,_,rfl,rfl,hp,at1 _ _ _,q⟩
  ·have hn:=hf i c (by lia) hc
   rw [decide_eq_false (by intro z;exact hn (V.str.inj z))]
   exact bC ⟨rfl,by lia,_,rfl⟩
 ·rintro σ H' ⟨rfl,hi,_⟩
  lia
def aE4 (K:PySem.W.Frag):Sp:=fun vs H Q _=>∃(a b:Addr) (xs:List Str),vs=[.ref a,.ref b]∧SqL K H a (xs.map V.str)∧SqL K H b (xs.map V.str)∧Q .non H
theorem vB (T:Txt w K mg):Ok P w K mg base 1 "need_like_kinds" ["kinds","others"] (aE4 K):=by
 refine Ok.ofV T.wZ vO (fun vs H Q E h=>?_) (fun f cdv A outer s H vs Q E hr h=>?_)
 ·obtain ⟨a,b,xs,rfl,_⟩:=h;rfl
 obtain ⟨a,b,xs,rfl,ha,hb,q⟩:=h
 have hu:=uP hr
 exact ⟨_,(aF (bR (aU (aXt (Nat.lt_of_succ_lt hu)) (vv 0) (vv 1) (aZ _)) (aF jM) bA)),⟨_,rfl,_,rfl,a,b,xs,rfl,rfl,ha,hb,_,rfl,bC q⟩⟩
def aFq (K:PySem.W.Frag):Sp:=fun vs H Q _=>∃(a:Addr) (ss:List Str),vs=[.ref a]∧SqL K H a (ss.map V.str)∧ss.length≤1000∧ss.Nodup∧∀H',Same H H'→Q .non H'
theorem aBa (T:Txt w K mg) (aFi:Ok P w K mg base 1 "are_unlike" ["names"] (aEp K)):Ok P w K mg base 2 "need_unlike" ["names"] (aFq K):=by
 refine Ok.ofV T.aC7 aBn (fun vs H Q E h=>?_) (fun f cdv A outer s H vs Q E hr h=>?_)
 ·obtain ⟨a,ss,rfl,_⟩:=h;rfl
 obtain ⟨a,ss,rfl,ha,hl,nd,q⟩:=h
 refine ⟨_,(aF (bR (jB (fC (aJ (aFi.mono (by decide)) hr (by rfl) (aB (vv 0) aA)))) (aF jM) bA)),?_⟩
 refine ⟨_,rfl,a,ss,rfl,ha,hl,fun H1 s1=>⟨_,rfl,?_⟩⟩
 rw [decide_eq_true ((aVj ss).mpr nd)]
 exact bC (q H1 s1)
def aV4:Sp:=fun vs H Q _=>∃d n v kvs,vs=[.ref d,.str n]∧H d=some (.dK kvs)∧mU kvs (Sum.inr n)=some v∧Q v H
theorem aDy (T:Txt w K mg):Ok P w K mg base 1 "table_head" ["heads","name"] aV4:=by
 refine Ok.ofV T.aF5 aCs (fun vs H Q E h=>?_) (fun f cdv A outer s H vs Q E hr h=>?_)
 ·obtain ⟨d,n,v,kvs,rfl,_⟩:=h;rfl
 obtain ⟨d,n,v,kvs,rfl,hd,hv,q⟩:=h
 have hu:=uP hr
 refine ⟨_,(aC (bR (aOh hu (vv 1) (vv 0)) (aF jM) bA) (aF (aM (lC hu (vv 0) (vv 1) (fun _ _=>rfl))))),?_⟩
 have g:=rJ.k (k:=Sum.inr n) hd
 rw [hv] at g
 exact ⟨_,rfl,_,rfl,d,_,rfl,g,_,rfl,bC ⟨_,rfl,_,rfl,d,v,rfl,g,q⟩⟩
def kindS (v:V):Str:=if whole v then "number" else "word"
def aTd (hd:Hdr):Oth→Option Str
 |.val x=>some (kindS x)
 |.col d=>look hd d
def aQq (K:PySem.W.Frag):Sp:=fun vs H Q _=>∃vh u hd o k,vs=[vh,u]∧eG K H vh hd∧IsO K H u o∧aTd hd o=some k∧Q (.str k) H
theorem aDe (T:Txt w K mg) (aQa:Ok P w K mg base 2 "kind_of" ["value"] (aN0 K)) (fQ:Ok P w K mg base 1 "kind_in" ["head","name"] (yU K)):Ok P w K mg base 3 "other_kind" ["head","other"] (aQq K):=by
 refine Ok.ofV T.aFj aCv (fun vs H Q E h=>?_) (fun f cdv A outer s H vs Q E hr h=>?_)
 ·obtain ⟨vh,u,hd,o,k,rfl,_⟩:=h;rfl
 obtain ⟨vh,u,hd,o,k,rfl,hh,ho,hk,q⟩:=h
 refine ⟨_,(aF (aM (gH (aU cG (aH aR (vv 1) aD (fun _ _=>rfl)) aO (aZ _)) (aJ (aQa.mono (by decide)) hr (by rfl) (aB (aH aR (vv 1) aD (fun _ _=>rfl)) aA)) (aJ (fQ.mono (by decide)) hr (by rfl) (aB (vv 0) (aB (aH aR (vv 1) aD (fun _ _=>rfl)) aA)))))),?_⟩
 cases o with
 |val x=>
  obtain ⟨a,rfl,ha,hx,_⟩:=ho
  cases hk
  exact ⟨_,rfl,a,_,0,_,rfl,rfl,ha,at0 _ _,rfl,_,rfl,cC ⟨_,rfl,a,_,1,_,rfl,rfl,ha,at1 _ _ _,x,rfl,hx,q⟩⟩
 |col d=>
  obtain ⟨a,rfl,ha,_⟩:=ho
  exact ⟨_,rfl,a,_,0,_,rfl,rfl,ha,at0 _ _,rfl,_,rfl,bC ⟨_,rfl,_,rfl,a,_,1,_,rfl,rfl,ha,at1 _ _ _,_,_,hd,k,rfl,hh,hk,q⟩⟩
def dM (hd:Hdr) (t:Tst):Prop:=∃k,look hd t.c=some k∧aTd hd t.o=some k
def aWh (K:PySem.W.Frag):Sp:=fun vs H Q _=>∃vh u hd ts,vs=[vh,u]∧eG K H vh hd∧vQ K H (IsT K H) u ts∧ts.length≤8∧(∀t∈ts,dM hd t)∧∀H',Same H H'→Q vh H'
theorem kinds_of {α:Type} {p:α→Str→Prop}:∀{ts:List α},(∀t∈ts,∃k,p t k)→∃ks,bL p ts ks
 |[],_=>⟨[],.nil⟩
 |t::r,h=>by
  obtain ⟨k,hk⟩:=h t (List.mem_cons_self ..)
  obtain ⟨ks,hks⟩:=kinds_of (ts:=r) fun u hu=>h u (List.mem_cons_of_mem _ hu)
  exact ⟨k::ks,.cons hk hks⟩
theorem dJ {α:Type} {f:α→V} {xs:List α} {i:Nat} {y:V} (h:(xs.map f)[i]?=some y):∃x,xs[i]?=some x∧y=f x:=by
 rw [List.getElem?_map] at h
 cases e:xs[i]? with
 |none=>rw [e] at h;cases h
 |some x=>rw [e] at h;cases h;exact ⟨x,rfl,rfl⟩
theorem aC6 (T:Txt w K mg) (jJ:Ok P w K mg base 1 "need_like_kinds" ["kinds","others"] (aE4 K)) (fQ:Ok P w K mg base 1 "kind_in" ["head","name"] (yU K)) (aF7:Ok P w K mg base 3 "other_kind" ["head","other"] (aQq K)) :
  Ok P w K mg base 4 "where_head" ["head","tests"] (aWh K):=by
 refine Ok.ofV T.aFg aCr (fun vs H Q E h=>?_) (fun f cdv A outer s H vs Q E hr h=>?_)
 ·obtain ⟨vh,u,hd,ts,rfl,_⟩:=h;rfl
 obtain ⟨vh,u,hd,ts,rfl,hh,⟨a,us,rfl,ha,hu⟩,hl8,hok,q⟩:=h
 refine ⟨_,(aC (eF (aJ (jJ.mono (by decide)) hr (by rfl) (aB (bZ (N:=["test","head"]) (by trivial) (cV (aG jR) rfl (by decide +kernel)) rfl (eO (vv 1)) (fun cl s' H' fp=>⟨(aL (i:=0) (show (["test","head"]:List Str).Nodup from by decide +kernel) rfl (Or.inl rfl)),cI,(aJ (fQ.mono (by decide)) hr (by rfl) (aB (vv 1) (aB (aH (cD (K:=K)) (vv 0) aD (fun _ _=>rfl)) aA)))⟩)) (aB (bZ (N:=["test","head"]) (by trivial) (cV (aG jR) rfl (by decide +kernel)) rfl (eO (vv 1)) (fun cl s' H' fp=>⟨(aL (i:=0) (show (["test","head"]:List Str).Nodup from by decide +kernel) rfl (Or.inl rfl)),cI,(aJ (aF7.mono (by decide)) hr (by rfl) (aB (vv 1) (aB (aH (cD (K:=K)) (vv 0) aD (fun _ _=>rfl)) aA)))⟩)) aA)))) (aF (aM (vv 0)))),?_⟩
 obtain ⟨ks,hks⟩:=kinds_of hok
 have l1:=hu.len
 have l2:=hks.len
 dsimp only [gY,aM8,uO,fK]
 refine iT us (ks.map V.str) (by rw [List.length_map];lia) [none,some vh] ?_ (small (by lia)) (fun R r=>mD ha (fun R' r'=>⟨_,rfl,r'⟩) R r) (fun i x y ex ey H' R l sm r=>?_) rfl fun D1 H1 s1 g1=>?_
 ·exact cX 0 (by decide +kernel) rfl rfl (by trivial)
 ·obtain ⟨t,ht,p,w',rfl,hp,_,_,ho⟩:=bJ hu ex
  obtain ⟨k,hk,rfl⟩:=dJ ey
  have hq:=lX hks ht hk
  exact ⟨_,rfl,_,rfl,p,_,0,_,rfl,rfl,sm.aK hp,at0 _ _,_,_,hd,k,rfl,hh.same sm,hq.1,r H' (Same.refl H')⟩
 refine iT us (ks.map V.str) (by rw [List.length_map];lia) [none,some vh] ?_ (small (by lia)) (fun R r=>mD (s1.aK ha) (fun R' r'=>⟨_,rfl,r'⟩) R r) (fun i x y ex ey H' R l sm r=>?_) rfl fun D2 H2 s2 g2=>?_
 ·exact cX 0 (by decide +kernel) rfl rfl (by trivial)
 ·obtain ⟨t,ht,p,w',rfl,hp,_,_,ho⟩:=bJ hu ex
  obtain ⟨k,hk,rfl⟩:=dJ ey
  have hq:=lX hks ht hk
  exact ⟨_,rfl,_,rfl,p,_,2,_,rfl,rfl,sm.aK (s1.aK hp),at2 _ _ _ _,_,_,hd,t.o,k,rfl,hh.same (s1.trans sm),ho.same (s1.trans sm),hq.2,r H' (Same.refl H')⟩
 exact ⟨D1,D2,ks,rfl,SqL.of (s2 _ _ g1),SqL.of g2,⟨_,rfl,q H2 (s1.trans s2)⟩⟩
def aM5 (K:PySem.W.Frag) (H:Hp) (v:V) (ns:List Str):Prop:=∃a,v=.ref a∧(SqL K H a (ns.map V.str)∨SqT K H a (ns.map V.str))
theorem aLu {lo hi:Nat} {H:Hp} {v:V} {ns:List Str} (h:gM fH lo hi K H v ns):aM5 K H v ns:=by
 obtain ⟨⟨a,us,rfl,ha,hr⟩,_⟩:=h
 rw [aFy hr] at ha
 exact ⟨a,rfl,.inr ha⟩
def Looks (hd:Hdr) (ns ks:List Str):Prop:=bL (fun n k=>look hd n=some k) ns ks
def aM0 (K:PySem.W.Frag):Sp:=fun vs H Q _=>∃vh u hd ns ks,vs=[vh,u]∧eG K H vh hd∧aM5 K H u ns∧ns.length≤1000∧Looks hd ns ks∧∀v H',Same H H'→eG K H' v (ns.zip ks)→Q v H'
theorem aYm {K:PySem.W.Frag} {a:Addr} {xs:List V} {tl:TE} {σ:L2.St} {H:Hp} (hS:SqL K H a xs∨SqT K H a xs) (h:∀R:VK,R (.ref a) H→tl σ H R) (R:It→Hp→Prop)
  (q:∀J:It,(∀H' i x,Same H H'→xs[i]?=some x→J.go i H'∧∀y H2,J.yld i H' y H2→H2=H'∧y=x)→(∀H',Same H H'→J.stop xs.length H')→R J H):rG K tl σ H R∨aCx K tl σ H R:=by
 rcases hS with hS|hS
 ·exact .inl (uF (fun H' sm=>sm.seq hS) h R q)
 ·exact .inr (mD hS h R q)
def eN (K:PySem.W.Frag) (cs:Hdr):Nat→Hp→V→Prop:=fun i H y=>∃c p,cs[i]?=some c∧y=.ref p∧H p=some (.tup [.str c.1,.str c.2])
theorem eN.st {cs:Hdr} {i:Nat} {H1 H2:Hp} {y:V} (e:Same H1 H2) (h:eN K cs i H1 y):eN K cs i H2 y:=by
 obtain ⟨c,p,h1,h2,h3⟩:=h
 exact ⟨c,p,h1,h2,e _ _ h3⟩
theorem eN.su {cs:Hdr} {i:Nat} {H1:Hp} {D:Addr} {ys zs:List V} {y:V} (hD:H1 D=some (.lst ys)) (h:eN K cs i H1 y):eN K cs i (upd H1 D (.lst zs)) y:=by
 obtain ⟨c,p,h1,h2,h3⟩:=h
 exact ⟨c,p,h1,h2,by rw [bH (wV h3 hD (by intro z;cases z))];exact h3⟩
theorem aAz {cs:Hdr} {H:Hp} {a:Addr} {ys:List V} (ha:SqT K H a ys) (hl:ys.length=cs.length) (h:∀(i:Nat) (y:V),ys[i]?=some y→eN K cs i H y):eG K H (.ref a) cs:=by
 refine ⟨a,ys,rfl,ha,wI hl fun i y c e1 e2=>?_⟩
 obtain ⟨c',p,h1,h2,h3⟩:=h i y e1
 rw [e2] at h1
 cases h1
 exact ⟨p,h2,SqT.of h3⟩
theorem aLs {ns ks:List Str} {i:Nat} {n k:Str} (h1:ns[i]?=some n) (h2:ks[i]?=some k):(ns.zip ks)[i]?=some (n,k):=by
 rw [List.zip,List.getElem?_zipWith,h1,h2]
theorem aGi (T:Txt w K mg) (fQ:Ok P w K mg base 1 "kind_in" ["head","name"] (yU K)):Ok P w K mg base 2 "keep_head" ["head","names"] (aM0 K):=by
 refine Ok.ofV T.aHt aGc (fun vs H Q E h=>?_) (fun f cdv A outer s H vs Q E hr h=>?_)
 ·obtain ⟨vh,u,hd,ns,ks,rfl,_⟩:=h;rfl
 obtain ⟨vh,u,hd,ns,ks,rfl,hh,⟨a,rfl,ha⟩,hl,hk,q⟩:=h
 refine ⟨_,(aF (aM (bF bU (by rfl) T.cP cA (aB (bZ (N:=["name","head"]) (by trivial) (cV (aG oJ) rfl (by decide +kernel)) rfl (aX1 (vv 1)) (fun cl s' H' fp=>⟨(aL (i:=0) (show (["name","head"]:List Str).Nodup from by decide +kernel) rfl (Or.inl rfl)),cI,(aY (aB (vv 0) (aB (aJ (fQ.mono (by decide)) hr (by rfl) (aB (vv 1) (aB (vv 0) aA))) aA)))⟩)) aA)))),?_⟩
 have hln:=hk.len
 dsimp only [aDl,tCB,fK]
 refine pR (ns.map V.str) (eN K (ns.zip ks)) eN.st eN.su [none,some vh] ?_ (small (by rw [List.length_map];exact hl)) (fun R r=>aYm ha (fun R' r'=>⟨_,rfl,r'⟩) R r) (fun i x ex H' R l sm r=>?_) rfl fun D H' ys sm hD hly hR=>?_
 ·exact cX 0 (by decide +kernel) rfl rfl (by trivial)
 ·obtain ⟨n,hn,rfl⟩:=dJ ex
  obtain ⟨k,hkk,hlk⟩:=bJ hk hn
  exact ⟨_,rfl,_,rfl,_,rfl,_,_,hd,k,rfl,hh.same sm,hlk,(by show 2≤sizeLine;decide),fun p H2 _ s2 g2=>r _ _ s2 ⟨(n,k),p,aLs hn hkk,rfl,g2⟩⟩
 ·refine ⟨D,_,rfl,SqL.of hD,fun t H2 _ s2 g2=>q _ _ (sm.trans s2) (aAz (SqT.of g2) ?_ fun i y e=>(hR i y e).st s2)⟩
  rw [hly,List.length_map,List.length_zip]
  lia
def aSz (K:PySem.W.Frag):Sp:=fun vs H Q _=>∃vh u hd ns,vs=[vh,u]∧eG K H vh hd∧(∃a,u=.ref a∧SqT K H a (ns.map V.str))∧ns.length≤1000∧ns.length=hd.length∧∀v H',Same H H'→eG K H' v (List.zipWith (fun n c=>(n,c.2)) ns hd)→Q v H'
theorem aDk (T:Txt w K mg):Ok P w K mg base 1 "named_head" ["head","names"] (aSz K):=by
 refine Ok.ofV T.aGv aCq (fun vs H Q E h=>?_) (fun f cdv A outer s H vs Q E hr h=>?_)
 ·obtain ⟨vh,u,hd,ns,rfl,_⟩:=h;rfl
 obtain ⟨vh,u,hd,ns,rfl,⟨b,us,rfl,hb,hu⟩,⟨a,rfl,ha⟩,hl,hle,q⟩:=h
 refine ⟨_,(aC (bR (aU wB (aW aX (by rfl) T.dB cH (aB (vv 1) aA)) (aW aX (by rfl) T.dB cH (aB (vv 0) aA)) (aZ _)) (aF jM) bA) (aF (aM (bF bU (by rfl) T.cP cA (aB (bZ (N:=["name","column"]) (by trivial) (dZ (by decide +kernel)) rfl (aE2 (by rfl) T.aNo (aB (vv 1) (aB (vv 0) aA))) (fun cl s' H' fp=>⟨(jQ (K:=K) (n:=2) rfl (bB (aL (i:=0) (show (["name","column"]:List Str).Nodup from by decide +kernel) rfl (Or.inl rfl)) (bB (aL (i:=1) (show (["name","column"]:List Str).Nodup from by decide +kernel) rfl (Or.inl rfl)) cW))),cI,(aY (aB (vv 0) (aB (aH (cD (K:=K)) (vv 1) aD (fun _ _=>rfl)) aA)))⟩)) aA))))),?_⟩
 have hlu:=hu.len
 refine ⟨_,rfl,_,_,rfl,.inr ha,_,rfl,_,_,rfl,.inr hb,rfl,_,rfl,?_⟩
 have e:(!decide (V.int ((ns.map V.str).length:Nat)=V.int (us.length:Nat)))=false:=by rw [List.length_map,hle,hlu];simp
 rw [e]
 refine bC ?_
 dsimp only [oK,aDl,tCB,fK]
 refine aPm (ns.map V.str) us (eN K (List.zipWith (fun n c=>(n,c.2)) ns hd)) eN.st eN.su [none,none] gQ (small (by rw [List.length_map];exact hl)) (by rw [List.length_map];lia) (fun R r=>⟨_,rfl,_,rfl,r a b H (Same.refl H) ha hb⟩) (fun i x y ex ey H' R l1 l2 sm r=>?_) rfl rfl fun D H' zs sm hD hlz hR=>?_
 ·obtain ⟨n,hn,rfl⟩:=dJ ex
  obtain ⟨c,hc,p,rfl,hp⟩:=bJ hu ey
  refine ⟨_,rfl,_,rfl,p,_,1,_,rfl,rfl,sm.aK hp,at1 _ _ _,(by show 2≤sizeLine;decide),fun t H2 _ s2 g2=>r _ _ s2 ⟨(n,c.2),t,?_,rfl,g2⟩⟩
  rw [List.getElem?_zipWith,hn,hc]
 ·refine ⟨D,_,rfl,SqL.of hD,fun t H2 _ s2 g2=>q _ _ (sm.trans s2) (aAz (SqT.of g2) ?_ fun i y e=>(hR i y e).st s2)⟩
  rw [hlz,List.length_map,List.length_zipWith]
  lia
def aV3 (K:PySem.W.Frag):Sp:=fun vs H Q _=>∃vh vo u hd ho ps ks,vs=[vh,vo,u]∧eG K H vh hd∧eG K H vo ho∧vQ K H (jW K H) u ps∧ps.length≤8∧hd.length≤100∧ho.length≤100∧bL (fun p k=>look hd p.1=some k∧look ho p.2=some k) ps ks∧(ps.map (·.1)).Nodup∧(ps.map (·.2)).Nodup ∧
 ∀v H',Same H H'→eG K H' v (hd++ho.filter fun c=>!decide (c.1∈ps.map (·.2)))→Q v H'
theorem lK {n:Str} {ss:List Str}:inV (.str n) (ss.map V.str)=decide (n∈ss):=by
 unfold inV
 rw [Bool.eq_iff_iff,List.any_eq_true,decide_eq_true_eq]
 constructor
 ·rintro ⟨v,hv,e⟩
  obtain ⟨z,hz,rfl⟩:=List.mem_map.mp hv
  have e2:(z == n)=true:=e
  have e3:z=n:=by simpa using e2
  rw [←e3];exact hz
 ·intro h
  refine ⟨.str n,List.mem_map.mpr ⟨n,h,rfl⟩,?_⟩
  show (n == n)=true
  simp
theorem iJ {ss:List Str}:(ss.map V.str).all jY=true:=by
 rw [List.all_eq_true]
 intro v hv
 obtain ⟨z,_,rfl⟩:=List.mem_map.mp hv
 rfl
theorem kY {α:Type} {p:Nat→Bool} {p':α→Bool}:∀{k:Nat} {xs:List α},(∀(i:Nat) (x:α),xs[i]?=some x→p (k+i)=p' x)→sel p k xs=xs.filter p'
 |_,[],_=>rfl
 |k,x::r,h=>by
  have h0:=h 0 x rfl
  rw [Nat.add_zero] at h0
  show (if p k then x::sel p (k+1) r else sel p (k+1) r)=_
  rw [List.filter_cons,h0,kY (k:=k+1) (xs:=r) fun i y e=>by rw [show k+1+i=k+(i+1) by lia];exact h (i+1) y (by simpa using e)]
theorem aIh {α β:Type} {R:α→β→Prop} {p:Nat→Bool} {as:List α} {bs:List β} (h:bL R as bs):∀k,bL R (sel p k as) (sel p k bs):=by
 induction h with
 |nil=>exact fun _=>.nil
 |@cons a b as bs r _ ih=>
  intro k
  show bL R (if p k then a::sel p (k+1) as else sel p (k+1) as) (if p k then b::sel p (k+1) bs else sel p (k+1) bs)
  split
  ·exact .cons r (ih _)
  ·exact ih _
def aEh (ho:Hdr) (ss:List Str) (i:Nat):Bool:=match ho[i]? with
 |some c=>!decide (c.1∈ss)
 |none=>false
theorem aFt (T:Txt w K mg) (jJ:Ok P w K mg base 1 "need_like_kinds" ["kinds","others"] (aE4 K)) (fQ:Ok P w K mg base 1 "kind_in" ["head","name"] (yU K)) (fB:Ok P w K mg base 2 "need_unlike" ["names"] (aFq K)) :
  Ok P w K mg base 3 "join_head" ["head","other","pairs"] (aV3 K):=by
 refine Ok.ofV T.aH9 qR (fun vs H Q E h=>?_) (fun f cdv A outer s H vs Q E hr h=>?_)
 ·obtain ⟨vh,vo,u,hd,ho,ps,ks,rfl,_⟩:=h;rfl
 obtain ⟨vh,vo,u,hd,ho,ps,ks,rfl,hh,hho,⟨a,us,rfl,ha,hu⟩,hl8,hl1,hl2,hks,nd1,nd2,q⟩:=h
 refine ⟨_,(aC (iR (i0:=3) qR.nd rfl (by trivial) (N:=["pair"]) (by trivial) (dZ (by decide +kernel)) rfl (eO (vv 2)) (fun cl s' H' fp=>⟨(aL (i:=0) (show (["pair"]:List Str).Nodup from by decide +kernel) rfl (Or.inl rfl)),cI,(aH (cD (K:=K)) (vv 0) aD (fun _ _=>rfl))⟩)) (aC (aV (i:=4) qR.nd rfl (by trivial) (bZ (N:=["pair"]) (by trivial) (dZ (by decide +kernel)) rfl (eO (vv 2)) (fun cl s' H' fp=>⟨(aL (i:=0) (show (["pair"]:List Str).Nodup from by decide +kernel) rfl (Or.inl rfl)),cI,(aH (cD (K:=K)) (vv 0) aD (fun _ _=>rfl))⟩))) (aC (eF (aJ (jJ.mono (by decide)) hr (by rfl) (aB (bZ (N:=["name","head"]) (by trivial) (cV (aG iY) rfl (by decide +kernel)) rfl (eE (vv 3)) (fun cl s' H' fp=>⟨(aL (i:=0) (show (["name","head"]:List Str).Nodup from by decide +kernel) rfl (Or.inl rfl)),cI,(aJ (fQ.mono (by decide)) hr (by rfl) (aB (vv 1) (aB (vv 0) aA)))⟩)) (aB (bZ (N:=["name","other"]) (by trivial) (cV (aG iY) rfl (by decide +kernel)) rfl (eE (vv 4)) (fun cl s' H' fp=>⟨(aL (i:=0) (show (["name","other"]:List Str).Nodup from by decide +kernel) rfl (Or.inl rfl)),cI,(aJ (fQ.mono (by decide)) hr (by rfl) (aB (vv 1) (aB (vv 0) aA)))⟩)) aA)))) (aC (eF (aJ (fB.mono (by decide)) hr (by rfl) (aB (vv 3) aA))) (aC (eF (aJ (fB.mono (by decide)) hr (by rfl) (aB (vv 4) aA))) (aF (aM (bW pX (vv 0) (bF bU (by rfl) T.cP cA (aB (bZ (N:=["column","there"]) (by trivial) (cV (aG iY) rfl (by decide +kernel)) rfl (eO (vv 1)) (fun cl s' H' fp=>⟨(aL (i:=0) (show (["column","there"]:List Str).Nodup from by decide +kernel) rfl (Or.inl rfl)),(pZ (aU (iG (K:=K)) (aH (cD (K:=K)) (vv 0) aD (fun _ _=>rfl)) (vv 1) (by with_unfolding_all rfl))),(vv 0)⟩)) aA)))))))))),?_⟩
 have lu:=hu.len
 have lk:=hks.len
 dsimp only [gY,iU]
 refine iT us ((ps.map (·.1)).map V.str) (by rw [List.length_map,List.length_map];lia) [none] mX (small (by lia)) (fun R r=>mD ha (fun R' r'=>⟨_,rfl,r'⟩) R r) (fun i x y ex ey H' R l sm r=>?_) rfl fun D1 H1 s1 g1=>?_
 ·obtain ⟨p,hp,b,rfl,hb,_⟩:=bJ hu ex
  obtain ⟨n,hn,rfl⟩:=dJ ey
  rw [List.getElem?_map,hp] at hn
  cases hn
  exact ⟨_,rfl,b,_,0,_,rfl,rfl,sm.aK hb,at0 _ _,r H' (Same.refl H')⟩
 dsimp only [bO,gY,iU]
 refine iT us ((ps.map (·.2)).map V.str) (by rw [List.length_map,List.length_map];lia) [none] mX (small (by lia)) (fun R r=>mD (s1.aK ha) (fun R' r'=>⟨_,rfl,r'⟩) R r) (fun i x y ex ey H' R l sm r=>?_) rfl fun D2 H2 s2 g2=>?_
 ·obtain ⟨p,hp,b,rfl,hb,_⟩:=bJ hu ex
  obtain ⟨n,hn,rfl⟩:=dJ ey
  rw [List.getElem?_map,hp] at hn
  cases hn
  exact ⟨_,rfl,b,_,1,_,rfl,rfl,sm.aK (s1.aK hb),at1 _ _ _,r H' (Same.refl H')⟩
 dsimp only [bO,gY,iU,aM8,uO,fK]
 refine iT ((ps.map (·.1)).map V.str) (ks.map V.str) (by rw [List.length_map,List.length_map,List.length_map];lia) [none,some vh] ?_ (small (by rw [List.length_map,List.length_map];lia)) (fun R r=>uF (fun H' sm=>SqL.of (sm _ _ (s2 _ _ g1))) (fun R' r'=>⟨_,rfl,r'⟩) R r) (fun i x y ex ey H' R l sm r=>?_) rfl fun D3 H3 s3 g3=>?_
 ·exact cX 0 (by decide +kernel) rfl rfl (by trivial)
 ·obtain ⟨n,hn,rfl⟩:=dJ ex
  obtain ⟨k,hk,rfl⟩:=dJ ey
  obtain ⟨p,hp,rfl⟩:∃p,ps[i]?=some p∧n=p.1:=by
   rw [List.getElem?_map] at hn
   cases e:ps[i]? with
   |none=>rw [e] at hn;cases hn
   |some p=>rw [e] at hn;cases hn;exact ⟨p,rfl,rfl⟩
  exact ⟨_,rfl,_,rfl,_,_,hd,k,rfl,hh.same (s1.trans (s2.trans sm)),(lX hks hp hk).1,r H' (Same.refl H')⟩
 refine iT ((ps.map (·.2)).map V.str) (ks.map V.str) (by rw [List.length_map,List.length_map,List.length_map];lia) [none,some vo] ?_ (small (by rw [List.length_map,List.length_map];lia)) (fun R r=>uF (fun H' sm=>SqL.of (sm _ _ (s3 _ _ g2))) (fun R' r'=>⟨_,rfl,r'⟩) R r) (fun i x y ex ey H' R l sm r=>?_) rfl fun D4 H4 s4 g4=>?_
 ·exact cX 1 (by decide +kernel) rfl rfl (by trivial)
 ·obtain ⟨n,hn,rfl⟩:=dJ ex
  obtain ⟨k,hk,rfl⟩:=dJ ey
  obtain ⟨p,hp,rfl⟩:∃p,ps[i]?=some p∧n=p.2:=by
   rw [List.getElem?_map] at hn
   cases e:ps[i]? with
   |none=>rw [e] at hn;cases hn
   |some p=>rw [e] at hn;cases hn;exact ⟨p,rfl,rfl⟩
  exact ⟨_,rfl,_,rfl,_,_,ho,k,rfl,hho.same (s1.trans (s2.trans (s3.trans sm))),(lX hks hp hk).2,r H' (Same.refl H')⟩
 refine ⟨D3,D4,ks,rfl,SqL.of (s4 _ _ g3),SqL.of g4,?_⟩
 have t4:=s1.trans (s2.trans (s3.trans s4))
 refine ⟨_,rfl,D1,_,rfl,SqL.of ((s2.trans (s3.trans s4)) _ _ g1),(by rw [List.length_map];lia),nd1,fun H5 s5=>?_⟩
 refine ⟨_,rfl,D2,_,rfl,SqL.of ((s3.trans (s4.trans s5)) _ _ g2),(by rw [List.length_map];lia),nd2,fun H6 s6=>?_⟩
 have t6:=t4.trans (s5.trans s6)
 have g6:=(s3.trans (s4.trans (s5.trans s6))) _ _ g2
 obtain ⟨b,ws,rfl,hb,hw⟩:=hho
 obtain ⟨c,zs,rfl,hc,hz⟩:=hh
 have lw:=hw.len
 have lz:=hz.len
 refine ⟨_,rfl,?_⟩
 dsimp only [gY,tCB,fK]
 refine aBh ws (aEh ho (ps.map (·.2))) [none,some (.ref D2)] ?_ (small (by lia)) (fun R r=>mD (t6.aK hb) (fun R' r'=>⟨_,rfl,r'⟩) R r) (fun i x ex H' R l sm r=>?_) rfl fun D7 H7 s7 g7=>?_
 ·exact cX 4 (by decide +kernel) rfl rfl (by trivial)
 ·obtain ⟨d,hd',p,rfl,hp⟩:=bJ hw ex
  refine ⟨_,rfl,p,_,0,_,rfl,rfl,sm.aK (t6.aK hp),at0 _ _,_,rfl,D2,_,rfl,.inl (SqL.of (sm _ _ g6)),rfl,iJ,_,rfl,?_⟩
  have e:aEh ho (ps.map (·.2)) i=!decide (d.1∈ps.map (·.2)):=by unfold aEh;rw [hd']
  rw [lK]
  rw [e] at r
  exact r H' (Same.refl H')
 refine ⟨D7,_,rfl,SqL.of g7,fun t H8 _ s8 g8=>?_⟩
 have t8:=t6.trans (s7.trans s8)
 have lsel:=uD (aEh ho (ps.map (·.2))) 0 ws
 refine ⟨c,t,_,_,rfl,rfl,t8.aK hc,SqT.of g8,small (by lia),fun r H9 s9 g9=>?_⟩
 refine q _ _ (t8.trans s9) ⟨r,_,rfl,g9,(hz.imp fun _ _ h=>h.same (t8.trans s9)).app ?_⟩
 have e:sel (aEh ho (ps.map (·.2))) 0 ho=ho.filter fun c=>!decide (c.1∈ps.map (·.2)):=kY fun i x ex=>by
  unfold aEh
  rw [Nat.zero_add,ex]
 rw [←e]
 exact (aIh hw 0).imp fun _ _ h=>h.same (t8.trans s9)
def smK (hd:Hdr) (s:Sm):Option Str:=match s.c with
 |none=>some "number"
 |some c=>look hd c
def aV5 (K:PySem.W.Frag):Sp:=fun vs H Q _=>∃vh u hd s k,vs=[vh,u]∧eG K H vh hd∧lV K H u s∧smK hd s=some k∧Q (.str k) H
theorem aZ4 {x:Str} (h:aXx x):decide (V.str x=V.str "count")=false:=by
 rcases h with rfl|rfl|rfl <;> decide +kernel
theorem aKf (T:Txt w K mg) (fQ:Ok P w K mg base 1 "kind_in" ["head","name"] (yU K)):Ok P w K mg base 2 "sum_kind" ["head","part"] (aV5 K):=by
 refine Ok.ofV T.aK7 aH0 (fun vs H Q E h=>?_) (fun f cdv A outer s H vs Q E hr h=>?_)
 ·obtain ⟨vh,u,hd,s,k,rfl,_⟩:=h;rfl
 obtain ⟨vh,u,hd,sm,k,rfl,hh,⟨a,rfl,hn,hs⟩,hk,q⟩:=h
 refine ⟨_,(aF (aM (gH (aU cG (aH aR (vv 1) aD (fun _ _=>rfl)) aO (aZ _)) aO (aJ (fQ.mono (by decide)) hr (by rfl) (aB (vv 0) (aB (aH aR (vv 1) aD (fun _ _=>rfl)) aA)))))),?_⟩
 rcases hs with ⟨e,ec,ha⟩|⟨c,ec,hc,hw,ha⟩
 ·have ek:k = "number":=by
   unfold smK at hk
   rw [ec] at hk
   exact (Option.some.inj hk).symm
  subst ek
  exact ⟨_,rfl,a,_,0,_,rfl,rfl,ha,at0 _ _,rfl,_,rfl,cC q⟩
 ·have hk':look hd c=some k:=by
   unfold smK at hk
   rw [ec] at hk
   exact hk
  refine ⟨_,rfl,a,_,0,_,rfl,rfl,ha,at0 _ _,rfl,_,rfl,?_⟩
  rw [aZ4 hw]
  exact bC ⟨_,rfl,_,rfl,a,_,1,_,rfl,rfl,ha,at1 _ _ _,_,_,hd,k,rfl,hh,hk',q⟩
theorem aV6 {H:Hp} {u:V} {s:Sm} (h:lV K H u s):∃a x,u=.ref a∧SqT K H a [.str s.wd,x,.str s.new]:=by
 obtain ⟨a,rfl,hn,hs⟩:=h
 rcases hs with ⟨e,ec,ha⟩|⟨c,ec,hc,hw,ha⟩
 ·exact ⟨a,_,rfl,by rw [e];exact ha⟩
 ·exact ⟨a,_,rfl,ha⟩
def zG (hd:Hdr) (ss:List Sm) (js:List Str):Prop:=bL (fun s j=>smK hd s=some j∧(s.wd = "sum"→j≠"word")) ss js
def aVy (K:PySem.W.Frag):Sp:=fun vs H Q _=>∃vh u x hd ns ss ks js,vs=[vh,u,x]∧eG K H vh hd∧aM5 K H u ns∧ns.length≤100∧vQ K H (lV K H) x ss∧ss.length≤100∧Looks hd ns ks∧zG hd ss js ∧
 ∀v H',Same H H'→eG K H' v (ns.zip ks++(ss.map Sm.new).zip js)→Q v H'
theorem aDq (T:Txt w K mg) (lQ:Ok P w K mg base 2 "keep_head" ["head","names"] (aM0 K)) (aLv:Ok P w K mg base 2 "sum_kind" ["head","part"] (aV5 K)):Ok P w K mg base 3 "group_head" ["head","names","sums"] (aVy K):=by
 refine Ok.ofV T.aG5 iK (fun vs H Q E h=>?_) (fun f cdv A outer s H vs Q E hr h=>?_)
 ·obtain ⟨vh,u,x,hd,ns,ss,ks,js,rfl,_⟩:=h;rfl
 obtain ⟨vh,u,x,hd,ns,ss,ks,js,rfl,hh,hns,hl,⟨a,us,rfl,ha,hu⟩,hl2,hks,hjs,q⟩:=h
 refine ⟨_,(aC (aV (i:=3) iK.nd rfl (by trivial) (aJ (lQ.mono (by decide)) hr (by rfl) (aB (vv 0) (aB (vv 1) aA)))) (aC (aV (i:=4) iK.nd rfl (by trivial) (bF bU (by rfl) T.cP cA (aB (bZ (N:=["part","head"]) (by trivial) (cV (aG mR) rfl (by decide +kernel)) rfl (eO (vv 2)) (fun cl s' H' fp=>⟨(aL (i:=0) (show (["part","head"]:List Str).Nodup from by decide +kernel) rfl (Or.inl rfl)),cI,(aY (aB (aH (cD (K:=K)) (vv 0) aD (fun _ _=>rfl)) (aB (aJ (aLv.mono (by decide)) hr (by rfl) (aB (vv 1) (aB (vv 0) aA))) aA)))⟩)) aA))) (aC (jD PassesOwn.never rfl (aE2 (by rfl) T.aNo (aB (vv 2) (aB (vv 4) aA))) (mG rfl (bB (aL (i:=5) iK.nd rfl (by trivial)) (bB (aL (i:=6) iK.nd rfl (by trivial)) cW))) (aF (bR (VW.pt (yZ (aU cG (aH aR (vv 5) aD (fun _ _=>rfl)) aO (aZ _)) (xR (aU cG (aH aR (vv 6) aD (fun _ _=>rfl)) aO (aZ _))))) (aF jM) bA))) (aF (aM (bW pX (vv 3) (vv 4))))))),?_⟩
 have lu:=hu.len
 have lj:=hjs.len
 have lk:=hks.len
 refine ⟨_,rfl,_,rfl,vh,u,hd,ns,ks,rfl,hh,hns,by lia,hks,fun kept H1 s1 hkept=>?_⟩
 dsimp only [bO,gY,iU,tCB,fK]
 refine pR us (eN K ((ss.map Sm.new).zip js)) eN.st eN.su [none,some vh] ?_ (small (by lia)) (fun R r=>mD (s1.aK ha) (fun R' r'=>⟨_,rfl,r'⟩) R r) (fun i y ey H' R l sm r=>?_) rfl fun D H2 ys s2 hD hly hR=>?_
 ·exact cX 0 (by decide +kernel) rfl rfl (by trivial)
 ·obtain ⟨p,hp,hsm⟩:=bJ hu ey
  obtain ⟨j,hj,hjk,_⟩:=bJ hjs hp
  obtain ⟨b,z,rfl,hb⟩:=aV6 hsm
  refine ⟨_,rfl,b,_,2,_,rfl,rfl,sm.aK (s1.aK hb),at2 _ _ _ _,_,rfl,_,rfl,_,_,hd,p,j,rfl,hh.same (s1.trans sm),hsm.same (s1.trans sm),hjk,(by show 2≤sizeLine;decide),fun t H3 _ s3 g3=>r _ _ s3 ⟨(p.new,j),t,aLs (by rw [List.getElem?_map,hp];rfl) hj,rfl,g3⟩⟩
 refine ⟨D,_,rfl,SqL.of hD,fun t H3 _ s3 g3=>?_⟩
 have lz:((ss.map Sm.new).zip js).length=ss.length:=by rw [List.length_zip,List.length_map];lia
 have hmade:eG K H3 (.ref t) ((ss.map Sm.new).zip js):=aAz (SqT.of g3) (by rw [hly,lz];exact lu) fun i y e=>(hR i y e).st s3
 have t3:=s1.trans (s2.trans s3)
 dsimp only [bO,gY]
 refine ⟨_,rfl,_,rfl,a,t,us,ys,rfl,t3.aK ha,SqT.of g3,aTt (fun i σ H'=>Same H3 H'∧∃l5 l6,σ=[some vh,some u,some (.ref a),some kept,some (.ref t),l5,l6]) (by rw [hly]) ⟨Same.refl _,_,_,rfl⟩ (fun i σ H' _ ⟨e,_⟩=>⟨e.aK (t3.aK ha),e.aK (SqT.of g3)⟩) ?_ ?_⟩
 ·rintro i σ H' x y Tp H'' ex ey ⟨sm,l5,l6,rfl⟩ hT rfl
  have s4:Same H' (upd H' Tp (.tup [x,y])):=bM hT _
  have t4:=sm.trans s4
  obtain ⟨p,hp,hsm⟩:=bJ hu ex
  obtain ⟨j,hj,hjk,hjw⟩:=bJ hjs hp
  obtain ⟨b,z,rfl,hb⟩:=aV6 hsm
  obtain ⟨c,p2,e1,rfl,g5⟩:=hR i y ey
  have ec:c=(p.new,j):=by
   rw [aLs (n:=p.new) (k:=j) (by rw [List.getElem?_map,hp];rfl) hj] at e1
   exact (Option.some.inj e1).symm
  subst ec
  refine ⟨Tp,_,rfl,SqT.of aQ,rfl,_,_,rfl,_,_,rfl,rfl,?_⟩
  refine ⟨_,rfl,b,_,0,_,rfl,rfl,t4.aK (t3.aK hb),at0 _ _,rfl,_,rfl,?_⟩
  refine lU (fun cs=>?_) (fun cs=>bC ⟨t4,_,_,rfl⟩)
  have ew:p.wd = "sum":=V.str.inj (of_decide_eq_true cs)
  refine ⟨_,rfl,p2,_,1,_,rfl,rfl,SqT.of (t4 _ _ (s3 _ _ g5)),at1 _ _ _,rfl,_,rfl,?_⟩
  rw [decide_eq_false (by intro zz;exact hjw ew (V.str.inj zz))]
  exact bC ⟨t4,_,_,rfl⟩
 ·rintro σ H' ⟨sm,l5,l6,rfl⟩
  obtain ⟨c,zs,rfl,hc,hz⟩:=hkept
  obtain ⟨c2,zs2,e2,hc2,hz2⟩:=hmade
  cases e2
  have l1:=hz.len
  have l2:=hz2.len
  have l3:(ns.zip ks).length≤100:=by rw [List.length_zip];lia
  refine ⟨_,rfl,_,rfl,c,t,_,_,rfl,rfl,(s2.trans (s3.trans sm)).aK hc,sm.aK hc2,small (by lia),fun r H5 s5 g5=>?_⟩
  refine q _ _ (t3.trans (sm.trans s5)) ⟨r,_,rfl,g5,(hz.imp fun _ _ h=>h.same (s2.trans (s3.trans (sm.trans s5)))).app (hz2.imp fun _ _ h=>h.same (sm.trans s5))⟩
def aVz (K:PySem.W.Frag):Sp:=fun vs H Q _=>∃vh u hd ps ks,vs=[vh,u]∧eG K H vh hd∧vQ K H (nW K H) u ps∧ps.length≤100∧Looks hd (ps.map (·.1)) ks∧(ps.map (·.1)).Nodup∧∀H',Same H H'→Q vh H'
theorem aDh (T:Txt w K mg) (lQ:Ok P w K mg base 2 "keep_head" ["head","names"] (aM0 K)) (fB:Ok P w K mg base 2 "need_unlike" ["names"] (aFq K)):Ok P w K mg base 3 "first_head" ["head","keys"] (aVz K):=by
 refine Ok.ofV T.aG3 uM (fun vs H Q E h=>?_) (fun f cdv A outer s H vs Q E hr h=>?_)
 ·obtain ⟨vh,u,hd,ps,ks,rfl,_⟩:=h;rfl
 obtain ⟨vh,u,hd,ps,ks,rfl,hh,⟨a,us,rfl,ha,hu⟩,hl,hks,nd,q⟩:=h
 refine ⟨_,(aC (iR (i0:=2) uM.nd rfl (by trivial) (N:=["key"]) (by trivial) (dZ (by decide +kernel)) rfl (eO (vv 1)) (fun cl s' H' fp=>⟨(aL (i:=0) (show (["key"]:List Str).Nodup from by decide +kernel) rfl (Or.inl rfl)),cI,(aH (cD (K:=K)) (vv 0) aD (fun _ _=>rfl))⟩)) (aC (eF (aJ (lQ.mono (by decide)) hr (by rfl) (aB (vv 0) (aB (vv 2) aA)))) (aC (eF (aJ (fB.mono (by decide)) hr (by rfl) (aB (vv 2) aA))) (aF (aM (vv 0)))))),?_⟩
 have lu:=hu.len
 dsimp only [bO,gY,iU]
 refine iT us ((ps.map (·.1)).map V.str) (by rw [List.length_map,List.length_map];lia) [none] mX (small (by lia)) (fun R r=>mD ha (fun R' r'=>⟨_,rfl,r'⟩) R r) (fun i x y ex ey H' R l sm r=>?_) rfl fun D1 H1 s1 g1=>?_
 ·obtain ⟨p,hp,b,rfl,hb,_⟩:=bJ hu ex
  obtain ⟨n,hn,rfl⟩:=dJ ey
  rw [List.getElem?_map,hp] at hn
  cases hn
  exact ⟨_,rfl,b,_,0,_,rfl,rfl,sm.aK hb,at0 _ _,r H' (Same.refl H')⟩
 refine ⟨_,rfl,_,rfl,vh,_,hd,_,ks,rfl,hh.same s1,⟨D1,rfl,.inl (SqL.of g1)⟩,by rw [List.length_map];lia,hks,fun v H2 s2 _=>?_⟩
 refine ⟨_,rfl,D1,_,rfl,SqL.of (s2 _ _ g1),by rw [List.length_map];lia,nd,fun H3 s3=>?_⟩
 exact ⟨_,rfl,q H3 (s1.trans (s2.trans s3))⟩
def Good (hd:Hdr):Prop:=(hd.map (·.1)).Nodup∧1≤hd.length∧hd.length≤8
inductive HH (hs:Str→Option Hdr):Qn→List Hdr→Hdr→Prop
 |table {T hd}:hs T=some hd→HH hs (.table T) [] hd
 |whr {q ts hd}:(∀t∈ts,dM hd t)→HH hs (.whr q ts) [hd] hd
 |keep {q ns hd ks}:Looks hd ns ks→HH hs (.keep q ns) [hd] (ns.zip ks)
 |nmd {q ns hd}:ns.length=hd.length→HH hs (.nmd q ns) [hd] (List.zipWith (fun n c=>(n,c.2)) ns hd)
 |join {q r ps hd ho ks}:bL (fun p k=>look hd p.1=some k∧look ho p.2=some k) ps ks→(ps.map (·.1)).Nodup→(ps.map (·.2)).Nodup→HH hs (.join q r ps) [hd,ho] (hd++ho.filter fun c=>!decide (c.1∈ps.map (·.2)))
 |group {q ns ss hd ks js}:Looks hd ns ks→zG hd ss js→HH hs (.group q ns ss) [hd] (ns.zip ks++(ss.map Sm.new).zip js)
 |first {q ps m hd ks}:Looks hd (ps.map (·.1)) ks→(ps.map (·.1)).Nodup→HH hs (.first q ps m) [hd] hd
def eQ (K:PySem.W.Frag) (H:Hp) (d:Addr) (hs:Str→Option Hdr):Prop:=∃kvs,H d=some (.dK kvs)∧∀n hd,hs n=some hd→∃v,mU kvs (Sum.inr n)=some v∧eG K H v hd
theorem eQ.same {H H':Hp} {d:Addr} {hs:Str→Option Hdr} (e:Same H H') (h:eQ K H d hs):eQ K H' d hs:=by
 obtain ⟨kvs,hd,hh⟩:=h
 refine ⟨kvs,e _ _ hd,fun n hd hn=>?_⟩
 obtain ⟨v,h1,h2⟩:=hh n hd hn
 exact ⟨v,h1,h2.same e⟩
def aV0 (K:PySem.W.Frag):Sp:=fun vs H Q _=>∃d v x us hs q ihds hd,vs=[.ref d,v,.ref x]∧eQ K H d hs∧IsQ K H v q∧SqL K H x us∧bL (eG K H) us ihds∧(∀h∈ihds,h.length≤100)∧HH hs q ihds hd∧∀v' H',Same H H'→eG K H' v' hd→Q v' H'
theorem aF2 (T:Txt w K mg) (aF8:Ok P w K mg base 1 "table_head" ["heads","name"] aV4) (aFw:Ok P w K mg base 4 "where_head" ["head","tests"] (aWh K)) (lQ:Ok P w K mg base 2 "keep_head" ["head","names"] (aM0 K))
  (aE7:Ok P w K mg base 1 "named_head" ["head","names"] (aSz K)) (aH7:Ok P w K mg base 3 "join_head" ["head","other","pairs"] (aV3 K)) (aG0:Ok P w K mg base 3 "group_head" ["head","names","sums"] (aVy K))
  (aGl:Ok P w K mg base 3 "first_head" ["head","keys"] (aVz K)):Ok P w K mg base 5 "head_here" ["heads","question","inner"] (aV0 K):=by
 refine Ok.ofV T.aHz wR (fun vs H Q E h=>?_) (fun f cdv A outer s H vs Q E hr h=>?_)
 ·obtain ⟨d,v,x,us,hs,q,ihds,hd,rfl,_⟩:=h;rfl
 obtain ⟨d,v,x,us,hs,q0,ihds,hd,rfl,hds,hq,hx,hu,hlen,hh,q⟩:=h
 refine ⟨_,(aC (aV (i:=3) wR.nd rfl (by trivial) (aH aR (vv 1) aD (fun _ _=>rfl))) (aC (bR (aU cG (vv 3) aO (aZ _)) (aF (aM (aJ (aF8.mono (by decide)) hr (by rfl) (aB (vv 0) (aB (aH aR (vv 1) aD (fun _ _=>rfl)) aA))))) bA) (aC (bR (aU cG (vv 3) aO (aZ _)) (aF (aM (aJ (aFw.mono (by decide)) hr (by rfl) (aB (aH bN (vv 2) aD (fun _ _=>rfl)) (aB (aH aR (vv 1) aD (fun _ _=>rfl)) aA))))) bA) (aC (bR (aU cG (vv 3) aO (aZ _)) (aF (aM (aJ (lQ.mono (by decide)) hr (by rfl) (aB (aH bN (vv 2) aD (fun _ _=>rfl)) (aB (aH aR (vv 1) aD (fun _ _=>rfl)) aA))))) bA) (aC (bR (aU cG (vv 3) aO (aZ _)) (aF (aM (aJ (aE7.mono (by decide)) hr (by rfl) (aB (aH bN (vv 2) aD (fun _ _=>rfl)) (aB (aH aR (vv 1) aD (fun _ _=>rfl)) aA))))) bA) (aC (bR (aU cG (vv 3) aO (aZ _)) (aF (aM (aJ (aH7.mono (by decide)) hr (by rfl) (aB (aH bN (vv 2) aD (fun _ _=>rfl)) (aB (aH bN (vv 2) aD (fun _ _=>rfl)) (aB (aH aR (vv 1) aD (fun _ _=>rfl)) aA)))))) bA) (aC (bR (aU cG (vv 3) aO (aZ _)) (aF (aM (aJ (aG0.mono (by decide)) hr (by rfl) (aB (aH bN (vv 2) aD (fun _ _=>rfl)) (aB (aH aR (vv 1) aD (fun _ _=>rfl)) (aB (aH aR (vv 1) aD (fun _ _=>rfl)) aA)))))) bA) (aF (aM (aJ (aGl.mono (by decide)) hr (by rfl) (aB (aH bN (vv 2) aD (fun _ _=>rfl)) (aB (aH aR (vv 1) aD (fun _ _=>rfl)) aA)))))))))))),?_⟩
 cases hh with
 |table hT=>
  cases hq with
  |table a b=>
   obtain ⟨kvs,hd',hmem⟩:=hds
   obtain ⟨v',hv',hI⟩:=hmem _ _ hT
   refine ⟨_,rfl,_,_,0,_,rfl,rfl,a,at0 _ _,?_⟩
   exact ⟨_,rfl,rfl,_,rfl,cC ⟨_,rfl,_,rfl,_,_,1,_,rfl,rfl,a,at1 _ _ _,d,_,v',kvs,rfl,hd',hv',q _ _ (Same.refl H) hI⟩⟩
 |whr ht=>
  cases hq with
  |whr a b c=>
   cases hu with
   |cons h1 t1=>
    cases t1
    refine ⟨_,rfl,_,_,0,_,rfl,rfl,a,at0 _ _,?_⟩
    refine ⟨_,rfl,rfl,_,rfl,bC ⟨_,rfl,rfl,_,rfl,cC ?_⟩⟩
    exact ⟨_,rfl,x,_,0,_,rfl,rfl,hx,at0 _ _,_,rfl,_,_,2,_,rfl,rfl,a,at2 _ _ _ _,_,_,_,_,rfl,h1,c.1,by have:=c.2.2;lia,ht,fun H' s'=>q _ _ s' (h1.same s')⟩
 |keep hk=>
  cases hq with
  |keep a b c=>
   cases hu with
   |cons h1 t1=>
    cases t1
    refine ⟨_,rfl,_,_,0,_,rfl,rfl,a,at0 _ _,?_⟩
    refine ⟨_,rfl,rfl,_,rfl,bC ⟨_,rfl,rfl,_,rfl,bC ⟨_,rfl,rfl,_,rfl,cC ?_⟩⟩⟩
    exact ⟨_,rfl,x,_,0,_,rfl,rfl,hx,at0 _ _,_,rfl,_,_,2,_,rfl,rfl,a,at2 _ _ _ _,_,_,_,_,_,rfl,h1,aLu c,by have:=c.2.2;lia,hk,fun v' H' s' h'=>q _ _ s' h'⟩
 |nmd hl=>
  cases hq with
  |nmd a b c=>
   cases hu with
   |cons h1 t1=>
    cases t1
    obtain ⟨⟨n,ws,rfl,hn,hw⟩,c1,c2⟩:=c
    rw [aFy hw] at hn
    refine ⟨_,rfl,_,_,0,_,rfl,rfl,a,at0 _ _,?_⟩
    refine ⟨_,rfl,rfl,_,rfl,bC ⟨_,rfl,rfl,_,rfl,bC ⟨_,rfl,rfl,_,rfl,bC ⟨_,rfl,rfl,_,rfl,cC ?_⟩⟩⟩⟩
    exact ⟨_,rfl,x,_,0,_,rfl,rfl,hx,at0 _ _,_,rfl,_,_,2,_,rfl,rfl,a,at2 _ _ _ _,_,_,_,_,rfl,h1,⟨n,rfl,hn⟩,by lia,hl,fun v' H' s' h'=>q _ _ s' h'⟩
 |join hk n1 n2=>
  cases hq with
  |join a b c e=>
   cases hu with
   |cons h1 t1=>
    cases t1 with
    |cons h2 t2=>
     cases t2
     refine ⟨_,rfl,_,_,0,_,rfl,rfl,a,at0 _ _,?_⟩
     refine ⟨_,rfl,rfl,_,rfl,bC ⟨_,rfl,rfl,_,rfl,bC ⟨_,rfl,rfl,_,rfl,bC ⟨_,rfl,rfl,_,rfl,bC ⟨_,rfl,rfl,_,rfl,cC ?_⟩⟩⟩⟩⟩
     exact ⟨_,rfl,x,_,0,_,rfl,rfl,hx,at0 _ _,_,rfl,x,_,1,_,rfl,rfl,hx,at1 _ _ _,_,rfl,_,_,3,_,rfl,rfl,a,cF (j:=3) rfl,_,_,_,_,_,_,_,rfl,h1,h2,e.1,by have:=e.2.2;lia,hlen _ (by simp),hlen _ (by simp),hk,n1,n2,fun v' H' s' h'=>q _ _ s' h'⟩
 |group hk hj=>
  cases hq with
  |group a b c e=>
   cases hu with
   |cons h1 t1=>
    cases t1
    refine ⟨_,rfl,_,_,0,_,rfl,rfl,a,at0 _ _,?_⟩
    refine ⟨_,rfl,rfl,_,rfl,bC ⟨_,rfl,rfl,_,rfl,bC ⟨_,rfl,rfl,_,rfl,bC ⟨_,rfl,rfl,_,rfl,bC ⟨_,rfl,rfl,_,rfl,bC ⟨_,rfl,rfl,_,rfl,cC ?_⟩⟩⟩⟩⟩⟩
    exact ⟨_,rfl,x,_,0,_,rfl,rfl,hx,at0 _ _,_,rfl,_,_,2,_,rfl,rfl,a,at2 _ _ _ _,_,rfl,_,_,3,_,rfl,rfl,a,cF (j:=3) rfl,_,_,_,_,_,_,_,_,rfl,h1,aLu c,by have:=c.2.2;lia,e.1,by have:=e.2.2;lia,hk,hj,fun v' H' s' h'=>q _ _ s' h'⟩
 |first hk nd=>
  cases hq with
  |first a b c e=>
   cases hu with
   |cons h1 t1=>
    cases t1
    refine ⟨_,rfl,_,_,0,_,rfl,rfl,a,at0 _ _,?_⟩
    refine ⟨_,rfl,rfl,_,rfl,bC ⟨_,rfl,rfl,_,rfl,bC ⟨_,rfl,rfl,_,rfl,bC ⟨_,rfl,rfl,_,rfl,bC ⟨_,rfl,rfl,_,rfl,bC ⟨_,rfl,rfl,_,rfl,bC ?_⟩⟩⟩⟩⟩⟩
    exact ⟨_,rfl,x,_,0,_,rfl,rfl,hx,at0 _ _,_,rfl,_,_,2,_,rfl,rfl,a,at2 _ _ _ _,_,_,_,_,_,rfl,h1,c.1,by have:=c.2.2;lia,hk,nd,fun H' s'=>q _ _ s' (h1.same s')⟩
inductive HQ (hs:Str→Option Hdr):Qn→Hdr→Prop
 |mk0 {q hd}:kids q=[]→HH hs q [] hd→Good hd→HQ hs q hd
 |mk1 {q k h1 hd}:kids q=[k]→HQ hs k h1→HH hs q [h1] hd→Good hd→HQ hs q hd
 |mk2 {q k l h1 h2 hd}:kids q=[k,l]→HQ hs k h1→HQ hs l h2→HH hs q [h1,h2] hd→Good hd→HQ hs q hd
theorem HQ.good {hs:Str→Option Hdr} {q:Qn} {hd:Hdr} (h:HQ hs q hd):Good hd:=by cases h <;> assumption
theorem HQ.in {hs:Str→Option Hdr} {q:Qn} {hd:Hdr} (h:HQ hs q hd):∃ihds,bL (HQ hs) (kids q) ihds∧HH hs q ihds hd∧Good hd:=by
 cases h with
 |mk0 e a b=>exact ⟨[],by rw [e];exact .nil,a,b⟩
 |mk1 e k a b=>exact ⟨[_],by rw [e];exact .cons k .nil,a,b⟩
 |mk2 e k l a b=>exact ⟨[_,_],by rw [e];exact .cons k (.cons l .nil),a,b⟩
def aE1 (K:PySem.W.Frag):Sp:=fun vs H Q _=>∃v hd,vs=[v]∧eG K H v hd∧hd.length≤1000∧∀D H',Same H H'→H' D=some (.lst ((hd.map (·.1)).map V.str))→Q (.ref D) H'
theorem wH (T:Txt w K mg):Ok P w K mg base 1 "names_of" ["head"] (aE1 K):=by
 refine Ok.ofV T.aK8 aJq (fun vs H Q E h=>?_) (fun f cdv A outer s H vs Q E hr h=>?_)
 ·obtain ⟨v,hd,rfl,_⟩:=h;rfl
 obtain ⟨v,hd,rfl,⟨a,us,rfl,ha,hu⟩,hl,q⟩:=h
 refine ⟨_,(aF (aM (bZ (N:=["column"]) (by trivial) (dZ (by decide +kernel)) rfl (eO (vv 0)) (fun cl s' H' fp=>⟨(aL (i:=0) (show (["column"]:List Str).Nodup from by decide +kernel) rfl (Or.inl rfl)),cI,(aH (cD (K:=K)) (vv 0) aD (fun _ _=>rfl))⟩)))),?_⟩
 have lu:=hu.len
 refine iT us ((hd.map (·.1)).map V.str) (by rw [List.length_map,List.length_map];lia) [none] mX (small (by lia)) (fun R r=>mD ha (fun R' r'=>⟨_,rfl,r'⟩) R r) (fun i x y ex ey H' R l sm r=>?_) rfl fun D H' sm hD=>q D H' sm hD
 obtain ⟨c,hc,p,rfl,hp⟩:=bJ hu ex
 obtain ⟨n,hn,rfl⟩:=dJ ey
 rw [List.getElem?_map,hc] at hn
 cases hn
 exact ⟨_,rfl,p,_,0,_,rfl,rfl,sm.aK hp,at0 _ _,r H' (Same.refl H')⟩
def aWl (K:PySem.W.Frag) (n:Nat):Sp:=fun vs H Q _=>∃d v hs q hd,vs=[.ref d,v]∧eQ K H d hs∧IsQ K H v q∧size q≤n∧HQ hs q hd∧∀v' H',Same H H'→eG K H' v' hd→Q v' H'
theorem aEv {k:Qn}:∀{qs:List Qn},k∈qs→size k≤sizes qs
 |q::qs,h=>by
  show size k≤(((q::qs).map size).sum)
  rw [List.map_cons,List.sum_cons]
  rcases List.mem_cons.mp h with rfl|h
  ·lia
  ·have:=aEv h
   unfold sizes at this
   lia
theorem aCj {q k:Qn} (h:k∈kids q) {K:PySem.W.Frag} {H:Hp} {v:V} (hq:IsQ K H v q):size k<size q:=by
 have e:=pN q
 have o:=tU hq
 have:size k≤sizes (kids q):=by
  exact aEv h
 lia
theorem aGq {α:Type} {l:List α} {i:Nat} {x:α} (h:l[i]?=some x):x∈l:=List.mem_of_getElem? h
theorem rR (T:Txt w K mg) (cM:Ok P w K mg base 1 "questions_in" ["question"] (aIj K)) (zZ:Ok P w K mg base 5 "head_here" ["heads","question","inner"] (aV0 K)) (fB:Ok P w K mg base 2 "need_unlike" ["names"] (aFq K)) (iV:Ok P w K mg base 1 "names_of" ["head"] (aE1 K)) :
  ∀n:Nat,Ok P w K mg base (n+6) "head_within" ["heads","question"] (aWl K n)
 |0=>by
  refine Ok.ofV T.uJ jO (fun vs H Q E h=>?_) (fun f cdv A outer s H vs Q E hr h=>?_)
  ·obtain ⟨d,v,hs,q,hd,rfl,_⟩:=h;rfl
  ·obtain ⟨d,v,hs,q,hd,rfl,_,hq,hz,_⟩:=h
   have e:=pN q
   have o:=tU hq
   lia
 |n+1=>by
  have pL:=rR T cM zZ fB iV n
  refine Ok.ofV T.uJ jO (fun vs H Q E h=>?_) (fun f cdv A outer s H vs Q E hr h=>?_)
  ·obtain ⟨d,v,hs,q,hd,rfl,_⟩:=h;rfl
  obtain ⟨d,v,hs,q0,hd,rfl,hds,hq,hz,hh,q⟩:=h
  obtain ⟨ihds,hin,hone,hgood⟩:=hh.in
  refine ⟨_,(aC (iR (i0:=2) jO.nd rfl (by trivial) (N:=["part","heads"]) (by trivial) (cV (aG lD) rfl (by decide +kernel)) rfl (eE (aJ (cM.mono (by lia)) hr (by rfl) (aB (vv 1) aA))) (fun cl s' H' fp=>⟨(aL (i:=0) (show (["part","heads"]:List Str).Nodup from by decide +kernel) rfl (Or.inl rfl)),cI,(aJ (pL.mono (by lia)) hr (by rfl) (aB (vv 1) (aB (vv 0) aA)))⟩)) (aC (aV (i:=3) jO.nd rfl (by trivial) (aJ (zZ.mono (by lia)) hr (by rfl) (aB (vv 0) (aB (vv 1) (aB (vv 2) aA))))) (aC (eF (aJ (fB.mono (by lia)) hr (by rfl) (aB (aJ (iV.mono (by lia)) hr (by rfl) (aB (vv 3) aA)) aA))) (aC (bR (jB (aIe aEc aEc aD (aW aX (by rfl) T.dB cH (aB (vv 3) aA)) (fY (by rfl) T.aBt))) (aF jM) bA) (aF (aM (vv 3))))))),?_⟩
  have l2:=hin.len
  have lk:(kids q0).length≤2:=by cases q0 <;> simp [kids]
  dsimp only [gY,iU]
  refine tR (K:=K) (fun us=>bL (IsQ K H) us (kids q0)) (fun i H y=>∃h,ihds[i]?=some h∧eG K H y h) (fun e h=>?_) (fun e h=>?_) [none,some (.ref d)] ?_ rfl (fun R r=>⟨_,rfl,v,q0,H,rfl,Same.refl H,hq,fun D H1 us fD s1 gD hus=>r D H1 us s1 gD hus⟩) (fun us hus=>small (by have:=hus.len;lia)) (fun us hus i x ex H' R l sm r=>?_) fun us hus D2 H2 ys t2 g2 hly hR=>?_
  ·obtain ⟨h,h1,h2⟩:=h
   exact ⟨h,h1,h2.same e⟩
  ·obtain ⟨h,h1,⟨a,vs,rfl,ha,hv⟩⟩:=h
   exact ⟨h,h1,a,vs,rfl,ha.dI e,hv.imp fun _ _ ⟨p,ep,hp⟩=>⟨p,ep,hp.dI e⟩⟩
  ·exact cX 0 (by decide +kernel) rfl rfl (by trivial)
  ·obtain ⟨k,hk,hkq⟩:=bJ hus ex
   obtain ⟨h,hh',hkh⟩:=bJ hin hk
   have hkz:=aCj (aGq hk) hq
   exact ⟨_,rfl,_,rfl,d,x,hs,k,h,rfl,hds.same sm,hkq.same sm,by lia,hkh,fun v' H3 s3 h3=>r _ _ s3 ⟨h,hh',h3⟩⟩
  have l1:=hus.len
  have hall:bL (eG K H2) ys ihds:=wI (by lia) fun i y h e1 e2=>by
   obtain ⟨h',e3,q3⟩:=hR i y e1
   rw [e2] at e3
   cases e3
   exact q3
  have hl100:∀h∈ihds,h.length≤100:=fun h hm=>by
   obtain ⟨i,hi,e⟩:=List.getElem_of_mem hm
   have hi':i<(kids q0).length:=by lia
   have:=(lX hin (List.getElem?_eq_getElem hi') (by rw [List.getElem?_eq_getElem hi,e])).good
   have:=this.2.2
   lia
  refine ⟨_,rfl,_,rfl,_,rfl,d,v,D2,ys,hs,q0,ihds,hd,rfl,hds.same t2,hq.same t2,SqL.of g2,hall,hl100,hone,fun v' H3 s3 h3=>?_⟩
  obtain ⟨g1,g2',g3⟩:=hgood
  refine ⟨_,rfl,v',hd,rfl,h3,by lia,fun D4 H4 s4 g4=>?_⟩
  refine ⟨D4,hd.map (·.1),rfl,SqL.of g4,(by rw [List.length_map];lia),g1,fun H5 s5=>?_⟩
  obtain ⟨a,zs,rfl,ha,hz'⟩:=h3
  have lz:=hz'.len
  refine ⟨_,rfl,_,_,rfl,.inr ((s4.trans s5).aK ha),_,_,rfl,rfl,_,rfl,?_⟩
  have e1:decide ((1:Int)≤(zs.length:Int))=true:=decide_eq_true (by lia)
  have e2:decide ((zs.length:Int)≤8)=true:=decide_eq_true (by lia)
  rw [e1]
  refine cC ⟨_,_,rfl,rfl,_,rfl,?_⟩
  rw [e2]
  exact bC ⟨_,rfl,q _ _ (t2.trans (s3.trans (s4.trans s5))) ⟨a,zs,rfl,(s4.trans s5).aK ha,hz'.imp fun _ _ h=>h.same (s4.trans s5)⟩⟩
def aIb (K:PySem.W.Frag):Sp:=fun vs H Q _=>∃d v hs q hd,vs=[.ref d,v]∧eQ K H d hs∧IsQ K H v q∧size q≤20∧HQ hs q hd∧∀v' H',Same H H'→eG K H' v' hd→Q v' H'
theorem aLy (T:Txt w K mg) (pL:Ok P w K mg base 26 "head_within" ["heads","question"] (aWl K 20)) (aO8:Ok P w K mg base 8 "checked" ["thing"] (aSc K)):Ok P w K mg base 27 "head_of" ["heads","question"] (aIb K):=by
 refine Ok.ofV T.aOf aLt (fun vs H Q E h=>?_) (fun f cdv A outer s H vs Q E hr h=>?_)
 ·obtain ⟨d,v,hs,q,hd,rfl,_⟩:=h;rfl
 obtain ⟨d,v,hs,q0,hd,rfl,hds,hq,hz,hh,q⟩:=h
 refine ⟨_,(aF (aM (aJ (pL.mono (by decide)) hr (by rfl) (aB (vv 0) (aB (aJ (aO8.mono (by decide)) hr (by rfl) (aB (vv 1) aA)) aA))))),?_⟩
 exact ⟨_,rfl,_,rfl,v,q0,rfl,hq,hz,fun H1 s1=>⟨d,v,hs,q0,hd,rfl,hds.same s1,hq.same s1,hz,hh,fun v' H2 s2 h2=>q _ _ (s1.trans s2) h2⟩⟩
theorem gP:∀{ns:List Str} {hd:Hdr},ns.length=hd.length→(List.zipWith (fun n c=>(n,c.2)) ns hd).map (·.1)=ns
 |[],[],_=>rfl
 |n::ns,c::hd,h=>by rw [List.zipWith_cons_cons,List.map_cons,gP (by simpa using h)]
theorem aB9:∀{ns:List Str} {hd:Hdr} {x:Str × Str},x∈List.zipWith (fun n c=>(n,c.2)) ns hd→x.1∈ns∧∃c∈hd,x.2=c.2
 |[],_,x,h=>by simp at h
 |_::_,[],x,h=>by simp at h
 |n::ns,c::hd,x,h=>by
  rw [List.zipWith_cons_cons] at h
  rcases List.mem_cons.mp h with rfl|h
  ·exact ⟨List.mem_cons_self ..,c,List.mem_cons_self ..,rfl⟩
  ·obtain ⟨h1,c',h2,h3⟩:=aB9 h
   exact ⟨List.mem_cons_of_mem _ h1,c',List.mem_cons_of_mem _ h2,h3⟩
theorem jH {hd:Hdr} (nd:(hd.map (·.1)).Nodup) {c:Str × Str} (h:c∈hd):look hd c.1=some c.2:=by
 induction hd with
 |nil=>cases h
 |cons x r ih=>
  rw [List.map_cons,List.nodup_cons] at nd
  unfold look
  rw [List.find?_cons]
  rcases List.mem_cons.mp h with rfl|h
  ·rw [decide_eq_true rfl];rfl
  ·have ne:¬ x.1=c.1:=fun z=>nd.1 (by rw [z];exact List.mem_map.mpr ⟨c,h,rfl⟩)
   rw [decide_eq_false ne]
   exact ih nd.2 h
def bI (t:Tst):List Str:=match t.o with
 |.col d=>[t.c,d]
 |.val _=>[t.c]
def bAf (f:Str→Str):Oth→Oth
 |.col d=>.col (f d)
 |.val v=>.val v
def aH8 (f:Str→Str) (t:Tst):Tst:=⟨f t.c,t.sg,bAf f t.o⟩
def tO (hs:Str→Option Hdr):Qn→Hdr
 |.table T=>(hs T).getD []
 |.whr q _=>tO hs q
 |.keep q ns=>ns.map fun n=>(n,(look (tO hs q) n).getD "")
 |.nmd q ns=>List.zipWith (fun n c=>(n,c.2)) ns (tO hs q)
 |.join q r ps=>tO hs q++(tO hs r).filter fun c=>!decide (c.1∈ps.map (·.2))
 |.group q ns ss=>(ns.map fun n=>(n,(look (tO hs q) n).getD ""))++ss.map fun s=>(s.new,(smK (tO hs q) s).getD "")
 |.first q _ _=>tO hs q
def cL (hs:Str→Option Hdr) (q:Qn):List Str:=(tO hs q).map (·.1)
theorem aEq {hd:Hdr} {ns ks:List Str} (h:Looks hd ns ks):ns.zip ks=ns.map fun n=>(n,(look hd n).getD ""):=by
 induction h with
 |nil=>rfl
 |cons r _ ih=>
  rw [List.zip_cons_cons,List.map_cons,ih,r]
  rfl
theorem aSb {hd:Hdr} {ss:List Sm} {js:List Str} (h:zG hd ss js):(ss.map Sm.new).zip js=ss.map fun s=>(s.new,(smK hd s).getD ""):=by
 induction h with
 |nil=>rfl
 |cons r _ ih=>
  rw [List.map_cons,List.zip_cons_cons,List.map_cons,ih,r.1]
  rfl
theorem fV {hs:Str→Option Hdr}:∀{q:Qn} {hd:Hdr},HQ hs q hd→tO hs q=hd:=by
 intro q
 induction q with
 |table T=>
  intro hd h
  obtain ⟨ihds,hk,hh,_⟩:=h.in
  cases hk
  cases hh with
  |table e=>show (hs T).getD []=_;rw [e];rfl
 |whr q ts ih=>
  intro hd h
  obtain ⟨ihds,hk,hh,_⟩:=h.in
  cases hk with
  |cons r t=>
   cases t
   cases hh
   exact ih r
 |keep q ns ih=>
  intro hd h
  obtain ⟨ihds,hk,hh,_⟩:=h.in
  cases hk with
  |cons r t=>
   cases t
   cases hh with
   |keep l=>show (ns.map fun n=>(n,(look (tO hs q) n).getD ""))=_;rw [ih r,aEq l]
 |nmd q ns ih=>
  intro hd h
  obtain ⟨ihds,hk,hh,_⟩:=h.in
  cases hk with
  |cons r t=>
   cases t
   cases hh with
   |nmd l=>show List.zipWith _ ns (tO hs q)=_;rw [ih r]
 |join q r ps ih1 ih2=>
  intro hd h
  obtain ⟨ihds,hk,hh,_⟩:=h.in
  cases hk with
  |cons r1 t=>
   cases t with
   |cons r2 t2=>
    cases t2
    cases hh with
    |join l n1 n2=>show tO hs q++_=_;rw [ih1 r1,ih2 r2]
 |group q ns ss ih=>
  intro hd h
  obtain ⟨ihds,hk,hh,_⟩:=h.in
  cases hk with
  |cons r t=>
   cases t
   cases hh with
   |group l j=>show (ns.map fun n=>(n,(look (tO hs q) n).getD ""))++(ss.map fun s=>(s.new,(smK (tO hs q) s).getD ""))=_;rw [ih r,aEq l,aSb j]
 |first q ks m ih=>
  intro hd h
  obtain ⟨ihds,hk,hh,_⟩:=h.in
  cases hk with
  |cons r t=>
   cases t
   cases hh
   exact ih r
def sub (cs ns:List Str):Bool:=cs.all fun x=>decide (x∈ns)
def elder (ns os:List Str) (n:Str):Str:=(((ns.zip os).find? fun x=>decide (x.1=n)).map (·.2)).getD ""
def seenOf (hs:Str→Option Hdr) (r:Qn) (ps:List (Str × Str)):List Str:=(cL hs r).filter fun n=>!decide (n∈ps.map (·.2))
def sink (hs:Str→Option Hdr):Qn→Tst→Qn
 |.whr q ts,t=>.whr (sink hs q t) ts
 |.keep q ns,t=>.keep (sink hs q t) ns
 |.nmd q ns,t=>.nmd (sink hs q (aH8 (elder ns (cL hs q)) t)) ns
 |.join q r ps,t=>if sub (bI t) (cL hs q) then .join (sink hs q t) r ps else if sub (bI t) (seenOf hs r ps) then .join q (sink hs r t) ps else .whr (.join q r ps) [t]
 |.group q ns ss,t=>if sub (bI t) ns then .group (sink hs q t) ns ss else .whr (.group q ns ss) [t]
 |.table T,t=>.whr (.table T) [t]
 |.first q ks m,t=>.whr (.first q ks m) [t]
def move (hs:Str→Option Hdr):Qn→Qn
 |.whr q ts=>ts.foldl (fun b t=>sink hs b t) (move hs q)
 |.keep q ns=>.keep (move hs q) ns
 |.nmd q ns=>.nmd (move hs q) ns
 |.join q r ps=>.join (move hs q) (move hs r) ps
 |.group q ns ss=>.group (move hs q) ns ss
 |.table T=>.table T
 |.first q ks m=>.first (move hs q) ks m
theorem zU (hs:Str→Option Hdr):∀(q:Qn) (t:Tst),size (sink hs q t)=size q+1:=by
 intro q
 induction q with
 |table T=>intro t;rfl
 |whr q ts ih=>intro t;show size (sink hs q t)+ts.length=size q+ts.length+1;rw [ih];lia
 |keep q ns ih=>intro t;show size (sink hs q t)+1=size q+1+1;rw [ih]
 |nmd q ns ih=>intro t;show size (sink hs q _)+1=size q+1+1;rw [ih]
 |join q r ps ih1 ih2=>
  intro t
  show size (if sub (bI t) (cL hs q) then .join (sink hs q t) r ps else if sub (bI t) (seenOf hs r ps) then .join q (sink hs r t) ps else .whr (.join q r ps) [t])=size q+size r+1+1
  split
  ·show size (sink hs q t)+size r+1=_;rw [ih1];lia
  ·split
   ·show size q+size (sink hs r t)+1=_;rw [ih2];lia
   ·rfl
 |group q ns ss ih=>
  intro t
  show size (if sub (bI t) ns then .group (sink hs q t) ns ss else .whr (.group q ns ss) [t])=size q+1+1
  split
  ·show size (sink hs q t)+1=_;rw [ih]
  ·rfl
 |first q ks m ih=>intro t;rfl
theorem aD6 (hs:Str→Option Hdr):∀q:Qn,size (move hs q)=size q:=by
 have fold:∀(ts:List Tst) (b:Qn),size (ts.foldl (fun b t=>sink hs b t) b)=size b+ts.length:=by
  intro ts
  induction ts with
  |nil=>intro b;rfl
  |cons t r ih=>intro b;rw [List.foldl_cons,ih,zU,List.length_cons];lia
 intro q
 induction q with
 |table T=>rfl
 |whr q ts ih=>show size (ts.foldl _ (move hs q))=size q+ts.length;rw [fold,ih]
 |keep q ns ih=>show size (move hs q)+1=_;rw [ih];rfl
 |nmd q ns ih=>show size (move hs q)+1=_;rw [ih];rfl
 |join q r ps ih1 ih2=>show size (move hs q)+size (move hs r)+1=_;rw [ih1,ih2];rfl
 |group q ns ss ih=>show size (move hs q)+1=_;rw [ih];rfl
 |first q ks m ih=>show size (move hs q)+1=_;rw [ih];rfl
theorem qF {hd:Hdr} {n k:Str} (h:look hd n=some k):(n,k)∈hd:=by
 obtain ⟨i,h1,_⟩:=aAs h
 exact List.mem_of_getElem? h1
theorem sY {hd:Hdr} {t:Tst} (h:dM hd t):∀n∈bI t,∃k,look hd n=some k:=by
 obtain ⟨k,h1,h2⟩:=h
 intro n hn
 unfold bI at hn
 cases ho:t.o with
 |val v=>
  rw [ho] at hn
  rw [List.mem_singleton.mp hn]
  exact ⟨k,h1⟩
 |col d=>
  rw [ho] at hn h2
  rcases List.mem_cons.mp hn with e|hn
  ·rw [e];exact ⟨k,h1⟩
  ·rw [List.mem_singleton.mp hn];exact ⟨k,h2⟩
theorem uW {hd hd':Hdr} {t:Tst} (f:Str→Str) (h:dM hd t) (e:∀n∈bI t,∀k,look hd n=some k→look hd' (f n)=some k):dM hd' (aH8 f t):=by
 obtain ⟨k,h1,h2⟩:=h
 have m1:t.c∈bI t:=by unfold bI;cases t.o <;> simp
 refine ⟨k,e _ m1 k h1,?_⟩
 show aTd hd' (bAf f t.o)=some k
 cases ho:t.o with
 |val v=>rw [ho] at h2;exact h2
 |col d=>
  rw [ho] at h2
  exact e d (by unfold bI;rw [ho];simp) k h2
theorem aWz (t:Tst):aH8 id t=t:=by
 cases t with
 |mk c sg o=>cases o <;> rfl
theorem fZ {hd hd':Hdr} {t:Tst} (h:dM hd t) (e:∀n∈bI t,∀k,look hd n=some k→look hd' n=some k):dM hd' t:=by
 have:=uW id h e
 rw [aWz] at this
 exact this
theorem tW {h1 h2:Hdr} {n:Str} (h:n∈h1.map (·.1)):look (h1++h2) n=look h1 n:=by
 unfold look
 rw [List.find?_append]
 obtain ⟨c,hc,e⟩:=List.mem_map.mp h
 have:(h1.find? fun c=>decide (c.1=n)).isSome:=List.find?_isSome.mpr ⟨c,hc,decide_eq_true e⟩
 obtain ⟨x,hx⟩:=Option.isSome_iff_exists.mp this
 rw [hx]
 rfl
theorem aBp {h1 h2:Hdr} {n:Str} (h:n∉h1.map (·.1)):look (h1++h2) n=look h2 n:=by
 unfold look
 rw [List.find?_append]
 have:(h1.find? fun c=>decide (c.1=n))=none:=List.find?_eq_none.mpr fun c hc e=>h (List.mem_map.mpr ⟨c,hc,of_decide_eq_true e⟩)
 rw [this]
 rfl
theorem zX {hd:Hdr} {n:Str} {ds:List Str} (h:n∉ds):look (hd.filter fun c=>!decide (c.1∈ds)) n=look hd n:=by
 induction hd with
 |nil=>rfl
 |cons c hd ih=>
  by_cases e:c.1=n
  ·have e2:¬ c.1∈ds:=by rw [e];exact h
   rw [List.filter_cons_of_pos (by simpa using e2)]
   unfold look
   rw [List.find?_cons,List.find?_cons,decide_eq_true e]
  ·by_cases e2:c.1∈ds
   ·rw [List.filter_cons_of_neg (by simpa using e2),ih]
    unfold look
    rw [List.find?_cons,decide_eq_false e]
   ·rw [List.filter_cons_of_pos (by simpa using e2)]
    unfold look at ih ⊢
    rw [List.find?_cons,List.find?_cons,decide_eq_false e]
    exact ih
theorem jK {hd:Hdr} {n k:Str} (h:look hd n=some k):n∈hd.map (·.1):=List.mem_map.mpr ⟨_,qF h,rfl⟩
theorem xX {hd:Hdr} {ns ks:List Str} (h:Looks hd ns ks) {n k:Str} (e:(n,k)∈ns.zip ks):look hd n=some k:=by
 induction h with
 |nil=>simp at e
 |cons r _ ih=>
  rw [List.zip_cons_cons] at e
  rcases List.mem_cons.mp e with e|e
  ·cases e;exact r
  ·exact ih e
theorem aIp:∀{ns os:List Str} {i:Nat} {n o:Str},ns.Nodup→ns[i]?=some n→os[i]?=some o→elder ns os n=o
 |m::ns,p::os,0,n,o,_,h1,h2=>by
  cases h1
  cases h2
  unfold elder
  rw [List.zip_cons_cons,List.find?_cons,decide_eq_true rfl]
  rfl
 |m::ns,p::os,i+1,n,o,nd,h1,h2=>by
  rw [List.nodup_cons] at nd
  have h1':ns[i]?=some n:=by simpa using h1
  have h2':os[i]?=some o:=by simpa using h2
  have ne:¬ m=n:=fun e=>nd.1 (by rw [e];exact List.mem_of_getElem? h1')
  have ih:=aIp nd.2 h1' h2'
  unfold elder at ih ⊢
  rw [List.zip_cons_cons,List.find?_cons,decide_eq_false ne]
  exact ih
 |[],_,i,n,o,_,h1,_=>by simp at h1
 |_::_,[],i,n,o,_,_,h2=>by simp at h2
theorem aF6 {ns:List Str} {hd:Hdr} {n k:Str} (hl:ns.length=hd.length) (nd:ns.Nodup) (h:look (List.zipWith (fun n c=>(n,c.2)) ns hd) n=some k):∃o,elder ns (hd.map (·.1)) n=o∧(o,k)∈hd:=by
 obtain ⟨i,h1,_⟩:=aAs h
 rw [List.getElem?_zipWith] at h1
 cases e1:ns[i]? with
 |none=>rw [e1] at h1;cases h1
 |some m=>
  cases e2:hd[i]? with
  |none=>rw [e1,e2] at h1;cases h1
  |some c=>
   rw [e1,e2] at h1
   cases h1
   exact ⟨c.1,aIp nd e1 (by rw [List.getElem?_map,e2];rfl),List.mem_of_getElem? e2⟩
theorem uA {cs ns:List Str} (h:sub cs ns=true):∀n∈cs,n∈ns:=fun n hn=>of_decide_eq_true (List.all_eq_true.mp h n hn)
theorem wX {hd:Hdr} {t:Tst} (h:dM hd t):∀t'∈[t],dM hd t':=fun t' ht=>by rw [List.mem_singleton.mp ht];exact h
theorem aNj {hs:Str→Option Hdr}:∀{q:Qn} {hd:Hdr} {t:Tst},HQ hs q hd→dM hd t→HQ hs (sink hs q t) hd:=by
 intro q
 induction q with
 |table T=>intro hd t h ht;exact .mk1 rfl h (.whr (wX ht)) h.good
 |first q ks m ih=>intro hd t h ht;exact .mk1 rfl h (.whr (wX ht)) h.good
 |whr q ts ih=>
  intro hd t h ht
  obtain ⟨ihds,hk,hh,hg⟩:=h.in
  cases hk with
  |cons r t'=>
   cases t'
   cases hh with
   |whr hts=>exact .mk1 rfl (ih r ht) (.whr hts) hg
 |keep q ns ih=>
  intro hd t h ht
  obtain ⟨ihds,hk,hh,hg⟩:=h.in
  cases hk with
  |cons r t'=>
   cases t'
   cases hh with
   |keep l=>exact .mk1 rfl (ih r (fZ ht fun n _ k e=>xX l (qF e))) (.keep l) hg
 |nmd q ns ih=>
  intro hd t h ht
  obtain ⟨ihds,hk,hh,hg⟩:=h.in
  cases hk with
  |cons r t'=>
   cases t'
   cases hh with
   |nmd l=>
    refine .mk1 rfl (ih r ?_) (.nmd l) hg
    have nd:ns.Nodup:=by have:=hg.1;rw [gP l] at this;exact this
    rw [show cL hs q=_ from congrArg (List.map (fun c:Str × Str=>c.1)) (fV r)]
    refine uW _ ht fun n _ k e=>?_
    obtain ⟨o,e1,e2⟩:=aF6 l nd e
    rw [e1]
    exact jH r.good.1 e2
 |join q r ps ih1 ih2=>
  intro hd t h ht
  obtain ⟨ihds,hk,hh,hg⟩:=id h.in
  cases hk with
  |cons r1 t'=>
   cases t' with
   |cons r2 t2=>
    cases t2
    cases hh with
    |join l n1 n2=>
     show HQ hs (if sub (bI t) (cL hs q) then .join (sink hs q t) r ps else if sub (bI t) (seenOf hs r ps) then .join q (sink hs r t) ps else .whr (.join q r ps) [t]) _
     rename_i h1 h2 ks
     have e1:cL hs q=h1.map (·.1):=congrArg (List.map (fun c:Str × Str=>c.1)) (fV r1)
     have e2:cL hs r=h2.map (·.1):=congrArg (List.map (fun c:Str × Str=>c.1)) (fV r2)
     split
     ·rename_i hsub
      rw [e1] at hsub
      exact .mk2 rfl (ih1 r1 (fZ ht fun n hn k e=>by rw [tW (uA hsub n hn)] at e;exact e)) r2 (.join l n1 n2) hg
     ·split
      ·rename_i hsub
       refine .mk2 rfl r1 (ih2 r2 (fZ ht fun n hn k e=>?_)) (.join l n1 n2) hg
       have hs':=uA hsub n hn
       unfold seenOf at hs'
       rw [e2] at hs'
       obtain ⟨a1,a2⟩:=List.mem_filter.mp hs'
       have a3:n∉ps.map (·.2):=by simpa using a2
       have nin:n∉h1.map (·.1):=by
        intro z
        have nd:=hg.1
        rw [List.map_append,List.nodup_append] at nd
        obtain ⟨c,hc,rfl⟩:=List.mem_map.mp a1
        exact nd.2.2 _ z _ (List.mem_map.mpr ⟨c,List.mem_filter.mpr ⟨hc,by simpa using a3⟩,rfl⟩) rfl
       rw [aBp nin,zX a3] at e
       exact e
      ·exact .mk1 rfl h (.whr (wX ht)) hg
 |group q ns ss ih=>
  intro hd t h ht
  obtain ⟨ihds,hk,hh,hg⟩:=id h.in
  cases hk with
  |cons r t'=>
   cases t'
   cases hh with
   |group l j=>
    show HQ hs (if sub (bI t) ns then .group (sink hs q t) ns ss else .whr (.group q ns ss) [t]) _
    split
    ·rename_i hsub
     refine .mk1 rfl (ih r (fZ ht fun n hn k e=>?_)) (.group l j) hg
     have hm:=uA hsub n hn
     rw [tW (by rw [List.map_fst_zip (by have:=l.len;lia)];exact hm)] at e
     exact xX l (qF e)
    ·exact .mk1 rfl h (.whr (wX ht)) hg
theorem aTp {hs:Str→Option Hdr}:∀{q:Qn} {hd:Hdr},HQ hs q hd→HQ hs (move hs q) hd:=by
 have fold:∀(ts:List Tst) (b:Qn) (hd:Hdr),HQ hs b hd→(∀t∈ts,dM hd t)→HQ hs (ts.foldl (fun b t=>sink hs b t) b) hd:=by
  intro ts
  induction ts with
  |nil=>intro b hd h _;exact h
  |cons t r ih=>intro b hd h ht;exact ih _ hd (aNj h (ht t (List.mem_cons_self ..))) fun t' h'=>ht t' (List.mem_cons_of_mem _ h')
 intro q
 induction q with
 |table T=>intro hd h;exact h
 |whr q ts ih=>
  intro hd h
  obtain ⟨ihds,hk,hh,hg⟩:=h.in
  cases hk with
  |cons r t'=>
   cases t'
   cases hh with
   |whr hts=>exact fold ts _ _ (ih r) hts
 |keep q ns ih=>
  intro hd h
  obtain ⟨ihds,hk,hh,hg⟩:=h.in
  cases hk with
  |cons r t'=>
   cases t'
   cases hh with
   |keep l=>exact .mk1 rfl (ih r) (.keep l) hg
 |nmd q ns ih=>
  intro hd h
  obtain ⟨ihds,hk,hh,hg⟩:=h.in
  cases hk with
  |cons r t'=>
   cases t'
   cases hh with
   |nmd l=>exact .mk1 rfl (ih r) (.nmd l) hg
 |join q r ps ih1 ih2=>
  intro hd h
  obtain ⟨ihds,hk,hh,hg⟩:=h.in
  cases hk with
  |cons r1 t'=>
   cases t' with
   |cons r2 t2=>
    cases t2
    cases hh with
    |join l n1 n2=>exact .mk2 rfl (ih1 r1) (ih2 r2) (.join l n1 n2) hg
 |group q ns ss ih=>
  intro hd h
  obtain ⟨ihds,hk,hh,hg⟩:=h.in
  cases hk with
  |cons r t'=>
   cases t'
   cases hh with
   |group l j=>exact .mk1 rfl (ih r) (.group l j) hg
 |first q ks m ih=>
  intro hd h
  obtain ⟨ihds,hk,hh,hg⟩:=h.in
  cases hk with
  |cons r t'=>
   cases t'
   cases hh with
   |first l n=>exact .mk1 rfl (ih r) (.first l n) hg
def NmQ:Qn→Prop
 |.table _=>True
 |.whr q _=>NmQ q
 |.keep q ns=>NmQ q∧∀n∈ns,Nm n
 |.nmd q ns=>NmQ q∧∀n∈ns,Nm n
 |.join q r _=>NmQ q∧NmQ r
 |.group q ns ss=>NmQ q∧(∀n∈ns,Nm n)∧∀s∈ss,Nm s.new
 |.first q _ _=>NmQ q
theorem aB8 {lo hi:Nat} {H:Hp} {v:V} {ns:List Str} (h:gM fH lo hi K H v ns):∀n∈ns,Nm n:=by
 obtain ⟨⟨a,vs,_u,_v,h2⟩,_w⟩:=h
 clear _u _v _w
 induction h2 with
 |nil=>intro n hn;cases hn
 |cons r _ ih=>
  intro n hn
  rcases List.mem_cons.mp hn with rfl|hn
  ·exact r.2
  ·exact ih n hn
theorem aQk {H:Hp} {v:V} {q:Qn} (h:IsQ K H v q):NmQ q:=by
 induction h with
 |table _ _=>trivial
 |whr _ _ _ ih=>exact ih
 |keep _ _ c ih=>exact ⟨ih,aB8 c⟩
 |nmd _ _ c ih=>exact ⟨ih,aB8 c⟩
 |join _ _ _ _ ih1 ih2=>exact ⟨ih1,ih2⟩
 |group _ _ c d ih=>
  refine ⟨ih,aB8 c,?_⟩
  obtain ⟨⟨a,vs,_u,_v,h2⟩,_w⟩:=d
  clear _u _v _w
  intro s hs
  induction h2 with
  |nil=>cases hs
  |cons r _ ih2=>
   rcases List.mem_cons.mp hs with rfl|hs
   ·obtain ⟨_,_,hn,_⟩:=r;exact hn
   ·exact ih2 hs
 |first _ _ _ _ ih=>exact ih
theorem aWq {hs:Str→Option Hdr} (hT:∀T hd,hs T=some hd→∀c∈hd,Nm c.1):∀{q:Qn} {hd:Hdr},NmQ q→HQ hs q hd→∀c∈hd,Nm c.1:=by
 intro q
 induction q with
 |table T=>
  intro hd _ h
  obtain ⟨ihds,hk,hh,hg⟩:=h.in
  cases hk
  cases hh with
  |table e=>exact hT T _ e
 |whr q ts ih=>
  intro hd hn h
  obtain ⟨ihds,hk,hh,hg⟩:=h.in
  cases hk with
  |cons r t'=>
   cases t'
   cases hh
   exact ih hn r
 |keep q ns ih=>
  intro hd hn h
  obtain ⟨ihds,hk,hh,hg⟩:=h.in
  cases hk with
  |cons r t'=>
   cases t'
   cases hh with
   |keep l=>intro c hc;exact hn.2 _ (List.of_mem_zip hc).1
 |nmd q ns ih=>
  intro hd hn h
  obtain ⟨ihds,hk,hh,hg⟩:=h.in
  cases hk with
  |cons r t'=>
   cases t'
   cases hh with
   |nmd l=>intro c hc;exact hn.2 _ (aB9 hc).1
 |join q r ps ih1 ih2=>
  intro hd hn h
  obtain ⟨ihds,hk,hh,hg⟩:=h.in
  cases hk with
  |cons r1 t'=>
   cases t' with
   |cons r2 t2=>
    cases t2
    cases hh with
    |join l n1 n2=>
     intro c hc
     rcases List.mem_append.mp hc with hc|hc
     ·exact ih1 hn.1 r1 c hc
     ·exact ih2 hn.2 r2 c (List.mem_filter.mp hc).1
 |group q ns ss ih=>
  intro hd hn h
  obtain ⟨ihds,hk,hh,hg⟩:=h.in
  cases hk with
  |cons r t'=>
   cases t'
   cases hh with
   |group l j=>
    intro c hc
    rcases List.mem_append.mp hc with hc|hc
    ·exact hn.2.1 _ (List.of_mem_zip hc).1
    ·obtain ⟨s,hs',e⟩:=List.mem_map.mp (List.of_mem_zip hc).1
     rw [←e]
     exact hn.2.2 s hs'
 |first q ks m ih=>
  intro hd hn h
  obtain ⟨ihds,hk,hh,hg⟩:=h.in
  cases hk with
  |cons r t'=>
   cases t'
   cases hh
   exact ih hn r
def wM (K:PySem.W.Frag):Sp:=fun vs H Q _=>∃v t,vs=[v]∧IsT K H v t∧∀D H',Same H H'→H' D=some (.lst ((bI t).map V.str))→Q (.ref D) H'
theorem aCu (T:Txt w K mg):Ok P w K mg base 1 "columns_of" ["test"] (wM K):=by
 refine Ok.ofV T.aFa aDt (fun vs H Q E h=>?_) (fun f cdv A outer s H vs Q E hr h=>?_)
 ·obtain ⟨v,t,rfl,_⟩:=h;rfl
 obtain ⟨v,⟨c,sg,o⟩,rfl,⟨a,w,rfl,ha,n1,s1,ho⟩,q⟩:=h
 refine ⟨_,(aF (aM (gH (aU cG (aH aR (aH aR (vv 0) aD (fun _ _=>rfl)) aD (fun _ _=>rfl)) aO (aZ _)) (cO (aB (aH aR (vv 0) aD (fun _ _=>rfl)) (aB (aH aR (aH aR (vv 0) aD (fun _ _=>rfl)) aD (fun _ _=>rfl)) aA))) (cO (aB (aH aR (vv 0) aD (fun _ _=>rfl)) aA))))),?_⟩
 cases o with
 |val x=>
  obtain ⟨b,rfl,hb,_⟩:=ho
  exact ⟨_,rfl,_,_,2,_,rfl,rfl,ha,at2 _ _ _ _,_,_,0,_,rfl,rfl,hb,at0 _ _,rfl,_,rfl,bC ⟨_,rfl,_,_,0,_,rfl,rfl,ha,at0 _ _,(by show 1≤sizeLine;decide),fun D H' _ s' g=>q D H' s' g⟩⟩
 |col d=>
  obtain ⟨b,rfl,hb,_⟩:=ho
  exact ⟨_,rfl,_,_,2,_,rfl,rfl,ha,at2 _ _ _ _,_,_,0,_,rfl,rfl,hb,at0 _ _,rfl,_,rfl,cC ⟨_,rfl,_,_,0,_,rfl,rfl,ha,at0 _ _,_,rfl,_,_,2,_,rfl,rfl,ha,at2 _ _ _ _,_,_,1,_,rfl,rfl,hb,at1 _ _ _,(by show 2≤sizeLine;decide),fun D H' _ s' g=>q D H' s' g⟩⟩
def aQe (K:PySem.W.Frag):Sp:=fun vs H Q _=>∃v d t kvs,∃f:Str→Str,vs=[v,.ref d]∧IsT K H v t∧H d=some (.dK kvs)∧(∀n∈bI t,mU kvs (Sum.inr n:Key)=some (.str (f n))∧Nm (f n))∧∀v' H',Same H H'→IsT K H' v' (aH8 f t)→Q v' H'
theorem aLf (T:Txt w K mg):Ok P w K mg base 1 "renamed" ["test","names"] (aQe K):=by
 refine Ok.ofV T.aPe aCh (fun vs H Q E h=>?_) (fun f cdv A outer s H vs Q E hr h=>?_)
 ·obtain ⟨v,d,t,kvs,f,rfl,_⟩:=h;rfl
 obtain ⟨v,d,⟨c,sg,o⟩,kvs,f,rfl,⟨a,w,rfl,ha,n1,s1,ho⟩,hd,hk,q⟩:=h
 have hu:=uP hr
 refine ⟨_,(aC (aV (i:=2) aCh.nd rfl (by trivial) (gH (aU cG (aH aR (aH aR (vv 0) aD (fun _ _=>rfl)) aD (fun _ _=>rfl)) aO (aZ _)) (aY (aB aO (aB (lC hu (vv 1) (aH aR (aH aR (vv 0) aD (fun _ _=>rfl)) aD (fun _ _=>rfl)) (fun _ _=>rfl)) aA))) (aH aR (vv 0) aD (fun _ _=>rfl)))) (aF (aM (aY (aB (lC hu (vv 1) (aH aR (vv 0) aD (fun _ _=>rfl)) (fun _ _=>rfl)) (aB (aH aR (vv 0) aD (fun _ _=>rfl)) (aB (vv 2) aA))))))),?_⟩
 cases o with
 |val x=>
  obtain ⟨b,rfl,hb,hx⟩:=ho
  obtain ⟨k1,k2⟩:=hk c (by simp [bI])
  refine ⟨_,rfl,_,_,2,_,rfl,rfl,ha,at2 _ _ _ _,_,_,0,_,rfl,rfl,hb,at0 _ _,rfl,_,rfl,bC ⟨_,rfl,_,_,2,_,rfl,rfl,ha,at2 _ _ _ _,?_⟩⟩
  refine ⟨_,rfl,_,rfl,_,_,0,_,rfl,rfl,ha,at0 _ _,d,_,rfl,k1 ▸ rJ.k (k:=Sum.inr c) hd,_,rfl,_,_,1,_,rfl,rfl,ha,at1 _ _ _,_,rfl,(by show 3≤sizeLine;decide),fun p H' _ s' g=>q _ _ s' ⟨p,_,rfl,SqT.of g,k2,s1,⟨b,rfl,s'.aK hb,hx.1.same s',hx.2⟩⟩⟩
 |col e=>
  obtain ⟨b,rfl,hb,hx⟩:=ho
  obtain ⟨k1,k2⟩:=hk c (by simp [bI])
  obtain ⟨l1,l2⟩:=hk e (by simp [bI])
  refine ⟨_,rfl,_,_,2,_,rfl,rfl,ha,at2 _ _ _ _,_,_,0,_,rfl,rfl,hb,at0 _ _,rfl,_,rfl,cC ⟨_,rfl,_,rfl,_,_,2,_,rfl,rfl,ha,at2 _ _ _ _,_,_,1,_,rfl,rfl,hb,at1 _ _ _,d,_,rfl,l1 ▸ rJ.k (k:=Sum.inr e) hd,(by show 2≤sizeLine;decide),fun r H1 _ s1' g1=>?_⟩⟩
  refine ⟨_,rfl,_,rfl,_,_,0,_,rfl,rfl,s1'.aK ha,at0 _ _,d,_,rfl,k1 ▸ rJ.k (k:=Sum.inr c) (s1' _ _ hd),_,rfl,_,_,1,_,rfl,rfl,s1'.aK ha,at1 _ _ _,_,rfl,(by show 3≤sizeLine;decide),fun p H' _ s' g=>q _ _ (s1'.trans s') ⟨p,_,rfl,SqT.of g,k2,s1,⟨r,rfl,SqT.of (s' _ _ g1),l2⟩⟩⟩
def aMs (K:PySem.W.Frag):Sp:=fun vs H Q _=>∃a u cs ns,vs=[.ref a,u]∧SqL K H a (cs.map V.str)∧cs.length≤1000∧aM5 K H u ns∧∀H',Same H H'→Q (.bl (sub cs ns)) H'
theorem aGu (T:Txt w K mg):Ok P w K mg base 1 "are_among" ["columns","names"] (aMs K):=by
 refine Ok.ofV T.aHs aE0 (fun vs H Q E h=>?_) (fun f cdv A outer s H vs Q E hr h=>?_)
 ·obtain ⟨a,u,cs,ns,rfl,_⟩:=h;rfl
 obtain ⟨a,u,cs,ns,rfl,ha,hl,⟨b,rfl,hb⟩,q⟩:=h
 refine ⟨_,(aF (aM (aW (nM rfl) (by rfl) T.aCi vI (aB (bZ (N:=["column","names"]) (by trivial) (cV (aG oN) rfl (by decide +kernel)) rfl (eE (vv 0)) (fun cl s' H' fp=>⟨(aL (i:=0) (show (["column","names"]:List Str).Nodup from by decide +kernel) rfl (Or.inl rfl)),cI,(eZ (nG (K:=K)) (vv 0) (vv 1) (by with_unfolding_all rfl))⟩)) aA)))),?_⟩
 dsimp only [aDl,tCB,uO,fK]
 refine iT (cs.map V.str) ((cs.map fun x=>decide (x∈ns)).map V.bl) (by rw [List.length_map,List.length_map,List.length_map]) [none,some (.ref b)] ?_ (small (by rw [List.length_map];lia)) (fun R r=>uF (fun H' sm=>sm.seq ha) (fun R' r'=>⟨_,rfl,r'⟩) R r) (fun i x y ex ey H' R l sm r=>?_) rfl fun D H' sm hD=>?_
 ·exact cX 1 (by decide +kernel) rfl rfl (by trivial)
 ·obtain ⟨n,hn,rfl⟩:=dJ ex
  obtain ⟨z,hz,rfl⟩:=dJ ey
  rw [List.getElem?_map,hn] at hz
  cases hz
  refine ⟨_,rfl,_,rfl,b,_,rfl,hb.imp sm.seq sm.aK,rfl,iJ,?_⟩
  show R (.bl (inV (.str n) (ns.map V.str))) H'
  rw [lK]
  exact r H' (Same.refl H')
 ·refine ⟨D,_,rfl,SqL.of hD,?_⟩
  rw [List.all_map]
  exact q H' sm
theorem aCk {p:Nat→Bool} {R:Nat→V→Prop}:∀{k:Nat} {l:List Str} {ys:List V},(∀(j:Nat) (n:Str),l[j]?=some n→∀y,R (k+j) y→y=.str n)→mF R (sel p k (List.range' k l.length)) ys→ys=(sel p k l).map V.str
 |k,[],ys,_,h=>by cases h;rfl
 |k,n::r,ys,hR,h=>by
  rw [List.length_cons,List.range'_succ] at h
  have h:mF R (if p k then k::sel p (k+1) (List.range' (k+1) r.length) else sel p (k+1) (List.range' (k+1) r.length)) ys:=h
  have ih:∀{zs:List V},mF R (sel p (k+1) (List.range' (k+1) r.length)) zs→zs=(sel p (k+1) r).map V.str:=fun {zs} hz=>
   aCk (k:=k+1) (l:=r) (fun j m hj y hy=>hR (j+1) m (by simpa using hj) y (by rw [show k+(j+1)=k+1+j by lia];exact hy)) hz
  show ys=(if p k then n::sel p (k+1) r else sel p (k+1) r).map V.str
  split at h
  ·rename_i hp
   rw [if_pos hp]
   cases h with
   |cons r' t=>
    rw [List.map_cons,←ih t,hR 0 n rfl _ r']
  ·rename_i hp
   rw [if_neg hp]
   exact ih h
def frP (l used:List Str) (i:Nat):Bool:=match l[i]? with
 |some n=>!decide (n∈used)
 |none=>false
theorem aRw {X:Cx} {scope:Scope} {Nn:List Str} {tl:TE} {tt:TT} {σ:L2.St} {H:Hp} {Q:VK} {U:V} {ns used:List Str} (hl:ns.length≤1000) (cap:Cap X scope Nn σ [none,some U]) (hw:∀R:VK,(∀p H1,Same H H1→H1 p=some (.lst (ns.map V.str))→R (.ref p) H1)→tl σ H R)
  (ht:∀(n:Str) l H' R,Same H H'→(∀H2,Same H' H2→R (!decide (n∈used)) H2)→tt (([none,some U].set 0 l).set 0 (some (.str n))) H' R)
  (q:∀D H',H D=none→Same H H'→H' D=some (.lst ((ns.filter fun n=>!decide (n∈used)).map V.str))→Q (.ref D) H'):iQ X scope Nn (rG K tl) (bO 0) tt (uR 0) σ H Q:=by
 refine rQ [none,some U] cap (hw _ fun p H1 s1 g1=>⟨p,rfl,⟨_,SqL.of g1⟩,yG Same (oW H1) (ns.map V.str) (frP ns used) (fun i _ y=>∃n,ns[i]?=some n∧y=.str n) (fun _ _ h=>h) (fun _ _ _ h=>h) (fun i σ=>∃n,ns[i]?=some n∧At1 [none,some U] (.str n) σ) (Ps1 [none,some U]) ⟨none,rfl⟩ (small (by rw [List.length_map];lia)) _ (yE fun H' s'=>SqL.of (s' _ _ g1)) (pO fun H' s'=>SqL.of (s' _ _ g1)) (fun i x σ' H' Q' ex hps s' qq=>?_) (fun i x σ2 ex hA H' R s' r=>?_) (fun i x σ2 ex hA _ H' R s' r=>?_) fun D H2 ys s2 fD g2 hys=>?_⟩)
 ·obtain ⟨n,hn',rfl⟩:=dJ ex
  exact hg1 (i:=i) hps fun σ2 h1 h2=>qq σ2 h1 ⟨n,hn',h2⟩
 ·obtain ⟨n,hn',l,rfl⟩:=hA
  refine ht n l H' _ (s1.trans s') fun H2 s2=>?_
  have e:frP ns used i=!decide (n∈used):=by unfold frP;rw [hn']
  rw [←e]
  exact r H2 s2
 ·obtain ⟨n,hn',l,rfl⟩:=hA
  exact ⟨_,by cases l <;> rfl,r _ _ (Same.refl H') ⟨n,hn',rfl⟩⟩
 ·rw [List.length_map,List.range_eq_range'] at hys
  have ey:=aCk (k:=0) (l:=ns) (fun j n hj y hy=>by
   obtain ⟨m,hm,e⟩:=hy
   rw [Nat.zero_add,hj] at hm
   cases hm
   exact e) hys
  have es:sel (frP ns used) 0 ns=ns.filter fun n=>!decide (n∈used):=kY fun i x ex=>by
   unfold frP
   rw [Nat.zero_add,ex]
  rw [ey,es] at g2
  exact q D H2 (s1.free fD) (s1.trans s2) g2
def lN (hs:Str→Option Hdr) (q r:Qn) (ps:List (Str × Str)) (cs:List Str):V:=if sub cs (cL hs q) then .int 0 else if sub cs (seenOf hs r ps) then .int 1 else .non
def aWa (K:PySem.W.Frag):Sp:=fun vs H Q _=>∃d v a hs q r ps h1 h2 cs,vs=[.ref d,v,.ref a]∧eQ K H d hs∧IsQ K H v (.join q r ps)∧size q≤20∧size r≤20∧HQ hs q h1∧HQ hs r h2∧SqL K H a (cs.map V.str)∧cs.length≤1000∧∀H',Same H H'→Q (lN hs q r ps cs) H'
theorem aAp (T:Txt w K mg) (oM:Ok P w K mg base 1 "are_among" ["columns","names"] (aMs K)) (iV:Ok P w K mg base 1 "names_of" ["head"] (aE1 K)) (mZ:Ok P w K mg base 27 "head_of" ["heads","question"] (aIb K)) :
  Ok P w K mg base 28 "side_of_join" ["heads","question","columns"] (aWa K):=by
 refine Ok.ofV T.aBf mC (fun vs H Q E h=>?_) (fun f cdv A outer s H vs Q E hr h=>?_)
 ·obtain ⟨d,v,a,hs,q,r,ps,h1,h2,cs,rfl,_⟩:=h;rfl
 obtain ⟨d,v,c,hs,q0,r0,ps,h1,h2,cs,rfl,hds,hq,z1,z2,k1,k2,hc,lc,q⟩:=h
 refine ⟨_,(aC (bR (fC (aJ (oM.mono (by decide)) hr (by rfl) (aB (vv 2) (aB (aJ (iV.mono (by decide)) hr (by rfl) (aB (aJ (mZ.mono (by decide)) hr (by rfl) (aB (vv 0) (aB (aH aR (vv 1) aD (fun _ _=>rfl)) aA))) aA)) aA)))) (aF (aM aD)) bA) (aC (aV (i:=3) mC.nd rfl (by trivial) (bZ (N:=["pair"]) (by trivial) (dZ (by decide +kernel)) rfl (eO (aH aR (vv 1) aD (fun _ _=>rfl))) (fun cl s' H' fp=>⟨(aL (i:=0) (show (["pair"]:List Str).Nodup from by decide +kernel) rfl (Or.inl rfl)),cI,(aH (cD (K:=K)) (vv 0) aD (fun _ _=>rfl))⟩))) (aC (iR (i0:=4) mC.nd rfl (by trivial) (N:=["name","paired"]) (by trivial) (cV (aG jT) rfl (by decide +kernel)) rfl (eE (aJ (iV.mono (by decide)) hr (by rfl) (aB (aJ (mZ.mono (by decide)) hr (by rfl) (aB (vv 0) (aB (aH aR (vv 1) aD (fun _ _=>rfl)) aA))) aA))) (fun cl s' H' fp=>⟨(aL (i:=0) (show (["name","paired"]:List Str).Nodup from by decide +kernel) rfl (Or.inl rfl)),(pZ (aU (iG (K:=K)) (vv 0) (vv 1) (by with_unfolding_all rfl))),(vv 0)⟩)) (aF (aM (gH (fC (aJ (oM.mono (by decide)) hr (by rfl) (aB (vv 2) (aB (vv 4) aA)))) aD rN)))))),?_⟩
 cases hq with
 |join a b e g=>
  have gd1:=k1.good.2.2
  have gd2:=k2.good.2.2
  refine ⟨_,rfl,_,rfl,_,rfl,_,_,1,_,rfl,rfl,a,at1 _ _ _,d,_,hs,q0,h1,rfl,hds,b,z1,k1,fun v1 H1 s1 i1=>⟨v1,h1,rfl,i1,by lia,fun D2 H2 s2 g2=>?_⟩⟩
  have t2:=s1.trans s2
  refine ⟨c,_,cs,h1.map (·.1),rfl,t2.seq hc,lc,⟨D2,rfl,.inl (SqL.of g2)⟩,fun H3 s3=>?_⟩
  have t3:=t2.trans s3
  have e1:cL hs q0=h1.map (·.1):=by unfold cL;rw [fV k1]
  refine ⟨_,rfl,lU (fun y=>?_) fun y=>?_⟩
  ·have:lN hs q0 r0 ps cs=.int 0:=by unfold lN;rw [e1,if_pos y]
   rw [this] at q
   exact q H3 t3
  obtain ⟨⟨p,us,rfl,hp,hu⟩,l1,l2⟩:=g
  have lu:=hu.len
  dsimp only [oK,gY,iU]
  refine iT us ((ps.map (·.2)).map V.str) (by rw [List.length_map,List.length_map];lia) [none] mX (small (by lia)) (fun R r=>mD (t3.aK hp) (fun R' r'=>⟨_,rfl,_,_,3,_,rfl,rfl,t3.aK a,cF (j:=3) rfl,r'⟩) R r) (fun i x y ex ey H' R l sm r=>?_) rfl fun D4 H4 s4 g4=>?_
  ·obtain ⟨p',hp',b',rfl,hb',_⟩:=bJ hu ex
   obtain ⟨n,hn,rfl⟩:=dJ ey
   rw [List.getElem?_map,hp'] at hn
   cases hn
   exact ⟨_,rfl,b',_,1,_,rfl,rfl,sm.aK (t3.aK hb'),at1 _ _ _,r H' (Same.refl H')⟩
  have t4:=t3.trans s4
  dsimp only [bO,gY,iU]
  refine aRw (used:=ps.map (·.2)) (ns:=h2.map (·.1)) (by rw [List.length_map];lia) (U:=.ref D4) ?_ (fun R r=>⟨_,rfl,_,rfl,_,_,2,_,rfl,rfl,t4.aK a,at2 _ _ _ _,d,_,hs,r0,h2,rfl,hds.same t4,e.same t4,z2,k2,fun v5 H5 s5 i5=>⟨v5,h2,rfl,i5,by lia,fun D6 H6 s6 g6=>r D6 H6 (s5.trans s6) g6⟩⟩) (fun n l H' R s' r=>?_) fun D7 H7 _ s7 g7=>?_
  ·exact cX 3 (by decide +kernel) rfl rfl (by trivial)
  ·refine ⟨_,by cases l <;> rfl,_,by cases l <;> rfl,D4,_,rfl,.inl (SqL.of (s' _ _ g4)),rfl,iJ,_,rfl,?_⟩
   rw [lK]
   exact r H' (Same.refl H')
  have e2:seenOf hs r0 ps=(h2.map (·.1)).filter fun n=>!decide (n∈ps.map (·.2)):=by unfold seenOf cL;rw [fV k2]
  refine ⟨_,rfl,_,rfl,c,_,cs,_,rfl,(t4.trans s7).seq hc,lc,⟨D7,rfl,.inl (SqL.of g7)⟩,fun H8 s8=>?_⟩
  have t8:=t4.trans (s7.trans s8)
  refine ⟨_,rfl,lU (fun y'=>?_) fun y'=>?_⟩
  ·have:lN hs q0 r0 ps cs=.int 1:=by unfold lN;rw [e1,if_neg y,e2,if_pos y']
   rw [this] at q
   exact q _ t8
  ·have:lN hs q0 r0 ps cs=.non:=by unfold lN;rw [e1,if_neg y,e2,if_neg y']
   rw [this] at q
   exact q _ t8
def zW (hs:Str→Option Hdr) (cs:List Str):Qn→V
 |.table _=>.non
 |.whr _ _=>.int 0
 |.keep _ _=>.int 0
 |.nmd _ _=>.int 0
 |.join q r ps=>lN hs q r ps cs
 |.group _ ns _=>if sub cs ns then .int 0 else .non
 |.first _ _ _=>.non
def aWi (K:PySem.W.Frag):Sp:=fun vs H Q _=>∃d v a hs q hd cs,vs=[.ref d,v,.ref a]∧eQ K H d hs∧IsQ K H v q∧size q≤20∧HQ hs q hd∧SqL K H a (cs.map V.str)∧cs.length≤1000∧∀H',Same H H'→Q (zW hs cs q) H'
theorem aKk (T:Txt w K mg) (aA6:Ok P w K mg base 28 "side_of_join" ["heads","question","columns"] (aWa K)) (oM:Ok P w K mg base 1 "are_among" ["columns","names"] (aMs K)) :
  Ok P w K mg base 29 "side_for" ["heads","question","columns"] (aWi K):=by
 refine Ok.ofV T.aL4 zY (fun vs H Q E h=>?_) (fun f cdv A outer s H vs Q E hr h=>?_)
 ·obtain ⟨d,v,a,hs,q,hd,cs,rfl,_⟩:=h;rfl
 obtain ⟨d,v,c,hs,q0,hd,cs,rfl,hds,hq,hz,hh,hc,lc,q⟩:=h
 refine ⟨_,(aC (aV (i:=3) zY.nd rfl (by trivial) (aH aR (vv 1) aD (fun _ _=>rfl))) (aC (bR (aU cG (vv 3) aO (aZ _)) (aF (aM (aJ (aA6.mono (by decide)) hr (by rfl) (aB (vv 0) (aB (vv 1) (aB (vv 2) aA)))))) bA) (aC (bR (aU cG (vv 3) aO (aZ _)) (aF (aM (gH (fC (aJ (oM.mono (by decide)) hr (by rfl) (aB (vv 2) (aB (aH aR (vv 1) aD (fun _ _=>rfl)) aA)))) aD rN))) bA) (aF (aM (gH (aU uC (vv 3) (aY (aB aO (aB aO (aB aO aA)))) (by with_unfolding_all rfl)) aD rN)))))),?_⟩
 have hq':=hq
 cases hq with
 |join a b e g=>
  obtain ⟨ihds,hin,hone,_⟩:=hh.in
  cases hin with
  |cons k1 t1=>
   cases t1 with
   |cons k2 t2=>
    cases t2
    refine ⟨_,rfl,_,_,0,_,rfl,rfl,a,at0 _ _,_,rfl,rfl,_,rfl,cC ⟨_,rfl,_,rfl,_,rfl,d,_,c,hs,_,_,_,_,_,cs,rfl,hds,hq',?_,?_,k1,k2,hc,lc,q⟩⟩
    ·have:=hz;simp only [size] at this;lia
    ·have:=hz;simp only [size] at this;lia
 |group a b e g=>
  refine ⟨_,rfl,_,_,0,_,rfl,rfl,a,at0 _ _,_,rfl,rfl,_,rfl,bC ⟨_,rfl,rfl,_,rfl,cC ⟨_,rfl,_,rfl,_,_,2,_,rfl,rfl,a,at2 _ _ _ _,c,_,cs,_,rfl,hc,lc,aLu e,fun H1 s1=>⟨_,rfl,lU (fun y=>?_) fun y=>?_⟩⟩⟩⟩
  ·have q1:=q _ s1
   dsimp only [zW] at q1
   rw [if_pos y] at q1
   exact q1
  ·have q1:=q _ s1
   dsimp only [zW] at q1
   rw [if_neg y] at q1
   exact q1
 |table a b=>exact ⟨_,rfl,_,_,0,_,rfl,rfl,a,at0 _ _,_,rfl,rfl,_,rfl,bC ⟨_,rfl,rfl,_,rfl,bC ⟨_,rfl,(by show 3≤sizeLine;decide),fun p H' _ s' g=>⟨p,_,rfl,.inr (SqT.of g),rfl,rfl,_,rfl,bC (q _ s')⟩⟩⟩⟩
 |whr a b e=>exact ⟨_,rfl,_,_,0,_,rfl,rfl,a,at0 _ _,_,rfl,rfl,_,rfl,bC ⟨_,rfl,rfl,_,rfl,bC ⟨_,rfl,(by show 3≤sizeLine;decide),fun p H' _ s' g=>⟨p,_,rfl,.inr (SqT.of g),rfl,rfl,_,rfl,cC (q _ s')⟩⟩⟩⟩
 |keep a b e=>exact ⟨_,rfl,_,_,0,_,rfl,rfl,a,at0 _ _,_,rfl,rfl,_,rfl,bC ⟨_,rfl,rfl,_,rfl,bC ⟨_,rfl,(by show 3≤sizeLine;decide),fun p H' _ s' g=>⟨p,_,rfl,.inr (SqT.of g),rfl,rfl,_,rfl,cC (q _ s')⟩⟩⟩⟩
 |nmd a b e=>exact ⟨_,rfl,_,_,0,_,rfl,rfl,a,at0 _ _,_,rfl,rfl,_,rfl,bC ⟨_,rfl,rfl,_,rfl,bC ⟨_,rfl,(by show 3≤sizeLine;decide),fun p H' _ s' g=>⟨p,_,rfl,.inr (SqT.of g),rfl,rfl,_,rfl,cC (q _ s')⟩⟩⟩⟩
 |first a b e g=>exact ⟨_,rfl,_,_,0,_,rfl,rfl,a,at0 _ _,_,rfl,rfl,_,rfl,bC ⟨_,rfl,rfl,_,rfl,bC ⟨_,rfl,(by show 3≤sizeLine;decide),fun p H' _ s' g=>⟨p,_,rfl,.inr (SqT.of g),rfl,rfl,_,rfl,bC (q _ s')⟩⟩⟩⟩
def aBg (hs:Str→Option Hdr) (t:Tst):Qn→Tst
 |.nmd q ns=>aH8 (elder ns (cL hs q)) t
 |_=>t
def aRh:Qn→List Qn→Qn
 |.whr _ ts,k::_=>.whr k ts
 |.keep _ ns,k::_=>.keep k ns
 |.nmd _ ns,k::_=>.nmd k ns
 |.join _ _ ps,k::l::_=>.join k l ps
 |.group _ ns ss,k::_=>.group k ns ss
 |.first _ ks m,k::_=>.first k ks m
 |q,_=>q
theorem aNk {hs:Str→Option Hdr} {q:Qn} {hd:Hdr} {t:Tst} {i:Int} (h:HQ hs q hd) (ht:dM hd t) (e:zW hs (bI t) q=.int i) :
  ∃(j:Nat) (k:Qn) (hk:Hdr),i=j∧(kids q)[j]?=some k∧HQ hs k hk∧dM hk (aBg hs t q)∧sink hs q t=aRh q ((kids q).set j (sink hs k (aBg hs t q))):=by
 obtain ⟨ihds,hk,hh,hg⟩:=id h.in
 cases q with
 |table T=>cases e
 |first q ks m=>cases e
 |whr q ts=>
  cases e
  cases hk with
  |cons r t'=>
   cases t'
   cases hh with
   |whr hts=>exact ⟨0,q,_,rfl,rfl,r,ht,rfl⟩
 |keep q ns=>
  cases e
  cases hk with
  |cons r t'=>
   cases t'
   cases hh with
   |keep l=>exact ⟨0,q,_,rfl,rfl,r,fZ ht fun n _ k e=>xX l (qF e),rfl⟩
 |nmd q ns=>
  cases e
  cases hk with
  |cons r t'=>
   cases t'
   cases hh with
   |nmd l=>
    refine ⟨0,q,_,rfl,rfl,r,?_,rfl⟩
    have nd:ns.Nodup:=by have:=hg.1;rw [gP l] at this;exact this
    show dM _ (aH8 (elder ns (cL hs q)) t)
    rw [show cL hs q=_ from congrArg (List.map (fun c:Str × Str=>c.1)) (fV r)]
    refine uW _ ht fun n _ k e=>?_
    obtain ⟨o,e1,e2⟩:=aF6 l nd e
    rw [e1]
    exact jH r.good.1 e2
 |join q r ps=>
  cases hk with
  |cons r1 t'=>
   cases t' with
   |cons r2 t2=>
    cases t2
    cases hh with
    |join l n1 n2=>
     rename_i h1 h2 ks
     have e1:cL hs q=h1.map (·.1):=congrArg (List.map (fun c:Str × Str=>c.1)) (fV r1)
     have e2:cL hs r=h2.map (·.1):=congrArg (List.map (fun c:Str × Str=>c.1)) (fV r2)
     have e:lN hs q r ps (bI t)=.int i:=e
     have es:sink hs (.join q r ps) t=(if sub (bI t) (cL hs q) then .join (sink hs q t) r ps else if sub (bI t) (seenOf hs r ps) then .join q (sink hs r t) ps else .whr (.join q r ps) [t]):=rfl
     unfold lN at e
     by_cases y:sub (bI t) (cL hs q)=true
     ·rw [if_pos y] at e es
      cases e
      refine ⟨0,q,_,rfl,rfl,r1,?_,es⟩
      rw [e1] at y
      exact fZ ht fun n hn k e=>by rw [tW (uA y n hn)] at e;exact e
     ·rw [if_neg y] at e es
      by_cases y2:sub (bI t) (seenOf hs r ps)=true
      ·rw [if_pos y2] at e es
       cases e
       refine ⟨1,r,_,rfl,rfl,r2,?_,es⟩
       refine fZ ht fun n hn k e=>?_
       have hs':=uA y2 n hn
       unfold seenOf at hs'
       rw [e2] at hs'
       obtain ⟨a1,a2⟩:=List.mem_filter.mp hs'
       have a3:n∉ps.map (·.2):=by simpa using a2
       have nin:n∉h1.map (·.1):=by
        intro z
        have nd:=hg.1
        rw [List.map_append,List.nodup_append] at nd
        obtain ⟨c,hc,rfl⟩:=List.mem_map.mp a1
        exact nd.2.2 _ z _ (List.mem_map.mpr ⟨c,List.mem_filter.mpr ⟨hc,by simpa using a3⟩,rfl⟩) rfl
       rw [aBp nin,zX a3] at e
       exact e
      ·rw [if_neg y2] at e
       cases e
 |group q ns ss=>
  cases hk with
  |cons r t'=>
   cases t'
   cases hh with
   |group l j=>
    have e:(if sub (bI t) ns then V.int 0 else .non)=.int i:=e
    have es:sink hs (.group q ns ss) t=(if sub (bI t) ns then .group (sink hs q t) ns ss else .whr (.group q ns ss) [t]):=rfl
    by_cases y:sub (bI t) ns=true
    ·rw [if_pos y] at e es
     cases e
     refine ⟨0,q,_,rfl,rfl,r,?_,es⟩
     refine fZ ht fun n hn k e=>?_
     have hm:=uA y n hn
     rw [tW (by rw [List.map_fst_zip (by have:=l.len;lia)];exact hm)] at e
     exact xX l (qF e)
    ·rw [if_neg y] at e
     cases e
theorem aSr {hs:Str→Option Hdr} {q:Qn} {t:Tst} (e:zW hs (bI t) q=.non):sink hs q t=.whr q [t]:=by
 cases q with
 |table T=>rfl
 |first q ks m=>rfl
 |whr q ts=>cases e
 |keep q ns=>cases e
 |nmd q ns=>cases e
 |join q r ps=>
  have e:lN hs q r ps (bI t)=.non:=e
  have es:sink hs (.join q r ps) t=(if sub (bI t) (cL hs q) then .join (sink hs q t) r ps else if sub (bI t) (seenOf hs r ps) then .join q (sink hs r t) ps else .whr (.join q r ps) [t]):=rfl
  unfold lN at e
  by_cases y:sub (bI t) (cL hs q)=true
  ·rw [if_pos y] at e;cases e
  ·rw [if_neg y] at e es
   by_cases y2:sub (bI t) (seenOf hs r ps)=true
   ·rw [if_pos y2] at e;cases e
   ·rw [if_neg y2] at es;exact es
 |group q ns ss=>
  have e:(if sub (bI t) ns then V.int 0 else .non)=.non:=e
  have es:sink hs (.group q ns ss) t=(if sub (bI t) ns then .group (sink hs q t) ns ss else .whr (.group q ns ss) [t]):=rfl
  by_cases y:sub (bI t) ns=true
  ·rw [if_pos y] at e;cases e
  ·rw [if_neg y] at es;exact es
theorem aQ9 (hs:Str→Option Hdr) (cs:List Str) (q:Qn):zW hs cs q=.non∨∃i,zW hs cs q=.int i:=by
 cases q with
 |table T=>exact .inl rfl
 |first q ks m=>exact .inl rfl
 |whr q ts=>exact .inr ⟨_,rfl⟩
 |keep q ns=>exact .inr ⟨_,rfl⟩
 |nmd q ns=>exact .inr ⟨_,rfl⟩
 |join q r ps=>show lN hs q r ps cs=_∨∃i,lN hs q r ps cs=_;unfold lN;split;exact .inr ⟨_,rfl⟩;split;exact .inr ⟨_,rfl⟩;exact .inl rfl
 |group q ns ss=>show (if sub cs ns then V.int 0 else .non)=_∨∃i,(if sub cs ns then V.int 0 else .non)=_;split;exact .inr ⟨_,rfl⟩;exact .inl rfl
theorem aJs {H:Hp} {v:V} {q:Qn} (h:IsQ K H v q):∃a xs,v=.ref a∧SqT K H a xs∧2≤xs.length∧xs.length≤5∧(kids q).length+1≤xs.length∧(kids q).length≤2 ∧
  ∀H' p us ks,Same H H'→us.length=(kids q).length→bL (IsQ K H') us ks→SqT K H' p (xs.take 1++us++xs.drop (1+us.length))→IsQ K H' (.ref p) (aRh q ks):=by
 cases h with
 |table a b=>
  refine ⟨_,_,rfl,a,by show 2≤2;decide,by show 2≤5;decide,by show 1≤2;decide,by show 0≤2;decide,fun H' p us ks s' lu hu hp=>?_⟩
  cases hu with
  |nil=>exact .table hp b
  |cons _ _=>cases lu
 |whr a b c=>
  refine ⟨_,_,rfl,a,by show 2≤3;decide,by show 3≤5;decide,by show 2≤3;decide,by show 1≤2;decide,fun H' p us ks s' lu hu hp=>?_⟩
  cases hu with
  |nil=>cases lu
  |cons r t=>cases t with
   |nil=>exact .whr hp r (c.same s' fun h=>h.same s')
   |cons _ _=>cases lu
 |keep a b c=>
  refine ⟨_,_,rfl,a,by show 2≤3;decide,by show 3≤5;decide,by show 2≤3;decide,by show 1≤2;decide,fun H' p us ks s' lu hu hp=>?_⟩
  cases hu with
  |nil=>cases lu
  |cons r t=>cases t with
   |nil=>exact .keep hp r (c.same s' fun h=>h)
   |cons _ _=>cases lu
 |nmd a b c=>
  refine ⟨_,_,rfl,a,by show 2≤3;decide,by show 3≤5;decide,by show 2≤3;decide,by show 1≤2;decide,fun H' p us ks s' lu hu hp=>?_⟩
  cases hu with
  |nil=>cases lu
  |cons r t=>cases t with
   |nil=>exact .nmd hp r (c.same s' fun h=>h)
   |cons _ _=>cases lu
 |join a b d c=>
  refine ⟨_,_,rfl,a,by show 2≤4;decide,by show 4≤5;decide,by show 3≤4;decide,by show 2≤2;decide,fun H' p us ks s' lu hu hp=>?_⟩
  cases hu with
  |nil=>cases lu
  |cons r t=>cases t with
   |nil=>cases lu
   |cons r2 t2=>cases t2 with
    |nil=>exact .join hp r r2 (c.same s' fun h=>h.same s')
    |cons _ _=>cases lu
 |group a b c d=>
  refine ⟨_,_,rfl,a,by show 2≤4;decide,by show 4≤5;decide,by show 2≤4;decide,by show 1≤2;decide,fun H' p us ks s' lu hu hp=>?_⟩
  cases hu with
  |nil=>cases lu
  |cons r t=>cases t with
   |nil=>exact .group hp r (c.same s' fun h=>h) (d.same s' fun h=>h.same s')
   |cons _ _=>cases lu
 |first a b c d=>
  refine ⟨_,_,rfl,a,by show 2≤4;decide,by show 4≤5;decide,by show 2≤4;decide,by show 1≤2;decide,fun H' p us ks s' lu hu hp=>?_⟩
  cases hu with
  |nil=>cases lu
  |cons r t=>cases t with
   |nil=>exact .first hp r (c.same s' fun h=>h.same s') d
   |cons _ _=>cases lu
def aSa (K:PySem.W.Frag):Sp:=fun vs H Q _=>∃a x xs us,vs=[.ref a,.ref x]∧SqT K H a xs∧SqL K H x us∧us.length+1≤xs.length∧2≤xs.length∧xs.length≤5∧∀p H',Same H H'→SqT K H' p (xs.take 1++us++xs.drop (1+us.length))→Q (.ref p) H'
theorem xO (T:Txt w K mg):Ok P w K mg base 1 "with_questions" ["question","inner"] (aSa K):=by
 refine Ok.ofV T.yM wW (fun vs H Q E h=>?_) (fun f cdv A outer s H vs Q E hr h=>?_)
 ·obtain ⟨a,x,xs,us,rfl,_⟩:=h;rfl
 obtain ⟨a,x,xs,us,rfl,ha,hx,l1,l2,l3,q⟩:=h
 refine ⟨_,(aF (aM (bW pX (bW pX (dW xJ (vv 0) gU (eX aD)) (bF bU (by rfl) T.cP cA (aB (vv 1) aA))) (dW xJ (vv 0) (eX (bW fG aD (aW aX (by rfl) T.dB cH (aB (vv 1) aA)))) gU)))),?_⟩
 refine ⟨_,rfl,_,rfl,a,xs,rfl,ha,fun p1 H1 s1 g1=>⟨_,rfl,x,us,rfl,s1.seq hx,fun l H2 _ s2 g2=>?_⟩⟩
 have lc:=oZ xs none (some 1)
 refine ⟨p1,l,_,us,rfl,rfl,s2.aK g1,SqT.of g2,small (by lia),fun p3 H3 s3 g3=>?_⟩
 have t3:=s1.trans (s2.trans s3)
 refine ⟨_,rfl,_,rfl,x,us,rfl,.inl (t3.seq hx),_,_,rfl,rfl,_,rfl,a,xs,rfl,t3.aK ha,fun p4 H4 s4 g4=>?_⟩
 have e1:qC xs none (some 1)=xs.take 1:=tQ xs 1
 have e2:qC xs (some (1+(us.length:Int))) none=xs.drop (1+us.length):=by
  have:=nA xs (1+us.length)
  rw [←this]
  rfl
 have ld:=oZ xs (some (1+(us.length:Int))) none
 refine ⟨p3,p4,_,_,rfl,rfl,s4.aK g3,g4,small (by rw [List.length_append];lia),fun p5 H5 s5 g5=>?_⟩
 rw [e1,e2] at g5
 exact q p5 H5 (t3.trans (s4.trans s5)) g5
theorem aD5:∀{ns os:List Str} {n:Str},ns.length=os.length→n∈ns→mU ((ns.zip os).map fun x=>((Sum.inr x.1:Key),V.str x.2)) (Sum.inr n:Key)=some (.str (elder ns os n))
 |m::ns,o::os,n,l,h=>by
  by_cases e:m=n
  ·subst e
   unfold mU elder
   rw [List.zip_cons_cons,List.map_cons,List.find?_cons,List.find?_cons,decide_eq_true rfl,decide_eq_true rfl]
   rfl
  ·have h':n∈ns:=by
    rcases List.mem_cons.mp h with h|h
    ·exact absurd h.symm e
    ·exact h
   have ih:=aD5 (ns:=ns) (os:=os) (by simpa using l) h'
   unfold mU elder at ih ⊢
   rw [List.zip_cons_cons,List.map_cons,List.find?_cons,List.find?_cons,decide_eq_false e,decide_eq_false (fun z=>e (Sum.inr.inj z))]
   exact ih
 |[],_,n,_,h=>by cases h
 |_::_,[],n,l,_=>by cases l
theorem aXp {ns os:List Str} (l:ns.length=os.length) (nd:ns.Nodup):(((ns.zip os).map fun x=>((Sum.inr x.1:Key),V.str x.2)).map (·.1)).Nodup:=by
 have e:((ns.zip os).map fun x=>((Sum.inr x.1:Key),V.str x.2)).map (·.1)=ns.map fun n=>(Sum.inr n:Key):=by
  rw [List.map_map]
  show (ns.zip os).map ((fun n=>(Sum.inr n:Key)) ∘ Prod.fst)=_
  rw [←List.map_map,List.map_fst_zip (by lia)]
 rw [e]
 exact List.pairwise_map.mpr (nd.imp fun h z=>h (Sum.inr.inj z))
def aWb (K:PySem.W.Frag):Sp:=fun vs H Q _=>∃d v u hs q hd t,vs=[.ref d,v,u]∧eQ K H d hs∧(∀T hd,hs T=some hd→∀c∈hd,Nm c.1)∧IsQ K H v q∧size q≤20∧HQ hs q hd∧IsT K H u t∧dM hd t∧∀v' H',Same H H'→IsT K H' v' (aBg hs t q)→Q v' H'
theorem yF (T:Txt w K mg) (iV:Ok P w K mg base 1 "names_of" ["head"] (aE1 K)) (mZ:Ok P w K mg base 27 "head_of" ["heads","question"] (aIb K)) (aOl:Ok P w K mg base 1 "renamed" ["test","names"] (aQe K)) :
  Ok P w K mg base 28 "by_inner_names" ["heads","question","test"] (aWb K):=by
 refine Ok.ofV T.zH oU (fun vs H Q E h=>?_) (fun f cdv A outer s H vs Q E hr h=>?_)
 ·obtain ⟨d,v,u,hs,q,hd,t,rfl,_⟩:=h;rfl
 obtain ⟨d,v,u,hs,q0,hd,t,rfl,hds,hT,hq,hz,hh,hu,ht,q⟩:=h
 refine ⟨_,(aC (bR (aU wB (aH aR (vv 1) aD (fun _ _=>rfl)) aO (aZ _)) (aF (aM (vv 2))) bA) (aC (aV (i:=3) oU.nd rfl (by trivial) (aJ (iV.mono (by decide)) hr (by rfl) (aB (aJ (mZ.mono (by decide)) hr (by rfl) (aB (vv 0) (aB (aH aR (vv 1) aD (fun _ _=>rfl)) aA))) aA))) (aF (aM (aJ (aOl.mono (by decide)) hr (by rfl) (aB (vv 2) (aB (aUl rfl (by rfl) T.aGr (by rfl) T.aNo (aB (aH aR (vv 1) aD (fun _ _=>rfl)) (aB (vv 3) aA))) aA))))))),?_⟩
 have hq':=hq
 cases hq with
 |nmd a b c=>
  obtain ⟨ihds,hk,hh',hg⟩:=hh.in
  cases hk with
  |cons r t'=>
   cases t'
   cases hh' with
   |nmd l=>
    rename_i q1 wv ns h1
    have nd:ns.Nodup:=by have:=hg.1;rw [gP l] at this;exact this
    have gd:=r.good.2.2
    have gd':=r.good.2.1
    have e1:cL hs q1=h1.map (·.1):=congrArg (List.map (fun c:Str × Str=>c.1)) (fV r)
    obtain ⟨⟨p,us,rfl,hp,hus⟩,c1,c2⟩:=c
    rw [aFy hus] at hp
    refine ⟨_,rfl,_,_,0,_,rfl,rfl,a,at0 _ _,rfl,_,rfl,bC ⟨_,rfl,_,rfl,_,_,1,_,rfl,rfl,a,at1 _ _ _,d,_,hs,q1,h1,rfl,hds,b,(by have:=hz;simp only [size] at this;lia),r,fun v1 H1 s1 i1=>⟨v1,h1,rfl,i1,by lia,fun D2 H2 s2 g2=>?_⟩⟩⟩
    have t2:=s1.trans s2
    refine ⟨_,rfl,_,rfl,_,_,2,_,rfl,rfl,t2.aK a,at2 _ _ _ _,_,rfl,p,D2,ns,h1.map (·.1),rfl,t2.aK hp,SqL.of g2,(by rw [List.length_map];exact l),(by lia),(by lia),fun m H3 fm s3 g3=>?_⟩
    have t3:=t2.trans s3
    have l':ns.length=(h1.map (·.1)).length:=by rw [List.length_map];exact l
    rw [tZ (aXp l' nd)] at g3
    refine ⟨u,m,t,_,elder ns (h1.map (·.1)),rfl,hu.same t3,g3,fun n hn=>?_,fun v' H4 s4 h4=>?_⟩
    ·obtain ⟨k,hk⟩:=sY ht n hn
     obtain ⟨o,e3,e4⟩:=aF6 l nd hk
     have hin:n∈ns:=by have:=jK hk;rw [gP l] at this;exact this
     refine ⟨aD5 l' hin,?_⟩
     rw [e3]
     exact aWq hT (aQk b) r _ e4
    ·have q1:=q v' H4 (t3.trans s4)
     dsimp only [aBg] at q1
     rw [e1] at q1
     exact q1 h4
 |table a b=>exact ⟨_,rfl,_,_,0,_,rfl,rfl,a,at0 _ _,rfl,_,rfl,cC ⟨_,rfl,q _ _ (Same.refl H) hu⟩⟩
 |whr a b c=>exact ⟨_,rfl,_,_,0,_,rfl,rfl,a,at0 _ _,rfl,_,rfl,cC ⟨_,rfl,q _ _ (Same.refl H) hu⟩⟩
 |keep a b c=>exact ⟨_,rfl,_,_,0,_,rfl,rfl,a,at0 _ _,rfl,_,rfl,cC ⟨_,rfl,q _ _ (Same.refl H) hu⟩⟩
 |join a b c e=>exact ⟨_,rfl,_,_,0,_,rfl,rfl,a,at0 _ _,rfl,_,rfl,cC ⟨_,rfl,q _ _ (Same.refl H) hu⟩⟩
 |group a b c e=>exact ⟨_,rfl,_,_,0,_,rfl,rfl,a,at0 _ _,rfl,_,rfl,cC ⟨_,rfl,q _ _ (Same.refl H) hu⟩⟩
 |first a b c e=>exact ⟨_,rfl,_,_,0,_,rfl,rfl,a,at0 _ _,rfl,_,rfl,cC ⟨_,rfl,q _ _ (Same.refl H) hu⟩⟩
theorem aUu {n j:Nat} (h:j<n):ixN n (j:Int)=some j:=by
 unfold ixN
 rw [if_pos (by lia),if_pos (by lia),Int.toNat_natCast]
section
variable {H:Hp} {D:Addr} {ys zs:List V} {v:V}
theorem IsO.dI {o:Oth} (e:H D=some (.lst ys)) (h:IsO K H v o):IsO K (upd H D (.lst zs)) v o:=by
 cases o with
 |val x=>
  obtain ⟨a,rfl,ha,hx,hv⟩:=h
  refine ⟨a,rfl,ha.dI e,?_,hv⟩
  rcases hx with h|h|h|⟨k,h⟩
  ·exact .inl h
  ·exact .inr (.inl h)
  ·exact .inr (.inr (.inl h))
  ·cases h <;> cases hv
 |col d=>obtain ⟨a,rfl,ha,hd⟩:=h;exact ⟨a,rfl,ha.dI e,hd⟩
theorem IsT.dI {t:Tst} (e:H D=some (.lst ys)) (h:IsT K H v t):IsT K (upd H D (.lst zs)) v t:=by
 obtain ⟨a,w,rfl,ha,h1,h2,h3⟩:=h
 exact ⟨a,w,rfl,ha.dI e,h1,h2,h3.dI e⟩
theorem jW.dI {t:Str × Str} (e:H D=some (.lst ys)) (h:jW K H v t):jW K (upd H D (.lst zs)) v t:=by
 obtain ⟨a,rfl,ha,h1⟩:=h
 exact ⟨a,rfl,ha.dI e,h1⟩
theorem nW.dI {t:Str × Str} (e:H D=some (.lst ys)) (h:nW K H v t):nW K (upd H D (.lst zs)) v t:=by
 obtain ⟨a,rfl,ha,h1⟩:=h
 exact ⟨a,rfl,ha.dI e,h1⟩
theorem lV.dI {t:Sm} (e:H D=some (.lst ys)) (h:lV K H v t):lV K (upd H D (.lst zs)) v t:=by
 obtain ⟨a,rfl,hn,h1⟩:=h
 refine ⟨a,rfl,hn,?_⟩
 rcases h1 with ⟨x,y,z⟩|⟨c,x,y,z,u⟩
 ·exact .inl ⟨x,y,z.dI e⟩
 ·exact .inr ⟨c,x,y,z,u.dI e⟩
theorem gM.dI {α:Type} {S:PySem.W.Frag→Hp→V→α→Prop} {lo hi:Nat} {xs:List α} (e:H D=some (.lst ys)) (k:∀{v t},S K H v t→S K (upd H D (.lst zs)) v t) (h:gM S lo hi K H v xs):gM S lo hi K (upd H D (.lst zs)) v xs:=by
 obtain ⟨⟨a,vs,rfl,ha,hr⟩,h2⟩:=h
 exact ⟨⟨a,vs,rfl,ha.dI e,hr.imp fun _ _=>k⟩,h2⟩
theorem IsQ.dI {q:Qn} (e:H D=some (.lst ys)) (h:IsQ K H v q):IsQ K (upd H D (.lst zs)) v q:=by
 induction h with
 |table a b=>exact .table (a.dI e) b
 |whr a _ c ih=>exact .whr (a.dI e) ih (c.dI e fun h=>h.dI e)
 |keep a _ c ih=>exact .keep (a.dI e) ih (c.dI e fun h=>h)
 |nmd a _ c ih=>exact .nmd (a.dI e) ih (c.dI e fun h=>h)
 |join a _ _ c ih1 ih2=>exact .join (a.dI e) ih1 ih2 (c.dI e fun h=>h.dI e)
 |group a _ c d ih=>exact .group (a.dI e) ih (c.dI e fun h=>h) (d.dI e fun h=>h.dI e)
 |first a _ c d ih=>exact .first (a.dI e) ih (c.dI e fun h=>h.dI e) d
end
theorem aKh {α β:Type} {R S:α→β→Prop} {x:α} {y:β}:∀{as:List α} {bs:List β} {j:Nat},(∀a b,R a b→S a b)→S x y→bL R as bs→bL S (as.set j x) (bs.set j y)
 |_,_,_,_,_,.nil=>.nil
 |_,_,0,k,r,.cons _ t=>.cons r (t.imp k)
 |_,_,j+1,k,r,.cons h t=>.cons (k _ _ h) (aKh (j:=j) k r t)
def NmH (hs:Str→Option Hdr):Prop:=∀T hd,hs T=some hd→∀c∈hd,Nm c.1
def aQh (K:PySem.W.Frag) (n:Nat):Sp:=fun vs H Q _=>∃d v u hs q hd t,vs=[.ref d,v,u]∧eQ K H d hs∧NmH hs∧IsQ K H v q∧size q≤n∧size q≤20∧HQ hs q hd∧IsT K H u t∧dM hd t∧∀v' H',Same H H'→IsQ K H' v' (sink hs q t)→Q v' H'
theorem aN6 (T:Txt w K mg) (aBz:Ok P w K mg base 29 "side_for" ["heads","question","columns"] (aWi K)) (wG:Ok P w K mg base 1 "columns_of" ["test"] (wM K)) (cM:Ok P w K mg base 1 "questions_in" ["question"] (aIj K)) (pQ:Ok P w K mg base 28 "by_inner_names" ["heads","question","test"] (aWb K)) (fJ:Ok P w K mg base 1 "with_questions" ["question","inner"] (aSa K)) :
  ∀n:Nat,Ok P w K mg base (n+30) "sunk" ["heads","question","test"] (aQh K n)
 |0=>by
  refine Ok.ofV T.aR3 aA3 (fun vs H Q E h=>?_) (fun f cdv A outer s H vs Q E hr h=>?_)
  ·obtain ⟨d,v,u,hs,q,hd,t,rfl,_⟩:=h;rfl
  ·obtain ⟨d,v,u,hs,q,hd,t,rfl,_,_,hq,hz,_⟩:=h
   have e:=pN q
   have o:=tU hq
   lia
 |n+1=>by
  have aF9:=aN6 T aBz wG cM pQ fJ n
  refine Ok.ofV T.aR3 aA3 (fun vs H Q E h=>?_) (fun f cdv A outer s H vs Q E hr h=>?_)
  ·obtain ⟨d,v,u,hs,q,hd,t,rfl,_⟩:=h;rfl
  obtain ⟨d,v,u,hs,q0,hd,t,rfl,hds,hT,hq,hz,hz2,hh,hu,ht,q⟩:=h
  refine ⟨_,(aC (aV (i:=3) aA3.nd rfl (by trivial) (aJ (aBz.mono (by lia)) hr (by rfl) (aB (vv 0) (aB (vv 1) (aB (aJ (wG.mono (by lia)) hr (by rfl) (aB (vv 2) aA)) aA))))) (aC (bR (aU aSo (vv 3) rN (aZ _)) (aF (aM (aY (aB aO (aB (vv 1) (aB (aY (aB (vv 2) aA)) aA)))))) bA) (aC (aV (i:=4) aA3.nd rfl (by trivial) (aJ (cM.mono (by lia)) hr (by rfl) (aB (vv 1) aA))) (aC (rF (aJ (aF9.mono (by lia)) hr (by rfl) (aB (vv 0) (aB (aH bN (vv 4) (vv 3) (fun _ _=>rfl)) (aB (aJ (pQ.mono (by lia)) hr (by rfl) (aB (vv 0) (aB (vv 1) (aB (vv 2) aA)))) aA)))) (aKr (vv 4) (vv 3) set_list)) (aF (aM (aJ (fJ.mono (by lia)) hr (by rfl) (aB (vv 1) (aB (vv 4) aA))))))))),?_⟩
  refine ⟨_,rfl,_,rfl,_,rfl,u,t,rfl,hu,fun D1 H1 s1 g1=>?_⟩
  refine ⟨d,v,D1,hs,q0,hd,bI t,rfl,hds.same s1,hq.same s1,hz2,hh,SqL.of g1,(by unfold bI;cases t.o <;> simp),fun H2 s2=>?_⟩
  have t2:=s1.trans s2
  rcases aQ9 hs (bI t) q0 with e|⟨i,e⟩
  ·rw [e]
   refine ⟨_,rfl,rfl,_,rfl,cC ⟨_,rfl,_,rfl,(by show 1≤sizeLine;decide),fun p H3 _ s3 g3=>⟨(by show 3≤sizeLine;decide),fun p2 H4 _ s4 g4=>q _ _ (t2.trans (s3.trans s4)) ?_⟩⟩⟩
   rw [aSr e]
   exact .whr (SqT.of g4) (hq.same (t2.trans (s3.trans s4))) ⟨⟨p,[u],rfl,SqT.of (s4 _ _ g3),.cons (hu.same (t2.trans (s3.trans s4))) .nil⟩,(by show 1≤1;decide),(by show 1≤3;decide)⟩
  ·obtain ⟨j,k,hk,ei,ek,hkq,hkt,es⟩:=aNk hh ht e
   rw [e]
   subst ei
   refine ⟨_,rfl,rfl,_,rfl,bC ⟨_,rfl,v,q0,H,rfl,t2,hq,fun D3 H3 us fD s3 g3 hus=>?_⟩⟩
   have t3:=t2.trans s3
   obtain ⟨x,hx,hxq⟩:∃x,us[j]?=some x∧IsQ K H x k:=by
    have lj:j<us.length:=by
     rw [hus.len]
     exact (List.getElem?_eq_some_iff.mp ek).1
    exact ⟨us[j],List.getElem?_eq_getElem lj,lX hus (List.getElem?_eq_getElem lj) ek⟩
   have lj:j<us.length:=(List.getElem?_eq_some_iff.mp hx).1
   have kz:=aCj (aGq ek) hq
   refine ⟨_,rfl,_,rfl,_,rfl,D3,us,_,x,rfl,rfl,SqL.of g3,cF hx,_,rfl,_,rfl,_,rfl,d,v,u,hs,q0,hd,t,rfl,hds.same t3,hT,hq.same t3,hz2,hh,hu.same t3,ht,fun v4 H4 s4 h4=>?_⟩
   have t4:=t3.trans s4
   refine ⟨d,x,v4,hs,k,hk,_,rfl,hds.same t4,hT,hxq.same t4,by lia,by lia,hkq,h4,hkt,fun v5 H5 s5 h5=>?_⟩
   have t5:=t4.trans s5
   have g5:=s5 _ _ (s4 _ _ g3)
   refine ⟨_,rfl,_,rfl,D3,us,_,j,rfl,rfl,g5,aUu lj,?_⟩
   have t6:Same H (upd H5 D3 (.lst (us.set j v5))):=t2.trans (yH fD (s3.trans (s4.trans s5)))
   obtain ⟨a,xs,rfl,ha,l2,l5,lk,lk2,mk⟩:=aJs hq
   have lu:=hus.len
   refine ⟨_,rfl,_,rfl,a,D3,xs,us.set j v5,rfl,t6.aK ha,SqL.of aQ,by rw [List.length_set];lia,l2,l5,fun p H7 s7 g7=>q _ _ (t6.trans s7) ?_⟩
   rw [es]
   exact mk H7 p _ _ (t6.trans s7) (by rw [List.length_set];exact lu) (aKh (fun _ _ h=>h.same (t6.trans s7)) ((h5.dI g5).same s7) hus) g7
theorem aPs {hs:Str→Option Hdr} {q:Qn} (h:∀r ts,q≠.whr r ts):move hs q=aRh q ((kids q).map (move hs)):=by
 cases q with
 |whr q ts=>exact absurd rfl (h q ts)
 |_=>rfl
theorem aNy {hs:Str→Option Hdr} {hd:Hdr}:∀{ts:List Tst} {b:Qn},(∀t∈ts,dM hd t)→HQ hs b hd→HQ hs (ts.foldl (fun b t=>sink hs b t) b) hd
 |[],b,_,h=>h
 |t::ts,b,ht,h=>by
  rw [List.foldl_cons]
  exact aNy (fun t' h'=>ht t' (List.mem_cons_of_mem _ h')) (aNj h (ht t (List.mem_cons_self ..)))
theorem aEu (hs:Str→Option Hdr):∀(ts:List Tst) (b:Qn),size (ts.foldl (fun b t=>sink hs b t) b)=size b+ts.length
 |[],b=>rfl
 |t::r,b=>by rw [List.foldl_cons,aEu hs r,zU,List.length_cons];lia
def aWk (K:PySem.W.Frag) (n:Nat):Sp:=fun vs H Q _=>∃d v hs q hd,vs=[.ref d,v]∧eQ K H d hs∧NmH hs∧IsQ K H v q∧size q≤n∧size q≤20∧HQ hs q hd∧∀v' H',Same H H'→IsQ K H' v' (move hs q)→Q v' H'
theorem aKi (T:Txt w K mg) (cM:Ok P w K mg base 1 "questions_in" ["question"] (aIj K)) (fJ:Ok P w K mg base 1 "with_questions" ["question","inner"] (aSa K)) (aF9:Ok P w K mg base 50 "sunk" ["heads","question","test"] (aQh K 20)) :
  ∀n:Nat,Ok P w K mg base (n+51) "moved" ["heads","question"] (aWk K n)
 |0=>by
  refine Ok.ofV T.aNd pU (fun vs H Q E h=>?_) (fun f cdv A outer s H vs Q E hr h=>?_)
  ·obtain ⟨d,v,hs,q,hd,rfl,_⟩:=h;rfl
  ·obtain ⟨d,v,hs,q,hd,rfl,_,_,hq,hz,_⟩:=h
   have e:=pN q
   have o:=tU hq
   lia
 |n+1=>by
  have aF0:=aKi T cM fJ aF9 n
  refine Ok.ofV T.aNd pU (fun vs H Q E h=>?_) (fun f cdv A outer s H vs Q E hr h=>?_)
  ·obtain ⟨d,v,hs,q,hd,rfl,_⟩:=h;rfl
  obtain ⟨d,v,hs,q0,hd,rfl,hds,hT,hq,hz,hz2,hh,q⟩:=h
  obtain ⟨ihds,hin,hone,hgood⟩:=hh.in
  refine ⟨_,(aC (iR (i0:=2) pU.nd rfl (by trivial) (N:=["part","heads"]) (by trivial) (cV (aG aA4) rfl (by decide +kernel)) rfl (eE (aJ (cM.mono (by lia)) hr (by rfl) (aB (vv 1) aA))) (fun cl s' H' fp=>⟨(aL (i:=0) (show (["part","heads"]:List Str).Nodup from by decide +kernel) rfl (Or.inl rfl)),cI,(aJ (aF0.mono (by lia)) hr (by rfl) (aB (vv 1) (aB (vv 0) aA)))⟩)) (aC (bR (aU wB (aH aR (vv 1) aD (fun _ _=>rfl)) aO (aZ _)) (aF (aM (aJ (fJ.mono (by lia)) hr (by rfl) (aB (vv 1) (aB (vv 2) aA))))) bA) (aC (aV (i:=3) pU.nd rfl (by trivial) (aH bN (vv 2) aD (fun _ _=>rfl))) (aC (jD PassesOwn.never rfl (eO (aH aR (vv 1) aD (fun _ _=>rfl))) (aL (i:=4) pU.nd rfl (by trivial)) (aF (aV (i:=3) pU.nd rfl (by trivial) (aJ (aF9.mono (by lia)) hr (by rfl) (aB (vv 0) (aB (vv 3) (aB (vv 4) aA))))))) (aF (aM (vv 3))))))),?_⟩
  have lk:(kids q0).length≤2:=by cases q0 <;> simp [kids]
  dsimp only [gY,iU]
  refine tR (K:=K) (fun us=>bL (IsQ K H) us (kids q0)) (fun i H y=>∃k,(kids q0)[i]?=some k∧IsQ K H y (move hs k)) (fun e h=>?_) (fun e h=>?_) [none,some (.ref d)] ?_ rfl (fun R r=>⟨_,rfl,v,q0,H,rfl,Same.refl H,hq,fun D H1 us fD s1 gD hus=>r D H1 us s1 gD hus⟩) (fun us hus=>small (by have:=hus.len;lia)) (fun us hus i x ex H' R l sm r=>?_) fun us hus D2 H2 ys t2 g2 hly hR=>?_
  ·obtain ⟨k,h1,h2⟩:=h
   exact ⟨k,h1,h2.same e⟩
  ·obtain ⟨k,h1,h2⟩:=h
   exact ⟨k,h1,h2.dI e⟩
  ·exact cX 0 (by decide +kernel) rfl rfl (by trivial)
  ·obtain ⟨k,hk,hkq⟩:=bJ hus ex
   obtain ⟨h,hh',hkh⟩:=bJ hin hk
   have hkz:=aCj (aGq hk) hq
   exact ⟨_,rfl,_,rfl,d,x,hs,k,h,rfl,hds.same sm,hT,hkq.same sm,by lia,by lia,hkh,fun v' H3 s3 h3=>r _ _ s3 ⟨k,hk,h3⟩⟩
  have l1:=hus.len
  have hall:bL (IsQ K H2) ys ((kids q0).map (move hs)):=wI (by rw [List.length_map];lia) fun i y h e1 e2=>by
   obtain ⟨k,e3,q3⟩:=hR i y e1
   rw [List.getElem?_map,e3] at e2
   cases e2
   exact q3
  obtain ⟨a0,xs,rfl,ha,l2,l5,lk1,lk2,mk⟩:=aJs hq
  have wq:(∀r ts,q0≠.whr r ts)→∀p H3,Same H2 H3→SqT K H3 p (xs.take 1++ys++xs.drop (1+ys.length))→Q (.ref p) H3:=fun hne p H3 s3 g3=>by
   refine q _ _ (t2.trans s3) ?_
   rw [aPs hne]
   exact mk H3 p ys _ (t2.trans s3) (by lia) (hall.imp fun _ _ h=>h.same s3) g3
  have hl:ys.length+1≤xs.length:=by lia
  cases hq with
  |whr a b c=>
   rename_i q1 wv ts
   cases hin with
   |cons r1 tl=>
    cases tl
    cases hone with
    |whr hts=>
     obtain ⟨⟨p,us,rfl,hp,hus'⟩,c1,c2⟩:=c
     have hall':bL (IsQ K H2) ys [move hs q1]:=hall
     cases hall' with
     |cons y1 tl2=>
      cases tl2
      have sz:size (move hs q1)+ts.length≤20:=by rw [aD6];exact hz2
      refine ⟨_,rfl,_,_,0,_,rfl,rfl,t2.aK a,at0 _ _,rfl,_,rfl,bC ⟨_,rfl,D2,_,0,_,rfl,rfl,SqL.of g2,at0 _ _,_,rfl,_,_,2,_,rfl,rfl,t2.aK a,at2 _ _ _ _,p,rfl,⟨_,t2.aK hp⟩,aAt (xs:=us) (fun i σ H'=>Same H2 H'∧∃y l,IsQ K H' y ((ts.take i).foldl (fun b t=>sink hs b t) (move hs q1))∧σ=[some (.ref d),some (.ref a0),some (.ref D2),some y,l]) ⟨Same.refl H2,_,_,y1,rfl⟩ (fun i σ H' _ ⟨e,_⟩=>e.aK (t2.aK hp)) ?_ ?_⟩⟩
      ·rintro i x σ H' hx ⟨s3,y,l,hy,rfl⟩
       obtain ⟨t,ht,hxt⟩:=bJ hus' hx
       have li:i<ts.length:=(List.getElem?_eq_some_iff.mp ht).1
       have hsz:=aEu hs (ts.take i) (move hs q1)
       rw [List.length_take] at hsz
       refine ⟨_,rfl,_,rfl,_,rfl,d,y,x,hs,_,hd,t,rfl,hds.same (t2.trans s3),hT,hy,by lia,by lia,aNy (fun t' h'=>hts t' (List.mem_of_mem_take h')) (aTp r1),hxt.same (t2.trans s3),hts t (aGq ht),fun v' H4 s4 h4=>⟨s3.trans s4,v',_,?_,rfl⟩⟩
       rw [List.take_add_one,ht,Option.toList,List.foldl_append]
       exact h4
      ·rintro σ H' ⟨s3,y,l,hy,rfl⟩
       rw [hus'.len,List.take_length] at hy
       exact ⟨_,rfl,q _ _ (t2.trans s3) hy⟩
  |table a b=>exact ⟨_,rfl,_,_,0,_,rfl,rfl,t2.aK a,at0 _ _,rfl,_,rfl,cC ⟨_,rfl,_,rfl,_,D2,xs,ys,rfl,t2.aK ha,SqL.of g2,hl,l2,l5,wq (fun _ _ z=>by cases z)⟩⟩
  |keep a b c=>exact ⟨_,rfl,_,_,0,_,rfl,rfl,t2.aK a,at0 _ _,rfl,_,rfl,cC ⟨_,rfl,_,rfl,_,D2,xs,ys,rfl,t2.aK ha,SqL.of g2,hl,l2,l5,wq (fun _ _ z=>by cases z)⟩⟩
  |nmd a b c=>exact ⟨_,rfl,_,_,0,_,rfl,rfl,t2.aK a,at0 _ _,rfl,_,rfl,cC ⟨_,rfl,_,rfl,_,D2,xs,ys,rfl,t2.aK ha,SqL.of g2,hl,l2,l5,wq (fun _ _ z=>by cases z)⟩⟩
  |join a b c e=>exact ⟨_,rfl,_,_,0,_,rfl,rfl,t2.aK a,at0 _ _,rfl,_,rfl,cC ⟨_,rfl,_,rfl,_,D2,xs,ys,rfl,t2.aK ha,SqL.of g2,hl,l2,l5,wq (fun _ _ z=>by cases z)⟩⟩
  |group a b c e=>exact ⟨_,rfl,_,_,0,_,rfl,rfl,t2.aK a,at0 _ _,rfl,_,rfl,cC ⟨_,rfl,_,rfl,_,D2,xs,ys,rfl,t2.aK ha,SqL.of g2,hl,l2,l5,wq (fun _ _ z=>by cases z)⟩⟩
  |first a b c e=>exact ⟨_,rfl,_,_,0,_,rfl,rfl,t2.aK a,at0 _ _,rfl,_,rfl,cC ⟨_,rfl,_,rfl,_,D2,xs,ys,rfl,t2.aK ha,SqL.of g2,hl,l2,l5,wq (fun _ _ z=>by cases z)⟩⟩
def aR8 (K:PySem.W.Frag):Sp:=fun vs H Q _=>∃d v hs q hd,vs=[.ref d,v]∧eQ K H d hs∧NmH hs∧IsQ K H v q∧size q≤20∧HQ hs q hd∧∀v' H',Same H H'→IsQ K H' v' (move hs q)→Q v' H'
theorem aQ0 (T:Txt w K mg) (mZ:Ok P w K mg base 27 "head_of" ["heads","question"] (aIb K)) (aF0:Ok P w K mg base 71 "moved" ["heads","question"] (aWk K 20)):Ok P w K mg base 72 "early" ["heads","question"] (aR8 K):=by
 refine Ok.ofV T.aT3 aSx (fun vs H Q E h=>?_) (fun f cdv A outer s H vs Q E hr h=>?_)
 ·obtain ⟨d,v,hs,q,hd,rfl,_⟩:=h;rfl
 obtain ⟨d,v,hs,q0,hd,rfl,hds,hT,hq,hz,hh,q⟩:=h
 refine ⟨_,(aC (eF (aJ (mZ.mono (by decide)) hr (by rfl) (aB (vv 0) (aB (vv 1) aA)))) (aF (aM (aJ (aF0.mono (by decide)) hr (by rfl) (aB (vv 0) (aB (vv 1) aA)))))),?_⟩
 exact ⟨_,rfl,_,rfl,d,v,hs,q0,hd,rfl,hds,hq,hz,hh,fun v1 H1 s1 _=>⟨_,rfl,_,rfl,d,v,hs,q0,hd,rfl,hds.same s1,hT,hq.same s1,hz,hz,hh,fun v' H2 s2 h2=>q _ _ (s1.trans s2) h2⟩⟩
theorem aN5 {z:Str} {j:Int} (h0:0≤j) (h1:j<z.length):∃c,z.cps[j.toNat]?=some c:=
 ⟨_,Array.getElem?_eq_getElem (by show j.toNat<z.length;lia)⟩
theorem aFr (x y:Str):(x++y).length=x.length+y.length:=by
 show (x.cps++y.cps).size=_
 rw [Array.size_append]
 rfl
theorem at_of {xs:List V} {j:Int} (h0:0≤j) (h1:j<xs.length):∃v,atI xs j=some v∧v∈xs:=by
 have hj:j.toNat<xs.length:=by lia
 refine ⟨xs[j.toNat],?_,List.getElem_mem hj⟩
 have e2:atI xs ((j.toNat:Nat):Int)=some xs[j.toNat]:=cF (List.getElem?_eq_getElem hj)
 rw [show ((j.toNat:Nat):Int)=j by lia] at e2
 exact e2
def Lets (x:Str):Prop:=∀c∈x.cps,97≤c∧c≤122
theorem aT9:∀k:_root_.Fin 26,inA ⟨#[97+k.val]⟩=true:=by decide +kernel
theorem aYi {c:Nat} (h1:97≤c) (h2:c≤122):inA ⟨#[c]⟩=true:=by
 have:=aT9 ⟨c - 97,by lia⟩
 simp only at this
 rw [show 97+(c - 97)=c by lia] at this
 exact this
theorem allIn_of {x:Str} (h:Lets x):allIn x=true:=by
 unfold allIn
 rw [List.all_eq_true]
 intro b hb
 obtain ⟨i,hi,rfl⟩:=List.mem_map.mp hb
 have hi':i<x.cps.size:=List.mem_range.mp hi
 have e:x.cps.getD i 0=x.cps[i]:=by rw [Array.getD_eq_getD_getElem?,Array.getElem?_eq_getElem hi'];rfl
 obtain ⟨h1,h2⟩:=h _ (Array.getElem_mem hi')
 show inA (sgn x i)=true
 unfold sgn
 rw [e]
 exact aYi h1 h2
theorem Lets.add {x y:Str} (hx:Lets x) (hy:Lets y):Lets (x++y):=fun c hc=>by
 have hc:c∈x.cps++y.cps:=hc
 rcases Array.mem_append.mp hc with h|h
 ·exact hx c h
 ·exact hy c h
theorem Lets.one {z:Str} {i c:Nat} (hz:Lets z) (h:z.cps[i]?=some c):Lets ⟨#[c]⟩:=fun d hd=>by
 have hd:d∈#[c]:=hd
 have e:d=c:=by simpa using hd
 subst e
 exact hz _ (Array.mem_of_getElem? h)
theorem aIa:Lets abc:=by
 have h:(abc.cps.all fun c=>decide (97≤c) && decide (c≤122))=true:=by decide +kernel
 intro c hc
 have:=(Array.all_eq_true_iff_forall_mem.mp h) c hc
 rw [Bool.and_eq_true] at this
 exact ⟨of_decide_eq_true this.1,of_decide_eq_true this.2⟩
inductive aBj:Str→V→Prop
 |num {i}:aBj "number" (.int i)
 |wrd {x}:Lets x→x.length≤8→aBj "word" (.str x)
def aG6 (K:PySem.W.Frag):Sp:=fun vs H Q _=>∃(a:Addr) (ns:List Int),vs=[.ref a]∧SqL K H a (ns.map V.int)∧ns.length≤63∧∀c H',Same H H'→0≤c→c<M61→Q (.int c) H'
theorem aG1 (T:Txt w K mg):Ok P w K mg base 1 "_law_seed" ["_law_script"] (aG6 K):=by
 refine Ok.ofV T.aHv jN (fun vs H Q E h=>?_) (fun f cdv A outer s H vs Q E hr h=>?_)
 ·obtain ⟨a,ns,rfl,_⟩:=h;rfl
 obtain ⟨a,ns,rfl,ha,h63,q⟩:=h
 refine ⟨_,(aC (aV (i:=1) jN.nd rfl (by trivial) aD) (aC (jD PassesOwn.never rfl (aUv (by rfl) T.aKa (aB (vv 0) aA)) (mG rfl (bB (aL (i:=2) jN.nd rfl (by trivial)) (bB (aL (i:=3) jN.nd rfl (by trivial)) cW))) (aF (aV (i:=1) jN.nd rfl (by trivial) (bW rO (bW fG (bW fG (bW fG (bW aBv (vv 1) aD) (bW rO (vv 3) (bW aMj aD aD))) (bW aBv aD (vv 2))) aD) aD)))) (aF (aM (vv 1))))),?_⟩
 refine ⟨_,rfl,a,ns.map V.int,rfl,ha,aTi (fun i σ H'=>Same H H'∧∃(c:Int) (l2 l3:Option V),0≤c∧c<M61∧σ=[some (.ref a),some (.int c),l2,l3]) ⟨Same.refl H,7,_,_,by decide,by decide,rfl⟩ (fun i σ H' _ ⟨e,_⟩=>e.seq ha) ?_ ?_⟩
 ·rintro i σ H' x Tp H'' ex ⟨sm,c,l2,l3,c0,c1,rfl⟩ hT rfl
  obtain ⟨z,hz,rfl⟩:=dJ ex
  refine ⟨Tp,_,rfl,SqT.of aQ,rfl,_,_,rfl,_,_,rfl,rfl,?_⟩
  refine ⟨_,rfl,_,_,rfl,rfl,.inr ⟨by decide,by decide⟩,_,rfl,_,_,rfl,rfl,⟨by decide,by decide,by decide⟩,_,_,rfl,rfl,(by show (0:Int)<10 ^ 30;decide),_,_,rfl,rfl,_,rfl,_,_,rfl,rfl,.inl ⟨by decide,by decide⟩,_,_,rfl,rfl,_,_,rfl,rfl,_,_,rfl,rfl,(by show (0:Int)<2305843009213693951;decide),?_⟩
  exact ⟨sm.trans (bM hT _),_,_,_,Int.emod_nonneg _ (by decide),Int.emod_lt_of_pos _ (by decide),rfl⟩
 ·rintro σ H' ⟨sm,c,l2,l3,c0,c1,rfl⟩
  exact ⟨_,rfl,q c H' sm c0 c1⟩
def gR:Sp:=fun vs H Q _=>∃(a:Addr) (m:Int),vs=[.ref a,.int m]∧lO H a∧(0<m∧m<2 ^ 64)∧∀c H',Fx a H H'→0≤c→c<m→Q (.int c) H'
theorem aG2 (T:Txt w K mg):Ok P w K mg base 1 "_law_next" ["_law_state","_law_many"] gR:=by
 refine Ok.ofV T.aJ2 wQ (fun vs H Q E h=>?_) (fun f cdv A outer s H vs Q E hr h=>?_)
 ·obtain ⟨a,m,rfl,_⟩:=h;rfl
 obtain ⟨a,m,rfl,⟨st,dg,hs,s0,d0⟩,⟨hm,hm2⟩,q⟩:=h
 refine ⟨_,(aC (bR (aU aJ1 (aH bN (vv 0) aD (fun _ _=>rfl)) aD (aZ _)) (aC (rF (aW aOv (by rfl) T.aS3 aO6 (aB (aH bN (vv 0) aD (fun _ _=>rfl)) (aB (vv 1) aA))) (mG rfl (bB (aKr (vv 0) aD set_list) (bB (aL (i:=2) wQ.nd rfl (by trivial)) cW)))) (aF (aM (vv 2)))) bA) (aC (rF (bW rO (bW fG (bW aBv (aH bN (vv 0) aD (fun _ _=>rfl)) aD) aD) aD) (aKr (vv 0) aD set_list)) (aF (aM (bW rO (bW aNm (aH bN (vv 0) aD (fun _ _=>rfl)) aD) (vv 1)))))),?_⟩
 refine ⟨_,rfl,a,_,1,_,rfl,rfl,SqL.of hs,at1 _ _ _,_,_,rfl,rfl,_,rfl,lU (fun c=>?_) fun c=>?_⟩
 ·refine ⟨_,rfl,a,_,1,_,rfl,rfl,SqL.of hs,at1 _ _ _,_,rfl,_,_,rfl,⟨hm,hm2⟩,fun p H1 fp s1 g1=>?_⟩
  refine ⟨p,_,rfl,SqT.of g1,rfl,_,_,rfl,⟨_,rfl,a,_,1,1,rfl,rfl,s1 _ _ hs,rfl,?_⟩⟩
  refine ⟨_,_,rfl,rfl,_,rfl,?_⟩
  exact q _ _ ⟨fun b o n h=>by rw [bH n];exact s1 _ _ h,st,dg / m,aQ,s0,Int.ediv_nonneg d0 (by lia)⟩ (Int.emod_nonneg _ (by lia)) (Int.emod_lt_of_pos _ hm)
 ·refine ⟨_,rfl,a,_,0,_,rfl,rfl,SqL.of hs,at0 _ _,_,_,rfl,rfl,.inr ⟨by decide,by decide⟩,_,_,rfl,rfl,_,_,rfl,rfl,(by show (0:Int)<2305843009213693951;decide),?_⟩
  refine ⟨_,rfl,a,_,0,0,rfl,rfl,hs,rfl,?_⟩
  refine ⟨_,rfl,a,[.int ((st * 1181783497276652981+12345678910987) % 2305843009213693951),.int dg],0,_,rfl,rfl,SqL.of aQ,at0 _ _,_,_,rfl,rfl,⟨by decide,by decide⟩,_,rfl,_,_,rfl,rfl,hm,?_⟩
  exact q _ _ ⟨fun b o n h=>by rw [bH n];exact h,(st * 1181783497276652981+12345678910987) % 2305843009213693951,dg,aQ,⟨Int.emod_nonneg _ (by decide),Int.emod_lt_of_pos _ (by decide)⟩,d0⟩ (Int.emod_nonneg _ (by lia)) (Int.emod_lt_of_pos _ hm)
def aIs (K:PySem.W.Frag):Sp:=fun vs H Q _=>∃(a:Addr) (ns:List Int),vs=[.ref a]∧SqL K H a (ns.map V.int)∧ns.length≤63∧∀p H',H p=none→Same H H'→lO H' p→Q (.ref p) H'
theorem aDu (T:Txt w K mg) (aJw:Ok P w K mg base 1 "_law_seed" ["_law_script"] (aG6 K)):Ok P w K mg base 2 "_law_begin" ["_law_script"] (aIs K):=by
 refine Ok.ofV T.aGg pK (fun vs H Q E h=>?_) (fun f cdv A outer s H vs Q E hr h=>?_)
 ·obtain ⟨a,ns,rfl,_⟩:=h;rfl
 obtain ⟨a,ns,rfl,ha,h63,q⟩:=h
 refine ⟨_,(aC (aV (i:=1) pK.nd rfl (by trivial) aD) (aC (bR (VW.pt (yZ (aU aJ1 (aW aX (by rfl) T.dB cH (aB (vv 0) aA)) aD (aZ _)) (xR (aU cG (bW rO (aH bN (vv 0) aD (fun _ _=>rfl)) aD) aD (aZ _))))) (aF (aV (i:=1) pK.nd rfl (by trivial) (bW aNm (aW aTl (by rfl) T.aY7 aX6 (aB (aH bN (vv 0) aD (fun _ _=>rfl)) aA)) aD))) bA) (aF (aM (cO (aB (aJ (aJw.mono (by decide)) hr (by rfl) (aB (vv 0) aA)) (aB (vv 1) aA))))))),?_⟩
 have fin:∀dg:Int,0≤dg→∀(σ:L2.St),σ=[some (.ref a),some (.int dg)]→(aDl (aV9 (fK (uO (aG6 K) [] E0 (fK (uR 0) aK5)) (fK (uR 1) aK5)))) { nx:=fun _ H'=>Q V.non H',rt:=Q } σ H:=by
  rintro dg d0 σ rfl
  exact ⟨_,rfl,a,ns,rfl,ha,h63,fun c H1 s1 c0 c1=>⟨_,rfl,(by show 2≤sizeLine;decide),fun p H2 fp s2 g2=>q p H2 (s1.free fp) (s1.trans s2) ⟨c,dg,g2,⟨c0,c1⟩,d0⟩⟩⟩
 refine ⟨_,rfl,a,_,rfl,.inl ha,_,_,rfl,rfl,_,rfl,?_⟩
 cases ns with
 |nil=>exact bC (fin 0 (by decide) _ rfl)
 |cons n r=>
  have e1:decide ((0:Int)<((n::r).map V.int).length)=true:=decide_eq_true (by simp)
  rw [show (decide (((((n::r).map V.int).length:Nat):Int) > 0))=true from e1]
  refine cC ⟨_,rfl,a,_,0,.int n,rfl,rfl,ha,at0 _ _,_,_,rfl,rfl,(by show (0:Int)<2;decide),rfl,_,rfl,lU (fun c=>?_) fun c=>?_⟩
  ·exact ⟨_,rfl,a,_,0,.int n,rfl,rfl,ha,at0 _ _,_,rfl,_,_,rfl,rfl,⟨by decide,by decide⟩,fin _ (Int.ediv_nonneg (by split <;> lia) (by decide)) _ rfl⟩
  ·exact fin 0 (by decide) _ rfl
def aJ6:Sp:=fun vs H Q _=>∃a:Addr,vs=[.ref a]∧lO H a∧∀i H',Fx a H H'→Q (.int i) H'
theorem aDg (T:Txt w K mg) (aN:Ok P w K mg base 1 "_law_next" ["_law_state","_law_many"] gR):Ok P w K mg base 2 "_law_great" ["_law_state"] aJ6:=by
 refine Ok.ofV T.aE9 lB (fun vs H Q E h=>?_) (fun f cdv A outer s H vs Q E hr h=>?_)
 ·obtain ⟨a,rfl,_⟩:=h;rfl
 obtain ⟨a,rfl,hs,q⟩:=h
 refine ⟨_,(aC (aV (i:=1) lB.nd rfl (by trivial) aD) (aC (jD PassesOwn.never rfl (fU (by rfl) T.lG (aB aD aA)) (aL (i:=2) lB.nd rfl (by trivial)) (aF (aV (i:=1) lB.nd rfl (by trivial) (bW fG (bW aBv (vv 1) (bW aMj aD aD)) (aJ (aN.mono (by decide)) hr (by rfl) (aB (vv 0) (aB (bW aMj aD aD) aA))))))) (aF (aM (aH bN (cO (aB (vv 1) (aB (bW aGn aD (vv 1)) aA))) (aJ (aN.mono (by decide)) hr (by rfl) (aB (vv 0) (aB aD aA))) (fun _ _=>rfl)))))),?_⟩
 refine ⟨_,rfl,by decide,by decide,lA (n:=4) (fun i σ H'=>Fx a H H'∧∃(c:Int) (l2:Option V),σ=[some (.ref a),some (.int c),l2]) ⟨.refl hs,0,_,rfl⟩ ?_ ?_⟩
 ·rintro i σ H' hi ⟨fx,c,l2,rfl⟩
  refine ⟨_,rfl,_,_,rfl,rfl,⟨by decide,by decide,by decide⟩,_,_,rfl,rfl,.inr ⟨by decide,by decide⟩,_,rfl,_,_,rfl,rfl,⟨by decide,by decide,by decide⟩,a,_,rfl,fx.st,(by show (0:Int)<10 ^ 15∧(10:Int) ^ 15<2 ^ 64;decide),fun d H1 f1 _ _=>?_⟩
  exact ⟨_,_,rfl,rfl,fx.trans f1,_,_,rfl⟩
 ·rintro σ H' ⟨fx,c,l2,rfl⟩
  refine ⟨_,rfl,_,rfl,_,_,rfl,rfl,(by show 2≤sizeLine;decide),fun p H1 fp s1 g1=>?_⟩
  refine ⟨_,rfl,a,2,rfl,fx.st.same s1,by decide,fun d H2 f2 d0 d1=>?_⟩
  obtain ⟨v,hv,mv⟩:=at_of (xs:=[.int c,.int (0 - c)]) d0 (by show d<2;lia)
  refine ⟨p,_,_,v,rfl,rfl,SqL.of (f2.same _ _ (fx.st.ne fp) g1),hv,?_⟩
  simp only [List.mem_cons,List.not_mem_nil,or_false] at mv
  rcases mv with rfl|rfl
  ·exact q _ _ ((fx.sm s1).trans f2)
  ·exact q _ _ ((fx.sm s1).trans f2)
abbrev aKq:List V:=[.str "",.str "a",.str "b",.str "ab"]
def aBk (k:Str):Prop:=k = "number"∨k = "word"
def aNf:Sp:=fun vs H Q _=>∃(a:Addr) (kd:Str),vs=[.ref a,.str kd]∧lO H a∧aBk kd∧∀v H',Fx a H H'→aBj kd v→Q v H'
theorem aLo {v:V} (h:v∈aKq):aBj "word" v:=by
 simp only [aKq,List.mem_cons,List.not_mem_nil,or_false] at h
 have le:∀x:Str,(x.cps.all fun c=>decide (97≤c) && decide (c≤122))=true→Lets x:=fun x hx c hc=>by
  have:=(Array.all_eq_true_iff_forall_mem.mp hx) c hc
  rw [Bool.and_eq_true] at this
  exact ⟨of_decide_eq_true this.1,of_decide_eq_true this.2⟩
 rcases h with rfl|rfl|rfl|rfl
 ·exact .wrd (le _ (by decide +kernel)) (by decide +kernel)
 ·exact .wrd (le _ (by decide +kernel)) (by decide +kernel)
 ·exact .wrd (le _ (by decide +kernel)) (by decide +kernel)
 ·exact .wrd (le _ (by decide +kernel)) (by decide +kernel)
theorem aDw (T:Txt w K mg) (aN:Ok P w K mg base 1 "_law_next" ["_law_state","_law_many"] gR) (aGt:Ok P w K mg base 2 "_law_great" ["_law_state"] aJ6):Ok P w K mg base 3 "_law_value" ["_law_state","_law_kind"] aNf:=by
 refine Ok.ofV T.aFn iH (fun vs H Q E h=>?_) (fun f cdv A outer s H vs Q E hr h=>?_)
 ·obtain ⟨a,kd,rfl,_⟩:=h;rfl
 obtain ⟨a,kd,rfl,hs,hk,q⟩:=h
 refine ⟨_,(aC (aV (i:=2) iH.nd rfl (by trivial) (aJ (aN.mono (by decide)) hr (by rfl) (aB (vv 0) (aB aD aA)))) (aC (bR (aU cG (vv 1) aO (aZ _)) (aF (aM (aH bN (cO (aB (bW aGn (aJ (aN.mono (by decide)) hr (by rfl) (aB (vv 0) (aB aD aA))) aD) (aB (aJ (aGt.mono (by decide)) hr (by rfl) (aB (vv 0) aA)) aA))) (bF uB (by rfl) T.aIy aBd (aB (eZ cG (vv 2) aD (aZ _)) aA)) (fun _ _=>rfl)))) bA) (aC (bR (aU aR2 (vv 2) aD (aZ _)) (aF (aM (aH bN (cO (aB aO (aB aO (aB aO (aB aO aA))))) (bW rO (vv 2) aD) (fun _ _=>rfl)))) bA) (aC (aV (i:=3) iH.nd rfl (by trivial) aO) (aC (jD PassesOwn.never rfl (fU (by rfl) T.lG (aB (aJ (aN.mono (by decide)) hr (by rfl) (aB (vv 0) (aB aD aA))) aA)) (aL (i:=4) iH.nd rfl (by trivial)) (aF (aV (i:=3) iH.nd rfl (by trivial) (bW rE (vv 3) (oV aO (aJ (aN.mono (by decide)) hr (by rfl) (aB (vv 0) (aB aD aA))) (fun _ _=>rfl)))))) (aF (aM (vv 3)))))))),?_⟩
 refine ⟨_,rfl,a,10,rfl,hs,by decide,fun way H1 f1 w0 w1=>?_⟩
 rcases hk with rfl|rfl
 ·refine ⟨_,rfl,rfl,_,rfl,cC ?_⟩
  refine ⟨_,rfl,a,4,rfl,f1.st,by decide,fun d H2 f2 d0 d1=>?_⟩
  refine ⟨_,_,rfl,rfl,_,rfl,a,rfl,f2.st,fun g H3 f3=>?_⟩
  refine ⟨(by show 2≤sizeLine;decide),fun p H4 _ s4 g4=>?_⟩
  have fx:=(f1.trans (f2.trans f3)).sm s4
  refine ⟨_,rfl,rfl,.inr ⟨_,rfl,?_⟩⟩
  by_cases e:way=9
  ·rw [decide_eq_true (congrArg V.int e)]
   exact ⟨p,_,_,_,rfl,rfl,SqL.of g4,cF (j:=1) rfl,q _ _ fx .num⟩
  ·rw [decide_eq_false (by intro z;exact e (V.int.inj z))]
   exact ⟨p,_,_,_,rfl,rfl,SqL.of g4,cF (j:=0) rfl,q _ _ fx .num⟩
 ·refine ⟨_,rfl,rfl,_,rfl,bC ?_⟩
  refine ⟨_,rfl,_,_,rfl,rfl,_,rfl,lU (fun _=>?_) (fun _=>?_)⟩
  ·refine ⟨(by show 4≤sizeLine;decide),fun p H4 _ s4 g4=>?_⟩
   obtain ⟨v,hv,mv⟩:=at_of (xs:=aKq) (j:=way % 4) (by lia) (by show way % 4<4;lia)
   exact ⟨_,rfl,_,_,rfl,rfl,(by show (0:Int)<4;decide),p,_,_,v,rfl,rfl,SqL.of g4,hv,q _ _ (f1.sm s4) (aLo mv)⟩
  ·refine ⟨_,rfl,a,9,rfl,f1.st,by decide,fun n H2 f2 n0 n1=>?_⟩
   refine ⟨_,rfl,by lia,by lia,lA (n:=n.toNat) (fun i σ H'=>Fx a H H'∧∃(x:Str) (l4:Option V),σ=[some (.ref a),some (.str "word"),some (.int way),some (.str x),l4]∧x.length≤i∧Lets x) ⟨f1.trans f2,_,_,rfl,by decide +kernel,fun d hd=>by simp [show (("":Str).cps)=#[] from rfl] at hd⟩ ?_ ?_⟩
   ·rintro i σ H' hi ⟨fx,x,l4,rfl,hl,hx⟩
    have al:abc.length=26:=by decide +kernel
    refine ⟨_,rfl,_,rfl,a,26,rfl,fx.st,by decide,fun d H3 f3 d0 d1=>?_⟩
    obtain ⟨ch,hch⟩:=aN5 (z:=abc) d0 (by rw [al];exact d1)
    refine ⟨_,_,_,rfl,rfl,d0,(by lia),(by rw [al];exact d1),hch,_,_,rfl,rfl,?_,fx.trans f3,_,_,rfl,?_,hx.add (aIa.one hch)⟩
    ·show x.length+1≤sizeLine
     exact small (by lia)
    ·rw [aFr]
     show x.length+1≤i+1
     lia
   ·rintro σ H' ⟨fx,x,l4,rfl,hl,hx⟩
    exact ⟨_,rfl,q _ _ fx (.wrd hx (by lia))⟩
def aEe:Sp:=fun vs H Q _=>vs=[]∧∀p H',H p=none→Same H H'→H' p=some (.lst words)→Q (.ref p) H'
theorem aC8 (T:Txt w K mg):Ok P w K mg base 1 "_law_words" [] aEe:=by
 refine Ok.ofV T.aG4 uK (fun vs H Q E h=>?_) (fun f cdv A outer s H vs Q E hr h=>?_)
 ·obtain ⟨rfl,_⟩:=h;rfl
 obtain ⟨rfl,q⟩:=h
 refine ⟨_,(aC (aV (i:=0) uK.nd rfl (by trivial) (cO (aB aO (aB aO (aB aO (aB aO (aB aO (aB aO (aB aO (aB aO (aB aO aA))))))))))) (aF (aM (bW aTn (vv 0) (cO (aB aO (aB aO (aB aO (aB aO (aB aO (aB aO (aB aO (aB aO aA))))))))))))),?_⟩
 refine ⟨(by show 9≤sizeLine;decide),fun p1 H1 _ s1 g1=>?_⟩
 refine ⟨_,rfl,(by show 8≤sizeLine;decide),fun p2 H2 _ s2 g2=>?_⟩
 exact ⟨p1,p2,_,_,rfl,rfl,s2 _ _ g1,g2,(by show 9+8≤sizeLine;decide),fun p H3 f3 s3 g3=>q p H3 ((s1.trans s2).free f3) (s1.trans (s2.trans s3)) g3⟩
def nJ (ns:List Str):Prop:=ns.length=17∧(∀n∈ns,Nm n)∧ns.Nodup
theorem nJ.rev {ns:List Str} (h:nJ ns):nJ ns.reverse:=⟨by rw [List.length_reverse];exact h.1,fun n hn=>h.2.1 n (List.mem_reverse.mp hn),List.pairwise_reverse.mpr (h.2.2.imp fun q=>Ne.symm q)⟩
theorem aXz:∀j:_root_.Fin 26,abc.cps[j.val]?=some (97+j.val):=by decide +kernel
theorem aUk {j:Nat} (h:j<26):abc.cps[j]?=some (97+j):=aXz ⟨j,h⟩
def sgl (o:Nat):List Str:=(List.range 17).map fun k=>⟨#[97+(o+k)]⟩
theorem aOa:∀o:_root_.Fin 10,((sgl o.val).all fun n=>nameB (.str n))=true∧(Txt.slice abc (some (o.val:Int)) (some ((o.val:Int)+17))).cps.size=17∧((List.range 17).all fun i=>decide (sgn (Txt.slice abc (some (o.val:Int)) (some ((o.val:Int)+17))) i=⟨#[97+(o.val+i)]⟩))=true:=by decide +kernel
theorem aTf {a b:Nat} (h:(⟨#[a]⟩:Str)=⟨#[b]⟩):a=b:=by
 have:=congrArg (fun x:Str=>x.cps.toList) h
 simpa using this
theorem aS5 {o:Nat} (h:o<10):nJ (sgl o):=by
 refine ⟨by simp [sgl],fun n hn=>?_,?_⟩
 ·have:=(aOa ⟨o,h⟩).1
  rw [List.all_eq_true] at this
  exact this n hn
 ·refine List.pairwise_map.mpr (List.Pairwise.imp_of_mem ?_ List.nodup_range)
  intro k l _ _ ne e
  have:=aTf e
  exact ne (by lia)
theorem aTo {o:Nat} (h:o<10):((List.range (Txt.slice abc (some (o:Int)) (some ((o:Int)+17))).cps.size).map fun i=>V.str (sgn (Txt.slice abc (some (o:Int)) (some ((o:Int)+17))) i))=(sgl o).map V.str:=by
 obtain ⟨_,h2,h3⟩:=aOa ⟨o,h⟩
 have h2:(Txt.slice abc (some (o:Int)) (some ((o:Int)+17))).cps.size=17:=h2
 rw [h2]
 unfold sgl
 rw [List.map_map]
 refine List.map_congr_left fun i hi=>?_
 rw [List.all_eq_true] at h3
 have:=of_decide_eq_true (h3 i hi)
 show V.str _=V.str _
 exact congrArg V.str this
def stm (b:Str) (a o:Nat):Nat→List Str:=fun i=>(List.range i).map fun k=>put b a (97+(o+k))
theorem aW9 {b:Str} {a o:Nat} (hb:Lets b) (hl:b.length≤7) (ha:a≤b.length) (ho:o<10) (hw:∀w∈words,inV w ((stm b a o 17).map V.str)=false):nJ (stm b a o 17):=by
 refine ⟨by simp [stm],fun n hn=>?_,?_⟩
 ·obtain ⟨k,hk,rfl⟩:=List.mem_map.mp hn
  have hk:=List.mem_range.mp hk
  have hin:inV (.str (put b a (97+(o+k)))) words=false:=by
   cases e:inV (.str (put b a (97+(o+k)))) words with
   |false=>rfl
   |true=>
    exfalso
    unfold inV at e
    rw [List.any_eq_true] at e
    obtain ⟨v,hv,ev⟩:=e
    have hvs:∃z:Str,v=.str z:=by
     simp only [words,List.mem_cons,List.not_mem_nil,or_false] at hv
     rcases hv with rfl|rfl|rfl|rfl|rfl|rfl|rfl|rfl|rfl|rfl|rfl|rfl|rfl|rfl|rfl|rfl|rfl <;> exact ⟨_,rfl⟩
    obtain ⟨z,rfl⟩:=hvs
    have e2:(z == put b a (97+(o+k)))=true:=ev
    have e3:z=put b a (97+(o+k)):=by simpa using e2
    have:=hw _ hv
    rw [lK,decide_eq_false_iff_not] at this
    exact this (by rw [e3];exact hn)
  show ((decide (1≤(put b a (97+(o+k))).length) && (decide ((put b a (97+(o+k))).length≤8) && allIn (put b a (97+(o+k))))) && !inV (.str (put b a (97+(o+k)))) words)=true
  have hL:Lets (put b a (97+(o+k))):=fun c hc=>by
   rcases aVh ha hc with rfl|z
   ·lia
   ·exact hb c z
  rw [aTx ha,decide_eq_true (p:=1≤b.length+1) (by lia),decide_eq_true (p:=b.length+1≤8) (by lia),allIn_of hL,hin]
  rfl
 ·refine List.pairwise_map.mpr (List.Pairwise.imp_of_mem ?_ List.nodup_range)
  intro k l _ _ ne e
  have:=aVd ha e
  exact ne (by lia)
def aSf:Sp:=fun vs H Q _=>∃a:Addr,vs=[.ref a,.int 17]∧lO H a∧∀p H' ns,Fx a H H'→H p=none→H' p=some (.lst (ns.map V.str))→nJ ns→Q (.ref p) H'
theorem aDi (T:Txt w K mg) (aN:Ok P w K mg base 1 "_law_next" ["_law_state","_law_many"] gR) (aHi:Ok P w K mg base 1 "_law_words" [] aEe):Ok P w K mg base 2 "_law_names" ["_law_state","_law_many"] aSf:=by
 refine Ok.ofV T.aGy cQ (fun vs H Q E h=>?_) (fun f cdv A outer s H vs Q E hr h=>?_)
 ·obtain ⟨a,rfl,_⟩:=h;rfl
 obtain ⟨a,rfl,hs,q⟩:=h
 refine ⟨_,(aC (aV (i:=2) cQ.nd rfl (by trivial) aO) (aC (aV (i:=3) cQ.nd rfl (by trivial) (aJ (aN.mono (by decide)) hr (by rfl) (aB (vv 0) (aB (bW aGn aD (vv 1)) aA)))) (aC (aV (i:=4) cQ.nd rfl (by trivial) aO) (aC (jD PassesOwn.never rfl (fU (by rfl) T.lG (aB (aJ (aN.mono (by decide)) hr (by rfl) (aB (vv 0) (aB aD aA))) aA)) (aL (i:=5) cQ.nd rfl (by trivial)) (aF (aV (i:=4) cQ.nd rfl (by trivial) (bW rE (vv 4) (oV (vv 2) (aJ (aN.mono (by decide)) hr (by rfl) (aB (vv 0) (aB aD aA))) (fun _ _=>rfl)))))) (aC (aV (i:=6) cQ.nd rfl (by trivial) (aJ (aN.mono (by decide)) hr (by rfl) (aB (vv 0) (aB (bW fG (aW xK (by rfl) T.dB cH (aB (vv 4) aA)) aD) aA)))) (aC (aV (i:=7) cQ.nd rfl (by trivial) (cO aA)) (aC (jD PassesOwn.never rfl (fU (by rfl) T.lG (aB (vv 1) aA)) (aL (i:=5) cQ.nd rfl (by trivial)) (aF (eF (uN PySem.F.plainAttrs_list PySem.F.slot_list_append PySem.F.type_list_append jZ (vv 7) (aB (bW rE (bW rE (dW aEz (vv 4) gU (eX (vv 6))) (oV (vv 2) (bW fG (vv 3) (vv 5)) (fun _ _=>rfl))) (dW aEz (vv 4) (eX (vv 6)) gU)) aA))))) (aC (bR (fC (aW (aSu rfl) (by rfl) T.aZe aYu (aB (bZ (N:=["_law_word","_law_names_here"]) (by trivial) (cV (aG mL) rfl (by decide +kernel)) rfl (eE (aW5 (aHi.mono (by decide)) hr (by rfl))) (fun cl s' H' fp=>⟨(aL (i:=0) (show (["_law_word","_law_names_here"]:List Str).Nodup from by decide +kernel) rfl (Or.inl rfl)),cI,(eZ (nG (K:=K)) (vv 0) (vv 1) (by with_unfolding_all rfl))⟩)) aA))) (aF (aV (i:=7) cQ.nd rfl (by trivial) (bF (aMi rfl) (by rfl) T.aBu yC (aB (dW aEz (vv 2) (eX (vv 3)) (eX (bW fG (vv 3) (vv 1)))) aA)))) bA) (aC (bR (aU cG (aJ (aN.mono (by decide)) hr (by rfl) (aB (vv 0) (aB aD aA))) aD (aZ _)) (aF (eF (aLk PySem.F.plainAttrs_list PySem.F.slot_list_reverse PySem.F.type_list_reverse zV (vv 7)))) bA) (aF (aM (vv 7)))))))))))),?_⟩
 have al:abc.length=26:=by decide +kernel
 refine ⟨_,rfl,_,rfl,_,_,rfl,rfl,a,10,rfl,hs,by decide,fun od H1 f1 o0 o1=>?_⟩
 obtain ⟨o,rfl⟩:∃o:Nat,od=o:=⟨od.toNat,by lia⟩
 have ho:o<10:=by lia
 refine ⟨_,rfl,a,8,rfl,f1.st,by decide,fun n H2 f2 n0 n1=>?_⟩
 refine ⟨_,rfl,by lia,by lia,lA (n:=n.toNat) (fun i σ H'=>Fx a H H'∧∃(x:Str) (l5:Option V),σ=[some (.ref a),some (.int 17),some (.str abc),some (.int (o:Nat)),some (.str x),l5,none,none]∧x.length≤i∧Lets x) ⟨f1.trans f2,_,_,rfl,by decide +kernel,fun d hd=>by simp [show (("":Str).cps)=#[] from rfl] at hd⟩ ?_ ?_⟩
 ·rintro i σ H' hi ⟨fx,x,l5,rfl,hl,hx⟩
  refine ⟨_,rfl,_,rfl,_,rfl,a,26,rfl,fx.st,by decide,fun d H3 f3 d0 d1=>?_⟩
  obtain ⟨ch,hch⟩:=aN5 (z:=abc) d0 (by rw [al];exact d1)
  refine ⟨_,_,_,rfl,rfl,d0,(by lia),(by rw [al];exact d1),hch,_,_,rfl,rfl,?_,fx.trans f3,_,_,rfl,?_,hx.add (aIa.one hch)⟩
  ·show x.length+1≤sizeLine
   exact small (by lia)
  ·rw [aFr]
   show x.length+1≤i+1
   lia
 rintro σ H3 ⟨f3,b,l5,rfl,hl,hb⟩
 have hb7:b.length≤7:=by lia
 refine ⟨_,rfl,_,rfl,_,rfl,small (by lia),_,_,rfl,rfl,a,_,rfl,f3.st,(by show (0:Int)<(b.length:Int)+1∧(b.length:Int)+1<2 ^ 64;lia),fun ai H4 f4 a0 a1=>?_⟩
 obtain ⟨at',rfl⟩:∃at':Nat,ai=at':=⟨ai.toNat,by lia⟩
 have ha:at'≤b.length:=by
  have:(at':Int)<(b.length:Int)+1:=a1
  lia
 have fx4:=f3.trans f4
 refine ⟨(by show 0≤sizeLine;decide),fun p H5 fp s5 g5=>?_⟩
 have fp0:H p=none:=fx4.free fp
 have npa:p≠a:=hs.ne fp0
 refine ⟨_,rfl,_,rfl,by decide,by decide,lA (n:=17) (fun i σ H'=>Fx a H H'∧H' p=some (.lst ((stm b at' o i).map V.str))∧∃l5,σ=[some (.ref a),some (.int 17),some (.str abc),some (.int (o:Nat)),some (.str b),l5,some (.int (at':Nat)),some (.ref p)]) ⟨fx4.sm s5,g5,_,rfl⟩ ?_ ?_⟩
 ·rintro i σ H' hi ⟨fx,gp,l5,rfl⟩
  have s1:=Txt.slice_le b none (some ((at':Nat):Int))
  have s2:=Txt.slice_le b (some ((at':Nat):Int)) none
  have ej:((o:Int)+(0+(i:Int))).toNat=o+i:=by lia
  have hch:abc.cps[((o:Int)+(0+(i:Int))).toNat]?=some (97+(o+i)):=by rw [ej];exact aUk (by lia)
  refine ⟨_,rfl,.inl ⟨rfl,_,SqL.of gp⟩,_,rfl,_,rfl,_,rfl,_,rfl,small (by lia),_,rfl,_,rfl,_,rfl,_,_,rfl,rfl,_,_,_,rfl,rfl,(by show 0≤(o:Int)+(0+(i:Int));lia),(by show (o:Int)+(0+(i:Int))<2 ^ 63;lia),(by rw [al];show (o:Int)+(0+(i:Int))<26;lia),hch,_,_,rfl,rfl,?_,_,rfl,_,rfl,_,rfl,_,rfl,small (by lia),_,_,rfl,rfl,?_,?_⟩
  ·show (Txt.slice b none (some ((at':Nat):Int))).length+1≤sizeLine
   exact small (by lia)
  ·rw [aFr]
   show (Txt.slice b none (some ((at':Nat):Int))).length+1+_≤sizeLine
   exact small (by lia)
  refine ⟨p,_,_,rfl,rfl,gp,?_,fx.upd fp0 npa,?_,_,rfl⟩
  ·rw [List.length_map]
   exact fP (by simp [stm];lia)
  ·rw [aQ]
   unfold stm
   rw [List.range_succ,List.map_append,List.map_append]
   rfl
 rintro σ H6 ⟨f6,g6,l5',rfl⟩
 dsimp only [gY,aLd,tB,tCB,fK]
 refine tR (K:=K) (fun us=>us=words) (fun i _ y=>∃w',words[i]?=some w'∧y=.bl (inV w' ((stm b at' o 17).map V.str))) (fun _ h=>h) (fun _ h=>h) [none,some (.ref p)] ?_ rfl (fun R r=>⟨rfl,fun W H7 _ s7 g7=>r W H7 _ s7 g7 rfl⟩) (fun us e=>by subst e;exact small (by decide)) (fun us e i x ex H' R l sm r=>?_) fun us e D H7 ys s7 g7 hly hR=>?_
 ·exact cX 7 (by decide +kernel) rfl rfl (by trivial)
 ·subst e
  have fl:jY x=true:=by
   have:=aB3
   rw [List.all_eq_true] at this
   exact this x (List.mem_of_getElem? ex)
  exact ⟨_,rfl,_,rfl,p,_,rfl,.inl (SqL.of (sm _ _ g6)),fl,iJ,r _ _ (Same.refl _) ⟨x,ex,rfl⟩⟩
 subst e
 have ey:ys=(words.map fun w'=>inV w' ((stm b at' o 17).map V.str)).map V.bl:=by
  rw [List.map_map]
  refine List.ext_getElem? fun i=>?_
  by_cases hi:i<ys.length
  ·obtain ⟨w',h1,h2⟩:=hR i ys[i] (List.getElem?_eq_getElem hi)
   rw [List.getElem?_eq_getElem hi,List.getElem?_map,h1,h2]
   rfl
  ·rw [List.getElem?_eq_none (by lia),List.getElem?_eq_none (by rw [List.length_map];lia)]
 rw [ey] at g7
 refine ⟨D,_,rfl,SqL.of g7,_,rfl,?_⟩
 have f7:=f6.sm s7
 refine lU (fun c=>?_) (fun c=>?_)
 ·refine ⟨_,rfl,_,rfl,_,rfl,_,rfl,_,rfl,_,_,rfl,rfl,_,rfl,abc,rfl,small (by rw [al];decide),?_⟩
  refine ⟨_,rfl,?_,fun p2 H8 fp2 s8 g8=>?_⟩
  ·have:=Txt.slice_le abc (some (o:Int)) (some ((o:Int)+17))
   rw [al] at this
   exact Nat.le_trans this (by decide)
  have g8':H8 p2=some (.lst ((sgl o).map V.str)):=by rw [g8];exact congrArg (fun z=>some (HO.lst z)) (aTo ho)
  have f8:=f7.sm s8
  have fp20:H p2=none:=f7.free fp2
  refine ⟨_,rfl,a,2,rfl,f8.st,by decide,fun d H9 f9 d0 d1=>?_⟩
  have g9:=f9.same _ _ (hs.ne fp20) g8'
  refine ⟨rfl,_,rfl,lU (fun _=>?_) (fun _=>?_)⟩
  ·refine ⟨_,rfl,.inl ⟨rfl,_,SqL.of g9⟩,p2,_,rfl,rfl,g9,?_⟩
   refine ⟨_,rfl,q p2 _ (sgl o).reverse ((f8.trans f9).upd fp20 (hs.ne fp20)) fp20 ?_ (aS5 ho).rev⟩
   rw [aQ,List.map_reverse]
  ·exact ⟨_,rfl,q p2 _ (sgl o) (f8.trans f9) fp20 g9 (aS5 ho)⟩
 ·have hw:∀w'∈words,inV w' ((stm b at' o 17).map V.str)=false:=fun w' hw'=>by
   cases e:inV w' ((stm b at' o 17).map V.str) with
   |false=>rfl
   |true=>
    exfalso
    apply c
    rw [List.any_eq_true]
    exact ⟨true,List.mem_map.mpr ⟨w',hw',e⟩,rfl⟩
  have hn:=aW9 hb hb7 ha ho hw
  refine ⟨_,rfl,a,2,rfl,f7.st,by decide,fun d H9 f9 d0 d1=>?_⟩
  have g9:=f9.same _ _ npa (s7 _ _ g6)
  refine ⟨rfl,_,rfl,lU (fun _=>?_) (fun _=>?_)⟩
  ·refine ⟨_,rfl,.inl ⟨rfl,_,SqL.of g9⟩,p,_,rfl,rfl,g9,?_⟩
   refine ⟨_,rfl,q p _ (stm b at' o 17).reverse ((f7.trans f9).upd fp0 npa) fp0 ?_ hn.rev⟩
   rw [aQ,List.map_reverse]
  ·exact ⟨_,rfl,q p _ (stm b at' o 17) (f7.trans f9) fp0 g9 hn⟩
def uG (hd:Hdr):Prop:=Good hd∧∀c∈hd,Nm c.1∧aBk c.2
def aHp (K:PySem.W.Frag):Sp:=fun vs H Q _=>∃(a N:Addr) (ns:List Str),vs=[.ref a,.ref N]∧lO H a∧H N=some (.lst (ns.map V.str))∧N≠a∧nJ ns∧∀v H' hd,Fx a H H'→eG K H' v hd→uG hd→hd.length≤7→Q v H'
theorem aMa {α:Type} {l:List α} (h:l.Nodup) {i j:Nat} {x:α} (h1:l[i]?=some x) (h2:l[j]?=some x):i=j:=by
 have hp:=List.pairwise_iff_getElem.mp h
 obtain ⟨hi,e1⟩:=List.getElem?_eq_some_iff.mp h1
 obtain ⟨hj,e2⟩:=List.getElem?_eq_some_iff.mp h2
 rcases Nat.lt_trichotomy i j with q|q|q
 ·exact absurd (e1.trans e2.symm) (hp i j hi hj q)
 ·exact q
 ·exact absurd (e2.trans e1.symm) (hp j i hj hi q)
theorem aZ1 {α:Type} {l:List α} (h:∀(i j:Nat) (x:α),l[i]?=some x→l[j]?=some x→i=j):l.Nodup:=by
 refine List.pairwise_iff_getElem.mpr fun i j hi hj hij e=>?_
 have:=h i j l[i] (List.getElem?_eq_getElem hi) (by rw [List.getElem?_eq_getElem hj,e])
 lia
theorem aRm {ns:List Str} (hn:nJ ns) {st:Nat} {hd:Hdr} (hl:hd.length≤8) (h:∀(j:Nat) (c:Str × Str),hd[j]?=some c→ns[3+(st+j) % 8]?=some c.1):(hd.map (·.1)).Nodup:=by
 refine aZ1 fun i j x h1 h2=>?_
 have g:∀k,(hd.map (·.1))[k]?=some x→k<hd.length∧ns[3+(st+k) % 8]?=some x:=fun k hk=>by
  rw [List.getElem?_map] at hk
  cases e:hd[k]? with
  |none=>rw [e] at hk;cases hk
  |some c=>
   rw [e] at hk
   cases hk
   exact ⟨(List.getElem?_eq_some_iff.mp e).1,h k c e⟩
 obtain ⟨l1,g1⟩:=g i h1
 obtain ⟨l2,g2⟩:=g j h2
 have:=aMa hn.2.2 g1 g2
 lia
theorem aFs (T:Txt w K mg) (aN:Ok P w K mg base 1 "_law_next" ["_law_state","_law_many"] gR):Ok P w K mg base 2 "_law_head" ["_law_state","_law_names_here"] (aHp K):=by
 refine Ok.ofV T.aJo jC (fun vs H Q E h=>?_) (fun f cdv A outer s H vs Q E hr h=>?_)
 ·obtain ⟨a,N,ns,rfl,_⟩:=h;rfl
 obtain ⟨a,N,ns,rfl,hs,hN,nN,hn,q⟩:=h
 refine ⟨_,(aC (aV (i:=2) jC.nd rfl (by trivial) (aJ (aN.mono (by decide)) hr (by rfl) (aB (vv 0) (aB aD aA)))) (aC (aV (i:=3) jC.nd rfl (by trivial) (cO aA)) (aC (jD PassesOwn.never rfl (fU (by rfl) T.lG (aB (bW fG aD (bW aBv (aJ (aN.mono (by decide)) hr (by rfl) (aB (vv 0) (aB aD aA))) (bW fG aD (bF uB (by rfl) T.aIy aBd (aB (eZ cG (aJ (aN.mono (by decide)) hr (by rfl) (aB (vv 0) (aB aD aA))) aD (aZ _)) aA))))) aA)) (aL (i:=4) jC.nd rfl (by trivial)) (aC (aV (i:=5) jC.nd rfl (by trivial) (aH bN (cO (aB aO (aB aO (aB aO aA)))) (aJ (aN.mono (by decide)) hr (by rfl) (aB (vv 0) (aB aD aA))) (fun _ _=>rfl))) (aF (eF (uN PySem.F.plainAttrs_list PySem.F.slot_list_append PySem.F.type_list_append jZ (vv 3) (aB (aY (aB (aH bN (vv 1) (bW fG aD (bW rO (bW fG (vv 2) (vv 4)) aD)) (fun _ _=>rfl)) (aB (vv 5) aA))) aA)))))) (aF (aM (bF bU (by rfl) T.cP cA (aB (vv 3) aA))))))),?_⟩
 have l17:=hn.1
 refine ⟨_,rfl,a,8,rfl,hs,by decide,fun st0 H1 f1 st00 st01=>?_⟩
 obtain ⟨st,rfl⟩:∃st:Nat,st0=st:=⟨st0.toNat,by lia⟩
 refine ⟨(by show 0≤sizeLine;decide),fun p H2 fp s2 g2=>?_⟩
 have f2:=f1.sm s2
 have fp0:H p=none:=f1.free fp
 have npa:p≠a:=hs.ne fp0
 refine ⟨_,rfl,a,4,rfl,f2.st,by decide,fun m H3 f3 m0 m1=>?_⟩
 refine ⟨_,rfl,a,8,rfl,f3.st,by decide,fun e H4 f4 e0 e1=>?_⟩
 have f4':=f2.trans (f3.trans f4)
 have g4:=f4.same _ _ npa (f3.same _ _ npa g2)
 refine ⟨rfl,.inr ⟨_,rfl,?_⟩⟩
 have bnd:∃z:Nat,1+m * (1+(if decide (V.int e=V.int 0) then 1 else 0))=(z:Int)∧1≤z∧z≤7:=by
  cases decide (V.int e=V.int 0)
  ·exact ⟨(1+m).toNat,by simp;lia,by lia,by lia⟩
  ·exact ⟨(1+m * 2).toNat,by simp;lia,by lia,by lia⟩
 obtain ⟨z,ez,z1,z7⟩:=bnd
 refine ⟨_,_,rfl,rfl,_,_,rfl,rfl,.inl ⟨by lia,by lia⟩,_,_,rfl,rfl,?_⟩
 refine ⟨(z:Int),?_,by lia,by lia,?_⟩
 ·show [V.int (1+m * (1+(if decide (V.int e=V.int 0) then 1 else 0)))]=_
  rw [ez]
 rw [Int.toNat_natCast]
 refine lA (n:=z) (fun i σ H'=>Fx a H H'∧∃(us:List V) (hd:Hdr) (l4 l5:Option V),H' p=some (.lst us)∧hd.length=i∧bL (IsC K H') us hd∧(∀(j:Nat) (c:Str × Str),hd[j]?=some c→ns[3+(st+j) % 8]?=some c.1∧aBk c.2)∧σ=[some (.ref a),some (.ref N),some (.int (st:Nat)),some (.ref p),l4,l5]) ⟨f4',[],[],_,_,g4,rfl,.nil,fun j c h=>by simp at h,rfl⟩ ?_ ?_
 ·rintro i σ H' hi ⟨fx,us,hd,l4,l5,gp,hl,hu,hc,rfl⟩
  have lu:=hu.len
  refine ⟨(by show 3≤sizeLine;decide),fun p1 H5 fp1 s5 g5=>?_⟩
  refine ⟨_,rfl,a,3,rfl,fx.st.same s5,by decide,fun d H6 f6 d0 d1=>?_⟩
  obtain ⟨kv,hkv,mkv⟩:=at_of (xs:=[.str "number",.str "number",.str "word"]) d0 (by show d<3;lia)
  obtain ⟨kd,rfl,hkd⟩:∃kd:Str,kv=.str kd∧aBk kd:=by
   simp only [List.mem_cons,List.not_mem_nil,or_false] at mkv
   rcases mkv with rfl|rfl|rfl
   ·exact ⟨_,rfl,.inl rfl⟩
   ·exact ⟨_,rfl,.inl rfl⟩
   ·exact ⟨_,rfl,.inr rfl⟩
  have f6':=(fx.sm s5).trans f6
  refine ⟨p1,_,_,_,rfl,rfl,SqL.of (f6.same _ _ (fx.st.ne fp1) g5),hkv,?_⟩
  have gp6:=f6.same _ _ npa (s5 _ _ gp)
  have hN6:=f6'.same _ _ nN hN
  have hu6:bL (IsC K H6) us hd:=hu.imp fun _ _ ⟨p',ep,hp⟩=>⟨p',ep,f6.aK (fx.st.same s5) (s5.aK hp)⟩
  have hix:3+(st+i) % 8<ns.length:=by lia
  refine ⟨_,rfl,.inl ⟨rfl,_,SqL.of gp6⟩,?_⟩
  refine ⟨_,rfl,_,rfl,_,rfl,_,_,rfl,rfl,_,_,rfl,rfl,(by show (0:Int)<8;decide),_,_,rfl,rfl,N,_,_,.str ns[3+(st+i) % 8],rfl,rfl,SqL.of hN6,?_,_,rfl,(by show 2≤sizeLine;decide),fun t H7 ft s7 g7=>?_⟩
  ·have e8:(3:Int)+((st:Int)+(0+(i:Int))) % 8=((3+(st+i) % 8:Nat):Int):=by lia
   show atI (ns.map V.str) ((3:Int)+((st:Int)+(0+(i:Int))) % 8)=_
   rw [e8]
   exact cF (by rw [List.getElem?_map,List.getElem?_eq_getElem hix];rfl)
  refine ⟨p,_,_,rfl,rfl,s7 _ _ gp6,fP (by lia),?_⟩
  have ntp:t≠p:=(bD gp6 ft).symm
  refine ⟨(f6'.sm s7).upd fp0 npa,us++[.ref t],hd++[(ns[3+(st+i) % 8],kd)],_,_,aQ,by rw [List.length_append,hl];rfl,?_,fun j c h=>?_,rfl⟩
  ·refine (hu6.imp fun _ _ ⟨p',ep,hp⟩=>⟨p',ep,(s7.aK hp).dI (s7 _ _ gp6)⟩).app (.cons ⟨t,rfl,SqT.of (by rw [bH ntp];exact g7)⟩ .nil)
  ·by_cases hj:j<hd.length
   ·rw [List.getElem?_append_left hj] at h
    exact hc j c h
   ·rw [List.getElem?_append_right (by lia)] at h
    have hj0:j - hd.length=0:=by
     by_cases z0:j - hd.length=0
     ·exact z0
     ·rw [List.getElem?_eq_none (by simp;lia)] at h;cases h
    rw [hj0] at h
    cases h
    have:j=i:=by lia
    subst this
    exact ⟨List.getElem?_eq_getElem hix,hkd⟩
 ·rintro σ H' ⟨fx,us,hd,l4,l5,gp,hl,hu,hc,rfl⟩
  refine ⟨_,rfl,p,us,rfl,SqL.of gp,fun t H5 _ s5 g5=>q _ _ hd (fx.sm s5) ⟨t,us,rfl,SqT.of g5,hu.imp fun _ _ h=>h.same s5⟩ ⟨⟨aRm hn (by lia) fun j c h=>(hc j c h).1,by lia,by lia⟩,fun c hcm=>?_⟩ (by lia)⟩
  obtain ⟨j,hj,e⟩:=List.getElem_of_mem hcm
  have h2:=hc j c (by rw [List.getElem?_eq_getElem hj,e])
  exact ⟨hn.2.1 _ (List.mem_of_getElem? h2.1),h2.2⟩
def TK (K:PySem.W.Frag) (H H':Hp):Prop:=∀p xs,SqT K H p xs→SqT K H' p xs
theorem _root_.L2.Fx.tk {K:PySem.W.Frag} {a:Addr} {H H':Hp} (f:Fx a H H') (h:lO H a):TK K H H':=fun _ _ e=>f.aK h e
theorem IsC.tk {K:PySem.W.Frag} {H H':Hp} {v:V} {c:Str × Str} (e:TK K H H') (h:IsC K H v c):IsC K H' v c:=by
 obtain ⟨p,rfl,hp⟩:=h
 exact ⟨p,rfl,e _ _ hp⟩
theorem aNh {α:Type} {K:PySem.W.Frag} {H H':Hp} {R S:V→α→Prop} {v:V} {xs:List α} (e:TK K H H') (k:∀a b,R a b→S a b) (h:vQ K H R v xs):vQ K H' S v xs:=by
 obtain ⟨a,vs,rfl,ha,hr⟩:=h
 exact ⟨a,vs,rfl,e _ _ ha,hr.imp k⟩
theorem eG.tk {K:PySem.W.Frag} {H H':Hp} {v:V} {hd:Hdr} (e:TK K H H') (h:eG K H v hd):eG K H' v hd:=aNh e (fun _ _ q=>q.tk e) h
theorem aQo {K:PySem.W.Frag} {H:Hp} {x:V} (h:aJm x=true):Th K H x:=by
 cases x with
 |int i=>exact .inr (.inl ⟨i,rfl⟩)
 |str z=>
  have h:(false || sO 0 (.str z))=true:=h
  rw [Bool.false_or] at h
  obtain ⟨y,e,_,h8,_⟩:=aAy h
  cases e
  exact pJ h8
 |_=>cases h
theorem IsO.tk {K:PySem.W.Frag} {H H':Hp} {v:V} {o:Oth} (e:TK K H H') (h:IsO K H v o):IsO K H' v o:=by
 cases o with
 |val x=>obtain ⟨a,rfl,ha,hx,hv⟩:=h;exact ⟨a,rfl,e _ _ ha,aQo hv,hv⟩
 |col d=>obtain ⟨a,rfl,ha,hd⟩:=h;exact ⟨a,rfl,e _ _ ha,hd⟩
theorem IsT.tk {K:PySem.W.Frag} {H H':Hp} {v:V} {t:Tst} (e:TK K H H') (h:IsT K H v t):IsT K H' v t:=by
 obtain ⟨a,w,rfl,ha,h1,h2,h3⟩:=h
 exact ⟨a,w,rfl,e _ _ ha,h1,h2,h3.tk e⟩
theorem jW.tk {K:PySem.W.Frag} {H H':Hp} {v:V} {t:Str × Str} (e:TK K H H') (h:jW K H v t):jW K H' v t:=by
 obtain ⟨a,rfl,ha,h1⟩:=h
 exact ⟨a,rfl,e _ _ ha,h1⟩
theorem nW.tk {K:PySem.W.Frag} {H H':Hp} {v:V} {t:Str × Str} (e:TK K H H') (h:nW K H v t):nW K H' v t:=by
 obtain ⟨a,rfl,ha,h1⟩:=h
 exact ⟨a,rfl,e _ _ ha,h1⟩
theorem lV.tk {K:PySem.W.Frag} {H H':Hp} {v:V} {t:Sm} (e:TK K H H') (h:lV K H v t):lV K H' v t:=by
 obtain ⟨a,rfl,hn,h1⟩:=h
 refine ⟨a,rfl,hn,?_⟩
 rcases h1 with ⟨x,y,z⟩|⟨c,x,y,z,u⟩
 ·exact .inl ⟨x,y,e _ _ z⟩
 ·exact .inr ⟨c,x,y,z,e _ _ u⟩
theorem gM.tk {α:Type} {S:PySem.W.Frag→Hp→V→α→Prop} {lo hi:Nat} {K:PySem.W.Frag} {H H':Hp} {v:V} {xs:List α} (e:TK K H H') (k:∀{v t},S K H v t→S K H' v t) (h:gM S lo hi K H v xs):gM S lo hi K H' v xs:=
 ⟨aNh e (fun _ _=>k) h.1,h.2⟩
theorem IsQ.tk {K:PySem.W.Frag} {H H':Hp} {v:V} {q:Qn} (e:TK K H H') (h:IsQ K H v q):IsQ K H' v q:=by
 induction h with
 |table a b=>exact .table (e _ _ a) b
 |whr a _ c ih=>exact .whr (e _ _ a) ih (c.tk e fun h=>h.tk e)
 |keep a _ c ih=>exact .keep (e _ _ a) ih (c.tk e fun h=>h)
 |nmd a _ c ih=>exact .nmd (e _ _ a) ih (c.tk e fun h=>h)
 |join a _ _ c ih1 ih2=>exact .join (e _ _ a) ih1 ih2 (c.tk e fun h=>h.tk e)
 |group a _ c d ih=>exact .group (e _ _ a) ih (c.tk e fun h=>h) (d.tk e fun h=>h.tk e)
 |first a _ c d ih=>exact .first (e _ _ a) ih (c.tk e fun h=>h.tk e) d
theorem aL1 {k:Str} {x:V} (h:aBj k x):aJm x=true∧kindS x=k:=by
 cases h with
 |num=>exact ⟨rfl,rfl⟩
 |@wrd y hx hl=>
  refine ⟨?_,rfl⟩
  show (false || (decide (0≤y.length) && (decide (y.length≤8) && allIn y)))=true
  rw [decide_eq_true (Nat.zero_le _),decide_eq_true hl,allIn_of hx]
  rfl
def kp (hd:Hdr) (k:Str) (i:Nat):Bool:=match hd[i]? with
 |some c=>decide (c.2=k)
 |none=>false
abbrev sgs:Str:="=<>!"
theorem aWn:∀j:_root_.Fin 4,∃c,sgs.cps[j.val]?=some c∧((⟨#[c]⟩:Str) = "="∨(⟨#[c]⟩:Str) = "<"∨(⟨#[c]⟩:Str) = ">"∨(⟨#[c]⟩:Str) = "!"):=by
 intro j
 match j with
 |⟨0,_⟩=>exact ⟨61,(by show sgs.cps[0]?=some 61;decide +kernel),.inl (by decide +kernel)⟩
 |⟨1,_⟩=>exact ⟨60,(by show sgs.cps[1]?=some 60;decide +kernel),.inr (.inl (by decide +kernel))⟩
 |⟨2,_⟩=>exact ⟨62,(by show sgs.cps[2]?=some 62;decide +kernel),.inr (.inr (.inl (by decide +kernel)))⟩
 |⟨3,_⟩=>exact ⟨33,(by show sgs.cps[3]?=some 33;decide +kernel),.inr (.inr (.inr (by decide +kernel)))⟩
 |⟨n+4,h⟩=>exact absurd h (by lia)
def zN (K:PySem.W.Frag):Sp:=fun vs H Q _=>∃(a:Addr) (vh:V) (hd:Hdr),vs=[.ref a,vh]∧lO H a∧eG K H vh hd∧uG hd∧∀v H' ts,Fx a H H'→gM IsT 1 3 K H' v ts→(∀t∈ts,dM hd t)→Q v H'
theorem aSk {R:Nat→V→Prop} {is:List Nat} {ys:List V} (h:mF R is ys):∀y∈ys,∃i∈is,R i y:=by
 induction h with
 |nil=>intro y hy;cases hy
 |cons r _ ih=>
  intro z hz
  rcases List.mem_cons.mp hz with rfl|hz
  ·exact ⟨_,List.mem_cons_self ..,r⟩
  ·obtain ⟨i,hi,q⟩:=ih z hz
   exact ⟨i,List.mem_cons_of_mem _ hi,q⟩
theorem aG9 {p:Nat→Bool}:∀{k n:Nat} {i:Nat},i∈sel p k (List.range' k n)→p i=true∧k≤i∧i<k+n
 |k,0,i,h=>by cases h
 |k,n+1,i,h=>by
  rw [List.range'_succ] at h
  have h:i∈(if p k then k::sel p (k+1) (List.range' (k+1) n) else sel p (k+1) (List.range' (k+1) n)):=h
  split at h
  ·rcases List.mem_cons.mp h with rfl|h
   ·exact ⟨by assumption,by lia,by lia⟩
   ·obtain ⟨a,b,c⟩:=aG9 h;exact ⟨a,by lia,by lia⟩
  ·obtain ⟨a,b,c⟩:=aG9 h;exact ⟨a,by lia,by lia⟩
theorem aNs {p:Nat→Bool}:∀{k n:Nat} {i:Nat},p i=true→k≤i→i<k+n→i∈sel p k (List.range' k n)
 |k,0,i,_,_,_=>by lia
 |k,n+1,i,h,h1,h2=>by
  rw [List.range'_succ]
  show i∈(if p k then k::sel p (k+1) (List.range' (k+1) n) else sel p (k+1) (List.range' (k+1) n))
  by_cases e:i=k
  ·subst e
   rw [if_pos h]
   exact List.mem_cons_self ..
  ·have:=aNs (k:=k+1) (n:=n) h (by lia) (by lia)
   split
   ·exact List.mem_cons_of_mem _ this
   ·exact this
theorem aCw (T:Txt w K mg) (aN:Ok P w K mg base 1 "_law_next" ["_law_state","_law_many"] gR) (aGh:Ok P w K mg base 3 "_law_value" ["_law_state","_law_kind"] aNf):Ok P w K mg base 4 "_law_tests" ["_law_state","_law_head_here"] (zN K):=by
 refine Ok.ofV T.aHg dO (fun vs H Q E h=>?_) (fun f cdv A outer s H vs Q E hr h=>?_)
 ·obtain ⟨a,vh,hd,rfl,_⟩:=h;rfl
 obtain ⟨a,vh,hd,rfl,hs,⟨b,us,rfl,hb,hu⟩,⟨⟨nd,l1,l8⟩,hc⟩,q⟩:=h
 refine ⟨_,(aC (aV (i:=2) dO.nd rfl (by trivial) (cO aA)) (aC (jD PassesOwn.never rfl (fU (by rfl) T.lG (aB (bW fG aD (aJ (aN.mono (by decide)) hr (by rfl) (aB (vv 0) (aB aD aA)))) aA)) (aL (i:=3) dO.nd rfl (by trivial)) (aC (rF (aH aR (vv 1) (aJ (aN.mono (by decide)) hr (by rfl) (aB (vv 0) (aB (aW aX (by rfl) T.dB cH (aB (vv 1) aA)) aA))) (fun _ _=>rfl)) (mG rfl (bB (aL (i:=4) dO.nd rfl (by trivial)) (bB (aL (i:=5) dO.nd rfl (by trivial)) cW)))) (aC (aV (i:=6) dO.nd rfl (by trivial) (aY (aB aO (aB (aJ (aGh.mono (by decide)) hr (by rfl) (aB (vv 0) (aB (vv 5) aA))) aA)))) (aC (iR (i0:=7) dO.nd rfl (by trivial) (N:=["_law_column","_law_sort","_law_kind"]) (by trivial) (cV (aG mK) rfl (by decide +kernel)) rfl (eO (vv 1)) (fun cl s' H' fp=>⟨(jQ (K:=K) (n:=2) rfl (bB (aL (i:=0) (show (["_law_column","_law_sort","_law_kind"]:List Str).Nodup from by decide +kernel) rfl (Or.inl rfl)) (bB (aL (i:=1) (show (["_law_column","_law_sort","_law_kind"]:List Str).Nodup from by decide +kernel) rfl (Or.inl rfl)) cW))),(pZ (aU cG (vv 1) (vv 2) (aZ _))),(vv 0)⟩)) (aC (bR (aU cG (aJ (aN.mono (by decide)) hr (by rfl) (aB (vv 0) (aB aD aA))) aD (aZ _)) (aF (aV (i:=6) dO.nd rfl (by trivial) (aY (aB aO (aB (aH bN (vv 7) (aJ (aN.mono (by decide)) hr (by rfl) (aB (vv 0) (aB (aW aX (by rfl) T.dB cH (aB (vv 7) aA)) aA))) (fun _ _=>rfl)) aA))))) bA) (aF (eF (uN PySem.F.plainAttrs_list PySem.F.slot_list_append PySem.F.type_list_append jZ (vv 2) (aB (aY (aB (vv 4) (aB (oV aO (aJ (aN.mono (by decide)) hr (by rfl) (aB (vv 0) (aB aD aA))) (fun _ _=>rfl)) (aB (vv 6) aA)))) aA))))))))) (aF (aM (bF bU (by rfl) T.cP cA (aB (vv 2) aA)))))),?_⟩
 have lu:=hu.len
 refine ⟨(by show 0≤sizeLine;decide),fun p H1 fp s1 g1=>?_⟩
 have f1:=Fx.of hs s1
 have npa:p≠a:=hs.ne fp
 refine ⟨_,rfl,a,3,rfl,f1.st,by decide,fun m H2 f2 m0 m1=>?_⟩
 have f2':=f1.trans f2
 have g2:=f2.same _ _ npa g1
 refine ⟨_,_,rfl,rfl,_,rfl,(by show -(2 ^ 62)≤1+m;lia),(by show 1+m<2 ^ 62;lia),?_⟩
 refine lA (n:=(1+m).toNat) (fun i σ H'=>Fx a H H'∧∃(ws:List V) (ts:List Tst) (l3 l4 l5 l6 l7:Option V),H' p=some (.lst ws)∧ts.length=i∧bL (IsT K H') ws ts∧(∀t∈ts,dM hd t)∧σ=[some (.ref a),some (.ref b),some (.ref p),l3,l4,l5,l6,l7]) ⟨f2',[],[],_,_,_,_,_,g2,rfl,.nil,(fun t h=>by cases h),rfl⟩ ?_ ?_
 ·rintro i σ H' hi ⟨fx,ws,ts,l3,l4,l5,l6,l7,gp,hl,hw,hts,rfl⟩
  have lw:=hw.len
  have tk0:TK K H H':=fx.tk hs
  refine ⟨_,rfl,_,rfl,_,rfl,_,_,rfl,.inr (tk0 _ _ hb),a,_,rfl,fx.st,(by show (0:Int)<(us.length:Int)∧(us.length:Int)<2 ^ 64;lia),fun d H3 f3 d0 d1=>?_⟩
  obtain ⟨u,hat,hmem⟩:=at_of (xs:=us) d0 d1
  obtain ⟨c,hcm,pc,rfl,hpc⟩:=hu.mem hmem
  obtain ⟨hcn,hck⟩:=hc c hcm
  have fl3:=f3
  have fx3:=fx.trans f3
  have tk3:TK K H H3:=fx3.tk hs
  refine ⟨b,_,_,_,rfl,rfl,tk3 _ _ hb,hat,pc,_,rfl,tk3 _ _ hpc,rfl,_,_,rfl,_,_,rfl,rfl,?_⟩
  refine ⟨_,rfl,_,rfl,a,c.2,rfl,fx3.st,hck,fun v H4 f4 hv=>?_⟩
  refine ⟨(by show 2≤sizeLine;decide),fun t1 H5 ft1 s5 g5=>?_⟩
  have fl5:=(f3.trans f4).sm s5
  have fx5:=(fx3.trans f4).sm s5
  have tk5:TK K H H5:=fx5.tk hs
  have hO1:IsO K H5 (.ref t1) (.val v):=⟨t1,rfl,SqT.of g5,aQo (aL1 hv).1,(aL1 hv).1⟩
  have hT1:aTd hd (.val v)=some c.2:=by
   show some (kindS v)=some c.2
   rw [(aL1 hv).2]
  have gp5:=s5 _ _ (f4.same _ _ npa (f3.same _ _ npa gp))
  dsimp only [gY,iU,bO]
  refine wF [none,none,some (.str c.2)] ?_ ⟨_,rfl,b,rfl,⟨_,tk5 _ _ hb⟩,yG Same (oW H5) us (kp hd c.2) (fun i _ y=>∃c',hd[i]?=some c'∧y=.str c'.1) (fun _ _ h=>h) (fun _ _ _ h=>h) (fun i σ=>∃c',hd[i]?=some c'∧At2 [none,none,some (.str c.2)] (.str c'.1) (.str c'.2) σ) (Ps2 [none,none,some (.str c.2)]) ⟨none,none,rfl⟩ (small (by lia)) _ (aB0 fun H' s'=>s'.aK (tk5 _ _ hb)) (sS fun H' s'=>s'.aK (tk5 _ _ hb)) (fun i x σ' H' Q' ex hps s' qq=>?_) (fun i x σ2 ex hA H' R s' r=>?_) (fun i x σ2 ex hA hp H' R s' r=>?_) fun D H6 ys s6 fD g6 hys=>?_⟩
  ·refine ⟨rfl,fun i y v h1 h2=>?_⟩
   match i,h1,h2 with
   |0,_,h2=>cases h2
   |1,_,h2=>cases h2
   |2,h1,h2=>cases h1;cases h2;exact ⟨by decide +kernel,5,rfl,rfl,by trivial⟩
   |i+3,h1,_=>cases h1
  ·obtain ⟨c',hc',p',rfl,hp'⟩:=bJ hu ex
   exact hg2 (s'.aK (tk5 _ _ hp')) hps fun σ2 h1 h2=>qq σ2 h1 ⟨c',hc',h2⟩
  ·obtain ⟨c',hc',rfl⟩:=hA
   refine ⟨_,rfl,_,rfl,rfl,_,rfl,?_⟩
   have e:kp hd c.2 i=decide (V.str c'.2=V.str c.2):=by
    unfold kp
    rw [hc']
    exact decide_eq_decide.mpr ⟨fun z=>congrArg V.str z,fun z=>V.str.inj z⟩
   rw [←e]
   exact r H' (Same.refl H')
  ·obtain ⟨c',hc',rfl⟩:=hA
   exact ⟨_,rfl,r _ _ (Same.refl H') ⟨c',hc',rfl⟩⟩
  have fl6:=fl5.sm s6
  have fx6:=fx5.sm s6
  have tk6:TK K H H6:=fx6.tk hs
  have nDa:D≠a:=fx5.st.ne fD
  obtain ⟨j0,hj0,ej0⟩:=List.getElem_of_mem hcm
  have hne:0<ys.length:=by
   have hin:j0∈sel (kp hd c.2) 0 (List.range us.length):=by
    rw [List.range_eq_range']
    refine aNs ?_ (Nat.zero_le _) (by lia)
    unfold kp
    rw [List.getElem?_eq_getElem hj0,ej0]
    exact decide_eq_true rfl
   rw [←hys.len]
   exact List.length_pos_of_mem hin
  have hyk:∀y∈ys,∃c'∈hd,y=.str c'.1∧c'.2=c.2:=fun y hy=>by
   obtain ⟨i,hi,c',hc',rfl⟩:=aSk hys y hy
   rw [List.range_eq_range'] at hi
   have hp:=(aG9 hi).1
   unfold kp at hp
   rw [hc'] at hp
   exact ⟨c',List.mem_of_getElem? hc',rfl,of_decide_eq_true hp⟩
  have lys:ys.length≤8:=by
   have:=uD (kp hd c.2) 0 (List.range us.length)
   rw [List.length_range,hys.len] at this
   lia
  have lcc:look hd c.1=some c.2:=jH nd hcm
  refine ⟨_,rfl,a,3,rfl,fx6.st,by decide,fun d3 H7 f7 _ _=>⟨rfl,_,rfl,?_⟩⟩
  have fl7:=fl6.trans f7
  have fx7:=fx6.trans f7
  have gp7:=f7.same _ _ npa (s6 _ _ gp5)
  have gD7:=f7.same _ _ nDa g6
  refine lU (fun _=>?_) (fun _=>?_)
  ·refine ⟨_,rfl,_,rfl,_,rfl,D,_,rfl,.inl (SqL.of gD7),a,_,rfl,fx7.st,(by show (0:Int)<(ys.length:Int)∧(ys.length:Int)<2 ^ 64;lia),fun d8 H8 f8 d80 d81=>?_⟩
   obtain ⟨y,hy,my⟩:=at_of (xs:=ys) d80 d81
   obtain ⟨c',hcm',rfl,hck'⟩:=hyk y my
   refine ⟨D,_,_,_,rfl,rfl,SqL.of (f8.same _ _ nDa gD7),hy,(by show 2≤sizeLine;decide),fun t2 H9 ft2 s9 g9=>?_⟩
   have fl9:=(fl7.trans f8).sm s9
   have fx9:=(fx7.trans f8).sm s9
   have hO2:IsO K H9 (.ref t2) (.col c'.1):=⟨t2,rfl,SqT.of g9,(hc c' hcm').1⟩
   have hT2:aTd hd (.col c'.1)=some c.2:=by
    show look hd c'.1=some c.2
    rw [jH nd hcm',hck']
   have gp9:=s9 _ _ (f8.same _ _ npa gp7)
   refine ⟨_,rfl,.inl ⟨rfl,_,SqL.of gp9⟩,_,rfl,_,rfl,a,4,rfl,fl9.st,by decide,fun dz Hz fz dz0 dz1=>?_⟩
   obtain ⟨ch,hch,hsg⟩:=aWn ⟨dz.toNat,by lia⟩
   have sl:sgs.length=4:=by decide +kernel
   refine ⟨_,_,_,rfl,rfl,dz0,(by lia),(by rw [sl];exact dz1),hch,_,rfl,(by show 3≤sizeLine;decide),fun tz Hy ftz sy gy=>?_⟩
   have flz:=(fl9.trans fz).sm sy
   have gpy:=sy _ _ (fz.same _ _ npa gp9)
   have ntp:tz≠p:=(bD (fz.same _ _ npa gp9) ftz).symm
   have tku:∀zs,TK K Hy (upd Hy p (.lst zs)):=fun zs _ _ e=>e.dI gpy
   have hOy:=(hO2.tk (fun _ _ e=>sy.aK (fz.aK fl9.st e))).tk (tku (ws++[.ref tz]))
   refine ⟨p,_,_,rfl,rfl,gpy,fP (by lia),?_⟩
   refine ⟨(fx.trans flz).upd fp npa,ws++[.ref tz],ts++[⟨c.1,⟨#[ch]⟩,(.col c'.1)⟩],_,_,_,_,_,aQ,by rw [List.length_append,hl];rfl,(hw.imp fun _ _ h=>(h.tk (flz.tk fx.st)).tk (tku _)).app (.cons (b:=(⟨c.1,⟨#[ch]⟩,.col c'.1⟩:Tst)) ⟨tz,_,rfl,SqT.of (by rw [bH ntp];exact gy),hcn,hsg,hOy⟩ .nil),fun t ht=>?_,rfl⟩
   rcases List.mem_append.mp ht with ht|ht
   ·exact hts t ht
   ·rw [List.mem_singleton.mp ht]
    exact ⟨c.2,lcc,hT2⟩
  ·have hO3:IsO K H7 (.ref t1) (.val v):=hO1.tk fun _ _ e=>f7.aK fx6.st (s6.aK e)
   refine ⟨_,rfl,.inl ⟨rfl,_,SqL.of gp7⟩,_,rfl,_,rfl,a,4,rfl,fl7.st,by decide,fun dz Hz fz dz0 dz1=>?_⟩
   obtain ⟨ch,hch,hsg⟩:=aWn ⟨dz.toNat,by lia⟩
   have sl:sgs.length=4:=by decide +kernel
   refine ⟨_,_,_,rfl,rfl,dz0,(by lia),(by rw [sl];exact dz1),hch,_,rfl,(by show 3≤sizeLine;decide),fun tz Hy ftz sy gy=>?_⟩
   have flz:=(fl7.trans fz).sm sy
   have gpy:=sy _ _ (fz.same _ _ npa gp7)
   have ntp:tz≠p:=(bD (fz.same _ _ npa gp7) ftz).symm
   have tku:∀zs,TK K Hy (upd Hy p (.lst zs)):=fun zs _ _ e=>e.dI gpy
   have hOy:=(hO3.tk (fun _ _ e=>sy.aK (fz.aK fl7.st e))).tk (tku (ws++[.ref tz]))
   refine ⟨p,_,_,rfl,rfl,gpy,fP (by lia),?_⟩
   refine ⟨(fx.trans flz).upd fp npa,ws++[.ref tz],ts++[⟨c.1,⟨#[ch]⟩,(.val v)⟩],_,_,_,_,_,aQ,by rw [List.length_append,hl];rfl,(hw.imp fun _ _ h=>(h.tk (flz.tk fx.st)).tk (tku _)).app (.cons (b:=(⟨c.1,⟨#[ch]⟩,.val v⟩:Tst)) ⟨tz,_,rfl,SqT.of (by rw [bH ntp];exact gy),hcn,hsg,hOy⟩ .nil),fun t ht=>?_,rfl⟩
   rcases List.mem_append.mp ht with ht|ht
   ·exact hts t ht
   ·rw [List.mem_singleton.mp ht]
    exact ⟨c.2,lcc,hT1⟩
 ·rintro σ H' ⟨fx,ws,ts,l3,l4,l5,l6,l7,gp,hl,hw,hts,rfl⟩
  exact ⟨_,rfl,p,ws,rfl,SqL.of gp,fun t H5 _ s5 g5=>q _ _ ts (fx.sm s5) ⟨⟨t,ws,rfl,SqT.of g5,hw.imp fun _ _ h=>h.same s5⟩,by lia,by lia⟩ hts⟩
theorem aRb {α:Type} (l:List α):∀n,(List.range n).filterMap (fun i=>l[i]?)=l.take n
 |0=>by simp
 |n+1=>by
  rw [List.range_succ,List.filterMap_append,aRb l n,List.take_add_one]
  cases e:l[n]? with
  |none=>simp [e]
  |some x=>simp [e]
theorem aPf {H:Hp} {us:List V} {hd:Hdr} (hu:bL (IsC K H) us hd) {is:List Nat} {ys:List V} (h:mF (fun i y=>us[i]?=some y) is ys):bL (IsC K H) ys (is.filterMap fun i=>hd[i]?):=by
 induction h with
 |nil=>exact .nil
 |@cons i y is ys r _ ih=>
  obtain ⟨c,hc,q⟩:=bJ hu r
  rw [List.filterMap_cons,hc]
  exact .cons q ih
theorem aQv {α β:Type} {R:α→β→Prop} {as:List α} {bs:List β} (h:bL R as bs):bL R as.reverse bs.reverse:=by
 induction h with
 |nil=>exact .nil
 |cons r _ ih=>
  rw [List.reverse_cons,List.reverse_cons]
  exact ih.app (.cons r .nil)
theorem zL {α β:Type} {R:α→β→Prop} {as:List α} {bs:List β} (h:bL R as bs):∀n,bL R (as.take n) (bs.take n):=by
 induction h with
 |nil=>intro n;rw [List.take_nil,List.take_nil];exact .nil
 |cons r _ ih=>
  intro n
  cases n with
  |zero=>exact .nil
  |succ n=>exact .cons r (ih n)
def aC9 (hd' hd:Hdr):Prop:=(∀c∈hd',c∈hd)∧(hd'.map (·.1)).Nodup∧hd'.length≤hd.length
theorem aTe {hd' hd:Hdr} (h:hd'.Sublist hd) (nd:(hd.map (·.1)).Nodup):aC9 hd' hd:=⟨fun c hc=>h.subset hc,nd.sublist (h.map _),h.length_le⟩
theorem aC9.rev {hd' hd:Hdr} (h:aC9 hd' hd):aC9 hd'.reverse hd:=⟨fun c hc=>h.1 c (List.mem_reverse.mp hc),by
 rw [List.map_reverse];exact List.pairwise_reverse.mpr (h.2.1.imp fun q=>Ne.symm q),by rw [List.length_reverse];exact h.2.2⟩
theorem aC9.take {hd' hd:Hdr} (h:aC9 hd' hd) (n:Nat):aC9 (hd'.take n) hd:=⟨fun c hc=>h.1 c (List.mem_of_mem_take hc),h.2.1.sublist ((List.take_sublist n hd').map _),by have:=h.2.2;rw [List.length_take];lia⟩
def aAv (K:PySem.W.Frag):Sp:=fun vs H Q _=>∃(a:Addr) (vh:V) (hd:Hdr) (n:Nat),vs=[.ref a,vh,.int (n:Nat)]∧lO H a∧eG K H vh hd∧Good hd∧n≤1 ∧
 ∀D H' us hd',Fx a H H'→H D=none→H' D=some (.lst us)→bL (IsC K H') us hd'→aC9 hd' hd→n≤hd'.length→Q (.ref D) H'
theorem aGf (T:Txt w K mg) (aN:Ok P w K mg base 1 "_law_next" ["_law_state","_law_many"] gR):Ok P w K mg base 2 "_law_some" ["_law_state","_law_head_here","_law_least"] (aAv K):=by
 refine Ok.ofV T.aJx qU (fun vs H Q E h=>?_) (fun f cdv A outer s H vs Q E hr h=>?_)
 ·obtain ⟨a,vh,hd,n,rfl,_⟩:=h;rfl
 obtain ⟨a,vh,hd,n,rfl,hs,⟨b,us,rfl,hb,hu⟩,⟨nd,l1,l8⟩,hn,q⟩:=h
 refine ⟨_,(aC (iR (i0:=3) qU.nd rfl (by trivial) (N:=["_law_column","_law_state"]) (by trivial) (cV (aG oR) rfl (by decide +kernel)) rfl (eO (vv 1)) (fun cl s' H' fp=>⟨(aL (i:=0) (show (["_law_column","_law_state"]:List Str).Nodup from by decide +kernel) rfl (Or.inl rfl)),(pZ (aU cG (aJ (aN.mono (by decide)) hr (by rfl) (aB (vv 1) (aB aD aA))) aD (aZ _))),(vv 0)⟩)) (aC (bR (aU aR2 (aW aX (by rfl) T.dB cH (aB (vv 3) aA)) (vv 2) (aZ _)) (aF (aV (i:=3) qU.nd rfl (by trivial) (cO (aB (aH aR (vv 1) (aJ (aN.mono (by decide)) hr (by rfl) (aB (vv 0) (aB (aW aX (by rfl) T.dB cH (aB (vv 1) aA)) aA))) (fun _ _=>rfl)) aA)))) bA) (aC (bR (aU cG (aJ (aN.mono (by decide)) hr (by rfl) (aB (vv 0) (aB aD aA))) aD (aZ _)) (aF (eF (aLk PySem.F.plainAttrs_list PySem.F.slot_list_reverse PySem.F.type_list_reverse zV (vv 3)))) bA) (aF (aM (vv 3)))))),?_⟩
 have lu:=hu.len
 have fin:∀D H' zs hd',Fx a H H'→H D=none→H' D=some (.lst zs)→bL (IsC K H') zs hd'→aC9 hd' hd→n≤hd'.length→∀H2,Fx a H' H2→Q (.ref D) H2∧Q (.ref D) (upd H2 D (.lst zs.reverse)):=by
  intro D H' zs hd' fx hD gD hz hsub hle H2 f2
  have nDa:D≠a:=hs.ne hD
  have g2:=f2.same _ _ nDa gD
  have hz2:bL (IsC K H2) zs hd':=hz.imp fun _ _ h=>h.tk (f2.tk fx.st)
  refine ⟨q D H2 zs hd' (fx.trans f2) hD g2 hz2 hsub hle,q D _ zs.reverse hd'.reverse ((fx.trans f2).upd hD nDa) hD aQ ?_ hsub.rev (by rw [List.length_reverse];exact hle)⟩
  exact aQv (hz2.imp fun _ _ h=>h.tk fun _ _ e=>e.dI g2)
 dsimp only [gY,iU]
 refine wF [none,some (.ref a)] ?_ ⟨_,rfl,b,rfl,⟨_,hb⟩,aZo (Fx a) (aWp hs) us (fun i _ y=>us[i]?=some y) (fun _ _ h=>h) (fun _ _ _ h=>h) (fun i σ=>∃x,us[i]?=some x∧At1 [none,some (.ref a)] x σ) (Ps1 [none,some (.ref a)]) ⟨none,rfl⟩ (small (by lia)) _ (aB0 fun H' f'=>f'.aK hs hb) (sS fun H' f'=>f'.aK hs hb) (fun i x σ' H' Q' ex hps s' qq=>hg1 (i:=i) hps fun σ2 h1 h2=>qq σ2 h1 ⟨x,ex,h2⟩) (fun i x σ2 ex hA H' R s' r=>?_) (fun i x σ2 ex hA H' R s' r=>?_) fun D H1 ys f1 fD g1 hys=>?_⟩
 ·exact cX 0 (by decide +kernel) rfl rfl (by trivial)
 ·obtain ⟨x',_,l,rfl⟩:=hA
  exact ⟨_,rfl,a,2,rfl,s'.st,by decide,fun d H2 f2 _ _=>⟨rfl,_,rfl,r _ _ f2⟩⟩
 ·obtain ⟨x',hx',l,rfl⟩:=hA
  rw [ex] at hx'
  cases hx'
  exact ⟨_,rfl,r _ _ (.refl s'.st) ex⟩
 obtain ⟨is,hsub,hys⟩:=hys
 have hu1:bL (IsC K H1) us hd:=hu.imp fun _ _ h=>h.tk (f1.tk hs)
 have hcol:=aPf hu1 hys
 have hsubH:aC9 (is.filterMap fun i=>hd[i]?) hd:=by
  refine aTe ?_ nd
  have:=hsub.filterMap (fun i=>hd[i]?)
  rw [aRb,lu,List.take_length] at this
  exact this
 have lcol:=hcol.len
 dsimp only [bO]
 refine ⟨_,rfl,D,_,rfl,.inl (SqL.of g1),_,rfl,_,_,rfl,rfl,_,rfl,lU (fun c=>?_) (fun c=>?_)⟩
 ·refine ⟨_,rfl,_,rfl,_,rfl,_,_,rfl,.inr (f1.aK hs hb),a,_,rfl,f1.st,(by show (0:Int)<(us.length:Int)∧(us.length:Int)<2 ^ 64;lia),fun d H2 f2 d0 d1=>?_⟩
  obtain ⟨u,hat,hm⟩:=at_of (xs:=us) d0 d1
  obtain ⟨cc,hcm,hcc⟩:=hu.mem hm
  have fx2:=f1.trans f2
  refine ⟨b,_,_,u,rfl,rfl,fx2.aK hs hb,hat,(by show 1≤sizeLine;decide),fun p H3 fp s3 g3=>?_⟩
  have fx3:=fx2.sm s3
  have fp0:H p=none:=fx2.free fp
  have key:=fin p H3 [u] [cc] fx3 fp0 g3 (.cons (hcc.tk (fx3.tk hs)) .nil) ⟨fun c' hc'=>by rw [List.mem_singleton.mp hc'];exact hcm,by simp,by show 1≤hd.length;exact l1⟩ (by show n≤1;exact hn)
  refine ⟨_,rfl,a,2,rfl,fx3.st,by decide,fun e H4 f4 _ _=>⟨rfl,_,rfl,?_⟩⟩
  refine lU (fun _=>?_) (fun _=>⟨_,rfl,(key H4 f4).1⟩)
  have g4:=f4.same _ _ (hs.ne fp0) g3
  exact ⟨_,rfl,.inl ⟨rfl,_,SqL.of g4⟩,p,_,rfl,rfl,g4,_,rfl,(key H4 f4).2⟩
 ·have c':¬ (ys.length:Int)<(n:Int):=of_decide_eq_false (Bool.eq_false_iff.mpr c)
  have key:=fin D H1 ys _ f1 fD g1 hcol hsubH (by lia)
  refine ⟨_,rfl,a,2,rfl,f1.st,by decide,fun e H4 f4 _ _=>⟨rfl,_,rfl,?_⟩⟩
  refine lU (fun _=>?_) (fun _=>⟨_,rfl,(key H4 f4).1⟩)
  have g4:=f4.same _ _ (hs.ne fD) g1
  exact ⟨_,rfl,.inl ⟨rfl,_,SqL.of g4⟩,D,_,rfl,rfl,g4,_,rfl,(key H4 f4).2⟩
theorem aBr {hd hd':Hdr} (nd:(hd.map (·.1)).Nodup) (h:∀c∈hd',c∈hd):Looks hd (hd'.map (·.1)) (hd'.map (·.2)):=by
 induction hd' with
 |nil=>exact .nil
 |cons c r ih=>exact .cons (jH nd (h c (List.mem_cons_self ..))) (ih fun x hx=>h x (List.mem_cons_of_mem _ hx))
def aJ0 (K:PySem.W.Frag):Sp:=fun vs H Q _=>∃(a:Addr) (vh:V) (hd:Hdr),vs=[.ref a,vh]∧lO H a∧eG K H vh hd∧uG hd∧∀v H' ps ks,Fx a H H'→gM nW 0 3 K H' v ps→Looks hd (ps.map (·.1)) ks→(ps.map (·.1)).Nodup→Q v H'
theorem pP {α:Type}:∀(k:Nat) (xs:List α),sel (fun _=>true) k xs=xs
 |_,[]=>rfl
 |k,x::r=>by
  show (if true=true then x::sel (fun _=>true) (k+1) r else _)=_
  rw [if_pos rfl,pP (k+1) r]
theorem nP {R:Nat→V→Prop} {n:Nat} {ys:List V} (h:mF R (List.range n) ys):ys.length=n∧∀(i:Nat) (y:V),ys[i]?=some y→R i y:=by
 have aux:∀{is:List Nat} {ys:List V},mF R is ys→∀(i:Nat) (y:V),ys[i]?=some y→∃j,is[i]?=some j∧R j y:=by
  intro is ys h
  induction h with
  |nil=>intro i y e;simp at e
  |cons r _ ih=>
   intro i y e
   cases i with
   |zero=>cases e;exact ⟨_,rfl,r⟩
   |succ i=>obtain ⟨j,h1,h2⟩:=ih i y (by simpa using e);exact ⟨j,by simpa using h1,h2⟩
 have l:=h.len
 rw [List.length_range] at l
 refine ⟨l.symm,fun i y e=>?_⟩
 obtain ⟨j,h1,h2⟩:=aux h i y e
 have hi:i<n:=by
  have:=(List.getElem?_eq_some_iff.mp e).1
  lia
 rw [List.getElem?_range hi] at h1
 cases h1
 exact h2
theorem aE3 (T:Txt w K mg) (aN:Ok P w K mg base 1 "_law_next" ["_law_state","_law_many"] gR) (lM:Ok P w K mg base 2 "_law_some" ["_law_state","_law_head_here","_law_least"] (aAv K)):Ok P w K mg base 3 "_law_keys" ["_law_state","_law_head_here"] (aJ0 K):=by
 refine Ok.ofV T.aKg wU (fun vs H Q E h=>?_) (fun f cdv A outer s H vs Q E hr h=>?_)
 ·obtain ⟨a,vh,hd,rfl,_⟩:=h;rfl
 obtain ⟨a,vh,hd,rfl,hs,hh,⟨hg,hc⟩,q⟩:=h
 refine ⟨_,(aC (aV (i:=2) wU.nd rfl (by trivial) (dW sZ (aJ (lM.mono (by decide)) hr (by rfl) (aB (vv 0) (aB (vv 1) (aB aD aA)))) gU (eX aD))) (aF (aM (bF bU (by rfl) T.cP cA (aB (bZ (N:=["_law_name","_law_kind","_law_state"]) (by trivial) (cV (aG oY) rfl (by decide +kernel)) rfl (eE (vv 2)) (fun cl s' H' fp=>⟨(jQ (K:=K) (n:=2) rfl (bB (aL (i:=0) (show (["_law_name","_law_kind","_law_state"]:List Str).Nodup from by decide +kernel) rfl (Or.inl rfl)) (bB (aL (i:=1) (show (["_law_name","_law_kind","_law_state"]:List Str).Nodup from by decide +kernel) rfl (Or.inl rfl)) cW))),cI,(aY (aB (vv 0) (aB (aH (wC (K:=K)) (cO (aB aO (aB aO aA))) (aJ (aN.mono (by decide)) hr (by rfl) (aB (vv 2) (aB aD aA))) (fun _ _=>rfl)) aA)))⟩)) aA))))),?_⟩
 refine ⟨_,rfl,_,rfl,a,vh,hd,0,rfl,hs,hh,hg,by decide,fun D H1 us hd' f1 fD g1 hu hsub _=>?_⟩
 refine ⟨_,rfl,D,_,rfl,SqL.of g1,fun p H2 fp s2 g2=>?_⟩
 rw [show (3:Int)=((3:Nat):Int) from rfl,tQ] at g2
 have fx2:=f1.sm s2
 have hu2:bL (IsC K H2) (us.take 3) (hd'.take 3):=zL (hu.imp fun _ _ h=>h.same s2) 3
 have hsub3:=hsub.take 3
 have fp0:H p=none:=f1.free fp
 have npa:p≠a:=hs.ne fp0
 generalize us.take 3=zs at g2 hu2
 have l3:(hd'.take 3).length≤3:=by rw [List.length_take];lia
 generalize hd'.take 3=hz at hu2 hsub3 l3
 have lz:=hu2.len
 dsimp only [bO,aDl,tCB,fK]
 refine rQ [none,none,some (.ref a)] ?_ ⟨_,rfl,p,rfl,⟨_,SqL.of g2⟩,yG (Fx a) (aWp fx2.st) zs (fun _=>true) (fun i H y=>∃c wy t,hz[i]?=some c∧y=.ref t∧SqT K H t [.str c.1,.str wy]∧(wy = "up"∨wy = "down")) (fun e1 e2 h=>?_) (fun _ _ e h=>?_) (fun i σ=>∃c,hz[i]?=some c∧At2 [none,none,some (.ref a)] (.str c.1) (.str c.2) σ) (Ps2 [none,none,some (.ref a)]) ⟨none,none,rfl⟩ (small (by lia)) _ (yE fun H' f'=>SqL.of (f'.same _ _ npa g2)) (pO fun H' f'=>SqL.of (f'.same _ _ npa g2)) (fun i x σ' H' Q' ex hps s' qq=>?_) (fun i x σ2 ex hA H' R s' r=>r _ (.refl s'.st)) (fun i x σ2 ex hA _ H' R s' r=>?_) fun D2 H3 ys f3 fD2 g3 hys=>?_⟩
 ·refine ⟨rfl,fun i y v h1 h2=>?_⟩
  match i,h1,h2 with
  |0,_,h2=>cases h2
  |1,_,h2=>cases h2
  |2,h1,h2=>cases h1;cases h2;exact ⟨by decide +kernel,0,rfl,rfl,by trivial⟩
  |i+3,h1,_=>cases h1
 ·obtain ⟨c,wy,t,h1,h2,h3,h4⟩:=h
  exact ⟨c,wy,t,h1,h2,e2.aK e1.st h3,h4⟩
 ·obtain ⟨c,wy,t,h1,h2,h3,h4⟩:=h
  exact ⟨c,wy,t,h1,h2,h3.dI e,h4⟩
 ·obtain ⟨c,hc',p',rfl,hp'⟩:=bJ hu2 ex
  exact hg2 (s'.aK fx2.st hp') hps fun σ2 h1 h2=>qq σ2 h1 ⟨c,hc',h2⟩
 ·obtain ⟨c,hc',rfl⟩:=hA
  refine ⟨_,rfl,(by show 2≤sizeLine;decide),fun l1 H4 fl1 s4 g4=>?_⟩
  refine ⟨_,rfl,a,2,rfl,s'.st.same s4,by decide,fun d H5 f5 d0 d1=>?_⟩
  obtain ⟨v,hv,mv⟩:=at_of (xs:=aIc) d0 (by show d<2;lia)
  obtain ⟨wy,rfl,hwy⟩:∃wy:Str,v=.str wy∧(wy = "up"∨wy = "down"):=by
   simp only [aIc,List.mem_cons,List.not_mem_nil,or_false] at mv
   rcases mv with rfl|rfl
   ·exact ⟨_,rfl,.inl rfl⟩
   ·exact ⟨_,rfl,.inr rfl⟩
  refine ⟨l1,_,_,_,rfl,rfl,SqL.of (f5.same _ _ (s'.st.ne fl1) g4),hv,(by show 2≤sizeLine;decide),fun t H6 _ s6 g6=>?_⟩
  exact r _ _ (((Fx.of s'.st s4).trans f5).sm s6) ⟨c,wy,t,hc',rfl,SqT.of g6,hwy⟩
 rw [pP] at hys
 obtain ⟨lys,hget⟩:=nP hys
 have hpz:∃ps:List (Str × Str),bL (nW K H3) ys ps∧ps.map (·.1)=hz.map (·.1):=by
  have aux:∀(n:Nat) (ys:List V) (hz:Hdr),ys.length=hz.length→(∀c∈hz,Nm c.1)→(∀(i:Nat) (y:V),ys[i]?=some y→∃c wy t,hz[i]?=some c∧y=.ref t∧SqT K H3 t [.str c.1,.str wy]∧(wy = "up"∨wy = "down"))→∃ps:List (Str × Str),bL (nW K H3) ys ps∧ps.map (·.1)=hz.map (·.1):=by
   intro n ys
   induction ys with
   |nil=>intro hz hl _ _;cases hz with
    |nil=>exact ⟨[],.nil,rfl⟩
    |cons _ _=>simp at hl
   |cons y ys ih=>
    intro hz hl hnm hget
    cases hz with
    |nil=>simp at hl
    |cons c hz=>
     obtain ⟨c',wy,t,h1,h2,h3,h4⟩:=hget 0 y rfl
     cases h1
     obtain ⟨ps,h5,h6⟩:=ih hz (by simpa using hl) (fun d hd=>hnm d (List.mem_cons_of_mem _ hd)) fun i z e=>hget (i+1) z (by simpa using e)
     exact ⟨(c.1,wy)::ps,.cons ⟨t,h2,h3,hnm c (List.mem_cons_self ..),h4⟩ h5,by rw [List.map_cons,h6];rfl⟩
  exact aux 0 ys hz (by lia) (fun c hcm=>(hc c (hsub3.1 c hcm)).1) hget
 obtain ⟨ps,hps,epz⟩:=hpz
 have lps:=hps.len
 refine ⟨D2,_,rfl,SqL.of g3,fun t H4 _ s4 g4=>q _ _ ps (hz.map (·.2)) ((fx2.trans f3).sm s4) ⟨⟨t,ys,rfl,SqT.of g4,hps.imp fun _ _ h=>h.same s4⟩,Nat.zero_le _,by lia⟩ ?_ ?_⟩
 ·rw [epz]
  exact aBr hg.1 hsub3.1
 ·rw [epz]
  exact hsub3.2.1
abbrev bAl:List V:=[.str "count",.str "least",.str "most",.str "sum"]
def aH5 (K:PySem.W.Frag):Sp:=fun vs H Q _=>∃(a F:Addr) (vh:V) (hd:Hdr) (fs:List Str),vs=[.ref a,vh,.ref F]∧lO H a∧eG K H vh hd∧uG hd∧H F=some (.lst (fs.map V.str))∧F≠a∧2≤fs.length∧(∀n∈fs,Nm n) ∧
 ∀v H' ss js,Fx a H H'→gM lV 1 2 K H' v ss→zG hd ss js→ss.map Sm.new=fs.take ss.length→(∀(s:Sm) (j:Str),(s,j)∈ss.zip js→aBk j)→Q v H'
theorem aUf {w:Int} (h0:0≤w) (h1:w<4):∃x:Str,atI bAl w=some (.str x)∧((w=0∧x = "count")∨(w=1∧x = "least")∨(w=2∧x = "most")∨(w=3∧x = "sum")):=by
 obtain ⟨n,rfl⟩:∃n:Nat,w=n:=⟨w.toNat,by lia⟩
 match n,h1 with
 |0,_=>exact ⟨_,cF (j:=0) rfl,.inl ⟨rfl,rfl⟩⟩
 |1,_=>exact ⟨_,cF (j:=1) rfl,.inr (.inl ⟨rfl,rfl⟩)⟩
 |2,_=>exact ⟨_,cF (j:=2) rfl,.inr (.inr (.inl ⟨rfl,rfl⟩))⟩
 |3,_=>exact ⟨_,cF (j:=3) rfl,.inr (.inr (.inr ⟨rfl,rfl⟩))⟩
 |n+4,h=>lia
theorem aJt {α β:Type}:∀{as:List α} {bs:List β} {a:α} {b:β},as.length=bs.length→(as++[a]).zip (bs++[b])=as.zip bs++[(a,b)]
 |[],[],_,_,_=>rfl
 |x::as,y::bs,a,b,h=>by
  rw [List.cons_append,List.cons_append,List.zip_cons_cons,List.zip_cons_cons,aJt (by simpa using h)]
  rfl
theorem aHm (T:Txt w K mg) (aN:Ok P w K mg base 1 "_law_next" ["_law_state","_law_many"] gR):Ok P w K mg base 2 "_law_sums" ["_law_state","_law_head_here","_law_fresh"] (aH5 K):=by
 refine Ok.ofV T.aJk eV (fun vs H Q E h=>?_) (fun f cdv A outer s H vs Q E hr h=>?_)
 ·obtain ⟨a,F,vh,hd,fs,rfl,_⟩:=h;rfl
 obtain ⟨a,F,vh,hd,fs,rfl,hs,⟨b,us,rfl,hb,hu⟩,⟨⟨nd,l1,l8⟩,hc⟩,hF,nF,lf,hfn,q⟩:=h
 refine ⟨_,(aC (aV (i:=3) eV.nd rfl (by trivial) (cO aA)) (aC (jD PassesOwn.never rfl (fU (by rfl) T.lG (aB (bW fG aD (aJ (aN.mono (by decide)) hr (by rfl) (aB (vv 0) (aB aD aA)))) aA)) (aL (i:=4) eV.nd rfl (by trivial)) (aC (rF (aH aR (vv 1) (aJ (aN.mono (by decide)) hr (by rfl) (aB (vv 0) (aB (aW aX (by rfl) T.dB cH (aB (vv 1) aA)) aA))) (fun _ _=>rfl)) (mG rfl (bB (aL (i:=5) eV.nd rfl (by trivial)) (bB (aL (i:=6) eV.nd rfl (by trivial)) cW)))) (aC (aV (i:=7) eV.nd rfl (by trivial) (bW fG aD (bF uB (by rfl) T.aIy aBd (aB (eZ cG (vv 6) aO (aZ _)) aA)))) (aC (aV (i:=8) eV.nd rfl (by trivial) (aH bN (cO (aB aO (aB aO (aB aO (aB aO aA))))) (aJ (aN.mono (by decide)) hr (by rfl) (aB (vv 0) (aB (vv 7) aA))) (fun _ _=>rfl))) (aC (bR (aU cG (vv 8) aO (aZ _)) (aF (aV (i:=5) eV.nd rfl (by trivial) rN)) bA) (aF (eF (uN PySem.F.plainAttrs_list PySem.F.slot_list_append PySem.F.type_list_append jZ (vv 3) (aB (aY (aB (vv 8) (aB (vv 5) (aB (aH bN (vv 2) (vv 4) (fun _ _=>rfl)) aA)))) aA))))))))) (aF (aM (bF bU (by rfl) T.cP cA (aB (vv 3) aA)))))),?_⟩
 have lu:=hu.len
 refine ⟨(by show 0≤sizeLine;decide),fun p H1 fp s1 g1=>?_⟩
 have f1:=Fx.of hs s1
 have npa:p≠a:=hs.ne fp
 refine ⟨_,rfl,a,2,rfl,f1.st,by decide,fun m H2 f2 m0 m1=>?_⟩
 have f2':=f1.trans f2
 have g2:=f2.same _ _ npa g1
 refine ⟨_,_,rfl,rfl,_,rfl,(by show -(2 ^ 62)≤1+m;lia),(by show 1+m<2 ^ 62;lia),?_⟩
 refine lA (n:=(1+m).toNat) (fun i σ H'=>Fx a H H'∧∃(ws:List V) (ss:List Sm) (js:List Str) (l4 l5 l6 l7 l8:Option V),H' p=some (.lst ws)∧ss.length=i∧bL (lV K H') ws ss∧zG hd ss js∧ss.map Sm.new=fs.take i∧(∀(s:Sm) (j:Str),(s,j)∈ss.zip js→aBk j)∧σ=[some (.ref a),some (.ref b),some (.ref F),some (.ref p),l4,l5,l6,l7,l8]) ⟨f2',[],[],[],_,_,_,_,_,g2,rfl,.nil,.nil,rfl,(fun s j h=>by cases h),rfl⟩ ?_ ?_
 ·rintro i σ H' hi ⟨fx,ws,ss,js,l4,l5,l6,l7,l8,gp,hl,hw,hsj,hnw,hkj,rfl⟩
  have lw:=hw.len
  have lj:=hsj.len
  have tk0:TK K H H':=fx.tk hs
  refine ⟨_,rfl,_,rfl,_,rfl,_,_,rfl,.inr (tk0 _ _ hb),a,_,rfl,fx.st,(by show (0:Int)<(us.length:Int)∧(us.length:Int)<2 ^ 64;lia),fun d H3 f3 d0 d1=>?_⟩
  obtain ⟨u,hat,hmem⟩:=at_of (xs:=us) d0 d1
  obtain ⟨c,hcm,pc,rfl,hpc⟩:=hu.mem hmem
  obtain ⟨hcn,hck⟩:=hc c hcm
  have fx3:=fx.trans f3
  have tk3:TK K H H3:=fx3.tk hs
  refine ⟨b,_,_,_,rfl,rfl,tk3 _ _ hb,hat,pc,_,rfl,tk3 _ _ hpc,rfl,_,_,rfl,_,_,rfl,rfl,?_⟩
  have lcc:look hd c.1=some c.2:=jH nd hcm
  have hif:fs.take (i+1)=fs.take i++[fs[i]'(by lia)]:=by rw [List.take_add_one,List.getElem?_eq_getElem (by lia)];rfl
  have hni:Nm (fs[i]'(by lia)):=hfn _ (List.getElem_mem _)
  have hat':∀Hz,Fx a H Hz→SqL K Hz F (fs.map V.str):=fun Hz fz=>SqL.of (fz.same _ _ nF hF)
  have hix:atI (fs.map V.str) (0+(i:Int))=some (.str (fs[i]'(by lia))):=by
   rw [Int.zero_add]
   exact cF (by rw [List.getElem?_map,List.getElem?_eq_getElem (by lia)];rfl)
  refine ⟨_,rfl,rfl,.inr ⟨_,rfl,_,_,rfl,rfl,?_⟩⟩
  obtain ⟨mn,emn,hmn,hm3⟩:∃mn:Int,(3+(if decide (V.str c.2=V.str "number") then 1 else 0):Int)=mn∧3≤mn∧(mn≤3∨(mn=4∧c.2 = "number")):=by
   by_cases e:c.2 = "number"
   ·exact ⟨4,by rw [decide_eq_true (congrArg V.str e)];rfl,by decide,.inr ⟨rfl,e⟩⟩
   ·exact ⟨3,by rw [decide_eq_false (by intro z;exact e (V.str.inj z))];rfl,by decide,.inl (by decide)⟩
  dsimp only [bO]
  rw [emn]
  refine ⟨(by show 4≤sizeLine;decide),fun p4 H4 fp4 s4 g4=>?_⟩
  have fx4:=fx3.sm s4
  refine ⟨_,rfl,_,rfl,a,mn,rfl,fx4.st,by lia,fun w' H5 f5 w0 w1=>?_⟩
  have fx5:=fx4.trans f5
  have fl5:Fx a H' H5:=(f3.sm s4).trans f5
  have gp5:=f5.same _ _ npa (s4 _ _ (f3.same _ _ npa gp))
  obtain ⟨x,hx,hxc⟩:=aUf w0 (show w'<4 by lia)
  refine ⟨p4,_,_,_,rfl,rfl,SqL.of (f5.same _ _ (fx3.st.ne fp4) g4),hx,?_⟩
  have rest:∀(nv:V) (sm:Sm) (j:Str),(∀Hz tz,SqT K Hz tz [.str x,nv,.str (fs[i]'(by lia))]→lV K Hz (.ref tz) sm)→sm.new=fs[i]'(by lia)→smK hd sm=some j→(sm.wd = "sum"→j≠"word")→aBk j→∀tz Hy,H5 tz=none→Same H5 Hy→Hy tz=some (.tup [.str x,nv,.str (fs[i]'(by lia))]) →
    Hy p=some (.lst ws)∧(Fx a H (upd Hy p (.lst (ws++[.ref tz])))∧bL (lV K (upd Hy p (.lst (ws++[.ref tz])))) (ws++[.ref tz]) (ss++[sm])∧zG hd (ss++[sm]) (js++[j])∧(ss++[sm]).map Sm.new=fs.take (i+1)∧∀(s:Sm) (j':Str),(s,j')∈(ss++[sm]).zip (js++[j])→aBk j'):=by
   intro nv sm j hsm hnew hk hsum hkd tz Hy ftz sy gy
   have gpy:=sy _ _ gp5
   have ntp:tz≠p:=(bD gp5 ftz).symm
   refine ⟨gpy,(fx5.sm sy).upd fp npa,?_,?_,?_,?_⟩
   ·exact (hw.imp fun _ _ h=>(h.tk ((fl5.sm sy).tk fx.st)).tk fun _ _ e=>e.dI gpy).app (.cons (hsm _ tz (SqT.of (by rw [bH ntp];exact gy))) .nil)
   ·exact bL.app hsj (.cons ⟨hk,hsum⟩ .nil)
   ·rw [List.map_append,hnw,hif,List.map_singleton,hnew]
   ·intro s j' hm
    rw [aJt (by lia)] at hm
    rcases List.mem_append.mp hm with hm|hm
    ·exact hkj s j' hm
    ·cases List.mem_singleton.mp hm
     exact hkd
  refine ⟨_,rfl,rfl,_,rfl,?_⟩
  by_cases ec:x = "count"
  ·subst ec
   rw [decide_eq_true rfl]
   refine cC ?_
   refine ⟨_,rfl,.inl ⟨rfl,_,SqL.of gp5⟩,_,rfl,_,rfl,_,rfl,_,rfl,F,_,_,_,rfl,rfl,hat' _ fx5,hix,(by show 3≤sizeLine;decide),fun tz Hy ftz sy gy=>?_⟩
   obtain ⟨k1,k2,k3,k4,k5,k6⟩:=rest .non ⟨"count",none,fs[i]'(by lia)⟩ "number" (fun Hz tz h=>⟨tz,rfl,hni,.inl ⟨rfl,rfl,h⟩⟩) rfl rfl (fun _=>by decide +kernel) (.inl rfl) tz Hy ftz sy gy
   exact ⟨p,_,_,rfl,rfl,k1,fP (by lia),k2,_,_,_,_,_,_,_,_,aQ,by rw [List.length_append,hl];rfl,k3,k4,k5,k6,rfl⟩
  ·rw [decide_eq_false (by intro z;exact ec (V.str.inj z))]
   refine bC ?_
   have hwd:aXx x:=by
    rcases hxc with ⟨_,e⟩|⟨_,e⟩|⟨_,e⟩|⟨_,e⟩
    ·exact absurd e ec
    ·exact .inr (.inl e)
    ·exact .inr (.inr e)
    ·exact .inl e
   have hsum:x = "sum"→c.2≠"word":=fun e=>by
    rcases hxc with ⟨_,e'⟩|⟨_,e'⟩|⟨_,e'⟩|⟨e3,e'⟩
    ·exact absurd e' ec
    ·rw [e] at e';exact absurd e' (by decide +kernel)
    ·rw [e] at e';exact absurd e' (by decide +kernel)
    ·rcases hm3 with z|⟨_,z⟩
     ·lia
     ·rw [z];decide +kernel
   refine ⟨_,rfl,.inl ⟨rfl,_,SqL.of gp5⟩,_,rfl,_,rfl,_,rfl,_,rfl,F,_,_,_,rfl,rfl,hat' _ fx5,hix,(by show 3≤sizeLine;decide),fun tz Hy ftz sy gy=>?_⟩
   obtain ⟨k1,k2,k3,k4,k5,k6⟩:=rest (.str c.1) ⟨x,some c.1,fs[i]'(by lia)⟩ c.2 (fun Hz tz h=>⟨tz,rfl,hni,.inr ⟨c.1,rfl,hcn,hwd,h⟩⟩) rfl lcc hsum hck tz Hy ftz sy gy
   exact ⟨p,_,_,rfl,rfl,k1,fP (by lia),k2,_,_,_,_,_,_,_,_,aQ,by rw [List.length_append,hl];rfl,k3,k4,k5,k6,rfl⟩
 ·rintro σ H' ⟨fx,ws,ss,js,l4,l5,l6,l7,l8,gp,hl,hw,hsj,hnw,hkj,rfl⟩
  exact ⟨_,rfl,p,ws,rfl,SqL.of gp,fun t H5 _ s5 g5=>q _ _ ss js (fx.sm s5) ⟨⟨t,ws,rfl,SqT.of g5,hw.imp fun _ _ h=>h.same s5⟩,by lia,by lia⟩ hsj (by rw [hnw,hl]) hkj⟩
theorem aN3 {n:Str}:∀{l:List Str},l.Nodup→l.length≤(l.filter fun x=>!decide (x=n)).length+1
 |[],_=>by simp
 |x::r,h=>by
  rw [List.nodup_cons] at h
  rw [List.filter_cons,List.length_cons]
  by_cases e:x=n
  ·subst e
   rw [decide_eq_true rfl]
   have:r.filter (fun y=>!decide (y=x))=r:=List.filter_eq_self.mpr fun y hy=>by
    rw [decide_eq_false (fun z=>h.1 (by rw [←z];exact hy))]
    rfl
   simp [this]
  ·rw [decide_eq_false e]
   have:=aN3 (n:=n) h.2
   simp only [Bool.not_false,if_true,List.length_cons]
   lia
theorem aHn {l:List Str} (h:l.Nodup):∀S:List Str,l.length≤(l.filter fun x=>!decide (x∈S)).length+S.length
 |[]=>by
  have e:(l.filter fun x=>!decide (x∈([]:List Str)))=l:=List.filter_eq_self.mpr (by intro x _;simp)
  rw [e]
  exact Nat.le_add_right _ _
 |s::S=>by
  have e:(l.filter fun x=>!decide (x∈s::S))=(l.filter fun x=>!decide (x∈S)).filter fun x=>!decide (x=s):=by
   rw [List.filter_filter]
   refine List.filter_congr fun x _=>?_
   by_cases a:x=s <;> by_cases b:x∈S <;> simp [a,b]
  have h1:=aHn h S
  have h2:=aN3 (n:=s) (h.sublist (List.filter_sublist (p:=fun x=>!decide (x∈S))))
  rw [e,List.length_cons]
  lia
theorem aCa {ys:List V} {cs:Hdr} (hl:ys.length=cs.length) (h:∀(i:Nat) (y:V),ys[i]?=some y→∃c,cs[i]?=some c∧y=.str c.1):ys=(cs.map (·.1)).map V.str:=by
 rw [List.map_map]
 refine List.ext_getElem? fun i=>?_
 by_cases hi:i<ys.length
 ·obtain ⟨c,h1,h2⟩:=h i ys[i] (List.getElem?_eq_getElem hi)
  rw [List.getElem?_eq_getElem hi,List.getElem?_map,h1,h2]
  rfl
 ·rw [List.getElem?_eq_none (by lia),List.getElem?_eq_none (by rw [List.length_map];lia)]
theorem vM {X:Cx} {scope:Scope} {N:List Str} {tl:TE} {σ:L2.St} {H:Hp} {Q:VK} {b:Addr} {us:List V} {cs:Hdr} (hb:SqT K H b us) (hu:bL (IsC K H) us cs) (h8:cs.length≤100) (cap:Cap X scope N σ [none,none]) (hw:∀R:VK,R (.ref b) H→tl σ H R)
  (q:∀D H',H D=none→Same H H'→H' D=some (.lst ((cs.map (·.1)).map V.str))→Q (.ref D) H'):iQ X scope N (aCx K tl) (aDa K 2 (jF (bO 0) (jF (bO 1) aAk))) pD (uR 0) σ H Q:=by
 have lu:=hu.len
 refine wF [none,none] cap (hw _ ⟨b,rfl,⟨_,hb⟩,yG Same (oW H) us (fun _=>true) (fun i _ y=>∃c,cs[i]?=some c∧y=.str c.1) (fun _ _ h=>h) (fun _ _ _ h=>h) (fun i σ=>∃c,cs[i]?=some c∧At2 [none,none] (.str c.1) (.str c.2) σ) (Ps2 [none,none]) ⟨none,none,rfl⟩ (small (by lia)) _ (aB0 fun H' s'=>s'.aK hb) (sS fun H' s'=>s'.aK hb) (fun i x σ' H' Q' ex hps s' qq=>?_) (fun i x σ2 ex hA H' R s' r=>r _ (Same.refl _)) (fun i x σ2 ex hA _ H' R s' r=>?_) fun D H1 ys s1 fD g1 hys=>?_⟩)
 ·obtain ⟨c,hc,p,rfl,hp⟩:=bJ hu ex
  exact hg2 (s'.aK hp) hps fun σ2 h1 h2=>qq σ2 h1 ⟨c,hc,h2⟩
 ·obtain ⟨c,hc,rfl⟩:=hA
  exact ⟨_,rfl,r _ _ (Same.refl H') ⟨c,hc,rfl⟩⟩
 ·rw [pP] at hys
  obtain ⟨l,hg⟩:=nP hys
  rw [aCa (by lia) hg] at g1
  exact q D H1 fD s1 g1
def lF (ns used:List Str):List Str:=(ns.drop 3).filter fun n=>!decide (n∈used)
theorem aH1 {ns used:List Str} (h:nJ ns):(lF ns used).Nodup∧(∀n∈lF ns used,Nm n∧n∉used)∧14≤(lF ns used).length+used.length∧(lF ns used).length≤14:=by
 have hd:(ns.drop 3).Nodup:=h.2.2.sublist (List.drop_sublist 3 ns)
 have hl:(ns.drop 3).length=14:=by rw [List.length_drop,h.1]
 refine ⟨hd.sublist List.filter_sublist,fun n hn=>?_,?_,?_⟩
 ·obtain ⟨h1,h2⟩:=List.mem_filter.mp hn
  exact ⟨h.2.1 n (List.mem_of_mem_drop h1),by simpa using h2⟩
 ·have:=aHn hd used
  unfold lF
  lia
 ·have:=List.length_filter_le (fun n=>!decide (n∈used)) (ns.drop 3)
  unfold lF
  lia
theorem aBc {X:Cx} {scope:Scope} {Nn:List Str} {tl:TE} {tt:TT} {σ:L2.St} {H:Hp} {Q:VK} {U:V} {ns used:List Str} (hn:nJ ns) (cap:Cap X scope Nn σ [none,some U]) (hw:∀R:VK,(∀p H1,H p=none→Same H H1→H1 p=some (.lst ((ns.drop 3).map V.str))→R (.ref p) H1)→tl σ H R)
  (ht:∀(n:Str) l H' R,Same H H'→(∀H2,Same H' H2→R (!decide (n∈used)) H2)→tt (([none,some U].set 0 l).set 0 (some (.str n))) H' R)
  (q:∀D H',H D=none→Same H H'→H' D=some (.lst ((lF ns used).map V.str))→Q (.ref D) H'):iQ X scope Nn (rG K tl) (bO 0) tt (uR 0) σ H Q:=by
 have hl:(ns.drop 3).length=14:=by rw [List.length_drop,hn.1]
 refine rQ [none,some U] cap (hw _ fun p H1 fp s1 g1=>⟨p,rfl,⟨_,SqL.of g1⟩,yG Same (oW H1) ((ns.drop 3).map V.str) (frP (ns.drop 3) used) (fun i _ y=>∃n,(ns.drop 3)[i]?=some n∧y=.str n) (fun _ _ h=>h) (fun _ _ _ h=>h) (fun i σ=>∃n,(ns.drop 3)[i]?=some n∧At1 [none,some U] (.str n) σ) (Ps1 [none,some U]) ⟨none,rfl⟩ (small (by rw [List.length_map];lia)) _ (yE fun H' s'=>SqL.of (s' _ _ g1)) (pO fun H' s'=>SqL.of (s' _ _ g1)) (fun i x σ' H' Q' ex hps s' qq=>?_) (fun i x σ2 ex hA H' R s' r=>?_) (fun i x σ2 ex hA _ H' R s' r=>?_) fun D H2 ys s2 fD g2 hys=>?_⟩)
 ·obtain ⟨n,hn',rfl⟩:=dJ ex
  exact hg1 (i:=i) hps fun σ2 h1 h2=>qq σ2 h1 ⟨n,hn',h2⟩
 ·obtain ⟨n,hn',l,rfl⟩:=hA
  refine ht n l H' _ (s1.trans s') fun H2 s2=>?_
  have e:frP (ns.drop 3) used i=!decide (n∈used):=by unfold frP;rw [hn']
  rw [←e]
  exact r H2 s2
 ·obtain ⟨n,hn',l,rfl⟩:=hA
  exact ⟨_,by cases l <;> rfl,r _ _ (Same.refl H') ⟨n,hn',rfl⟩⟩
 ·rw [List.length_map,List.range_eq_range'] at hys
  have ey:=aCk (k:=0) (l:=ns.drop 3) (fun j n hj y hy=>by
   obtain ⟨m,hm,e⟩:=hy
   rw [Nat.zero_add,hj] at hm
   cases hm
   exact e) hys
  have es:sel (frP (ns.drop 3) used) 0 (ns.drop 3)=lF ns used:=kY fun i x ex=>by
   unfold frP
   rw [Nat.zero_add,ex]
  rw [ey,es] at g2
  exact q D H2 (s1.free fD) (s1.trans s2) g2
theorem zip_fst_snd:∀(hd:Hdr),(hd.map (·.1)).zip (hd.map (·.2))=hd
 |[]=>rfl
 |c::r=>by rw [List.map_cons,List.map_cons,List.zip_cons_cons,zip_fst_snd r]
theorem qG {lo hi:Nat} {H:Hp} {t:Addr} {ns:List Str} (h:SqT K H t (ns.map V.str)) (hn:∀n∈ns,Nm n) (l1:lo≤ns.length) (l2:ns.length≤hi):gM fH lo hi K H (.ref t) ns:=by
 refine ⟨⟨t,_,rfl,h,?_⟩,l1,l2⟩
 clear h l1 l2
 induction ns with
 |nil=>exact .nil
 |cons n r ih=>exact .cons ⟨rfl,hn n (List.mem_cons_self ..)⟩ (ih fun m hm=>hn m (List.mem_cons_of_mem _ hm))
def hdK (hd:Hdr):List (Key × V):=hd.map fun c=>((Sum.inr c.1:Key),V.str c.2)
theorem aRq {H:Hp} {us:List V} {hd:Hdr} (h:bL (IsC K H) us hd):aQz K H us (hdK hd):=by
 induction h with
 |nil=>exact .nil
 |cons r _ ih=>
  obtain ⟨p,rfl,hp⟩:=r
  exact .cons ⟨p,rfl,hp⟩ ih
theorem aRt {hd:Hdr} (h:(hd.map (·.1)).Nodup):((hdK hd).map (·.1)).Nodup:=by
 unfold hdK
 rw [List.map_map]
 have e:((fun x:Key × V=>x.1) ∘ fun c:Str × Str=>((Sum.inr c.1:Key),V.str c.2))=(fun n:Str=>(Sum.inr n:Key)) ∘ fun c:Str × Str=>c.1:=rfl
 rw [e,←List.map_map]
 exact List.pairwise_map.mpr (h.imp fun ne z=>ne (Sum.inr.inj z))
theorem aN9 (n:Str):∀hd:Hdr,mU (hdK hd) (Sum.inr n)=(look hd n).map V.str
 |[]=>rfl
 |c::r=>by
  show mU (((Sum.inr c.1:Key),V.str c.2)::hdK r) (Sum.inr n)=_
  unfold look
  rw [List.find?_cons]
  by_cases e:c.1=n
  ·rw [tL (by rw [e]),decide_eq_true e]
   rfl
  ·rw [sW (by intro z;exact e (Sum.inr.inj z)),decide_eq_false e]
   exact aN9 n r
theorem aAd {X:Cx} {scope:Scope} {N:List Str} {tl:TE} {σ:L2.St} {H:Hp} {Q:VK} {b:Addr} {us:List V} {cs:Hdr} (hb:H b=some (.lst us)) (hu:bL (IsC K H) us cs) (h8:cs.length≤100) (cap:Cap X scope N σ [none,none]) (hw:∀R:VK,R (.ref b) H→tl σ H R)
  (q:∀D H',H D=none→Same H H'→H' D=some (.lst ((cs.map (·.1)).map V.str))→Q (.ref D) H'):iQ X scope N (rG K tl) (aDa K 2 (jF (bO 0) (jF (bO 1) aAk))) pD (uR 0) σ H Q:=by
 have lu:=hu.len
 refine rQ [none,none] cap (hw _ ⟨b,rfl,⟨_,SqL.of hb⟩,yG Same (oW H) us (fun _=>true) (fun i _ y=>∃c,cs[i]?=some c∧y=.str c.1) (fun _ _ h=>h) (fun _ _ _ h=>h) (fun i σ=>∃c,cs[i]?=some c∧At2 [none,none] (.str c.1) (.str c.2) σ) (Ps2 [none,none]) ⟨none,none,rfl⟩ (small (by lia)) _ (yE fun H' s'=>SqL.of (s' _ _ hb)) (pO fun H' s'=>SqL.of (s' _ _ hb)) (fun i x σ' H' Q' ex hps s' qq=>?_) (fun i x σ2 ex hA H' R s' r=>r _ (Same.refl _)) (fun i x σ2 ex hA _ H' R s' r=>?_) fun D H1 ys s1 fD g1 hys=>?_⟩)
 ·obtain ⟨c,hc,p,rfl,hp⟩:=bJ hu ex
  exact hg2 (s'.aK hp) hps fun σ2 h1 h2=>qq σ2 h1 ⟨c,hc,h2⟩
 ·obtain ⟨c,hc,rfl⟩:=hA
  exact ⟨_,rfl,r _ _ (Same.refl H') ⟨c,hc,rfl⟩⟩
 ·rw [pP] at hys
  obtain ⟨l,hg⟩:=nP hys
  rw [aCa (by lia) hg] at g1
  exact q D H1 fD s1 g1
def aEf (K:PySem.W.Frag):Sp:=fun vs H Q _=>∃(a N:Addr) (vq vh:V) (q:Qn) (hd:Hdr) (ns:List Str) (hs:Str→Option Hdr),vs=[.ref a,vq,vh,.ref N]∧lO H a∧N≠a∧IsQ K H vq q∧eG K H vh hd∧uG hd∧HQ hs q hd∧H N=some (.lst (ns.map V.str))∧nJ ns ∧
 ∀p H' v1 v2 q' hd',Fx a H H'→H' p=some (.tup [v1,v2])→IsQ K H' v1 q'→eG K H' v2 hd'→HQ hs q' hd'→uG hd'→size q'≤size q+1→kids q'=[q]→Q (.ref p) H'
abbrev lmW:List V:=[.str "least",.str "most"]
theorem aCy (T:Txt w K mg) (lM:Ok P w K mg base 2 "_law_some" ["_law_state","_law_head_here","_law_least"] (aAv K)) (aIo:Ok P w K mg base 2 "_law_sums" ["_law_state","_law_head_here","_law_fresh"] (aH5 K)) :
  Ok P w K mg base 3 "_law_group" ["_law_state","_law_question","_law_head_here","_law_names_here"] (aEf K):=by
 refine Ok.ofV T.aGw cT (fun vs H Q E h=>?_) (fun f cdv A outer s H vs Q E hr h=>?_)
 ·obtain ⟨a,N,vq,vh,q,hd,ns,hs,rfl,_⟩:=h;rfl
 obtain ⟨a,N,vq,vh,q0,hd,ns,hs,rfl,hst,nNa,hq,hh,hok,hHQ,hN,hn,q⟩:=h
 have hu:=uP hr
 refine ⟨_,(aC (aV (i:=4) cT.nd rfl (by trivial) (dW sZ (aJ (lM.mono (by decide)) hr (by rfl) (aB (vv 0) (aB (vv 2) (aB aD aA)))) gU (eX aD))) (aC (aV (i:=5) cT.nd rfl (by trivial) (bF bU (by rfl) T.cP cA (aB (bZ (N:=["_law_name","_law_kind"]) (by trivial) (dZ (by decide +kernel)) rfl (eE (vv 4)) (fun cl s' H' fp=>⟨(jQ (K:=K) (n:=2) rfl (bB (aL (i:=0) (show (["_law_name","_law_kind"]:List Str).Nodup from by decide +kernel) rfl (Or.inl rfl)) (bB (aL (i:=1) (show (["_law_name","_law_kind"]:List Str).Nodup from by decide +kernel) rfl (Or.inl rfl)) cW))),cI,(vv 0)⟩)) aA))) (aC (iR (i0:=6) cT.nd rfl (by trivial) (N:=["_law_name","_law_some_here"]) (by trivial) (cV (aG mV) rfl (by decide +kernel)) rfl (eE (dW sZ (vv 3) (eX aD) gU)) (fun cl s' H' fp=>⟨(aL (i:=0) (show (["_law_name","_law_some_here"]:List Str).Nodup from by decide +kernel) rfl (Or.inl rfl)),(pZ (aU (iG (K:=K)) (vv 0) (vv 1) (by with_unfolding_all rfl))),(vv 0)⟩)) (aC (aV (i:=7) cT.nd rfl (by trivial) (aJ (aIo.mono (by decide)) hr (by rfl) (aB (vv 0) (aB (vv 2) (aB (vv 6) aA))))) (aC (jD PassesOwn.never rfl (eO (vv 7)) (mG rfl (bB (aL (i:=8) cT.nd rfl (by trivial)) (bB (aL (i:=9) cT.nd rfl (by trivial)) (bB (aL (i:=10) cT.nd rfl (by trivial)) cW)))) (aC (aV (i:=11) cT.nd rfl (by trivial) aO) (aC (bR (aU uC (vv 8) (aY (aB aO (aB aO aA))) (by with_unfolding_all rfl)) (aF (aV (i:=11) cT.nd rfl (by trivial) (lC hu (bF (aCb rfl) (by rfl) T.aGr aAu (aB (vv 2) aA)) (vv 9) (fun _ _=>rfl)))) bA) (aF (eF (uN PySem.F.plainAttrs_list PySem.F.slot_list_append PySem.F.type_list_append jZ (vv 4) (aB (aY (aB (vv 10) (aB (vv 11) aA))) aA))))))) (aF (aM (aY (aB (aY (aB aO (aB (vv 1) (aB (vv 5) (aB (vv 7) aA))))) (aB (bF bU (by rfl) T.cP cA (aB (vv 4) aA)) aA)))))))))),?_⟩
 obtain ⟨⟨nd,l1,l8⟩,hc⟩:=id hok
 refine ⟨_,rfl,_,rfl,a,vh,hd,0,rfl,hst,hh,⟨nd,l1,l8⟩,by decide,fun D H1 us hd' f1 fD g1 hus hsub _=>?_⟩
 refine ⟨_,rfl,D,_,rfl,SqL.of g1,fun p H2 fp s2 g2=>?_⟩
 rw [show (6:Int)=((6:Nat):Int) from rfl,tQ] at g2
 have fx2:=f1.sm s2
 have hu2:bL (IsC K H2) (us.take 6) (hd'.take 6):=zL (hus.imp fun _ _ h=>h.same s2) 6
 have hsub6:=hsub.take 6
 have fp0:H p=none:=f1.free fp
 have npa:p≠a:=hst.ne fp0
 generalize us.take 6=zs at g2 hu2
 have l6:(hd'.take 6).length≤6:=by rw [List.length_take];lia
 generalize hd'.take 6=hz at hu2 hsub6 l6
 have lz:=hu2.len
 have hcz:∀c∈hz,Nm c.1∧aBk c.2:=fun c h=>hc c (hsub6.1 c h)
 try dsimp only [bO,gY,iU,tCB,fK]
 refine aAd g2 hu2 (by lia) gQ (fun R r=>⟨_,rfl,r⟩) fun D3 H3 fD3 s3 g3=>?_
 refine ⟨D3,_,rfl,SqL.of g3,fun t4 H4 ft4 s4 g4=>?_⟩
 have fx4:=(fx2.sm s3).sm s4
 have gp4:=(s3.trans s4) _ _ g2
 try dsimp only [bO,gY,iU]
 refine aBc (K:=K) (U:=.ref t4) (used:=hz.map (·.1)) hn ?_ (fun R r=>?_) (fun n l H' R s' r=>?_) fun F H5 fF s5 gF=>?_
 ·exact cX 5 (by decide +kernel) rfl rfl (by trivial)
 ·refine ⟨_,rfl,_,rfl,N,_,rfl,SqL.of (fx4.same _ _ nNa hN),fun p' H' fp' s' g'=>r p' H' fp' s' ?_⟩
  rw [g',show (3:Int)=((3:Nat):Int) from rfl,nA,List.map_drop]
 ·refine ⟨_,rfl,_,rfl,t4,_,rfl,.inr (SqT.of (s' _ _ g4)),rfl,iJ,_,rfl,?_⟩
  rw [lK]
  exact r H' (Same.refl H')
 obtain ⟨fnd,fnm,flen,flen2⟩:=aH1 (used:=hz.map (·.1)) hn
 rw [List.length_map] at flen
 generalize hfr:lF ns (hz.map (·.1))=fr at gF fnd fnm flen flen2
 have fx5:=fx4.sm s5
 have nFa:F≠a:=fx4.st.ne fF
 try dsimp only [bO]
 refine ⟨_,rfl,_,rfl,_,rfl,a,F,vh,hd,fr,rfl,fx5.st,hh.tk (fx5.tk hst),hok,gF,nFa,by lia,fun n h=>(fnm n h).1,fun vsm H6 ss js f6 hsm hsj hnew hkj=>?_⟩
 obtain ⟨⟨sa,xs,rfl,hxs,hx2⟩,ls1,ls2⟩:=hsm
 have lxs:=hx2.len
 have ljs:=hsj.len
 have fx6:=fx5.trans f6
 have gp6:=f6.same _ _ npa (s5 _ _ gp4)
 obtain ⟨hb0,hus0,rfl,hhb,hhu⟩:=id hh
 have lhu:=hhu.len
 refine ⟨_,rfl,sa,rfl,⟨_,hxs⟩,aAt (xs:=xs) (fun i σ H'=>(Fx a H H'∧TK K H6 H')∧∃(ws:List V) (l8 l9 l10 l11:Option V),H' p=some (.lst (zs++ws))∧ws.length=i∧bL (IsC K H') ws (((ss.map Sm.new).zip js).take i)∧σ=[some (.ref a),some vq,some (.ref hb0),some (.ref N),some (.ref p),some (.ref t4),some (.ref F),some (.ref sa),l8,l9,l10,l11]) ⟨⟨fx6,fun _ _ e=>e⟩,[],_,_,_,_,by rw [List.append_nil];exact gp6,rfl,.nil,rfl⟩ (fun i σ H' _ ⟨e,_⟩=>e.2 _ _ hxs) ?_ ?_⟩
 ·rintro i x σ H' hx ⟨⟨fl,tk6⟩,ws,l8',l9,l10,l11,gp,lws,hws,rfl⟩
  obtain ⟨sm,hsmi,hism⟩:=bJ hx2 hx
  obtain ⟨j,hji,hjk,hjw⟩:=bJ hsj hsmi
  have hi:i<ss.length:=(List.getElem?_eq_some_iff.mp hsmi).1
  have hkd:aBk j:=hkj sm j (List.mem_of_getElem? (List.getElem?_zip_eq_some.mpr ⟨hsmi,hji⟩))
  obtain ⟨b,rfl,hnm,hcase⟩:=hism
  have hzi:((ss.map Sm.new).zip js).take (i+1)=((ss.map Sm.new).zip js).take i++[(sm.new,j)]:=by
   have e:((ss.map Sm.new).zip js)[i]?=some (sm.new,j):=List.getElem?_zip_eq_some.mpr ⟨by rw [List.getElem?_map,hsmi];rfl,hji⟩
   rw [List.take_add_one,e]
   rfl
  have key:∀Hc,Fx a H' Hc→∀tz Hy,Hc tz=none→Same Hc Hy→Hy tz=some (.tup [.str sm.new,.str j])→Hy p=some (.lst (zs++ws))∧(Fx a H (upd Hy p (.lst (zs++ws++[V.ref tz])))∧TK K H6 (upd Hy p (.lst (zs++ws++[V.ref tz]))))∧(ws++[V.ref tz]).length=i+1∧bL (IsC K (upd Hy p (.lst (zs++ws++[V.ref tz])))) (ws++[V.ref tz]) (((ss.map Sm.new).zip js).take (i+1)):=by
   intro Hc fc tz Hy ftz sy gy
   have gpc:=fc.same _ _ npa gp
   have gpy:=sy _ _ gpc
   have ntp:tz≠p:=(bD gpc ftz).symm
   refine ⟨gpy,⟨((fl.trans fc).sm sy).upd fp0 npa,fun _ _ e=>(sy.aK (fc.aK fl.st (tk6 _ _ e))).dI gpy⟩,by rw [List.length_append,lws];rfl,?_⟩
   ·rw [hzi]
    exact (hws.imp fun _ _ h=>(h.tk ((fc.sm sy).tk fl.st)).tk fun _ _ e=>e.dI gpy).app (.cons ⟨tz,rfl,SqT.of (by rw [bH ntp];exact gy)⟩ .nil)
  have hkey:∃cv,SqT K H6 b [.str sm.wd,cv,.str sm.new]∧((inV (.str sm.wd) lmW=true∧∃c,cv=.str c∧look hd c=some j)∨(inV (.str sm.wd) lmW=false∧j = "number")):=by
   rcases hcase with ⟨e,ec,hb⟩|⟨c,ec,hcn,hwd,hb⟩
   ·refine ⟨_,by rw [e];exact hb,.inr ⟨by rw [e];decide +kernel,?_⟩⟩
    unfold smK at hjk
    rw [ec] at hjk
    exact (Option.some.inj hjk).symm
   ·have hlk:look hd c=some j:=by
     unfold smK at hjk
     rw [ec] at hjk
     exact hjk
    refine ⟨_,hb,?_⟩
    rcases hwd with e|e|e
    ·refine .inr ⟨by rw [e];decide +kernel,?_⟩
     rcases hkd with z|z
     ·exact z
     ·exact absurd z (hjw e)
    ·exact .inl ⟨by rw [e];decide +kernel,c,rfl,hlk⟩
    ·exact .inl ⟨by rw [e];decide +kernel,c,rfl,hlk⟩
  obtain ⟨cv,hb,hcv⟩:=hkey
  refine ⟨b,_,rfl,tk6 _ _ hb,rfl,_,_,rfl,_,_,rfl,_,_,rfl,rfl,?_⟩
  refine ⟨_,rfl,(by show 2≤sizeLine;decide),fun tt Ht ftt st gt=>⟨tt,lmW,rfl,.inr (SqT.of gt),rfl,rfl,_,rfl,?_⟩⟩
  have flt:Fx a H' Ht:=.of fl.st st
  rcases hcv with ⟨ew,c,rfl,hlk⟩|⟨ew,rfl⟩
  ·show if inV (.str sm.wd) lmW=true then _ else _
   rw [ew]
   refine cC ?_
   have hhu':bL (IsC K Ht) hus0 hd:=hhu.imp fun _ _ h=>h.tk fun _ _ e=>st.aK (tk6 _ _ (fx6.tk hst _ _ e))
   refine ⟨_,rfl,hb0,_,_,rfl,st.aK (tk6 _ _ (fx6.tk hst _ _ hhb)),aRq hhu',by lia,fun dd Hd fdd sd gd=>?_⟩
   rw [tZ (aRt nd)] at gd
   refine ⟨_,rfl,dd,.str j,rfl,?_,?_⟩
   ·have hg:=rJ.k (k:=(Sum.inr c:Key)) gd
    rw [aN9,hlk] at hg
    exact hg
   ·have flc:Fx a H' Hd:=flt.sm sd
    refine ⟨_,rfl,.inl ⟨rfl,_,SqL.of (flc.same _ _ npa gp)⟩,_,rfl,_,rfl,(by show 2≤sizeLine;decide),fun tz Hy ftz sy gy=>?_⟩
    obtain ⟨k1,k2,k3,k4⟩:=key Hd flc tz Hy ftz sy gy
    exact ⟨p,_,_,rfl,rfl,k1,fP (by rw [List.length_append];lia),k2,ws++[V.ref tz],_,_,_,_,by rw [←List.append_assoc];exact aQ,k3,k4,rfl⟩
  ·show if inV (.str sm.wd) lmW=true then _ else _
   rw [ew]
   refine bC ?_
   refine ⟨_,rfl,.inl ⟨rfl,_,SqL.of (flt.same _ _ npa gp)⟩,_,rfl,_,rfl,(by show 2≤sizeLine;decide),fun tz Hy ftz sy gy=>?_⟩
   obtain ⟨k1,k2,k3,k4⟩:=key Ht flt tz Hy ftz sy gy
   exact ⟨p,_,_,rfl,rfl,k1,fP (by rw [List.length_append];lia),k2,ws++[V.ref tz],_,_,_,_,by rw [←List.append_assoc];exact aQ,k3,k4,rfl⟩
 ·rintro σ H' ⟨⟨fl,tk6⟩,ws,l8',l9,l10,l11,gp,lws,hws,rfl⟩
  have lzj:((ss.map Sm.new).zip js).length=ss.length:=by rw [List.length_zip,List.length_map];lia
  rw [List.take_of_length_le (by lia)] at hws
  have hfst:((ss.map Sm.new).zip js).map (·.1)=ss.map Sm.new:=List.map_fst_zip (by rw [List.length_map];lia)
  have hgd:Good (hz++(ss.map Sm.new).zip js):=by
   refine ⟨?_,by rw [List.length_append];lia,by rw [List.length_append];lia⟩
   rw [List.map_append,hfst,hnew,List.nodup_append]
   refine ⟨hsub6.2.1,fnd.sublist (List.take_sublist _ _),fun x hx y hy e=>?_⟩
   subst e
   exact (fnm x (List.mem_of_mem_take hy)).2 hx
  refine ⟨_,rfl,_,rfl,_,rfl,(by show 4≤sizeLine;decide),fun qj H7 _ s7 g7=>⟨_,rfl,p,_,rfl,SqL.of (s7 _ _ gp),fun t8 H8 _ s8 g8=>⟨(by show 2≤sizeLine;decide),fun p9 H9 _ s9 g9=>?_⟩⟩⟩
  have t9:=s7.trans (s8.trans s9)
  have fx9:=fl.sm t9
  have tk9:TK K H H9:=fx9.tk hst
  have tk69:TK K H6 H9:=fun _ _ e=>t9.aK (tk6 _ _ e)
  have tk29:TK K H2 H9:=fun _ _ e=>tk69 _ _ (f6.aK fx5.st (s5.aK (s4.aK (s3.aK e))))
  have tk49:TK K H4 H9:=fun _ _ e=>tk69 _ _ (f6.aK fx5.st (s5.aK e))
  refine q p9 H9 _ _ (.group q0 (hz.map (·.1)) ss) (hz++(ss.map Sm.new).zip js) fx9 g9 ?_ ?_ ?_ ⟨hgd,fun c hcm=>?_⟩ (Nat.le_refl _) rfl
  ·refine .group (SqT.of ((s8.trans s9) _ _ g7)) (hq.tk tk9) (qG (tk49 _ _ (SqT.of g4)) (fun n hn'=>?_) (Nat.zero_le _) (by rw [List.length_map];lia)) ⟨⟨sa,xs,rfl,tk69 _ _ hxs,hx2.imp fun _ _ h=>h.tk tk69⟩,Nat.zero_le _,by lia⟩
   obtain ⟨c,hcm,rfl⟩:=List.mem_map.mp hn'
   exact (hcz c hcm).1
  ·exact ⟨t8,_,rfl,SqT.of (s9 _ _ g8),(hu2.imp fun _ _ h=>h.tk tk29).app (hws.imp fun _ _ h=>h.same t9)⟩
  ·have h:=HH.group (hs:=hs) (q:=q0) (aBr nd hsub6.1) hsj
   rw [zip_fst_snd] at h
   exact .mk1 rfl hHQ h hgd
  ·rcases List.mem_append.mp hcm with hcm|hcm
   ·exact hcz c hcm
   ·refine ⟨(fnm c.1 (List.mem_of_mem_take (l:=fr) (i:=ss.length) ?_)).1,?_⟩
    ·rw [←hnew,←hfst]
     exact List.mem_map.mpr ⟨c,hcm,rfl⟩
    ·rw [List.zip_map_left] at hcm
     obtain ⟨⟨s',j'⟩,hm,rfl⟩:=List.mem_map.mp hcm
     exact hkj s' j' hm
theorem gW {H:Hp}:∀(n m:Nat) {x y:V},n≤m→DEq K H n x y→DEq K H m x y
 |0,0,x,y,_,h=>h
 |0,m+1,x,y,_,h=>.inl h
 |n+1,0,x,y,l,_=>by lia
 |n+1,m+1,x,y,l,h=>by
  rcases h with h|⟨a,b,xs,ys,e1,e2,ha,hb,h⟩
  ·exact .inl h
  refine .inr ⟨a,b,xs,ys,e1,e2,ha,hb,?_⟩
  clear ha hb e1 e2
  induction h with
  |nil=>exact .nil
  |cons r _ ih=>exact .cons (gW n m (by lia) r) ih
theorem qQ {α:Type} {H:Hp} {n:Nat} {R:V→α→Prop} {v u:V} {ts:List α} (k:∀a b t,R a t→R b t→DEq K H n a b) (h:vQ K H R v ts) (h':vQ K H R u ts):DEq K H (n+1) v u:=by
 obtain ⟨a,vs,rfl,ha,h1⟩:=h
 obtain ⟨b,us,rfl,hb,h2⟩:=h'
 refine .inr ⟨a,b,vs,us,rfl,rfl,ha,hb,?_⟩
 clear ha hb
 induction h1 generalizing us with
 |nil=>cases h2;exact .nil
 |cons r _ ih=>
  cases h2 with
  |cons r2 t2=>exact .cons (k _ _ _ r r2) (ih _ t2)
theorem bT {H:Hp} {n:Nat} {v:V} (h:jY v=true):DEq K H n v v:=by
 cases n with
 |zero=>exact ⟨h,rfl⟩
 |succ n=>exact .inl ⟨h,rfl⟩
theorem aSt {v:V} (h:aJm v=true):jY v=true:=by
 cases v <;> first|rfl|cases h
theorem aZ3 {H:Hp} {v u:V} {o:Oth} (h:IsO K H v o) (h':IsO K H u o):DEq K H 1 v u:=by
 cases o with
 |val x=>
  obtain ⟨a,rfl,ha,hx,hv⟩:=h
  obtain ⟨b,rfl,hb,_⟩:=h'
  exact .inr ⟨a,b,_,_,rfl,rfl,ha,hb,.cons (bT rfl) (.cons (bT (aSt hv)) .nil)⟩
 |col d=>
  obtain ⟨a,rfl,ha,_⟩:=h
  obtain ⟨b,rfl,hb,_⟩:=h'
  exact .inr ⟨a,b,_,_,rfl,rfl,ha,hb,.cons (bT rfl) (.cons (bT rfl) .nil)⟩
theorem bAe {H:Hp} {v u:V} {t:Tst} (h:IsT K H v t) (h':IsT K H u t):DEq K H 2 v u:=by
 obtain ⟨a,w,rfl,ha,_,_,ho⟩:=h
 obtain ⟨b,w',rfl,hb,_,_,ho'⟩:=h'
 exact .inr ⟨a,b,_,_,rfl,rfl,ha,hb,.cons (bT rfl) (.cons (bT rfl) (.cons (aZ3 ho ho') .nil))⟩
theorem aYb {H:Hp} {v u:V} {t:Str × Str} (h:jW K H v t) (h':jW K H u t):DEq K H 2 v u:=by
 obtain ⟨a,rfl,ha,_⟩:=h
 obtain ⟨b,rfl,hb,_⟩:=h'
 exact .inr ⟨a,b,_,_,rfl,rfl,ha,hb,.cons (bT rfl) (.cons (bT rfl) .nil)⟩
theorem aXo {H:Hp} {v u:V} {t:Str × Str} (h:nW K H v t) (h':nW K H u t):DEq K H 2 v u:=by
 obtain ⟨a,rfl,ha,_⟩:=h
 obtain ⟨b,rfl,hb,_⟩:=h'
 exact .inr ⟨a,b,_,_,rfl,rfl,ha,hb,.cons (bT rfl) (.cons (bT rfl) .nil)⟩
theorem aW3 {H:Hp} {v u:V} {t:Sm} (h:lV K H v t) (h':lV K H u t):DEq K H 2 v u:=by
 obtain ⟨a,rfl,_,h⟩:=h
 obtain ⟨b,rfl,_,h'⟩:=h'
 rcases h with ⟨x,y,z⟩|⟨c,x,y,z,g⟩
 ·rcases h' with ⟨x',y',z'⟩|⟨c',x',y',z',g'⟩
  ·exact .inr ⟨a,b,_,_,rfl,rfl,z,z',.cons (bT rfl) (.cons (bT rfl) (.cons (bT rfl) .nil))⟩
  ·rw [y] at x';cases x'
 ·rcases h' with ⟨x',y',z'⟩|⟨c',x',y',z',g'⟩
  ·rw [y'] at x;cases x
  ·rw [x] at x';cases x'
   exact .inr ⟨a,b,_,_,rfl,rfl,g,g',.cons (bT rfl) (.cons (bT rfl) (.cons (bT rfl) .nil))⟩
theorem aRg {H:Hp} {v u:V} {t:Str} (h:fH K H v t) (h':fH K H u t):DEq K H 2 v u:=by
 obtain ⟨rfl,_⟩:=h
 obtain ⟨rfl,_⟩:=h'
 exact bT rfl
theorem aOt {H:Hp} {v:V} {q:Qn} (h:IsQ K H v q):∀{u:V},IsQ K H u q→∃a b xs ys,v=.ref a∧u=.ref b∧SqT K H a xs∧SqT K H b ys∧Al2 (DEq K H (size q+3)) xs ys:=by
 have go:∀{v u:V} {q:Qn},(∃a b xs ys,v=.ref a∧u=.ref b∧SqT K H a xs∧SqT K H b ys∧Al2 (DEq K H (size q+3)) xs ys)→DEq K H (size q+4) v u:=fun ⟨a,b,xs,ys,e1,e2,ha,hb,h⟩=>.inr ⟨a,b,xs,ys,e1,e2,ha,hb,h⟩
 induction h with
 |table a _=>
  intro u hu
  cases hu with
  |table a' _=>exact ⟨_,_,_,_,rfl,rfl,a,a',.cons (bT rfl) (.cons (bT rfl) .nil)⟩
 |whr a _ c ih=>
  intro u hu
  cases hu with
  |whr a' b' c'=>
   have:=c.2.1
   exact ⟨_,_,_,_,rfl,rfl,a,a',.cons (bT rfl) (.cons (gW (size _+4) _ (by simp only [size];lia) (go (ih b'))) (.cons (gW 3 _ (by lia) (qQ (n:=2) (R:=IsT K H) (fun _ _ _=>bAe) c.1 c'.1)) .nil))⟩
 |keep a _ c ih=>
  intro u hu
  cases hu with
  |keep a' b' c'=>exact ⟨_,_,_,_,rfl,rfl,a,a',.cons (bT rfl) (.cons (gW (size _+4) _ (by simp only [size];lia) (go (ih b'))) (.cons (gW 3 _ (by lia) (qQ (n:=2) (R:=fH K H) (fun _ _ _=>aRg) c.1 c'.1)) .nil))⟩
 |nmd a _ c ih=>
  intro u hu
  cases hu with
  |nmd a' b' c'=>exact ⟨_,_,_,_,rfl,rfl,a,a',.cons (bT rfl) (.cons (gW (size _+4) _ (by simp only [size];lia) (go (ih b'))) (.cons (gW 3 _ (by lia) (qQ (n:=2) (R:=fH K H) (fun _ _ _=>aRg) c.1 c'.1)) .nil))⟩
 |join a _ _ c ih1 ih2=>
  intro u hu
  cases hu with
  |join a' b' d' c'=>exact ⟨_,_,_,_,rfl,rfl,a,a',.cons (bT rfl) (.cons (gW (size _+4) _ (by simp only [size];lia) (go (ih1 b'))) (.cons (gW (size _+4) _ (by simp only [size];lia) (go (ih2 d'))) (.cons (gW 3 _ (by lia) (qQ (n:=2) (R:=jW K H) (fun _ _ _=>aYb) c.1 c'.1)) .nil)))⟩
 |group a _ c d ih=>
  intro u hu
  cases hu with
  |group a' b' c' d'=>exact ⟨_,_,_,_,rfl,rfl,a,a',.cons (bT rfl) (.cons (gW (size _+4) _ (by simp only [size];lia) (go (ih b'))) (.cons (gW 3 _ (by lia) (qQ (n:=2) (R:=fH K H) (fun _ _ _=>aRg) c.1 c'.1)) (.cons (gW 3 _ (by lia) (qQ (n:=2) (R:=lV K H) (fun _ _ _=>aW3) d.1 d'.1)) .nil)))⟩
 |first a _ c d ih=>
  intro u hu
  cases hu with
  |first a' b' c' d'=>exact ⟨_,_,_,_,rfl,rfl,a,a',.cons (bT rfl) (.cons (gW (size _+4) _ (by simp only [size];lia) (go (ih b'))) (.cons (gW 3 _ (by lia) (qQ (n:=2) (R:=nW K H) (fun _ _ _=>aXo) c.1 c'.1)) (.cons (bT rfl) .nil)))⟩
theorem aRl {H:Hp} {v u:V} {q:Qn} (h:IsQ K H v q) (h':IsQ K H u q) (hz:size q≤37):∃a b xs ys,v=.ref a∧u=.ref b∧SqT K H a xs∧SqT K H b ys∧Al2 (DEq K H 40) xs ys:=by
 obtain ⟨a,b,xs,ys,e1,e2,ha,hb,h⟩:=aOt h h'
 refine ⟨a,b,xs,ys,e1,e2,ha,hb,?_⟩
 clear ha hb e1 e2
 induction h with
 |nil=>exact .nil
 |cons r _ ih=>exact .cons (gW _ _ (by lia) r) ih
theorem aAg (T:Txt w K mg):Ok P w K mg base 1 "_law_columns" ["_law_test"] (wM K):=by
 refine Ok.ofV T.aA7 aAe (fun vs H Q E h=>?_) (fun f cdv A outer s H vs Q E hr h=>?_)
 ·obtain ⟨v,t,rfl,_⟩:=h;rfl
 obtain ⟨v,⟨c,sg,o⟩,rfl,⟨a,w,rfl,ha,n1,s1,ho⟩,q⟩:=h
 refine ⟨_,(aC (bR (aU cG (aH aR (aH aR (vv 0) aD (fun _ _=>rfl)) aD (fun _ _=>rfl)) aO (aZ _)) (aF (aM (cO (aB (aH aR (vv 0) aD (fun _ _=>rfl)) (aB (aH aR (aH aR (vv 0) aD (fun _ _=>rfl)) aD (fun _ _=>rfl)) aA))))) bA) (aF (aM (cO (aB (aH aR (vv 0) aD (fun _ _=>rfl)) aA))))),?_⟩
 cases o with
 |val x=>
  obtain ⟨b,rfl,hb,_⟩:=ho
  exact ⟨_,rfl,_,_,2,_,rfl,rfl,ha,at2 _ _ _ _,_,_,0,_,rfl,rfl,hb,at0 _ _,rfl,_,rfl,bC ⟨_,rfl,_,_,0,_,rfl,rfl,ha,at0 _ _,(by show 1≤sizeLine;decide),fun D H' _ s' g=>q D H' s' g⟩⟩
 |col d=>
  obtain ⟨b,rfl,hb,_⟩:=ho
  exact ⟨_,rfl,_,_,2,_,rfl,rfl,ha,at2 _ _ _ _,_,_,0,_,rfl,rfl,hb,at0 _ _,rfl,_,rfl,cC ⟨_,rfl,_,_,0,_,rfl,rfl,ha,at0 _ _,_,rfl,_,_,2,_,rfl,rfl,ha,at2 _ _ _ _,_,_,1,_,rfl,rfl,hb,at1 _ _ _,(by show 2≤sizeLine;decide),fun D H' _ s' g=>q D H' s' g⟩⟩
theorem aQd (t:Tst):(bI t).length≤2:=by unfold bI;cases t.o <;> simp
theorem aB4:∀{ns os:List Str} {n:Str},ns.length=os.length→n∈ns→∃j:Nat,ns[j]?=some n∧os[j]?=some (elder ns os n)∧∀(m:Nat) (t':Str),m<j→ns[m]?=some t'→t'≠n
 |m::ns,o::os,n,l,h=>by
  by_cases e:m=n
  ·subst e
   refine ⟨0,rfl,?_,fun m t' h=>by lia⟩
   unfold elder
   rw [List.zip_cons_cons,List.find?_cons,decide_eq_true rfl]
   rfl
  ·have h':n∈ns:=by
    rcases List.mem_cons.mp h with h|h
    ·exact absurd h.symm e
    ·exact h
   obtain ⟨j,h1,h2,h3⟩:=aB4 (ns:=ns) (os:=os) (by simpa using l) h'
   refine ⟨j+1,by simpa using h1,?_,fun i t' hi ht=>?_⟩
   ·unfold elder at h2 ⊢
    rw [List.zip_cons_cons,List.find?_cons,decide_eq_false e]
    simpa using h2
   ·cases i with
    |zero=>cases ht;exact e
    |succ i=>exact h3 i t' (by lia) (by simpa using ht)
 |[],_,n,_,h=>by cases h
 |_::_,[],n,l,_=>by cases l
def aFl (K:PySem.W.Frag):Sp:=fun vs H Q _=>∃v a b t ns os,vs=[v,.ref a,.ref b]∧IsT K H v t∧SqL K H a (ns.map V.str)∧SqL K H b (os.map V.str)∧ns.length=os.length∧(∀n∈bI t,n∈ns)∧(∀o∈os,Nm o)∧∀v' H',Same H H'→IsT K H' v' (aH8 (elder ns os) t)→Q v' H'
theorem aDb (T:Txt w K mg):Ok P w K mg base 1 "_law_elder" ["_law_test","_law_names_here","_law_others"] (aFl K):=by
 refine Ok.ofV T.aHf iI (fun vs H Q E h=>?_) (fun f cdv A outer s H vs Q E hr h=>?_)
 ·obtain ⟨v,a,b,t,ns,os,rfl,_⟩:=h;rfl
 obtain ⟨v,a,b,⟨c,sg,o⟩,ns,os,rfl,⟨p,w,rfl,hp,n1,s1,ho⟩,ha,hb,hl,hc,hN,q⟩:=h
 refine ⟨_,(aC (rF (vv 0) (mG rfl (bB (aL (i:=3) iI.nd rfl (by trivial)) (bB (aL (i:=4) iI.nd rfl (by trivial)) (bB (aL (i:=5) iI.nd rfl (by trivial)) cW))))) (aC (bR (aU cG (aH aR (vv 5) aD (fun _ _=>rfl)) aO (aZ _)) (aF (aV (i:=5) iI.nd rfl (by trivial) (aY (aB aO (aB (aH bN (vv 2) (uN PySem.F.plainAttrs_list PySem.F.slot_list_index PySem.F.type_list_index aEi (vv 1) (aB (aH aR (vv 5) aD (fun _ _=>rfl)) aA)) (fun _ _=>rfl)) aA))))) bA) (aF (aM (aY (aB (aH bN (vv 2) (uN PySem.F.plainAttrs_list PySem.F.slot_list_index PySem.F.type_list_index aEi (vv 1) (aB (vv 3) aA)) (fun _ _=>rfl)) (aB (vv 4) (aB (vv 5) aA)))))))),?_⟩
 obtain ⟨j,j1,j2,j3⟩:=aB4 hl (hc c (by cases o <;> simp [bI]))
 have jo:(os.map V.str)[j]?=some (.str (elder ns os c)):=by rw [List.getElem?_map,j2];rfl
 cases o with
 |val x=>
  obtain ⟨b',rfl,hb',hx⟩:=ho
  refine ⟨_,rfl,p,_,rfl,hp,rfl,_,_,rfl,_,_,rfl,_,_,rfl,rfl,?_⟩
  refine ⟨_,rfl,_,_,0,_,rfl,rfl,hb',at0 _ _,rfl,_,rfl,bC ?_⟩
  exact ⟨_,rfl,_,rfl,.inl ⟨rfl,_,ha⟩,_,rfl,a,ns,c,j,rfl,rfl,ha,j1,j3,b,_,_,_,rfl,rfl,hb,cF jo,_,rfl,_,rfl,(by show 3≤sizeLine;decide),fun r H' _ s' g=>q _ _ s' ⟨r,_,rfl,SqT.of g,hN _ (List.mem_of_getElem? j2),s1,⟨b',rfl,s'.aK hb',hx.1.same s',hx.2⟩⟩⟩
 |col e=>
  obtain ⟨b',rfl,hb',hx⟩:=ho
  obtain ⟨i,i1,i2,i3⟩:=aB4 hl (hc e (by simp [bI]))
  have io:(os.map V.str)[i]?=some (.str (elder ns os e)):=by rw [List.getElem?_map,i2];rfl
  refine ⟨_,rfl,p,_,rfl,hp,rfl,_,_,rfl,_,_,rfl,_,_,rfl,rfl,?_⟩
  refine ⟨_,rfl,_,_,0,_,rfl,rfl,hb',at0 _ _,rfl,_,rfl,cC ?_⟩
  refine ⟨_,rfl,_,rfl,.inl ⟨rfl,_,ha⟩,_,rfl,_,_,1,_,rfl,rfl,hb',at1 _ _ _,a,ns,e,i,rfl,rfl,ha,i1,i3,b,_,_,_,rfl,rfl,hb,cF io,(by show 2≤sizeLine;decide),fun z H1 _ s1' g1=>?_⟩
  exact ⟨_,rfl,_,rfl,.inl ⟨rfl,_,s1'.seq ha⟩,_,rfl,a,ns,c,j,rfl,rfl,s1'.seq ha,j1,j3,b,_,_,_,rfl,rfl,s1'.seq hb,cF jo,_,rfl,_,rfl,(by show 3≤sizeLine;decide),fun r H' _ s' g=>q _ _ (s1'.trans s') ⟨r,_,rfl,SqT.of g,hN _ (List.mem_of_getElem? j2),s1,⟨z,rfl,SqT.of (s' _ _ g1),hN _ (List.mem_of_getElem? i2)⟩⟩⟩
def aMn (K:PySem.W.Frag):Sp:=fun vs H Q _=>∃u v t q,vs=[u,v]∧IsT K H u t∧IsQ K H v q∧∀v' H',Same H H'→IsQ K H' v' (.whr q [t])→Q v' H'
theorem yX (T:Txt w K mg):Ok P w K mg base 1 "_law_at_table" ["_law_test","_law_table"] (aMn K):=by
 refine Ok.ofV T.aAn yJ (fun vs H Q E h=>?_) (fun f cdv A outer s H vs Q E hr h=>?_)
 ·obtain ⟨u,v,t,q,rfl,_⟩:=h;rfl
 obtain ⟨u,v,t,q0,rfl,hu,hv,q⟩:=h
 refine ⟨_,(aF (aM (aY (aB aO (aB (vv 1) (aB (aY (aB (vv 0) aA)) aA)))))),?_⟩
 exact ⟨_,rfl,_,rfl,(by show 1≤sizeLine;decide),fun p H3 _ s3 g3=>⟨(by show 3≤sizeLine;decide),fun p2 H4 _ s4 g4=>q _ _ (s3.trans s4) (.whr (SqT.of g4) (hv.same (s3.trans s4)) ⟨⟨p,[u],rfl,SqT.of (s4 _ _ g3),.cons (hu.same (s3.trans s4)) .nil⟩,(by show 1≤1;decide),(by show 1≤3;decide)⟩)⟩⟩
def rot {α:Type} (k:Nat) (l:List α):List α:=l.drop k++l.take k
theorem aB7 {α:Type} (k:Nat) (l:List α):(rot k l).Perm l:=List.perm_append_comm.trans (by rw [List.take_append_drop])
theorem aVs {α β:Type} (f:α→β) (k:Nat) (l:List α):(rot k l).map f=rot k (l.map f):=by
 unfold rot
 rw [List.map_append,List.map_drop,List.map_take]
theorem aNz {α:Type} (k:Nat) (l:List α):(rot k l).length=l.length:=(aB7 k l).length_eq
theorem aOe {α β:Type} {R:α→β→Prop} {as:List α} {bs:List β} (h:bL R as bs):∀n,bL R (as.drop n) (bs.drop n):=by
 induction h with
 |nil=>intro n;rw [List.drop_nil,List.drop_nil];exact .nil
 |cons r t ih=>
  intro n
  cases n with
  |zero=>exact .cons r t
  |succ n=>exact ih n
theorem aS8 {α β:Type} {R:α→β→Prop} {as:List α} {bs:List β} (h:bL R as bs) (k:Nat):bL R (rot k as) (rot k bs):=(aOe h k).app (zL h k)
theorem aKs {α β:Type} {R:α→β→Prop} {as:List α} {bs:List β} (h:bL R as bs):∀n,bL R (as.eraseIdx n) (bs.eraseIdx n):=by
 induction h with
 |nil=>intro n;exact .nil
 |cons r t ih=>
  intro n
  cases n with
  |zero=>exact t
  |succ n=>exact .cons r (ih n)
def aTb (hd ho:Hdr) (ps:List (Str × Str)):Prop:=(∃ks,bL (fun p k=>look hd p.1=some k∧look ho p.2=some k) ps ks)∧(ps.map (·.1)).Nodup∧(ps.map (·.2)).Nodup
structure aBe (hd ho hr:Hdr) (i:Nat) (hl:Hdr) (ps:List (Str × Str)):Prop where
 sub:hl.Sublist ho
 mem:∀p∈ps,∃kd,(p.1,kd)∈hd∧(p.2,kd)∈ho∧p.2∉hl.map (·.1)∧p.1∈(hr.take i).map (·.1)
 n1:(ps.map (·.1)).Nodup
 n2:(ps.map (·.2)).Nodup
 len:ps.length≤3
theorem aY8 {hd ho hr:Hdr}:aBe hd ho hr 0 ho []:=⟨List.Sublist.refl _,fun p h=>absurd h (by simp),List.nodup_nil,List.nodup_nil,by simp⟩
theorem aD3 {hr:Hdr} {i:Nat} {n:Str} (h:n∈(hr.take i).map (·.1)):n∈(hr.take (i+1)).map (·.1):=by
 rw [List.take_add_one,List.map_append]
 exact List.mem_append_left _ h
theorem aBe.next {hd ho hr hl:Hdr} {i:Nat} {ps:List (Str × Str)} (h:aBe hd ho hr i hl ps):aBe hd ho hr (i+1) hl ps:=⟨h.sub,fun p hp=>by
 obtain ⟨kd,h1,h2,h3,h4⟩:=h.mem p hp
 exact ⟨kd,h1,h2,h3,aD3 h4⟩,h.n1,h.n2,h.len⟩
theorem aTk {hl:Hdr} (nd:(hl.map (·.1)).Nodup) {i j:Nat} {c d:Str × Str} (hc:hl[i]?=some c) (hd:hl[j]?=some d) (e:c.1=d.1):i=j:=by
 have h1:(hl.map (·.1))[i]?=some c.1:=by rw [List.getElem?_map,hc];rfl
 have h2:(hl.map (·.1))[j]?=some c.1:=by rw [List.getElem?_map,hd,e];rfl
 have hi:i<(hl.map (·.1)).length:=(List.getElem?_eq_some_iff.mp h1).1
 exact (List.getElem?_inj hi nd).mp (h1.trans h2.symm)
theorem aX9 {hl:Hdr} (nd:(hl.map (·.1)).Nodup) {j:Nat} {d:Str × Str} (hd:hl[j]?=some d):d.1∉(hl.eraseIdx j).map (·.1):=by
 intro h
 obtain ⟨x,hx,e⟩:=List.mem_map.mp h
 obtain ⟨i,hi,hi2⟩:=List.mem_eraseIdx_iff_getElem?.mp hx
 exact hi (aTk nd hi2 hd e)
theorem aUr {hr:Hdr} (nd:(hr.map (·.1)).Nodup) {i:Nat} {d:Str × Str} (hd:hr[i]?=some d):d.1∉(hr.take i).map (·.1):=by
 intro h
 obtain ⟨x,hx,e⟩:=List.mem_map.mp h
 obtain ⟨j,hj⟩:=List.getElem?_of_mem hx
 rw [List.getElem?_take] at hj
 split at hj
 ·rename_i hlt
  have:=aTk nd hj hd e
  lia
 ·cases hj
theorem aBe.add {hd ho hr hl:Hdr} {i j:Nat} {ps:List (Str × Str)} {c cx:Str × Str} (h:aBe hd ho hr i hl ps) (nd:(hr.map (·.1)).Nodup) (nd2:(ho.map (·.1)).Nodup) (pm:∀c∈hr,c∈hd) (hc:hr[i]?=some c) (hx:hl[j]?=some cx) (e:cx.2=c.2) (l3:ps.length<3) :
  aBe hd ho hr (i+1) (hl.eraseIdx j) (ps++[(c.1,cx.1)]):=by
 have ndl:(hl.map (·.1)).Nodup:=nd2.sublist (h.sub.map _)
 refine ⟨(List.eraseIdx_sublist hl j).trans h.sub,fun p hp=>?_,?_,?_,?_⟩
 ·rcases List.mem_append.mp hp with hp|hp
  ·obtain ⟨kd,h1,h2,h3,h4⟩:=h.mem p hp
   exact ⟨kd,h1,h2,fun z=>h3 (((List.eraseIdx_sublist hl j).map _).subset z),aD3 h4⟩
  ·rw [List.mem_singleton] at hp
   subst hp
   refine ⟨c.2,pm c (List.mem_of_getElem? hc),?_,aX9 ndl hx,?_⟩
   ·rw [←e]
    exact h.sub.subset (List.mem_of_getElem? hx)
   ·rw [List.take_add_one,hc,List.map_append]
    exact List.mem_append_right _ (by simp)
 ·rw [List.map_append,List.nodup_append]
  refine ⟨h.n1,by simp,fun x hx' y hy e'=>?_⟩
  rw [List.map_cons,List.map_nil,List.mem_singleton] at hy
  subst e' hy
  obtain ⟨p,hp,ep⟩:=List.mem_map.mp hx'
  obtain ⟨kd,_,_,_,h4⟩:=h.mem p hp
  rw [ep] at h4
  exact aUr nd hc h4
 ·rw [List.map_append,List.nodup_append]
  refine ⟨h.n2,by simp,fun x hx' y hy e'=>?_⟩
  rw [List.map_cons,List.map_nil,List.mem_singleton] at hy
  subst e' hy
  obtain ⟨p,hp,ep⟩:=List.mem_map.mp hx'
  obtain ⟨kd,_,_,h3,_⟩:=h.mem p hp
  rw [ep] at h3
  exact h3 (List.mem_map.mpr ⟨cx,List.mem_of_getElem? hx,rfl⟩)
 ·rw [List.length_append]
  show ps.length+1≤3
  lia
theorem aBe.fin {hd ho hr hl:Hdr} {i:Nat} {ps:List (Str × Str)} (h:aBe hd ho hr i hl ps) (nd:(hd.map (·.1)).Nodup) (nd2:(ho.map (·.1)).Nodup):aTb hd ho ps:=by
 refine ⟨?_,h.n1,h.n2⟩
 have hm:=h.mem
 clear h
 induction ps with
 |nil=>exact ⟨[],.nil⟩
 |cons p r ih=>
  obtain ⟨ks,hk⟩:=ih fun p hp=>hm p (List.mem_cons_of_mem _ hp)
  obtain ⟨kd,h1,h2,_⟩:=hm p (List.mem_cons_self ..)
  exact ⟨kd::ks,.cons ⟨jH nd h1,jH nd2 h2⟩ hk⟩
theorem aUp {R:Nat→V→Prop} {is:List Nat} {ys:List V} (h:mF R is ys):∀y∈ys,∃i,R i y:=by
 induction h with
 |nil=>intro y hy;cases hy
 |cons r _ ih=>
  intro y hy
  rcases List.mem_cons.mp hy with e|hy
  ·subst e;exact ⟨_,r⟩
  ·exact ih y hy
def kdP (hl:Hdr) (kd:Str) (i:Nat):Bool:=match hl[i]? with
 |some c=>decide (V.str c.2=V.str kd)
 |none=>false
theorem aPn {X:Cx} {scope:Scope} {Nn:List Str} {tl:TE} {σ:L2.St} {H:Hp} {Q:VK} {L:Addr} {vs:List V} {hl:Hdr} {kd:Str} (hL:H L=some (.lst vs)) (hv:bL (IsC K H) vs hl) (h8:hl.length≤100) (cap:Cap X scope Nn σ [none,some (.str kd)]) (hw:∀R:VK,R (.ref L) H→tl σ H R)
  (q:∀D H' ys,H D=none→Same H H'→H' D=some (.lst ys)→(ys.length≤vs.length)→(∀y∈ys,∃(j:Nat) (c:Str × Str),vs[j]?=some y∧hl[j]?=some c∧c.2=kd)→Q (.ref D) H') :
  iQ X scope Nn (rG K tl) (bO 0) (aJa (tOp rEq (tOp (aW4 K) (uR 0) (tC (.int 1))) (uR 1))) (uR 0) σ H Q:=by
 have lv:=hv.len
 refine rQ [none,some (.str kd)] cap (hw _ ⟨L,rfl,⟨_,SqL.of hL⟩,yG Same (oW H) vs (kdP hl kd) (fun i _ y=>∃c,vs[i]?=some y∧hl[i]?=some c∧c.2=kd) (fun _ _ h=>h) (fun _ _ _ h=>h) (fun i σ=>∃y,vs[i]?=some y∧At1 [none,some (.str kd)] y σ) (Ps1 [none,some (.str kd)]) ⟨none,rfl⟩ (small (by lia)) _ (yE fun H' s'=>SqL.of (s' _ _ hL)) (pO fun H' s'=>SqL.of (s' _ _ hL)) (fun i x σ' H' Q' ex hps s' qq=>?_) (fun i x σ2 ex hA H' R s' r=>?_) (fun i x σ2 ex hA hp H' R s' r=>?_) fun D H2 ys s2 fD g2 hys=>?_⟩)
 ·exact hg1 (i:=i) hps fun σ2 h1 h2=>qq σ2 h1 ⟨x,ex,h2⟩
 ·obtain ⟨y,hy,l,rfl⟩:=hA
  rw [ex] at hy
  cases hy
  obtain ⟨c,hc,p,rfl,hp⟩:=bJ hv ex
  have e:kdP hl kd i=decide (V.str c.2=V.str kd):=by unfold kdP;rw [hc]
  refine ⟨_,by cases l <;> rfl,p,_,1,_,rfl,rfl,s'.aK hp,at1 _ _ _,_,by cases l <;> rfl,rfl,_,rfl,?_⟩
  rw [←e]
  exact r H' (Same.refl H')
 ·obtain ⟨y,hy,l,rfl⟩:=hA
  rw [ex] at hy
  cases hy
  obtain ⟨c,hc,_⟩:=bJ hv ex
  unfold kdP at hp
  rw [hc] at hp
  exact ⟨_,by cases l <;> rfl,r _ _ (Same.refl H') ⟨c,ex,hc,V.str.inj (of_decide_eq_true hp)⟩⟩
 ·refine q D H2 ys fD s2 g2 ?_ fun y hy=>?_
  ·rw [←hys.len]
   have:=uD (kdP hl kd) 0 (List.range vs.length)
   rw [List.length_range] at this
   exact this
  ·obtain ⟨i,c,h1,h2,h3⟩:=aUp hys y hy
   exact ⟨i,c,h1,h2,h3⟩
theorem aV1 {c:TT} {t u:TS} {D:Ends} {σ:L2.St} {H:Hp} (Y N:Hp→Prop) (hc:∀R:Bool→Hp→Prop,(∀H8,Y H8→R true H8)→(∀H8,N H8→R false H8)→c σ H R) (go:∀H8,Y H8→t D σ H8) (no:∀H8,N H8→u D σ H8):aLd c t u D σ H:=
 hc _ (fun H8 y=>cC (go H8 y)) (fun H8 y=>bC (no H8 y))
theorem _root_.L2.Fx.bAw {K:PySem.W.Frag} {a p:Addr} {H H':Hp} {xs:List V} (f:Fx a H H') (n:p≠a) (e:SqL K H p xs):SqL K H' p xs:=by
 rcases e with (e|⟨o,e⟩)|e
 ·exact .inl (.inl (f.same _ _ n e))
 ·exact .inl (.inr ⟨o,f.same _ _ n e⟩)
 ·exact .inr e
def aI2 (K:PySem.W.Frag):Sp:=fun vs H Q _=>∃(a:Addr) (vh vo:V) (hd ho:Hdr),vs=[.ref a,vh,vo]∧lO H a∧eG K H vh hd∧uG hd∧(∃o os,vo=.ref o∧SqL K H o os∧o≠a∧bL (IsC K H) os ho)∧uG ho ∧
 ∀p H' us ps,Fx a H H'→H' p=some (.tup us)→bL (jW K H') us ps→aTb hd ho ps→ps.length≤3→Q (.ref p) H'
theorem aDp (T:Txt w K mg) (aN:Ok P w K mg base 1 "_law_next" ["_law_state","_law_many"] gR) :
  Ok P w K mg base 2 "_law_pairs" ["_law_state","_law_head_here","_law_other"] (aI2 K):=by
 refine Ok.ofV T.aHe dN (fun vs H Q E h=>?_) (fun f cdv A outer s H vs Q E hr h=>?_)
 ·obtain ⟨a,vh,vo,hd,ho,rfl,_⟩:=h;rfl
 obtain ⟨a,vh,vo,hd,ho,rfl,hst,⟨b,us,rfl,hb,hus⟩,hok,⟨o,os,rfl,hO,nOa,hos⟩,hok2,q⟩:=h
 have hu:=uP hr
 have hU:=hr.units
 refine ⟨_,(aC (aV (i:=3) dN.nd rfl (by trivial) (aJ (aN.mono (by decide)) hr (by rfl) (aB (vv 0) (aB (aW aX (by rfl) T.dB cH (aB (vv 1) aA)) aA)))) (aC (aV (i:=4) dN.nd rfl (by trivial) (bF qZ (by rfl) T.aBu yC (aB (vv 2) aA))) (aC (aV (i:=5) dN.nd rfl (by trivial) (cO aA)) (aC (jD PassesOwn.never rfl (eO (bW pX (dW xJ (vv 1) (eX (vv 3)) gU) (dW xJ (vv 1) gU (eX (vv 3))))) (mG rfl (bB (aL (i:=6) dN.nd rfl (by trivial)) (bB (aL (i:=7) dN.nd rfl (by trivial)) cW))) (aC (iR (i0:=8) dN.nd rfl (by trivial) (N:=["_law_column","_law_kind"]) (by trivial) (cV (aG mW) rfl (by decide +kernel)) rfl (eE (vv 4)) (fun cl s' H' fp=>⟨(aL (i:=0) (show (["_law_column","_law_kind"]:List Str).Nodup from by decide +kernel) rfl (Or.inl rfl)),(pZ (aU cG (aH (cD (K:=K)) (vv 0) aD (fun _ _=>rfl)) (vv 1) (aZ _))),(vv 0)⟩)) (aF (bR (VW.pt (yZ (aU (aYz (Nat.lt_of_succ_lt hu)) (vv 8) (cO aA) (aZ _)) (yZ (aU aR2 (aW aX (by rfl) T.dB cH (aB (vv 5) aA)) aD (aZ _)) (xR (VW.pt (sJ (aU (aYc (Nat.lt_of_succ_lt hu)) (vv 5) (cO aA) (aZ _)) (pI (aU cG (aJ (aN.mono (by decide)) hr (by rfl) (aB (vv 0) (aB aD aA))) aD (aZ _))))))))) (aC (aV (i:=9) dN.nd rfl (by trivial) (aH bN (vv 8) (aJ (aN.mono (by decide)) hr (by rfl) (aB (vv 0) (aB (aW aX (by rfl) T.dB cH (aB (vv 8) aA)) aA))) (fun _ _=>rfl))) (aC (eF (uN PySem.F.plainAttrs_list PySem.F.slot_list_remove PySem.F.type_list_remove (aP4 hU) (vv 4) (aB (vv 9) aA))) (aF (eF (uN PySem.F.plainAttrs_list PySem.F.slot_list_append PySem.F.type_list_append jZ (vv 5) (aB (aY (aB (vv 6) (aB (aH aR (vv 9) aD (fun _ _=>rfl)) aA))) aA)))))) bA)))) (aF (aM (bF bU (by rfl) T.cP cA (aB (vv 5) aA)))))))),?_⟩
 obtain ⟨⟨nd,l1,l8⟩,hc⟩:=id hok
 obtain ⟨⟨nd2,m1,m8⟩,hc2⟩:=id hok2
 have lu:=hus.len
 have lo:=hos.len
 refine ⟨_,rfl,_,rfl,b,_,rfl,.inr hb,a,_,rfl,hst,(by show (0:Int)<(us.length:Int)∧(us.length:Int)<2 ^ 64;lia),fun t H1 f1 t0 t1=>?_⟩
 obtain ⟨k,rfl⟩:∃k:Nat,t=k:=⟨t.toNat,by lia⟩
 refine ⟨_,rfl,o,_,rfl,.inl (f1.bAw nOa hO),fun L H2 fL s2 g2=>?_⟩
 refine ⟨(by show 0≤sizeLine;decide),fun D H3 fD s3 g3=>?_⟩
 have f3:Fx a H H3:=(f1.sm s2).sm s3
 have tk3:TK K H H3:=f3.tk hst
 have fL0:H L=none:=f1.free fL
 have fD0:H D=none:=(f1.sm s2).free fD
 have nLa:L≠a:=hst.ne fL0
 have nDa:D≠a:=hst.ne fD0
 have nLD:L≠D:=bD g2 fD
 refine ⟨_,rfl,_,rfl,_,rfl,b,_,rfl,tk3 _ _ hb,fun p4 H4 s4 g4=>⟨_,rfl,_,rfl,_,rfl,b,_,rfl,s4.aK (tk3 _ _ hb),fun p5 H5 s5 g5=>⟨p4,p5,_,_,rfl,rfl,s5.aK g4,g5,?_,fun p6 H6 s6 g6=>?_⟩⟩⟩
 ·rw [nA,tQ,←List.length_append]
  show (rot k us).length≤_
  rw [aNz]
  exact small (by lia)
 rw [nA,tQ] at g6
 have g6:SqT K H6 p6 (rot k us):=g6
 have s36:=s4.trans (s5.trans s6)
 have f6:Fx a H H6:=f3.sm s36
 have tk6:TK K H H6:=f6.tk hst
 have hus6:bL (IsC K H6) (rot k us) (rot k hd):=aS8 (hus.imp fun _ _ h=>h.tk tk6) k
 have ndr:((rot k hd).map (·.1)).Nodup:=by rw [aVs];exact ((aB7 k _).nodup_iff).mpr nd
 have pm:∀c∈rot k hd,c∈hd:=fun c h=>(aB7 k hd).mem_iff.mp h
 have lr:=aNz k us
 refine ⟨p6,rfl,⟨_,g6⟩,aAt (xs:=rot k us) (fun i σ H'=>(Fx a H H'∧TK K H6 H')∧∃(vs ws:List V) (hl:Hdr) (ps:List (Str × Str)) (l6 l7 l8 l9:Option V),H' L=some (.lst vs)∧H' D=some (.lst ws)∧bL (IsC K H') vs hl∧bL (jW K H') ws ps∧aBe hd ho (rot k hd) i hl ps∧σ=[some (.ref a),some (.ref b),some (.ref o),some (.int k),some (.ref L),some (.ref D),l6,l7,l8,l9]) ⟨⟨f6,fun _ _ e=>e⟩,_,_,ho,[],_,_,_,_,s36 _ _ (s3 _ _ g2),s36 _ _ g3,hos.imp fun _ _ h=>h.tk tk6,.nil,aY8,rfl⟩ (fun i σ H' _ ⟨e,_⟩=>e.2 _ _ g6) ?_ ?_⟩
 ·rintro i x σ H' hx ⟨⟨fl,tk'⟩,vs,ws,hl,ps,l6,l7,l8',l9,gL,gD,hvs,hws,pi,rfl⟩
  obtain ⟨c,hci,bx,rfl,hbx⟩:=bJ hus6 hx
  have lv:=hvs.len
  have lw:=hws.len
  have lh:=pi.sub.length_le
  have ndl:(hl.map (·.1)).Nodup:=nd2.sublist (pi.sub.map _)
  refine ⟨bx,_,rfl,tk' _ _ hbx,rfl,_,_,rfl,_,_,rfl,rfl,?_⟩
  dsimp only [bO,gY,iU]
  refine aPn (kd:=c.2) gL hvs (by lia) ?_ (fun R r=>⟨_,rfl,r⟩) fun S H7 ys fS s7 g7 ly hy=>?_
  ·exact cX 7 (by decide +kernel) rfl rfl (by trivial)
  have no:∀H8,Fx a H7 H8→(Fx a H H8∧TK K H6 H8)∧∃(vs ws:List V) (hl:Hdr) (ps:List (Str × Str)) (m6 m7 m8 m9:Option V),H8 L=some (.lst vs)∧H8 D=some (.lst ws)∧bL (IsC K H8) vs hl∧bL (jW K H8) ws ps∧aBe hd ho (rot k hd) (i+1) hl ps∧[some (.ref a),some (.ref b),some (.ref o),some (.int k),some (.ref L),some (.ref D),some (.str c.1),some (.str c.2),some (.ref S),l9]=[some (V.ref a),some (.ref b),some (.ref o),some (.int k),some (.ref L),some (.ref D),m6,m7,m8,m9]:=by
   intro H8 f8
   have f78:Fx a H' H8:=(Fx.of fl.st s7).trans f8
   have t78:TK K H' H8:=f78.tk fl.st
   exact ⟨⟨fl.trans f78,fun _ _ e=>t78 _ _ (tk' _ _ e)⟩,vs,ws,hl,ps,_,_,_,_,f78.same _ _ nLa gL,f78.same _ _ nDa gD,hvs.imp fun _ _ h=>h.tk t78,hws.imp fun _ _ h=>h.tk t78,pi.next,rfl⟩
  refine aV1 (fun H8=>Fx a H7 H8∧1≤ys.length∧ps.length<3) (fun H8=>Fx a H7 H8) (fun R y n=>?_) (fun H8 hY=>?_) (fun H8 f8=>no H8 f8)
  ·have st7:=fl.st.same s7
   refine ⟨_,rfl,(by show 0≤sizeLine;decide),fun E8 H8 _ s8 g8=>⟨S,E8,ys,rfl,rfl,SqL.of (s8 _ _ g7),SqL.of g8,_,rfl,lU (fun c1=>?_) (fun _=>n H8 (.of st7 s8))⟩⟩
   have ly1:1≤ys.length:=by
    cases ys with
    |nil=>cases c1
    |cons _ _=>rw [List.length_cons];lia
   refine ⟨_,rfl,D,_,rfl,.inl (SqL.of (s8 _ _ (s7 _ _ gD))),_,_,rfl,rfl,_,rfl,lU (fun c2=>?_) (fun _=>n H8 (.of st7 s8))⟩
   have lw3:ps.length<3:=by
    have:=of_decide_eq_true c2
    lia
   refine ⟨_,rfl,(by show 0≤sizeLine;decide),fun E9 H9 _ s9 g9=>⟨D,E9,ws,rfl,rfl,SqL.of (s9 _ _ (s8 _ _ (s7 _ _ gD))),SqL.of g9,_,rfl,lU (fun _=>y H9 ⟨.of st7 (s8.trans s9),ly1,lw3⟩) (fun _=>?_)⟩⟩
   refine ⟨_,rfl,a,3,rfl,st7.same (s8.trans s9),by decide,fun d H10 f10 d0 d1=>⟨rfl,_,rfl,?_⟩⟩
   have f:=(Fx.of st7 (s8.trans s9)).trans f10
   cases e:decide (V.int d=V.int 0) with
   |true=>exact y H10 ⟨f,ly1,lw3⟩
   |false=>exact n H10 f
  ·obtain ⟨f8,ly1,lw3⟩:=hY
   have f78:Fx a H' H8:=(Fx.of fl.st s7).trans f8
   have t78:TK K H' H8:=f78.tk fl.st
   have nSa:S≠a:=fl.st.ne fS
   refine ⟨_,rfl,_,rfl,_,rfl,S,_,rfl,.inl (SqL.of (f8.same _ _ nSa g7)),a,_,rfl,f8.st,(by show (0:Int)<(ys.length:Int)∧(ys.length:Int)<2 ^ 64;lia),fun d H9 f9 d0 d1=>?_⟩
   obtain ⟨m,rfl⟩:∃m:Nat,d=m:=⟨d.toNat,by lia⟩
   have f89:Fx a H' H9:=f78.trans f9
   have t89:TK K H' H9:=f89.tk fl.st
   have hm:m<ys.length:=by lia
   obtain ⟨j,cx,hj,hcx,ek⟩:=hy ys[m] (List.getElem_mem hm)
   obtain ⟨cx',hcx',px,epx,hpx⟩:=bJ hvs hj
   rw [hcx] at hcx'
   cases hcx'
   have hym:ys[m]?=some (.ref px):=by rw [List.getElem?_eq_getElem hm,epx]
   rw [epx] at hj
   refine ⟨S,_,_,_,rfl,rfl,SqL.of (f9.same _ _ nSa (f8.same _ _ nSa g7)),cF hym,?_⟩
   have gL9:=f89.same _ _ nLa gL
   have gD9:=f89.same _ _ nDa gD
   have hpx9:=t89 _ _ hpx
   refine ⟨_,rfl,.inl ⟨rfl,_,SqL.of gL9⟩,_,rfl,L,vs,_,j,_,rfl,rfl,gL9,hj,.inr ⟨px,px,_,_,rfl,rfl,hpx9,hpx9,.cons (bT rfl) (.cons (bT rfl) .nil)⟩,fun m' z' hm' hz'=>?_,?_⟩
   ·obtain ⟨cz,hcz,pz,rfl,hpz⟩:=bJ hvs hz'
    refine ⟨pz,px,cz,cx,rfl,rfl,t89 _ _ hpz,hpx9,fun e=>?_⟩
    have:=aTk ndl hcz hcx e
    lia
   have gD10:(upd H9 L (.lst (vs.eraseIdx j))) D=some (.lst ws):=by rw [bH nLD.symm];exact gD9
   refine ⟨_,rfl,.inl ⟨rfl,_,SqL.of gD10⟩,_,rfl,_,rfl,px,_,0,_,rfl,rfl,hpx9.dI gL9,at0 _ _,(by show 2≤sizeLine;decide),fun tz Hy ftz sy gy=>?_⟩
   have gDy:=sy _ _ gD10
   have gLy:Hy L=some (.lst (vs.eraseIdx j)):=sy _ _ aQ
   have ntD:tz≠D:=(bD gD10 ftz).symm
   have tky:TK K H' (upd Hy D (.lst (ws++[.ref tz]))):=fun _ _ e=>(sy.aK ((t89 _ _ e).dI gL9)).dI gDy
   refine ⟨D,_,_,rfl,rfl,gDy,fP (by lia),⟨?_,fun _ _ e=>tky _ _ (tk' _ _ e)⟩,vs.eraseIdx j,ws++[.ref tz],hl.eraseIdx j,ps++[(c.1,cx.1)],_,_,_,_,by rw [bH nLD];exact gLy,aQ,(aKs hvs j).imp fun _ _ h=>h.tk tky,(hws.imp fun _ _ h=>h.tk tky).app (.cons ⟨tz,rfl,SqT.of (by rw [bH ntD];exact gy),(hc c (pm c (List.mem_of_getElem? hci))).1,(hc2 cx (pi.sub.subset (List.mem_of_getElem? hcx))).1⟩ .nil),pi.add ndr nd2 pm hci hcx ek lw3,rfl⟩
   exact (((fl.trans f89).upd fL0 nLa).sm sy).upd fD0 nDa
 ·rintro σ H' ⟨⟨fl,tk'⟩,vs,ws,hl,ps,l6,l7,l8',l9,gL,gD,hvs,hws,pi,rfl⟩
  refine ⟨_,rfl,D,_,rfl,SqL.of gD,fun p9 H9 _ s9 g9=>?_⟩
  exact q p9 H9 ws ps (fl.sm s9) g9 (hws.imp fun _ _ h=>h.same s9) (pi.fin nd nd2) pi.len
theorem bL.aZy {α β:Type} {R:α→β→Prop} {as:List α} {bs:List β} (h:bL R as bs) {a:α} (m:a∈as):∃b,b∈bs∧R a b:=by
 obtain ⟨i,hi⟩:=List.getElem?_of_mem m
 obtain ⟨b,h1,h2⟩:=bJ h hi
 exact ⟨b,List.mem_of_getElem? h1,h2⟩
def oH (d own n:Str):Str:=if n=d then own else n
def yR (d own:Str) (h:Hdr):Hdr:=h.map fun c=>(oH d own c.1,c.2)
theorem aHx (d own:Str) (h:Hdr):(yR d own h).map (·.1)=(h.map (·.1)).map (oH d own):=by
 unfold yR
 rw [List.map_map,List.map_map]
 rfl
theorem aIm (d own:Str):∀(f:List Str) (hk:Hdr),List.zipWith (fun n c=>(n,c.2)) (f.map (oH d own)) hk=yR d own (List.zipWith (fun n c=>(n,c.2)) f hk)
 |[],_=>rfl
 |_::_,[]=>rfl
 |n::f,c::hk=>by
  show (oH d own n,c.2)::_=(oH d own n,c.2)::_
  rw [aIm d own f hk]
  rfl
theorem aN4 {d own:Str} {f:List Str} (nd:f.Nodup) (ho:own∉f):(f.map (oH d own)).Nodup:=by
 refine List.pairwise_map.mpr (nd.imp_of_mem fun {x y} hx hy ne e=>?_)
 unfold oH at e
 split at e
 ·rename_i ex
  split at e
  ·rename_i ey
   exact ne (ex.trans ey.symm)
  ·exact ho (by rw [e];exact hy)
 ·split at e
  ·exact ho (by rw [←e];exact hx)
  ·exact ne e
theorem aVg {d own n:Str} (h:n≠d):oH d own n=n:=if_neg h
theorem aX2 {hd h1:Hdr} {p0:Str × Str} {ps:List (Str × Str)} {own:Str} (nd1:(h1.map (·.1)).Nodup) (h:aTb hd h1 (p0::ps)) (ho:own∉h1.map (·.1)):aTb hd (yR p0.2 own h1) ((p0.1,own)::ps):=by
 obtain ⟨⟨ks,hk⟩,n1,n2⟩:=h
 have ndr:((yR p0.2 own h1).map (·.1)).Nodup:=by rw [aHx];exact aN4 nd1 ho
 have key:∀c:Str × Str,c∈h1→look (yR p0.2 own h1) (oH p0.2 own c.1)=some c.2:=fun c hc=>jH ndr (c:=(oH p0.2 own c.1,c.2)) (List.mem_map.mpr ⟨c,hc,rfl⟩)
 rw [List.map_cons,List.nodup_cons] at n2
 cases hk with
 |@cons _ k0 _ ks r t=>
  have a0:=key _ (qF r.2)
  have e0:oH p0.2 own p0.2=own:=if_pos rfl
  refine ⟨⟨k0::ks,.cons ⟨r.1,by rw [e0] at a0;exact a0⟩ ?_⟩,n1,?_⟩
  ·have n2':=n2.1
   clear n1 n2 r a0
   induction t with
   |nil=>exact .nil
   |@cons p k ps ks r t ih=>
    rw [List.map_cons,List.mem_cons,not_or] at n2'
    have a:=key _ (qF r.2)
    rw [aVg (fun z=>n2'.1 z.symm)] at a
    exact .cons ⟨r.1,a⟩ (ih n2'.2)
  ·rw [List.map_cons,List.nodup_cons]
   refine ⟨fun z=>?_,n2.2⟩
   obtain ⟨p,hp,e⟩:=List.mem_map.mp z
   obtain ⟨k,_,hk⟩:=t.aZy hp
   have:=jK hk.2
   rw [e] at this
   exact ho this
theorem aS0 {h1:Hdr} {p0:Str × Str} {ps:List (Str × Str)} {own:Str} (ho:own∉h1.map (·.1)):(yR p0.2 own h1).filter (fun c=>!decide (c.1∈((p0.1,own)::ps).map (·.2)))=h1.filter fun c=>!decide (c.1∈(p0::ps).map (·.2)):=by
 induction h1 with
 |nil=>rfl
 |cons c r ih=>
  rw [List.map_cons,List.mem_cons,not_or] at ho
  show List.filter _ ((oH p0.2 own c.1,c.2)::yR p0.2 own r)=_
  rw [List.filter_cons,List.filter_cons,ih ho.2]
  by_cases e:c.1=p0.2
  ·have e1:oH p0.2 own c.1=own:=if_pos e
   rw [e1]
   simp [e]
  ·have e1:oH p0.2 own c.1=c.1:=if_neg e
   have e2:¬ c.1=own:=fun z=>ho.1 z.symm
   rw [e1]
   simp only [List.map_cons,List.mem_cons,e,e2,false_or]
theorem aGd {hs:Str→Option Hdr} {q:Qn} {ns:List Str} {h:Hdr} (k:HQ hs (.nmd q ns) h):∃hk,HQ hs q hk∧ns.length=hk.length∧h=List.zipWith (fun n c=>(n,c.2)) ns hk:=by
 obtain ⟨ih,h1,h2,h3⟩:=k.in
 cases h1 with
 |cons r t=>
  cases t
  cases h2 with
  |nmd e=>exact ⟨_,r,e,rfl⟩
def leJ (ho:Hdr) (ds:List Str) (i:Nat):Bool:=match ho[i]? with
 |some c=>!decide (c.1∈ds)
 |none=>false
theorem aQ3 {H:Hp} {us:List V} {ps:List (Str × Str)} (h:bL (jW K H) us ps):bL (IsC K H) us ps:=h.imp fun _ _ ⟨a,e,g,_⟩=>⟨a,e,g⟩
theorem aS2 (ps:List (Str × Str)):(hdK ps).map (·.2)=(ps.map (·.2)).map V.str:=by
 unfold hdK
 rw [List.map_map,List.map_map]
 rfl
theorem aCl {H:Hp} {ws:List V} {ns:List Str} (h:bL (fH K H) ws ns):ws=ns.map V.str:=by
 induction h with
 |nil=>rfl
 |cons r _ ih=>rw [List.map_cons,ih,show _=_ from r.1]
theorem aY0 {n d own:Str}:atI [V.str n,V.str own] (if decide (V.str n=V.str d)=true then 1 else 0)=some (.str (oH d own n)):=by
 by_cases e:n=d
 ·have e1:oH d own n=own:=if_pos e
  rw [if_pos (decide_eq_true (by rw [e])),e1]
  exact at1 _ _ _
 ·have e1:oH d own n=n:=if_neg e
  rw [if_neg (fun z=>e (V.str.inj (of_decide_eq_true z))),e1]
  exact at0 _ _
theorem aU2 {α:Type} {f:α→Str} {ys:List V} {cs:List α} (hl:ys.length=cs.length) (h:∀(i:Nat) (y:V),ys[i]?=some y→∃c,cs[i]?=some c∧y=.str (f c)):ys=(cs.map f).map V.str:=by
 rw [List.map_map]
 refine List.ext_getElem? fun i=>?_
 by_cases hi:i<ys.length
 ·obtain ⟨c,h1,h2⟩:=h i ys[i] (List.getElem?_eq_getElem hi)
  rw [List.getElem?_eq_getElem hi,List.getElem?_map,h1,h2]
  rfl
 ·rw [List.getElem?_eq_none (by lia),List.getElem?_eq_none (by rw [List.length_map];lia)]
theorem aP8 {X:Cx} {scope:Scope} {N:List Str} {tl:TE} {σ:L2.St} {H:Hp} {Q:VK} {b:Addr} {us:List V} {cs:List (Str × Str)} (hb:SqT K H b us) (hu:bL (IsC K H) us cs) (h8:cs.length≤100) (cap:Cap X scope N σ [none,none]) (hw:∀R:VK,R (.ref b) H→tl σ H R)
  (q:∀D H',H D=none→Same H H'→H' D=some (.lst ((cs.map (·.2)).map V.str))→Q (.ref D) H'):iQ X scope N (aCx K tl) (aDa K 2 (jF (bO 0) (jF (bO 1) aAk))) pD (uR 1) σ H Q:=by
 have lu:=hu.len
 refine wF [none,none] cap (hw _ ⟨b,rfl,⟨_,hb⟩,yG Same (oW H) us (fun _=>true) (fun i _ y=>∃c,cs[i]?=some c∧y=.str c.2) (fun _ _ h=>h) (fun _ _ _ h=>h) (fun i σ=>∃c,cs[i]?=some c∧At2 [none,none] (.str c.1) (.str c.2) σ) (Ps2 [none,none]) ⟨none,none,rfl⟩ (small (by lia)) _ (aB0 fun H' s'=>s'.aK hb) (sS fun H' s'=>s'.aK hb) (fun i x σ' H' Q' ex hps s' qq=>?_) (fun i x σ2 ex hA H' R s' r=>r _ (Same.refl _)) (fun i x σ2 ex hA _ H' R s' r=>?_) fun D H1 ys s1 fD g1 hys=>?_⟩)
 ·obtain ⟨c,hc,p,rfl,hp⟩:=bJ hu ex
  exact hg2 (s'.aK hp) hps fun σ2 h1 h2=>qq σ2 h1 ⟨c,hc,h2⟩
 ·obtain ⟨c,hc,rfl⟩:=hA
  exact ⟨_,rfl,r _ _ (Same.refl H') ⟨c,hc,rfl⟩⟩
 ·rw [pP] at hys
  obtain ⟨l,hg⟩:=nP hys
  rw [aU2 (f:=fun c:Str × Str=>c.2) (by lia) hg] at g1
  exact q D H1 fD s1 g1
theorem aNp {hs:Str→Option Hdr} {q:Qn} {ns:List Str} {h:Hdr} (k:HQ hs (.nmd q ns) h):cL hs (.nmd q ns)=ns∧ns.length=(cL hs q).length:=by
 obtain ⟨hk,h1,h2,h3⟩:=aGd k
 have e:=fV h1
 have l:ns.length=(tO hs q).length:=by rw [e,h2]
 refine ⟨?_,by unfold cL;rw [List.length_map,l]⟩
 show (List.zipWith (fun n c=>(n,c.2)) ns (tO hs q)).map (·.1)=ns
 exact gP l
theorem aB5 {X:Cx} {scope:Scope} {N:List Str} {tl te:TE} {σ:L2.St} {H:Hp} {Q:VK} (U:V) (t:Tst) (ns:List Str) (cap:Cap X scope N σ [none,some U]) (hw:∀R:VK,(∀D H1,Same H H1→H1 D=some (.lst ((bI t).map V.str))→R (.ref D) H1)→tl σ H R)
  (he:∀(n:Str) l H' R,Same H H'→(∀H2,Same H' H2→R (.bl (decide (n∈ns))) H2)→te (([none,some U].set 0 l).set 0 (some (.str n))) H' R)
  (q:∀D H',Same H H'→H' D=some (.lst (((bI t).map fun n=>decide (n∈ns)).map V.bl))→Q (.ref D) H'):iQ X scope N (rG K tl) (bO 0) pD te σ H Q:=by
 have lc:=aQd t
 refine tR (K:=K) (fun us=>us=(bI t).map V.str) (fun i _ y=>∃n,(bI t)[i]?=some n∧y=.bl (decide (n∈ns))) (fun _ h=>h) (fun _ h=>h) [none,some U] cap rfl (fun R r=>hw R fun D H1 s1 g1=>r D H1 _ s1 g1 rfl) (fun us hus=>by subst hus;exact small (by rw [List.length_map];lia)) (fun us hus i x ex H' R l sm r=>?_) fun us hus D2 H2 ys t2 g2 hly hR=>?_
 ·subst hus
  obtain ⟨n,hn,rfl⟩:=dJ ex
  exact he n l H' _ sm fun H2 s2=>r _ H2 s2 ⟨n,hn,rfl⟩
 ·subst hus
  have ey:ys=((bI t).map fun n=>decide (n∈ns)).map V.bl:=by
   refine List.ext_getElem? fun i=>?_
   rw [List.getElem?_map,List.getElem?_map]
   rw [List.length_map] at hly
   by_cases hi:i<ys.length
   ·obtain ⟨n,hn,e⟩:=hR i ys[i] (List.getElem?_eq_getElem hi)
    rw [List.getElem?_eq_getElem hi,hn,e]
    rfl
   ·rw [List.getElem?_eq_none (by lia),List.getElem?_eq_none (by lia)]
    rfl
  rw [ey] at g2
  exact q D2 H2 t2 g2
def wr (ts:List Tst) (q:Qn):Qn:=ts.foldr (fun t q=>.whr q [t]) q
theorem aFo (hs:Str→Option Hdr) (q:Qn) (t:Tst):∀ts:List Tst,sink hs (wr ts q) t=wr ts (sink hs q t)
 |[]=>rfl
 |s::ts=>by
  show sink hs (.whr (wr ts q) [s]) t=.whr (wr ts (sink hs q t)) [s]
  rw [←aFo hs q t ts]
  rfl
theorem aT8 (q:Qn) (t:Tst) (ts:List Tst):wr (ts++[t]) q=wr ts (.whr q [t]):=by
 unfold wr
 rw [List.foldr_append]
 rfl
theorem aUt (hs:Str→Option Hdr) (T:Str) (ts:List Tst):ts.foldl (fun b t=>sink hs b t) (.table T)=wr ts (.table T):=by
 have key:∀(us vs:List Tst),us.foldl (fun b t=>sink hs b t) (wr vs (.table T))=wr (vs++us) (.table T):=by
  intro us
  induction us with
  |nil=>intro vs;rw [List.append_nil];rfl
  |cons u us ih=>
   intro vs
   rw [List.foldl_cons,aFo,show sink hs (.table T) u=.whr (.table T) [u] from rfl,←aT8,ih,List.append_assoc]
   rfl
 exact key ts []
theorem xP {H H4:Hp} {v u:V} {q:Qn} {t:Tst} {p p2:Addr} (s:Same H H4) (hq:IsQ K H v q) (hu:IsT K H u t) (g3:SqT K H4 p [u]) (g4:SqT K H4 p2 [.str "where",v,.ref p]):IsQ K H4 (.ref p2) (.whr q [t]):=
 .whr g4 (hq.same s) ⟨⟨p,[u],rfl,g3,.cons (hu.same s) .nil⟩,(by show 1≤1;decide),(by show 1≤3;decide)⟩
theorem aTh {hs:Str→Option Hdr} {q k0:Qn} {hd:Hdr} {t:Tst} {m:Nat} (h:HQ hs q hd) (ht:dM hd t) (e:zW hs (bI t) q=.int (m:Nat)) (ek0:(kids q)[m]?=some k0):∃hk,HQ hs k0 hk∧dM hk (aBg hs t q):=by
 obtain ⟨j,k,hk,ei,ek,h1,h2,_⟩:=aNk h ht e
 have:m=j:=by lia
 subst this
 rw [ek] at ek0
 cases ek0
 exact ⟨hk,h1,h2⟩
def aQp (K:PySem.W.Frag):Sp:=fun vs H Q _=>∃v u d hs q hd t T0,vs=[v,u,.ref d]∧eQ K H d hs∧NmH hs∧IsQ K H v q∧kids q=[.table T0]∧HQ hs q hd∧IsT K H u t∧dM hd t∧∀v' H',Same H H'→IsQ K H' v' (sink hs (move hs q) t)→Q v' H'
theorem aI3 (T:Txt w K mg) (dF:Ok P w K mg base 1 "_law_at_table" ["_law_test","_law_table"] (aMn K)) (qJ:Ok P w K mg base 1 "_law_elder" ["_law_test","_law_names_here","_law_others"] (aFl K)) (jE:Ok P w K mg base 1 "_law_columns" ["_law_test"] (wM K)) :
  Ok P w K mg base 2 "_law_due" ["_law_question","_law_test","_law_heads"] (aQp K):=by
 refine Ok.ofV T.aLe gO (fun vs H Q E h=>?_) (fun f cdv A outer s H vs Q E hr h=>?_)
 ·obtain ⟨v,u,d,hs,q,hd,t,T0,rfl,_⟩:=h;rfl
 obtain ⟨v,u,d,hs,q0,hd,t,T0,rfl,hds,hT,hq,hk0,hh,hu,ht,q⟩:=h
 have hu':=uP hr
 refine ⟨_,(by have hu:=hu';exact (aC (aV (i:=3) gO.nd rfl (by trivial) (aH aR (vv 0) aD (fun _ _=>rfl))) (aC (aV (i:=4) gO.nd rfl (by trivial) (aH aR (vv 0) aD (fun _ _=>rfl))) (aC (bR (aU cG (vv 3) aO (aZ _)) (aC (aV (i:=5) gO.nd rfl (by trivial) (aJ (dF.mono (by decide)) hr (by rfl) (aB (vv 1) (aB (vv 4) aA)))) (aC (jD PassesOwn.never rfl (aUn (by rfl) T.aLm (aB (aH (cD (K:=K)) (vv 0) aD (fun _ _=>rfl)) aA)) (aL (i:=6) gO.nd rfl (by trivial)) (aF (aV (i:=5) gO.nd rfl (by trivial) (aY (aB aO (aB (vv 5) (aB (aY (aB (vv 6) aA)) aA))))))) (aF (aM (vv 5))))) bA) (aC (bR (aU cG (vv 3) aO (aZ _)) (aF (aM (aY (aB (vv 3) (aB (aJ (dF.mono (by decide)) hr (by rfl) (aB (vv 1) (aB (vv 4) aA))) (aB (aH (cD (K:=K)) (vv 0) aD (fun _ _=>rfl)) aA)))))) bA) (aC (bR (aU cG (vv 3) aO (aZ _)) (aC (iR (i0:=7) gO.nd rfl (by trivial) (N:=["_law_name","_law_kind"]) (by trivial) (dZ (by decide +kernel)) rfl (eO (lC hu (vv 2) (aH aR (vv 4) aD (fun _ _=>rfl)) (fun _ _=>rfl))) (fun cl s' H' fp=>⟨(jQ (K:=K) (n:=2) rfl (bB (aL (i:=0) (show (["_law_name","_law_kind"]:List Str).Nodup from by decide +kernel) rfl (Or.inl rfl)) (bB (aL (i:=1) (show (["_law_name","_law_kind"]:List Str).Nodup from by decide +kernel) rfl (Or.inl rfl)) cW))),cI,(vv 0)⟩)) (aF (aM (aY (aB (vv 3) (aB (aJ (dF.mono (by decide)) hr (by rfl) (aB (aJ (qJ.mono (by decide)) hr (by rfl) (aB (vv 1) (aB (bF qZ (by rfl) T.aBu yC (aB (aH (cD (K:=K)) (vv 0) aD (fun _ _=>rfl)) aA)) (aB (vv 7) aA)))) (aB (vv 4) aA))) (aB (aH (cD (K:=K)) (vv 0) aD (fun _ _=>rfl)) aA))))))) bA) (aC (bR (VW.pt (yZ (aU cG (vv 3) aO (aZ _)) (xR (fC (aW (nM rfl) (by rfl) T.aCi vI (aB (bZ (N:=["_law_name","_law_question"]) (by trivial) (cV (aG qD) rfl (by decide +kernel)) rfl (eE (aJ (jE.mono (by decide)) hr (by rfl) (aB (vv 1) aA))) (fun cl s' H' fp=>⟨(aL (i:=0) (show (["_law_name","_law_question"]:List Str).Nodup from by decide +kernel) rfl (Or.inl rfl)),cI,(eZ (nG (K:=K)) (vv 0) (aH (cD (K:=K)) (vv 1) aD (fun _ _=>rfl)) (by with_unfolding_all rfl))⟩)) aA)))))) (aF (aM (aY (aB (vv 3) (aB (aJ (dF.mono (by decide)) hr (by rfl) (aB (vv 1) (aB (vv 4) aA))) (aB (aH (cD (K:=K)) (vv 0) aD (fun _ _=>rfl)) (aB (aH aR (vv 0) aD (fun _ _=>rfl)) aA))))))) bA) (aF (aM (aY (aB aO (aB (vv 0) (aB (aY (aB (vv 1) aA)) aA))))))))))))),?_⟩
 cases hq with
 |table a b=>cases hk0
 |join a b c e=>cases hk0
 |@whr a0 v0 q1 w0 ts a b c=>
  cases hk0
  obtain ⟨⟨p,us,rfl,hp,hus⟩,c1,c2⟩:=id c
  have lu:=hus.len
  have em:sink hs (move hs (.whr (.table T0) ts)) t=wr ts (.whr (.table T0) [t]):=by
   show sink hs (ts.foldl (fun b t=>sink hs b t) (.table T0)) t=_
   rw [aUt,aFo]
   rfl
  rw [em] at q
  refine ⟨_,rfl,_,_,0,_,rfl,rfl,a,at0 _ _,_,rfl,_,_,1,_,rfl,rfl,a,at1 _ _ _,_,rfl,rfl,_,rfl,cC ?_⟩
  refine ⟨_,rfl,_,rfl,u,_,t,.table T0,rfl,hu,b,fun v1 H1 s1 i1=>?_⟩
  refine ⟨_,rfl,_,_,2,_,rfl,rfl,s1.aK a,at2 _ _ _ _,p,us,rfl,s1.aK hp,aRz (xs:=us) (fun i σ H'=>Same H1 H'∧∃y l,IsQ K H' y (wr (ts.drop (ts.length - i)) (.whr (.table T0) [t]))∧σ=[some (.ref a0),some u,some (.ref d),some (.str "where"),some v0,some y,l,none]) ⟨Same.refl H1,v1,_,by rw [Nat.sub_zero,List.drop_length];exact i1,rfl⟩ (fun i σ H' _ ⟨e,_⟩=>e.aK (s1.aK hp)) ?_ ?_⟩
  ·rintro i x σ H' hi hx ⟨s3,y,l,hy,rfl⟩
   obtain ⟨tt,htt,hxt⟩:=bJ hus hx
   have s13:=s1.trans s3
   refine ⟨_,rfl,_,rfl,(by show 1≤sizeLine;decide),fun p4 H4 _ s4 g4=>⟨(by show 3≤sizeLine;decide),fun p5 H5 _ s5 g5=>⟨s3.trans (s4.trans s5),.ref p5,_,?_,rfl⟩⟩⟩
   have s45:=s4.trans s5
   have ed:ts.drop (ts.length - (i+1))=tt::ts.drop (ts.length - i):=by
    have hj:ts.length - (i+1)<ts.length:=by lia
    rw [List.drop_eq_getElem_cons hj]
    rw [show us.length - 1 - i=ts.length - (i+1) by lia,List.getElem?_eq_getElem hj] at htt
    rw [Option.some.inj htt,show ts.length - (i+1)+1=ts.length - i by lia]
   rw [ed]
   exact .whr (SqT.of g5) (hy.same s45) ⟨⟨p4,[x],rfl,SqT.of (s5 _ _ g4),.cons (hxt.same (s13.trans s45)) .nil⟩,(by show 1≤1;decide),(by show 1≤3;decide)⟩
  ·rintro σ H' ⟨s3,y,l,hy,rfl⟩
   rw [lu,Nat.sub_self,List.drop_zero] at hy
   exact ⟨_,rfl,q _ _ (s1.trans s3) hy⟩
 |@keep a0 v0 q1 w0 ns a b c=>
  cases hk0
  refine ⟨_,rfl,_,_,0,_,rfl,rfl,a,at0 _ _,_,rfl,_,_,1,_,rfl,rfl,a,at1 _ _ _,_,rfl,rfl,_,rfl,bC ⟨_,rfl,rfl,_,rfl,cC ?_⟩⟩
  refine ⟨_,rfl,_,rfl,_,rfl,u,_,t,.table T0,rfl,hu,b,fun v1 H1 s1 i1=>?_⟩
  exact ⟨_,rfl,_,_,2,_,rfl,rfl,s1.aK a,at2 _ _ _ _,(by show 3≤sizeLine;decide),fun p H2 _ s2 g2=>q _ _ (s1.trans s2) (.keep (SqT.of g2) (i1.same s2) (c.same (s1.trans s2) fun h=>h))⟩
 |@nmd a0 v0 q1 w0 ns a b c=>
  cases hk0
  obtain ⟨hk,h1,h2⟩:=aTh (m:=0) hh ht rfl rfl
  obtain ⟨hk',r1,lk,ek⟩:=aGd hh
  obtain ⟨en,ln⟩:=aNp hh
  obtain ⟨⟨wa,ws,rfl,hwa,hws⟩,w1,w8⟩:=id c
  have ew:=aCl hws
  have hcol:∀n∈bI t,n∈ns:=fun n hn=>by
   obtain ⟨k,hk⟩:=sY ht n hn
   have:=jK hk
   rw [ek,gP lk] at this
   exact this
  have hnm:∀o∈cL hs (.table T0),Nm o:=fun o ho=>by
   unfold cL at ho
   rw [fV r1] at ho
   obtain ⟨cc,hcc,rfl⟩:=List.mem_map.mp ho
   exact aWq hT (aQk b) r1 cc hcc
  obtain ⟨ihds,hin,hone,hgood⟩:=r1.in
  cases b with
  |@table b0 _ b b'=>
   cases hone with
   |table hT0=>
    obtain ⟨kvs,hdk,hmem⟩:=hds
    obtain ⟨v',hv',hI⟩:=hmem _ _ hT0
    obtain ⟨hb,us,rfl,hhb,hus⟩:=hI
    have g8:=hgood.2.2
    refine ⟨_,rfl,_,_,0,_,rfl,rfl,a,at0 _ _,_,rfl,_,_,1,_,rfl,rfl,a,at1 _ _ _,_,rfl,rfl,_,rfl,bC ⟨_,rfl,rfl,_,rfl,bC ⟨_,rfl,rfl,_,rfl,cC ?_⟩⟩⟩
    dsimp only [oK,gY,iU]
    refine vM hhb hus (by lia) gQ (fun R r=>⟨_,rfl,_,rfl,_,_,1,_,rfl,rfl,b,at1 _ _ _,d,_,rfl,?_,r⟩) fun D1 H1 f1 s1 g1=>?_
    ·have hg:=rJ.k (k:=(Sum.inr T0:Key)) hdk
     rw [hv'] at hg
     exact hg
    have e1:cL hs (.table T0)=hk'.map (·.1):=by unfold cL;rw [fV r1]
    rw [←e1] at g1
    refine ⟨_,rfl,_,rfl,_,rfl,_,_,2,_,rfl,rfl,s1.aK a,at2 _ _ _ _,wa,_,rfl,.inr (s1.aK hwa),fun D2 H2 f2 s2 g2=>?_⟩
    rw [ew] at g2
    have t2:=s1.trans s2
    refine ⟨_,rfl,u,D2,D1,t,ns,cL hs (.table T0),rfl,hu.same t2,SqL.of g2,SqL.of (s2 _ _ g1),ln,hcol,hnm,fun v3 H3 s3 i3=>?_⟩
    have t3:=t2.trans s3
    refine ⟨_,rfl,v3,_,_,.table T0,rfl,i3,(IsQ.table b b').same t3,fun v4 H4 s4 i4=>?_⟩
    have t4:=t3.trans s4
    exact ⟨_,rfl,_,_,2,_,rfl,rfl,t4.aK a,at2 _ _ _ _,(by show 3≤sizeLine;decide),fun p H5 _ s5 g5=>q _ _ (t4.trans s5) (.nmd (SqT.of g5) (i4.same s5) (c.same (t4.trans s5) fun h=>h))⟩
 |@group a0 v0 q1 w0 ns u0 ss a b c e=>
  cases hk0
  obtain ⟨⟨wa,ws,rfl,hwa,hws⟩,w1,w8⟩:=id c
  have ew:=aCl hws
  rw [ew] at hwa
  refine ⟨_,rfl,_,_,0,_,rfl,rfl,a,at0 _ _,_,rfl,_,_,1,_,rfl,rfl,a,at1 _ _ _,_,rfl,rfl,_,rfl,bC ⟨_,rfl,rfl,_,rfl,bC ⟨_,rfl,rfl,_,rfl,bC ⟨_,rfl,rfl,_,rfl,cC ?_⟩⟩⟩⟩
  dsimp only [tB,tCB,fK]
  refine aB5 (.ref a0) t ns ?_ (fun R r=>⟨_,rfl,u,t,rfl,hu,fun D H1 s1 g1=>r D H1 s1 g1⟩) (fun n l H' R s' r=>?_) fun D1 H1 s1 g1=>?_
  ·exact cX 0 (by decide +kernel) rfl rfl (by trivial)
  ·refine ⟨_,by cases l <;> rfl,_,by cases l <;> rfl,_,_,2,_,rfl,rfl,s'.aK a,at2 _ _ _ _,wa,_,rfl,.inr (s'.aK hwa),rfl,iJ,?_⟩
   rw [lK]
   exact r H' (Same.refl H')
  refine ⟨D1,_,rfl,SqL.of g1,_,rfl,?_⟩
  rw [List.all_map]
  show if sub (bI t) ns=true then _ else _
  by_cases hb:sub (bI t) ns=true
  ·rw [hb]
   have es:sink hs (move hs (.group (.table T0) ns ss)) t=.group (.whr (.table T0) [t]) ns ss:=by
    show (if sub (bI t) ns then _ else _)=_
    rw [hb]
    rfl
   rw [es] at q
   refine cC ⟨_,rfl,_,rfl,_,rfl,u,_,t,.table T0,rfl,hu.same s1,b.same s1,fun v4 H4 s4 i4=>?_⟩
   have t4:=s1.trans s4
   exact ⟨_,rfl,_,_,2,_,rfl,rfl,t4.aK a,at2 _ _ _ _,_,rfl,_,_,3,_,rfl,rfl,t4.aK a,cF (j:=3) rfl,(by show 4≤sizeLine;decide),fun p H5 _ s5 g5=>q _ _ (t4.trans s5) (.group (SqT.of g5) (i4.same s5) (c.same (t4.trans s5) fun h=>h) (e.same (t4.trans s5) fun h=>h.same (t4.trans s5)))⟩
  ·have hb':sub (bI t) ns=false:=by simpa using hb
   rw [hb']
   have es:sink hs (move hs (.group (.table T0) ns ss)) t=.whr (.group (.table T0) ns ss) [t]:=by
    show (if sub (bI t) ns then _ else _)=_
    rw [hb']
    rfl
   rw [es] at q
   refine bC ?_
   exact ⟨_,rfl,_,rfl,(by show 1≤sizeLine;decide),fun p H3 _ s3 g3=>⟨(by show 3≤sizeLine;decide),fun p2 H4 _ s4 g4=>q _ _ (s1.trans (s3.trans s4)) (xP (s1.trans (s3.trans s4)) (.group a b c e) hu (SqT.of (s4 _ _ g3)) (SqT.of g4))⟩⟩
 |first a b c e=>
  cases hk0
  refine ⟨_,rfl,_,_,0,_,rfl,rfl,a,at0 _ _,_,rfl,_,_,1,_,rfl,rfl,a,at1 _ _ _,_,rfl,rfl,_,rfl,bC ⟨_,rfl,rfl,_,rfl,bC ⟨_,rfl,rfl,_,rfl,bC ⟨_,rfl,rfl,_,rfl,bC (bC ?_)⟩⟩⟩⟩
  exact ⟨_,rfl,_,rfl,(by show 1≤sizeLine;decide),fun p H3 _ s3 g3=>⟨(by show 3≤sizeLine;decide),fun p2 H4 _ s4 g4=>q _ _ (s3.trans s4) (xP (s3.trans s4) (.first a b c e) hu (SqT.of (s4 _ _ g3)) (SqT.of g4))⟩⟩
theorem aTw {ns used:List Str}:sel (frP ns used) 0 (ns.map V.str)=(ns.filter fun n=>!decide (n∈used)).map V.str:=by
 have e:sel (frP ns used) 0 (ns.map V.str)=(ns.map V.str).filter fun v=>match v with|.str n=>!decide (n∈used)|_=>false:=kY fun i x ex=>by
  obtain ⟨n,hn,rfl⟩:=dJ ex
  unfold frP
  rw [Nat.zero_add,hn]
 rw [e,List.filter_map]
 rfl
def aM1 (K:PySem.W.Frag):Sp:=fun vs H Q _=>∃v u d hs T1 T2 ns ps hd t,vs=[v,u,.ref d]∧eQ K H d hs∧NmH hs∧IsQ K H v (.join (.table T1) (.nmd (.table T2) ns) ps)∧HQ hs (.join (.table T1) (.nmd (.table T2) ns) ps) hd∧IsT K H u t∧dM hd t∧∀v' H',Same H H'→IsQ K H' v' (sink hs (.join (.table T1) (.nmd (.table T2) ns) ps) t)→Q v' H'
theorem vL (T:Txt w K mg) (dF:Ok P w K mg base 1 "_law_at_table" ["_law_test","_law_table"] (aMn K)) (qJ:Ok P w K mg base 1 "_law_elder" ["_law_test","_law_names_here","_law_others"] (aFl K)) (jE:Ok P w K mg base 1 "_law_columns" ["_law_test"] (wM K)) :
  Ok P w K mg base 2 "_law_joined_due" ["_law_question","_law_test","_law_heads"] (aM1 K):=by
 refine Ok.ofV T.wD bY (fun vs H Q E h=>?_) (fun f cdv A outer s H vs Q E hr h=>?_)
 ·obtain ⟨v,u,d,hs,T1,T2,ns,ps,hd,t,rfl,_⟩:=h;rfl
 obtain ⟨v,u,d,hs,T1,T2,ns,ps,hd,t,rfl,hds,hT,hq,hh,hu,ht,q⟩:=h
 have hu':=uP hr
 refine ⟨_,(by have hu:=hu';exact (aC (rF (vv 0) (mG rfl (bB (aL (i:=3) bY.nd rfl (by trivial)) (bB (aL (i:=4) bY.nd rfl (by trivial)) (bB (aL (i:=5) bY.nd rfl (by trivial)) (bB (aL (i:=6) bY.nd rfl (by trivial)) cW)))))) (aC (aV (i:=7) bY.nd rfl (by trivial) (bZ (N:=["_law_name","_law_kind"]) (by trivial) (dZ (by decide +kernel)) rfl (eO (lC hu (vv 2) (aH aR (vv 4) aD (fun _ _=>rfl)) (fun _ _=>rfl))) (fun cl s' H' fp=>⟨(jQ (K:=K) (n:=2) rfl (bB (aL (i:=0) (show (["_law_name","_law_kind"]:List Str).Nodup from by decide +kernel) rfl (Or.inl rfl)) (bB (aL (i:=1) (show (["_law_name","_law_kind"]:List Str).Nodup from by decide +kernel) rfl (Or.inl rfl)) cW))),cI,(vv 0)⟩))) (aC (aV (i:=8) bY.nd rfl (by trivial) (bZ (N:=["_law_c","_law_d"]) (by trivial) (dZ (by decide +kernel)) rfl (eO (vv 6)) (fun cl s' H' fp=>⟨(jQ (K:=K) (n:=2) rfl (bB (aL (i:=0) (show (["_law_c","_law_d"]:List Str).Nodup from by decide +kernel) rfl (Or.inl rfl)) (bB (aL (i:=1) (show (["_law_c","_law_d"]:List Str).Nodup from by decide +kernel) rfl (Or.inl rfl)) cW))),cI,(vv 1)⟩))) (aC (aV (i:=9) bY.nd rfl (by trivial) (bZ (N:=["_law_name","_law_gone"]) (by trivial) (cV (aG dC) rfl (by decide +kernel)) rfl (eO (aH aR (vv 5) aD (fun _ _=>rfl))) (fun cl s' H' fp=>⟨(aL (i:=0) (show (["_law_name","_law_gone"]:List Str).Nodup from by decide +kernel) rfl (Or.inl rfl)),(pZ (aU (iG (K:=K)) (vv 0) (vv 1) (by with_unfolding_all rfl))),(vv 0)⟩))) (aC (bR (fC (aW (nM rfl) (by rfl) T.aCi vI (aB (bZ (N:=["_law_name","_law_mine"]) (by trivial) (cV (aG dC) rfl (by decide +kernel)) rfl (eE (aJ (jE.mono (by decide)) hr (by rfl) (aB (vv 1) aA))) (fun cl s' H' fp=>⟨(aL (i:=0) (show (["_law_name","_law_mine"]:List Str).Nodup from by decide +kernel) rfl (Or.inl rfl)),cI,(eZ (nG (K:=K)) (vv 0) (vv 1) (by with_unfolding_all rfl))⟩)) aA))) (aF (aM (aY (aB (vv 3) (aB (aJ (dF.mono (by decide)) hr (by rfl) (aB (vv 1) (aB (vv 4) aA))) (aB (vv 5) (aB (vv 6) aA))))))) bA) (aC (bR (fC (aW (nM rfl) (by rfl) T.aCi vI (aB (bZ (N:=["_law_name","_law_theirs"]) (by trivial) (cV (aG dC) rfl (by decide +kernel)) rfl (eE (aJ (jE.mono (by decide)) hr (by rfl) (aB (vv 1) aA))) (fun cl s' H' fp=>⟨(aL (i:=0) (show (["_law_name","_law_theirs"]:List Str).Nodup from by decide +kernel) rfl (Or.inl rfl)),cI,(eZ (nG (K:=K)) (vv 0) (vv 1) (by with_unfolding_all rfl))⟩)) aA))) (aC (aV (i:=10) bY.nd rfl (by trivial) (aJ (qJ.mono (by decide)) hr (by rfl) (aB (vv 1) (aB (bF qZ (by rfl) T.aBu yC (aB (aH aR (vv 5) aD (fun _ _=>rfl)) aA)) (aB (bZ (N:=["_law_name","_law_kind"]) (by trivial) (dZ (by decide +kernel)) rfl (eO (lC hu (vv 2) (aH aR (aH aR (vv 5) aD (fun _ _=>rfl)) aD (fun _ _=>rfl)) (fun _ _=>rfl))) (fun cl s' H' fp=>⟨(jQ (K:=K) (n:=2) rfl (bB (aL (i:=0) (show (["_law_name","_law_kind"]:List Str).Nodup from by decide +kernel) rfl (Or.inl rfl)) (bB (aL (i:=1) (show (["_law_name","_law_kind"]:List Str).Nodup from by decide +kernel) rfl (Or.inl rfl)) cW))),cI,(vv 0)⟩)) aA))))) (aF (aM (aY (aB (vv 3) (aB (vv 4) (aB (aY (aB aO (aB (aJ (dF.mono (by decide)) hr (by rfl) (aB (vv 10) (aB (aH aR (vv 5) aD (fun _ _=>rfl)) aA))) (aB (aH aR (vv 5) aD (fun _ _=>rfl)) aA)))) (aB (vv 6) aA)))))))) bA) (aF (aM (aY (aB aO (aB (vv 0) (aB (aY (aB (vv 1) aA)) aA))))))))))))),?_⟩
 have hq':=hq
 cases hq with
 |@join a0 v0 _ u0 _ w0 _ a b c e=>
  obtain ⟨ihds,hin,hone,hgood⟩:=hh.in
  cases hin with
  |@cons _ h1 _ _ r1 tl=>
   cases tl with
   |@cons _ h2 _ _ r2 tl2=>
    clear hone tl2
    obtain ⟨⟨wa,ws,rfl,hwa,hws⟩,w1,w3⟩:=id e
    obtain ⟨hk2,r3,lk,ek⟩:=aGd r2
    obtain ⟨en,ln⟩:=aNp r2
    have c':=c
    cases c with
    |@nmd c0 cv _ cw _ ca cb cc=>
     obtain ⟨⟨na,nws,rfl,hna,hnws⟩,n1,n8⟩:=id cc
     have en':=aCl hnws
     rw [en'] at hna
     have cb':=cb
     have b':=b
     cases b with
     |@table b0 _ bb bb'=>
      cases cb with
      |@table d0 _ dd dd'=>
       obtain ⟨kvs,hdk,hmem⟩:=id hds
       obtain ⟨i1,hin1,hone1,hg1⟩:=r1.in
       cases hone1 with
       |table hT1=>
        obtain ⟨i3,hin3,hone3,hg3⟩:=r3.in
        cases hone3 with
        |table hT2=>
         obtain ⟨x1,hx1,y1,us1,rfl,hy1,hus1⟩:=hmem _ _ hT1
         obtain ⟨x2,hx2,y2,us2,rfl,hy2,hus2⟩:=hmem _ _ hT2
         have l1:=hg1.2.2
         have l2:=hg3.2.2
         refine ⟨_,rfl,a0,_,rfl,a,rfl,_,_,rfl,_,_,rfl,_,_,rfl,_,_,rfl,rfl,?_⟩
         have e1:cL hs (.table T1)=h1.map (·.1):=by unfold cL;rw [fV r1]
         have e2:cL hs (.table T2)=hk2.map (·.1):=by unfold cL;rw [fV r3]
         try dsimp only [jF,bO,aAk,oK,gY,iU]
         refine vM hy1 hus1 (by lia) gQ (fun R r=>⟨_,rfl,_,rfl,_,_,1,_,rfl,rfl,bb,at1 _ _ _,d,_,rfl,?_,r⟩) fun D1 H1 f1 s1 g1=>?_
         ·have hg:=rJ.k (k:=(Sum.inr T1:Key)) hdk
          rw [hx1] at hg
          exact hg
         rw [←e1] at g1
         try dsimp only [jF,bO,aAk,oK,gY,iU]
         refine aP8 (s1.aK hwa) (aQ3 (hws.imp fun _ _ h=>h.same s1)) (by lia) gQ (fun R r=>⟨_,rfl,r⟩) fun D2 H2 f2 s2 g2=>?_
         have t2:=s1.trans s2
         try dsimp only [jF,bO,aAk,oK,gY,iU]
         refine aBh (ns.map V.str) (frP ns (ps.map (·.2))) [none,some (.ref D2)] ?_ (small (by rw [List.length_map];lia)) (fun R rr=>mD (t2.aK hna) (fun R' r'=>⟨_,rfl,_,_,2,_,rfl,rfl,t2.aK ca,at2 _ _ _ _,r'⟩) R rr) (fun i x ex H' R l sm' rr=>?_) rfl fun D3 H3 s3 g3=>?_
         ·exact cX 8 (by decide +kernel) rfl rfl (by trivial)
         ·obtain ⟨n,hn',rfl⟩:=dJ ex
          refine ⟨_,rfl,_,rfl,D2,_,rfl,.inl (SqL.of (sm' _ _ g2)),rfl,iJ,_,rfl,?_⟩
          rw [lK]
          have e:frP ns (ps.map (·.2)) i=!decide (n∈ps.map (·.2)):=by unfold frP;rw [hn']
          rw [←e]
          exact rr H' (Same.refl H')
         have e3:seenOf hs (.nmd (.table T2) ns) ps=ns.filter fun n=>!decide (n∈ps.map (·.2)):=by unfold seenOf;rw [en]
         rw [aTw,←e3] at g3
         have t3:=t2.trans s3
         have g13:=s3 _ _ (s2 _ _ g1)
         try dsimp only [bO]
         dsimp only [gY,aLd,tB,tCB,fK]
         refine aB5 (.ref D1) t (cL hs (.table T1)) ?_ (fun R r=>⟨_,rfl,u,t,rfl,hu.same t3,fun D H4 s4 g4=>r D H4 s4 g4⟩) (fun n l H' R s' r=>?_) fun D4 H4 s4 g4=>?_
         ·exact cX 7 (by decide +kernel) rfl rfl (by trivial)
         ·refine ⟨_,by cases l <;> rfl,_,by cases l <;> rfl,D1,_,rfl,.inl (SqL.of (s' _ _ g13)),rfl,iJ,?_⟩
          rw [lK]
          exact r H' (Same.refl H')
         have t4:=t3.trans s4
         refine ⟨D4,_,rfl,SqL.of g4,_,rfl,?_⟩
         rw [List.all_map]
         show if sub (bI t) (cL hs (.table T1))=true then _ else _
         by_cases hb:sub (bI t) (cL hs (.table T1))=true
         ·rw [hb]
          have es:sink hs (.join (.table T1) (.nmd (.table T2) ns) ps) t=.join (.whr (.table T1) [t]) (.nmd (.table T2) ns) ps:=by
           show (if sub (bI t) (cL hs (.table T1)) then _ else _)=_
           rw [hb]
           rfl
          rw [es] at q
          refine cC ⟨_,rfl,_,rfl,_,rfl,u,_,t,.table T1,rfl,hu.same t4,b'.same t4,fun v5 H5 s5 i5=>?_⟩
          have t5:=t4.trans s5
          exact ⟨_,rfl,_,rfl,(by show 4≤sizeLine;decide),fun p H6 _ s6 g6=>q _ _ (t5.trans s6) (.join (SqT.of g6) (i5.same s6) (c'.same (t5.trans s6)) (e.same (t5.trans s6) fun h=>h.same (t5.trans s6)))⟩
         have hb':sub (bI t) (cL hs (.table T1))=false:=by simpa using hb
         rw [hb']
         refine bC ?_
         have g34:=s4 _ _ g3
         dsimp only [oK,gY,aLd,tB,tCB,fK]
         refine aB5 (.ref D3) t (seenOf hs (.nmd (.table T2) ns) ps) ?_ (fun R r=>⟨_,rfl,u,t,rfl,hu.same t4,fun D H5 s5 g5=>r D H5 s5 g5⟩) (fun n l H' R s' r=>?_) fun D5 H5 s5 g5=>?_
         ·exact cX 9 (by decide +kernel) rfl rfl (by trivial)
         ·refine ⟨_,by cases l <;> rfl,_,by cases l <;> rfl,D3,_,rfl,.inl (SqL.of (s' _ _ g34)),rfl,iJ,?_⟩
          rw [lK]
          exact r H' (Same.refl H')
         have t5:=t4.trans s5
         refine ⟨D5,_,rfl,SqL.of g5,_,rfl,?_⟩
         rw [List.all_map]
         show if sub (bI t) (seenOf hs (.nmd (.table T2) ns) ps)=true then _ else _
         by_cases hd':sub (bI t) (seenOf hs (.nmd (.table T2) ns) ps)=true
         ·rw [hd']
          obtain ⟨hkz,z1,z2⟩:=aTh (m:=1) (k0:=.nmd (.table T2) ns) hh ht (by show lN hs (.table T1) (.nmd (.table T2) ns) ps (bI t)=_;unfold lN;rw [hb',hd'];rfl) rfl
          have z2:dM hkz t:=z2
          have hcol:∀n∈bI t,n∈ns:=fun n hn=>by
           obtain ⟨k,hk⟩:=sY z2 n hn
           have:=jK hk
           obtain ⟨hk9,r9,lk9,ek9⟩:=aGd z1
           rw [ek9,gP lk9] at this
           exact this
          have hnm:∀o∈cL hs (.table T2),Nm o:=fun o ho=>by
           rw [e2] at ho
           obtain ⟨cz,hcz,rfl⟩:=List.mem_map.mp ho
           exact hT _ _ hT2 cz hcz
          have es:sink hs (.join (.table T1) (.nmd (.table T2) ns) ps) t=.join (.table T1) (.nmd (.whr (.table T2) [aH8 (elder ns (cL hs (.table T2))) t]) ns) ps:=by
           show (if sub (bI t) (cL hs (.table T1)) then _ else if sub (bI t) (seenOf hs (.nmd (.table T2) ns) ps) then _ else _)=_
           rw [hb',hd']
           rfl
          rw [es] at q
          refine cC ?_
          refine ⟨_,rfl,_,rfl,_,_,2,_,rfl,rfl,t5.aK ca,at2 _ _ _ _,na,_,rfl,.inr (t5.aK hna),fun D6 H6 f6 s6 g6=>?_⟩
          have t6:=t5.trans s6
          refine vM (t6.aK hy2) (hus2.imp fun _ _ h=>h.same t6) (by lia) gQ (fun R r=>⟨_,rfl,_,rfl,_,_,1,_,rfl,rfl,t6.aK ca,at1 _ _ _,_,_,1,_,rfl,rfl,t6.aK dd,at1 _ _ _,d,_,rfl,?_,r⟩) fun D7 H7 f7 s7 g7=>?_
          ·have hg:=rJ.k (k:=(Sum.inr T2:Key)) (t6 _ _ hdk)
           rw [hx2] at hg
           exact hg
          rw [←e2] at g7
          have t7:=t6.trans s7
          refine ⟨u,D6,D7,t,ns,cL hs (.table T2),rfl,hu.same t7,SqL.of (s7 _ _ g6),SqL.of g7,ln,hcol,hnm,fun v8 H8 s8 i8=>?_⟩
          have t8:=t7.trans s8
          refine ⟨_,rfl,_,rfl,_,rfl,_,rfl,_,_,1,_,rfl,rfl,t8.aK ca,at1 _ _ _,v8,_,_,.table T2,rfl,i8,cb'.same t8,fun v9 H9 s9 i9=>?_⟩
          have t9:=t8.trans s9
          refine ⟨_,rfl,_,_,2,_,rfl,rfl,t9.aK ca,at2 _ _ _ _,(by show 3≤sizeLine;decide),fun p10 H10 _ s10 g10=>⟨_,rfl,(by show 4≤sizeLine;decide),fun p11 H11 _ s11 g11=>?_⟩⟩
          have s911:=s10.trans s11
          have t11:=t9.trans s911
          exact q _ _ t11 (.join (SqT.of g11) (b'.same t11) (.nmd (SqT.of (s11 _ _ g10)) (i9.same s911) (cc.same t11 fun h=>h)) (e.same t11 fun h=>h.same t11))
         ·have hd2:sub (bI t) (seenOf hs (.nmd (.table T2) ns) ps)=false:=by simpa using hd'
          rw [hd2]
          have es:sink hs (.join (.table T1) (.nmd (.table T2) ns) ps) t=.whr (.join (.table T1) (.nmd (.table T2) ns) ps) [t]:=by
           show (if sub (bI t) (cL hs (.table T1)) then _ else if sub (bI t) (seenOf hs (.nmd (.table T2) ns) ps) then _ else _)=_
           rw [hb',hd2]
           rfl
          rw [es] at q
          refine bC ?_
          exact ⟨_,rfl,_,rfl,(by show 1≤sizeLine;decide),fun p H8 _ s8 g8=>⟨(by show 3≤sizeLine;decide),fun p2 H9 _ s9 g9=>q _ _ (t5.trans (s8.trans s9)) (xP (t5.trans (s8.trans s9)) hq' hu (SqT.of (s9 _ _ g8)) (SqT.of g9))⟩⟩
def dG (ts:List (Str × Hdr)) (n:Str):Option Hdr:=(ts.find? fun t=>decide (t.1=n)).map (·.2)
def aC1 (K:PySem.W.Frag) (H:Hp) (d:Addr) (ts:List (Str × Hdr)):Prop:=∃kvs,H d=some (.dK kvs)∧bL (fun (kv:Key × V) (t:Str × Hdr)=>kv.1=Sum.inr t.1∧eG K H kv.2 t.2) kvs ts
structure aUg (ts:List (Str × Hdr)):Prop where
 nd:(ts.map (·.1)).Nodup
 nm:∀t∈ts,Nm t.1∧uG t.2
 l1:1≤ts.length
 l3:ts.length≤3
theorem aC1.fx {H H':Hp} {a d:Addr} {ts:List (Str × Hdr)} (h:aC1 K H d ts) (hs:lO H a) (f:Fx a H H'):aC1 K H' d ts:=by
 obtain ⟨kvs,hd,h2⟩:=h
 obtain ⟨st,dg,h1,_⟩:=id hs
 exact ⟨kvs,f.same d _ (wV hd h1 (by intro z;cases z)) hd,h2.imp fun _ _ q=>⟨q.1,q.2.tk (f.tk hs)⟩⟩
theorem xZ {H:Hp} {kvs:List (Key × V)} {ts:List (Str × Hdr)} (h:bL (fun (kv:Key × V) (t:Str × Hdr)=>kv.1=Sum.inr t.1∧eG K H kv.2 t.2) kvs ts) (n:Str) (hd:Hdr):dG ts n=some hd→∃v,mU kvs (Sum.inr n)=some v∧eG K H v hd:=by
 induction h with
 |nil=>intro e;cases e
 |@cons kv t kvs ts r _ ih=>
  intro e
  unfold dG at e
  rw [List.find?_cons] at e
  by_cases en:t.1=n
  ·rw [decide_eq_true en] at e
   have e:t.2=hd:=Option.some.inj e
   exact ⟨kv.2,tL (by rw [r.1,en]),by rw [←e];exact r.2⟩
  ·rw [decide_eq_false en] at e
   rw [sW (by rw [r.1];intro z;exact en (Sum.inr.inj z))]
   exact ih e
theorem tY {ts:List (Str × Hdr)} (nd:(ts.map (·.1)).Nodup) {t:Str × Hdr} (h:t∈ts):dG ts t.1=some t.2:=by
 induction ts with
 |nil=>cases h
 |cons x r ih=>
  rw [List.map_cons,List.nodup_cons] at nd
  unfold dG
  rw [List.find?_cons]
  rcases List.mem_cons.mp h with rfl|h
  ·rw [decide_eq_true rfl];rfl
  ·rw [decide_eq_false (fun z=>nd.1 (by rw [z];exact List.mem_map.mpr ⟨t,h,rfl⟩))]
   exact ih nd.2 h
theorem aC1.heads {H:Hp} {d:Addr} {ts:List (Str × Hdr)} (h:aC1 K H d ts):eQ K H d (dG ts):=by
 obtain ⟨kvs,hd,h2⟩:=h
 exact ⟨kvs,hd,fun n hd' e=>xZ h2 n hd' e⟩
def turned (ns:List Str) (t n:Nat):List Str:=(List.range n).map fun i=>ns.getD (3+(t+i) % 14) ""
theorem aPt {ns:List Str} (h:nJ ns) (t:Nat) {n:Nat} (hn:n≤14):(turned ns t n).Nodup∧∀x∈turned ns t n,Nm x:=by
 have hg:∀i,ns.getD (3+(t+i) % 14) ""∈ns∧ns[3+(t+i) % 14]?=some (ns.getD (3+(t+i) % 14) ""):=fun i=>by
  have hi:3+(t+i) % 14<ns.length:=by rw [h.1];lia
  rw [List.getD_eq_getElem?_getD,List.getElem?_eq_getElem hi]
  exact ⟨List.getElem_mem hi,rfl⟩
 refine ⟨?_,fun x hx=>?_⟩
 ·refine List.pairwise_map.mpr (List.Pairwise.imp_of_mem ?_ List.nodup_range)
  intro i j hi hj ne e
  have hi:=List.mem_range.mp hi
  have hj:=List.mem_range.mp hj
  have h1:=(hg i).2
  have h2:=(hg j).2
  rw [←e] at h2
  have:=aMa h.2.2 h1 h2
  lia
 ·obtain ⟨i,_,rfl⟩:=List.mem_map.mp hx
  exact h.2.1 _ (hg i).1
theorem aOm {ns:List Str} (h:nJ ns) {t n i:Nat} {x:Str} (e:(turned ns t n)[i]?=some x):ns[3+(t+i) % 14]?=some x:=by
 have hi:i<n:=by
  have:=(List.getElem?_eq_some_iff.mp e).1
  simpa [turned] using this
 unfold turned at e
 rw [List.getElem?_map,List.getElem?_range hi] at e
 have e:ns.getD (3+(t+i) % 14) ""=x:=Option.some.inj e
 have hl:3+(t+i) % 14<ns.length:=by rw [h.1];lia
 rw [List.getD_eq_getElem?_getD,List.getElem?_eq_getElem hl] at e
 rw [List.getElem?_eq_getElem hl]
 exact congrArg some e
theorem aKu {n i:Nat} {x:V} (e:((List.range n).map fun i:Nat=>V.int (0+(i:Int)))[i]?=some x):i<n∧x=.int (0+(i:Int)):=by
 have hi:i<n:=by
  have:=(List.getElem?_eq_some_iff.mp e).1
  rw [List.length_map,List.length_range] at this
  exact this
 rw [List.getElem?_map,List.getElem?_range hi] at e
 exact ⟨hi,(Option.some.inj e).symm⟩
def aTj (K:PySem.W.Frag):Sp:=fun vs H Q _=>∃(a d N:Addr) (ts:List (Str × Hdr)) (ns:List Str) (T0:Str) (h0:Hdr),vs=[.ref a,.ref d,.ref N]∧lO H a∧N≠a∧aC1 K H d ts∧aUg ts∧H N=some (.lst (ns.map V.str))∧nJ ns∧ns[0]?=some T0∧(T0,h0)∈ts ∧
 ∀p H' v1 v2 q' hd',Fx a H H'→H' p=some (.tup [v1,v2])→IsQ K H' v1 q'→kids q'=[.table T0]→eG K H' v2 hd'→HQ (dG ts) q' hd'→uG hd'→size q'≤4→Q (.ref p) H'
theorem aHo (T:Txt w K mg) (aN:Ok P w K mg base 1 "_law_next" ["_law_state","_law_many"] gR) (lM:Ok P w K mg base 2 "_law_some" ["_law_state","_law_head_here","_law_least"] (aAv K)) (aKj:Ok P w K mg base 3 "_law_keys" ["_law_state","_law_head_here"] (aJ0 K))
  (mO:Ok P w K mg base 4 "_law_tests" ["_law_state","_law_head_here"] (zN K)) (aFf:Ok P w K mg base 3 "_law_group" ["_law_state","_law_question","_law_head_here","_law_names_here"] (aEf K)) :
  Ok P w K mg base 5 "_law_act" ["_law_state","_law_heads","_law_names_here"] (aTj K):=by
 refine Ok.ofV T.aMu gJ (fun vs H Q E h=>?_) (fun f cdv A outer s H vs Q E hr h=>?_)
 ·obtain ⟨a,d,N,ts,ns,T0,h0,rfl,_⟩:=h;rfl
 obtain ⟨a,d,N,ts,ns,T0,h0,rfl,hst,nNa,hD,hts,hN,hn,hn0,hm0,q⟩:=h
 have hu:=uP hr
 refine ⟨_,(aC (aV (i:=3) gJ.nd rfl (by trivial) (aJ (aN.mono (by decide)) hr (by rfl) (aB (vv 0) (aB aD aA)))) (aC (aV (i:=4) gJ.nd rfl (by trivial) (lC hu (vv 1) (aH bN (vv 2) aD (fun _ _=>rfl)) (fun _ _=>rfl))) (aC (aV (i:=5) gJ.nd rfl (by trivial) (aY (aB aO (aB (aH bN (vv 2) aD (fun _ _=>rfl)) aA)))) (aC (bR (aU cG (vv 3) aD (aZ _)) (aF (aM (aY (aB (aY (aB aO (aB (vv 5) (aB (aJ (mO.mono (by decide)) hr (by rfl) (aB (vv 0) (aB (vv 4) aA))) aA)))) (aB (vv 4) aA))))) bA) (aC (bR (aU cG (vv 3) aD (aZ _)) (aC (aV (i:=6) gJ.nd rfl (by trivial) (aJ (lM.mono (by decide)) hr (by rfl) (aB (vv 0) (aB (vv 4) (aB aD aA))))) (aF (aM (aY (aB (aY (aB aO (aB (vv 5) (aB (bF bU (by rfl) T.cP cA (aB (bZ (N:=["_law_name","_law_kind"]) (by trivial) (dZ (by decide +kernel)) rfl (eE (vv 6)) (fun cl s' H' fp=>⟨(jQ (K:=K) (n:=2) rfl (bB (aL (i:=0) (show (["_law_name","_law_kind"]:List Str).Nodup from by decide +kernel) rfl (Or.inl rfl)) (bB (aL (i:=1) (show (["_law_name","_law_kind"]:List Str).Nodup from by decide +kernel) rfl (Or.inl rfl)) cW))),cI,(vv 0)⟩)) aA)) aA)))) (aB (bF bU (by rfl) T.cP cA (aB (vv 6) aA)) aA)))))) bA) (aC (bR (aU cG (vv 3) aD (aZ _)) (aC (aV (i:=7) gJ.nd rfl (by trivial) (aJ (aN.mono (by decide)) hr (by rfl) (aB (vv 0) (aB aD aA)))) (aC (aV (i:=8) gJ.nd rfl (by trivial) (bF bU (by rfl) T.cP cA (aB (bZ (N:=["_law_k","_law_names_here","_law_turn"]) (by trivial) (cV (aG nU) rfl (by decide +kernel)) rfl (fU (by rfl) T.lG (aB (aW aX (by rfl) T.dB cH (aB (vv 4) aA)) aA)) (fun cl s' H' fp=>⟨(aL (i:=0) (show (["_law_k","_law_names_here","_law_turn"]:List Str).Nodup from by decide +kernel) rfl (Or.inl rfl)),cI,(aH (wC (K:=K)) (vv 1) (bW fG aD (bW rO (bW fG (vv 2) (vv 0)) aD)) (fun _ _=>rfl))⟩)) aA))) (aF (aM (aY (aB (aY (aB aO (aB (vv 5) (aB (vv 8) aA)))) (aB (bF bU (by rfl) T.cP cA (aB (bZ (N:=["_law_k","_law_fresh","_law_head_here"]) (by trivial) (cV (aG nU) rfl (by decide +kernel)) rfl (fU (by rfl) T.lG (aB (aW aX (by rfl) T.dB cH (aB (vv 4) aA)) aA)) (fun cl s' H' fp=>⟨(aL (i:=0) (show (["_law_k","_law_fresh","_law_head_here"]:List Str).Nodup from by decide +kernel) rfl (Or.inl rfl)),cI,(aY (aB (aH (cD (K:=K)) (vv 1) (vv 0) (fun _ _=>rfl)) (aB (aH (cD (K:=K)) (aH (cD (K:=K)) (vv 2) (vv 0) (fun _ _=>rfl)) aD (fun _ _=>rfl)) aA)))⟩)) aA)) aA))))))) bA) (aC (bR (aU cG (vv 3) aD (aZ _)) (aF (aM (aJ (aFf.mono (by decide)) hr (by rfl) (aB (vv 0) (aB (vv 5) (aB (vv 4) (aB (vv 2) aA))))))) bA) (aF (aM (aY (aB (aY (aB aO (aB (vv 5) (aB (aJ (aKj.mono (by decide)) hr (by rfl) (aB (vv 0) (aB (vv 4) aA))) (aB (aJ (aN.mono (by decide)) hr (by rfl) (aB (vv 0) (aB aD aA))) aA))))) (aB (vv 4) aA)))))))))))),?_⟩
 obtain ⟨hnT,hok1⟩:=hts.nm _ hm0
 have hlk:=tY hts.nd hm0
 have hok1:uG h0:=hok1
 obtain ⟨⟨nd1,l1,l8⟩,hc1⟩:=id hok1
 refine ⟨_,rfl,a,6,rfl,hst,by decide,fun way H2 f2 w0 w1=>?_⟩
 obtain ⟨kvs,hdk,hkv⟩:=hD.fx hst f2
 obtain ⟨v2,hv2,hh2⟩:=xZ hkv T0 h0 hlk
 have hN2:=f2.same _ _ nNa hN
 have at_0:atI (ns.map V.str) 0=some (.str T0):=cF (j:=0) (by rw [List.getElem?_map,hn0];rfl)
 refine ⟨_,rfl,_,rfl,N,_,0,_,rfl,rfl,SqL.of hN2,at_0,d,v2,rfl,?_,?_⟩
 ·have hg:=rJ.k (k:=(Sum.inr T0:Key)) hdk
  rw [hv2] at hg
  exact hg
 refine ⟨_,rfl,N,_,0,_,rfl,rfl,SqL.of hN2,at_0,(by show 2≤sizeLine;decide),fun tb H3 ftb s3 g3=>?_⟩
 have fx3:Fx a H H3:=f2.sm s3
 have hh1:eG K H3 v2 h0:=hh2.same s3
 have hq1:IsQ K H3 (.ref tb) (.table T0):=.table (SqT.of g3) hnT
 have hHQ1:HQ (dG ts) (.table T0) h0:=.mk0 rfl (.table hlk) hok1.1
 have hN3:=s3 _ _ hN2
 refine ⟨_,rfl,rfl,_,rfl,lU (fun _=>?_) (fun _=>?_)⟩
 ·refine ⟨_,rfl,_,rfl,_,rfl,a,v2,h0,rfl,fx3.st,hh1,hok1,fun vt H4 ts' f4 hts' htok=>⟨(by show 3≤sizeLine;decide),fun t5 H5 _ s5 g5=>⟨_,rfl,(by show 2≤sizeLine;decide),fun p6 H6 _ s6 g6=>?_⟩⟩⟩
  have s46:=s5.trans s6
  have tk36:TK K H3 H6:=fun _ _ e=>s46.aK (f4.aK fx3.st e)
  have tk46:TK K H4 H6:=fun _ _ e=>s46.aK e
  refine q p6 H6 _ _ (.whr (.table T0) ts') h0 ((fx3.trans f4).sm s46) g6 (.whr (SqT.of (s6 _ _ g5)) (hq1.tk tk36) (hts'.tk tk46 (fun h=>h.tk tk46))) rfl (hh1.tk tk36) (.mk1 rfl hHQ1 (.whr htok) hok1.1) hok1 ?_
  show 1+ts'.length≤_
  have:=hts'.2.2
  lia
 refine ⟨_,rfl,rfl,_,rfl,lU (fun _=>?_) (fun _=>?_)⟩
 ·refine ⟨_,rfl,_,rfl,a,v2,h0,1,rfl,fx3.st,hh1,hok1.1,by decide,fun D H4 us hd' f4 fD g4 hus hsub hle=>?_⟩
  have lus:=hus.len
  have hl8:=hsub.2.2
  refine ⟨_,rfl,?_⟩
  try dsimp only [tCB,fK]
  refine aAd g4 hus (by lia) gQ (fun R r=>⟨_,rfl,r⟩) fun D5 H5 _ s5 g5=>⟨D5,_,rfl,SqL.of g5,fun t6 H6 _ s6 g6=>⟨(by show 3≤sizeLine;decide),fun q7 H7 _ s7 g7=>⟨_,rfl,D,_,rfl,SqL.of ((s5.trans (s6.trans s7)) _ _ g4),fun t8 H8 _ s8 g8=>⟨(by show 2≤sizeLine;decide),fun p9 H9 _ s9 g9=>?_⟩⟩⟩⟩
  have s49:=s5.trans (s6.trans (s7.trans (s8.trans s9)))
  have tk39:TK K H3 H9:=fun _ _ e=>s49.aK (f4.aK fx3.st e)
  have hgd:Good hd':=⟨hsub.2.1,hle,by lia⟩
  have hcd:∀c∈hd',Nm c.1∧aBk c.2:=fun c h=>hc1 c (hsub.1 c h)
  refine q p9 H9 _ _ (.keep (.table T0) (hd'.map (·.1))) hd' ((fx3.trans f4).sm s49) g9 (.keep (SqT.of ((s8.trans s9) _ _ g7)) (hq1.tk tk39) (qG (SqT.of ((s7.trans (s8.trans s9)) _ _ g6)) (fun n hn'=>?_) (by rw [List.length_map];exact hle) (by rw [List.length_map];lia))) rfl ⟨t8,us,rfl,SqT.of (s9 _ _ g8),hus.imp fun _ _ h=>h.same s49⟩ ?_ ⟨hgd,hcd⟩ (by show 1+1≤4;decide)
  ·obtain ⟨c,hcm,rfl⟩:=List.mem_map.mp hn'
   exact (hcd c hcm).1
  ·have h:=HH.keep (hs:=dG ts) (q:=.table T0) (aBr nd1 hsub.1)
   rw [zip_fst_snd] at h
   exact .mk1 rfl hHQ1 h hgd
 refine ⟨_,rfl,rfl,_,rfl,lU (fun _=>?_) (fun _=>?_)⟩
 ·refine ⟨_,rfl,a,14,rfl,fx3.st,by decide,fun tz H4 f4 t0 t1=>?_⟩
  obtain ⟨tn,rfl⟩:∃tn:Nat,tz=tn:=⟨tz.toNat,by lia⟩
  have fx4:=fx3.trans f4
  obtain ⟨hb,us,rfl,hhb,hus⟩:=id hh1
  have lus:=hus.len
  have tk34:TK K H3 H4:=f4.tk fx3.st
  have hhb4:=tk34 _ _ hhb
  have lfr:(turned ns tn h0.length).length=h0.length:=by simp [turned]
  obtain ⟨tnd,tnm⟩:=aPt hn tn (n:=h0.length) (by lia)
  try dsimp only [bO,gY,iU,tCB,fK]
  refine iT ((List.range h0.length).map fun i:Nat=>V.int (0+(i:Int))) ((turned ns tn h0.length).map V.str) (by rw [List.length_map,List.length_map,List.length_range,lfr]) [none,some (.ref N),some (.int (tn:Nat))] ?_ (small (by rw [List.length_map,List.length_range];lia)) (fun R r=>aFb h0.length (fun R' r'=>⟨_,rfl,hb,_,rfl,.inr hhb4,by rw [←lus] at r';exact r'⟩) (by lia) R r) (fun i x y ex ey H' R l sm r=>?_) rfl fun F H5 s5 g5=>?_
  ·refine ⟨rfl,fun i y v h1 h2=>?_⟩
   match i,h1,h2 with
   |0,_,h2=>cases h2
   |1,h1,h2=>cases h1;cases h2;exact ⟨by decide +kernel,2,rfl,rfl,by trivial⟩
   |2,h1,h2=>cases h1;cases h2;exact ⟨by decide +kernel,7,rfl,rfl,by trivial⟩
   |i+3,h1,_=>cases h1
  ·obtain ⟨hi,rfl⟩:=aKu ex
   obtain ⟨fn,hfn,rfl⟩:=dJ ey
   have hfi:ns[3+(tn+i) % 14]?=some fn:=aOm hn hfn
   refine ⟨_,rfl,_,rfl,_,rfl,_,_,rfl,rfl,_,_,rfl,rfl,(by show (0:Int)<14;decide),_,_,rfl,rfl,N,_,_,_,rfl,rfl,SqL.of (sm _ _ (f4.same _ _ nNa hN3)),?_,r _ (Same.refl H')⟩
   have e:(3+((tn:Int)+(0+(i:Int))) % 14)=((3+(tn+i) % 14:Nat):Int):=by lia
   rw [e]
   exact cF (by rw [List.getElem?_map,hfi];rfl)
  generalize hfrs:turned ns tn h0.length=fr at g5 lfr tnd tnm
  refine ⟨F,_,rfl,SqL.of g5,fun t6 H6 _ s6 g6=>?_⟩
  have s46:=s5.trans s6
  refine ⟨_,rfl,_,rfl,(by show 3≤sizeLine;decide),fun q7 H7 _ s7 g7=>?_⟩
  have s47:=s46.trans s7
  have hus7:bL (IsC K H7) us h0:=hus.imp fun _ _ h=>(h.tk tk34).same s47
  have hhb7:=s47.aK hhb4
  have g67:SqT K H7 t6 (fr.map V.str):=SqT.of (s7 _ _ g6)
  try dsimp only [bO,gY,iU,tCB,fK]
  refine pR ((List.range h0.length).map fun i:Nat=>V.int (0+(i:Int))) (eN K (List.zipWith (fun n c=>(n,c.2)) fr h0)) eN.st eN.su [none,some (.ref t6),some (.ref hb)] ?_ (small (by rw [List.length_map,List.length_range];lia)) (fun R r=>aFb h0.length (fun R' r'=>⟨_,rfl,hb,_,rfl,.inr hhb7,by rw [←lus] at r';exact r'⟩) (by lia) R r) (fun i x ex H' R l sm r=>?_) rfl fun D8 H8 ys s8 g8 hly hR=>?_
  ·refine ⟨rfl,fun i y v h1 h2=>?_⟩
   match i,h1,h2 with
   |0,_,h2=>cases h2
   |1,h1,h2=>cases h1;cases h2;exact ⟨by decide +kernel,8,rfl,rfl,by trivial⟩
   |2,h1,h2=>cases h1;cases h2;exact ⟨by decide +kernel,4,rfl,rfl,by trivial⟩
   |i+3,h1,_=>cases h1
  ·obtain ⟨hi,rfl⟩:=aKu ex
   obtain ⟨p',hp',hpc⟩:∃p',us[i]?=some (.ref p')∧SqT K H7 p' [.str (h0[i]'hi).1,.str (h0[i]'hi).2]:=by
    have hi':i<us.length:=by lia
    obtain ⟨c,hc',p',e1,e2⟩:=bJ hus7 (List.getElem?_eq_getElem hi')
    rw [List.getElem?_eq_getElem hi] at hc'
    cases hc'
    exact ⟨p',by rw [List.getElem?_eq_getElem hi',e1],e2⟩
   have hif:i<fr.length:=by lia
   have a1:atI (fr.map V.str) (0+(i:Int))=some (.str (fr[i]'hif)):=by
    rw [Int.zero_add]
    exact cF (by rw [List.getElem?_map,List.getElem?_eq_getElem hif];rfl)
   have a2:atI us (0+(i:Int))=some (.ref p'):=by
    rw [Int.zero_add]
    exact cF hp'
   refine ⟨_,rfl,_,rfl,t6,_,_,_,rfl,rfl,sm.aK g67,a1,_,rfl,_,rfl,hb,_,_,_,rfl,rfl,sm.aK hhb7,a2,p',_,1,_,rfl,rfl,sm.aK hpc,at1 _ _ _,(by show 2≤sizeLine;decide),fun t H9 _ s9 g9=>r _ _ s9 ⟨(fr[i]'hif,(h0[i]'hi).2),t,?_,rfl,g9⟩⟩
   rw [List.getElem?_zipWith,List.getElem?_eq_getElem hif,List.getElem?_eq_getElem hi]
  rw [List.length_map,List.length_range] at hly
  have lzw:(List.zipWith (fun n c=>(n,c.2)) fr h0).length=h0.length:=by rw [List.length_zipWith,lfr,Nat.min_self]
  refine ⟨D8,_,rfl,SqL.of g8,fun t10 H10 _ s10 g10=>⟨(by show 2≤sizeLine;decide),fun p11 H11 _ s11 g11=>?_⟩⟩
  have s711:=s8.trans (s10.trans s11)
  have s411:=s47.trans s711
  have tk311:TK K H3 H11:=fun _ _ e=>s411.aK (tk34 _ _ e)
  have hgn:Good (List.zipWith (fun n c=>(n,c.2)) fr h0):=⟨by rw [gP lfr];exact tnd,by lia,by lia⟩
  refine q p11 H11 (.ref q7) (.ref t10) (.nmd (.table T0) fr) _ (fx4.sm s411) g11 (.nmd (SqT.of (s711 _ _ g7)) (hq1.tk tk311) (qG (s711.aK g67) tnm (by lia) (by lia))) rfl (aAz (SqT.of (s11 _ _ g10)) (by lia) fun i y e=>(hR i y e).st (s10.trans s11)) (.mk1 rfl hHQ1 (.nmd lfr) hgn) ⟨hgn,fun x hx=>?_⟩ (by show 1+1≤4;decide)
  obtain ⟨h1',c,hcm,e⟩:=aB9 hx
  exact ⟨tnm _ h1',by rw [e];exact (hc1 c hcm).2⟩
 refine ⟨_,rfl,rfl,_,rfl,lU (fun _=>?_) (fun _=>?_)⟩
 ·exact ⟨_,rfl,_,rfl,_,rfl,_,rfl,a,N,.ref tb,v2,.table T0,h0,ns,dG ts,rfl,fx3.st,nNa,hq1,hh1,hok1,hHQ1,hN3,hn,fun p H' w1 w2 q' hd' f' g' hq' hh' hHQ' hok' hz' hk'=>q p H' _ _ q' hd' (fx3.trans f') g' hq' hk' hh' hHQ' hok' (by have:size (.table T0)=1:=rfl;lia)⟩
 ·refine ⟨_,rfl,_,rfl,_,rfl,a,v2,h0,rfl,fx3.st,hh1,hok1,fun vk H4 ps ks f4 hps hlkk hndp=>⟨_,rfl,a,7,rfl,(fx3.trans f4).st,by decide,fun mm H5 f5 m0 m1=>⟨(by show 4≤sizeLine;decide),fun t6 H6 _ s6 g6=>⟨_,rfl,(by show 2≤sizeLine;decide),fun p7 H7 _ s7 g7=>?_⟩⟩⟩⟩
  obtain ⟨mn,rfl⟩:∃mn:Nat,mm=mn:=⟨mm.toNat,by lia⟩
  have f35:=f4.trans f5
  have s57:=s6.trans s7
  have tk37:TK K H3 H7:=fun _ _ e=>s57.aK (f35.aK fx3.st e)
  have tk47:TK K H4 H7:=fun _ _ e=>s57.aK (f5.aK (fx3.trans f4).st e)
  exact q p7 H7 _ _ (.first (.table T0) ps mn) h0 ((fx3.trans f35).sm s57) g7 (.first (SqT.of (s7 _ _ g6)) (hq1.tk tk37) (hps.tk tk47 fun h=>h.tk tk47) (by lia)) rfl (hh1.tk tk37) (.mk1 rfl hHQ1 (.first hlkk hndp) hok1.1) hok1 (by show 1+1≤4;decide)
def aQy (wi:TI) (g:TG) (tt:TT) (te:TE):TE:=fun σ H Q=>wi σ H fun J H1=>aJ8 J H1 [none,none] g tt te Q
theorem aRc {X:Cx} {pos:Pos} {elt target iter:Expr} {ifs:List Expr} {scope:Scope} {x y:Str} {wi:TI} {g:TG} {tt:TT} {te:TE}
  (C:zT scope [x,y]) (hfr:∀z,(z,NameKind.free)∈scope.names→X.env.kindOf z=some .cell∨X.env.kindOf z=some .free) (hc:X.calm=true)
  (hi:VI X target iter wi)
  (hb:∀cl s H fp,VG (cxC X [x,y] scope cl s H fp) target g∧VF (cxC X [x,y] scope cl s H fp) ifs tt∧VE (cxC X [x,y] scope cl s H fp) elt te)
  (hs:∀x,foldedSetIterable iter X.env x=pure x:=by intro _;rfl) :
  VE X (.ListComp elt [⟨target,iter,ifs,0⟩] scope pos) (aQy wi g tt te):=VE.imp (bZ C hfr hc hi hb hs) fun σ H Q h=>⟨[none,none],gQ,h⟩
theorem aU4 {X:Cx} {tg e:Expr} {te:TE} (h:VE X e te) (hk:X.K=K:=by rfl):VI X tg e (aCx K te):=by subst hk;exact eO h
theorem aKc {tl:TE} {σ:L2.St} {H:Hp} {Q:VK} {b:Addr} {us:List V} {cs:Hdr} (hb:SqT K H b us) (hu:bL (IsC K H) us cs) (h8:cs.length≤100) (hw:∀R:VK,R (.ref b) H→tl σ H R)
  (q:∀D H',H D=none→Same H H'→H' D=some (.lst ((cs.map (·.1)).map V.str))→Q (.ref D) H'):aQy (aCx K tl) (aDa K 2 (jF (bO 0) (jF (bO 1) aAk))) pD (uR 0) σ H Q:=by
 have lu:=hu.len
 refine (hw _ ⟨b,rfl,⟨_,hb⟩,yG Same (oW H) us (fun _=>true) (fun i _ y=>∃c,cs[i]?=some c∧y=.str c.1) (fun _ _ h=>h) (fun _ _ _ h=>h) (fun i σ=>∃c,cs[i]?=some c∧At2 [none,none] (.str c.1) (.str c.2) σ) (Ps2 [none,none]) ⟨none,none,rfl⟩ (small (by lia)) _ (aB0 fun H' s'=>s'.aK hb) (sS fun H' s'=>s'.aK hb) (fun i x σ' H' Q' ex hps s' qq=>?_) (fun i x σ2 ex hA H' R s' r=>r _ (Same.refl _)) (fun i x σ2 ex hA _ H' R s' r=>?_) fun D H1 ys s1 fD g1 hys=>?_⟩)
 ·obtain ⟨c,hc,p,rfl,hp⟩:=bJ hu ex
  exact hg2 (s'.aK hp) hps fun σ2 h1 h2=>qq σ2 h1 ⟨c,hc,h2⟩
 ·obtain ⟨c,hc,rfl⟩:=hA
  exact ⟨_,rfl,r _ _ (Same.refl H') ⟨c,hc,rfl⟩⟩
 ·rw [pP] at hys
  obtain ⟨l,hg⟩:=nP hys
  rw [aCa (by lia) hg] at g1
  exact q D H1 fD s1 g1
theorem aJf {h1:Hdr} (nd:(h1.map (·.1)).Nodup):∀{S:List Str},S.Nodup→(∀n∈S,n∈h1.map (·.1))→(h1.filter fun c=>!decide (c.1∈S)).length+S.length≤h1.length
 |[],_,_=>by
  rw [List.length_nil]
  exact List.length_filter_le _ _
 |n::S,nS,hS=>by
  rw [List.nodup_cons] at nS
  have ih:=aJf nd nS.2 fun m hm=>hS m (List.mem_cons_of_mem _ hm)
  obtain ⟨c,hc,e⟩:=List.mem_map.mp (hS n (List.mem_cons_self ..))
  have e1:(h1.filter fun c=>!decide (c.1∈n::S))=(h1.filter fun c=>!decide (c.1∈S)).filter fun c=>!decide (c.1=n):=by
   rw [List.filter_filter]
   refine List.filter_congr fun x _=>?_
   by_cases a:x.1=n <;> by_cases b:x.1∈S <;> simp [a,b]
  have hc2:c∈h1.filter fun c=>!decide (c.1∈S):=List.mem_filter.mpr ⟨hc,by rw [e];simpa using nS.1⟩
  have e2:((h1.filter fun c=>!decide (c.1∈S)).filter fun c=>!decide (c.1=n)).length+1≤(h1.filter fun c=>!decide (c.1∈S)).length:=by
   have hlt:((h1.filter fun c=>!decide (c.1∈S)).filter fun c=>!decide (c.1=n)).length<(h1.filter fun c=>!decide (c.1∈S)).length:=by
    refine Nat.lt_of_le_of_ne (List.length_filter_le _ _) fun z=>?_
    have:=(List.length_filter_eq_length_iff.mp z) c hc2
    rw [e] at this
    simp at this
   exact hlt
  rw [e1,List.length_cons]
  lia
def aNt (K:PySem.W.Frag):Sp:=fun vs H Q _=>∃(a d N:Addr) (ts:List (Str × Hdr)) (ns:List Str) (T1 T2:Str) (h1 h2:Hdr),vs=[.ref a,.ref d,.ref N]∧lO H a∧N≠a∧aC1 K H d ts∧aUg ts∧H N=some (.lst (ns.map V.str))∧nJ ns∧ns[0]?=some T1∧ns[1]?=some T2∧(T1,h1)∈ts∧(T2,h2)∈ts∧h1.length≤7∧h2.length≤7 ∧
 (∀H',Fx a H H'→Q .non H')∧∀p H' v1 v2 ms ps hd',Fx a H H'→H' p=some (.tup [v1,v2])→IsQ K H' v1 (.join (.table T1) (.nmd (.table T2) ms) ps)→eG K H' v2 hd'→HQ (dG ts) (.join (.table T1) (.nmd (.table T2) ms) ps) hd'→uG hd'→Q (.ref p) H'
theorem aG7 (T:Txt w K mg) (aN:Ok P w K mg base 1 "_law_next" ["_law_state","_law_many"] gR) (aF1:Ok P w K mg base 2 "_law_pairs" ["_law_state","_law_head_here","_law_other"] (aI2 K)) :
  Ok P w K mg base 3 "_law_pair" ["_law_state","_law_heads","_law_names_here"] (aNt K):=by
 refine Ok.ofV T.aKl cU (fun vs H Q E h=>?_) (fun f cdv A outer s H vs Q E hr h=>?_)
 ·obtain ⟨a,d,N,ts,ns,T1,T2,h1,h2,rfl,_⟩:=h;rfl
 obtain ⟨a,d,N,ts,ns,T1,T2,h1,h2,rfl,hst,nNa,hD,hts,hN,hn,hn1,hn2,hm1,hm2,l71,l72,qN,q⟩:=h
 have hu:=uP hr
 refine ⟨_,(aC (aV (i:=3) cU.nd rfl (by trivial) (lC hu (vv 1) (aH bN (vv 2) aD (fun _ _=>rfl)) (fun _ _=>rfl))) (aC (aV (i:=4) cU.nd rfl (by trivial) (lC hu (vv 1) (aH bN (vv 2) aD (fun _ _=>rfl)) (fun _ _=>rfl))) (aC (aV (i:=5) cU.nd rfl (by trivial) (dW sZ (bZ (N:=["_law_name","_law_head_here"]) (by trivial) (cV (aG gK) rfl (by decide +kernel)) rfl (eE (dW sZ (vv 2) (eX aD) gU)) (fun cl s' H' fp=>⟨(aL (i:=0) (show (["_law_name","_law_head_here"]:List Str).Nodup from by decide +kernel) rfl (Or.inl rfl)),(pZ (aU (iG (K:=K)) (vv 0) (aRc (by trivial) (dZ (by decide +kernel)) rfl (aU4 (K:=K) (vv 1)) (fun cl s' H' fp=>⟨(jQ (K:=K) (n:=2) rfl (bB (aL (i:=0) (show (["_law_column","_law_kind"]:List Str).Nodup from by decide +kernel) rfl (Or.inl rfl)) (bB (aL (i:=1) (show (["_law_column","_law_kind"]:List Str).Nodup from by decide +kernel) rfl (Or.inl rfl)) cW))),cI,(vv 0)⟩)) (by with_unfolding_all rfl))),(vv 0)⟩)) gU (eX (aW aX (by rfl) T.dB cH (aB (vv 4) aA))))) (aC (iR (i0:=6) cU.nd rfl (by trivial) (N:=["_law_k","_law_fresh","_law_other"]) (by trivial) (cV (aG gK) rfl (by decide +kernel)) rfl (fU (by rfl) T.lG (aB (aW aX (by rfl) T.dB cH (aB (vv 4) aA)) aA)) (fun cl s' H' fp=>⟨(aL (i:=0) (show (["_law_k","_law_fresh","_law_other"]:List Str).Nodup from by decide +kernel) rfl (Or.inl rfl)),cI,(aY (aB (aH (wC (K:=K)) (vv 1) (vv 0) (fun _ _=>rfl)) (aB (aH (cD (K:=K)) (aH (cD (K:=K)) (vv 2) (vv 0) (fun _ _=>rfl)) aD (fun _ _=>rfl)) aA)))⟩)) (aC (aV (i:=7) cU.nd rfl (by trivial) (aJ (aF1.mono (by decide)) hr (by rfl) (aB (vv 0) (aB (vv 3) (aB (vv 6) aA))))) (aC (bR (VW.pt (sJ (aU (aW2 (Nat.lt_of_succ_lt hu)) (vv 7) (aY aA) (aZ _)) (pI (aU aJ1 (bW aGn (bW fG (aW aX (by rfl) T.dB cH (aB (vv 3) aA)) (aW aX (by rfl) T.dB cH (aB (vv 4) aA))) (aW aX (by rfl) T.dB cH (aB (vv 7) aA))) aD (aZ _))))) (aF (aM rN)) bA) (aC (iR (i0:=8) cU.nd rfl (by trivial) (N:=["_law_column","_law_pairs_here"]) (by trivial) (cV (aG gK) rfl (by decide +kernel)) rfl (eE (vv 6)) (fun cl s' H' fp=>⟨(aL (i:=0) (show (["_law_column","_law_pairs_here"]:List Str).Nodup from by decide +kernel) rfl (Or.inl rfl)),(pZ (aPg rfl (aH (cD (K:=K)) (vv 0) aD (fun _ _=>rfl)) (bF (aJn (K:=K) rfl) (by rfl) T.aGr aAu (aB (vv 1) aA)))),(vv 0)⟩)) (aC (aV (i:=9) cU.nd rfl (by trivial) (aH aR (aH aR (vv 3) (aJ (aN.mono (by decide)) hr (by rfl) (aB (vv 0) (aB (aW aX (by rfl) T.dB cH (aB (vv 3) aA)) aA))) (fun _ _=>rfl)) aD (fun _ _=>rfl))) (aC (bR (aU cG (aJ (aN.mono (by decide)) hr (by rfl) (aB (vv 0) (aB aD aA))) aD (aZ _)) (aC (aV (i:=5) cU.nd rfl (by trivial) (bZ (N:=["_law_name","_law_own","_law_pairs_here"]) (by trivial) (cV (aG gK) rfl (by decide +kernel)) rfl (eE (vv 5)) (fun cl s' H' fp=>⟨(aL (i:=0) (show (["_law_name","_law_own","_law_pairs_here"]:List Str).Nodup from by decide +kernel) rfl (Or.inl rfl)),cI,(aH (wC (K:=K)) (cO (aB (vv 0) (aB (vv 1) aA))) (bF uB (by rfl) T.aIy aBd (aB (eZ cG (vv 0) (aH (cD (K:=K)) (aH (cD (K:=K)) (vv 2) aD (fun _ _=>rfl)) aD (fun _ _=>rfl)) (aZ _)) aA)) (fun _ _=>rfl))⟩))) (aF (aV (i:=7) cU.nd rfl (by trivial) (bW pX (aY (aB (aY (aB (aH aR (aH (cD (K:=K)) (vv 7) aD (fun _ _=>rfl)) aD (fun _ _=>rfl)) (aB (vv 9) aA))) aA)) (dW xJ (vv 7) (eX aD) gU))))) bA) (aC (aV (i:=10) cU.nd rfl (by trivial) (aY (aB aO (aB (aY (aB aO (aB (aH bN (vv 2) aD (fun _ _=>rfl)) aA))) (aB (aY (aB aO (aB (aY (aB aO (aB (aH bN (vv 2) aD (fun _ _=>rfl)) aA))) (aB (bF bU (by rfl) T.cP cA (aB (vv 5) aA)) aA)))) (aB (vv 7) aA)))))) (aF (aM (aY (aB (vv 10) (aB (bW pX (vv 3) (bF bU (by rfl) T.cP cA (aB (vv 8) aA))) aA))))))))))))))),?_⟩
 obtain ⟨hnT1,hok1⟩:=hts.nm _ hm1
 obtain ⟨hnT2,hok2⟩:=hts.nm _ hm2
 have hok1:uG h1:=hok1
 have hok2:uG h2:=hok2
 have hlk1:=tY hts.nd hm1
 have hlk2:=tY hts.nd hm2
 obtain ⟨⟨nd1,l11,l18⟩,hc1⟩:=id hok1
 obtain ⟨⟨nd2,l21,l28⟩,hc2⟩:=id hok2
 have hHQ1:HQ (dG ts) (.table T1) h1:=.mk0 rfl (.table hlk1) hok1.1
 have hHQ2:HQ (dG ts) (.table T2) h2:=.mk0 rfl (.table hlk2) hok2.1
 obtain ⟨kvs,hdk,hkv⟩:=id hD
 obtain ⟨v1,hv1,hh1⟩:=xZ hkv T1 h1 hlk1
 obtain ⟨v2,hv2,hh2⟩:=xZ hkv T2 h2 hlk2
 have at_0:atI (ns.map V.str) 0=some (.str T1):=cF (j:=0) (by rw [List.getElem?_map,hn1];rfl)
 have at_1:atI (ns.map V.str) 1=some (.str T2):=cF (j:=1) (by rw [List.getElem?_map,hn2];rfl)
 refine ⟨_,rfl,_,rfl,N,_,0,_,rfl,rfl,SqL.of hN,at_0,d,v1,rfl,?_,?_⟩
 ·have hg:=rJ.k (k:=(Sum.inr T1:Key)) hdk
  rw [hv1] at hg
  exact hg
 refine ⟨_,rfl,_,rfl,N,_,1,_,rfl,rfl,SqL.of hN,at_1,d,v2,rfl,?_,?_⟩
 ·have hg:=rJ.k (k:=(Sum.inr T2:Key)) hdk
  rw [hv2] at hg
  exact hg
 obtain ⟨b1,us1,rfl,hb1,hus1⟩:=id hh1
 obtain ⟨b2,us2,rfl,hb2,hus2⟩:=id hh2
 have lu1:=hus1.len
 have lu2:=hus2.len
 dsimp only [bO,gY,iU,tSl]
 refine aBc (K:=K) (U:=.ref b1) (used:=h1.map (·.1)) hn ?_ (fun R r=>?_) (fun n l H' R s' r=>?_) fun F H2 fF s2 gF=>?_
 ·exact cX 3 (by decide +kernel) rfl rfl (by trivial)
 ·refine ⟨_,rfl,_,rfl,N,_,rfl,SqL.of hN,fun p' H' fp' s' g'=>r p' H' fp' s' ?_⟩
  rw [g',show (3:Int)=((3:Nat):Int) from rfl,nA,List.map_drop]
 ·refine ⟨_,rfl,?_⟩
  refine aKc (s'.aK hb1) (hus1.imp fun _ _ h=>h.same s') (by lia) (fun R r=>⟨_,rfl,r⟩) fun D H3 f3 s3 g3=>⟨D,_,rfl,.inl (SqL.of g3),rfl,iJ,_,rfl,?_⟩
  rw [lK]
  exact r _ s3
 obtain ⟨fnd,fnm,flen,flen2⟩:=aH1 (used:=h1.map (·.1)) hn
 rw [List.length_map] at flen
 generalize hfr:lF ns (h1.map (·.1))=fr at gF fnd fnm flen flen2
 refine ⟨_,rfl,b2,_,rfl,.inr (s2.aK hb2),_,rfl,F,_,rfl,SqL.of gF,fun p8 H8 fp8 s8 g8=>?_⟩
 rw [lu2,tQ,←List.map_take] at g8
 have lft:(fr.take h2.length).length=h2.length:=by rw [List.length_take];lia
 have hnt:∀n∈fr.take h2.length,Nm n∧n∉h1.map (·.1):=fun n h=>fnm n (List.mem_of_mem_take h)
 have ndt:(fr.take h2.length).Nodup:=fnd.sublist (List.take_sublist _ _)
 generalize fr.take h2.length=ms at g8 lft hnt ndt
 have t8:=s2.trans s8
 have hb28:=t8.aK hb2
 have hus28:bL (IsC K H8) us2 h2:=hus2.imp fun _ _ h=>h.same t8
 try dsimp only [bO,gY,iU]
 refine pR ((List.range h2.length).map fun i:Nat=>V.int (0+(i:Int))) (eN K (List.zipWith (fun n c=>(n,c.2)) ms h2)) eN.st eN.su [none,some (.ref p8),some (.ref b2)] ?_ (small (by rw [List.length_map,List.length_range];lia)) (fun R r=>aFb h2.length (fun R' r'=>⟨_,rfl,b2,_,rfl,.inr hb28,by rw [←lu2] at r';exact r'⟩) (by lia) R r) (fun i x ex H' R l sm r=>?_) rfl fun D9 H9 ys s9 g9 hly hR=>?_
 ·refine ⟨rfl,fun i y v h1 h2=>?_⟩
  match i,h1,h2 with
  |0,_,h2=>cases h2
  |1,h1,h2=>cases h1;cases h2;exact ⟨by decide +kernel,5,rfl,rfl,by trivial⟩
  |2,h1,h2=>cases h1;cases h2;exact ⟨by decide +kernel,4,rfl,rfl,by trivial⟩
  |i+3,h1,_=>cases h1
 ·obtain ⟨hi,rfl⟩:=aKu ex
  obtain ⟨p',hp',hpc⟩:∃p',us2[i]?=some (.ref p')∧SqT K H8 p' [.str (h2[i]'hi).1,.str (h2[i]'hi).2]:=by
   have hi':i<us2.length:=by lia
   obtain ⟨c,hc',p',e1,e2⟩:=bJ hus28 (List.getElem?_eq_getElem hi')
   rw [List.getElem?_eq_getElem hi] at hc'
   cases hc'
   exact ⟨p',by rw [List.getElem?_eq_getElem hi',e1],e2⟩
  have hif:i<ms.length:=by lia
  have a1:atI (ms.map V.str) (0+(i:Int))=some (.str (ms[i]'hif)):=by
   rw [Int.zero_add]
   exact cF (by rw [List.getElem?_map,List.getElem?_eq_getElem hif];rfl)
  have a2:atI us2 (0+(i:Int))=some (.ref p'):=by
   rw [Int.zero_add]
   exact cF hp'
  refine ⟨_,rfl,_,rfl,p8,_,_,_,rfl,rfl,SqL.of (sm _ _ g8),a1,_,rfl,_,rfl,b2,_,_,_,rfl,rfl,sm.aK hb28,a2,p',_,1,_,rfl,rfl,sm.aK hpc,at1 _ _ _,(by show 2≤sizeLine;decide),fun t H9 _ s9 g9=>r _ _ s9 ⟨(ms[i]'hif,(h2[i]'hi).2),t,?_,rfl,g9⟩⟩
  rw [List.getElem?_zipWith,List.getElem?_eq_getElem hif,List.getElem?_eq_getElem hi]
 rw [List.length_map,List.length_range] at hly
 have lzw:(List.zipWith (fun n c=>(n,c.2)) ms h2).length=h2.length:=by rw [List.length_zipWith,lft,Nat.min_self]
 have hgn:Good (List.zipWith (fun n c=>(n,c.2)) ms h2):=⟨by rw [gP lft];exact ndt,by lia,by lia⟩
 have hHQn:HQ (dG ts) (.nmd (.table T2) ms) (List.zipWith (fun n c=>(n,c.2)) ms h2):=.mk1 rfl hHQ2 (.nmd lft) hgn
 have hokn:uG (List.zipWith (fun n c=>(n,c.2)) ms h2):=⟨hgn,fun x hx=>by
  obtain ⟨h1',c,hcm,e⟩:=aB9 hx
  exact ⟨(hnt _ h1').1,by rw [e];exact (hc2 c hcm).2⟩⟩
 have hdis:∀c∈List.zipWith (fun n c=>(n,c.2)) ms h2,c.1∉h1.map (·.1):=fun c hc=>(hnt _ (aB9 hc).1).2
 have hfst:(List.zipWith (fun n c=>(n,c.2)) ms h2).map (·.1)=ms:=gP lft
 have hall:bL (IsC K H9) ys (List.zipWith (fun n c=>(n,c.2)) ms h2):=wI (by lia) fun i y c e1 e2=>by
  obtain ⟨c',t,e3,rfl,g⟩:=hR i y e1
  rw [e3] at e2
  cases e2
  exact ⟨t,rfl,SqT.of g⟩
 generalize hhn:List.zipWith (fun n c=>(n,c.2)) ms h2=hn1' at lzw hgn hHQn hokn hdis hfst hall
 have t9:=t8.trans s9
 have fx9:Fx a H H9:=.of hst t9
 refine ⟨_,rfl,_,rfl,_,rfl,a,.ref b1,.ref D9,h1,hn1',rfl,fx9.st,hh1.same t9,hok1,⟨D9,ys,rfl,SqL.of g9,?_,hall⟩,hokn,fun p H10 us ps f10 g10 hus hpk lp3=>?_⟩
 ·obtain ⟨x,y,e,_⟩:=fx9.st
  intro z
  subst z
  rw [g9] at e
  cases e
  cases hall with
  |cons r _=>obtain ⟨_,e2,_⟩:=r;cases e2
 have fx10:Fx a H H10:=fx9.trans f10
 have tk10:TK K H H10:=fx10.tk hst
 have tk910:TK K H9 H10:=f10.tk fx9.st
 have nD9:D9≠a:=by
  obtain ⟨x,y,e,_⟩:=fx9.st
  intro z
  subst z
  rw [g9] at e
  cases e
  cases hall with
  |cons r _=>obtain ⟨_,e2,_⟩:=r;cases e2
 have g910:=f10.same _ _ nD9 g9
 have np8:p8≠a:=hst.ne (s2.free fp8)
 have g810:=f10.same _ _ np8 (s9 _ _ g8)
 have hN10:=fx10.same _ _ nNa hN
 have lup:=hus.len
 have lys:=hall.len
 refine ⟨_,rfl,(by show 0≤sizeLine;decide),fun e3 H3 _ s3 g3=>⟨p,e3,us,rfl,rfl,SqT.of (s3 _ _ g10),SqT.of g3,_,rfl,?_⟩⟩
 have fx3:=fx10.sm s3
 cases ps with
 |nil=>
  cases hus
  exact cC (cC (qN H3 fx3))
 |cons p0 ps=>
  cases hus with
  |@cons u0 _ us _ r0 hus=>
   refine bC ?_
   obtain ⟨b0,rfl,hb0,hn01,hn02⟩:=id r0
   have tk3:TK K H H3:=fx3.tk hst
   have tk93:TK K H9 H3:=fun _ _ e=>s3.aK (tk910 _ _ e)
   have gp3:=s3 _ _ g10
   refine ⟨_,rfl,b1,_,rfl,.inr (tk3 _ _ hb1),_,rfl,b2,_,rfl,.inr (tk3 _ _ hb2),_,_,rfl,rfl,_,rfl,p,_,rfl,.inr (SqT.of gp3),_,_,rfl,rfl,_,_,rfl,rfl,_,rfl,lU (fun _=>qN H3 fx3) (fun c8=>?_)⟩
   have hpr3:bL (jW K H3) (.ref b0::us) (p0::ps):=.cons (r0.same s3) (hus.imp fun _ _ h=>h.same s3)
   have l8:h1.length+hn1'.length≤8+(p0::ps).length:=by
    have c8:(us1.length:Int)+(us2.length:Int) - ((us.length:Int)+1)≤8:=by simpa using c8
    rw [List.length_cons] at lup
    rw [List.length_cons] at lup ⊢
    lia
   have hsnd:∀n∈(p0::ps).map (·.2),n∈hn1'.map (·.1):=fun n hnm=>by
    obtain ⟨pp,hpp,rfl⟩:=List.mem_map.mp hnm
    obtain ⟨⟨ks,hk⟩,_⟩:=hpk
    obtain ⟨k,_,hk2⟩:=hk.aZy hpp
    exact jK hk2.2
   have lfl:=aJf hgn.1 hpk.2.2 hsnd
   rw [List.length_map] at lfl
   dsimp only [oK,bO,gY,iU,tCB,fK]
   refine aBh ys (leJ hn1' ((p0::ps).map (·.2))) [none,some (.ref p)] ?_ (small (by lia)) (fun R rr=>uF (K:=K) (fun H' s'=>SqL.of (s' _ _ (s3 _ _ g910))) (fun R' r'=>⟨_,rfl,r'⟩) R rr) (fun i x ex H' R l sm' rr=>?_) rfl fun D H6 s6 g6=>?_
   ·exact cX 7 (by decide +kernel) rfl rfl (by trivial)
   ·obtain ⟨c',hc',p',rfl,hp'⟩:=bJ hall ex
    refine ⟨_,rfl,p',_,0,_,rfl,rfl,sm'.aK (tk93 _ _ hp'),at0 _ _,_,rfl,p,_,_,rfl,SqT.of (sm' _ _ gp3),aRq (aQ3 (hpr3.imp fun _ _ h=>h.same sm')),?_,fun dd Hd fdd sd gd=>?_⟩
    ·have:=hpr3.len
     lia
    rw [tZ (aRt hpk.2.1)] at gd
    refine ⟨dd,_,(p0::ps).map (·.2),c'.1,rfl,rfl,gd,aS2 _,_,rfl,?_⟩
    have e:leJ hn1' ((p0::ps).map (·.2)) i=!decide (c'.1∈(p0::ps).map (·.2)):=by
     unfold leJ
     rw [hc']
    rw [←e]
    exact rr _ sd
   have es:sel (leJ hn1' ((p0::ps).map (·.2))) 0 hn1'=hn1'.filter fun c=>!decide (c.1∈(p0::ps).map (·.2)):=kY fun i x ex=>by
    unfold leJ
    rw [Nat.zero_add,ex]
   have hl2:=aIh (p:=leJ hn1' ((p0::ps).map (·.2))) hall 0
   rw [es] at hl2
   have lsel:=hl2.len
   have fx6:Fx a H H6:=fx3.sm s6
   have tk6:TK K H H6:=fx6.tk hst
   have nDa:D≠a:=by
    obtain ⟨x,y,e,_⟩:=fx6.st
    intro z
    subst z
    rw [g6] at e
    generalize sel (leJ hn1' ((p0::ps).map (·.2))) 0 ys=zz at e hl2
    cases e
    obtain ⟨_,_,_,e2,_⟩:=bJ hl2 (i:=0) rfl
    cases e2
   have done:∀(H7:Hp) (F7:Addr) (ms7:List Str) (vP:V) (hO:Hdr) (ps':List (Str × Str)),Fx a H H7→TK K H9 H7→H7 F7=some (.lst (ms7.map V.str))→(∀n∈ms7,Nm n)→ms7.length=h2.length→HQ (dG ts) (.nmd (.table T2) ms7) hO→aTb h1 hO ps'→(hO.filter fun c=>!decide (c.1∈ps'.map (·.2)))=(hn1'.filter fun c=>!decide (c.1∈(p0::ps).map (·.2)))→gM jW 1 3 K H7 vP ps' →
     ∀p12 H12 tA tB tC tD tE tG,Same H7 H12→SqT K H12 tA [.str "table",.str T1]→SqT K H12 tB [.str "table",.str T2]→SqT K H12 tC (ms7.map V.str)→SqT K H12 tD [.str "named",.ref tB,.ref tC]→SqT K H12 tE [.str "join",.ref tA,.ref tD,vP]→SqT K H12 tG (us1++sel (leJ hn1' ((p0::ps).map (·.2))) 0 ys)→H12 p12=some (.tup [.ref tE,.ref tG])→Q (.ref p12) H12:=by
    intro H7 F7 ms7 vP hO ps' fx7 tk97 g7 hm7 lm7 hO2 hO3 hO4 hO5 p12 H12 tA tB tC tD tE tG s712 hA hB hC hDD hE hG g12
    have tk12:TK K H H12:=(fx7.sm s712).tk hst
    have tk912:TK K H9 H12:=fun _ _ e=>s712.aK (tk97 _ _ e)
    have hgj:Good (h1++hn1'.filter fun c=>!decide (c.1∈(p0::ps).map (·.2))):=by
     refine ⟨?_,by rw [List.length_append];lia,by rw [List.length_append];lia⟩
     rw [List.map_append,List.nodup_append]
     refine ⟨nd1,hgn.1.sublist (List.filter_sublist.map _),fun x hx y hy e=>?_⟩
     subst e
     obtain ⟨c',hc',rfl⟩:=List.mem_map.mp hy
     exact hdis c' (List.mem_filter.mp hc').1 hx
    refine q p12 H12 _ _ ms7 ps' (h1++hn1'.filter fun c=>!decide (c.1∈(p0::ps).map (·.2))) (fx7.sm s712) g12 ?_ ?_ ?_ ⟨hgj,fun c' hc'=>?_⟩
    ·exact .join hE (.table hA hnT1) (.nmd hDD (.table hB hnT2) (qG hC hm7 (by lia) (by lia))) (hO5.same s712 fun h=>h.same s712)
    ·exact ⟨tG,_,rfl,hG,(hus1.imp fun _ _ h=>h.tk tk12).app (hl2.imp fun _ _ h=>h.tk tk912)⟩
    ·obtain ⟨⟨ks,hks⟩,n1,n2⟩:=hO3
     have:=HH.join (hs:=dG ts) (q:=.table T1) (r:=.nmd (.table T2) ms7) hks n1 n2
     rw [hO4] at this
     exact .mk2 rfl hHQ1 hO2 this hgj
    ·rcases List.mem_append.mp hc' with hc'|hc'
     ·exact hc1 c' hc'
     ·exact hokn.2 c' (List.mem_filter.mp hc').1
   have tk96:TK K H9 H6:=fun _ _ e=>s6.aK (tk93 _ _ e)
   refine ⟨_,rfl,_,rfl,_,rfl,b1,_,rfl,.inr (tk6 _ _ hb1),a,_,rfl,fx6.st,(by show (0:Int)<(us1.length:Int)∧(us1.length:Int)<2 ^ 64;lia),fun dd H7 f7 d0 d1=>?_⟩
   obtain ⟨u,hat,hum⟩:=at_of (xs:=us1) d0 d1
   obtain ⟨cw,hcw,pw,rfl,hpw⟩:=hus1.mem hum
   have fx7:=fx6.trans f7
   refine ⟨b1,_,_,_,rfl,rfl,(fx7.tk hst) _ _ hb1,hat,pw,_,0,_,rfl,rfl,(fx7.tk hst) _ _ hpw,at0 _ _,?_⟩
   refine ⟨_,rfl,a,2,rfl,fx7.st,by decide,fun d2 H8' f8 e0 e1=>⟨rfl,_,rfl,?_⟩⟩
   have f68:Fx a H6 H8':=f7.trans f8
   have fx8:=fx6.trans f68
   have tk8:TK K H H8':=fx8.tk hst
   have tk68:TK K H6 H8':=f68.tk fx6.st
   have tk98:TK K H9 H8':=fun _ _ e=>tk68 _ _ (tk96 _ _ e)
   have tk38:TK K H3 H8':=fun _ _ e=>tk68 _ _ (s6.aK e)
   have hpr8:bL (jW K H8') (.ref b0::us) (p0::ps):=hpr3.imp fun _ _ h=>h.tk tk38
   have gp8:SqT K H8' p (.ref b0::us):=tk38 _ _ (SqT.of gp3)
   have g68:=f68.same _ _ nDa g6
   have g88:H8' p8=some (.lst (ms.map V.str)):=f68.same _ _ np8 (s6 _ _ (s3 _ _ g810))
   have hN8:=fx8.same _ _ nNa hN
   have lcat:us1.length+(sel (leJ hn1' ((p0::ps).map (·.2))) 0 ys).length≤sizeLine:=small (by lia)
   have hps1:1≤(p0::ps).length:=by rw [List.length_cons];lia
   have hown:Nm cw.1:=(hc1 cw hcw).1
   have hnot:cw.1∉hn1'.map (·.1):=fun z=>by
    obtain ⟨c',hc',e⟩:=List.mem_map.mp z
    exact hdis c' hc' (by rw [e];exact List.mem_map.mpr ⟨cw,hcw,rfl⟩)
   refine lU (fun _=>?_) (fun _=>?_)
   ·dsimp only [oK,bO,gY,iU,tCB,fK]
    refine iT (ms.map V.str) ((ms.map (oH p0.2 cw.1)).map V.str) (by rw [List.length_map,List.length_map,List.length_map]) [none,some (.str cw.1),some (.ref p)] ?_ (small (by rw [List.length_map];lia)) (fun R rr=>uF (K:=K) (fun H' s'=>SqL.of (s' _ _ g88)) (fun R' r'=>⟨_,rfl,r'⟩) R rr) (fun i x y ex ey H' R l sm' rr=>?_) rfl fun D2 H10' s10 g10'=>?_
    ·refine ⟨rfl,fun i y v h1 h2=>?_⟩
     match i,h1,h2 with
     |0,_,h2=>cases h2
     |1,h1,h2=>cases h1;cases h2;exact ⟨by decide +kernel,9,rfl,rfl,by trivial⟩
     |2,h1,h2=>cases h1;cases h2;exact ⟨by decide +kernel,7,rfl,rfl,by trivial⟩
     |i+3,h1,_=>cases h1
    ·obtain ⟨n,hn',rfl⟩:=dJ ex
     obtain ⟨n2,hn2,rfl⟩:=dJ ey
     rw [List.getElem?_map,hn'] at hn2
     cases hn2
     refine ⟨_,rfl,_,rfl,(by show 2≤sizeLine;decide),fun L2' H2' _ s2' g2'=>⟨_,rfl,_,rfl,p,_,0,_,rfl,rfl,s2'.aK (sm'.aK gp8),at0 _ _,b0,_,1,_,rfl,rfl,s2'.aK (sm'.aK (tk38 _ _ (s3.aK hb0))),at1 _ _ _,rfl,.inr ⟨_,rfl,L2',_,_,_,rfl,rfl,SqL.of g2',aY0,rr _ s2'⟩⟩⟩
    refine ⟨_,rfl,p,_,0,_,rfl,rfl,s10.aK gp8,at0 _ _,b0,_,0,_,rfl,rfl,s10.aK (tk38 _ _ (s3.aK hb0)),at0 _ _,_,rfl,(by show 2≤sizeLine;decide),fun r13 H13 _ s13 g13=>⟨(by show 1≤sizeLine;decide),fun r14 H14 _ s14 g14=>?_⟩⟩
    have s814:=s10.trans (s13.trans s14)
    refine ⟨_,rfl,_,rfl,p,_,rfl,s814.aK gp8,fun r15 H15 s15 g15=>?_⟩
    rw [show (1:Int)=((1:Nat):Int) from rfl,nA] at g15
    have g15:SqT K H15 r15 us:=g15
    have lus:=hus.len
    rw [List.length_cons] at lp3
    refine ⟨r14,r15,_,_,rfl,rfl,SqT.of (s15 _ _ g14),g15,small (by show 1+us.length≤1000;lia),fun r16 H16 s16 g16=>?_⟩
    have g16:SqT K H16 r16 (.ref r13::us):=g16
    have s1016:=s13.trans (s14.trans (s15.trans s16))
    have s816:=s10.trans s1016
    have hpr16:bL (jW K H16) (.ref r13::us) ((p0.1,cw.1)::ps):=.cons ⟨r13,rfl,SqT.of ((s14.trans (s15.trans s16)) _ _ g13),hn01,hown⟩ (hus.imp fun _ _ h=>((h.same s3).tk tk38).same s816)
    have g1016:=s1016 _ _ g10'
    have hN16:=s816 _ _ hN8
    refine ⟨_,rfl,N,_,0,_,rfl,rfl,SqL.of hN16,at_0,(by show 2≤sizeLine;decide),fun tA HA _ sA gA=>⟨_,rfl,N,_,1,_,rfl,rfl,SqL.of (sA _ _ hN16),at_1,(by show 2≤sizeLine;decide),fun tB HB _ sB gB=>⟨_,rfl,D2,_,rfl,SqL.of ((sA.trans sB) _ _ g1016),fun tC HC _ sC gC=>⟨(by show 3≤sizeLine;decide),fun tD HD _ sD gD=>⟨_,rfl,(by show 4≤sizeLine;decide),fun tE HE _ sE gE=>?_⟩⟩⟩⟩⟩
    have s16E:=sA.trans (sB.trans (sC.trans (sD.trans sE)))
    refine ⟨_,rfl,_,rfl,_,rfl,D,_,rfl,SqL.of ((s816.trans s16E) _ _ g68),fun tF HF _ sF gF=>⟨b1,tF,_,_,rfl,rfl,(s816.trans (s16E.trans sF)).aK (tk8 _ _ hb1),SqT.of gF,lcat,fun tG HG sG gG=>⟨(by show 2≤sizeLine;decide),fun p12 H12 _ s12 g12=>?_⟩⟩⟩
    have sE12:=sF.trans (sG.trans s12)
    have hgn':Good (yR p0.2 cw.1 hn1'):=⟨by rw [aHx];exact aN4 hgn.1 hnot,by unfold yR;rw [List.length_map];lia,by unfold yR;rw [List.length_map];lia⟩
    have hHQn':HQ (dG ts) (.nmd (.table T2) (ms.map (oH p0.2 cw.1))) (yR p0.2 cw.1 hn1'):=by
     have:=HH.nmd (hs:=dG ts) (q:=.table T2) (ns:=ms.map (oH p0.2 cw.1)) (hd:=h2) (by rw [List.length_map,lft])
     rw [aIm,hhn] at this
     exact .mk1 rfl hHQ2 this hgn'
    exact done H16 D2 (ms.map (oH p0.2 cw.1)) (.ref r16) (yR p0.2 cw.1 hn1') ((p0.1,cw.1)::ps) (fx8.sm s816) (fun _ _ e=>s816.aK (tk98 _ _ e)) g1016 (fun n hn'=>by
     obtain ⟨n1,hn1,rfl⟩:=List.mem_map.mp hn'
     unfold oH
     split
     ·exact hown
     ·exact (hnt n1 hn1).1) (by rw [List.length_map];exact lft) hHQn' (aX2 hgn.1 hpk hnot) (aS0 hnot) ⟨⟨r16,_,rfl,g16,hpr16⟩,by rw [List.length_cons];lia,by rw [List.length_cons];lia⟩ p12 H12 tA tB tC tD tE tG (s16E.trans sE12) (SqT.of ((sB.trans (sC.trans (sD.trans (sE.trans sE12)))) _ _ gA)) (SqT.of ((sC.trans (sD.trans (sE.trans sE12))) _ _ gB)) (SqT.of ((sD.trans (sE.trans sE12)) _ _ gC)) (SqT.of ((sE.trans sE12) _ _ gD)) (SqT.of (sE12 _ _ gE)) (s12.aK gG) g12
   ·refine ⟨_,rfl,N,_,0,_,rfl,rfl,SqL.of hN8,at_0,(by show 2≤sizeLine;decide),fun tA HA _ sA gA=>⟨_,rfl,N,_,1,_,rfl,rfl,SqL.of (sA _ _ hN8),at_1,(by show 2≤sizeLine;decide),fun tB HB _ sB gB=>⟨_,rfl,p8,_,rfl,SqL.of ((sA.trans sB) _ _ g88),fun tC HC _ sC gC=>⟨(by show 3≤sizeLine;decide),fun tD HD _ sD gD=>⟨_,rfl,(by show 4≤sizeLine;decide),fun tE HE _ sE gE=>?_⟩⟩⟩⟩⟩
    have s16E:=sA.trans (sB.trans (sC.trans (sD.trans sE)))
    refine ⟨_,rfl,_,rfl,_,rfl,D,_,rfl,SqL.of (s16E _ _ g68),fun tF HF _ sF gF=>⟨b1,tF,_,_,rfl,rfl,(s16E.trans sF).aK (tk8 _ _ hb1),SqT.of gF,lcat,fun tG HG sG gG=>⟨(by show 2≤sizeLine;decide),fun p12 H12 _ s12 g12=>?_⟩⟩⟩
    have sE12:=sF.trans (sG.trans s12)
    exact done H8' p8 ms (.ref p) hn1' (p0::ps) fx8 tk98 g88 (fun n hn'=>(hnt n hn').1) lft hHQn hpk rfl ⟨⟨p,_,rfl,gp8,hpr8⟩,hps1,lp3⟩ p12 H12 tA tB tC tD tE tG (s16E.trans sE12) (SqT.of ((sB.trans (sC.trans (sD.trans (sE.trans sE12)))) _ _ gA)) (SqT.of ((sC.trans (sD.trans (sE.trans sE12))) _ _ gB)) (SqT.of ((sD.trans (sE.trans sE12)) _ _ gC)) (SqT.of ((sE.trans sE12) _ _ gD)) (SqT.of (sE12 _ _ gE)) (s12.aK gG) g12
theorem aNx {S R:TS} {D:Ends} {σ:L2.St} {H:Hp} (J:L2.St→Hp→Prop) (h1:∀N:L2.St→Hp→Prop,(∀σ' H',J σ' H'→N σ' H')→S { D with nx:=N } σ H) (h2:∀σ' H',J σ' H'→R D σ' H'):gY S R D σ H:=h1 _ h2
theorem aSw {ts:List (Str × Hdr)} (h:aUg ts):NmH (dG ts):=by
 intro T hd e c hc
 unfold dG at e
 obtain ⟨t,ht,rfl⟩:=Option.map_eq_some_iff.mp e
 exact ((h.nm t (List.mem_of_find?_eq_some ht)).2.2 c hc).1
theorem aYa {f:Addr} {fd:FuncData} (F:Fun K "law" "law" aNr f fd) (T:Txt w K mg) (aFp:Ok P w K mg base 2 "_law_begin" ["_law_script"] (aIs K)) (aN:Ok P w K mg base 1 "_law_next" ["_law_state","_law_many"] gR)
  (aFu:Ok P w K mg base 2 "_law_names" ["_law_state","_law_many"] aSf) (aAa:Ok P w K mg base 2 "_law_head" ["_law_state","_law_names_here"] (aHp K))
  (aI9:Ok P w K mg base 3 "_law_pair" ["_law_state","_law_heads","_law_names_here"] (aNt K)) (aKp:Ok P w K mg base 5 "_law_act" ["_law_state","_law_heads","_law_names_here"] (aTj K))
  (mO:Ok P w K mg base 4 "_law_tests" ["_law_state","_law_head_here"] (zN K)) (aMb:Ok P w K mg base 2 "_law_due" ["_law_question","_law_test","_law_heads"] (aQp K)) (xU:Ok P w K mg base 2 "_law_joined_due" ["_law_question","_law_test","_law_heads"] (aM1 K)) (aNa:Ok P w K mg base 72 "early" ["heads","question"] (aR8 K)) :
  qM P w K mg base CX0 73 f fd ["_law_script"] (aFm K):=by
 refine Fun.okV F jV (fun vs H Q E h=>?_) (fun cdv A outer s H vs Q E hr h=>?_)
 ·obtain ⟨a,ns,rfl,_⟩:=h;rfl
 obtain ⟨sc,sn,rfl,hS,h63,q⟩:=h
 have hu:=uP hr
 have hU:=hr.units
 refine ⟨_,(aC (aV (i:=1) jV.nd rfl (by trivial) (aJ (aFp.mono (by decide)) hr (by rfl) (aB (vv 0) aA))) (aC (aV (i:=2) jV.nd rfl (by trivial) (aJ (aFu.mono (by decide)) hr (by rfl) (aB (vv 1) (aB aD aA)))) (aC (aV (i:=3) jV.nd rfl (by trivial) (aU7 (aHr (aH bN (vv 2) aD (fun _ _=>rfl)) (aJ (aAa.mono (by decide)) hr (by rfl) (aB (vv 1) (aB (vv 2) aA))) (aHr (aH bN (vv 2) aD (fun _ _=>rfl)) (aJ (aAa.mono (by decide)) hr (by rfl) (aB (vv 1) (aB (vv 2) aA))) aUw)) rfl rfl (by simp) (by decide))) (aC (aV (i:=4) jV.nd rfl (by trivial) (aJ (aI9.mono (by decide)) hr (by rfl) (aB (vv 1) (aB (vv 3) (aB (vv 2) aA))))) (aC (bR (VW.pt (yZ (aU aVk (vv 4) rN (aZ _)) (xR (aU cG (aJ (aN.mono (by decide)) hr (by rfl) (aB (vv 1) (aB aD aA))) aD (aZ _))))) (aC (rF (vv 4) (mG rfl (bB (aL (i:=5) jV.nd rfl (by trivial)) (bB (aL (i:=6) jV.nd rfl (by trivial)) cW)))) (aC (aV (i:=7) jV.nd rfl (by trivial) (aH aR (aJ (mO.mono (by decide)) hr (by rfl) (aB (vv 1) (aB (vv 6) aA))) aD (fun _ _=>rfl))) (aF (aV (i:=8) jV.nd rfl (by trivial) (aJ (xU.mono (by decide)) hr (by rfl) (aB (vv 5) (aB (vv 7) (aB (vv 3) aA)))))))) (aC (rF (aJ (aKp.mono (by decide)) hr (by rfl) (aB (vv 1) (aB (vv 3) (aB (vv 2) aA)))) (mG rfl (bB (aL (i:=5) jV.nd rfl (by trivial)) (bB (aL (i:=6) jV.nd rfl (by trivial)) cW)))) (aC (aV (i:=7) jV.nd rfl (by trivial) (aH aR (aJ (mO.mono (by decide)) hr (by rfl) (aB (vv 1) (aB (vv 6) aA))) aD (fun _ _=>rfl))) (aF (aV (i:=8) jV.nd rfl (by trivial) (aJ (aMb.mono (by decide)) hr (by rfl) (aB (vv 5) (aB (vv 7) (aB (vv 3) aA))))))))) (aC (aV (i:=9) jV.nd rfl (by trivial) (aY (aB aO (aB (vv 5) (aB (aY (aB (vv 7) aA)) aA))))) (aF (aM (pF (eZ (aQu hU) (aJ (aNa.mono (by decide)) hr (by rfl) (aB (bF aLr (by rfl) T.aGr aAu (aB (vv 3) aA)) (aB (vv 9) aA))) (vv 8) (aZ _)) (qL (eZ (aQu hU) (aJ (aNa.mono (by decide)) hr (by rfl) (aB (vv 3) (aB (aY (aB aO (aB (aH bN (vv 2) aD (fun _ _=>rfl)) aA))) aA))) (aY (aB aO (aB (aH bN (vv 2) aD (fun _ _=>rfl)) aA))) (aZ _)))))))))))),?_⟩
 refine ⟨_,rfl,sc,sn,rfl,hS,h63,fun a H2 fa s2 hst=>?_⟩
 refine ⟨_,rfl,a,rfl,hst,fun N H3 ns f3 fN g3 hn=>?_⟩
 have nNa:N≠a:=hst.ne fN
 have hst3:=f3.st
 have l17:=hn.1
 obtain ⟨T1,hn1⟩:∃T1,ns[0]?=some T1:=⟨_,List.getElem?_eq_getElem (by lia)⟩
 obtain ⟨T2,hn2⟩:∃T2,ns[1]?=some T2:=⟨_,List.getElem?_eq_getElem (by lia)⟩
 have hne:T1≠T2:=fun e=>by
  subst e
  have:=aMa hn.2.2 hn1 hn2
  lia
 have at_0:atI (ns.map V.str) 0=some (.str T1):=cF (j:=0) (by rw [List.getElem?_map,hn1];rfl)
 have at_1:atI (ns.map V.str) 1=some (.str T2):=cF (j:=1) (by rw [List.getElem?_map,hn2];rfl)
 refine fun d fd4=>?_
 have nda:d≠a:=hst3.ne fd4
 have s4:Same H3 (upd H3 d (.dK [])):=bM fd4 _
 have g4:(upd H3 d (.dK [])) d=some (.dK []):=aQ
 generalize upd H3 d (.dK [])=H4 at s4 g4 ⊢
 have fx4:Fx a H3 H4:=.of hst3 s4
 refine ⟨_,rfl,N,_,0,_,rfl,rfl,SqL.of (s4 _ _ g3),at_0,_,rfl,_,rfl,a,N,ns,rfl,fx4.st,s4 _ _ g3,nNa,hn,fun v1 H5 h1 f5 hh1 hok1 l71=>?_⟩
 have fx5:=fx4.trans f5
 refine ⟨_,rfl,N,_,1,_,rfl,rfl,SqL.of (fx5.same _ _ nNa g3),at_1,_,rfl,_,rfl,a,N,ns,rfl,fx5.st,fx5.same _ _ nNa g3,nNa,hn,fun v2 H6 h2 f6 hh2 hok2 l72=>?_⟩
 have fx6:=fx5.trans f6
 have g46:H6 d=some (.dK []):=(f5.trans f6).same _ _ nda g4
 refine ⟨g46,[((Sum.inr T1:Key),v1),((Sum.inr T2:Key),v2)],rfl,(by show 2≤15;decide),?_⟩
 rw [tZ (by simp [hne])]
 have fx7:Fx a H3 (upd H6 d (.dK [((Sum.inr T1:Key),v1),((Sum.inr T2:Key),v2)])):=fx6.upd fd4 nda
 have hdk:(upd H6 d (.dK [((Sum.inr T1:Key),v1),((Sum.inr T2:Key),v2)])) d=some (.dK [((Sum.inr T1:Key),v1),((Sum.inr T2:Key),v2)]):=aQ
 have tku:TK K H6 (upd H6 d (.dK [((Sum.inr T1:Key),v1),((Sum.inr T2:Key),v2)])):=fun _ _ e=>e.bA2 g46
 generalize upd H6 d (.dK [((Sum.inr T1:Key),v1),((Sum.inr T2:Key),v2)])=H7 at fx7 hdk tku ⊢
 have hD7:aC1 K H7 d [(T1,h1),(T2,h2)]:=⟨_,hdk,.cons ⟨rfl,(hh1.tk (f6.tk fx5.st)).tk tku⟩ (.cons ⟨rfl,hh2.tk tku⟩ .nil)⟩
 have hts:aUg [(T1,h1),(T2,h2)]:=⟨by simp [hne],fun t ht=>by
  simp only [List.mem_cons,List.not_mem_nil,or_false] at ht
  rcases ht with rfl|rfl
  ·exact ⟨hn.2.1 _ (List.mem_of_getElem? hn1),hok1⟩
  ·exact ⟨hn.2.1 _ (List.mem_of_getElem? hn2),hok2⟩,by show 1≤2;decide,by show 2≤3;decide⟩
 have hm1:(T1,h1)∈[(T1,h1),(T2,h2)]:=by simp
 have hm2:(T2,h2)∈[(T1,h1),(T2,h2)]:=by simp
 generalize hts0:[(T1,h1),(T2,h2)]=ts at hD7 hts hm1 hm2
 have hNm:=aSw hts
 have hlk2:=tY hts.nd hm2
 have gN7:=fx7.same _ _ nNa g3
 dsimp only [bO]
 refine aNx (S:=iU _ _) (fun σ H'=>Fx a H7 H'∧∃vm,σ=[some (.ref sc),some (.ref a),some (.ref N),some (.ref d),some vm,none,none,none,none,none]∧(vm=.non∨∃p v1 v2 ms ps hd',vm=.ref p∧SqT K H' p [v1,v2]∧IsQ K H' v1 (.join (.table T1) (.nmd (.table T2) ms) ps)∧eG K H' v2 hd'∧HQ (dG ts) (.join (.table T1) (.nmd (.table T2) ms) ps) hd'∧uG hd')) (fun NX hN=>?_) fun σ' H8 hJ=>?_
 ·exact ⟨_,rfl,_,rfl,_,rfl,a,d,N,ts,ns,T1,T2,h1,h2,rfl,fx7.st,nNa,hD7,hts,gN7,hn,hn1,hn2,hm1,hm2,l71,l72,fun H' f'=>hN _ _ ⟨f',_,rfl,.inl rfl⟩,fun p H' v1 v2 ms ps hd' f' g' hq' hh' hHQ' hok'=>hN _ _ ⟨f',_,rfl,.inr ⟨p,v1,v2,ms,ps,hd',rfl,SqT.of g',hq',hh',hHQ',hok'⟩⟩⟩
 obtain ⟨f8,vm,rfl,hvm⟩:=hJ
 refine aNx (S:=aLd _ _ _) (fun σ H'=>Fx a H7 H'∧∃(vq vh vt vd:V) (qq:Qn) (t:Tst) (hd:Hdr),σ=[some (.ref sc),some (.ref a),some (.ref N),some (.ref d),some vm,some vq,some vh,some vt,some vd,none]∧IsQ K H' vq qq∧IsT K H' vt t∧HQ (dG ts) (.whr qq [t]) hd∧IsQ K H' vd (sink (dG ts) (move (dG ts) qq) t)∧size qq≤19) (fun NX hN=>?_) fun σ' H9 hJ=>?_
 ·refine aV1 (fun H'=>Fx a H8 H'∧vm≠.non) (fun H'=>Fx a H8 H') (fun R y n=>?_) (fun H9 hY=>?_) (fun H9 f9=>?_)
  ·refine ⟨_,rfl,rfl,_,rfl,?_⟩
   by_cases e:vm=.non
   ·rw [decide_eq_true e]
    exact bC (n H8 (.refl f8.st))
   ·rw [decide_eq_false e]
    refine cC ⟨_,rfl,a,2,rfl,f8.st,by decide,fun d0 H9 f9 _ _=>⟨rfl,_,rfl,?_⟩⟩
    cases eb:decide (V.int d0=V.int 0) with
    |true=>exact y H9 ⟨f9,e⟩
    |false=>exact n H9 f9
  ·obtain ⟨f9,hne'⟩:=hY
   obtain ⟨p,v1',v2',ms,ps,hd',rfl,hp,hq',hh',hHQ',hok'⟩:=hvm.resolve_left hne'
   have tk9:TK K H8 H9:=f9.tk f8.st
   have fx9:=f8.trans f9
   refine ⟨_,rfl,p,_,rfl,tk9 _ _ hp,rfl,_,_,rfl,_,_,rfl,rfl,?_⟩
   refine ⟨_,rfl,_,rfl,a,v2',hd',rfl,fx9.st,hh'.tk tk9,hok',fun vt H10 ts' f10 hts' htok=>?_⟩
   obtain ⟨⟨pt,us,rfl,hpt,hus⟩,lt1,lt3⟩:=hts'
   cases hus with
   |nil=>exact absurd lt1 (by simp)
   |@cons u0 t0 us ts'' r0 hus=>
    refine ⟨pt,_,0,_,rfl,rfl,hpt,at0 _ _,?_⟩
    have fx10:=fx9.trans f10
    have tk10:TK K H8 H10:=fun _ _ e=>f10.aK fx9.st (tk9 _ _ e)
    have hD10:=hD7.fx fx7.st fx10
    refine ⟨_,rfl,_,rfl,_,rfl,v1',u0,d,dG ts,T1,T2,ms,ps,hd',t0,rfl,hD10.heads,hNm,hq'.tk tk10,hHQ',r0,htok t0 (List.mem_cons_self ..),fun vd H11 s11 i11=>hN _ _ ⟨fx10.sm s11,v1',v2',u0,vd,_,t0,hd',rfl,(hq'.tk tk10).same s11,r0.same s11,.mk1 rfl hHQ' (.whr fun t h=>by rw [List.mem_singleton.mp h];exact htok t0 (List.mem_cons_self ..)) hok'.1,i11,by show 1+(1+1)+1≤19;decide⟩⟩
  ·have fx9:=f8.trans f9
   have hD9:=hD7.fx fx7.st fx9
   refine ⟨_,rfl,_,rfl,_,rfl,a,d,N,ts,ns,T1,h1,rfl,fx9.st,nNa,hD9,hts,fx9.same _ _ nNa gN7,hn,hn1,hm1,fun p H10 v1' v2' q' hd' f10 g10 hq' hk' hh' hHQ' hok' hz'=>?_⟩
   have fx10:=fx9.trans f10
   refine ⟨p,_,rfl,SqT.of g10,rfl,_,_,rfl,_,_,rfl,rfl,?_⟩
   refine ⟨_,rfl,_,rfl,a,v2',hd',rfl,fx10.st,hh',hok',fun vt H11 ts' f11 hts' htok=>?_⟩
   obtain ⟨⟨pt,us,rfl,hpt,hus⟩,lt1,lt3⟩:=hts'
   cases hus with
   |nil=>exact absurd lt1 (by simp)
   |@cons u0 t0 us ts'' r0 hus=>
    refine ⟨pt,_,0,_,rfl,rfl,hpt,at0 _ _,?_⟩
    have fx11:=fx10.trans f11
    have tk11:TK K H10 H11:=f11.tk fx10.st
    have hD11:=hD7.fx fx7.st fx11
    refine ⟨_,rfl,_,rfl,_,rfl,v1',u0,d,dG ts,q',hd',t0,T1,rfl,hD11.heads,hNm,hq'.tk tk11,hk',hHQ',r0,htok t0 (List.mem_cons_self ..),fun vd H12 s12 i12=>hN _ _ ⟨fx11.sm s12,v1',v2',u0,vd,q',t0,hd',rfl,(hq'.tk tk11).same s12,r0.same s12,.mk1 rfl hHQ' (.whr fun t h=>by rw [List.mem_singleton.mp h];exact htok t0 (List.mem_cons_self ..)) hok'.1,i12,by lia⟩⟩
 obtain ⟨fx9,vq,vh,vt,vd,qq,t,hd,rfl,hq,ht,hHQ,hdue,hz⟩:=hJ
 obtain ⟨kvs9,hdk9,hkv9⟩:=hD7.fx fx7.st fx9
 have gN9:=fx9.same _ _ nNa gN7
 refine ⟨_,rfl,_,rfl,(by show 1≤sizeLine;decide),fun pA HA _ sA gA=>⟨(by show 3≤sizeLine;decide),fun pB HB _ sB gB=>?_⟩⟩
 have s9B:=sA.trans sB
 have hqB:IsQ K HB (.ref pB) (.whr qq [t]):=xP s9B hq ht (SqT.of (sB _ _ gA)) (SqT.of gB)
 have hzB:size (.whr qq [t])≤20:=by show size qq+1≤20;lia
 refine ⟨_,rfl,d,kvs9,rfl,s9B _ _ hdk9,fun e HC fe sC gC=>?_⟩
 have s9C:=s9B.trans sC
 have heC:eQ K HC e (dG ts):=aC1.heads ⟨kvs9,gC,hkv9.imp fun _ _ h=>⟨h.1,h.2.same s9C⟩⟩
 refine ⟨_,rfl,e,.ref pB,dG ts,.whr qq [t],hd,rfl,heC,hNm,hqB.same sC,hzB,hHQ,fun vf HD sD iD=>?_⟩
 have s9D:=s9C.trans sD
 have iD:IsQ K HD vf (sink (dG ts) (move (dG ts) qq) t):=iD
 have zm:size (sink (dG ts) (move (dG ts) qq) t)≤37:=by rw [zU,aD6];lia
 obtain ⟨af,ad,xs,ys,rfl,rfl,haf,had,hal⟩:=aRl iD (hdue.same s9D) zm
 refine ⟨_,rfl,af,ad,xs,ys,rfl,rfl,haf,had,hal,_,rfl,cC ?_⟩
 have hnT2:=(hts.nm _ hm2).1
 refine ⟨_,rfl,_,rfl,N,_,1,_,rfl,rfl,SqL.of (s9D _ _ gN9),at_1,(by show 2≤sizeLine;decide),fun pE HE _ sE gE=>?_⟩
 have s9E:=s9D.trans sE
 have hdE:eQ K HE d (dG ts):=aC1.heads ⟨kvs9,s9E _ _ hdk9,hkv9.imp fun _ _ h=>⟨h.1,h.2.same s9E⟩⟩
 refine ⟨d,.ref pE,dG ts,.table T2,h2,rfl,hdE,hNm,.table (SqT.of gE) hnT2,by show 1≤20;decide,.mk0 rfl (.table hlk2) hok2.1,fun vg HF sF iF=>?_⟩
 have iF:IsQ K HF vg (.table T2):=iF
 refine ⟨_,rfl,N,_,1,_,rfl,rfl,SqL.of ((s9E.trans sF) _ _ gN9),at_1,(by show 2≤sizeLine;decide),fun pG HG _ sG gG=>?_⟩
 obtain ⟨a5,a6,xs3,ys3,rfl,e6,h5,h6,hal3⟩:=aRl (iF.same sG) (IsQ.table (SqT.of gG) hnT2) (by show 1≤37;decide)
 cases e6
 exact ⟨a5,pG,xs3,ys3,rfl,rfl,h5,h6,hal3,q HG⟩
theorem aJ9 (T:Txt w K mg):Ok P w K mg base 27 "head_of" ["heads","question"] (aIb K):=by
 have g1:=aJd (P:=P) (base:=base) T
 have g2:=aL6 (P:=P) (base:=base) T
 have g3:=aMy T g2
 have g4:=aIi T g1 g2
 have g5:=aMr T g1
 have g6:=aFk (P:=P) (base:=base) T
 have g7:=aTc g3
 have fm:Forms P w K mg base:=⟨g7,uZ T,aFx T (aMx T g6 g3 (aH3 T g6 g4 g3)) (dY T),aHk T g7 (dY T),uV T g7 (dY T),aG8 T (aLp T g7 (dY T)) (dY T),aI5 T (aPh T g6 g3) (dY T),aHu T (aPv T g6 g3) (dY T),aMm T g1⟩
 have g8:=rH (P:=P) (base:=base) T
 have g9:=aMf (P:=P) (base:=base) T
 have g10:=vB (P:=P) (base:=base) T
 have g11:=aBa T (aDj (P:=P) (base:=base) T)
 have g12:=aGi T g9
 have g13:=aF2 T (aDy T) (aC6 T g10 g9 (aDe T g5 g9)) g12 (aDk T) (aFt T g10 g9 g11) (aDq T g12 (aKf T g9)) (aDh T g12 g11)
 exact aLy T (rR T g8 g13 g11 (wH T) 20) (aMd T (aKm T fm g6) g8 (aIk T))
theorem aP5 (T:Txt w K mg):Ok P w K mg base 72 "early" ["heads","question"] (aR8 K):=by
 have g1:=aJ9 (P:=P) (base:=base) T
 have g2:=rH (P:=P) (base:=base) T
 have g3:=wH (P:=P) (base:=base) T
 have g4:=aGu (P:=P) (base:=base) T
 have g5:=xO (P:=P) (base:=base) T
 exact aQ0 T g1 (aKi T g2 g5 (aN6 T (aKk T (aAp T g4 g3 g1) g4) (aCu T) g2 (yF T g3 g1 (aLf T)) g5 20) 20)
theorem aY1 {fa:Addr} (T:Txt w K mg) (hmg:mg "law"=some (.ref fa)) :
  ∃fd:FuncData,(∀(s:Shared) (u:Value),BindsTo s fd ⟨[u],[]⟩ [("_law_script",u)])∧∀base:Heap,K.In base→base.Ns mainGlobals mg→qM P w K mg base CX0 73 fa fd ["_law_script"] (aFm K):=by
 obtain ⟨f,fd,F,B,m⟩:=T.aZh
 have e:fa=f:=by
  rw [m] at hmg
  injection hmg with e
  injection e with e
  exact e.symm
 subst e
 refine ⟨fd,?_,fun base _ _=>?_⟩
 ·obtain ⟨⟨oc,od,kV,doc,pm,an,cdv,ct,osl,rfl,lk,hcd⟩,kp⟩:=F
  exact fun s u=>.of_eq rfl
 ·have n1:=aG2 (P:=P) (base:=base) T
  have n2:=aDw T n1 (aDg T n1)
  have n3:=aGf T n1
  have n4:=aE3 T n1 n3
  have n5:=aCw T n1 n2
  have n6:=yX (P:=P) (base:=base) T
  have n7:=aDb (P:=P) (base:=base) T
  have n8:=aAg (P:=P) (base:=base) T
  exact aYa F T (aDu T (aG1 T)) n1 (aDi T n1 (aC8 T)) (aFs T n1) (aG7 T n1 (aDp T n1)) (aHo T n1 n3 n4 n5 (aCy T n3 (aHm T n1))) n5 (aI3 T n6 n7 n8) (vL T n6 n7 n8) (aP5 T)
end
inductive FA (K:PySem.W.Frag) (n:Str) (s:Stmt) (f:Addr):Prop
 |mk {od an:Option Addr} {sl:Array (Option Value)} {kV dc pm cd ct:Value}:PySem.W.nsIn K mainGlobals n=some (some (.ref f))→K.lookup f=some ⟨.type "function",od,.func (PySem.W.fnOf n n (uE s) (lL s) (aG s) .none kV dc pm an cd ct),sl⟩→PySem.W.codeIn K cd n=true→PySem.W.keepIn K (.ref f)=true→FA K n s f
section
variable {K:PySem.W.Frag} {h:Heap} {mg:Str→Option Value} {n:Str} {s:Stmt} {f:Addr} {ps:List Str}
theorem jX (X:K.In h) (G:h.Ns mainGlobals mg) (a:FA K n s f):mg n=some (.ref f):=by
 obtain ⟨a,_,_,_⟩:=a
 exact PySem.W.mg_of X G a
theorem bG (X:K.In h) (G:h.Ns mainGlobals mg) (a:FA K n s f) (b:∀(kV doc pm:Value) (an:Option Addr) (cdv ct:Value) (us:List Value),us.length=ps.length→bindArgs (PySem.W.fnOf n n (uE s) (lL s) (aG s) .none kV doc pm an cdv ct) ⟨us,[]⟩=pure (ps.zip us)):Dn K mg n s ps:=by
 have m:=jX X G a
 obtain ⟨_,l,c,k⟩:=a
 exact ⟨f,_,aTa l c k,(aTa l c k).binds b,m⟩
theorem aIf (X:K.In h) (G:h.Ns mainGlobals mg) (a:FA K n s f):∃f o,(∃u,mg n=some u∧RelV (.ref f) u)∧K.lookup f=some o∧o.cls=.type "function":=by
 have m:=jX X G a
 obtain ⟨_,l,c,k⟩:=a
 exact ⟨f,_,⟨_,m,rfl⟩,l,rfl⟩
end
theorem ln0 {P:List Value→Prop} (h:P []):∀us:List Value,us.length=0→P us
 |[],_=>h
theorem ln1 {P:List Value→Prop} (h:∀a0,P [a0]):∀us:List Value,us.length=1→P us
 |[a0],_=>h a0
theorem ln2 {P:List Value→Prop} (h:∀a0 a1,P [a0,a1]):∀us:List Value,us.length=2→P us
 |[a0,a1],_=>h a0 a1
theorem ln3 {P:List Value→Prop} (h:∀a0 a1 a2,P [a0,a1,a2]):∀us:List Value,us.length=3→P us
 |[a0,a1,a2],_=>h a0 a1 a2
theorem ln4 {P:List Value→Prop} (h:∀a0 a1 a2 a3,P [a0,a1,a2,a3]):∀us:List Value,us.length=4→P us
 |[a0,a1,a2,a3],_=>h a0 a1 a2 a3
theorem ln6 {P:List Value→Prop} (h:∀a0 a1 a2 a3 a4 a5,P [a0,a1,a2,a3,a4,a5]):∀us:List Value,us.length=6→P us
 |[a0,a1,a2,a3,a4,a5],_=>h a0 a1 a2 a3 a4 a5
local macro_rules
 |`(tactic| trivial)=>`(tactic| first|exact (fun _ _ _ _ _ _=>ln1 fun _=>rfl)|exact (fun _ _ _ _ _ _=>ln2 fun _ _=>rfl)|exact (fun _ _ _ _ _ _=>ln3 fun _ _ _=>rfl)|exact (fun _ _ _ _ _ _=>ln4 fun _ _ _ _=>rfl)|exact (fun _ _ _ _ _ _=>ln0 rfl)|exact (fun _ _ _ _ _ _=>ln6 fun _ _ _ _ _ _=>rfl))
theorem aYl {K:PySem.W.Frag} {h:Heap} {mg:Str→Option Value} (X:K.In h) (G:h.Ns mainGlobals mg) {w:World} {f0 f1 f2 f3 f4 f5 f6 f7 f8 f9 f10 f11 f12 f13 f14 f15 f16 f17 f18 f19 f20 f21 f22 f23 f24 f25 f26 f27 f28 f29 f30 f31 f32 f33 f34 f35 f36 f37 f38 f39 f40 f41 f42 f43 f44 f45 f46 f47 f48 f49 f50 f51 f52 f53 f54 f55 f56 f57 f58 f59 f60 f61 f62 f63 f64 f65 f66 f67 f68 f69 f70 f71 f72:Addr} {oX:Addr} {fX:Obj} {pC:Array Value} {wA:Nat} {aLi:Tok} {aAi:Tok} {aAo:Tok} {aH6:Addr} {xQ:Obj} {aI1:Array Value} {aR6:Nat} {vY:Addr} {mJ:Obj} {xT:Array Value} {aE8:Nat} {aNq:Addr} {aA1:Obj} {aMz:Array Value} {aT4:Nat} {aC0:Tok} {aC3:Tok} {aDv:Tok} {aHd:Tok} {aHh:Tok} {aGp:Tok} {aGs:Tok} {yD:Addr} {xF:Obj} {aIt:Array DictEntry} {aSq:Nat} {tt14_0:Addr} {to14_0:Obj} {ti14_0:Array Value} {tn14_0:Nat} {tt14_1:Addr} {to14_1:Obj} {ti14_1:Array Value} {tn14_1:Nat} {tt14_2:Addr} {to14_2:Obj} {ti14_2:Array Value} {tn14_2:Nat} {tt14_3:Addr} {to14_3:Obj} {ti14_3:Array Value} {tn14_3:Nat} {tt14_4:Addr} {to14_4:Obj} {ti14_4:Array Value} {tn14_4:Nat} {tt14_5:Addr} {to14_5:Obj} {ti14_5:Array Value} {tn14_5:Nat} {tt14_6:Addr} {to14_6:Obj} {ti14_6:Array Value} {tn14_6:Nat}
  (a0:FA K "is_whole" uY f0)
  (a1:FA K "is_word" zO f1)
  (a2:FA K "is_one_of" rU f2)
  (a3:FA K "is_tuple_of" lE f3)
  (a4:FA K "are_unlike" pY f4)
  (a5:FA K "names_of" vN f5)
  (a6:FA K "is_name" zF f6)
  (a7:FA K "is_value" vK f7)
  (a8:FA K "kind_of" yS f8)
  (a9:FA K "is_other" vA f9)
  (a10:FA K "is_test" yN f10)
  (a11:FA K "is_pair" zK f11)
  (a12:FA K "is_sum" aBb f12)
  (a13:FA K "is_key" aA9 f13)
  (a14:FA K "is_many" zP f14)
  (a15:FA K "are_tests" rK f15)
  (a16:FA K "are_names" sV f16)
  (a17:FA K "are_group_names" jP f17)
  (a18:FA K "are_pairs" sH f18)
  (a19:FA K "are_sums" uX f19)
  (a20:FA K "are_keys" vH f20)
  (a21:FA K "may_be_question" jU f21)
  (a22:FA K "has_form" uT f22)
  (a23:FA K "questions_in" nZ f23)
  (a24:FA K "with_questions" kJ f24)
  (a25:FA K "own_size" vC f25)
  (a26:FA K "checked" zJ f26)
  (a27:FA K "kind_in" yW f27)
  (a28:FA K "need_like_kinds" jA f28)
  (a29:FA K "need_unlike" pH f29)
  (a30:FA K "table_head" qO f30)
  (a31:FA K "other_kind" qH f31)
  (a32:FA K "where_head" jR f32)
  (a33:FA K "keep_head" oJ f33)
  (a34:FA K "named_head" rC f34)
  (a35:FA K "join_head" iY f35)
  (a36:FA K "sum_kind" vW f36)
  (a37:FA K "group_head" mR f37)
  (a38:FA K "first_head" rB f38)
  (a39:FA K "head_here" tM f39)
  (a40:FA K "head_within" lD f40)
  (a41:FA K "head_of" yK f41)
  (a42:FA K "columns_of" qP f42)
  (a43:FA K "renamed" zQ f43)
  (a44:FA K "are_among" oN f44)
  (a45:FA K "side_of_join" jT f45)
  (a46:FA K "side_for" vG f46)
  (a47:FA K "by_inner_names" kW f47)
  (a48:FA K "sunk" aLw f48)
  (a49:FA K "moved" aA4 f49)
  (a50:FA K "early" aE5 f50)
  (a51:FA K "_law_seed" sI f51)
  (a52:FA K "_law_begin" qI f52)
  (a53:FA K "_law_next" rW f53)
  (a54:FA K "_law_words" rA f54)
  (a55:FA K "_law_names" mL f55)
  (a56:FA K "_law_great" qX f56)
  (a57:FA K "_law_value" qY f57)
  (a58:FA K "_law_head" rY f58)
  (a59:FA K "_law_tests" mK f59)
  (a60:FA K "_law_some" oR f60)
  (a61:FA K "_law_sums" rZ f61)
  (a62:FA K "_law_group" mV f62)
  (a63:FA K "_law_keys" oY f63)
  (a64:FA K "_law_at_table" lZ f64)
  (a65:FA K "_law_columns" nQ f65)
  (a66:FA K "_law_elder" qW f66)
  (a67:FA K "_law_joined_due" dC f67)
  (a68:FA K "_law_due" qD f68)
  (a69:FA K "_law_act" nU f69)
  (a70:FA K "_law_pairs" mW f70)
  (a71:FA K "_law_pair" gK f71)
  (a72:FA K "law" aNr f72)
  (q0:PySem.W.nsIn K mainGlobals "QUESTION_WORDS"=some (some (.ref oX))) (r0:K.lookup oX=some fX) (t0:fX.cls=.type "tuple") (y0:fX.dict=none) (u0:fX.data=.seq pC wA) (v0:Vals [.str "and",.str "by",.str "count",.str "down",.str "first",.str "group",.str "join",.str "keep",.str "least",.str "most",.str "named",.str "on",.str "sum",.str "table",.str "up",.str "where",.str "with"] pC.toList)
  (q1:PySem.W.nsIn K mainGlobals "LETTERS"=some (some (.str "abcdefghijklmnopqrstuvwxyz" aLi)))
  (q2:PySem.W.nsIn K mainGlobals "MOST_LETTERS"=some (some (.int 8 aAi)))
  (q3:PySem.W.nsIn K mainGlobals "MOST_COLUMNS"=some (some (.int 8 aAo)))
  (q4:PySem.W.nsIn K mainGlobals "SIGNS"=some (some (.ref aH6))) (r4:K.lookup aH6=some xQ) (t4:xQ.cls=.type "tuple") (y4:xQ.dict=none) (u4:xQ.data=.seq aI1 aR6) (v4:Vals [.str "=",.str "<",.str ">",.str "!"] aI1.toList)
  (q5:PySem.W.nsIn K mainGlobals "SUM_WORDS"=some (some (.ref vY))) (r5:K.lookup vY=some mJ) (t5:mJ.cls=.type "tuple") (y5:mJ.dict=none) (u5:mJ.data=.seq xT aE8) (v5:Vals [.str "count",.str "sum",.str "least",.str "most"] xT.toList)
  (q6:PySem.W.nsIn K mainGlobals "WAYS"=some (some (.ref aNq))) (r6:K.lookup aNq=some aA1) (t6:aA1.cls=.type "tuple") (y6:aA1.dict=none) (u6:aA1.data=.seq aMz aT4) (v6:Vals [.str "up",.str "down"] aMz.toList)
  (q7:PySem.W.nsIn K mainGlobals "MOST_TESTS"=some (some (.int 3 aC0)))
  (q8:PySem.W.nsIn K mainGlobals "MOST_NAMES"=some (some (.int 8 aC3)))
  (q9:PySem.W.nsIn K mainGlobals "MOST_PAIRS"=some (some (.int 3 aDv)))
  (q10:PySem.W.nsIn K mainGlobals "MOST_SUMS"=some (some (.int 4 aHd)))
  (q11:PySem.W.nsIn K mainGlobals "MOST_KEYS"=some (some (.int 3 aHh)))
  (q12:PySem.W.nsIn K mainGlobals "MOST_ROWS"=some (some (.int 60 aGp)))
  (q13:PySem.W.nsIn K mainGlobals "MOST_SIZE"=some (some (.int 20 aGs)))
  (q14:PySem.W.nsIn K mainGlobals "FORMS"=some (some (.ref yD))) (r14:K.lookup yD=some xF) (x14:xF.ExactDict) (o14:(yD == sysModules)=false) (u14:xF.data=.dict aIt aSq) (h14:∀P:Program,PH P w aIt.toList [("table",Value.ref tt14_0),("where",Value.ref tt14_1),("keep",Value.ref tt14_2),("named",Value.ref tt14_3),("join",Value.ref tt14_4),("group",Value.ref tt14_5),("first",Value.ref tt14_6)])
  (r14_0:K.lookup tt14_0=some to14_0) (t14_0:to14_0.cls=.type "tuple") (y14_0:to14_0.dict=none) (u14_0:to14_0.data=.seq ti14_0 tn14_0) (v14_0:Vals [.ref f6] ti14_0.toList)
  (r14_1:K.lookup tt14_1=some to14_1) (t14_1:to14_1.cls=.type "tuple") (y14_1:to14_1.dict=none) (u14_1:to14_1.data=.seq ti14_1 tn14_1) (v14_1:Vals [.ref f21,.ref f15] ti14_1.toList)
  (r14_2:K.lookup tt14_2=some to14_2) (t14_2:to14_2.cls=.type "tuple") (y14_2:to14_2.dict=none) (u14_2:to14_2.data=.seq ti14_2 tn14_2) (v14_2:Vals [.ref f21,.ref f16] ti14_2.toList)
  (r14_3:K.lookup tt14_3=some to14_3) (t14_3:to14_3.cls=.type "tuple") (y14_3:to14_3.dict=none) (u14_3:to14_3.data=.seq ti14_3 tn14_3) (v14_3:Vals [.ref f21,.ref f16] ti14_3.toList)
  (r14_4:K.lookup tt14_4=some to14_4) (t14_4:to14_4.cls=.type "tuple") (y14_4:to14_4.dict=none) (u14_4:to14_4.data=.seq ti14_4 tn14_4) (v14_4:Vals [.ref f21,.ref f21,.ref f18] ti14_4.toList)
  (r14_5:K.lookup tt14_5=some to14_5) (t14_5:to14_5.cls=.type "tuple") (y14_5:to14_5.dict=none) (u14_5:to14_5.data=.seq ti14_5 tn14_5) (v14_5:Vals [.ref f21,.ref f17,.ref f19] ti14_5.toList)
  (r14_6:K.lookup tt14_6=some to14_6) (t14_6:to14_6.cls=.type "tuple") (y14_6:to14_6.dict=none) (u14_6:to14_6.data=.seq ti14_6 tn14_6) (v14_6:Vals [.ref f21,.ref f20,.ref f14] ti14_6.toList)
  (z0:PySem.W.nsIn K mainGlobals "abs"=some none)
  (z1:PySem.W.nsIn K mainGlobals "all"=some none)
  (z2:PySem.W.nsIn K mainGlobals "any"=some none)
  (z3:PySem.W.nsIn K mainGlobals "bool"=some none)
  (z4:PySem.W.nsIn K mainGlobals "dict"=some none)
  (z5:PySem.W.nsIn K mainGlobals "divmod"=some none)
  (z6:PySem.W.nsIn K mainGlobals "enumerate"=some none)
  (z7:PySem.W.nsIn K mainGlobals "int"=some none)
  (z8:PySem.W.nsIn K mainGlobals "isinstance"=some none)
  (z9:PySem.W.nsIn K mainGlobals "len"=some none)
  (z10:PySem.W.nsIn K mainGlobals "list"=some none)
  (z11:PySem.W.nsIn K mainGlobals "range"=some none)
  (z12:PySem.W.nsIn K mainGlobals "reversed"=some none)
  (z13:PySem.W.nsIn K mainGlobals "set"=some none)
  (z14:PySem.W.nsIn K mainGlobals "str"=some none)
  (z15:PySem.W.nsIn K mainGlobals "tuple"=some none)
  (z16:PySem.W.nsIn K mainGlobals "zip"=some none):Txt w K mg:=
 ⟨PySem.W.mg_none_of X G z0,
  PySem.W.mg_none_of X G z1,
  PySem.W.mg_none_of X G z2,
  PySem.W.mg_none_of X G z3,
  PySem.W.mg_none_of X G z4,
  PySem.W.mg_none_of X G z5,
  PySem.W.mg_none_of X G z6,
  PySem.W.mg_none_of X G z7,
  PySem.W.mg_none_of X G z8,
  PySem.W.mg_none_of X G z9,
  PySem.W.mg_none_of X G z10,
  PySem.W.mg_none_of X G z11,
  PySem.W.mg_none_of X G z12,
  PySem.W.mg_none_of X G z13,
  PySem.W.mg_none_of X G z14,
  PySem.W.mg_none_of X G z15,
  PySem.W.mg_none_of X G z16,
  ⟨_,PySem.W.mg_of X G q0,fun H=>.inr ⟨_,_,_,r0,t0,y0,u0,by have e:=v0.length;simp only [Array.length_toList] at e;rw [←e];exact small (by decide),v0⟩⟩,
  ⟨_,PySem.W.mg_of X G q1,_,rfl⟩,
  ⟨_,PySem.W.mg_of X G q2,_,rfl⟩,
  ⟨_,PySem.W.mg_of X G q3,_,rfl⟩,
  ⟨_,PySem.W.mg_of X G q4,fun H=>.inr ⟨_,_,_,r4,t4,y4,u4,by have e:=v4.length;simp only [Array.length_toList] at e;rw [←e];exact small (by decide),v4⟩⟩,
  ⟨_,PySem.W.mg_of X G q5,fun H=>.inr ⟨_,_,_,r5,t5,y5,u5,by have e:=v5.length;simp only [Array.length_toList] at e;rw [←e];exact small (by decide),v5⟩⟩,
  ⟨_,PySem.W.mg_of X G q6,fun H=>.inr ⟨_,_,_,r6,t6,y6,u6,by have e:=v6.length;simp only [Array.length_toList] at e;rw [←e];exact small (by decide),v6⟩⟩,
  ⟨_,PySem.W.mg_of X G q7,_,rfl⟩,
  ⟨_,PySem.W.mg_of X G q8,_,rfl⟩,
  ⟨_,PySem.W.mg_of X G q9,_,rfl⟩,
  ⟨_,PySem.W.mg_of X G q10,_,rfl⟩,
  ⟨_,PySem.W.mg_of X G q11,_,rfl⟩,
  ⟨_,PySem.W.mg_of X G q12,_,rfl⟩,
  ⟨_,PySem.W.mg_of X G q13,_,rfl⟩,
  ⟨yD,tt14_0,tt14_1,tt14_2,tt14_3,tt14_4,tt14_5,tt14_6,PySem.W.mg_of X G q14,⟨xF,r14,o14,fun P=>aP7 x14 u14 (h14 P) (by show (List.map (fun x:Str × Value=>x.1) [("table",Value.ref tt14_0),("where",Value.ref tt14_1),("keep",Value.ref tt14_2),("named",Value.ref tt14_3),("join",Value.ref tt14_4),("group",Value.ref tt14_5),("first",Value.ref tt14_6)]).Nodup;exact (by decide +kernel:(["table","where","keep","named","join","group","first"]:List Str).Nodup))⟩,⟨f6,fun H=>.inr ⟨_,_,_,r14_0,t14_0,y14_0,u14_0,by have e:=v14_0.length;simp only [Array.length_toList] at e;rw [←e];exact small (by show 1≤1000;decide),v14_0⟩,jX X G a6⟩,⟨f21,f15,fun H=>.inr ⟨_,_,_,r14_1,t14_1,y14_1,u14_1,by have e:=v14_1.length;simp only [Array.length_toList] at e;rw [←e];exact small (by show 2≤1000;decide),v14_1⟩,jX X G a21,jX X G a15⟩,⟨f21,f16,fun H=>.inr ⟨_,_,_,r14_2,t14_2,y14_2,u14_2,by have e:=v14_2.length;simp only [Array.length_toList] at e;rw [←e];exact small (by show 2≤1000;decide),v14_2⟩,jX X G a21,jX X G a16⟩,⟨f21,f16,fun H=>.inr ⟨_,_,_,r14_3,t14_3,y14_3,u14_3,by have e:=v14_3.length;simp only [Array.length_toList] at e;rw [←e];exact small (by show 2≤1000;decide),v14_3⟩,jX X G a21,jX X G a16⟩,⟨f21,f21,f18,fun H=>.inr ⟨_,_,_,r14_4,t14_4,y14_4,u14_4,by have e:=v14_4.length;simp only [Array.length_toList] at e;rw [←e];exact small (by show 3≤1000;decide),v14_4⟩,jX X G a21,jX X G a21,jX X G a18⟩,⟨f21,f17,f19,fun H=>.inr ⟨_,_,_,r14_5,t14_5,y14_5,u14_5,by have e:=v14_5.length;simp only [Array.length_toList] at e;rw [←e];exact small (by show 3≤1000;decide),v14_5⟩,jX X G a21,jX X G a17,jX X G a19⟩,⟨f21,f20,f14,fun H=>.inr ⟨_,_,_,r14_6,t14_6,y14_6,u14_6,by have e:=v14_6.length;simp only [Array.length_toList] at e;rw [←e];exact small (by show 3≤1000;decide),v14_6⟩,jX X G a21,jX X G a20,jX X G a14⟩⟩,
  aIf X G a6,
  aIf X G a10,
  aIf X G a11,
  aIf X G a12,
  aIf X G a13,
  bG X G a0 (by trivial),
  bG X G a1 (by trivial),
  bG X G a2 (by trivial),
  bG X G a3 (by trivial),
  bG X G a4 (by trivial),
  bG X G a5 (by trivial),
  bG X G a6 (by trivial),
  bG X G a7 (by trivial),
  bG X G a8 (by trivial),
  bG X G a9 (by trivial),
  bG X G a10 (by trivial),
  bG X G a11 (by trivial),
  bG X G a12 (by trivial),
  bG X G a13 (by trivial),
  bG X G a14 (by trivial),
  bG X G a15 (by trivial),
  bG X G a16 (by trivial),
  bG X G a17 (by trivial),
  bG X G a18 (by trivial),
  bG X G a19 (by trivial),
  bG X G a20 (by trivial),
  bG X G a21 (by trivial),
  bG X G a22 (by trivial),
  bG X G a23 (by trivial),
  bG X G a24 (by trivial),
  bG X G a25 (by trivial),
  bG X G a26 (by trivial),
  bG X G a27 (by trivial),
  bG X G a28 (by trivial),
  bG X G a29 (by trivial),
  bG X G a30 (by trivial),
  bG X G a31 (by trivial),
  bG X G a32 (by trivial),
  bG X G a33 (by trivial),
  bG X G a34 (by trivial),
  bG X G a35 (by trivial),
  bG X G a36 (by trivial),
  bG X G a37 (by trivial),
  bG X G a38 (by trivial),
  bG X G a39 (by trivial),
  bG X G a40 (by trivial),
  bG X G a41 (by trivial),
  bG X G a42 (by trivial),
  bG X G a43 (by trivial),
  bG X G a44 (by trivial),
  bG X G a45 (by trivial),
  bG X G a46 (by trivial),
  bG X G a47 (by trivial),
  bG X G a48 (by trivial),
  bG X G a49 (by trivial),
  bG X G a50 (by trivial),
  bG X G a51 (by trivial),
  bG X G a52 (by trivial),
  bG X G a53 (by trivial),
  bG X G a54 (by trivial),
  bG X G a55 (by trivial),
  bG X G a56 (by trivial),
  bG X G a57 (by trivial),
  bG X G a58 (by trivial),
  bG X G a59 (by trivial),
  bG X G a60 (by trivial),
  bG X G a61 (by trivial),
  bG X G a62 (by trivial),
  bG X G a63 (by trivial),
  bG X G a64 (by trivial),
  bG X G a65 (by trivial),
  bG X G a66 (by trivial),
  bG X G a67 (by trivial),
  bG X G a68 (by trivial),
  bG X G a69 (by trivial),
  bG X G a70 (by trivial),
  bG X G a71 (by trivial),
  bG X G a72 (by trivial)⟩
end My
open PySem PySem.W PyProof.Rows
def PySem.W.Fast.tw15829539799868376302:=0
def PySem.W.Fast.tw16528957963204255156:=0
def PySem.W.Fast.tw16427813889369818706:=0
def PySem.W.Fast.tw14991505114747451059:=0
def PySem.W.Fast.tw6868196445717313273:=0
def PySem.W.Fast.tw13778929432205769030:=0
def PySem.W.Fast.tw9061997499739332570:=0
def PySem.W.Fast.tw12036603744295081514:=0
def PySem.W.Fast.tw2537799296775673429:=0
def PySem.W.Fast.tw4728916978280275818:=0
def PySem.W.Fast.tw13414982647726774033:=0
def PySem.W.Fast.tw11081448324422032649:=0
def PySem.W.Fast.tw17782312364423670013:=0
def PySem.W.Fast.tw10143347145173591441:=0
def PySem.W.Fast.tw1522124148177259840:=0
def PySem.W.Fast.tw11057617495127289793:=0
def PySem.W.Fast.tw14210272875601658870:=0
def PySem.W.Fast.tw15695932226936677080:=0
def PySem.W.Fast.tw8352017691210035510:=0
def PySem.W.Fast.tw18157942065982283552:=0
def PySem.W.Fast.tw16693619367956892198:=0
def PySem.W.Fast.tw1858232721478247433:=0
def PySem.W.Fast.tw3985867643359848299:=0
def PySem.W.Fast.tw15899717025253629289:=0
def PySem.W.Fast.tw3381936012741324701:=0
def PySem.W.Fast.tw10307298363826753592:=0
def PySem.W.Fast.tw13635831755472432588:=0
def PySem.W.Fast.tw9395398900585008158:=0
def PySem.W.Fast.tw9614143329441206820:=0
def PySem.W.Fast.tw16025887371486292788:=0
def PySem.W.Fast.tw8352276301128615620:=0
def PySem.W.Fast.tw11631850712734402708:=0
def PySem.W.Fast.tw6453186560438204694:=0
def PySem.W.Fast.tw12096091157145145494:=0
def PySem.W.Fast.tw3118742839894763392:=0
def PySem.W.Fast.tw1254067921934387213:=0
def PySem.W.Fast.tw8481375448633825428:=0
def PySem.W.Fast.tw10327094258356062283:=0
def PySem.W.Fast.tw10351476443587196538:=0
def PySem.W.Fast.tw1611810684604647778:=0
def PySem.W.Fast.tw10463686277288700482:=0
def PySem.W.Fast.tw2256942871062384941:=0
def PySem.W.Fast.tw4323796527065090886:=0
def PySem.W.Fast.tw17288370825848814751:=0
def PySem.W.Fast.tw4582863330678543616:=0
def PySem.W.Fast.tw12261367977338663100:=0
def PySem.W.Fast.tw11588100787688349814:=0
def PySem.W.Fast.tw9897219110790317140:=0
def PySem.W.Fast.tw579308615729032893:=0
def PySem.W.Fast.tw13545300194958987913:=0
def PySem.W.Fast.tw15447400007068488636:=0
def PySem.W.Fast.tw13206563609800458990:=0
def PySem.W.Fast.tw2977178691284867124:=0
def PySem.W.Fast.tw6254261712907618992:=0
def PySem.W.Fast.tw685059819572135489:=0
def PySem.W.Fast.tw15522103040049815100:=0
def PySem.W.Fast.tw7756026137429282264:=0
def PySem.W.Fast.tw3268360116936261120:=0
def PySem.W.Fast.tw17812166327905757395:=0
def PySem.W.Fast.tw14075281701632991185:=0
def PySem.W.Fast.tw12707162789447738032:=0
def PySem.W.Fast.tw11194117555327071413:=0
def PySem.W.Fast.tw12144907561132650552:=0
def PySem.W.Fast.tw14889501479909261683:=0
def PySem.W.Fast.tw11181046387298106518:=0
def PySem.W.Fast.tw2653536538827165620:=0
def PySem.W.Fast.tw6617946702368601028:=0
def PySem.W.Fast.tw423030922503775647:=0
def PySem.W.Fast.tw6530976995341308467:=0
def PySem.W.Fast.tw9933127826280629511:=0
def PySem.W.Fast.tw11037390762363657157:=0
def PySem.W.Fast.tw13284014406341662650:=0
def PySem.W.Fast.tw7957048036048008904:=0
def PySem.W.Fast.tw13652903527436254143:=0
def PySem.W.Fast.tw9102429920008591785:=0
def PySem.W.Fast.tw17042885540626740839:=0
def PySem.W.Fast.tw4643925949539228856:=0
def PySem.W.Fast.tw6939040703000915334:=0
def PySem.W.Fast.tw10294650852273958978:=0
def PySem.W.Fast.tw15170432359572495541:=0
def PySem.W.Fast.tw13331988483481918474:=0
def PySem.W.Fast.tw4533988463598044752:=0
def PySem.W.Fast.tw6878425786052830820:=0
def PySem.W.Fast.tw13114320977117089189:=0
def PySem.W.Fast.tw6601370321774095530:=0
def PySem.W.Fast.tw6426057020969275876:=0
def PySem.W.Fast.tw163903069725289528:=0
def PySem.W.Fast.tw6512561798909494921:=0
def PySem.W.Fast.tw6654080244289590807:=0
def PySem.W.Fast.tw13209980712897807515:=0
def PySem.W.Fast.tw13210218850229758021:=0
def PySem.W.Fast.tw1787587573386181691:=0
def PySem.W.Fast.tw6526710596817793558:=0
def PySem.W.Fast.tw5789732622071777835:=0
def PySem.W.Fast.tw18188559756552402894:=0
def PySem.W.Fast.tw8174408473819514323:=0
def PySem.W.Fast.tw7718374462047806879:=0
def PySem.W.Fast.tw17271554876279574283:=0
def PySem.W.Fast.tw9819263563439161424:=0
def PySem.W.Fast.tw12424061689138665801:=0
def PySem.W.Fast.tw9067582210925938275:=0
def PySem.W.Fast.tw12629613838362422258:=0
def PySem.W.Fast.tw9293798666109944175:=0
def PySem.W.Fast.tw13181057395937176992:=0
def PySem.W.Fast.tw2206178951597378837:=0
def PySem.W.Fast.tw7089570552859043852:=0
def PySem.W.Fast.tw17911900036037443341:=0
def PySem.W.Fast.tw15452481794955655985:=0
def PySem.W.Fast.tw8996475170129364098:=0
def PySem.W.Fast.tw8593157034588183368:=0
def PySem.W.Fast.tw9882151953223635215:=0
def PySem.W.Fast.tw902268741440431942:=0
def PySem.W.Fast.tw12112446905339856457:=0
def PySem.W.Fast.tw11749058776392487617:=0
def PySem.W.Fast.tw8022003924892511411:=0
def PySem.W.Fast.tw7718700131055026892:=0
def PySem.W.Fast.tw7303310615888957185:=0
def PySem.W.Fast.tw10608022313864893711:=0
def PySem.W.Fast.tw14293776024787139520:=0
def PySem.W.Fast.tw8229752033608466672:=0
def PySem.W.Fast.tw6148570167715157296:=0
def PySem.W.Fast.tw8511915848158857383:=0
def PySem.W.Fast.tw5839652111970989632:=0
def PySem.W.Fast.tw724798394241145241:=0
def PySem.W.Fast.tw13140406377495347382:=0
def PySem.W.Fast.tw4271278921652290962:=0
def PySem.W.Fast.tw11867255150734521909:=0
def PySem.W.Fast.tw7467841915987012836:=0
def PySem.W.Fast.tw9596717236426038058:=0
def PySem.W.Fast.tw13117488287634763890:=0
def PySem.W.Fast.tw3232980175152460525:=0
def PySem.W.Fast.tw14845041999287162112:=0
def PySem.W.Fast.tw11974762840260602486:=0
def PySem.W.Fast.tw16966153184034888544:=0
def PySem.W.Fast.tw11552526552756521780:=0
def PySem.W.Fast.tw2280258126829977775:=0
def PySem.W.Fast.tw16713836995187348211:=0
def PySem.W.Fast.tw111122577153237124:=0
def PySem.W.Fast.tw17920879664480874569:=0
def PySem.W.Fast.tw17400822302280239093:=0
def PySem.W.Fast.tw16619338153424043050:=0
def PySem.W.Fast.tw3591896982691254699:=0
def PySem.W.Fast.tw1298188227190350756:=0
def PySem.W.Fast.tw6974106382035692881:=0
def PySem.W.Fast.tw5406780134140777763:=0
def PySem.W.Fast.tw11677188443170927988:=0
def PySem.W.Fast.tw18110706952436352778:=0
def PySem.W.Fast.tw17919183410308872456:=0
def PySem.W.Fast.tw2755210210322580348:=0
def PySem.W.Fast.tw14233889688703784855:=0
def PySem.W.Fast.tw6794800126780164235:=0
def PySem.W.Fast.tw13928776881168136023:=0
def PySem.W.Fast.tw11042256110334946843:=0
def PySem.W.Fast.tw2163936757623822367:=0
def PySem.W.Fast.tw17256958591163619883:=0
def PySem.W.Fast.tw637204016730007572:=0
def PySem.W.Fast.tw5110058347072099886:=0
def PySem.W.Fast.tw18438482280365967197:=0
def PySem.W.Fast.tw14134839996799273175:=0
def PySem.W.Fast.tw8730761319595119995:=0
def PySem.W.Fast.tw2919556336961520192:=0
def PySem.W.Fast.tw2608107622330384155:=0
def PySem.W.Fast.tw11615130368086954394:=0
def PySem.W.Fast.tw12578939012899411513:=0
def PySem.W.Fast.tw7189211391915926950:=0
def PySem.W.Fast.tw12939448653554868983:=0
def PySem.W.Fast.tw16303557759259237983:=0
def PySem.W.Fast.tw3976882253969604123:=0
def PySem.W.Fast.tw5283870170177882632:=0
def PySem.W.Fast.tw13952148190354540175:=0
def PySem.W.Fast.tw11219405843734946360:=0
def PySem.W.Fast.tw2363959294374630010:=0
def PySem.W.Fast.tw1824183591474548382:=0
def PySem.W.Fast.tw9195955544353875662:=0
def PySem.W.Fast.tw6068021102143919148:=0
def PySem.W.Fast.tw12959726786531940893:=0
def PySem.W.Fast.tw7212653413528481945:=0
def PySem.W.Fast.tw7931141103275650528:=0
def PySem.W.Fast.tw11564098393256267469:=0
def PySem.W.Fast.tw11206514197683978856:=0
def PySem.W.Fast.tw8563862466431604025:=0
def PySem.W.Fast.tw12158049429252418066:=0
def PySem.W.Fast.tw10597200898146620617:=0
def PySem.W.Fast.tw5685673838820568564:=0
def PySem.W.Fast.tw6023873797107093706:=0
def PySem.W.Fast.tw6600028531413115665:=0
def PySem.W.Fast.tw11085581392377940375:=0
def PySem.W.Fast.tw5275092926228501317:=0
def PySem.W.Fast.tw2950149136327872276:=0
def PySem.W.Fast.tw9946997490340137860:=0
def PySem.W.Fast.tw11972416099052561992:=0
def PySem.W.Fast.tw9472901042816726221:=0
def PySem.W.Fast.tw8455768067202331385:=0
def PySem.W.Fast.tw4528440886833020585:=0
def PySem.W.Fast.tw5594143990309993577:=0
def PySem.W.Fast.tw16667718936287900843:=0
def PySem.W.Fast.tw6007357238893715969:=0
def PySem.W.Fast.tw4195420859868179975:=0
def PySem.W.Fast.tw1697288628504473215:=0
def PySem.W.Fast.tw1462902007390209457:=0
def PySem.W.Fast.tw10197263017615310684:=0
def PySem.W.Fast.tw10878614504611549341:=0
def PySem.W.Fast.tw9563576914401385135:=0
def PySem.W.Fast.tw9005301709547022168:=0
def PySem.W.Fast.tw4938343765086642375:=0
def PySem.W.Fast.tw7398062578271025202:=0
def PySem.W.Fast.tw16786909052395702812:=0
def PySem.W.Fast.tw1754238772396397591:=0
def PySem.W.Fast.tw18059519521206363770:=0
def PySem.W.Fast.tw4817076469437794057:=0
def PySem.W.Fast.tw8572089903820058599:=0
def PySem.W.Fast.tw878215224176118598:=0
def PySem.W.Fast.tw13917862891097480544:=0
def PySem.W.Fast.tw9366702493138983040:=0
def PySem.W.Fast.tw12436942564051234394:=0
def PySem.W.Fast.tw1067017507009359872:=0
def PySem.W.Fast.tw16138808855423714470:=0
def PySem.W.Fast.tw2661190885518547299:=0
def PySem.W.Fast.tw12822710582053082046:=0
def PySem.W.Fast.tw434784584287037550:=0
def PySem.W.Fast.tw17119536184121104822:=0
def PySem.W.Fast.tw15322867569188334239:=0
def PySem.W.Fast.tw15457516927584520048:=0
def PySem.W.Fast.tw9036448627629932533:=0
def PySem.W.Fast.tw16080455005719454445:=0
def PySem.W.Fast.tw17623067878909931744:=0
def PySem.W.Fast.tw16709063784968013365:=0
def PySem.W.Fast.tw6144150777576826676:=0
def PySem.W.Fast.tw510777205225003604:=0
def PySem.W.Fast.tw6031022555672794862:=0
def PySem.W.Fast.tw5393652140030487195:=0
def PySem.W.Fast.tw15587648781290520227:=0
def PySem.W.Fast.tw5922250738063143219:=0
def PySem.W.Fast.tw13072663509069137573:=0
def PySem.W.Fast.tw17231635553524483413:=0
def PySem.W.Fast.tw8766067176141865085:=0
def PySem.W.Fast.tw8675501134304874876:=0
def PySem.W.Fast.tw7797695368841197959:=0
def PySem.W.Fast.tw4106695211946563359:=0
def PySem.W.Fast.tw15836380867468957636:=0
def PySem.W.Fast.tw2504734497454845691:=0
def PySem.W.Fast.tw4465083381278617358:=0
def PySem.W.Fast.tw3499267196679571103:=0
def PySem.W.Fast.tw3212525188677728893:=0
def PySem.W.Fast.tw14093522500610676497:=0
def PySem.W.Fast.tw13579495239729193608:=0
def PySem.W.Fast.tw10583529656949660604:=0
def PySem.W.Fast.tw967528885182283598:=0
def PySem.W.Fast.tw8744674467574083558:=0
def PySem.W.Fast.tw1367238250341161417:=0
def PySem.W.Fast.tw9678946077972831153:=0
def PySem.W.Fast.tw1924241698420419480:=0
def PySem.W.Fast.tw18179938876590191237:=0
def PySem.W.Fast.tw16864747582084128423:=0
def PySem.W.Fast.tw15674041252279476806:=0
def PySem.W.Fast.tw10620111300353258713:=0
def PySem.W.Fast.tw10448049167404314759:=0
def PySem.W.Fast.tw917994149916063824:=0
def PySem.W.Fast.tw17719511629658522024:=0
def PySem.W.Fast.tw16591619909140583785:=0
def PySem.W.Fast.tw2740629457396830719:=0
def PySem.W.Fast.tw6018169224150136941:=0
def PySem.W.Fast.tw14805591139186997219:=0
def PySem.W.Fast.tw1044181886797345396:=0
def PySem.W.Fast.tw15759288501556549323:=0
def PySem.W.Fast.tw4841160261586012592:=0
def PySem.W.Fast.tw3506766609518447530:=0
def PySem.W.Fast.tw18416377001117759605:=0
def PySem.W.Fast.tw17534222284285830636:=0
def PySem.W.Fast.tw17182920994142188967:=0
def PySem.W.Fast.tw1587239052393720537:=0
def PySem.W.Fast.tw12676031411838907355:=0
def PySem.W.Fast.tw575414536542226748:=0
def PySem.W.Fast.tw3708865689099835054:=0
def PySem.W.Fast.tw15788311661752914414:=0
def PySem.W.Fast.tw1315705064029668887:=0
def PySem.W.Fast.tw10274718573214743067:=0
def PySem.W.Fast.tw18026530165449406519:=0
def PySem.W.Fast.tw489832499192226430:=0
def PySem.W.Fast.tw3801846280619586389:=0
def PySem.W.Fast.tw2766625495240096906:=0
def PySem.W.Fast.tw14761774931915711967:=0
def PySem.W.Fast.tw10022017560818329499:=0
def PySem.W.Fast.tw15168064178502501618:=0
def PySem.W.Fast.tw13142557541639443516:=0
def PySem.W.Fast.tw7504043025318660542:=0
def PySem.W.Fast.tw7270601452292480562:=0
def PySem.W.Fast.tw14798354191721340253:=0
def PySem.W.Fast.tw11442014457151156450:=0
def PySem.W.Fast.tw4602072402331926210:=0
def PySem.W.Fast.tw12167478534519849556:=0
def PySem.W.Fast.tw350337825236703341:=0
def PySem.W.Fast.tw14648893868253131513:=0
def PySem.W.Fast.tw5994934695887774382:=0
def PySem.W.Fast.tw16250500739802667574:=0
def PySem.W.Fast.tw8329951206865158987:=0
def PySem.W.Fast.tw16713578133335471560:=0
def PySem.W.Fast.tw16312318210505357871:=0
def PySem.W.Fast.tw9098276867400319036:=0
def PySem.W.Fast.tw1956707371372900628:=0
def PySem.W.Fast.tw729037846936584553:=0
def PySem.W.Fast.tw4371859173108055940:=0
def PySem.W.Fast.tw8892025472970342219:=0
def PySem.W.Fast.tw12144705403380904049:=0
def PySem.W.Fast.tw17927032792992461126:=0
def PySem.W.Fast.tw5117106823222380907:=0
def PySem.W.Fast.tw11472709528411377217:=0
def PySem.W.Fast.tw17133599636982548113:=0
def PySem.W.Fast.tw15107697370095216038:=0
def PySem.W.Fast.tw17832660183611383967:=0
def PySem.W.Fast.tw10603206649675902417:=0
def PySem.W.Fast.tw4679800772132320782:=0
def PySem.W.Fast.tw13975231974718675708:=0
def PySem.W.Fast.tw18171644055438542573:=0
def PySem.W.Fast.tw17603357870793376810:=0
def PySem.W.Fast.tw3617076494467088801:=0
def PySem.W.Fast.tw3358944610789466448:=0
def PySem.W.Fast.tw10957087825139423236:=0
def PySem.W.Fast.tw2742878709679047788:=0
def PySem.W.Fast.tw3244079157849922167:=0
def PySem.W.Fast.tw10927674888855574390:=0
def PySem.W.Fast.tw8025564713855120640:=0
def PySem.W.Fast.tw5303989571280719415:=0
def PySem.W.Fast.tw16019549156746061273:=0
def PySem.W.Fast.tw5666072378236697498:=0
def PySem.W.Fast.tw826794748704466936:=0
def PySem.W.Fast.tw16888297472005304837:=0
def PySem.W.Fast.tw980737421761191279:=0
def PySem.W.Fast.tw4984577467036611969:=0
def PySem.W.Fast.tw17986038428505670545:=0
def PySem.W.Fast.tw16842460630158489213:=0
def PySem.W.Fast.tw15461734523536396568:=0
def PySem.W.Fast.tw12786644159013405689:=0
def PySem.W.Fast.tw106997813780719944:=0
def PySem.W.Fast.tw10152735112106094988:=0
def PySem.W.Fast.tw2818316795227429042:=0
def PySem.W.Fast.tw16328657978088801034:=0
def PySem.W.Fast.tw1473513088971480777:=0
def PySem.W.Fast.tw16245387184916756447:=0
def PySem.W.Fast.tw6457079918537439278:=0
def PySem.W.Fast.tw12272971022811944619:=0
def PySem.W.Fast.tw5069068103955424180:=0
def PySem.W.Fast.tw17370818456914088574:=0
def PySem.W.Fast.tw2865154994967082032:=0
def PySem.W.Fast.tw14161899990826305211:=0
def PySem.W.Fast.tw16487675938169288506:=0
def PySem.W.Fast.tw9988155003946885744:=0
def PySem.W.Fast.tw8979467157627266574:=0
def PySem.W.Fast.tw8485695099597637402:=0
def PySem.W.Fast.tw8170159511772822275:=0
def PySem.W.Fast.tw7906728043152638941:=0
def PySem.W.Fast.tw7491787705433992256:=0
def PySem.W.Fast.tw6046792883019774765:=0
def PySem.W.Fast.tw5189003304181944745:=0
def PySem.W.Fast.tw517991649237722910:=0
def PySem.W.Fast.tw2532648186630447518:=0
def PySem.W.Fast.tw17807638935134619326:=0
def PySem.W.Fast.tw17717334463715044533:=0
def PySem.W.Fast.tw14600682377080033724:=0
def PySem.W.Fast.tw12889924758035033815:=0
def PySem.W.Fast.tw12402269633301949558:=0
def PySem.W.Fast.tw12232741826538779251:=0
def PySem.W.Fast.tw12139865039801724053:=0
def PySem.W.Fast.tw12077647045518622768:=0
def PySem.W.Fast.tw11134408634228950838:=0
def PySem.W.Fast.tw11132018395060684838:=0
def PySem.W.Fast.tw16602235559349986093:=0
def PySem.W.Fast.tw6617011973467235311:=0
def PySem.W.Fast.tw4446457071279502873:=0
def PySem.W.Fast.tw17924840329293809736:=0
def PySem.W.Fast.tw17246804098966101860:=0
def PySem.W.Fast.tw13098742387062691720:=0
def PySem.W.Fast.tw11124276730392681833:=0
def PySem.W.Fast.tw10955806556652549935:=0
def PySem.W.Fast.tw3978925057527552402:=0
def PySem.W.Fast.tw7855912932776032149:=0
def PySem.W.Fast.tw6706883129089695192:=0
def PySem.W.Fast.tw4485191041594588644:=0
def PySem.W.Fast.tw276638528033438524:=0
def PySem.W.Fast.tw1742358707711651300:=0
def PySem.W.Fast.tw11602103168338059333:=0
def PySem.W.Fast.tw11516891587857858793:=0
def PySem.W.Fast.tw5297841367956320700:=0
def PySem.W.Fast.tw418482370026261743:=0
def PySem.W.Fast.tw12556118587363951504:=0
def PySem.W.Fast.tw9050674988519647791:=0
def PySem.W.Fast.tw5955972949238465344:=0
def PySem.W.Fast.tw2198097597417218488:=0
def PySem.W.Fast.tw12090994167703872736:=0
def PySem.W.Fast.tw8744000624243074799:=0
def PySem.W.Fast.tw7560073326446561377:=0
def PySem.W.Fast.tw4435873375314756721:=0
def PySem.W.Fast.tw1841713251392969962:=0
def PySem.W.Fast.tw18025945568718884588:=0
def PySem.W.Fast.tw12698828543538260049:=0
def PySem.W.Fast.tw1102712860485848374:=0
def PySem.W.Fast.tw8409254753381667856:=0
def PySem.W.Fast.tw4346424753475621578:=0
def PySem.W.Fast.tw411951304478407234:=0
def PySem.W.Fast.tw395209131210665372:=0
def PySem.W.Fast.tw18056282765413419659:=0
def PySem.W.Fast.tw17747337101085528612:=0
def PySem.W.Fast.tw1587343344351076833:=0
def PySem.W.Fast.tw999900360549509268:=0
def PySem.W.Fast.tw9839900196482398035:=0
def PySem.W.Fast.tw9803575286917770435:=0
def PySem.W.Fast.tw9763271563877943025:=0
def PySem.W.Fast.tw9687036903375558504:=0
def PySem.W.Fast.tw9644848055490116270:=0
def PySem.W.Fast.tw9622565800624456391:=0
def PySem.W.Fast.tw9380313054493314451:=0
def PySem.W.Fast.tw9351937371631223953:=0
def PySem.W.Fast.tw933955238264948818:=0
def PySem.W.Fast.tw9323996124569448870:=0
def PySem.W.Fast.tw9226420621482364749:=0
def PySem.W.Fast.tw9111577528661738036:=0
def PySem.W.Fast.tw9109362409950287290:=0
def PySem.W.Fast.tw9002061930674790350:=0
def PySem.W.Fast.tw8811846182646666441:=0
def PySem.W.Fast.tw84806664995770999:=0
def PySem.W.Fast.tw8107866328295696375:=0
def PySem.W.Fast.tw8082815592539995109:=0
def PySem.W.Fast.tw8032905044923321673:=0
def PySem.W.Fast.tw7934327526515779048:=0
def PySem.W.Fast.tw793231218455822901:=0
def PySem.W.Fast.tw7842303028737672521:=0
def PySem.W.Fast.tw7678527828314996480:=0
def PySem.W.Fast.tw7651204022416345218:=0
def PySem.W.Fast.tw7544911008598498889:=0
def PySem.W.Fast.tw7327084231492514863:=0
def PySem.W.Fast.tw7243149882005590232:=0
def PySem.W.Fast.tw7241582446363818927:=0
def PySem.W.Fast.tw7134254727464376337:=0
def PySem.W.Fast.tw7073956504576341760:=0
def PySem.W.Fast.tw6800932496432798108:=0
def PySem.W.Fast.tw6758307081019180078:=0
def PySem.W.Fast.tw6743804458433722705:=0
def PySem.W.Fast.tw6707947804227202662:=0
def PySem.W.Fast.tw6633307158411702159:=0
def PySem.W.Fast.tw6611817374962756576:=0
def PySem.W.Fast.tw6481111392524918895:=0
def PySem.W.Fast.tw6390042156498847000:=0
def PySem.W.Fast.tw6320761378099544376:=0
def PySem.W.Fast.tw5921141619133803267:=0
def PySem.W.Fast.tw5894916514963825448:=0
def PySem.W.Fast.tw5888082769297660102:=0
def PySem.W.Fast.tw5887649233295232398:=0
def PySem.W.Fast.tw5787380372684883631:=0
def PySem.W.Fast.tw5638390860296316984:=0
def PySem.W.Fast.tw5559000346303364532:=0
def PySem.W.Fast.tw5501690758433031124:=0
def PySem.W.Fast.tw519595996031634982:=0
def PySem.W.Fast.tw5019892740163223593:=0
def PySem.W.Fast.tw4845849954642243501:=0
def PySem.W.Fast.tw4691165339646249956:=0
def PySem.W.Fast.tw4568490288139738410:=0
def PySem.W.Fast.tw4394928254882637612:=0
def PySem.W.Fast.tw4367628924653283903:=0
def PySem.W.Fast.tw4082391123177247151:=0
def PySem.W.Fast.tw3966682761801614297:=0
def PySem.W.Fast.tw3891743251357312789:=0
def PySem.W.Fast.tw3522712623331891768:=0
def PySem.W.Fast.tw3480443603648460357:=0
def PySem.W.Fast.tw3427447394684293673:=0
def PySem.W.Fast.tw3159097388757993300:=0
def PySem.W.Fast.tw3144439160947784940:=0
def PySem.W.Fast.tw2955898103157028525:=0
def PySem.W.Fast.tw2779040596013058970:=0
def PySem.W.Fast.tw2730013307600396844:=0
def PySem.W.Fast.tw2703228491215817943:=0
def PySem.W.Fast.tw1962056515607134881:=0
def PySem.W.Fast.tw1935369777918934935:=0
def PySem.W.Fast.tw18426917328606768231:=0
def PySem.W.Fast.tw18162452674870055912:=0
def PySem.W.Fast.tw18156815670014130369:=0
def PySem.W.Fast.tw17922334709704522131:=0
def PySem.W.Fast.tw17871319130878991760:=0
def PySem.W.Fast.tw1778797172655833507:=0
def PySem.W.Fast.tw17758690410065560546:=0
def PySem.W.Fast.tw17641913072218583858:=0
def PySem.W.Fast.tw17445920129485012212:=0
def PySem.W.Fast.tw17359390182815479584:=0
def PySem.W.Fast.tw17091163775625518761:=0
def PySem.W.Fast.tw16820856235267170367:=0
def PySem.W.Fast.tw16343108010686242938:=0
def PySem.W.Fast.tw15868277760554653954:=0
def PySem.W.Fast.tw15285375206625723975:=0
def PySem.W.Fast.tw15282633230264598301:=0
def PySem.W.Fast.tw15275064214505538339:=0
def PySem.W.Fast.tw15246748210013264821:=0
def PySem.W.Fast.tw15222442785989301227:=0
def PySem.W.Fast.tw14835210533571505121:=0
def PySem.W.Fast.tw14829467462967383033:=0
def PySem.W.Fast.tw14678750067703550904:=0
def PySem.W.Fast.tw14653838265438316186:=0
def PySem.W.Fast.tw1433948054290601636:=0
def PySem.W.Fast.tw1412588980994527562:=0
def PySem.W.Fast.tw13828860422447537591:=0
def PySem.W.Fast.tw13725268611755565743:=0
def PySem.W.Fast.tw13647755629928378269:=0
def PySem.W.Fast.tw1364682737306265801:=0
def PySem.W.Fast.tw13423974255866685870:=0
def PySem.W.Fast.tw13380550445217160659:=0
def PySem.W.Fast.tw13360073221569494090:=0
def PySem.W.Fast.tw13232586476043249644:=0
def PySem.W.Fast.tw13023796329070010737:=0
def PySem.W.Fast.tw12819478487956376875:=0
def PySem.W.Fast.tw1276774282658543394:=0
def PySem.W.Fast.tw12681295659715067306:=0
def PySem.W.Fast.tw12657127714444153537:=0
def PySem.W.Fast.tw1259466142939822186:=0
def PySem.W.Fast.tw12462997005804913045:=0
def PySem.W.Fast.tw12438969555409018914:=0
def PySem.W.Fast.tw1242018971415406468:=0
def PySem.W.Fast.tw1232845521342780658:=0
def PySem.W.Fast.tw12318947975481076321:=0
def PySem.W.Fast.tw12277899251915094837:=0
def PySem.W.Fast.tw12183441005719533237:=0
def PySem.W.Fast.tw12153728555662811617:=0
def PySem.W.Fast.tw12130111770352582822:=0
def PySem.W.Fast.tw12102650735582554638:=0
def PySem.W.Fast.tw12084746395680849525:=0
def PySem.W.Fast.tw12005489623567661209:=0
def PySem.W.Fast.tw11604265191683729876:=0
def PySem.W.Fast.tw11575261392718138377:=0
def PySem.W.Fast.tw1149726644177741794:=0
def PySem.W.Fast.tw11215836971442720618:=0
def PySem.W.Fast.tw11183172157895520834:=0
def PySem.W.Fast.tw11156205143305657994:=0
def PySem.W.Fast.tw11107338224140233562:=0
def PySem.W.Fast.tw11101063828596912387:=0
def PySem.W.Fast.tw10805793354240119423:=0
def PySem.W.Fast.tw10797831943362619692:=0
def PySem.W.Fast.tw10791070397985850480:=0
def PySem.W.Fast.tw10716584082398790039:=0
def PySem.W.Fast.tw10676084525231309550:=0
def PySem.W.Fast.tw10432897667577433941:=0
def PySem.W.Fast.tw10348005002426900289:=0
def PySem.W.Fast.tw10293001633586690938:=0
def PySem.W.Fast.tw10183118764710728815:=0
def PySem.W.Fast.tw10009954986076252607:=0
set_option maxRecDepth 100000 in
set_option maxHeartbeats 0 in
theorem PySem.Challenge.cw_shardask_k16_tests_sink_holds : PySem.Challenge.rw_shardask_k16_tests_sink.Holds := by
 w_on;o_law;k_head;(case hw=>w_witness2)
 k_fill
 refine L2.aQb (l:=PySem.Challenge.rw_shardask_k16_tests_sink) (n:=63) (k:=73) (x:="_law_script") (CX:=L2.CX0) (sp:=My.aFm) rfl (by decide) rfl ⟨rfl,by decide,by decide⟩ (fun w h Y=>PySem.W.kIn_of Y) ?F (fun K H a ns hl hO hS=>My.aP1 hl hS) (fun _ _ _ _ z=>z)
 case F=>
  intro w mg fa h KX G hmg
  have T:My.Txt w (L2.KOf KX) mg:=by
   dsimp only [L2.KOf]
   refine' My.aYl KX G ?a0 ?a1 ?a2 ?a3 ?a4 ?a5 ?a6 ?a7 ?a8 ?a9 ?a10 ?a11 ?a12 ?a13 ?a14 ?a15 ?a16 ?a17 ?a18 ?a19 ?a20 ?a21 ?a22 ?a23 ?a24 ?a25 ?a26 ?a27 ?a28 ?a29 ?a30 ?a31 ?a32 ?a33 ?a34 ?a35 ?a36 ?a37 ?a38 ?a39 ?a40 ?a41 ?a42 ?a43 ?a44 ?a45 ?a46 ?a47 ?a48 ?a49 ?a50 ?a51 ?a52 ?a53 ?a54 ?a55 ?a56 ?a57 ?a58 ?a59 ?a60 ?a61 ?a62 ?a63 ?a64 ?a65 ?a66 ?a67 ?a68 ?a69 ?a70 ?a71 ?a72 ?q0 ?r0 ?t0 ?y0 ?u0 ?v0 ?q1 ?q2 ?q3 ?q4 ?r4 ?t4 ?y4 ?u4 ?v4 ?q5 ?r5 ?t5 ?y5 ?u5 ?v5 ?q6 ?r6 ?t6 ?y6 ?u6 ?v6 ?q7 ?q8 ?q9 ?q10 ?q11 ?q12 ?q13 ?q14 ?r14 ?x14 ?o14 ?u14 ?h14 ?r14_0 ?t14_0 ?y14_0 ?u14_0 ?v14_0 ?r14_1 ?t14_1 ?y14_1 ?u14_1 ?v14_1 ?r14_2 ?t14_2 ?y14_2 ?u14_2 ?v14_2 ?r14_3 ?t14_3 ?y14_3 ?u14_3 ?v14_3 ?r14_4 ?t14_4 ?y14_4 ?u14_4 ?v14_4 ?r14_5 ?t14_5 ?y14_5 ?u14_5 ?v14_5 ?r14_6 ?t14_6 ?y14_6 ?u14_6 ?v14_6 ?z0 ?z1 ?z2 ?z3 ?z4 ?z5 ?z6 ?z7 ?z8 ?z9 ?z10 ?z11 ?z12 ?z13 ?z14 ?z15 ?z16
   (case a0=>(refine' My.FA.mk ?j0 ?l0 ?c0 ?k0);(case j0=>k_is);(case l0=>k_is);(case c0=>k_is);(case k0=>k_is))
   (case a1=>(refine' My.FA.mk ?j1 ?l1 ?c1 ?k1);(case j1=>k_is);(case l1=>k_is);(case c1=>k_is);(case k1=>k_is))
   (case a2=>(refine' My.FA.mk ?j2 ?l2 ?c2 ?k2);(case j2=>k_is);(case l2=>k_is);(case c2=>k_is);(case k2=>k_is))
   (case a3=>(refine' My.FA.mk ?j3 ?l3 ?c3 ?k3);(case j3=>k_is);(case l3=>k_is);(case c3=>k_is);(case k3=>k_is))
   (case a4=>(refine' My.FA.mk ?j4 ?l4 ?c4 ?k4);(case j4=>k_is);(case l4=>k_is);(case c4=>k_is);(case k4=>k_is))
   (case a5=>(refine' My.FA.mk ?j5 ?l5 ?c5 ?k5);(case j5=>k_is);(case l5=>k_is);(case c5=>k_is);(case k5=>k_is))
   (case a6=>(refine' My.FA.mk ?j6 ?l6 ?c6 ?k6);(case j6=>k_is);(case l6=>k_is);(case c6=>k_is);(case k6=>k_is))
   (case a7=>(refine' My.FA.mk ?j7 ?l7 ?c7 ?k7);(case j7=>k_is);(case l7=>k_is);(case c7=>k_is);(case k7=>k_is))
   (case a8=>(refine' My.FA.mk ?j8 ?l8 ?c8 ?k8);(case j8=>k_is);(case l8=>k_is);(case c8=>k_is);(case k8=>k_is))
   (case a9=>(refine' My.FA.mk ?j9 ?l9 ?c9 ?k9);(case j9=>k_is);(case l9=>k_is);(case c9=>k_is);(case k9=>k_is))
   (case a10=>(refine' My.FA.mk ?j10 ?l10 ?c10 ?k10);(case j10=>k_is);(case l10=>k_is);(case c10=>k_is);(case k10=>k_is))
   (case a11=>(refine' My.FA.mk ?j11 ?l11 ?c11 ?k11);(case j11=>k_is);(case l11=>k_is);(case c11=>k_is);(case k11=>k_is))
   (case a12=>(refine' My.FA.mk ?j12 ?l12 ?c12 ?k12);(case j12=>k_is);(case l12=>k_is);(case c12=>k_is);(case k12=>k_is))
   (case a13=>(refine' My.FA.mk ?j13 ?l13 ?c13 ?k13);(case j13=>k_is);(case l13=>k_is);(case c13=>k_is);(case k13=>k_is))
   (case a14=>(refine' My.FA.mk ?j14 ?l14 ?c14 ?k14);(case j14=>k_is);(case l14=>k_is);(case c14=>k_is);(case k14=>k_is))
   (case a15=>(refine' My.FA.mk ?j15 ?l15 ?c15 ?k15);(case j15=>k_is);(case l15=>k_is);(case c15=>k_is);(case k15=>k_is))
   (case a16=>(refine' My.FA.mk ?j16 ?l16 ?c16 ?k16);(case j16=>k_is);(case l16=>k_is);(case c16=>k_is);(case k16=>k_is))
   (case a17=>(refine' My.FA.mk ?j17 ?l17 ?c17 ?k17);(case j17=>k_is);(case l17=>k_is);(case c17=>k_is);(case k17=>k_is))
   (case a18=>(refine' My.FA.mk ?j18 ?l18 ?c18 ?k18);(case j18=>k_is);(case l18=>k_is);(case c18=>k_is);(case k18=>k_is))
   (case a19=>(refine' My.FA.mk ?j19 ?l19 ?c19 ?k19);(case j19=>k_is);(case l19=>k_is);(case c19=>k_is);(case k19=>k_is))
   (case a20=>(refine' My.FA.mk ?j20 ?l20 ?c20 ?k20);(case j20=>k_is);(case l20=>k_is);(case c20=>k_is);(case k20=>k_is))
   (case a21=>(refine' My.FA.mk ?j21 ?l21 ?c21 ?k21);(case j21=>k_is);(case l21=>k_is);(case c21=>k_is);(case k21=>k_is))
   (case a22=>(refine' My.FA.mk ?j22 ?l22 ?c22 ?k22);(case j22=>k_is);(case l22=>k_is);(case c22=>k_is);(case k22=>k_is))
   (case a23=>(refine' My.FA.mk ?j23 ?l23 ?c23 ?k23);(case j23=>k_is);(case l23=>k_is);(case c23=>k_is);(case k23=>k_is))
   (case a24=>(refine' My.FA.mk ?j24 ?l24 ?c24 ?k24);(case j24=>k_is);(case l24=>k_is);(case c24=>k_is);(case k24=>k_is))
   (case a25=>(refine' My.FA.mk ?j25 ?l25 ?c25 ?k25);(case j25=>k_is);(case l25=>k_is);(case c25=>k_is);(case k25=>k_is))
   (case a26=>(refine' My.FA.mk ?j26 ?l26 ?c26 ?k26);(case j26=>k_is);(case l26=>k_is);(case c26=>k_is);(case k26=>k_is))
   (case a27=>(refine' My.FA.mk ?j27 ?l27 ?c27 ?k27);(case j27=>k_is);(case l27=>k_is);(case c27=>k_is);(case k27=>k_is))
   (case a28=>(refine' My.FA.mk ?j28 ?l28 ?c28 ?k28);(case j28=>k_is);(case l28=>k_is);(case c28=>k_is);(case k28=>k_is))
   (case a29=>(refine' My.FA.mk ?j29 ?l29 ?c29 ?k29);(case j29=>k_is);(case l29=>k_is);(case c29=>k_is);(case k29=>k_is))
   (case a30=>(refine' My.FA.mk ?j30 ?l30 ?c30 ?k30);(case j30=>k_is);(case l30=>k_is);(case c30=>k_is);(case k30=>k_is))
   (case a31=>(refine' My.FA.mk ?j31 ?l31 ?c31 ?k31);(case j31=>k_is);(case l31=>k_is);(case c31=>k_is);(case k31=>k_is))
   (case a32=>(refine' My.FA.mk ?j32 ?l32 ?c32 ?k32);(case j32=>k_is);(case l32=>k_is);(case c32=>k_is);(case k32=>k_is))
   (case a33=>(refine' My.FA.mk ?j33 ?l33 ?c33 ?k33);(case j33=>k_is);(case l33=>k_is);(case c33=>k_is);(case k33=>k_is))
   (case a34=>(refine' My.FA.mk ?j34 ?l34 ?c34 ?k34);(case j34=>k_is);(case l34=>k_is);(case c34=>k_is);(case k34=>k_is))
   (case a35=>(refine' My.FA.mk ?j35 ?l35 ?c35 ?k35);(case j35=>k_is);(case l35=>k_is);(case c35=>k_is);(case k35=>k_is))
   (case a36=>(refine' My.FA.mk ?j36 ?l36 ?c36 ?k36);(case j36=>k_is);(case l36=>k_is);(case c36=>k_is);(case k36=>k_is))
   (case a37=>(refine' My.FA.mk ?j37 ?l37 ?c37 ?k37);(case j37=>k_is);(case l37=>k_is);(case c37=>k_is);(case k37=>k_is))
   (case a38=>(refine' My.FA.mk ?j38 ?l38 ?c38 ?k38);(case j38=>k_is);(case l38=>k_is);(case c38=>k_is);(case k38=>k_is))
   (case a39=>(refine' My.FA.mk ?j39 ?l39 ?c39 ?k39);(case j39=>k_is);(case l39=>k_is);(case c39=>k_is);(case k39=>k_is))
   (case a40=>(refine' My.FA.mk ?j40 ?l40 ?c40 ?k40);(case j40=>k_is);(case l40=>k_is);(case c40=>k_is);(case k40=>k_is))
   (case a41=>(refine' My.FA.mk ?j41 ?l41 ?c41 ?k41);(case j41=>k_is);(case l41=>k_is);(case c41=>k_is);(case k41=>k_is))
   (case a42=>(refine' My.FA.mk ?j42 ?l42 ?c42 ?k42);(case j42=>k_is);(case l42=>k_is);(case c42=>k_is);(case k42=>k_is))
   (case a43=>(refine' My.FA.mk ?j43 ?l43 ?c43 ?k43);(case j43=>k_is);(case l43=>k_is);(case c43=>k_is);(case k43=>k_is))
   (case a44=>(refine' My.FA.mk ?j44 ?l44 ?c44 ?k44);(case j44=>k_is);(case l44=>k_is);(case c44=>k_is);(case k44=>k_is))
   (case a45=>(refine' My.FA.mk ?j45 ?l45 ?c45 ?k45);(case j45=>k_is);(case l45=>k_is);(case c45=>k_is);(case k45=>k_is))
   (case a46=>(refine' My.FA.mk ?j46 ?l46 ?c46 ?k46);(case j46=>k_is);(case l46=>k_is);(case c46=>k_is);(case k46=>k_is))
   (case a47=>(refine' My.FA.mk ?j47 ?l47 ?c47 ?k47);(case j47=>k_is);(case l47=>k_is);(case c47=>k_is);(case k47=>k_is))
   (case a48=>(refine' My.FA.mk ?j48 ?l48 ?c48 ?k48);(case j48=>k_is);(case l48=>k_is);(case c48=>k_is);(case k48=>k_is))
   (case a49=>(refine' My.FA.mk ?j49 ?l49 ?c49 ?k49);(case j49=>k_is);(case l49=>k_is);(case c49=>k_is);(case k49=>k_is))
   (case a50=>(refine' My.FA.mk ?j50 ?l50 ?c50 ?k50);(case j50=>k_is);(case l50=>k_is);(case c50=>k_is);(case k50=>k_is))
   (case a51=>(refine' My.FA.mk ?j51 ?l51 ?c51 ?k51);(case j51=>k_is);(case l51=>k_is);(case c51=>k_is);(case k51=>k_is))
   (case a52=>(refine' My.FA.mk ?j52 ?l52 ?c52 ?k52);(case j52=>k_is);(case l52=>k_is);(case c52=>k_is);(case k52=>k_is))
   (case a53=>(refine' My.FA.mk ?j53 ?l53 ?c53 ?k53);(case j53=>k_is);(case l53=>k_is);(case c53=>k_is);(case k53=>k_is))
   (case a54=>(refine' My.FA.mk ?j54 ?l54 ?c54 ?k54);(case j54=>k_is);(case l54=>k_is);(case c54=>k_is);(case k54=>k_is))
   (case a55=>(refine' My.FA.mk ?j55 ?l55 ?c55 ?k55);(case j55=>k_is);(case l55=>k_is);(case c55=>k_is);(case k55=>k_is))
   (case a56=>(refine' My.FA.mk ?j56 ?l56 ?c56 ?k56);(case j56=>k_is);(case l56=>k_is);(case c56=>k_is);(case k56=>k_is))
   (case a57=>(refine' My.FA.mk ?j57 ?l57 ?c57 ?k57);(case j57=>k_is);(case l57=>k_is);(case c57=>k_is);(case k57=>k_is))
   (case a58=>(refine' My.FA.mk ?j58 ?l58 ?c58 ?k58);(case j58=>k_is);(case l58=>k_is);(case c58=>k_is);(case k58=>k_is))
   (case a59=>(refine' My.FA.mk ?j59 ?l59 ?c59 ?k59);(case j59=>k_is);(case l59=>k_is);(case c59=>k_is);(case k59=>k_is))
   (case a60=>(refine' My.FA.mk ?j60 ?l60 ?c60 ?k60);(case j60=>k_is);(case l60=>k_is);(case c60=>k_is);(case k60=>k_is))
   (case a61=>(refine' My.FA.mk ?j61 ?l61 ?c61 ?k61);(case j61=>k_is);(case l61=>k_is);(case c61=>k_is);(case k61=>k_is))
   (case a62=>(refine' My.FA.mk ?j62 ?l62 ?c62 ?k62);(case j62=>k_is);(case l62=>k_is);(case c62=>k_is);(case k62=>k_is))
   (case a63=>(refine' My.FA.mk ?j63 ?l63 ?c63 ?k63);(case j63=>k_is);(case l63=>k_is);(case c63=>k_is);(case k63=>k_is))
   (case a64=>(refine' My.FA.mk ?j64 ?l64 ?c64 ?k64);(case j64=>k_is);(case l64=>k_is);(case c64=>k_is);(case k64=>k_is))
   (case a65=>(refine' My.FA.mk ?j65 ?l65 ?c65 ?k65);(case j65=>k_is);(case l65=>k_is);(case c65=>k_is);(case k65=>k_is))
   (case a66=>(refine' My.FA.mk ?j66 ?l66 ?c66 ?k66);(case j66=>k_is);(case l66=>k_is);(case c66=>k_is);(case k66=>k_is))
   (case a67=>(refine' My.FA.mk ?j67 ?l67 ?c67 ?k67);(case j67=>k_is);(case l67=>k_is);(case c67=>k_is);(case k67=>k_is))
   (case a68=>(refine' My.FA.mk ?j68 ?l68 ?c68 ?k68);(case j68=>k_is);(case l68=>k_is);(case c68=>k_is);(case k68=>k_is))
   (case a69=>(refine' My.FA.mk ?j69 ?l69 ?c69 ?k69);(case j69=>k_is);(case l69=>k_is);(case c69=>k_is);(case k69=>k_is))
   (case a70=>(refine' My.FA.mk ?j70 ?l70 ?c70 ?k70);(case j70=>k_is);(case l70=>k_is);(case c70=>k_is);(case k70=>k_is))
   (case a71=>(refine' My.FA.mk ?j71 ?l71 ?c71 ?k71);(case j71=>k_is);(case l71=>k_is);(case c71=>k_is);(case k71=>k_is))
   (case a72=>(refine' My.FA.mk ?j72 ?l72 ?c72 ?k72);(case j72=>k_is);(case l72=>k_is);(case c72=>k_is);(case k72=>k_is))
   (case q0=>k_is)
   (case r0=>k_is)
   (case t0=>rfl)
   (case y0=>rfl)
   (case u0=>rfl)
   (case v0=>repeat (first|exact L2.dX|refine L2.bK rfl ?_|refine L2.bK ⟨_,rfl⟩ ?_))
   (case q1=>k_is)
   (case q2=>k_is)
   (case q3=>k_is)
   (case q4=>k_is)
   (case r4=>k_is)
   (case t4=>rfl)
   (case y4=>rfl)
   (case u4=>rfl)
   (case v4=>repeat (first|exact L2.dX|refine L2.bK rfl ?_|refine L2.bK ⟨_,rfl⟩ ?_))
   (case q5=>k_is)
   (case r5=>k_is)
   (case t5=>rfl)
   (case y5=>rfl)
   (case u5=>rfl)
   (case v5=>repeat (first|exact L2.dX|refine L2.bK rfl ?_|refine L2.bK ⟨_,rfl⟩ ?_))
   (case q6=>k_is)
   (case r6=>k_is)
   (case t6=>rfl)
   (case y6=>rfl)
   (case u6=>rfl)
   (case v6=>repeat (first|exact L2.dX|refine L2.bK rfl ?_|refine L2.bK ⟨_,rfl⟩ ?_))
   (case q7=>k_is)
   (case q8=>k_is)
   (case q9=>k_is)
   (case q10=>k_is)
   (case q11=>k_is)
   (case q12=>k_is)
   (case q13=>k_is)
   (case q14=>k_is)
   (case r14=>k_is)
   (case x14=>exact ⟨rfl,rfl,rfl⟩)
   (case o14=>first|rfl|decide +kernel)
   (case u14=>rfl)
   (case h14=>intro P;repeat (first|exact L2.PH.nil|refine L2.PH.cons rfl rfl rfl ?_))
   (case r14_0=>k_is)
   (case t14_0=>rfl)
   (case y14_0=>rfl)
   (case u14_0=>rfl)
   (case v14_0=>repeat (first|exact L2.dX|refine L2.bK rfl ?_|refine L2.bK ⟨_,rfl⟩ ?_))
   (case r14_1=>k_is)
   (case t14_1=>rfl)
   (case y14_1=>rfl)
   (case u14_1=>rfl)
   (case v14_1=>repeat (first|exact L2.dX|refine L2.bK rfl ?_|refine L2.bK ⟨_,rfl⟩ ?_))
   (case r14_2=>k_is)
   (case t14_2=>rfl)
   (case y14_2=>rfl)
   (case u14_2=>rfl)
   (case v14_2=>repeat (first|exact L2.dX|refine L2.bK rfl ?_|refine L2.bK ⟨_,rfl⟩ ?_))
   (case r14_3=>k_is)
   (case t14_3=>rfl)
   (case y14_3=>rfl)
   (case u14_3=>rfl)
   (case v14_3=>repeat (first|exact L2.dX|refine L2.bK rfl ?_|refine L2.bK ⟨_,rfl⟩ ?_))
   (case r14_4=>k_is)
   (case t14_4=>rfl)
   (case y14_4=>rfl)
   (case u14_4=>rfl)
   (case v14_4=>repeat (first|exact L2.dX|refine L2.bK rfl ?_|refine L2.bK ⟨_,rfl⟩ ?_))
   (case r14_5=>k_is)
   (case t14_5=>rfl)
   (case y14_5=>rfl)
   (case u14_5=>rfl)
   (case v14_5=>repeat (first|exact L2.dX|refine L2.bK rfl ?_|refine L2.bK ⟨_,rfl⟩ ?_))
   (case r14_6=>k_is)
   (case t14_6=>rfl)
   (case y14_6=>rfl)
   (case u14_6=>rfl)
   (case v14_6=>repeat (first|exact L2.dX|refine L2.bK rfl ?_|refine L2.bK ⟨_,rfl⟩ ?_))
   (case z0=>k_is)
   (case z1=>k_is)
   (case z2=>k_is)
   (case z3=>k_is)
   (case z4=>k_is)
   (case z5=>k_is)
   (case z6=>k_is)
   (case z7=>k_is)
   (case z8=>k_is)
   (case z9=>k_is)
   (case z10=>k_is)
   (case z11=>k_is)
   (case z12=>k_is)
   (case z13=>k_is)
   (case z14=>k_is)
   (case z15=>k_is)
   (case z16=>k_is)
  exact My.aY1 (P:=PySem.Challenge.rw_shardask_k16_tests_sink.prog) T hmg
